import PyProof.Rows.All
import Wide.All
import OpenK.AllK
import Wide.FinOn
import Lean
import PyProof.EqAt
import PyProof.EqKinds
import PyProof.TupleCall
import PySem.Challenge.RW_namepaths_k67_tangled_gaps
set_option Elab.async false
set_option linter.all false
set_option maxRecDepth 100000
set_option compiler.extract_closed false
set_option maxHeartbeats 1000000
noncomputable section
local macro_rules|`(def $n $s:optDeclSig $v:declVal)=>`(noncomputable def $n $s:optDeclSig $v:declVal)
abbrev Ah:=PySem.W.Frag
def AD:=@List.length_map
def AQ:=@List.getElem?_eq_getElem
def BF:=@List.length_append
def Cb:=@List.map_append
def Cd:=@List.getElem?_eq_some_iff
def CG:=@List.mem_append
def BP:=@List.getElem?_map
def Ei:=@List.mem_of_getElem?
def CU:=@List.mem_map
def BY:=@List.mem_singleton
def BR:=@List.size_toArray
def CH:=@List.mem_cons_self
def BL:=@List.mem_cons
def ED:=@List.mem_append_right
def D1:=@List.map_cons
def Dc:=@List.mem_cons_of_mem
def A7:=@List.getD_eq_getElem?_getD
def E4:=@List.take_succ
def FQ:=@List.take_length
def Ew:=@List.getElem?_append_left
def Ju:=@List.length_singleton
def EE:=@List.getElem_mem
def CA:=@List.length_take
def Dl:=@List.map_map
def D6:=@List.getElem?_append_right
def IP:=@List.take_zero
def Jv:=@List.mem_append_left
def Ej:=@List.length_cons
def Hq:=@List.nodup_cons
def E5:=@List.append_assoc
def Ex:=@List.length_drop
def Mp:=@List.mem_iff_getElem
def EF:=@List.append_nil
def G8:=@List.lookup_cons
def FZ:=@List.getElem?_eq_none
def Pl:=@List.mem_filter
def Mq:=@List.drop_eq_getElem_cons
def EG:=@List.length_nil
def Mr:=@List.map_nil
def Lh:=@List.mem_reverse
def Jw:=@List.any_eq_true
def Li:=@List.find?_cons
def Po:=@List.foldl_append
def Rr:=@List.length_filter_le
def Dd:=@Option.map_eq_some_iff
def Aw:=@Nat.le_refl
def D7:=@Nat.lt_irrefl
def CZ:=@Nat.le_of_lt
def Bu:=@Nat.ne_of_lt
def Lj:=@Nat.lt_succ_self
def A9:=@Nat.zero_le
def Jx:=@Int.emod_lt_of_pos
def IQ:=@Int.emod_nonneg
def Pp:=@Int.eq_ofNat_of_zero_le
def E6:=@Int.toNat_natCast
def B2:=@decide_eq_true
def BZ:=@decide_eq_false
def E7:=@of_decide_eq_true
def Ek:=@PySem.F.plainAttrs_list
def E8:=@PySem.F.slot_list_append
def E9:=@PySem.F.type_list_append
def B0:=@Bool.false_ne_true
def Lk:=@Nat.le_of_ble_eq_true
def C0:=@Option.some.inj
def An:=@if_neg
def Ap:=@if_pos
def D8:=@Nat.lt_of_lt_of_le
def Dm:=@Nat.le_trans
def Dn:=@Bool.false_eq_true
def IR:=@Nat.succ_pos
def Ga:=@List.filterMap_cons
def De:=@congrArg
section
open PySem PySem.Spec PyProof.Rows
def v9:=@List.getElem?_set_self
def v8:=@Nat.lt_trichotomy
def u4:=@Around.under_plainId
def u0:=@Nat.lt_or_ge
def s0:=@Heap.SameBut.update
def r9:=@Heap.get?_update_self
def r6:=@List.ext_getElem?
def r4:=@List.getElem?_set_ne
def q9:=@Heap.size_push
def q8:=@Array.getD_eq_getD_getElem?
def q2:=@Classical.byContradiction
def q0:=@List.length_replicate
def p9:=@List.length_range
def p8:=@Or.inr
def p7:=@Or.inl
def Ac:=@wpAny_bind
def Al:=@wpAny_pure
def C1:=@wpAny_holding
def El:=@wpAny_truthy_bool
def AR:=@Heap.get?_push_of_some
def AI:=@Heap.lt_size
def BG:=@Heap.get?_push_size
def CB:=@PassesOwn.never
def En:=@PySem.W.mg_none_of
def EH:=@PySem.mem_of_lookup
def NU:=@wpAny_typeOf
def Do:=@wpAny_mono
def Fa:=@wpAny_seqItems
def D9:=@wpAny_rule
end
noncomputable section
noncomputable def PySem.W.Fast.tw12393176407189110323:PySem.Program:=PySem.Challenge.pw_namepaths_k67_tangled_gaps
theorem PySem.W.Fast.te12393176407189110323:PySem.Challenge.pw_namepaths_k67_tangled_gaps=PySem.W.Fast.tw12393176407189110323:=rfl
namespace L2
open PySem PySem.Spec PyProof.Rows
noncomputable def A8 (s:Stmt):Arguments:=match s with
 |.FunctionDef _ a _ _ _ _ _ _ _ _=>a
 |_=>{posonlyargs:=[],args:=[],vararg:=none,kwonlyargs:=[],kw_defaults:=[],kwarg:=none,defaults:=[]}
noncomputable def A0 (s:Stmt):List Stmt:=match s with
 |.FunctionDef _ _ b _ _ _ _ _ _ _=>b
 |_=>[]
noncomputable def Ar (s:Stmt):Scope:=match s with
 |.FunctionDef _ _ _ _ _ _ sc _ _ _=>sc
 |_=>{kind:=.function,names:=[],isGenerator:=false,isCoroutine:=false}
section
open PySem.W PySem.W.Fast
noncomputable def Hr (p:Program) (w:World) (m₀:Nat) (ann:Option Value):Nat->SharedT->Thread->Option SharedT
 |0,_,_=>none
 | n + 1,s,t=>match through t with
   |true=>some s
   |false=>match tw6613529449190102663 m₀ ann t with
     |false=>none
     |true=>match tw10156331382660048174 (tw11892475500146522536 tw14364793385576792824) p w s t with
       |some (s',t')=>Hr p w m₀ ann n s' t'
       |none=>none
theorem Rs{p:Program}{w:World}{a:Nat}{c:Option Value}:∀{n:Nat}{s:SharedT}{t:Thread}{r:SharedT},Hr p w a c n s t=some r->topRun treeTable p w a c n s.abs t=some r.abs
 |0,_,_,_,h=>by cases h
 | n + 1,s,t,r,h=>by
   unfold Hr at h;unfold topRun;rw[<-te6613529449190102663,<-te10156331382660048174,<-te11892475500146522536,<-te14364793385576792824] at h
   cases d:through t with
   |true=>rw[d] at h;cases h;rfl
   |false=>
    rw[d] at h
    cases e:stepOk a c t with
    |false=>rw[e] at h;cases h
    |true=>
     rw[e] at h;cases b:stepT (denote treeTable) p w s t with|none=>rw[b] at h;cases h|some x=>obtain⟨f,g⟩:=x;rw[b] at h;rw[stepT_spec b];exact Rs h
noncomputable def Gb:List Obj->Nat->BT->BT
 |[],_,t=>t
 |o::l,n,t=>Gb l (n+1) (t.ins n o)
noncomputable def Rt (w:World) (os:OsState):SharedT:=⟨Gb (boot_heap w.params).objs.toList 0 .nil,11,(boot_heap w.params).life,Array.mk [],boot_drawn,boot_toks,os⟩
def Jy(w:World)(a:OsState):(Rt w a).abs=⟨boot_heap w.params,Array.mk [],boot_drawn,boot_toks,a⟩:=by kernel_rfl
def Hs(w:World):((boot_heap w.params).isNs mainGlobals && (Array.mk ([]:List GenState)).size==0,(boot_heap w.params).objs.size,(boot_heap w.params).nsMap mainGlobals "__annotations__")=(true,11,some (Value.ref 6)):=by kernel_rfl
noncomputable def runC (p:Program) (w:World) (os:OsState):Option Shared:=(Hr p w 11 (some (Value.ref 6)) 40000 (Rt w os) (topStub p)).bind λr=>match staticsOk (tw5923862056798008813 p.main.body) (boot_heap w.params) r.abs.heap && namesBound p r.abs.heap && gensDone r.abs && laidKept (boot_heap w.params) r.abs.heap with
 |true=>some r.abs
 |false=>none
def Um{p q:Program}{loose:List Str}{Xt:Shared->Bool}{α:Type}{Yf:Shared->α}{Ya:World->α}(e:opening p=plainProg p.main.scope.names)(f:∀s,fenceModules? p s=some s)
 (A:∀(w:World)(c:OsState),Option.map (λs=>tw4187177175401517315 q loose (tw5923862056798008813 p.main.body) Xt true s) (runC p w c)=some (openGood q loose))
 (B:∀(w:World)(c:OsState),Option.map Yf (runC p w c)=some (Ya w)):LeftO p q loose Xt Yf Ya 40000:=by
 intro w;obtain⟨⟨h,j,d,k,c⟩,l,m⟩:=Dd.mp (boot_open (N:=40000) e (Eq.refl true) f w);obtain⟨rfl,rfl,rfl,rfl⟩:h=boot_heap w.params/\j=Array.mk []/\d=boot_drawn/\k=boot_toks:=by simpa using m
 obtain⟨n,o,u⟩:_/\_/\_:=by simpa only[Prod.mk.injEq] using Hs w
 have a:=A w c;have b:=B w c;obtain⟨v,g,i⟩:=Dd.mp a;rw[g] at b;have x:=C0 b;unfold runC at g;rw[<-te5923862056798008813] at g;rw[<-te4187177175401517315,<-te5923862056798008813] at i;obtain⟨C,y,z⟩:=Option.bind_eq_some_iff.mp g;have r:=Rs y;rw[Jy w c] at r;have t:topFrom treeTable p w 40000 ⟨boot_heap w.params,Array.mk [],boot_drawn,boot_toks,c⟩=some v:=(by unfold topFrom;dsimp only;rw[n,o,u,r];exact z);unfold openEnds;rw[l];show(topFrom treeTable p w 40000 _).map _=_;rw[t];exact De some (Prod.ext i x)
end
end L2
namespace K67
open PySem PySem.Spec PyProof.Rows PySem.W L2
noncomputable def top (i:Nat):Stmt:=PySem.Challenge.pw_namepaths_k67_tangled_gaps.main.body.getD i (.Pass ⟨0,0,0,0⟩)
noncomputable def Ru:Stmt->Nat->Stmt
 |.ClassDef _ _ _ body _ _ _ _ _ _ _,j=>body.getD j (.Pass ⟨0,0,0,0⟩)
 |s,_=>s
abbrev Ll:Stmt:=top 70
abbrev Lm:Stmt:=top 72
abbrev Ln:Stmt:=top 69
abbrev Lo:Stmt:=top 39
abbrev Jz:Stmt:=top 42
abbrev Lp:Stmt:=top 41
abbrev JA:Stmt:=top 20
abbrev Lq:Stmt:=top 40
abbrev Lr:Stmt:=top 19
abbrev Lu:Stmt:=top 21
abbrev Lv:Stmt:=top 43
abbrev Lw:Stmt:=top 45
abbrev Lx:Stmt:=top 44
abbrev Ly:Stmt:=top 29
abbrev Lz:Stmt:=top 30
abbrev LA:Stmt:=top 28
abbrev LB:Stmt:=top 26
abbrev JB:Stmt:=top 46
abbrev JC:Stmt:=top 36
abbrev LC:Stmt:=top 75
abbrev JD:Stmt:=top 76
abbrev LD:Stmt:=top 37
abbrev LF:Stmt:=top 3
abbrev LG:Stmt:=top 1
abbrev LH:Stmt:=top 2
abbrev LI:Stmt:=top 53
abbrev JE:Stmt:=top 52
abbrev JF:Stmt:=top 49
abbrev LJ:Stmt:=top 51
abbrev JG:Stmt:=top 67
abbrev JH:Stmt:=top 56
abbrev LK:Stmt:=top 57
abbrev LL:Stmt:=top 23
abbrev LM:Stmt:=top 58
abbrev LN:Stmt:=top 62
abbrev LO:Stmt:=top 24
abbrev LP:Stmt:=top 63
abbrev LQ:Stmt:=top 64
abbrev Ht:Stmt:=top 61
abbrev LR:Stmt:=top 38
abbrev LS:Stmt:=top 50
abbrev JI:Stmt:=top 55
abbrev LU:Stmt:=top 60
abbrev JJ:Stmt:=top 66
abbrev IS:Stmt:=top 73
abbrev LV:Stmt:=top 77
abbrev Hu:Stmt:=top 71
abbrev LW:Stmt:=top 74
abbrev Fs:Stmt:=top 78
noncomputable def own:List Nat:=[1,2,3,5,7,8,9,10,11,12,13,14,15,16,18,19,20,21,23,24,26,27,28,29,30,32,33,34,35,36,37,38,39,40,41,42,43,44,45,46,48,49,50,51,52,53,55,56,57,58,60,61,62,63,64,67,69,70,71,72,73,74,75,76,77,78]
noncomputable def view:Program:=PySem.W.view PySem.Challenge.pw_namepaths_k67_tangled_gaps own
noncomputable abbrev loose:List Str:=["may_stand"]
theorem Gc:opening PySem.Challenge.pw_namepaths_k67_tangled_gaps=plainProg (PySem.Challenge.pw_namepaths_k67_tangled_gaps).main.scope.names:=by kernel_rfl
theorem Ft(s:Shared):fenceModules? PySem.Challenge.pw_namepaths_k67_tangled_gaps s=some s:=by kernel_rfl
inductive Fb (K:Ah):Prop where
 |mk
   {f0:Addr} {od0 an0:Option Addr} {sl0:Array (Option Value)} {oc0 kV0 dc0 pm0 cd0 ct0:Value}
   {f1:Addr} {od1 an1:Option Addr} {sl1:Array (Option Value)} {oc1 kV1 dc1 pm1 cd1 ct1:Value}
   {f2:Addr} {od2 an2:Option Addr} {sl2:Array (Option Value)} {oc2 kV2 dc2 pm2 cd2 ct2:Value}
   {f3:Addr} {od3 an3:Option Addr} {sl3:Array (Option Value)} {oc3 kV3 dc3 pm3 cd3 ct3:Value}
   {f4:Addr} {od4 an4:Option Addr} {sl4:Array (Option Value)} {oc4 kV4 dc4 pm4 cd4 ct4:Value}
   {f5:Addr} {od5 an5:Option Addr} {sl5:Array (Option Value)} {oc5 kV5 dc5 pm5 cd5 ct5:Value}
   {f6:Addr} {od6 an6:Option Addr} {sl6:Array (Option Value)} {oc6 kV6 dc6 pm6 cd6 ct6:Value}
   {f7:Addr} {od7 an7:Option Addr} {sl7:Array (Option Value)} {oc7 kV7 dc7 pm7 cd7 ct7:Value}
   {f8:Addr} {od8 an8:Option Addr} {sl8:Array (Option Value)} {oc8 kV8 dc8 pm8 cd8 ct8:Value}
   {f9:Addr} {od9 an9:Option Addr} {sl9:Array (Option Value)} {oc9 kV9 dc9 pm9 cd9 ct9:Value}
   {f10:Addr} {od10 an10:Option Addr} {sl10:Array (Option Value)} {oc10 kV10 dc10 pm10 cd10 ct10:Value}
   {f11:Addr} {od11 an11:Option Addr} {sl11:Array (Option Value)} {oc11 kV11 dc11 pm11 cd11 ct11:Value}
   {f12:Addr} {od12 an12:Option Addr} {sl12:Array (Option Value)} {oc12 kV12 dc12 pm12 cd12 ct12:Value}
   {f13:Addr} {od13 an13:Option Addr} {sl13:Array (Option Value)} {oc13 kV13 dc13 pm13 cd13 ct13:Value}
   {f14:Addr} {od14 an14:Option Addr} {sl14:Array (Option Value)} {oc14 kV14 dc14 pm14 cd14 ct14:Value}
   {f15:Addr} {od15 an15:Option Addr} {sl15:Array (Option Value)} {oc15 kV15 dc15 pm15 cd15 ct15:Value}
   {f16:Addr} {od16 an16:Option Addr} {sl16:Array (Option Value)} {oc16 kV16 dc16 pm16 cd16 ct16:Value}
   {f17:Addr} {od17 an17:Option Addr} {sl17:Array (Option Value)} {oc17 kV17 dc17 pm17 cd17 ct17:Value}
   {f18:Addr} {od18 an18:Option Addr} {sl18:Array (Option Value)} {oc18 kV18 dc18 pm18 cd18 ct18:Value}
   {f19:Addr} {od19 an19:Option Addr} {sl19:Array (Option Value)} {oc19 kV19 dc19 pm19 cd19 ct19:Value}
   {f20:Addr} {od20 an20:Option Addr} {sl20:Array (Option Value)} {oc20 kV20 dc20 pm20 cd20 ct20:Value}
   {f21:Addr} {od21 an21:Option Addr} {sl21:Array (Option Value)} {oc21 kV21 dc21 pm21 cd21 ct21:Value}
   {f22:Addr} {od22 an22:Option Addr} {sl22:Array (Option Value)} {oc22 kV22 dc22 pm22 cd22 ct22:Value}
   {f23:Addr} {od23 an23:Option Addr} {sl23:Array (Option Value)} {oc23 kV23 dc23 pm23 cd23 ct23:Value}
   {f24:Addr} {od24 an24:Option Addr} {sl24:Array (Option Value)} {oc24 kV24 dc24 pm24 cd24 ct24:Value}
   {f25:Addr} {od25 an25:Option Addr} {sl25:Array (Option Value)} {oc25 kV25 dc25 pm25 cd25 ct25:Value}
   {f26:Addr} {od26 an26:Option Addr} {sl26:Array (Option Value)} {oc26 kV26 dc26 pm26 cd26 ct26:Value}
   {f27:Addr} {od27 an27:Option Addr} {sl27:Array (Option Value)} {oc27 kV27 dc27 pm27 cd27 ct27:Value}
   {f28:Addr} {od28 an28:Option Addr} {sl28:Array (Option Value)} {oc28 kV28 dc28 pm28 cd28 ct28:Value}
   {f29:Addr} {od29 an29:Option Addr} {sl29:Array (Option Value)} {oc29 kV29 dc29 pm29 cd29 ct29:Value}
   {f30:Addr} {od30 an30:Option Addr} {sl30:Array (Option Value)} {oc30 kV30 dc30 pm30 cd30 ct30:Value}
   {f31:Addr} {od31 an31:Option Addr} {sl31:Array (Option Value)} {oc31 kV31 dc31 pm31 cd31 ct31:Value}
   {f32:Addr} {od32 an32:Option Addr} {sl32:Array (Option Value)} {oc32 kV32 dc32 pm32 cd32 ct32:Value}
   {f33:Addr} {od33 an33:Option Addr} {sl33:Array (Option Value)} {oc33 kV33 dc33 pm33 cd33 ct33:Value}
   {f34:Addr} {od34 an34:Option Addr} {sl34:Array (Option Value)} {oc34 kV34 dc34 pm34 cd34 ct34:Value}
   {f35:Addr} {od35 an35:Option Addr} {sl35:Array (Option Value)} {oc35 kV35 dc35 pm35 cd35 ct35:Value}
   {f36:Addr} {od36 an36:Option Addr} {sl36:Array (Option Value)} {oc36 kV36 dc36 pm36 cd36 ct36:Value}
   {f37:Addr} {od37 an37:Option Addr} {sl37:Array (Option Value)} {oc37 kV37 dc37 pm37 cd37 ct37:Value}
   {f38:Addr} {od38 an38:Option Addr} {sl38:Array (Option Value)} {oc38 kV38 dc38 pm38 cd38 ct38:Value}
   {f39:Addr} {od39 an39:Option Addr} {sl39:Array (Option Value)} {oc39 kV39 dc39 pm39 cd39 ct39:Value}
   {f40:Addr} {od40 an40:Option Addr} {sl40:Array (Option Value)} {oc40 kV40 dc40 pm40 cd40 ct40:Value}
   {f41:Addr} {od41 an41:Option Addr} {sl41:Array (Option Value)} {oc41 kV41 dc41 pm41 cd41 ct41:Value}
   {f42:Addr} {od42 an42:Option Addr} {sl42:Array (Option Value)} {oc42 kV42 dc42 pm42 cd42 ct42:Value}
   {f43:Addr} {od43 an43:Option Addr} {sl43:Array (Option Value)} {oc43 kV43 dc43 pm43 cd43 ct43:Value}
   {f44:Addr} {od44 an44:Option Addr} {sl44:Array (Option Value)} {oc44 kV44 dc44 pm44 cd44 ct44:Value}
   {f45:Addr} {od45 an45:Option Addr} {sl45:Array (Option Value)} {oc45 kV45 dc45 pm45 cd45 ct45:Value}
   {f46:Addr} {od46 an46:Option Addr} {sl46:Array (Option Value)} {oc46 kV46 dc46 pm46 cd46 ct46:Value}
   {f47:Addr} {od47 an47:Option Addr} {sl47:Array (Option Value)} {oc47 kV47 dc47 pm47 cd47 ct47:Value}
   {f48:Addr} {od48 an48:Option Addr} {sl48:Array (Option Value)} {oc48 kV48 dc48 pm48 cd48 ct48:Value}
   {tc_LONGEST_NAME:Tok}
   {tc_MOST_BEGINNINGS:Tok}
   {tc_MOST_ENDS:Tok}
   {tc_MOST_GOES:Tok}
   {tc_MOST_PAIRS:Tok}
   {tc_MOST_STATES:Tok}
   {C_Caught C_NoName C_NoPlace C_NoRow C_NoText C_PathError C_Ring C_Tangled C_TooGreat C_Twice:Addr}
   (a0:PySem.W.nsIn K mainGlobals "_law_mix" = some (some (.ref f0))) (l0:K.lookup f0=some ⟨oc0,od0,.func (PySem.W.fnOf "_law_mix" "_law_mix" (A8 Ll) (A0 Ll) (Ar Ll) .none kV0 dc0 pm0 an0 cd0 ct0),sl0⟩) (c0:PySem.W.codeIn K cd0 "_law_mix" = true) (k0:PySem.W.keepIn K (.ref f0)=true)
   (a1:PySem.W.nsIn K mainGlobals "_law_words" = some (some (.ref f1))) (l1:K.lookup f1=some ⟨oc1,od1,.func (PySem.W.fnOf "_law_words" "_law_words" (A8 Lm) (A0 Lm) (Ar Lm) .none kV1 dc1 pm1 an1 cd1 ct1),sl1⟩) (c1:PySem.W.codeIn K cd1 "_law_words" = true) (k1:PySem.W.keepIn K (.ref f1)=true)
   (a2:PySem.W.nsIn K mainGlobals "_law_cell_at" = some (some (.ref f2))) (l2:K.lookup f2=some ⟨oc2,od2,.func (PySem.W.fnOf "_law_cell_at" "_law_cell_at" (A8 Ln) (A0 Ln) (Ar Ln) .none kV2 dc2 pm2 an2 cd2 ct2),sl2⟩) (c2:PySem.W.codeIn K cd2 "_law_cell_at" = true) (k2:PySem.W.keepIn K (.ref f2)=true)
   (a3:PySem.W.nsIn K mainGlobals "refuse_too_great" = some (some (.ref f3))) (l3:K.lookup f3=some ⟨oc3,od3,.func (PySem.W.fnOf "refuse_too_great" "refuse_too_great" (A8 Lo) (A0 Lo) (Ar Lo) .none kV3 dc3 pm3 an3 cd3 ct3),sl3⟩) (c3:PySem.W.codeIn K cd3 "refuse_too_great" = true) (k3:PySem.W.keepIn K (.ref f3)=true)
   (a4:PySem.W.nsIn K mainGlobals "labels_of" = some (some (.ref f4))) (l4:K.lookup f4=some ⟨oc4,od4,.func (PySem.W.fnOf "labels_of" "labels_of" (A8 Jz) (A0 Jz) (Ar Jz) .none kV4 dc4 pm4 an4 cd4 ct4),sl4⟩) (c4:PySem.W.codeIn K cd4 "labels_of" = true) (k4:PySem.W.keepIn K (.ref f4)=true)
   (a5:PySem.W.nsIn K mainGlobals "labels_told" = some (some (.ref f5))) (l5:K.lookup f5=some ⟨oc5,od5,.func (PySem.W.fnOf "labels_told" "labels_told" (A8 Lp) (A0 Lp) (Ar Lp) .none kV5 dc5 pm5 an5 cd5 ct5),sl5⟩) (c5:PySem.W.codeIn K cd5 "labels_told" = true) (k5:PySem.W.keepIn K (.ref f5)=true)
   (a6:PySem.W.nsIn K mainGlobals "is_name" = some (some (.ref f6))) (l6:K.lookup f6=some ⟨oc6,od6,.func (PySem.W.fnOf "is_name" "is_name" (A8 JA) (A0 JA) (Ar JA) .none kV6 dc6 pm6 an6 cd6 ct6),sl6⟩) (c6:PySem.W.codeIn K cd6 "is_name" = true) (k6:PySem.W.keepIn K (.ref f6)=true)
   (a7:PySem.W.nsIn K mainGlobals "refuse_no_names" = some (some (.ref f7))) (l7:K.lookup f7=some ⟨oc7,od7,.func (PySem.W.fnOf "refuse_no_names" "refuse_no_names" (A8 Lq) (A0 Lq) (Ar Lq) .none kV7 dc7 pm7 an7 cd7 ct7),sl7⟩) (c7:PySem.W.codeIn K cd7 "refuse_no_names" = true) (k7:PySem.W.keepIn K (.ref f7)=true)
   (a8:PySem.W.nsIn K mainGlobals "is_whole" = some (some (.ref f8))) (l8:K.lookup f8=some ⟨oc8,od8,.func (PySem.W.fnOf "is_whole" "is_whole" (A8 Lr) (A0 Lr) (Ar Lr) .none kV8 dc8 pm8 an8 cd8 ct8),sl8⟩) (c8:PySem.W.codeIn K cd8 "is_whole" = true) (k8:PySem.W.keepIn K (.ref f8)=true)
   (a9:PySem.W.nsIn K mainGlobals "is_place" = some (some (.ref f9))) (l9:K.lookup f9=some ⟨oc9,od9,.func (PySem.W.fnOf "is_place" "is_place" (A8 Lu) (A0 Lu) (Ar Lu) .none kV9 dc9 pm9 an9 cd9 ct9),sl9⟩) (c9:PySem.W.codeIn K cd9 "is_place" = true) (k9:PySem.W.keepIn K (.ref f9)=true)
   (a10:PySem.W.nsIn K mainGlobals "refuse_no_places" = some (some (.ref f10))) (l10:K.lookup f10=some ⟨oc10,od10,.func (PySem.W.fnOf "refuse_no_places" "refuse_no_places" (A8 Lv) (A0 Lv) (Ar Lv) .none kV10 dc10 pm10 an10 cd10 ct10),sl10⟩) (c10:PySem.W.codeIn K cd10 "refuse_no_places" = true) (k10:PySem.W.keepIn K (.ref f10)=true)
   (a11:PySem.W.nsIn K mainGlobals "is_one_twice" = some (some (.ref f11))) (l11:K.lookup f11=some ⟨oc11,od11,.func (PySem.W.fnOf "is_one_twice" "is_one_twice" (A8 Lw) (A0 Lw) (Ar Lw) .none kV11 dc11 pm11 an11 cd11 ct11),sl11⟩) (c11:PySem.W.codeIn K cd11 "is_one_twice" = true) (k11:PySem.W.keepIn K (.ref f11)=true)
   (a12:PySem.W.nsIn K mainGlobals "refuse_twice" = some (some (.ref f12))) (l12:K.lookup f12=some ⟨oc12,od12,.func (PySem.W.fnOf "refuse_twice" "refuse_twice" (A8 Lx) (A0 Lx) (Ar Lx) .none kV12 dc12 pm12 an12 cd12 ct12),sl12⟩) (c12:PySem.W.codeIn K cd12 "refuse_twice" = true) (k12:PySem.W.keepIn K (.ref f12)=true)
   (a13:PySem.W.nsIn K mainGlobals "worse_by_better" = some (some (.ref f13))) (l13:K.lookup f13=some ⟨oc13,od13,.func (PySem.W.fnOf "worse_by_better" "worse_by_better" (A8 Ly) (A0 Ly) (Ar Ly) .none kV13 dc13 pm13 an13 cd13 ct13),sl13⟩) (c13:PySem.W.codeIn K cd13 "worse_by_better" = true) (k13:PySem.W.keepIn K (.ref f13)=true)
   (a14:PySem.W.nsIn K mainGlobals "reached" = some (some (.ref f14))) (l14:K.lookup f14=some ⟨oc14,od14,.func (PySem.W.fnOf "reached" "reached" (A8 Lz) (A0 Lz) (Ar Lz) .none kV14 dc14 pm14 an14 cd14 ct14),sl14⟩) (c14:PySem.W.codeIn K cd14 "reached" = true) (k14:PySem.W.keepIn K (.ref f14)=true)
   (a15:PySem.W.nsIn K mainGlobals "all_that_follows" = some (some (.ref f15))) (l15:K.lookup f15=some ⟨oc15,od15,.func (PySem.W.fnOf "all_that_follows" "all_that_follows" (A8 LA) (A0 LA) (Ar LA) .none kV15 dc15 pm15 an15 cd15 ct15),sl15⟩) (c15:PySem.W.codeIn K cd15 "all_that_follows" = true) (k15:PySem.W.keepIn K (.ref f15)=true)
   (a16:PySem.W.nsIn K mainGlobals "order_of" = some (some (.ref f16))) (l16:K.lookup f16=some ⟨oc16,od16,.func (PySem.W.fnOf "order_of" "order_of" (A8 LB) (A0 LB) (Ar LB) .none kV16 dc16 pm16 an16 cd16 ct16),sl16⟩) (c16:PySem.W.codeIn K cd16 "order_of" = true) (k16:PySem.W.keepIn K (.ref f16)=true)
   (a17:PySem.W.nsIn K mainGlobals "sorted_state" = some (some (.ref f17))) (l17:K.lookup f17=some ⟨oc17,od17,.func (PySem.W.fnOf "sorted_state" "sorted_state" (A8 JB) (A0 JB) (Ar JB) .none kV17 dc17 pm17 an17 cd17 ct17),sl17⟩) (c17:PySem.W.codeIn K cd17 "sorted_state" = true) (k17:PySem.W.keepIn K (.ref f17)=true)
   (a18:PySem.W.nsIn K mainGlobals "table_of" = some (some (.ref f18))) (l18:K.lookup f18=some ⟨oc18,od18,.func (PySem.W.fnOf "table_of" "table_of" (A8 JC) (A0 JC) (Ar JC) .none kV18 dc18 pm18 an18 cd18 ct18),sl18⟩) (c18:PySem.W.codeIn K cd18 "table_of" = true) (k18:PySem.W.keepIn K (.ref f18)=true)
   (a19:PySem.W.nsIn K mainGlobals "_law_menu" = some (some (.ref f19))) (l19:K.lookup f19=some ⟨oc19,od19,.func (PySem.W.fnOf "_law_menu" "_law_menu" (A8 LC) (A0 LC) (Ar LC) .none kV19 dc19 pm19 an19 cd19 ct19),sl19⟩) (c19:PySem.W.codeIn K cd19 "_law_menu" = true) (k19:PySem.W.keepIn K (.ref f19)=true)
   (a20:PySem.W.nsIn K mainGlobals "_law_row" = some (some (.ref f20))) (l20:K.lookup f20=some ⟨oc20,od20,.func (PySem.W.fnOf "_law_row" "_law_row" (A8 JD) (A0 JD) (Ar JD) .none kV20 dc20 pm20 an20 cd20 ct20),sl20⟩) (c20:PySem.W.codeIn K cd20 "_law_row" = true) (k20:PySem.W.keepIn K (.ref f20)=true)
   (a21:PySem.W.nsIn K mainGlobals "next_state" = some (some (.ref f21))) (l21:K.lookup f21=some ⟨oc21,od21,.func (PySem.W.fnOf "next_state" "next_state" (A8 LD) (A0 LD) (Ar LD) .none kV21 dc21 pm21 an21 cd21 ct21),sl21⟩) (c21:PySem.W.codeIn K cd21 "next_state" = true) (k21:PySem.W.keepIn K (.ref f21)=true)
   (a22:PySem.W.nsIn K mainGlobals "inside_of_sort" = some (some (.ref f22))) (l22:K.lookup f22=some ⟨oc22,od22,.func (PySem.W.fnOf "inside_of_sort" "inside_of_sort" (A8 LF) (A0 LF) (Ar LF) .none kV22 dc22 pm22 an22 cd22 ct22),sl22⟩) (c22:PySem.W.codeIn K cd22 "inside_of_sort" = true) (k22:PySem.W.keepIn K (.ref f22)=true)
   (a23:PySem.W.nsIn K mainGlobals "inside" = some (some (.ref f23))) (l23:K.lookup f23=some ⟨oc23,od23,.func (PySem.W.fnOf "inside" "inside" (A8 LG) (A0 LG) (Ar LG) .none kV23 dc23 pm23 an23 cd23 ct23),sl23⟩) (c23:PySem.W.codeIn K cd23 "inside" = true) (k23:PySem.W.keepIn K (.ref f23)=true)
   (a24:PySem.W.nsIn K mainGlobals "goal" = some (some (.ref f24))) (l24:K.lookup f24=some ⟨oc24,od24,.func (PySem.W.fnOf "goal" "goal" (A8 LH) (A0 LH) (Ar LH) .none kV24 dc24 pm24 an24 cd24 ct24),sl24⟩) (c24:PySem.W.codeIn K cd24 "goal" = true) (k24:PySem.W.keepIn K (.ref f24)=true)
   (a25:PySem.W.nsIn K mainGlobals "steps_gone" = some (some (.ref f25))) (l25:K.lookup f25=some ⟨oc25,od25,.func (PySem.W.fnOf "steps_gone" "steps_gone" (A8 LI) (A0 LI) (Ar LI) .none kV25 dc25 pm25 an25 cd25 ct25),sl25⟩) (c25:PySem.W.codeIn K cd25 "steps_gone" = true) (k25:PySem.W.keepIn K (.ref f25)=true)
   (a26:PySem.W.nsIn K mainGlobals "longer_by_a_step" = some (some (.ref f26))) (l26:K.lookup f26=some ⟨oc26,od26,.func (PySem.W.fnOf "longer_by_a_step" "longer_by_a_step" (A8 JE) (A0 JE) (Ar JE) .none kV26 dc26 pm26 an26 cd26 ct26),sl26⟩) (c26:PySem.W.codeIn K cd26 "longer_by_a_step" = true) (k26:PySem.W.keepIn K (.ref f26)=true)
   (a27:PySem.W.nsIn K mainGlobals "beginnings" = some (some (.ref f27))) (l27:K.lookup f27=some ⟨oc27,od27,.func (PySem.W.fnOf "beginnings" "beginnings" (A8 JF) (A0 JF) (Ar JF) .none kV27 dc27 pm27 an27 cd27 ct27),sl27⟩) (c27:PySem.W.codeIn K cd27 "beginnings" = true) (k27:PySem.W.keepIn K (.ref f27)=true)
   (a28:PySem.W.nsIn K mainGlobals "owed_behind" = some (some (.ref f28))) (l28:K.lookup f28=some ⟨oc28,od28,.func (PySem.W.fnOf "owed_behind" "owed_behind" (A8 LJ) (A0 LJ) (Ar LJ) .none kV28 dc28 pm28 an28 cd28 ct28),sl28⟩) (c28:PySem.W.codeIn K cd28 "owed_behind" = true) (k28:PySem.W.keepIn K (.ref f28)=true)
   (a29:PySem.W.nsIn K mainGlobals "names_told" = some (some (.ref f29))) (l29:K.lookup f29=some ⟨oc29,od29,.func (PySem.W.fnOf "names_told" "names_told" (A8 JG) (A0 JG) (Ar JG) .none kV29 dc29 pm29 an29 cd29 ct29),sl29⟩) (c29:PySem.W.codeIn K cd29 "names_told" = true) (k29:PySem.W.keepIn K (.ref f29)=true)
   (a30:PySem.W.nsIn K mainGlobals "better_pairs" = some (some (.ref f30))) (l30:K.lookup f30=some ⟨oc30,od30,.func (PySem.W.fnOf "better_pairs" "better_pairs" (A8 JH) (A0 JH) (Ar JH) .none kV30 dc30 pm30 an30 cd30 ct30),sl30⟩) (c30:PySem.W.codeIn K cd30 "better_pairs" = true) (k30:PySem.W.keepIn K (.ref f30)=true)
   (a31:PySem.W.nsIn K mainGlobals "tree_of" = some (some (.ref f31))) (l31:K.lookup f31=some ⟨oc31,od31,.func (PySem.W.fnOf "tree_of" "tree_of" (A8 LK) (A0 LK) (Ar LK) .none kV31 dc31 pm31 an31 cd31 ct31),sl31⟩) (c31:PySem.W.codeIn K cd31 "tree_of" = true) (k31:PySem.W.keepIn K (.ref f31)=true)
   (a32:PySem.W.nsIn K mainGlobals "label_at" = some (some (.ref f32))) (l32:K.lookup f32=some ⟨oc32,od32,.func (PySem.W.fnOf "label_at" "label_at" (A8 LL) (A0 LL) (Ar LL) .none kV32 dc32 pm32 an32 cd32 ct32),sl32⟩) (c32:PySem.W.codeIn K cd32 "label_at" = true) (k32:PySem.W.keepIn K (.ref f32)=true)
   (a33:PySem.W.nsIn K mainGlobals "first_hider" = some (some (.ref f33))) (l33:K.lookup f33=some ⟨oc33,od33,.func (PySem.W.fnOf "first_hider" "first_hider" (A8 LM) (A0 LM) (Ar LM) .none kV33 dc33 pm33 an33 cd33 ct33),sl33⟩) (c33:PySem.W.codeIn K cd33 "first_hider" = true) (k33:PySem.W.keepIn K (.ref f33)=true)
   (a34:PySem.W.nsIn K mainGlobals "first_owed" = some (some (.ref f34))) (l34:K.lookup f34=some ⟨oc34,od34,.func (PySem.W.fnOf "first_owed" "first_owed" (A8 LN) (A0 LN) (Ar LN) .none kV34 dc34 pm34 an34 cd34 ct34),sl34⟩) (c34:PySem.W.codeIn K cd34 "first_owed" = true) (k34:PySem.W.keepIn K (.ref f34)=true)
   (a35:PySem.W.nsIn K mainGlobals "telling_at" = some (some (.ref f35))) (l35:K.lookup f35=some ⟨oc35,od35,.func (PySem.W.fnOf "telling_at" "telling_at" (A8 LO) (A0 LO) (Ar LO) .none kV35 dc35 pm35 an35 cd35 ct35),sl35⟩) (c35:PySem.W.codeIn K cd35 "telling_at" = true) (k35:PySem.W.keepIn K (.ref f35)=true)
   (a36:PySem.W.nsIn K mainGlobals "first_open" = some (some (.ref f36))) (l36:K.lookup f36=some ⟨oc36,od36,.func (PySem.W.fnOf "first_open" "first_open" (A8 LP) (A0 LP) (Ar LP) .none kV36 dc36 pm36 an36 cd36 ct36),sl36⟩) (c36:PySem.W.codeIn K cd36 "first_open" = true) (k36:PySem.W.keepIn K (.ref f36)=true)
   (a37:PySem.W.nsIn K mainGlobals "meaning" = some (some (.ref f37))) (l37:K.lookup f37=some ⟨oc37,od37,.func (PySem.W.fnOf "meaning" "meaning" (A8 LQ) (A0 LQ) (Ar LQ) .none kV37 dc37 pm37 an37 cd37 ct37),sl37⟩) (c37:PySem.W.codeIn K cd37 "meaning" = true) (k37:PySem.W.keepIn K (.ref f37)=true)
   (a38:PySem.W.nsIn K mainGlobals "met" = some (some (.ref f38))) (l38:K.lookup f38=some ⟨oc38,od38,.func (PySem.W.fnOf "met" "met" (A8 Ht) (A0 Ht) (Ar Ht) .none kV38 dc38 pm38 an38 cd38 ct38),sl38⟩) (c38:PySem.W.codeIn K cd38 "met" = true) (k38:PySem.W.keepIn K (.ref f38)=true)
   (a39:PySem.W.nsIn K mainGlobals "has_end" = some (some (.ref f39))) (l39:K.lookup f39=some ⟨oc39,od39,.func (PySem.W.fnOf "has_end" "has_end" (A8 LR) (A0 LR) (Ar LR) .none kV39 dc39 pm39 an39 cd39 ct39),sl39⟩) (c39:PySem.W.codeIn K cd39 "has_end" = true) (k39:PySem.W.keepIn K (.ref f39)=true)
   (a40:PySem.W.nsIn K mainGlobals "found_behind" = some (some (.ref f40))) (l40:K.lookup f40=some ⟨oc40,od40,.func (PySem.W.fnOf "found_behind" "found_behind" (A8 LS) (A0 LS) (Ar LS) .none kV40 dc40 pm40 an40 cd40 ct40),sl40⟩) (c40:PySem.W.codeIn K cd40 "found_behind" = true) (k40:PySem.W.keepIn K (.ref f40)=true)
   (a41:PySem.W.nsIn K mainGlobals "seen_ways" = some (some (.ref f41))) (l41:K.lookup f41=some ⟨oc41,od41,.func (PySem.W.fnOf "seen_ways" "seen_ways" (A8 JI) (A0 JI) (Ar JI) .none kV41 dc41 pm41 an41 cd41 ct41),sl41⟩) (c41:PySem.W.codeIn K cd41 "seen_ways" = true) (k41:PySem.W.keepIn K (.ref f41)=true)
   (a42:PySem.W.nsIn K mainGlobals "look_for" = some (some (.ref f42))) (l42:K.lookup f42=some ⟨oc42,od42,.func (PySem.W.fnOf "look_for" "look_for" (A8 LU) (A0 LU) (Ar LU) .none kV42 dc42 pm42 an42 cd42 ct42),sl42⟩) (c42:PySem.W.codeIn K cd42 "look_for" = true) (k42:PySem.W.keepIn K (.ref f42)=true)
   {T43:Addr} {tc43:Value} {td43:Option Addr} {tn43:Nat} {ts43:Array (Option Value)} {tk43:Tok}
   (a43:PySem.W.nsIn K mainGlobals "may_stand" = some (some (.ref f43))) (l43:K.lookup f43=some ⟨oc43,od43,.func (PySem.W.fnOf "may_stand" "may_stand" (A8 JJ) (A0 JJ) (Ar JJ) (.ref T43) kV43 dc43 pm43 an43 cd43 ct43),sl43⟩) (c43:PySem.W.codeIn K cd43 "may_stand" = true) (k43:PySem.W.keepIn K (.ref f43)=true)
   (t43:K.lookup T43=some ⟨tc43,td43,.seq #[.int 0 tk43] tn43,ts43⟩)
   (a44:PySem.W.nsIn K mainGlobals "_law_classes" = some (some (.ref f44))) (l44:K.lookup f44=some ⟨oc44,od44,.func (PySem.W.fnOf "_law_classes" "_law_classes" (A8 IS) (A0 IS) (Ar IS) .none kV44 dc44 pm44 an44 cd44 ct44),sl44⟩) (c44:PySem.W.codeIn K cd44 "_law_classes" = true) (k44:PySem.W.keepIn K (.ref f44)=true)
   (a45:PySem.W.nsIn K mainGlobals "_law_told" = some (some (.ref f45))) (l45:K.lookup f45=some ⟨oc45,od45,.func (PySem.W.fnOf "_law_told" "_law_told" (A8 LV) (A0 LV) (Ar LV) .none kV45 dc45 pm45 an45 cd45 ct45),sl45⟩) (c45:PySem.W.codeIn K cd45 "_law_told" = true) (k45:PySem.W.keepIn K (.ref f45)=true)
   (a46:PySem.W.nsIn K mainGlobals "_law_alike" = some (some (.ref f46))) (l46:K.lookup f46=some ⟨oc46,od46,.func (PySem.W.fnOf "_law_alike" "_law_alike" (A8 Hu) (A0 Hu) (Ar Hu) .none kV46 dc46 pm46 an46 cd46 ct46),sl46⟩) (c46:PySem.W.codeIn K cd46 "_law_alike" = true) (k46:PySem.W.keepIn K (.ref f46)=true)
   (a47:PySem.W.nsIn K mainGlobals "_law_many" = some (some (.ref f47))) (l47:K.lookup f47=some ⟨oc47,od47,.func (PySem.W.fnOf "_law_many" "_law_many" (A8 LW) (A0 LW) (Ar LW) .none kV47 dc47 pm47 an47 cd47 ct47),sl47⟩) (c47:PySem.W.codeIn K cd47 "_law_many" = true) (k47:PySem.W.keepIn K (.ref f47)=true)
   (a48:PySem.W.nsIn K mainGlobals "law" = some (some (.ref f48))) (l48:K.lookup f48=some ⟨oc48,od48,.func (PySem.W.fnOf "law" "law" (A8 Fs) (A0 Fs) (Ar Fs) .none kV48 dc48 pm48 an48 cd48 ct48),sl48⟩) (c48:PySem.W.codeIn K cd48 "law" = true) (k48:PySem.W.keepIn K (.ref f48)=true)
   (z_ValueError:PySem.W.nsIn K mainGlobals "ValueError" = some none)
   (z_all:PySem.W.nsIn K mainGlobals "all" = some none)
   (z_any:PySem.W.nsIn K mainGlobals "any" = some none)
   (z_bool:PySem.W.nsIn K mainGlobals "bool" = some none)
   (z_dict:PySem.W.nsIn K mainGlobals "dict" = some none)
   (z_enumerate:PySem.W.nsIn K mainGlobals "enumerate" = some none)
   (z_int:PySem.W.nsIn K mainGlobals "int" = some none)
   (z_isinstance:PySem.W.nsIn K mainGlobals "isinstance" = some none)
   (z_len:PySem.W.nsIn K mainGlobals "len" = some none)
   (z_list:PySem.W.nsIn K mainGlobals "list" = some none)
   (z_min:PySem.W.nsIn K mainGlobals "min" = some none)
   (z_range:PySem.W.nsIn K mainGlobals "range" = some none)
   (z_set:PySem.W.nsIn K mainGlobals "set" = some none)
   (z_sorted:PySem.W.nsIn K mainGlobals "sorted" = some none)
   (z_str:PySem.W.nsIn K mainGlobals "str" = some none)
   (z_tuple:PySem.W.nsIn K mainGlobals "tuple" = some none)
   (z_zip:PySem.W.nsIn K mainGlobals "zip" = some none)
   (y_LONGEST_NAME:PySem.W.nsIn K mainGlobals "LONGEST_NAME" = some (some (.int 8 tc_LONGEST_NAME)))
   (y_MOST_BEGINNINGS:PySem.W.nsIn K mainGlobals "MOST_BEGINNINGS" = some (some (.int 200 tc_MOST_BEGINNINGS)))
   (y_MOST_ENDS:PySem.W.nsIn K mainGlobals "MOST_ENDS" = some (some (.int 8 tc_MOST_ENDS)))
   (y_MOST_GOES:PySem.W.nsIn K mainGlobals "MOST_GOES" = some (some (.int 8 tc_MOST_GOES)))
   (y_MOST_PAIRS:PySem.W.nsIn K mainGlobals "MOST_PAIRS" = some (some (.int 40 tc_MOST_PAIRS)))
   (y_MOST_STATES:PySem.W.nsIn K mainGlobals "MOST_STATES" = some (some (.int 8 tc_MOST_STATES)))
   (g_Caught:PySem.W.nsIn K mainGlobals "Caught" = some (some (.ref C_Caught)))
   (g_NoName:PySem.W.nsIn K mainGlobals "NoName" = some (some (.ref C_NoName)))
   (g_NoPlace:PySem.W.nsIn K mainGlobals "NoPlace" = some (some (.ref C_NoPlace)))
   (g_NoRow:PySem.W.nsIn K mainGlobals "NoRow" = some (some (.ref C_NoRow)))
   (g_NoText:PySem.W.nsIn K mainGlobals "NoText" = some (some (.ref C_NoText)))
   (g_PathError:PySem.W.nsIn K mainGlobals "PathError" = some (some (.ref C_PathError)))
   (g_Ring:PySem.W.nsIn K mainGlobals "Ring" = some (some (.ref C_Ring)))
   (g_Tangled:PySem.W.nsIn K mainGlobals "Tangled" = some (some (.ref C_Tangled)))
   (g_TooGreat:PySem.W.nsIn K mainGlobals "TooGreat" = some (some (.ref C_TooGreat)))
   (g_Twice:PySem.W.nsIn K mainGlobals "Twice" = some (some (.ref C_Twice)))
   (x_PathError:PySem.W.excIn K C_PathError [.type "ValueError",.type "Exception",.type "BaseException",.type "object"] "ValueError.__new__" = true)
   (x_Tangled:PySem.W.excIn K C_Tangled [.type "ValueError",.type "Exception",.type "BaseException",.type "object"] "ValueError.__new__" = true)
   (hn0:PySem.W.specialIn K (.builtin "object.__class__") "__get__" = some (some (.builtin "getset_descriptor.__get__"))) (ht0:PySem.W.takesIn K (.builtin "object.__class__")=some true)
   (p_Tangled:PySem.W.findIn K (.ref C_Tangled) "__getattribute__" = some (some (.builtin "BaseException.__getattribute__"))) (pa_Tangled:PySem.W.findIn K (.ref C_Tangled) "__getattr__" = some none) (pb_Tangled:PySem.W.mroIn K C_Tangled (.type "BaseException")=some true) (q_Tangled:PySem.W.findIn K (.ref C_Tangled) "__class__" = some (some (.builtin "object.__class__"))) (m_Tangled:PySem.W.mroIn K C_Tangled (.type "object")=some true) (w_Tangled:PySem.W.subIn K (.ref C_Tangled) (.type "ValueError")=some true)
   (u_Tangled_PathError:PySem.W.mroIn K C_Tangled (.ref C_PathError)=some true)
   (r_Tangled_Caught:PySem.W.subIn K (.ref C_Tangled) (.ref C_Caught)=some false)
   (r_Tangled_NoName:PySem.W.subIn K (.ref C_Tangled) (.ref C_NoName)=some false)
   (r_Tangled_NoPlace:PySem.W.subIn K (.ref C_Tangled) (.ref C_NoPlace)=some false)
   (r_Tangled_NoRow:PySem.W.subIn K (.ref C_Tangled) (.ref C_NoRow)=some false)
   (r_Tangled_NoText:PySem.W.subIn K (.ref C_Tangled) (.ref C_NoText)=some false)
   (r_Tangled_Ring:PySem.W.subIn K (.ref C_Tangled) (.ref C_Ring)=some false)
   (r_Tangled_Tangled:PySem.W.subIn K (.ref C_Tangled) (.ref C_Tangled)=some true)
   (r_Tangled_TooGreat:PySem.W.subIn K (.ref C_Tangled) (.ref C_TooGreat)=some false)
   (r_Tangled_Twice:PySem.W.subIn K (.ref C_Tangled) (.ref C_Twice)=some false)
   (n_Tangled_Caught:(Value.ref C_Tangled==Value.ref C_Caught)=false)
   (n_Tangled_NoName:(Value.ref C_Tangled==Value.ref C_NoName)=false)
   (n_Tangled_NoPlace:(Value.ref C_Tangled==Value.ref C_NoPlace)=false)
   (n_Tangled_NoRow:(Value.ref C_Tangled==Value.ref C_NoRow)=false)
   (n_Tangled_NoText:(Value.ref C_Tangled==Value.ref C_NoText)=false)
   (n_Tangled_Ring:(Value.ref C_Tangled==Value.ref C_Ring)=false)
   (n_Tangled_TooGreat:(Value.ref C_Tangled==Value.ref C_TooGreat)=false)
   (n_Tangled_Twice:(Value.ref C_Tangled==Value.ref C_Twice)=false)
   (o_Caught:PySem.W.mroIn K C_Caught (.type "object")=some true) (t_Caught:PySem.W.typeIn K (.ref C_Caught)=some (.type "type"))
   (o_NoName:PySem.W.mroIn K C_NoName (.type "object")=some true) (t_NoName:PySem.W.typeIn K (.ref C_NoName)=some (.type "type"))
   (o_NoPlace:PySem.W.mroIn K C_NoPlace (.type "object")=some true) (t_NoPlace:PySem.W.typeIn K (.ref C_NoPlace)=some (.type "type"))
   (o_NoRow:PySem.W.mroIn K C_NoRow (.type "object")=some true) (t_NoRow:PySem.W.typeIn K (.ref C_NoRow)=some (.type "type"))
   (o_NoText:PySem.W.mroIn K C_NoText (.type "object")=some true) (t_NoText:PySem.W.typeIn K (.ref C_NoText)=some (.type "type"))
   (o_Ring:PySem.W.mroIn K C_Ring (.type "object")=some true) (t_Ring:PySem.W.typeIn K (.ref C_Ring)=some (.type "type"))
   (o_Tangled:PySem.W.mroIn K C_Tangled (.type "object")=some true) (t_Tangled:PySem.W.typeIn K (.ref C_Tangled)=some (.type "type"))
   (o_TooGreat:PySem.W.mroIn K C_TooGreat (.type "object")=some true) (t_TooGreat:PySem.W.typeIn K (.ref C_TooGreat)=some (.type "type"))
   (o_Twice:PySem.W.mroIn K C_Twice (.type "object")=some true) (t_Twice:PySem.W.typeIn K (.ref C_Twice)=some (.type "type"))
   : Fb K
theorem Uo(w:World)(a:OsState):Option.map (λs=>(Fast.tw4187177175401517315 view loose (Fast.tw5923862056798008813 PySem.Challenge.pw_namepaths_k67_tangled_gaps.main.body) (λs=>xlAt view [] s && recOk [] s) true s).1) (runC PySem.Challenge.pw_namepaths_k67_tangled_gaps w a)=some (expectedOf view):=by kernel_rfl
theorem Up(w:World)(a:OsState):Option.map (λs=>(Fast.tw4187177175401517315 view loose (Fast.tw5923862056798008813 PySem.Challenge.pw_namepaths_k67_tangled_gaps.main.body) (λs=>xlAt view [] s && recOk [] s) true s).2.1) (runC PySem.Challenge.pw_namepaths_k67_tangled_gaps w a)=some bltViewBooted:=by kernel_rfl
theorem Uq(w:World)(a:OsState):Option.map (λs=>(Fast.tw4187177175401517315 view loose (Fast.tw5923862056798008813 PySem.Challenge.pw_namepaths_k67_tangled_gaps.main.body) (λs=>xlAt view [] s && recOk [] s) true s).2.2.1) (runC PySem.Challenge.pw_namepaths_k67_tangled_gaps w a)=some true:=by kernel_rfl
theorem Ur(w:World)(a:OsState):Option.map (λs=>(Fast.tw4187177175401517315 view loose (Fast.tw5923862056798008813 PySem.Challenge.pw_namepaths_k67_tangled_gaps.main.body) (λs=>xlAt view [] s && recOk [] s) true s).2.2.2.1) (runC PySem.Challenge.pw_namepaths_k67_tangled_gaps w a)=some true:=by kernel_rfl
theorem Us(w:World)(a:OsState):Option.map (λs=>(Fast.tw4187177175401517315 view loose (Fast.tw5923862056798008813 PySem.Challenge.pw_namepaths_k67_tangled_gaps.main.body) (λs=>xlAt view [] s && recOk [] s) true s).2.2.2.2.1) (runC PySem.Challenge.pw_namepaths_k67_tangled_gaps w a)=some (pinGoodD (drecsOf view)):=by kernel_rfl
theorem Ut(w:World)(a:OsState):Option.map (λs=>(Fast.tw4187177175401517315 view loose (Fast.tw5923862056798008813 PySem.Challenge.pw_namepaths_k67_tangled_gaps.main.body) (λs=>xlAt view [] s && recOk [] s) true s).2.2.2.2.2.1) (runC PySem.Challenge.pw_namepaths_k67_tangled_gaps w a)=some (plainGoodE view (looseW view loose)):=by kernel_rfl
theorem Uu(w:World)(a:OsState):Option.map (λs=>(Fast.tw4187177175401517315 view loose (Fast.tw5923862056798008813 PySem.Challenge.pw_namepaths_k67_tangled_gaps.main.body) (λs=>xlAt view [] s && recOk [] s) true s).2.2.2.2.2.2.1) (runC PySem.Challenge.pw_namepaths_k67_tangled_gaps w a)=some (plainGoodD view loose):=by kernel_rfl
theorem Uv(w:World)(a:OsState):Option.map (λs=>(Fast.tw4187177175401517315 view loose (Fast.tw5923862056798008813 PySem.Challenge.pw_namepaths_k67_tangled_gaps.main.body) (λs=>xlAt view [] s && recOk [] s) true s).2.2.2.2.2.2.2.1) (runC PySem.Challenge.pw_namepaths_k67_tangled_gaps w a)=some (wideGood view):=by kernel_rfl
theorem Uw(w:World)(a:OsState):Option.map (λs=>(Fast.tw4187177175401517315 view loose (Fast.tw5923862056798008813 PySem.Challenge.pw_namepaths_k67_tangled_gaps.main.body) (λs=>xlAt view [] s && recOk [] s) true s).2.2.2.2.2.2.2.2) (runC PySem.Challenge.pw_namepaths_k67_tangled_gaps w a)=some (clsGoodW view loose):=by kernel_rfl
def Ms{α β γ δ ε ζ η θ ι S:Type}{f:S->α×β×γ×δ×ε×ζ×η×θ×ι}{g:α×β×γ×δ×ε×ζ×η×θ×ι}{o:Option S}(a:o.map (λs=>(f s).1)=some g.1)(b:o.map (λs=>(f s).2.1)=some g.2.1)(c:o.map (λs=>(f s).2.2.1)=some g.2.2.1)(d:o.map (λs=>(f s).2.2.2.1)=some g.2.2.2.1)(e:o.map (λs=>(f s).2.2.2.2.1)=some g.2.2.2.2.1)(h:o.map (λs=>(f s).2.2.2.2.2.1)=some g.2.2.2.2.2.1)(i:o.map (λs=>(f s).2.2.2.2.2.2.1)=some g.2.2.2.2.2.2.1)(j:o.map (λs=>(f s).2.2.2.2.2.2.2.1)=some g.2.2.2.2.2.2.2.1)(k:o.map (λs=>(f s).2.2.2.2.2.2.2.2)=some g.2.2.2.2.2.2.2.2):o.map f=some g:=by
 cases o with|none=>cases a|some s=>have a:=C0 a;have b:=C0 b;have c:=C0 c;have d:=C0 d;have e:=C0 e;have h:=C0 h;have i:=C0 i;have j:=C0 j;have k:=C0 k;exact De some (Prod.ext a (Prod.ext b (Prod.ext c (Prod.ext d (Prod.ext e (Prod.ext h (Prod.ext i (Prod.ext j (k)))))))))
theorem Gd(w:World)(a:OsState):Option.map (λs=>(Fast.tw4187177175401517315 view loose (Fast.tw5923862056798008813 PySem.Challenge.pw_namepaths_k67_tangled_gaps.main.body) (λs=>xlAt view [] s && recOk [] s) true s)) (runC PySem.Challenge.pw_namepaths_k67_tangled_gaps w a)=some (openGood view loose):=Ms (f:=λs=>(Fast.tw4187177175401517315 view loose (Fast.tw5923862056798008813 PySem.Challenge.pw_namepaths_k67_tangled_gaps.main.body) (λs=>xlAt view [] s && recOk [] s) true s)) (Uo w a) (Up w a) (Uq w a) (Ur w a) (Us w a) (Ut w a) (Uu w a) (Uv w a) (Uw w a)
end K67
abbrev A' := List (PySem.Addr × PySem.Obj)
abbrev B' := PySem.Value → PySem.Shared → Prop
local macro_rules | `(tactic| cbv) => `(tactic| try dsimp only)
abbrev f':PySem.Str:="__debug__"
abbrev j':PySem.Str:="told"
abbrev l':PySem.Str:="b"
abbrev o9:PySem.Str:="a"
abbrev p6:PySem.Str:="abcdefghijklmnopqrstuvwxyz"
abbrev D':=List Int
abbrev E':=List PySem.Value
abbrev F':=List PySem.Addr
abbrev G':=List PySem.Str
abbrev I':=List (PySem.Str × Int)
abbrev J':=Option PySem.Value
abbrev K':=Option Int
abbrev L':=Array PySem.Value
abbrev M':=List PySem.Expr
abbrev O':=List Nat
abbrev P':=Array Nat
set_option tactic.hygienic false
section
open PySem PySem.W PyProof.Rows
local macro_rules | `(tactic| o_head $H:term) => `(tactic| refine holds_open (q := K67.view) (loose := K67.loose) (Xt := fun s => xlAt K67.view [] s && recOk [] s) (XP := XL K67.view []) (Yf := Hook.obs $H) (Ya := Hook.val $H) (YP := Hook.says $H) (N := 40000) ?hl (Hook.of $H) (Hook.keeps $H) (fun s e => xl_of s (Bool.and_eq_true_iff.mp e).1) XL.keeps (by rfl) (by rfl) (by rfl) (fun s e => recFacts_of (Bool.and_eq_true_iff.mp e).2) (by rfl) (by first | assumption | decide +kernel) (by decide +kernel) ⟨rfl, rfl, rfl, rfl, rfl, by decide +kernel⟩ ?hw ?hc)
set_option maxHeartbeats 0 in
theorem K67.hd(a:∀K:Params->Frag,(∀w:World,K67.Fb (K w.params))->∀(YP:World->Heap->Prop)(d:DefRec),d.params.defaults=[]->d.name = "law" -> (∀(w:World)(h:Heap),YP w h->(K w.params).In h)->WalkO K67.view K67.loose (XL K67.view []) YP PySem.Challenge.rw_namepaths_k67_tangled_gaps.row.toRowW d [] (λf vs=>PySem.call f vs)):PySem.Challenge.rw_namepaths_k67_tangled_gaps.Holds:=by
 w_on;o_law;k_head
 case hl =>
  refine L2.Um K67.Gc K67.Ft K67.Gd λw b=>?_
  kernel_rfl
 case hw=>w_witness2
 k_fill
 refine a _ (λw=>?fx) _ _ rfl rfl (λw h Y=>PySem.W.kIn_of Y)
 case fx =>
  refine' K67.Fb.mk ?a0 ?l0 ?c0 ?k0 ?a1 ?l1 ?c1 ?k1 ?a2 ?l2 ?c2 ?k2 ?a3 ?l3 ?c3 ?k3 ?a4 ?l4 ?c4 ?k4 ?a5 ?l5 ?c5 ?k5 ?a6 ?l6 ?c6 ?k6 ?a7 ?l7 ?c7 ?k7 ?a8 ?l8 ?c8 ?k8 ?a9 ?l9 ?c9 ?k9 ?a10 ?l10 ?c10 ?k10 ?a11 ?l11 ?c11 ?k11 ?a12 ?l12 ?c12 ?k12 ?a13 ?l13 ?c13 ?k13 ?a14 ?l14 ?c14 ?k14 ?a15 ?l15 ?c15 ?k15 ?a16 ?l16 ?c16 ?k16 ?a17 ?l17 ?c17 ?k17 ?a18 ?l18 ?c18 ?k18 ?a19 ?l19 ?c19 ?k19 ?a20 ?l20 ?c20 ?k20 ?a21 ?l21 ?c21 ?k21 ?a22 ?l22 ?c22 ?k22 ?a23 ?l23 ?c23 ?k23 ?a24 ?l24 ?c24 ?k24 ?a25 ?l25 ?c25 ?k25 ?a26 ?l26 ?c26 ?k26 ?a27 ?l27 ?c27 ?k27 ?a28 ?l28 ?c28 ?k28 ?a29 ?l29 ?c29 ?k29 ?a30 ?l30 ?c30 ?k30 ?a31 ?l31 ?c31 ?k31 ?a32 ?l32 ?c32 ?k32 ?a33 ?l33 ?c33 ?k33 ?a34 ?l34 ?c34 ?k34 ?a35 ?l35 ?c35 ?k35 ?a36 ?l36 ?c36 ?k36 ?a37 ?l37 ?c37 ?k37 ?a38 ?l38 ?c38 ?k38 ?a39 ?l39 ?c39 ?k39 ?a40 ?l40 ?c40 ?k40 ?a41 ?l41 ?c41 ?k41 ?a42 ?l42 ?c42 ?k42 ?a43 ?l43 ?c43 ?k43 ?t43 ?a44 ?l44 ?c44 ?k44 ?a45 ?l45 ?c45 ?k45 ?a46 ?l46 ?c46 ?k46 ?a47 ?l47 ?c47 ?k47 ?a48 ?l48 ?c48 ?k48 ?z_ValueError ?z_all ?z_any ?z_bool ?z_dict ?z_enumerate ?z_int ?z_isinstance ?z_len ?z_list ?z_min ?z_range ?z_set ?z_sorted ?z_str ?z_tuple ?z_zip ?y_LONGEST_NAME ?y_MOST_BEGINNINGS ?y_MOST_ENDS ?y_MOST_GOES ?y_MOST_PAIRS ?y_MOST_STATES ?g_Caught ?g_NoName ?g_NoPlace ?g_NoRow ?g_NoText ?g_PathError ?g_Ring ?g_Tangled ?g_TooGreat ?g_Twice ?x_PathError ?x_Tangled ?hn0 ?ht0 ?p_Tangled ?pa_Tangled ?pb_Tangled ?q_Tangled ?m_Tangled ?w_Tangled ?u_Tangled_PathError ?r_Tangled_Caught ?r_Tangled_NoName ?r_Tangled_NoPlace ?r_Tangled_NoRow ?r_Tangled_NoText ?r_Tangled_Ring ?r_Tangled_Tangled ?r_Tangled_TooGreat ?r_Tangled_Twice ?n_Tangled_Caught ?n_Tangled_NoName ?n_Tangled_NoPlace ?n_Tangled_NoRow ?n_Tangled_NoText ?n_Tangled_Ring ?n_Tangled_TooGreat ?n_Tangled_Twice ?o_Caught ?t_Caught ?o_NoName ?t_NoName ?o_NoPlace ?t_NoPlace ?o_NoRow ?t_NoRow ?o_NoText ?t_NoText ?o_Ring ?t_Ring ?o_Tangled ?t_Tangled ?o_TooGreat ?t_TooGreat ?o_Twice ?t_Twice
  (case g_Caught=>k_is)
  (case g_NoName=>k_is)
  (case g_NoPlace=>k_is)
  (case g_NoRow=>k_is)
  (case g_NoText=>k_is)
  (case g_PathError=>k_is)
  (case g_Ring=>k_is)
  (case g_Tangled=>k_is)
  (case g_TooGreat=>k_is)
  (case g_Twice=>k_is)
  (case a0=>k_is)
  (case l0=>k_is)
  (case c0=>k_is)
  (case k0=>k_is)
  (case a1=>k_is)
  (case l1=>k_is)
  (case c1=>k_is)
  (case k1=>k_is)
  (case a2=>k_is)
  (case l2=>k_is)
  (case c2=>k_is)
  (case k2=>k_is)
  (case a3=>k_is)
  (case l3=>k_is)
  (case c3=>k_is)
  (case k3=>k_is)
  (case a4=>k_is)
  (case l4=>k_is)
  (case c4=>k_is)
  (case k4=>k_is)
  (case a5=>k_is)
  (case l5=>k_is)
  (case c5=>k_is)
  (case k5=>k_is)
  (case a6=>k_is)
  (case l6=>k_is)
  (case c6=>k_is)
  (case k6=>k_is)
  (case a7=>k_is)
  (case l7=>k_is)
  (case c7=>k_is)
  (case k7=>k_is)
  (case a8=>k_is)
  (case l8=>k_is)
  (case c8=>k_is)
  (case k8=>k_is)
  (case a9=>k_is)
  (case l9=>k_is)
  (case c9=>k_is)
  (case k9=>k_is)
  (case a10=>k_is)
  (case l10=>k_is)
  (case c10=>k_is)
  (case k10=>k_is)
  (case a11=>k_is)
  (case l11=>k_is)
  (case c11=>k_is)
  (case k11=>k_is)
  (case a12=>k_is)
  (case l12=>k_is)
  (case c12=>k_is)
  (case k12=>k_is)
  (case a13=>k_is)
  (case l13=>k_is)
  (case c13=>k_is)
  (case k13=>k_is)
  (case a14=>k_is)
  (case l14=>k_is)
  (case c14=>k_is)
  (case k14=>k_is)
  (case a15=>k_is)
  (case l15=>k_is)
  (case c15=>k_is)
  (case k15=>k_is)
  (case a16=>k_is)
  (case l16=>k_is)
  (case c16=>k_is)
  (case k16=>k_is)
  (case a17=>k_is)
  (case l17=>k_is)
  (case c17=>k_is)
  (case k17=>k_is)
  (case a18=>k_is)
  (case l18=>k_is)
  (case c18=>k_is)
  (case k18=>k_is)
  (case a19=>k_is)
  (case l19=>k_is)
  (case c19=>k_is)
  (case k19=>k_is)
  (case a20=>k_is)
  (case l20=>k_is)
  (case c20=>k_is)
  (case k20=>k_is)
  (case a21=>k_is)
  (case l21=>k_is)
  (case c21=>k_is)
  (case k21=>k_is)
  (case a22=>k_is)
  (case l22=>k_is)
  (case c22=>k_is)
  (case k22=>k_is)
  (case a23=>k_is)
  (case l23=>k_is)
  (case c23=>k_is)
  (case k23=>k_is)
  (case a24=>k_is)
  (case l24=>k_is)
  (case c24=>k_is)
  (case k24=>k_is)
  (case a25=>k_is)
  (case l25=>k_is)
  (case c25=>k_is)
  (case k25=>k_is)
  (case a26=>k_is)
  (case l26=>k_is)
  (case c26=>k_is)
  (case k26=>k_is)
  (case a27=>k_is)
  (case l27=>k_is)
  (case c27=>k_is)
  (case k27=>k_is)
  (case a28=>k_is)
  (case l28=>k_is)
  (case c28=>k_is)
  (case k28=>k_is)
  (case a29=>k_is)
  (case l29=>k_is)
  (case c29=>k_is)
  (case k29=>k_is)
  (case a30=>k_is)
  (case l30=>k_is)
  (case c30=>k_is)
  (case k30=>k_is)
  (case a31=>k_is)
  (case l31=>k_is)
  (case c31=>k_is)
  (case k31=>k_is)
  (case a32=>k_is)
  (case l32=>k_is)
  (case c32=>k_is)
  (case k32=>k_is)
  (case a33=>k_is)
  (case l33=>k_is)
  (case c33=>k_is)
  (case k33=>k_is)
  (case a34=>k_is)
  (case l34=>k_is)
  (case c34=>k_is)
  (case k34=>k_is)
  (case a35=>k_is)
  (case l35=>k_is)
  (case c35=>k_is)
  (case k35=>k_is)
  (case a36=>k_is)
  (case l36=>k_is)
  (case c36=>k_is)
  (case k36=>k_is)
  (case a37=>k_is)
  (case l37=>k_is)
  (case c37=>k_is)
  (case k37=>k_is)
  (case a38=>k_is)
  (case l38=>k_is)
  (case c38=>k_is)
  (case k38=>k_is)
  (case a39=>k_is)
  (case l39=>k_is)
  (case c39=>k_is)
  (case k39=>k_is)
  (case a40=>k_is)
  (case l40=>k_is)
  (case c40=>k_is)
  (case k40=>k_is)
  (case a41=>k_is)
  (case l41=>k_is)
  (case c41=>k_is)
  (case k41=>k_is)
  (case a42=>k_is)
  (case l42=>k_is)
  (case c42=>k_is)
  (case k42=>k_is)
  (case a43=>k_is)
  (case l43=>k_is)
  (case c43=>k_is)
  (case k43=>k_is)
  (case t43=>k_is)
  (case a44=>k_is)
  (case l44=>k_is)
  (case c44=>k_is)
  (case k44=>k_is)
  (case a45=>k_is)
  (case l45=>k_is)
  (case c45=>k_is)
  (case k45=>k_is)
  (case a46=>k_is)
  (case l46=>k_is)
  (case c46=>k_is)
  (case k46=>k_is)
  (case a47=>k_is)
  (case l47=>k_is)
  (case c47=>k_is)
  (case k47=>k_is)
  (case a48=>k_is)
  (case l48=>k_is)
  (case c48=>k_is)
  (case k48=>k_is)
  (case z_ValueError=>k_is)
  (case z_all=>k_is)
  (case z_any=>k_is)
  (case z_bool=>k_is)
  (case z_dict=>k_is)
  (case z_enumerate=>k_is)
  (case z_int=>k_is)
  (case z_isinstance=>k_is)
  (case z_len=>k_is)
  (case z_list=>k_is)
  (case z_min=>k_is)
  (case z_range=>k_is)
  (case z_set=>k_is)
  (case z_sorted=>k_is)
  (case z_str=>k_is)
  (case z_tuple=>k_is)
  (case z_zip=>k_is)
  (case y_LONGEST_NAME=>k_is)
  (case y_MOST_BEGINNINGS=>k_is)
  (case y_MOST_ENDS=>k_is)
  (case y_MOST_GOES=>k_is)
  (case y_MOST_PAIRS=>k_is)
  (case y_MOST_STATES=>k_is)
  (case x_PathError=>k_exc)
  (case x_Tangled=>k_exc)
  (case hn0=>k_is)
  (case ht0=>k_is)
  (case p_Tangled=>k_is)
  (case pa_Tangled=>k_is)
  (case pb_Tangled=>k_is)
  (case q_Tangled=>k_is)
  (case m_Tangled=>k_is)
  (case w_Tangled=>k_is)
  (case u_Tangled_PathError=>k_is)
  (case r_Tangled_Caught=>k_is)
  (case r_Tangled_NoName=>k_is)
  (case r_Tangled_NoPlace=>k_is)
  (case r_Tangled_NoRow=>k_is)
  (case r_Tangled_NoText=>k_is)
  (case r_Tangled_Ring=>k_is)
  (case r_Tangled_Tangled=>k_is)
  (case r_Tangled_TooGreat=>k_is)
  (case r_Tangled_Twice=>k_is)
  (case n_Tangled_Caught=>rfl)
  (case n_Tangled_NoName=>rfl)
  (case n_Tangled_NoPlace=>rfl)
  (case n_Tangled_NoRow=>rfl)
  (case n_Tangled_NoText=>rfl)
  (case n_Tangled_Ring=>rfl)
  (case n_Tangled_TooGreat=>rfl)
  (case n_Tangled_Twice=>rfl)
  (case o_Caught=>k_is)
  (case t_Caught=>k_is)
  (case o_NoName=>k_is)
  (case t_NoName=>k_is)
  (case o_NoPlace=>k_is)
  (case t_NoPlace=>k_is)
  (case o_NoRow=>k_is)
  (case t_NoRow=>k_is)
  (case o_NoText=>k_is)
  (case t_NoText=>k_is)
  (case o_Ring=>k_is)
  (case t_Ring=>k_is)
  (case o_Tangled=>k_is)
  (case t_Tangled=>k_is)
  (case o_TooGreat=>k_is)
  (case t_TooGreat=>k_is)
  (case o_Twice=>k_is)
  (case t_Twice=>k_is)
end
set_option Elab.async false
set_option linter.all false
set_option maxRecDepth 100000
namespace L2
open PySem PySem.Spec PyProof.Rows
abbrev A2:=Sum Int Str
def JK:A2->Value->Bool
 |.inl k,v=>Value.isInt k v
 |.inr x,v=>Value.isStrOf x v
def Pq (w:World):A2->Int
 |.inl k=>hashInt k
 |.inr x=>hashStr w x
theorem Hv:∀{k:A2}{v:Value},JK k v=true->(∃i t,k=Sum.inl i/\v=Value.int i t)\/(∃x t,k=Sum.inr x/\v=Value.str x t)
 |.inl i,v,h=>by obtain⟨t,e⟩:=Value.isInt_shape (k:=i) (v:=v) h;exact .inl ⟨i,t,rfl,e⟩
 |.inr x,v,h=>by obtain⟨t,e⟩:=Value.isStrOf_shape (x:=x) (v:=v) h;exact .inr ⟨x,t,rfl,e⟩
def Ux(i:Int)(t:Tok):JK (.inl i) (.int i t)=true:=by simp[JK,Value.isInt]
def Uy(x:Str)(t:Tok):JK (.inr x) (.str x t)=true:=by simp[JK,Value.isStrOf]
def JL(a b:Int):decide ((Sum.inl a:A2)=Sum.inl b)=(a==b):=by by_cases e:a=b;subst e;simp;have h:¬(Sum.inl a:A2)=Sum.inl b:=λq=>e (Sum.inl.inj q);rw[BZ h];exact(beq_eq_false_iff_ne.mpr e).symm
def JM(a b:Str):decide ((Sum.inr a:A2)=Sum.inr b)=decide (a=b):=by by_cases e:a=b;subst e;simp;have h:¬(Sum.inr a:A2)=Sum.inr b:=λq=>e (Sum.inr.inj q);rw[BZ h,BZ e]
def JN(a:Int)(b:Str):decide ((Sum.inl a:A2)=Sum.inr b)=false:=BZ (λq=>nomatch q)
def JO(a:Str)(b:Int):decide ((Sum.inr a:A2)=Sum.inl b)=false:=BZ (λq=>nomatch q)
def Dj (prog:Program) (w:World):PySem.KeyKind prog w A2 where
 is:=JK
 hash:=Pq w
 inj:=λv a b ha hb=>by rcases Hv ha with⟨i,t,rfl,rfl⟩|⟨x,t,rfl,rfl⟩;rcases Hv hb with⟨j,u,rfl,e⟩|⟨y,u,rfl,e⟩;injection e with e1 _;rw[e1];exact nomatch e;rcases Hv hb with⟨j,u,rfl,e⟩|⟨y,u,rfl,e⟩;exact nomatch e;injection e with e1 _;rw[e1]
 byValue:=λk v h=>by rcases Hv h with⟨i,t,rfl,rfl⟩|⟨x,t,rfl,rfl⟩<;>rfl
 pyHash:=λhv h=>by rcases Hv hv with⟨i,t,rfl,rfl⟩|⟨x,t,rfl,rfl⟩;exact wpAny_pyHash_int h;exact wpAny_pyHash_str h
 eqBool:=λhu hv h=>by rcases Hv hu with⟨i,t,rfl,rfl⟩|⟨x,t,rfl,rfl⟩;rcases Hv hv with⟨j,u,rfl,rfl⟩|⟨y,u,rfl,rfl⟩;rw[JL] at h;exact wpAny_eqBool_int h;rw[JN] at h;exact SeqAt.EqAt.int_str i t y u _ _ _ _ h;rcases Hv hv with⟨j,u,rfl,rfl⟩|⟨y,u,rfl,rfl⟩;rw[JO] at h;exact SeqAt.EqAt.str_int x t j u _ _ _ _ h;rw[JM] at h;exact wpAny_eqBool_str h
 «strs»:=λk x t v h=>by rcases Hv h with⟨i,u,rfl,e⟩|⟨y,u,rfl,e⟩;exact nomatch e;injection e with e1 _;subst e1;cases v<;>rfl
def Uz(prog:Program)(w:World)(i:Int)(t:Tok):(Dj prog w).is (.inl i) (.int i t)=true:=Ux i t
def UA(prog:Program)(w:World)(x:Str)(t:Tok):(Dj prog w).is (.inr x) (.str x t)=true:=Uy x t
inductive V where
 |non|bl (b:Bool)|int (i:Int)|str (x:Str)|byt (b:Array UInt8)|flt (b:UInt64)|ref (a:Addr)|ty (n:String)
 deriving DecidableEq
abbrev U':=Option V
abbrev R':=List V
def RelV:V->Value->Prop
 |.non,u=>u=Value.none
 |.bl b,u=>u=Value.bool b
 |.int i,u=>∃t,u=Value.int i t
 |.str x,u=>∃t,u=Value.str x t
 |.byt b,u=>∃t,u=Value.bytes b t
 |.flt b,u=>∃t,u=Value.float b t
 |.ref a,u=>u=Value.ref a
 |.ty n,u=>u=Value.type n
abbrev Am:R'->E'->Prop:=Paired RelV
def Am.length{xs:R'}{a:E'}(r:Am xs a):xs.length=a.length:=Paired.length r
theorem Am.get:∀{xs:R'}{a:E'}{i:Nat}{x:V},Am xs a->xs[i]?=some x->∃u,a[i]?=some u/\RelV x u
 |_,_,_,_,.nil,e=>by simp at e
 |_,_,0,_,.cons r _,e=>by simp at e;subst e;exact⟨_,rfl,r⟩
 |_,_,i+1,x,.cons _ t,e=>by obtain⟨u,b,c⟩:=Am.get (i:=i) (x:=x) t (by simpa using e);exact⟨u,by simpa using b,c⟩
theorem Am.set{x:V}{u:Value}(r:RelV x u):∀{xs:R'}{a:E'}(i:Nat),Am xs a->Am (xs.set i x) (a.set i u)
 |_,_,_,.nil=>.nil
 |_,_,0,.cons _ t=>.cons r t
 |_,_,i+1,.cons q t=>.cons q (Am.set r i t)
theorem Am.append:∀{xs a:R'}{b c:E'},Am xs b->Am a c->Am (xs++a) (b++c)
 |_,_,_,_,.nil,s=>s
 |_,_,_,_,.cons r t,s=>.cons r (Am.append t s)
theorem Am.take:∀{xs:R'}{a:E'}(n:Nat),Am xs a->Am (xs.take n) (a.take n)
 |_,_,0,_=>.nil
 |_,_,_+1,.nil=>.nil
 |_,_,n+1,.cons r t=>.cons r (Am.take n t)
theorem Am.drop:∀{xs:R'}{a:E'}(n:Nat),Am xs a->Am (xs.drop n) (a.drop n)
 |_,_,0,r=>r
 |_,_,_+1,.nil=>.nil
 |_,_,n+1,.cons _ t=>Am.drop n t
def Dg:U'->J'->Prop
 |some v,some u=>RelV v u
 |none,none=>True
 |_,_=>False
def KV {κ:Type}:List (κ×V)->List (κ×Value)->Prop:=Paired λ(p:κ×V)(q:κ×Value)=>p.1=q.1/\RelV p.2 q.2
def kV:A2->V
 |.inl i=>.int i
 |.inr x=>.str x
inductive HO where
 |lst (xs:R')
 |tup (xs:R')
 |dK (kvs:List (A2×V))|dT (kvs:List (List A2×V))
 |set (S:Int->Bool) (n:Nat)
 |ins (C dx:Addr) (fs:List (Str×V))
 |own (x:Addr)
 |xd (fs:List (Str×V))
 |met (f x:Addr)
 |rng (lo hi:Int)
 |frz (o:Obj) (u:HO)
 |tbl (ps:L')
 |ext (φ:Heap->Prop)
abbrev Hp:=Addr->Option HO
def upd (H:Hp) (a:Addr) (o:HO):Hp:=λb=>if b=a then some o else H b
variable {H:Hp}{a:Addr}{o:HO}
def Aa:upd H a o a=some o:=by unfold upd;rw[Ap rfl]
variable {b:Addr}
def Ax(h:b≠a):upd H a o b=H b:=by unfold upd;rw[An h]
variable {u:HO}
def Hw:upd (upd H a o) a u=upd H a u:=by
 funext b;unfold upd;split<;>rfl
def NV(h:H a=some o)(h':H b=some u)(d:o≠u):a≠b:=by intro e;subst e;rw[h] at h';exact d (C0 h')
def AM(h:H a=some o)(h':H b=none):a≠b:=by intro e;subst e;rw[h] at h';cases h'
section
variable (P:Program) (w:World)
def Ay (H:Hp) (h:Heap) (a:Addr):HO->Prop
 |.lst xs=>xs.length<=sizeLine/\∃(its:E')(n:Nat),Am xs its/\h.get? a=some {cls:=.type "list",data:=.seq its.toArray n}
 |.tup xs=>xs.length<=sizeLine/\∃its:E',Am xs its/\IsTup h a its.toArray
 |.dK kvs=>kvs.length<=sizeLine/\(a==sysModules)=false/\∃vs,KV kvs vs/\h.DictOf (Dj P w) a vs
 |.dT kvs=>kvs.length<=sizeLine/\(a==sysModules)=false/\∃xs:List (List A2×Addr×Value),
  Paired (λ(p:List A2×V)(q:List A2×Addr×Value)=>p.1=q.1/\H q.2.1=some (.tup (p.1.map kV))/\RelV p.2 q.2.2) kvs xs /\
  ∃o es ep,h.get? a=some o/\o.ExactDict/\o.data=.dict es ep/\es.toList=xs.map (entryOfKey (tupleKind (Dj P w)))/\(xs.map (·.1)).Nodup
 |.set S n=>h.SetOf (intKind P w) a S n
 |.ins C dx fs=>H dx=some (.own a)/\fs.length<=1000/\dx≠a/\h.get? a=some (PySem.W.instObj C dx) /\
  ∃i,h.Ns1 dx i/\(∀f,Dg (fs.lookup f) (i f))/\PySem.Within i (fs.map (·.1))
 |.own _=>∃o,h.get? a=some o
 |.xd fs=>∃i,h.Ns1 a i/\∀f,Dg (fs.lookup f) (i f)
 |.rng lo hi=>∃t u v,h.get? a=some {cls:=.type "range",data:=.fields #[.int lo t,.int hi u,.int 1 v]}
 |.frz o u=>h.get? a=some o/\Ay H h a u
 |.tbl ps=>h.get? a=some {cls:=.none,data:=.fields ps}
 |.met f x=>h.get? a=some (PySem.W.methodObj (.ref f) (.ref x))
 |.ext φ=>φ h/\(∃o,h.get? a=some o)/\∀h1 h2:Heap,φ h1->(∀o,h1.get? a=some o->h2.get? a=some o)->φ h2
def Ce (H:Hp) (h:Heap):Prop:=∀a o,H a=some o->Ay P w H h a o
end
section
variable {P:Program} {w:World} {H H':Hp} {h h':Heap} {a:Addr} {o:HO}
def Ay.lt(x:Ay P w H h a o):a<h.objs.size:=by
 cases o with|lst b=>obtain⟨_,_,_,_,e⟩:=x;exact AI e|tup b=>obtain⟨_,_,_,p⟩:=x;exact p.lt|dK c=>obtain⟨_,_,_,_,o,_,_,e,_⟩:=x;exact AI e|dT c=>obtain⟨_,_,_,_,o,_,_,e,_⟩:=x;exact AI e|set S n=>obtain⟨o,_,_,_,e,_⟩:=x;exact AI e|ins C d fs=>obtain⟨_,_,_,e,_⟩:=x;exact AI e|own y=>obtain⟨_,e⟩:=x;exact AI e|xd fs=>obtain⟨_,⟨_,_,_,e,_⟩,_⟩:=x;exact AI e|rng lo g=>obtain⟨_,_,_,e⟩:=x;exact AI e|frz i u=>obtain⟨e,_⟩:=x;exact AI e|tbl j=>exact AI (show h.get? a=some _ from x)|met f y=>exact AI (show h.get? a=some _ from x)|ext φ=>obtain⟨_,⟨_,e⟩,_⟩:=x;exact AI e
theorem Paired.mapP{α β:Type}{F G:α->β->Prop}:∀{c:List α}{d:List β},Paired F c d->(∀a b,F a b->G a b)->Paired G c d
 |_,_,.nil,_=>.nil
 |_,_,.cons r t,f=>.cons (f _ _ r) (Paired.mapP t f)
def Ay.stay(x:Ay P w H h a o)(k:∀b u,(b=a\/H b=some (.own a))->h.get? b=some u->h'.get? b=some u)
 (D:∀b,H b=some (.own a)->H' b=some (.own a)) (E:∀b xs,H b=some (.tup xs)->H' b=some (.tup xs)):Ay P w H' h' a o:=by
 induction o with|lst xs=>obtain⟨z,s,n,r,e⟩:=x;exact⟨z,s,n,r,k _ _ (.inl rfl) e⟩|tup xs=>obtain⟨z,s,r,g,e,c⟩:=x;exact⟨z,s,r,g,k _ _ (.inl rfl) e,c⟩|dK J=>obtain⟨z,y,F,r,g,j,l,e,c⟩:=x;exact⟨z,y,F,r,g,j,l,k _ _ (.inl rfl) e,c⟩|dT J=>obtain⟨z,y,xs,r,g,j,l,e,c⟩:=x;exact⟨z,y,xs,Paired.mapP r λp q z=>⟨z.1,E _ _ z.2.1,z.2.2⟩,g,j,l,k _ _ (.inl rfl) e,c⟩|set S n=>obtain⟨g,j,l,t,e,c⟩:=x;exact⟨g,j,l,t,k _ _ (.inl rfl) e,c⟩|ins C K fs=>obtain⟨d,z,ne,e,i,⟨m,j,l,G,c⟩,r⟩:=x;exact⟨D _ d,z,ne,k _ _ (.inl rfl) e,i,⟨m,j,l,k _ _ (.inr d) G,c⟩,r⟩|own y=>obtain⟨g,e⟩:=x;exact⟨g,k _ _ (.inl rfl) e⟩|xd fs=>obtain⟨i,⟨m,j,l,e,c⟩,r⟩:=x;exact⟨i,⟨m,j,l,k _ _ (.inl rfl) e,c⟩,r⟩|rng lo L=>obtain⟨t,u,v,e⟩:=x;exact⟨t,u,v,k _ _ (.inl rfl) e⟩|frz g u I=>obtain⟨e,q⟩:=x;exact⟨k _ _ (.inl rfl) e,I q⟩|tbl A=>have e:h.get? a=some {cls:=.none,data:=.fields A}:=x;show h'.get? a=some {cls:=.none,data:=.fields A};exact k a _ (.inl rfl) e|met f y=>have e:h.get? a=some (PySem.W.methodObj (.ref f) (.ref y)):=x;show h'.get? a=some (PySem.W.methodObj (.ref f) (.ref y));exact k a _ (.inl rfl) e|ext φ=>obtain⟨p,⟨o,e⟩,B⟩:=x;exact⟨B _ _ p λo q=>k _ _ (.inl rfl) q,⟨o,k _ _ (.inl rfl) e⟩,B⟩
def Ce.lt(x:Ce P w H h)(e:H a=some o):a<h.objs.size:=(x a o e).lt
def Ce.fresh(x:Ce P w H h)(e:h.objs.size<=a):H a=none:=by
 cases q:H a with|none=>rfl|some u=>exact absurd (D8 (x.lt q) e) (D7 _)
def Ce.kept(x:Ce P w H h)(k:∀b u,h.get? b=some u->h'.get? b=some u):Ce P w H h':=λa o e =>
 (x a o e).stay (λb u _ q=>k b u q) (λ_ q=>q) λ_ _ q=>q
def Ce.laid(x:Ce P w H h)(k:∀b u,h.get? b=some u->h'.get? b=some u)(g:h.objs.size<=a)(i:Ay P w (upd H a o) h' a o):Ce P w (upd H a o) h':=λb u e=>by have d:=x.fresh g;by_cases f:b=a;subst f;rw[Aa] at e;cases e;exact i;rw[Ax f] at e;exact(x b u e).stay (λc v _ q=>k c v q) (λc q=>by rw[Ax (AM q d)];exact q) λc j q=>by rw[Ax (AM q d)];exact q
end
def Rd (H:Hp) (a:Addr) (u:HO):Prop:=H a=some u\/∃o,H a=some (.frz o u)
variable {P:Program}{w:World}{h:Heap}
def Rd.ok(r:Rd H a u)(x:Ce P w H h):Ay P w H h a u:=by rcases r with r|⟨o,r⟩;exact x a u r;obtain⟨_,q⟩:=x a _ r;exact q
def Mt:Option HO->Prop
 |some (.lst _)=>True
 |some (.dK _)=>True
 |some (.dT _)=>True
 |some (.set _ _)=>True
 |some (.ins _ _ _)=>True
 |some (.ext _)=>True
 |_=>False
section
variable {P:Program} {w:World} {H:Hp} {h h':Heap} {x e:Addr} {o':HO}
def Ce.write(ok:Ce P w H h)(a:Mt (H x))(j:e=x\/H e=some (.own x))(k:∀b u,b≠e->h.get? b=some u->h'.get? b=some u)(o:∃u,h'.get? e=some u)
 (p:Ay P w (upd H x o') h' x o'):Ce P w (upd H x o') h':=λb u q=>by
 have m:∀c y,H c=some (.own y)->c≠x:=λc y r z=>by subst z;rw[r] at a;exact a
 have s:∀c d,H c=some (.tup d)->c≠x:=λc d r z=>by subst z;rw[r] at a;exact a
 by_cases f:b=x;subst f;rw[Aa] at q;cases q;exact p;rw[Ax f] at q;by_cases i:b=e;have l:H b=some (.own x):=(by rcases j with z|z;exact absurd (i.trans z) f;rw[i];exact z);rw[q] at l;cases l;obtain⟨v,n⟩:=o;exact⟨v,by rw[i];exact n⟩;refine(ok b u q).stay (λc v g r=>k c v ?_ r) (λc r=>by rw[Ax (m c b r)];exact r) λc d r=>by rw[Ax (s c d r)];exact r
 rcases g with rfl|g;exact i;rintro rfl;rcases j with z|z;exact m c b g z;rw[g] at z;cases z;exact f rfl
end
structure Un (fs ex:F') (H H':Hp) (h h':Heap):Prop where
 keep:∀b o,h.get? b=some o->H b=none->b∉fs->b∉ex->h'.get? b=some o
 slot:∀b o,h.get? b=some o->H b=none->b∈fs->b∉ex->∃sl,h'.get? b=some {o with slots:=sl}
 free:∀b o,h.get? b=some o->H b=none->b∉ex->H' b=none
 there:∀b o,h.get? b=some o->b∉ex->∃o',h'.get? b=some o'
 tups:∀b xs,H b=some (.tup xs)->H' b=some (.tup xs)
 frzs:∀b o u,H b=some (.frz o u)->H' b=some (.frz o u)
 tbls:∀b ps,H b=some (.tbl ps)->∃more,H' b=some (.tbl (ps++more))
section
variable {fs fs' ex ex':F'} {H Y U:Hp} {h h1 h2 h':Heap} {a x e:Addr} {o:HO}
def Un.any(u:Un fs ex H Y h h1){ob:Obj}(q:h.get? b=some ob)(n:H b=none)(a:b∉ex):∃d,h1.get? b=some {ob with slots:=d}:=by by_cases c:b∈fs;exact u.slot b ob q n c a;exact⟨ob.slots,u.keep b ob q n c a⟩
def Un.kept(k:∀b u,h.get? b=some u->h'.get? b=some u):Un fs ex H H h h':=
 ⟨λb a q _ _ _=>k b a q,λb a q _ _ _=>⟨a.slots,k b a q⟩,λ_ _ _ n _=>n,λb a q _=>⟨a,k b a q⟩,λ_ _ q=>q,λ_ _ _ q=>q,λ_ c q=>⟨#[],by rw[q];simp⟩⟩
def Un.refl:Un fs ex H H h h:=Un.kept λ_ _ q=>q
def Un.laid(k:∀b u,h.get? b=some u->h'.get? b=some u)(d:h.objs.size<=a)(c:H a=none):Un fs ex H (upd H a o) h h' where
 keep:=λb u q _ _ _=>k b u q
 slot:=λb u q _ _ _=>⟨u.slots,k b u q⟩
 free:=λb u q n _=>by rw[Ax (Bu (D8 (AI q) d))];exact n
 there:=λb u q _=>⟨u,k b u q⟩
 tups:=λb e q=>by rw[Ax (AM q c)];exact q
 frzs:=λb u e q=>by rw[Ax (AM q c)];exact q
 tbls:=λb f q=>⟨#[],by rw[Ax (AM q c),q];simp⟩
def Un.write(a:Mt (H x))(i:e=x\/H e=some (.own x))(k:∀b u,b≠e->h.get? b=some u->h'.get? b=some u)(m:∃u,h'.get? e=some u):Un fs ex H (upd H x o) h h':=by
 have d:∀b,H b=none->b≠x:=λb n z=>by subst z;rw[n] at a;exact a
 have f:∀b,H b=none->b≠e:=λb n z=>by
  subst z;rcases i with r|r;exact d b n r;rw[n] at r;cases r
 have c:∀b u,H b=some u->¬Mt (some u)->b≠x:=λb u q j z=>by subst z;rw[q] at a;exact j a
 refine⟨λb u q n _ _=>k b u (f b n) q,λb u q n _ _=>⟨u.slots,k b u (f b n) q⟩,λb u q n _=>by rw[Ax (d b n)];exact n,λb u q _=>?_,
  λb l q=>by rw[Ax (c b _ q λz=>z)];exact q,λb u l q=>by rw[Ax (c b _ q λz=>z)];exact q,λb p q=>⟨#[],by rw[Ax (c b _ q λz=>z),q];simp⟩⟩
 by_cases g:b=e;subst g;exact m;exact⟨u,k b u g q⟩
end
def G9 (h:Heap) (H:Hp):F':=(List.range h.objs.size).filter λa=>(H a).isSome
def Ea (h:Heap) (H:Hp):Heap:=PySem.W.hideAll h (G9 h H)
def UB(h:Heap)(H:Hp):(Ea h H).objs.size=h.objs.size:=PySem.W.hideAll_size _ _
def UC{o:Obj}(e:h.get? b=some o)(n:H b=none):(Ea h H).get? b=some o:=
 PySem.W.hideAll_get _ e λa=>by have q:(H b).isSome=true:=(Pl.mp a).2;rw[n] at q;simp at q
def Hx{o:Obj}(e:(Ea h H).get? b=some o):h.get? b=some o/\H b=none:=by
 have a:h.get? b=some o:=PySem.W.of_hideAll (G9 h H) e;refine⟨a,?_⟩;cases q:H b with|none=>rfl|some x=>have c:b∈G9 h H:=Pl.mpr ⟨List.mem_range.mpr (AI a),by simp[q]⟩;have z:(Ea h H).get? b=none:=PySem.W.hideAll_none (G9 h H) c;rw[z] at e;cases e
structure Mod (K:Ah) (mg:Str->J') (base:Heap):Prop where
 kin:K.In base
 glob:base.Ns mainGlobals mg
 blt:∃mb,base.Ns builtinsNs mb/\∀x:Str,x ≠ "__name__" -> mb x=bootBuiltins x
 nolimit:base.NoLimit
structure Cx where
 prog:Program
 w:World
 K:Ah
 mg:Str->J'
 base:Heap
 A:Around
 N:G'
 s₀:Shared
 H₀:Hp
 env:Env
 outer:List Env
 stack:List Env
 ex:F'
 fn:Str->Bool
 calm:Bool
 pn:A'
 xe:Value->Shared->Prop
def BM (l:List Env):F':=l.filterMap (·.frame)
abbrev Cx.fs (X:Cx):F':=BM X.outer
def Mu (sc:Scope) (x:Str):Prop:=sc.names.lookup x=some .local\/sc.names.lookup x=some .cell\/sc.names.lookup x=some .free
def Loc (sc:Scope) (x:Str):Prop:=sc.names.lookup x=some .local\/sc.names.lookup x=some .cell
def Look (env:Env) (h:Heap) (m:Str->J') (x:Str) (u:Value):Prop:=
 (env.kindOf x=some .local/\m x=some u)\/((env.kindOf x=some .cell\/env.kindOf x=some .free)/\∃c,env.cells.lookup x=some c/\h.IsCell c (some u))
structure Cx.Ok (X:Cx):Prop where
 mod:Mod X.K X.mg X.base
 kind:X.env.scope.kind=.function
 glob:X.env.globals=mainGlobals
 blt:X.env.builtins=builtinsNs
 above:X.s₀.heap.objs.size<=X.env.locals
 inj:∀x y c,X.env.cells.lookup x=some c->X.env.cells.lookup y=some c->x=y
 has:∀x,(X.env.kindOf x=some .cell\/X.env.kindOf x=some .free)->∃c,X.env.cells.lookup x=some c
 cab:∀x c,X.fn x=true->X.env.cells.lookup x=some c->X.s₀.heap.objs.size<=c
 hd:X.calm=true->X.A.handled=none
 frames:X.A.frames=some X.stack
 stk:X.stack=X.outer\/(X.stack=X.env::X.outer/\X.env.frame=some X.env.locals)
 exf:∀b∈X.ex,b≠X.env.locals/\∀x c,X.env.cells.lookup x=some c->c≠b
 bs:∀b o,X.base.get? b=some o->X.s₀.heap.get? b=some o/\X.H₀ b=none
 bsz:X.base.objs.size<=X.s₀.heap.objs.size
 noex:∀b o,X.base.get? b=some o->b∉X.ex
 exfs:∀b∈X.ex,b∉X.fs
 funs:X.s₀.heap.FunFrames X.base X.outer
 frf:∀b∈X.fs,X.H₀ b=none
structure Inv (X:Cx) (pins:A') (σ:List (U')) (H:Hp) (s:Shared):Prop where
 ok:X.Ok
 os:s.os=X.s₀.os
 bare:AllBare s.gens
 base:Un X.fs X.ex X.H₀ H X.s₀.heap s.heap
 loc:∃m,s.heap.Ns X.env.locals m/\∀(i:Nat)(x:Str)(v:V),X.N[i]?=some x->σ[i]?=some (some v)->Mu X.env.scope x->∃u,RelV v u/\Look X.env s.heap m x u
 cell:∀x c,X.env.cells.lookup x=some c->∃v,s.heap.IsCell c v
 free:H X.env.locals=none
 freeC:∀x c,X.env.cells.lookup x=some c->H c=none
 pin:∀p∈X.pn++pins,s.heap.get? p.1=some p.2/\H p.1=none/\p.1≠X.env.locals/\p.1∉X.fs/\∀v,p.2.data≠.cell v
 hok:Ce X.prog X.w H s.heap
 len:σ.length=X.N.length
section
variable {X:Cx} {pins:A'} {σ:List (U')} {H H':Hp} {s:Shared} {h':Heap}
def Cx.Ok.nofr(ok:X.Ok){o:Obj}(e:X.base.get? b=some o):b∉X.fs:=λa=>by have:=(ok.funs.mem a).1;rw[e] at this;cases this
def Inv.bs(I:Inv X pins σ H s):∀b o,X.base.get? b=some o->s.heap.get? b=some o/\H b=none:=λb o e =>
 ⟨I.base.keep b o (I.ok.bs b o e).1 (I.ok.bs b o e).2 (I.ok.nofr e) (I.ok.noex b o e),I.base.free b o (I.ok.bs b o e).1 (I.ok.bs b o e).2 (I.ok.noex b o e)⟩
def Inv.bk(I:Inv X pins σ H s):∀b o,X.base.get? b=some o->s.heap.get? b=some o:=λb o e=>(I.bs b o e).1
def Inv.mod(I:Inv X pins σ H s):Mod X.K X.mg X.base:=I.ok.mod
def Inv.kIn(I:Inv X pins σ H s):X.K.In s.heap:=I.ok.mod.kin.keeps I.bk
def Inv.lt(I:Inv X pins σ H s):X.env.locals<s.heap.objs.size:=let ⟨_,a,_⟩:=I.loc;a.lt
def Inv.sz(I:Inv X pins σ H s):X.s₀.heap.objs.size<=s.heap.objs.size:=Dm I.ok.above (CZ I.lt)
def Inv.nofs(I:Inv X pins σ H s)(h:s.heap.objs.size<=a):a∉X.fs:=λb=>by obtain⟨_,o,c,_⟩:=I.ok.funs.mem b;exact absurd (D8 (AI c) (Dm I.sz h)) (D7 _)
def Inv.cne(I:Inv X pins σ H s):∀x c,X.env.cells.lookup x=some c->c≠X.env.locals:=λx c e z=>by obtain⟨v,o,a,hd⟩:=I.cell x c e;obtain⟨m,⟨f,g,h,b,d,_⟩,_⟩:=I.loc;rw[z,b] at a;cases a;rw[d] at hd;cases hd
def Inv.funs(I:Inv X pins σ H s):s.heap.FunFrames X.base X.outer:=by
 have all:∀(l:List Env),(∀b∈BM l,b∈X.fs)->X.s₀.heap.FunFrames X.base l->s.heap.FunFrames X.base l:=by
  intro l
  induction l with|nil=>intro _ _;trivial|cons p r g=>intro f h;obtain⟨i,⟨L,o,a,j,k,hd⟩,m⟩:=h;have c:L∈X.fs:=f L (by unfold BM;rw[Ga,a];exact CH);obtain⟨n,e⟩:=I.base.slot L o k (I.ok.frf L c) c λz=>I.ok.exfs L z c;exact⟨i,⟨L,_,a,j,e,hd⟩,g (λb d=>f b (by unfold BM;rw[Ga,a];exact Dc _ d)) m⟩
 exact all X.outer (λ_ d=>d) I.ok.funs
def Inv.stack(I:Inv X pins σ H s):s.heap.FunFrames X.base X.stack:=by rcases I.ok.stk with e|⟨e,a⟩;rw[e];exact I.funs;rw[e];obtain⟨m,b,_⟩:=I.loc;refine .cons (by rw[I.ok.kind];decide) a b ?_ I.funs;exact Heap.get?_none_of_le (Dm I.ok.bsz I.ok.above)
def Inv.stkSub(I:Inv X pins σ H s):∀b∈BM X.stack,b∈X.env.locals::X.fs:=λb a=>by rcases I.ok.stk with e|⟨e,c⟩;rw[e] at a;exact Dc _ a;rw[e] at a;unfold BM at a;rw[Ga,c] at a;exact a
def Inv.stkFree(I:Inv X pins σ H s):∀b∈BM X.stack,H b=none:=λb a=>by rcases BL.mp (I.stkSub b a) with e|a;rw[e];exact I.free;obtain⟨_,o,c,_⟩:=I.ok.funs.mem a;exact I.base.free b o c (I.ok.frf b a) λz=>I.ok.exfs b z a
variable {t':Nat}{ch:F'}
def Inv.step{g':Array GenState}{d':Drawn}(I:Inv X pins σ H s)
 (w:∀b∈ch,(b∈X.ex\/X.s₀.heap.objs.size<=b)/\b≠X.env.locals/\(∀x c,X.env.cells.lookup x=some c->c≠b)/\∀p∈X.pn++pins,p.1≠b)
 (keep:∀b o,b≠X.env.locals->b∉X.fs->b∉ch->s.heap.get? b=some o->H b=none->h'.get? b=some o)
 (J:∀b o,b≠X.env.locals->b∈X.fs->b∉ch->s.heap.get? b=some o->H b=none->∃C,h'.get? b=some {o with slots:=C}) (free:∀b o,b∉ch->s.heap.get? b=some o->H b=none->H' b=none)
 (there:∀b o,b∉ch->s.heap.get? b=some o->∃j,h'.get? b=some j)
 (U:∀b xs,H b=some (.tup xs)->H' b=some (.tup xs)) (V:∀b o u,H b=some (.frz o u)->H' b=some (.frz o u)) (W:∀b A,H b=some (.tbl A)->∃more,H' b=some (.tbl (A++more)))
 (L:∀m,s.heap.Ns X.env.locals m->h'.Ns X.env.locals m) (S:Ce X.prog X.w H' h') (M:AllBare g') :
 Inv X pins σ H' {s with heap:=h',gens:=g',drawn:=d',toks:=t'}:=by
 have G:∀b o,X.s₀.heap.get? b=some o->b≠X.env.locals:=λb o e=>Bu (D8 (AI e) I.ok.above)
 have B:∀b o,X.s₀.heap.get? b=some o->b∉X.ex->b∉ch:=λb o e a g=>by
  rcases(w b g).1 with z|z;exact a z;exact absurd (D8 (AI e) z) (D7 _)
 have K:∀x c,X.env.cells.lookup x=some c->∀v,s.heap.IsCell c v->h'.IsCell c v:=λx c e v⟨o,h,hd⟩=>by
  have y:c∉ch:=λz=>(w c z).2.2.1 x c e rfl;by_cases D:c∈X.fs;obtain⟨C,q⟩:=J c o (I.cne x c e) D y h (I.freeC x c e);exact⟨_,q,hd⟩;exact⟨o,keep c o (I.cne x c e) D y h (I.freeC x c e),hd⟩
 refine⟨I.ok,I.os,M,⟨λb o e n g a=>?_,λb o e n g a=>?_,λb o e n a=>?_,λb o e a=>?_,λb xs e=>U b xs (I.base.tups b xs e),λb o xs e=>V b o xs (I.base.frzs b o xs e),λb A e=>?_⟩,?_,λx c e=>?_,?_,λx c e=>?_,λp E=>?_,S,I.len⟩;exact keep b o (G b o e) g (B b o e a) (I.base.keep b o e n g a) (I.base.free b o e n a);obtain⟨C,f⟩:=I.base.slot b o e n g a;obtain⟨T,t⟩:=J b _ (G b o e) g (B b o e a) f (I.base.free b o e n a);exact⟨T,t⟩;obtain⟨j,f⟩:=I.base.there b o e a;exact free b j (B b o e a) f (I.base.free b o e n a);obtain⟨j,f⟩:=I.base.there b o e a;exact there b j (B b o e a) f;obtain⟨N,f⟩:=I.base.tbls b A e;obtain⟨O,t⟩:=W b _ f;exact⟨N++O,by rw[t,Array.append_assoc]⟩;obtain⟨m,P,Q⟩:=I.loc;refine⟨m,L m P,λi x v f t R=>?_⟩;obtain⟨u,r,l⟩:=Q i x v f t R;refine⟨u,r,?_⟩;rcases l with l|⟨k,c,e,z⟩;exact .inl l;exact .inr ⟨k,c,e,K x c e _ z⟩;obtain⟨v,z⟩:=I.cell x c e;exact⟨v,K x c e v z⟩;obtain⟨m,⟨o,_,_,h,_⟩,_⟩:=I.loc;exact free _ o (λz=>(w _ z).2.1 rfl) h I.free;obtain⟨v,o,h,hd⟩:=I.cell x c e;exact free c o (λz=>(w c z).2.2.1 x c e rfl) h (I.freeC x c e);obtain⟨e,n,ne,F,d⟩:=I.pin p E;have y:p.1∉ch:=λz=>(w p.1 z).2.2.2 p E rfl;exact⟨keep p.1 p.2 ne F y e n,free p.1 p.2 y e n,ne,F,d⟩
def Inv.un(I:Inv X pins σ H s)(u:Un X.fs [] H H' s.heap h')(i:Ce X.prog X.w H' h'):Inv X pins σ H' {s with heap:=h',toks:=t'}:=by
 obtain⟨m,⟨o,l,p,c,r⟩,_⟩:=id I.loc;obtain⟨q,f⟩:=u.any c I.free (by simp)
 exact I.step (g':=s.gens) (d':=s.drawn) (ch:=[]) (λ_ z=>nomatch z) (λb o _ a _ e n=>u.keep b o e n a (by simp)) (λb o _ a _ e n=>u.slot b o e n a (by simp)) (λb o _ e n=>u.free b o e n (by simp)) (λb o _ e=>u.there b o e (by simp)) u.tups u.frzs u.tbls (λt g=>by
  obtain⟨v,j,k,d,h⟩:=g;rw[c] at d;cases d;exact⟨_,j,k,f,h⟩) i I.bare
def Inv.call{g':Array GenState}{d':Drawn}(I:Inv X pins σ H s)(u:Un (BM X.stack) ch H H' s.heap h')(q:Ce X.prog X.w H' h')(i:AllBare g')
 (g:∀b∈ch,(b∈X.ex\/X.s₀.heap.objs.size<=b)/\b≠X.env.locals/\(∀x c,X.env.cells.lookup x=some c->c≠b)/\∀p∈X.pn++pins,p.1≠b) :
 Inv X pins σ H' {s with heap:=h',gens:=g',drawn:=d',toks:=t'}:=by
 obtain⟨m,⟨o,w,y,f,r⟩,_⟩:=id I.loc;obtain⟨A,d⟩:=u.any f I.free λz=>(g _ z).2.1 rfl
 exact I.step (ch:=ch) g (λb o d j a e n=>u.keep b o e n (λz=>(BL.mp (I.stkSub b z)).elim d j) a) (λb o _ _ a e n=>u.any e n a) (λb o a e n=>u.free b o e n a) (λb o a e=>u.there b o e a) u.tups u.frzs u.tbls (λB k=>by
  obtain⟨C,t,v,h,l⟩:=k;rw[f] at h;cases h;exact⟨_,t,v,d,l⟩) q i
def Inv.turned{a:Addr}(I:Inv X pins σ H s)(k:∀b o,b≠a->s.heap.get? b=some o->h'.get? b=some o)(h:H a=none)(f:a≠X.env.locals)
 (i:a∈X.ex\/X.s₀.heap.objs.size<=a) (j:∀x c,X.env.cells.lookup x=some c->c≠a) (l:∀p∈X.pn++pins,p.1≠a):Inv X pins σ H {s with heap:=h',toks:=t'}:=by
 have g:∀b u,H b=some u->b≠a:=λb u e z=>by rw[z,h] at e;cases e
 refine I.step (g':=s.gens) (d':=s.drawn) (ch:=[a]) (λb t=>?_) (λb o _ _ d e _=>k b o (λz=>d (by simp[z])) e) (λb o _ _ d e _=>⟨o.slots,k b o (λz=>d (by simp[z])) e⟩) (λ_ _ _ _ n=>n)
  (λb o d e=>⟨o,k b o (λz=>d (by simp[z])) e⟩) (λ_ _ e=>e) (λ_ _ _ e=>e) (λb C e=>⟨#[],by rw[e];simp⟩) (λm w=>?_) (λb u e=>?_) I.bare
 have e:b=a:=(by simpa using t);subst e;exact⟨i,f,j,l⟩;obtain⟨o,y,A,B,r⟩:=w;exact⟨o,y,A,k _ o (Ne.symm f) B,r⟩;refine(I.hok b u e).stay (λc v d q=>k c v ?_ q) (λ_ q=>q) λ_ _ q=>q;rcases d with z|z;rw[z];exact g b u e;exact g c _ z
def Inv.tok(I:Inv X pins σ H s)(t:Nat):Inv X pins σ H {s with toks:=t}:=I.un (h':=s.heap) (t':=t) Un.refl I.hok
def Inv.kept{t':Nat}(I:Inv X pins σ H s)(k:∀b u,s.heap.get? b=some u->h'.get? b=some u):Inv X pins σ H {s with heap:=h',toks:=t'}:=I.un (Un.kept k) (I.hok.kept k)
def Inv.laid{a:Addr}{o:HO}{t':Nat}(I:Inv X pins σ H s)(k:∀b u,s.heap.get? b=some u->h'.get? b=some u)(c:s.heap.objs.size<=a)(d:Ay X.prog X.w (upd H a o) h' a o) :
 Inv X pins σ (upd H a o) {s with heap:=h',toks:=t'}:=I.un (Un.laid k c (I.hok.fresh c)) (I.hok.laid k c d)
def Inv.write{x e:Addr}{o:HO}{t':Nat}(I:Inv X pins σ H s)(a:Mt (H x))(c:e=x\/H e=some (.own x))(k:∀b u,b≠e->s.heap.get? b=some u->h'.get? b=some u)(d:∃u,h'.get? e=some u)
 (f:Ay X.prog X.w (upd H x o) h' x o):Inv X pins σ (upd H x o) {s with heap:=h',toks:=t'}:=I.un (Un.write a c k d) (I.hok.write a c k d f)
def Inv.pins_of{a:A'}(I:Inv X pins σ H s)(h:∀p∈a,s.heap.get? p.1=some p.2/\H p.1=none/\p.1≠X.env.locals/\p.1∉X.fs/\∀v,p.2.data≠.cell v):Inv X a σ H s:=
 ⟨I.ok,I.os,I.bare,I.base,I.loc,I.cell,I.free,I.freeC,λp b=>(CG.mp b).elim (λz=>I.pin p (Jv _ z)) (h p),I.hok,I.len⟩
variable {i:Nat}{x:Str}
def Pr{N:G'}(c:N.Nodup){j:Nat}(a:N[i]?=some x)(b:N[j]?=some x):i=j:=by obtain⟨f,d⟩:=Cd.mp a;obtain⟨g,e⟩:=Cd.mp b;exact(List.getElem_inj c).mp (d.trans e.symm)
def Rv{M:Model}{A:Around}{E:B'}{v:V}{u:Value}{Q:Unit->Shared->Prop}(I:Inv X pins σ H s)(W:X.N.Nodup)(hi:X.N[i]?=some x)(m:Loc X.env.scope x)(r:RelV v u)
 (h:∀G,Inv X pins (σ.set i (some v)) H G->(∃a,Heap.SameBut a s.heap G.heap/\(a=X.env.locals\/X.env.cells.lookup x=some a))->Q () G) (hf:X.fn x=true\/X.env.scope.names.lookup x=some .local:=by first|exact .inl rfl|exact .inr rfl|assumption):wpAny M A (storeName X.env x u) Q E s:=by
 obtain⟨ai,J,Y⟩:=id I.loc;have al:(X.env.scope.kind==.class || (X.env.scope.kind==.module && X.env.locals != X.env.globals))=false:=by rw[I.ok.kind];rfl
 have aa:i<σ.length:=by rw[I.len];exact(Cd.mp hi).1
 have cne:=I.cne
 have ah:∀{a:Addr}{h':Heap},(∃o,s.heap.get? a=some o/\H a=none)->Heap.SameBut a s.heap h'->Ce X.prog X.w H h':=λ{a h'}ha f b ob e=>by
  obtain⟨_,_,ag⟩:=ha;refine(I.hok b ob e).stay (λc D l q=>(f.2 c ?_).trans q) (λ_ q=>q) λ_ _ q=>q;rintro rfl;rcases l with rfl|l;rw[ag] at e;cases e;rw[ag] at l;cases l
 rcases m with w|w;refine wpAny_storeName_local w J (λh' aj f=>?_) al;obtain⟨oL,_,_,ak,_⟩:=id J;refine h _ ⟨I.ok,I.os,I.bare,⟨λb o e n B m=>?_,λb o e n B m=>?_,I.base.free,λb o e m=>?_,I.base.tups,I.base.frzs,I.base.tbls⟩,⟨_,aj,λj y K g t L=>?_⟩,λy c e=>?_,I.free,I.freeC,λp N=>?_,ah ⟨oL,ak,I.free⟩ f,by simpa using I.len⟩ ⟨_,f,.inl rfl⟩;exact(f.2 b (Bu (D8 (AI e) I.ok.above))).trans (I.base.keep b o e n B m);obtain⟨O,g⟩:=I.base.slot b o e n B m;exact⟨O,(f.2 b (Bu (D8 (AI e) I.ok.above))).trans g⟩;obtain⟨P,g⟩:=I.base.there b o e m;exact⟨P,(f.2 b (Bu (D8 (AI e) I.ok.above))).trans g⟩;by_cases C:j=i;subst C;rw[hi] at g;cases g;rw[v9 aa] at t;cases t;exact⟨u,r,.inl ⟨w,by simp⟩⟩;rw[r4 (Ne.symm C)] at t;obtain⟨R,S,q⟩:=Y j y K g t L;refine⟨R,S,?_⟩;rcases q with⟨k,e⟩|⟨k,c,e,z⟩;refine .inl ⟨k,?_⟩;have:y≠x:=λe=>C (Pr W g (e▸hi));simp[this,e];exact .inr ⟨k,c,e,z.sameBut f (cne y c e)⟩;obtain⟨D,z⟩:=I.cell y c e;exact⟨D,z.sameBut f (cne y c e)⟩;obtain⟨e,n,ne,T,d⟩:=I.pin p N;exact⟨(f.2 p.1 ne).trans e,n,ne,T,d⟩;have U:X.fn x=true:=(by rcases hf with z|z;exact z;rw[z] at w;cases w);obtain⟨c,l⟩:=I.ok.has x (.inl w);obtain⟨D,z⟩:=I.cell x c l;refine wpAny_storeName_cell I.ok.kind w l z (λh' ab f=>?_);obtain⟨Z,ae,an⟩:=id z;refine h {s with heap:=h'} ⟨I.ok,I.os,I.bare,⟨λb o e n B m=>?_,λb o e n B m=>?_,I.base.free,λb o e m=>?_,I.base.tups,I.base.frzs,I.base.tbls⟩,⟨ai,J.sameBut f (Ne.symm (cne x c l)),λj y K g t L=>?_⟩,λy F e=>?_,I.free,I.freeC,λp N=>?_,ah ⟨Z,ae,I.freeC x c l⟩ f,by simpa using I.len⟩ ⟨c,f,.inr l⟩;exact(f.2 b (Bu (D8 (AI e) (I.ok.cab x c U l)))).trans (I.base.keep b o e n B m);obtain⟨O,g⟩:=I.base.slot b o e n B m;exact⟨O,(f.2 b (Bu (D8 (AI e) (I.ok.cab x c U l)))).trans g⟩;obtain⟨P,g⟩:=I.base.there b o e m;exact⟨P,(f.2 b (Bu (D8 (AI e) (I.ok.cab x c U l)))).trans g⟩;by_cases C:j=i;subst C;rw[hi] at g;cases g;rw[v9 aa] at t;cases t;exact⟨u,r,.inr ⟨.inl w,c,l,ab⟩⟩;rw[r4 (Ne.symm C)] at t;obtain⟨R,S,q⟩:=Y j y K g t L;refine⟨R,S,?_⟩;rcases q with q|⟨k,F,e,z'⟩;exact .inl q;refine .inr ⟨k,F,e,z'.sameBut f ?_⟩;rintro rfl;exact C (Pr W g (I.ok.inj _ _ _ e l▸hi));by_cases af:F=c;subst af;exact⟨_,ab⟩;obtain⟨w2,z2⟩:=I.cell y F e;exact⟨w2,z2.sameBut f af⟩;obtain⟨e,n,ne,T,d⟩:=I.pin p N;refine⟨(f.2 p.1 ?_).trans e,n,ne,T,d⟩;intro q;rw[q,ae] at e;have q':Z=p.2:=C0 e;exact d D (by rw[<-q'];exact an)
def LX{M:Model}{A:Around}{E:B'}{v:V}{u:Value}{Q:Unit->Shared->Prop}(I:Inv X pins σ H s)(b:X.N.Nodup)(hi:X.N[i]?=some x)(c:Loc X.env.scope x)(r:RelV v u)
 (h:∀a,Inv X pins (σ.set i (some v)) H a->Q () a) (d:X.fn x=true\/X.env.scope.names.lookup x=some .local:=by first|exact .inl rfl|exact .inr rfl|assumption):wpAny M A (storeName X.env x u) Q E s:=
 Rv I b hi c r (λa e _=>h a e) d
def Inv.call'{a:Shared}(I:Inv X pins σ H s)(d:a.os=s.os)(u:Un (BM X.stack) ch H H' s.heap a.heap)(h:Ce X.prog X.w H' a.heap)(f:AllBare a.gens)
 (i:∀b∈ch,(b∈X.ex\/X.s₀.heap.objs.size<=b)/\b≠X.env.locals/\(∀x c,X.env.cells.lookup x=some c->c≠b)/\∀p∈X.pn++pins,p.1≠b):Inv X pins σ H' a:=by
 obtain⟨h',g',d',t',g⟩:=a;have e:g=s.os:=d;subst e;exact I.call (g':=g') (t':=t') (d':=d') u h f i
end
abbrev XK:=Value->Option Addr->Hp->Prop
abbrev St:=List (Option V)
abbrev VK:=V->Hp->Prop
abbrev TE:=St->Hp->VK->Prop
abbrev TT:=St->Hp->(Bool->Hp->Prop)->Prop
abbrev TA:=St->Hp->(R'->Hp->Prop)->Prop
structure Ends where
 nx:St->Hp->Prop
 rt:VK
 bk:St->Hp->Prop:=λ_ _=>False
 ct:St->Hp->Prop:=λ_ _=>False
abbrev TS:=Ends->St->Hp->Prop
def EP (X:Cx) (pins:A') (σ:St) (Q:VK) (u:Value) (s':Shared):Prop:=∃v H',Inv X pins σ H' s'/\RelV v u/\Q v H'
def TP (X:Cx) (pins:A') (σ:St) (Q:Bool->Hp->Prop) (b:Bool) (s':Shared):Prop:=∃H',Inv X pins σ H' s'/\Q b H'
def AP (X:Cx) (pins:A') (σ:St) (Q:R'->Hp->Prop) (us:E') (s':Shared):Prop:=∃vs H',Inv X pins σ H' s'/\Am vs us/\Q vs H'
def SP (X:Cx) (pins:A') (D:Ends) (f:Flow) (s':Shared):Prop:=
 match f with
 |.next=>∃σ' H',Inv X pins σ' H' s'/\D.nx σ' H'
 |.brk=>∃σ' H',Inv X pins σ' H' s'/\D.bk σ' H'
 |.cont=>∃σ' H',Inv X pins σ' H' s'/\D.ct σ' H'
 |.ret u=>∃v σ' H',Inv X pins σ' H' s'/\RelV v u/\D.rt v H'
def PE (X:Cx) (e:Expr) (t:TE):Prop:=
 ∀(pins:A')(s:Shared)(σ:St)(H:Hp)(Q:VK),Inv X pins σ H s->t σ H Q->wpAny (model X.prog X.w) X.A (eval e X.env) (EP X pins σ Q) X.xe s
def PT (X:Cx) (e:Expr) (t:TT):Prop:=
 ∀(pins:A')(s:Shared)(σ:St)(H:Hp)(Q:Bool->Hp->Prop),Inv X pins σ H s->t σ H Q->wpAny (model X.prog X.w) X.A (isTrue e X.env (eval e X.env)) (TP X pins σ Q) X.xe s
def PW (X:Cx) (e:Expr) (t:TT):Prop:=
 ∀(whole:Sem Value)(pins:A')(s:Shared)(σ:St)(H:Hp)(Q:Bool->Hp->Prop),Inv X pins σ H s->t σ H Q->wpAny (model X.prog X.w) X.A (isTrue e X.env whole) (TP X pins σ Q) X.xe s
variable {X:Cx}{e:Expr}
def PW.pt{t:TT}(h:PW X e t):PT X e t:=h _
def PA (X:Cx) (es:M') (t:TA):Prop:=
 ∀(G:Pos)(pins:A')(s:Shared)(σ:St)(H:Hp)(Q:R'->Hp->Prop),Inv X pins σ H s->t σ H Q->wpAny (model X.prog X.w) X.A (spliced (backTo G (starEach es X.env))) (AP X pins σ Q) X.xe s
def PS (X:Cx) (st:Stmt) (t:TS):Prop:=
 ∀(pins:A')(s:Shared)(σ:St)(H:Hp)(D:Ends),Inv X pins σ H s->t D σ H->wpAny (model X.prog X.w) X.A (exec st X.env) (SP X pins D) X.xe s
def DR (X:Cx) (st:List Stmt) (t:TS):Prop:=
 ∀(pins:A')(s:Shared)(σ:St)(H:Hp)(D:Ends),Inv X pins σ H s->t D σ H->wpAny (model X.prog X.w) X.A (execs st X.env) (SP X pins D) X.xe s
variable {A:Around}{E:B'}{s:Shared}
def AG{α:Type}{t:Sem α}{Q b:α->Shared->Prop}{M:Model}(h:wpAny M A t Q E s)(c:∀a s,Q a s->b a s):wpAny M A t b E s:=Do h c λ_ _ x=>x
section
variable {X:Cx}
def Cq (i:Nat):TE:=λσ H Q=>∃v,σ[i]?=some (some v)/\Q v H
def tC (v:V):TE:=λ_ H Q=>Q v H
variable {x:Str}{G:Pos}
def JP{i:Nat}(g:X.N[i]?=some x)(hv:Mu X.env.scope x)(hd:(x==f')=false:=by decide)(o:(x==("__classdict__":Str))=false:=by decide):PE X (.Name x G) (Cq i):=by intro p s σ H Q I h;obtain⟨v,e,h⟩:=h;obtain⟨m,j,k⟩:=I.loc;obtain⟨u,r,l⟩:=k i x v g e hv;have b:EP X p σ Q u s:=⟨v,H,I,r,h⟩;rcases l with⟨a,n⟩|⟨a,c,d,f⟩;exact wpAny_Name (wpAny_loadName_local I.ok.kind a j n b) hd;rcases a with a|a;exact wpAny_Name (wpAny_loadName_cell I.ok.kind a d f b) hd;exact wpAny_Name (wpAny_loadName_free I.ok.kind a d f b o) hd
def Ao{i j G}:PE X (.Constant (.int i) j G) (tC (.int i)):=λ_ _ _ H _ I h=>wpAny_Constant_int ⟨.int i,H,I.tok _,⟨_,rfl⟩,h⟩
def Mv{b j G}:PE X (.Constant (.bool b) j G) (tC (.bl b)):=λ_ _ _ H _ I h=>Constant_bool ⟨.bl b,H,I,rfl,h⟩
def Hy{j G}:PE X (.Constant .none j G) (tC .non):=λ_ _ _ H _ I h=>Constant_none ⟨.non,H,I,rfl,h⟩
def BS{x j G}:PE X (.Constant (.str x) j G) (tC (.str x)):=λ_ _ _ H _ I h=>Calls.Constant_str ⟨.str x,H,I.tok _,⟨_,rfl⟩,h⟩
def Gl (X:Cx) (x:Str):Prop:=X.env.kindOf x=some .globalImplicit
def LY{pins:A'}{σ:St}{u:Value}{Q:B'}(I:Inv X pins σ H s)(a:Gl X x)(b:X.mg x=some u)(h:Q u s)
 (hd:(x==f')=false:=by decide):wpAny (model X.prog X.w) X.A (eval (.Name x G) X.env) Q E s:=
 Calls.Name_function_global I.ok.kind a (Calls.loadGlobal_global (by rw[I.ok.glob];exact I.mod.glob.keeps I.bk) b h) hd
def IT{pins:A'}{σ:St}{u:Value}{Q:B'}(I:Inv X pins σ H s)(a:Gl X x)(b:X.mg x=none)(hv:bootBuiltins x=some u)(h:Q u s)
 (c:x ≠ "__name__" :=by decide) (hd:(x==f')=false:=by decide):wpAny (model X.prog X.w) X.A (eval (.Name x G) X.env) Q E s:=by
 obtain⟨f,d,e⟩:=I.mod.blt;exact Calls.Name_function_global I.ok.kind a (Calls.loadGlobal_builtin (by rw[I.ok.glob];exact I.mod.glob.keeps I.bk) b (by rw[I.ok.blt];exact d.keeps I.bk) ((e x c).trans hv) h) hd
def EI{v:V}{u:Value}(a:Gl X x)(b:X.mg x=some u)(r:RelV v u)(hd:(x==f')=false:=by decide):PE X (.Name x G) (tC v):=
 λ_ _ _ H _ I h=>LY I a b ⟨v,H,I,r,h⟩ hd
def Hz{v:V}{u:Value}(a:Gl X x)(b:X.mg x=none)(hv:bootBuiltins x=some u)(r:RelV v u)(c:x ≠ "__name__" :=by decide)(hd:(x==f')=false:=by decide):PE X (.Name x G) (tC v):=
 λ_ _ _ H _ I h=>IT I a b hv ⟨v,H,I,r,h⟩ c hd
variable {a b:Expr} {B tb:TE} {G:Pos}
def PC (X:Cx) (op:CmpOp) (a b:Expr) (t:TE):Prop:=
 ∀(pins:A')(s:Shared)(σ:St)(H:Hp)(Q:VK),Inv X pins σ H s->t σ H Q ->
  wpAny (model X.prog X.w) X.A (eval a X.env) (λv s₁=>wpAny (model X.prog X.w) X.A (eval b X.env) (λu s₂=>wpAny (model X.prog X.w) X.A (compareOp op v u) (EP X pins σ Q) X.xe s₂) X.xe s₁) X.xe s
variable {op:CmpOp}
def Rw(b:Expr)(h:op≠.In)(a:op≠.NotIn):behindInMarks op b=false:=by
 have c:(op==CmpOp.In)=false:=by cases op<;>first|rfl|exact absurd rfl h
 have d:(op==CmpOp.NotIn)=false:=by cases op<;>first|rfl|exact absurd rfl a
 cases b<;>simp[behindInMarks,c,d]
def Ps (B:TE):TE:=λσ H Q=>B σ H λx Y=>Q (.bl (decide (x=.non))) Y
def Mw (B:TE):TE:=λσ H Q=>B σ H λx Y=>Q (.bl (!decide (x=.non))) Y
def RelV.none_iff{x:V}{v:Value}(r:RelV x v):(v==Value.none)=decide (x=.non):=by
 cases x with|non=>cases r;rfl|bl _=>cases r;rfl|int _=>obtain⟨t,rfl⟩:=r;rfl|str _=>obtain⟨t,rfl⟩:=r;rfl|byt _=>obtain⟨t,rfl⟩:=r;rfl|flt _=>obtain⟨t,rfl⟩:=r;rfl|ref _=>cases r;rfl|ty _=>cases r;rfl
def Ha{j F}(b:PE X a B):PC X .Is a (.Constant .none j F) (Ps B):=by intro f s σ H Q I h;refine AG (b f s σ H _ I h) λv g⟨x,Y,c,d,e⟩=>?_;exact Constant_none (is_none_gen ⟨.bl _,Y,c,by rw[d.none_iff];rfl,e⟩)
def Pt{j F}(b:PE X a B):PC X .IsNot a (.Constant .none j F) (Mw B):=by intro f s σ H Q I h;refine AG (b f s σ H _ I h) λv g⟨x,Y,c,d,e⟩=>?_;exact Constant_none (isnot_none_gen ⟨.bl _,Y,c,by rw[d.none_iff];rfl,e⟩)
def tB (t:TE):TT:=λσ H Q=>t σ H λx Y=>∃c,x=.bl c/\Q c Y
def Pu{t:TE}(h:PC X op a b t)(c:behindInMarks op b=false:=by first|exact Rw _ (by decide) (by decide)|rfl):PE X (.Compare a [op] [b] G) t:=λe s σ H Q I d=>wpAny_Compare1 (h e s σ H Q I d) c
def Hb{t:TE}(h:PC X op a b t)(e:behindInMarks op b=false:=by first|exact Rw _ (by decide) (by decide)|rfl):PT X (.Compare a [op] [b] G) (tB t):=by intro l s σ H Q I f;refine wpAny_isTrue_Compare1 (AG (h l s σ H _ I f) λv m e=>AG e λu n g=>AG g λc o⟨x,Y,i,j,k⟩=>?_) e;obtain⟨d,rfl,q⟩:=k;cases j;exact El ⟨Y,i,q⟩
def Eo{t:TE}(h:PE X e t)(a:∀whole,isTrue e X.env whole=(do let v <-whole;standAt e.pos;holding [v] (truthy v)):=by intro _;rfl):PT X e (tB t):=by intro i s σ H Q I b;refine isTrue_plain (AG (h i s σ H _ I b) λv j⟨x,Y,c,f,g⟩=>?_) (a _);obtain⟨d,rfl,q⟩:=g;cases f;exact El ⟨Y,c,q⟩
variable {d tB':TT} {p:M'}
def Pw (t u:TT):TT:=λσ H Q=>t σ H λc Y=>if c=true then u σ Y Q else Q false Y
def UD (t u:TT):TT:=λσ H Q=>t σ H λc Y=>if c=true then Q true Y else u σ Y Q
def Px (t:TT):TT:=λσ H Q=>t σ H λc Y=>Q (!c) Y
def JQ(b:PT X a d):PW X (.BoolOp .And [a] G) d:=by
 intro g f s σ H Q I h;refine isTrue_and (AG (b f s σ H Q I h) λc i e=>?_);cases c with|true=>exact isTrue_and_nil e|false=>exact e
def Ge(b:PT X a d):PW X (.BoolOp .Or [a] G) d:=by
 intro g f s σ H Q I h;refine isTrue_or (AG (b f s σ H Q I h) λc i e=>?_);cases c with|false=>exact isTrue_or_nil e|true=>exact e
def JR(i:PT X a d)(j:PW X (.BoolOp .And (b::p) G) tB'):PW X (.BoolOp .And (a::b::p) G) (Pw d tB'):=by
 intro k g s σ H Q I h;refine isTrue_and (AG (i g s σ H _ I h) λc l⟨Y,e,f⟩=>?_);cases c with|true=>exact j k g l σ Y Q e f|false=>exact⟨Y,e,f⟩
def IU(i:PT X a d)(j:PW X (.BoolOp .Or (b::p) G) tB'):PW X (.BoolOp .Or (a::b::p) G) (UD d tB'):=by
 intro k g s σ H Q I h;refine isTrue_or (AG (i g s σ H _ I h) λc l⟨Y,e,f⟩=>?_);cases c with|true=>exact⟨Y,e,f⟩|false=>exact j k g l σ Y Q e f
def HA(b:PT X a d):PT X (.UnaryOp .Not a G) (Px d):=by intro e s σ H Q I h;exact isTrue_not (b e s σ H (λc Y=>Q (!c) Y) I h)
def Mx (B tb:TE):TE:=λσ H Q=>B σ H λx Y=>∃c,x=.bl c/\if c=true then tb σ Y Q else Q (.bl false) Y
def My (B:TE):TE:=λσ H Q=>B σ H λx Y=>∃c,x=.bl c/\Q (.bl (!c)) Y
def JS{op}{t:TE}(h:PE X a t):PE X (.BoolOp op [a] G) t:=λc s σ H Q I b=>BoolOp_one (h c s σ H Q I b)
def IV(g:PE X a B)(i:PE X (.BoolOp .And (b::p) G) tb):PE X (.BoolOp .And (a::b::p) G) (Mx B tb):=by
 intro f s σ H Q I h;refine BoolOp_and (AG (g f s σ H _ I h) λv j⟨x,Y,e,k,d⟩=>?_);obtain⟨c,rfl,d⟩:=d;cases k;refine El ?_;cases c with|true=>exact i f j σ Y Q e d|false=>exact⟨.bl false,Y,e,rfl,d⟩
def Gf(d:PE X a B):PE X (.UnaryOp .Not a G) (My B):=by intro g s σ H Q I h;refine UnaryOp_ (AG (d g s σ H _ I h) λv i⟨x,Y,e,f,b⟩=>?_);obtain⟨c,rfl,b⟩:=b;cases f;exact not_of (El ⟨.bl (!c),Y,e,rfl,b⟩)
end
def Ag (K:Ah) (H:Hp) (a:Addr) (xs:R'):Prop:=
 Rd H a (.lst xs) \/
  ∃(o:Obj)(its:L')(n:Nat),K.lookup a=some o/\o.cls=.type "list" /\ o.dict=none/\o.data=.seq its n/\its.size<=sizeLine/\Am xs its.toList
def AB (K:Ah) (H:Hp) (a:Addr) (xs:R'):Prop:=
 Rd H a (.tup xs) \/
  ∃(o:Obj)(its:L')(n:Nat),K.lookup a=some o/\o.cls=.type "tuple" /\ o.data=.seq its n/\its.size<=sizeLine/\Am xs its.toList
def Py:Value->U'
 |.none=>some .non
 |.bool b=>some (.bl b)
 |.int i _=>some (.int i)
 |.str x _=>some (.str x)
 |.bytes b _=>some (.byt b)
 |.float b _=>some (.flt b)
 |.ref a=>some (.ref a)
 |.type n=>some (.ty n)
 |_=>none
variable {x:V}
def RelV.abs{u:Value}(r:RelV x u):Py u=some x:=by
 cases x with|non=>cases r;rfl|bl _=>cases r;rfl|int _=>obtain⟨t,rfl⟩:=r;rfl|str _=>obtain⟨t,rfl⟩:=r;rfl|byt _=>obtain⟨t,rfl⟩:=r;rfl|flt _=>obtain⟨t,rfl⟩:=r;rfl|ref _=>cases r;rfl|ty _=>cases r;rfl
def RelV.inj{y:V}{u:Value}(r:RelV x u)(q:RelV y u):x=y:=C0 (r.abs.symm.trans q.abs)
theorem Am.inj:∀{xs a:R'}{b:E'},Am xs b->Am a b->xs=a
 |_,_,_,.nil,.nil=>rfl
 |_,_,_,.cons r t,.cons c t'=>by rw[r.inj c,Am.inj t t']
section
variable {X:Cx} {pins:A'} {σ:St} {H:Hp} {s:Shared} {a:Addr} {xs ys:R'}
def Ag.of{K:Ah}(h:H a=some (.lst xs)):Ag K H a xs:=.inl (.inl h)
def AB.of{K:Ah}(h:H a=some (.tup xs)):AB K H a xs:=.inl (.inl h)
def Inv.list(I:Inv X pins σ H s)(h:Ag X.K H a xs):∃b:E',Am xs b/\PlainL s.heap a b.toArray/\xs.length<=sizeLine:=by rcases h with h|⟨o,b,n,c,d,hd,f,g,r⟩;obtain⟨z,b,n,r,e⟩:=h.ok I.hok;exact⟨b,r,⟨_,n,e,rfl,rfl,rfl⟩,z⟩;refine⟨b.toList,r,⟨o,n,I.kIn a o c,d,hd,by simpa using f⟩,?_⟩;have e:=r.length;simp only[Array.length_toList] at e;omega
def Inv.tuple(I:Inv X pins σ H s)(h:AB X.K H a xs):∃b:E',Am xs b/\IsTup s.heap a b.toArray/\xs.length<=sizeLine:=by rcases h with h|⟨o,b,n,c,d,f,g,r⟩;obtain⟨z,b,r,p⟩:=h.ok I.hok;exact⟨b,r,p,z⟩;refine⟨b.toList,r,⟨o,I.kIn a o c,d,n,by simpa using f⟩,?_⟩;have e:=r.length;simp only[Array.length_toList] at e;omega
def Inv.list_inj(I:Inv X pins σ H s)(h:Ag X.K H a xs)(h':Ag X.K H a ys):xs=ys:=by obtain⟨i,r,⟨o,n,e,_,_,d⟩,_⟩:=I.list h;obtain⟨j,f,⟨k,l,b,_,_,c⟩,_⟩:=I.list h';rw[e] at b;cases b;rw[d] at c;injection c with g _;have:i=j:=(by simpa using De Array.toList g);subst this;exact r.inj f
def Inv.tuple_inj(I:Inv X pins σ H s)(h:AB X.K H a xs)(h':AB X.K H a ys):xs=ys:=by obtain⟨i,r,⟨o,e,_,n,d⟩,_⟩:=I.tuple h;obtain⟨j,f,⟨k,b,_,l,c⟩,_⟩:=I.tuple h';rw[e] at b;cases b;rw[d] at c;injection c with g _;have:i=j:=(by simpa using De Array.toList g);subst this;exact r.inj f
end
abbrev Cx.wish (X:Cx) (E:B'):Cx:={X with xe:=E}
abbrev Cx.nox (X:Cx):Cx:=X.wish λ_ _=>False
def Cx.Ok.wish{X:Cx}(ok:X.Ok)(E:B'):(X.wish E).Ok:=
 ⟨ok.mod,ok.kind,ok.glob,ok.blt,ok.above,ok.inj,ok.has,ok.cab,ok.hd,ok.frames,ok.stk,ok.exf,ok.bs,ok.bsz,ok.noex,ok.exfs,ok.funs,ok.frf⟩
def Cx.Ok.unwish(ok:(X.wish E).Ok):X.Ok:=
 ⟨ok.mod,ok.kind,ok.glob,ok.blt,ok.above,ok.inj,ok.has,ok.cab,ok.hd,ok.frames,ok.stk,ok.exf,ok.bs,ok.bsz,ok.noex,ok.exfs,ok.funs,ok.frf⟩
section
variable {X:Cx} {pins:A'} {σ:St} {H:Hp} {s:Shared} {E:B'}
def Inv.wish(I:Inv X pins σ H s)(E:B'):Inv (X.wish E) pins σ H s:=⟨I.ok.wish E,I.os,I.bare,I.base,I.loc,I.cell,I.free,I.freeC,I.pin,I.hok,I.len⟩
def Inv.unwish(I:Inv (X.wish E) pins σ H s):Inv X pins σ H s:=⟨I.ok.unwish,I.os,I.bare,I.base,I.loc,I.cell,I.free,I.freeC,I.pin,I.hok,I.len⟩
def SP.unwish{D:Ends}{f:Flow}{b:Shared}(h:SP (X.wish E) pins D f b):SP X pins D f b:=by
 cases f with|next=>obtain⟨σ',a,I,q⟩:=h;exact⟨σ',a,I.unwish,q⟩|brk=>obtain⟨σ',a,I,q⟩:=h;exact⟨σ',a,I.unwish,q⟩|cont=>obtain⟨σ',a,I,q⟩:=h;exact⟨σ',a,I.unwish,q⟩|ret u=>obtain⟨v,σ',a,I,r,q⟩:=h;exact⟨v,σ',a,I.unwish,r,q⟩
def DR.nox{st:List Stmt}{t:TS}(h:DR X.nox st t):DR X st t:=λpins s σ H D I a =>
 Do (h pins s σ H D (I.wish _) a) (λ_ _ q=>q.unwish) λ_ _ z=>False.elim z
end
section
variable {X:Cx} {st:Stmt} {p:List Stmt} {t u:TS} {e:Expr} {te:TE} {G:Pos}
def IW:TS:=λD σ H=>D.nx σ H
def Fu (t u:TS):TS:=λD σ H=>t {D with nx:=u D} σ H
def Bh:DR X [] IW:=λ_ _ σ H _ I h=>wpAny_execs_nil ⟨σ,H,I,h⟩
def Aq(b:PS X st t)(c:DR X p u):DR X (st::p) (Fu t u):=by
 intro a s σ H D I h;refine wpAny_execs_cons (AG (b a s σ H {D with nx:=u D} I h) λf d q=>?_);cases f with|next=>obtain⟨σ',e,g,q⟩:=q;exact c a d σ' e D g q|ret v=>exact q|brk=>exact q|cont=>exact q
def As(a:PS X st t):DR X [st] t:=by
 intro b s σ H D I h;refine wpAny_execs_cons (AG (a b s σ H D I h) λf c q=>?_);cases f with|next=>exact wpAny_execs_nil q|ret v=>exact q|brk=>exact q|cont=>exact q
def Inv.quiet{pins:A'}{σ:St}(I:Inv X pins σ H s):interactive X.env=false:=by simp[interactive,I.ok.kind]
def Mz (te:TE):TS:=λD σ H=>te σ H λ_ Y=>D.nx σ Y
def DH(a:PE X e te)(b:swapsWith e none G.line X.env=pure false:=by rfl):PS X (.Expr e G) (Mz te):=by intro f s σ H D I h;exact wpAny_Expr_any (AG (a f s σ H _ I h) λv g⟨x,Y,c,i,d⟩=>⟨σ,Y,c,d⟩) I.quiet b
def Pz (te:TE):TS:=λD σ H=>te σ H D.rt
def AW(a:PE X e te):PS X (.Return (some e) G) (Pz te):=by intro f s σ H D I h;exact wpAny_Return_some (AG (a f s σ H _ I h) λv g⟨x,Y,b,c,d⟩=>⟨x,σ,Y,b,c,d⟩)
def PB (c:TT) (t u:TS):TS:=λD σ H=>c σ H λb Y=>if b=true then t D σ Y else u D σ Y
def Bi{c:Expr}{a b:List Stmt}{tc:TT}(j:PT X c tc)(k:DR X a t)(l:DR X b u):PS X (.If c a b G) (PB tc t u):=by
 intro e s σ H D I h;refine wpAny_If (AG (j e s σ H _ I h) λd f⟨Y,g,i⟩=>?_);cases d with|true=>exact k e f σ Y D g i|false=>exact l e f σ Y D g i
def JT:TS:=λ_ _ _=>False
def Gg:PS X st JT:=λ_ _ _ _ _ _ h=>h.elim
end
abbrev TG:=V->St->Hp->(St->Hp->Prop)->Prop
abbrev JU:=List V->St->Hp->(St->Hp->Prop)->Prop
def PG (X:Cx) (target:Expr) (t:TG):Prop:=
 ∀(pins:A')(s:Shared)(σ:St)(H:Hp)(v:V)(u:Value)(Q:St->Hp->Prop),Inv X pins σ H s->RelV v u->t v σ H Q ->
  wpAny (model X.prog X.w) X.A (assign target X.env u) (λ_ s'=>∃σ' H',Inv X pins σ' H' s'/\Q σ' H') X.xe s
def MA (X:Cx) (ts:M') (t:JU):Prop:=
 ∀(pins:A')(s:Shared)(σ:St)(H:Hp)(vs:R')(us:E')(Q:St->Hp->Prop),Inv X pins σ H s->Am vs us->t vs σ H Q ->
  wpAny (model X.prog X.w) X.A (assignInOrder ((assignEach ts X.env).map (·.2)) us) (λ_ s'=>∃σ' H',Inv X pins σ' H' s'/\Q σ' H') X.xe s
abbrev JV:=V->V->V->Hp->(Hp->Prop)->Prop
def HB (X:Cx) (t:JV):Prop:=
 ∀(pins:A')(s:Shared)(σ:St)(H:Hp)(o i v:V)(ov iv u:Value)(Q:Hp->Prop),Inv X pins σ H s->RelV o ov->RelV i iv->RelV v u->t o i v H Q ->
  wpAny (model X.prog X.w) X.A (setItem ov iv u) (λ_ s'=>∃H',Inv X pins σ H' s'/\Q H') X.xe s
abbrev PD:=V->V->Hp->VK->Prop
def UE (X:Cx) (op:Operator) (t:PD):Prop:=
 ∀(pins:A')(s:Shared)(σ:St)(H:Hp)(x y:V)(v u:Value)(Q:VK),Inv X pins σ H s->RelV x v->RelV y u->t x y H Q ->
  wpAny (model X.prog X.w) X.A (inplaceOp op v u) (EP X pins σ Q) X.xe s
section
variable {X:Cx} {G:Pos}
def Eb (i:Nat):TG:=λv σ H Q=>Q (σ.set i (some v)) H
variable {i:Nat}
def Az{x:Str}(a:X.N.Nodup)(hi:X.N[i]?=some x:=by rfl)(b:Loc X.env.scope x:=by first|exact .inl rfl|exact .inr rfl)(c:X.fn x=true\/X.env.scope.names.lookup x=some .local:=by first|exact .inl rfl|exact .inr rfl|assumption):PG X (.Name x G) (Eb i):=by intro f s σ H v u Q I r h;exact wpAny_assign_Name (LX I a hi b r (λe d=>⟨_,H,d,h⟩) c)
def Fv:JU:=λvs σ H Q=>vs=[]/\Q σ H
def Fw (t:TG) (u:JU):JU:=λvs σ H Q=>∃v r,vs=v::r/\t v σ H λσ' H'=>u r σ' H' Q
def B6:MA X [] Fv:=by intro c s σ H a b Q I r h;obtain⟨e,h⟩:=h;subst e;cases r;exact assignInOrder_nil ⟨σ,H,I,h⟩
def AH{es:M'}{t:TG}{u:JU}(b:PG X e t)(c:MA X es u)
 (d:(assignEach (e::es) X.env).map (·.2)=assign e X.env::(assignEach es X.env).map (·.2):=by rfl):MA X (e::es) (Fw t u):=by
 intro a s σ H l m Q I r h;obtain⟨v,n,f,h⟩:=h;subst f;cases r with|cons r g=>rw[d];refine assignInOrder_cons (AG (b a s σ H _ _ _ I r h) λ_ i⟨σ1,Y,j,k⟩=>?_);exact c a i σ1 Y _ _ Q j g k
def Fx (K:Ah) (n:Nat) (t:JU):TG:=λv σ H Q=>∃a xs,v=.ref a/\AB K H a xs/\xs.length=n/\t xs σ H Q
def B7{es:M'}{k:Nat}{t:JU}{n:Nat}(g:X.calm=true)(h:MA X es t)
 (i:(assignEach es X.env).length=n:=by rfl) (z:(assignEach es X.env).findIdx? (·.1)=none:=by rfl):PG X (.Tuple es k G) (Fx X.K n t):=by
 intro f s σ H v u Q I r c;obtain⟨a,j,l,m,p,c⟩:=c;subst l;cases r;obtain⟨B,d,q,A⟩:=I.tuple m;refine assign_Tuple_tuple (I.ok.hd g) q (by simp[i,<-p,d.length]) z λw x=>?_;have y:Inv X f σ H {s with heap:=w}:=I.kept (t':=s.toks) λb o e=>x b o (Bu (AI e)) e;exact h f _ σ H j _ Q y (by simpa using d) c
def PH (to ti:TE) (t:JV):TG:=λv σ H Q=>to σ H λo Y=>ti σ Y λi U=>t o i v U λH3=>Q σ H3
def Gh{o i:Expr}{d e:TE}{t:JV}(f:PE X o d)(hi:PE X i e)(g:HB X t)
 (j:∀v,assign (.Subscript o i G) X.env v=(do
  let a <-holding [v] (eval o X.env)
  let b <-holding [v,a] (eval i X.env)
  standAt G
  holding [v,a,b] (setItem a b v)
  release [v,a,b] []):=by intro _;rfl):PG X (.Subscript o i G) (PH d e t):=by
 intro c s σ H v u Q I r h;rw[j];refine Ac (C1 (AG (f c s σ H _ I h) λa k⟨x,Y,l,m,n⟩=>?_));refine Ac (C1 (AG (hi c k σ Y _ l n) λb p⟨y,U,q,w,Z⟩=>?_));refine Ac (wpAny_standAt (Ac (C1 (AG (g c p σ U x y v a b u _ q m w r Z) λ_ C⟨z,A,B⟩=>?_))));exact wpAny_release ⟨σ,z,A,B⟩
def HC (te:TE) (g:TG):TS:=λD σ H=>te σ H λx Y=>g x σ Y D.nx
variable {te:TE}
def Ey{tg:Expr}{g:TG}(b:PE X e te)(c:PG X tg g)(d:swapsWithSole [tg] e G.line X.env=pure false:=by rfl)(f:swappedStores [tg] e X.env=pure none:=by rfl)
 (i:(assignEach [tg] X.env).map (·.2)=[assign tg X.env]:=by rfl):PS X (.Assign [tg] e G) (HC te g):=by
 intro a s σ H D I h;refine wpAny_Assign_stores (AG (b a s σ H _ I h) λv j⟨x,Y,k,l,m⟩=>?_) d f;rw[i];exact AG (c a j σ Y x v _ k l m) λ_ n q=>q
def AN{x:Str}{F:Pos}(a:X.N.Nodup)(b:PE X e te)(hi:X.N[i]?=some x:=by rfl)(c:Loc X.env.scope x:=by first|exact .inl rfl|exact .inr rfl)(d:swapsWith e (some (.Name x F)) G.line X.env=pure false:=by rfl)(f:X.fn x=true\/X.env.scope.names.lookup x=some .local:=by first|exact .inl rfl|exact .inr rfl|assumption) :
 PS X (.Assign [.Name x F] e G) (HC te (Eb i)):=by
 intro m s σ H D I h;refine wpAny_Assign_Name (AG (b m s σ H _ I h) λv n⟨y,Y,g,j,k⟩=>?_) d;exact LX g a hi c j (λo l=>⟨_,Y,l,k⟩) f
def MB (i:Nat) (te:TE) (ti:PD):TS:=λD σ H=>∃x,σ[i]?=some (some x)/\te σ H λy Y=>ti x y Y λz U=>D.nx (σ.set i (some z)) U
def JW{x:Str}{op:Operator}{f:PD}{F:Pos}(j:X.N.Nodup)(hi:X.N[i]?=some x)(b:Loc X.env.scope x)(n:PE X e te)(o:UE X op f)(p:X.fn x=true\/X.env.scope.names.lookup x=some .local:=by first|exact .inl rfl|exact .inr rfl|assumption) :
 PS X (.AugAssign (.Name x F) op e G) (MB i te f):=by
 intro d s σ H D I h;obtain⟨v,q,h⟩:=h;obtain⟨m,t,A⟩:=I.loc;have R:Mu X.env.scope x:=by rcases b with k|k;exact .inl k;exact .inr (.inl k)
 obtain⟨u,r,l⟩:=A i x v hi q R;refine wpAny_AugAssign_Name ?_;have g:wpAny (model X.prog X.w) X.A (eval e X.env) (λw B=>wpAny (model X.prog X.w) X.A (inplaceOp op u w) (λr C=>wpAny (model X.prog X.w) X.A (storeName X.env x r) (λ_=>SP X d D .next) X.xe C) X.xe B) X.xe s:=(by refine AG (n d s σ H _ I h) λw E⟨y,Y,J,K,L⟩=>?_;refine AG (o d E σ Y v y u w _ J r K L) λz T⟨V,U,M,N,Z⟩=>?_;exact LX M j hi b N (λW O=>⟨_,U,O,Z⟩) p);rcases l with⟨a,P⟩|⟨a,c,Q,S⟩;exact wpAny_loadName_local I.ok.kind a t P g;rcases a with a|a;exact wpAny_loadName_cell I.ok.kind a Q S g;rcases b with k|k;have:X.env.scope.names.lookup x=some .free:=a;rw[k] at this;cases this;have:X.env.scope.names.lookup x=some .free:=a;rw[k] at this;cases this
end
section
variable {X:Cx} {G:Pos}
def JX (c:TT) (tb:TS):TS:=λD σ H=>∃W:Nat->St->Hp->Prop,(∃m,W m σ H)/\∀m σ H,W m σ H ->
 c σ H λb Y=>if b=true then ∃N:St->Hp->Prop,(∀σ' H',N σ' H'->∃m',m'<m/\W m' σ' H')/\tb {D with nx:=N,ct:=N,bk:=D.nx} σ Y else D.nx σ Y
def Rx{c:Expr}{r:List Stmt}{tc:TT}{tb:TS}(m:PassesOwn (model X.prog X.w) X.A X.env X.xe)(t:PT X c tc)(u:DR X r tb):PS X (.While c r [] G) (JX tc tb):=by
 intro l s σ H D I h;obtain⟨W,⟨w,M⟩,B⟩:=h;refine wpAny_While (codeAny_whileLoop (λn x=>∃σ' o,Inv X l σ' o x/\W n σ' o) ?_ w ⟨σ,H,I,M⟩);rintro n y ⟨σ1,Y,z,C⟩;refine wpAny_passesOwn m (AG (t l y σ1 Y _ z (B n σ1 Y C)) λb A⟨U,p,Z⟩=>?_)
 cases b with
 |true=>
  obtain⟨N,q,Z⟩:=Z;rw[Ap rfl];refine wpAny_passesOwn m (AG (u l A σ1 U _ p Z) λf E d=>?_);cases f with|next=>obtain⟨σ3,a,e,g⟩:=d;obtain⟨i,j,k⟩:=q σ3 a g;exact⟨i,j,σ3,a,e,k⟩|cont=>obtain⟨σ3,a,e,g⟩:=d;obtain⟨i,j,k⟩:=q σ3 a g;exact⟨i,j,σ3,a,e,k⟩|brk=>exact d|ret v=>exact d
 |false=>rw[An B0];exact wpAny_execs_nil ⟨σ1,U,p,Z⟩
end
structure It where
 go:Nat->Hp->Prop
 yld:Nat->Hp->V->Hp->Prop
 stop:Nat->Hp->Prop
def CV (X:Cx) (pins:A') (H:Hp) (b:Addr):Prop:=
 H b=none/\b≠X.env.locals/\b∉X.fs/\(b∈X.ex\/X.s₀.heap.objs.size<=b)/\(∀x c,X.env.cells.lookup x=some c->c≠b)/\∀p∈X.pn++pins,p.1≠b
variable {pins:A'}{σ:St}
def Inv.fpOk{H':Hp}(I:Inv X pins σ H s)(a:s.heap.objs.size<=b)(d:H' b=none):CV X pins H' b:=by refine⟨d,Nat.ne_of_gt (D8 I.lt a),I.nofs a,.inr (Dm I.sz a),λx c e z=>?_,λp f z=>?_⟩;obtain⟨v,q⟩:=I.cell x c e;exact absurd (D8 q.lt (by rw[z];exact a)) (D7 _);exact absurd (D8 (AI (I.pin p f).1) (by rw[z];exact a)) (D7 _)
structure Fc (cm:Cx->Prop) (P:Program) (w:World) (K:Ah) (tg:Expr) (J:It) (fp:F') (it:Addr) (tn:Nat->Heap->Prop):Prop where
 mem:it∈fp
 obj:∀i h,tn i h->∀b∈fp,∃o,h.get? b=some o/\∀v,o.data≠.cell v
 keep:∀i h h',tn i h->(∀b∈fp,∀o,h.get? b=some o->h'.get? b=some o)->tn i h'
 item:∀(X:Cx),X.prog=P->X.w=w->X.K=K->cm X->∀(i:Nat)(pins:A')(s:Shared)(σ:St)(H:Hp)(E:B'),Inv X pins σ H s->(∀b∈fp,CV X pins H b)->tn i s.heap->J.go i H ->
  wpAny (model P w) X.A (pyNext (.ref it)) (λr s1=>∃u,r=some u /\
   wpAny (model P w) X.A (letOwnedTupleGo tg (.ref it) u) (λ_ s2=>∃x H',Inv X pins σ H' s2/\RelV x u/\J.yld i H x H'/\tn (i+1) s2.heap/\∀b∈fp,H' b=none) E s1) E s
 done:∀(X:Cx),X.prog=P->X.w=w->X.K=K->cm X->∀(i:Nat)(pins:A')(s:Shared)(σ:St)(H:Hp)(E:B'),Inv X pins σ H s->(∀b∈fp,CV X pins H b)->tn i s.heap->J.stop i H ->
  wpAny (model P w) X.A (pyNext (.ref it)) (λr s1=>r=none/\Inv X pins σ H s1) E s
 self:∀(A:Around)(i:Nat)(s:Shared)(Q:B')(E:B'),tn i s.heap->Q (.ref it) s->wpAny (model P w) A (pyIter (.ref it)) Q E s
abbrev Ep:=Fc λX=>X.calm=true
abbrev TI:=St->Hp->(It->Hp->Prop)->Prop
def Ry (X:Cx) (pins:A') (σ:St) (tg:Expr) (R:It->Hp->Prop) (itv:Value) (s2:Shared):Prop:=
 ∃(it:Addr)(fp:F')(tn:Nat->Heap->Prop)(J:It)(H':Hp),itv=.ref it/\Inv X pins σ H' s2/\Ep X.prog X.w X.K tg J fp it tn/\tn 0 s2.heap/\(∀b∈fp,CV X pins H' b)/\R J H'
def PI (X:Cx) (tg j:Expr) (wi:TI):Prop:=
 ∀(pins:A')(s:Shared)(σ:St)(H:Hp)(R:It->Hp->Prop),Inv X pins σ H s->wi σ H R ->
  wpAny (model X.prog X.w) X.A (eval j X.env) (λv s1=>wpAny (model X.prog X.w) X.A (pyIter v) (Ry X pins σ tg R) X.xe s1) X.xe s
variable {tg:Expr}
def MC{M:Model}{b:Addr}{u:Value}{o:Obj}{n:String}{vs:L'}{Q:Unit->Shared->Prop}(c:s.heap.get? b=some o)(d:o.cls=.type n)(hd:o.data=.fields vs)
 (e:["enumerate", "zip", "dict_itemiterator", "dict_reverseitemiterator", "odict_iterator", "itertools.zip_longest", "itertools.pairwise"].contains n=false) (a:Q () s):wpAny M A (letOwnedTupleGo tg (.ref b) u) Q E s:=by
 unfold letOwnedTupleGo
 cases tg<;>first
  |exact Al a
  |(cases u<;>first
   |exact Al a
   | (refine Ac (wpAny_load c ?_)
      rw[d,hd];show wpAny M A (if(["enumerate", "zip", "dict_itemiterator", "dict_reverseitemiterator", "odict_iterator", "itertools.zip_longest", "itertools.pairwise"].contains n && vs[0]?==some (rawInt _))=true then _ else _) Q E s;rw[An (by intro h;rw[e,Bool.false_and] at h;cases h)];exact Al a))
def Ez (K:Ah) (a:Addr):It:=
 ⟨λi H=>∃xs x,Ag K H a xs/\xs[i]?=some x,λi H x H'=>H'=H/\∀xs,Ag K H a xs->xs[i]?=some x,λi H=>∃xs,Ag K H a xs/\xs.length<=i⟩
def Hc (lo:Int) (n:Nat):It:=⟨λi _=>i<n,λi H x H'=>H'=H/\x=.int (lo+i),λi _=>n<=i⟩
theorem UF{K:Ah}(a g:Addr):Ep P w K tg (Ez K a) [g] g (λi h=>h.IsListIter g a i) where
 mem:=by simp
 obj:=λi h f b j=>by have e:b=g:=(by simpa using j);subst e;obtain⟨o,e,c,d⟩:=f;exact⟨o,e,λv z=>by rw[d] at z;cases z⟩
 keep:=λi h l f k=>f.at λo e=>k g (by simp) o e
 item:=by intro X q r t L i pins s σ H E I m f y;subst q r t;obtain⟨N,x,n,A⟩:=y;obtain⟨Y,B,p,O⟩:=I.list n;obtain⟨u,Q,R⟩:=B.get A;obtain⟨C,D,S,F,G,J⟩:=m g (by simp);refine wpAny_pyNext_list_item f p.isList (x:=u) (by simpa using Q) λl M T=>?_;have U:Inv X pins σ H {s with heap:=l}:=I.turned (t':=s.toks) (λb o j e=>(T.2 b j).trans e) C D F G J;obtain⟨o,e,c,d⟩:=id M;exact⟨u,rfl,MC (s:={s with heap:=l}) e c d (by decide) ⟨x,H,U,R,⟨rfl,λZ V=>by rw[I.list_inj V n];exact A⟩,M,λb j=>(m b j).1⟩⟩
 done:=by intro X q r t L i pins s σ H E I m f y;subst q r t;obtain⟨N,n,A⟩:=y;obtain⟨Y,B,p,O⟩:=I.list n;obtain⟨C,D,S,F,G,J⟩:=m g (by simp);have hl:=B.length;exact wpAny_pyNext_list_end (I.ok.hd L) f p.isList (by simp;omega) λl W=>⟨rfl,I.turned (t':=s.toks) (λb o j e=>W b o j e) C D F G J⟩
 self:=λ_ _ _ _ _ f h=>wpAny_pyIter_listiter f h
def MD{K:Ah}(c:Addr)(lo:Int)(n:Nat):Ep P w K tg (Hc lo n) [c] c (λi h=>IsRangeIter h c (lo+(i:Nat)*1) ((n:Int)-(i:Nat)) 1) where
 mem:=by simp
 obj:=λi h a b d=>by
  have e:b=c:=(by simpa using d);subst e
  exact⟨_,a,λv z=>by
   have C:Data.fields _=Data.cell v:=z;cases C⟩
 keep:=λi h f a k=>k c (by simp) _ a
 item:=by intro X j l m p i pins s σ H E I g a q;subst j l m;obtain⟨r,u,D,x,y,A⟩:=g c (by simp);have W:=Walks.range (prog:=X.prog) (w:=X.w) (I.ok.hd p) c lo 1 n;refine W.item i s _ _ q a λv f L F B G=>?_;obtain⟨t,rfl⟩:=F;have J:Inv X pins σ H {s with heap:=f,toks:=L}:=I.turned (λb o d e=>G b o (by simpa using d) e) r u x y A;refine⟨_,rfl,MC (s:={s with heap:=f,toks:=L}) (n:= "range_iterator") B rfl rfl (by decide) ⟨.int (lo+i),H,J,⟨t,?_⟩,⟨rfl,rfl⟩,B,λb d=>(g b d).1⟩⟩;rw[Int.mul_one]
 done:=by intro X j l m p i pins s σ H E I g a q;subst j l m;obtain⟨r,u,D,x,y,A⟩:=g c (by simp);exact wpAny_pyNext_range_end (I.ok.hd p) a (by have:n<=i:=q;omega) λf M=>⟨rfl,I.turned (t':=s.toks) (λb o d e=>M b o d e) r u x y A⟩
 self:=λ_ _ _ _ _ a h=>wpAny_pyIter_rangeiter a h
section
variable {X:Cx} {tg:Expr}
def ME (K:Ah) (k:TE):TI:=λσ H R=>k σ H λx Y=>∃a,x=.ref a/\(∃xs,Ag K Y a xs)/\R (Ez K a) Y
def Cf{l:Expr}{k:TE}(f:PE X l k):PI X tg l (ME X.K k):=by intro pins s σ H R I h;refine AG (f pins s σ H _ I h) λv c⟨x,Y,d,g,i⟩=>?_;obtain⟨a,e,⟨n,j⟩,q⟩:=i;subst e;cases g;obtain⟨u,r,p,t⟩:=d.list j;refine wpAny_pyIter_list p.isList ?_;refine⟨c.heap.objs.size,[c.heap.objs.size],_,_,Y,rfl,d.kept (t':=c.toks) λb o e=>AR _ e,UF a _,⟨_,BG _ rfl,rfl,rfl⟩,λb m=>?_,q⟩;have e:b=c.heap.objs.size:=(by simpa using m);subst e;exact d.fpOk (Aw _) (d.hok.fresh (Aw _))
def UG{R:It->Hp->Prop}{lo hi:Int}{t u v:Tok}{L:Nat}(I:Inv X pins σ H s)(c:-(2 ^ 62)<=lo)(d:lo<2 ^ 62)(f:-(2 ^ 62)<=hi)(g:hi<2 ^ 62)
 (q:R (Hc lo (hi-lo).toNat) H):wpAny (model X.prog X.w) X.A (pyIter (.ref s.heap.objs.size)) (Ry X pins σ tg R) E {s with heap:=s.heap.push {cls:=.type "range",data:=.fields #[.int lo t,.int hi u,.int 1 v]},toks:=L}:=by
 refine wpAny_pyIter_range (IsRange.new ..) (small_one c d f g) ?_;have a:Inv X pins σ H {s with heap:=s.heap.push {cls:=.type "range",data:=.fields #[.int lo t,.int hi u,.int 1 v]},toks:=L}:=I.kept λb o e=>AR _ e
 refine⟨(s.heap.push {cls:=.type "range",data:=.fields #[.int lo t,.int hi u,.int 1 v]}).objs.size,[(s.heap.push {cls:=.type "range",data:=.fields #[.int lo t,.int hi u,.int 1 v]}).objs.size],_,_,H,rfl,
  a.kept (t':=L) λb o e=>AR _ e,MD _ lo (hi-lo).toNat,?_,λb h=>?_,q⟩
 have i:lo+((0:Nat):Int)*1=lo:=(by simp);have j:(((hi-lo).toNat:Nat):Int)-((0:Nat):Int)=Builtin.Range.rangeSize lo hi 1:=by rw[rangeSize_one];split<;>omega
 show IsRangeIter _ _ (lo+((0:Nat):Int)*1) ((((hi-lo).toNat:Nat):Int)-((0:Nat):Int)) 1;rw[i,j];exact BG _ rfl;have e:b=(s.heap.push {cls:=.type "range",data:=.fields #[.int lo t,.int hi u,.int 1 v]}).objs.size:=(by simpa using h);subst e;exact a.fpOk (Aw _) (a.hok.fresh (Aw _))
def IX (B:TA):TI:=λσ H R=>B σ H λvs Y=>∃j:Int,vs=[.int j]/\-(2 ^ 62)<=j/\j<2 ^ 62/\R (Hc 0 j.toNat) Y
def JY{a:Expr}{B:TA}{p G:Pos}(c:Gl X "range")(d:X.mg "range" = none)(f:PA X [a] B)(g:starEach [a] X.env=[(false,eval a X.env)]:=by rfl):PI X tg (.Call (.Name "range" p) [a] [] G) (IX B):=by
 intro pins s σ H R I h;refine Call_ (IT I c d boot_range (PyProof.Rows.callWith_type1 (AG (f G pins s σ H _ I h) λm n⟨o,Y,i,k,b⟩=>?_) g rfl));obtain⟨j,e,b,Z,q⟩:=b;subst e;cases k with|cons r l=>cases l;obtain⟨t,rfl⟩:=r;exact call_range_1 (UG i (by omega) (by omega) b Z (by simpa using q))
def Fy (J:It) (g:TG) (tb:TS) (D:Ends) (σ:St) (Y:Hp):Prop:=∃W:Nat->Nat->St->Hp->Prop,(∃m,W 0 m σ Y)/\∀i m σ H,W i m σ H ->
 (J.stop i H/\D.nx σ H)\/(J.go i H/\∃N:St->Hp->Prop,(∀σ' H',N σ' H'->∃m',m'<m/\W (i+1) m' σ' H')/\∀x H',J.yld i H x H'->g x σ H' λσ2 U=>tb {D with nx:=N,ct:=N,bk:=D.nx} σ2 U)
def PJ (wi:TI) (g:TG) (tb:TS):TS:=λD σ H=>wi σ H λJ Y=>Fy J g tb D σ Y
def MF (fp:F') (h:Heap):A':=fp.filterMap λb=>(h.get? b).map λo=>(b,o)
variable {fp:F'}
def NW{o:Obj}(a:b∈fp)(e:h.get? b=some o):(b,o)∈MF fp h:=List.mem_filterMap.mpr ⟨b,a,by rw[e];rfl⟩
def UH{p:Addr×Obj}(a:p∈MF fp h):p.1∈fp/\h.get? p.1=some p.2:=by
 obtain⟨b,c,e⟩:=List.mem_filterMap.mp a;cases q:h.get? b with|none=>rw[q] at e;cases e|some o=>rw[q] at e;have d:(b,o)=p:=C0 e;subst d;exact⟨c,q⟩
theorem Inv.pinned(I:Inv X pins σ H s)(f:∀b∈fp,CV X pins H b)(g:∀b∈fp,∃o,s.heap.get? b=some o/\∀v,o.data≠.cell v):Inv X (pins++MF fp s.heap) σ H s:=
 I.pins_of λp h=>(CG.mp h).elim (λz=>I.pin p (ED _ z)) λz=>by obtain⟨a,e⟩:=UH z;obtain⟨i,j,k,_⟩:=f p.1 a;obtain⟨o,c,d⟩:=g p.1 a;rw[e] at c;cases c;exact⟨e,i,j,k,d⟩
theorem Inv.unpinned{a:A'}(I:Inv X (pins++a) σ H s):Inv X pins σ H s:=I.pins_of λp b=>I.pin p (ED _ (Jv _ b))
def CC{j:Expr}{R:List Stmt}{B:TI}{g:TG}{tb:TS}{G:Pos}(p:PassesOwn (model X.prog X.w) X.A X.env X.xe)(C:X.calm=true)(hi:PI X tg j B)(S:PG X tg g)(a:DR X R tb)
 (V:∀x,foldedSetIterable j X.env x=pure x:=by intro _;rfl):PS X (.For tg j R [] G) (PJ B g tb):=by
 intro pins s σ H ag I h;refine wpAny_For (AG (hi pins s σ H _ I h) λv s1 Y=>AG Y λaj s2 Z=>?_) V;obtain⟨it,fp,D,ah,U,e,I2,T,aa,E,W,⟨m0,M⟩,af⟩:=Z;subst e;have A:∀{k:Hp},(∀b∈fp,k b=none)->∀b∈fp,CV X pins k b:=λhn b a=>⟨hn b a,(E b a).2⟩;refine codeAny_forLoop_any (λn F=>∃i σ' k,Inv X pins σ' k F/\D i F.heap/\(∀b∈fp,k b=none)/\W i n σ' k) ?_ m0 ⟨0,σ,U,I2,aa,λb a=>(E b a).1,M⟩;rintro n J ⟨i,σ3,t,K,P,Q,w3⟩;rcases af i n σ3 t w3 with⟨stop,qn⟩|⟨go,N,hN,step⟩
 . refine wpAny_passesOwn p (AG (T.done X rfl rfl rfl C i pins J σ3 t X.xe K (A Q) P stop) λr s4⟨w,I4⟩=>?_)
   subst w;exact wpAny_execs_nil ⟨σ3,t,I4,qn⟩
 . refine wpAny_passesOwn p (AG (T.item X rfl rfl rfl C i pins J σ3 t X.xe K (A Q) P go) λr s4⟨u,w,h4⟩=>?_)
   subst w;refine wpAny_passesOwn p (AG h4 λ_ L⟨x,O,I5,r5,y5,z,ab⟩=>?_);have ae:=I5.pinned (A ab) (T.obj _ _ z);refine wpAny_passesOwn p (AG (S _ L σ3 O x u _ ae r5 (step x O y5)) λ_ s6⟨σ6,H6,I6,q6⟩=>?_);refine wpAny_passesOwn p (AG (a _ s6 σ6 H6 _ I6 q6) λf y l=>?_)
   have again:∀{σ7:St}{c:Hp},Inv X (pins++MF fp L.heap) σ7 c y->N σ7 c->∃m,m<n/\∃i σ' k,Inv X pins σ' k y/\D i y.heap/\(∀b∈fp,k b=none)/\W i m σ' k:=λ{σ7 c}d q=>by
    obtain⟨m',hm,w7⟩:=hN σ7 c q;refine⟨m',hm,i+1,σ7,c,d.unpinned,T.keep _ _ _ z λb a o e=>(d.pin (b,o) (ED _ (ED _ (NW a e)))).1,λb a=>?_,w7⟩;obtain⟨o,e,ai⟩:=T.obj _ _ z b a;exact(d.pin (b,o) (ED _ (ED _ (NW a e)))).2.1
   cases f with|next=>obtain⟨σ7,c,d,q⟩:=l;exact again d q|cont=>obtain⟨σ7,c,d,q⟩:=l;exact again d q|brk=>obtain⟨σ7,c,d,l⟩:=l;exact⟨σ7,c,d.unpinned,l⟩|ret v=>obtain⟨x7,σ7,c,d,r7,l⟩:=l;exact⟨x7,σ7,c,d.unpinned,r7,l⟩
end
variable {g:TG}{tb:TS}{D:Ends}
def Rz{J:It}(n:Nat)(Pv:Nat->St->Hp->Prop)(b:Pv 0 σ H)(c:∀i σ H,Pv i σ H->i<n->J.go i H)(f:∀σ H,Pv n σ H->J.stop n H)
 (d:∀i v σ H H',Pv i σ H->i<n->J.yld i H v H'->g v σ H' λσ2 U=>tb {D with nx:=Pv (i+1),ct:=Pv (i+1),bk:=D.nx} σ2 U) (hd:∀σ H,Pv n σ H->D.nx σ H):Fy J g tb D σ H:=by
 unfold Fy;refine⟨λi m σ H=>m=n-i/\i<=n/\Pv i σ H,⟨_,rfl,A9 _,b⟩,?_⟩;rintro i m σ H ⟨rfl,h,p⟩;by_cases a:i<n;exact .inr ⟨c i σ H p a,Pv (i+1),λσ' H' e=>⟨n-(i+1),by omega,rfl,a,e⟩,λv H' y=>d i v σ H H' p a y⟩
 . obtain rfl:i=n:=by omega
   exact .inl ⟨f σ H p,hd σ H p⟩
def EJ{K:Ah}{xs:R'}(Pv:Nat->St->Hp->Prop)(d:Pv 0 σ H)(c:∀i σ H,i<=xs.length->Pv i σ H->Ag K H a xs)
 (e:∀i x σ H,xs[i]?=some x->Pv i σ H->g x σ H λσ2 U=>tb {D with nx:=Pv (i+1),ct:=Pv (i+1),bk:=D.nx} σ2 U) (hd:∀σ H,Pv xs.length σ H->D.nx σ H):Fy (Ez K a) g tb D σ H:=Rz xs.length Pv d (λi σ H p b=>⟨xs,xs[i],c i σ H (CZ b) p,by simp[b]⟩) (λσ H p=>⟨xs,c _ σ H (Aw _) p,Aw _⟩) (λi v σ H f p b y=>by obtain⟨rfl,y⟩:=y;exact e i v σ _ (y xs (c i σ _ (CZ b) p)) p) hd
def RA{lo:Int}{n:Nat}(Pv:Nat->St->Hp->Prop)(b:Pv 0 σ H)
 (c:∀i σ H,i<n->Pv i σ H->g (.int (lo+i)) σ H λσ2 U=>tb {D with nx:=Pv (i+1),ct:=Pv (i+1),bk:=D.nx} σ2 U) (hd:∀σ H,Pv n σ H->D.nx σ H):Fy (Hc lo n) g tb D σ H:=Rz n Pv b (λi σ H p a=>a) (λσ H p=>Aw _) (λi v σ H d p a y=>by obtain⟨rfl,rfl⟩:=y;exact c i σ _ a p) hd
abbrev R2:=V->V->Hp->VK->Prop
def CD (X:Cx) (f:Value->Value->Sem Value) (r:R2):Prop:=
 ∀(pins:A')(s:Shared)(σ:St)(H:Hp)(x y:V)(v u:Value)(Q:VK),Inv X pins σ H s->RelV x v->RelV y u->r x y H Q ->
  wpAny (model X.prog X.w) X.A (f v u) (EP X pins σ Q) X.xe s
def NX (X:Cx) (f:Value->Sem Value) (r:V->Hp->VK->Prop):Prop:=
 ∀(pins:A')(s:Shared)(σ:St)(H:Hp)(x:V)(v:Value)(Q:VK),Inv X pins σ H s->RelV x v->r x H Q ->
  wpAny (model X.prog X.w) X.A (f v) (EP X pins σ Q) X.xe s
def A1 (X:Cx) (f:Value) (r:R'->Hp->VK->Prop):Prop:=
 ∀(pins:A')(s:Shared)(σ:St)(H:Hp)(xs:R')(us:E')(Q:VK),Inv X pins σ H s->Am xs us->r xs H Q ->
  wpAny (model X.prog X.w) X.A (call f us) (EP X pins σ Q) X.xe s
def PK (X:Cx) (r:V->Hp->(Bool->Hp->Prop)->Prop):Prop:=
 ∀(pins:A')(s:Shared)(σ:St)(H:Hp)(x:V)(v:Value)(Q:Bool->Hp->Prop),Inv X pins σ H s->RelV x v->r x H Q ->
  wpAny (model X.prog X.w) X.A (truthy v) (TP X pins σ Q) X.xe s
def EK (r:R2) (B tb:TE):TE:=λσ H Q=>B σ H λx Y=>tb σ Y λy U=>r x y U Q
def UI (r:V->Hp->VK->Prop) (B:TE):TE:=λσ H Q=>B σ H λx Y=>r x Y Q
def rI (C:Int->Int->Prop) (g:Int->Int->V):R2:=λx y H Q=>∃i j,x=.int i/\y=.int j/\C i j/\Q (g i j) H
def IY (g:Int->Int->V):R2:=λx y H Q=>∃i j,x=.int i/\y=.int j/\Q (g i j) H
def rU (g:Int->V):V->Hp->VK->Prop:=λx H Q=>∃i,x=.int i/\Q (g i) H
section
variable {X:Cx} {a b c:Expr} {B tb tc:TE} {G:Pos}
variable {f:Value->Value->Sem Value}
def JZ(d:PE X a B)(e:PE X b tb){R:V->V->Hp->Prop}(I:Inv X pins σ H s)
 (h:B σ H λx Y=>tb σ Y λy U=>R x y U) {Q:B'} (g:∀v u c x y U,Inv X pins σ U c->RelV x v->RelV y u->R x y U->wpAny (model X.prog X.w) X.A (f v u) Q X.xe c) :
 wpAny (model X.prog X.w) X.A (eval a X.env) (λv i=>wpAny (model X.prog X.w) X.A (eval b X.env) (λu j=>wpAny (model X.prog X.w) X.A (f v u) Q X.xe j) X.xe i) X.xe s:=by
 refine AG (d pins s σ H _ I h) λv k⟨x,Y,l,m,n⟩=>?_;refine AG (e pins k σ Y _ l n) λu c⟨y,U,o,p,Z⟩=>?_;exact g v u c x y U o m p Z
def BH{op:Operator}{r:R2}(c:CD X (binaryOp op) r)(d:PE X a B)(e:PE X b tb):PE X (.BinOp a op b G) (EK r B tb):=by intro pins s σ H Q I h;exact wpAny_BinOp (JZ d e I h λv u f x y U g i j q=>c pins f σ U x y v u Q g i j q)
def IZ{op:UnaryOp}{r:V->Hp->VK->Prop}(b:NX X (unaryOp op) r)(c:PE X a B):PE X (.UnaryOp op a G) (UI r B):=by intro pins s σ H Q I h;exact UnaryOp_ (AG (c pins s σ H _ I h) λv d⟨x,Y,e,f,g⟩=>b pins d σ Y x v Q e f g)
def PL{C:Int->Int->Prop}{g:Int->Int->Int}
 (e:∀(i j:Int)(t u:Tok)(s:Shared)(Q:B')(E:B'),C i j->Q (.int (g i j) s.toks) {s with toks:=s.toks+1}->wpAny (model X.prog X.w) X.A (f (.int i t) (.int j u)) Q E s) :
 CD X f (rI C λi j=>.int (g i j)):=by
 intro pins s σ H x y v u Q I a b h;obtain⟨i,j,rfl,rfl,c,q⟩:=h;obtain⟨t,rfl⟩:=a;obtain⟨d,rfl⟩:=b;exact e i j t d s _ _ c ⟨.int (g i j),H,I.tok _,⟨_,rfl⟩,q⟩
def MG{g:Int->Int->Int}
 (d:∀(i j:Int)(t u:Tok)(s:Shared)(Q:B')(E:B'),Q (.int (g i j) s.toks) {s with toks:=s.toks+1}->wpAny (model X.prog X.w) X.A (f (.int i t) (.int j u)) Q E s) :
 CD X f (IY λi j=>.int (g i j)):=by
 intro pins s σ H x y v u Q I a b h;obtain⟨i,j,rfl,rfl,q⟩:=h;obtain⟨t,rfl⟩:=a;obtain⟨c,rfl⟩:=b;exact d i j t c s _ _ ⟨.int (g i j),H,I.tok _,⟨_,rfl⟩,q⟩
def J1{g:Int->Int->Bool}
 (d:∀(i j:Int)(t u:Tok)(s:Shared)(Q:B')(E:B'),Q (.bool (g i j)) s->wpAny (model X.prog X.w) X.A (f (.int i t) (.int j u)) Q E s) :
 CD X f (IY λi j=>.bl (g i j)):=by
 intro pins s σ H x y v u Q I a b h;obtain⟨i,j,rfl,rfl,q⟩:=h;obtain⟨t,rfl⟩:=a;obtain⟨c,rfl⟩:=b;exact d i j t c s _ _ ⟨.bl (g i j),H,I,rfl,q⟩
def PM (i j:Int):Prop:=0<j/\j<1073741824
def J5 (i j:Int):Prop:=(-(2 ^ 64)<i/\i<2 ^ 64)\/(-(2 ^ 64)<j/\j<2 ^ 64)
def J5.ok{i j:Int}(h:J5 i j):IntMulOk i j:=by rcases h with⟨a,b⟩|⟨a,b⟩;exact .of_left (intBits_le_64 a b);exact .of_right (intBits_le_64 a b)
def Hd:CD X (binaryOp .Add) (IY λi j=>.int (i+j)):=MG λ_ _ _ _ _ _ _ q=>add_int q
def LZ:CD X (binaryOp .Mult) (rI J5 λi j=>.int (i*j)):=PL λ_ _ _ _ _ _ _ a q=>mul_int q a.ok
def L0:CD X (binaryOp .FloorDiv) (rI PM λi j=>.int (i/j)):=PL λi j _ _ _ _ _ a q=>by have b:(0:Int)<j:=a.1;have c:j<1073741824:=a.2;exact floordiv_int (by omega) (by rw[Int.fdiv_eq_ediv_of_nonneg i (by omega)];exact q) (.inl (PyProof.noPylong_small (by omega)))
def FR:CD X (binaryOp .Mod) (rI (λ_ j=>0<j) λi j=>.int (i%j)):=PL λi j _ _ _ _ _ a q=>by have b:(0:Int)<j:=a;exact mod_int' (by omega) (by rw[Int.fmod_eq_emod_of_nonneg i (by omega)];exact q)
def HD:CD X (inplaceOp .Add) (IY λi j=>.int (i+j)):=MG λ_ _ _ _ _ _ _ q=>iadd_int q
def UJ{f:Value->Sem Value}{g:Int->Int}
 (b:∀(i:Int)(t:Tok)(s:Shared)(Q:B')(E:B'),Q (.int (g i) s.toks) {s with toks:=s.toks+1}->wpAny (model X.prog X.w) X.A (f (.int i t)) Q E s) :
 NX X f (rU λi=>.int (g i)):=by
 intro pins s σ H x v Q I a h;obtain⟨i,rfl,q⟩:=h;obtain⟨t,rfl⟩:=a;exact b i t s _ _ ⟨.int (g i),H,I.tok _,⟨_,rfl⟩,q⟩
def Gi:NX X (unaryOp .USub) (rU λi=>.int (-i)):=UJ λ_ _ _ _ _ q=>neg_int q
end
def MH:V->V->Bool
 |.non,.non=>true|.non,.int _=>true|.int _,.non=>true|.non,.bl _=>true|.bl _,.non=>true|.non,.str _=>true|.str _,.non=>true
 |.int _,.int _=>true|.bl _,.bl _=>true|.str _,.str _=>true|.byt _,.byt _=>true
 |.int _,.str _=>true|.str _,.int _=>true|.bl _,.str _=>true|.str _,.bl _=>true
 |_,_=>false
def UK:R2:=λx y H Q=>MH x y=true/\Q (.bl (decide (x=y))) H
def RB:R2:=λx y H Q=>MH x y=true/\Q (.bl (!decide (x=y))) H
def RC{i j:Int}:decide (V.int i=V.int j)=(i==j):=by
 rw[Bool.eq_iff_iff];simp
def Gj{i j:Bool}:decide (V.bl i=V.bl j)=(i==j):=by
 rw[Bool.eq_iff_iff];simp
def RD{i j:Str}:decide (V.str i=V.str j)=(i==j):=by
 rw[Bool.eq_iff_iff];simp
def RE{i j:Array UInt8}:decide (V.byt i=V.byt j)=(i.toList==j.toList):=by
 rw[Bool.eq_iff_iff];cases i;cases j;simp
section
variable {X:Cx} {a b c:Expr} {B tb tc:TE} {G:Pos}
def CI{Q:VK}{k a:Bool}(I:Inv X pins σ H s)(q:Q (.bl k) H)(e:k=a):EP X pins σ Q (.bool a) s:=by subst e;exact⟨.bl k,H,I,rfl,q⟩
def DI:CD X (compareOp .Eq) UK:=by
 intro pins s σ H x y v u Q I d a h;obtain⟨c,q⟩:=h
 cases x with
 |non=>
  cases d;cases y with|non=>cases a;exact PySem.EqNone.eq_none_none (CI I q (by simp))|bl j=>cases a;exact PySem.EqNone.eq_none_bool (CI I q (by simp))|int j=>obtain⟨b,rfl⟩:=a;exact PySem.EqNone.eq_none_int (CI I q (by simp))|str j=>obtain⟨b,rfl⟩:=a;exact PySem.EqNone.eq_none_str (CI I q (by simp))|_=>exact absurd (show false=true from c) B0
 |bl i=>
  cases d;cases y with|non=>cases a;exact PySem.EqNone.eq_bool_none (CI I q (by simp))|bl j=>cases a;exact eq_bool (CI I q Gj)|str j=>obtain⟨b,rfl⟩:=a;exact PySem.EqMixed.eq_bool_str (CI I q (by simp))|_=>exact absurd (show false=true from c) B0
 |int i=>
  obtain⟨t,rfl⟩:=d;cases y with|non=>cases a;exact PySem.EqNone.eq_int_none (CI I q (by simp))|int j=>obtain⟨b,rfl⟩:=a;exact eq_int (CI I q RC)|str j=>obtain⟨b,rfl⟩:=a;exact PySem.EqMixed.eq_int_str (CI I q (by simp))|_=>exact absurd (show false=true from c) B0
 |str i=>
  obtain⟨t,rfl⟩:=d;cases y with|non=>cases a;exact PySem.EqNone.eq_str_none (CI I q (by simp))|bl j=>cases a;exact PySem.EqMixed.eq_str_bool (CI I q (by simp))|int j=>obtain⟨b,rfl⟩:=a;exact PySem.EqMixed.eq_str_int (CI I q (by simp))|str j=>obtain⟨b,rfl⟩:=a;exact eq_str (CI I q RD)|_=>exact absurd (show false=true from c) B0
 |byt i=>
  obtain⟨t,rfl⟩:=d;cases y with|byt j=>obtain⟨b,rfl⟩:=a;exact PySem.W.eq_bytes (CI I q RE)|_=>exact absurd (show false=true from c) B0
 |_=>cases y<;>exact absurd (show false=true from c) B0
def I0:CD X (compareOp .NotEq) RB:=by
 intro pins s σ H x y v u Q I d a h;obtain⟨c,q⟩:=h
 cases x with
 |non=>
  cases d;cases y with|non=>cases a;exact PySem.EqNone.ne_none_none (CI I q (by simp))|bl j=>cases a;exact PySem.EqNone.ne_none_bool (CI I q (by simp))|int j=>obtain⟨b,rfl⟩:=a;exact PySem.EqNone.ne_none_int (CI I q (by simp))|str j=>obtain⟨b,rfl⟩:=a;exact PySem.EqNone.ne_none_str (CI I q (by simp))|_=>exact absurd (show false=true from c) B0
 |bl i=>
  cases d;cases y with|non=>cases a;exact PySem.EqNone.ne_bool_none (CI I q (by simp))|bl j=>cases a;exact ne_bool (CI I q (De not Gj))|str j=>obtain⟨b,rfl⟩:=a;exact PySem.EqMixed.ne_bool_str (CI I q (by simp))|_=>exact absurd (show false=true from c) B0
 |int i=>
  obtain⟨t,rfl⟩:=d;cases y with|non=>cases a;exact PySem.EqNone.ne_int_none (CI I q (by simp))|int j=>obtain⟨b,rfl⟩:=a;exact ne_int (CI I q (De not RC))|str j=>obtain⟨b,rfl⟩:=a;exact PySem.EqMixed.ne_int_str (CI I q (by simp))|_=>exact absurd (show false=true from c) B0
 |str i=>
  obtain⟨t,rfl⟩:=d;cases y with|non=>cases a;exact PySem.EqNone.ne_str_none (CI I q (by simp))|bl j=>cases a;exact PySem.EqMixed.ne_str_bool (CI I q (by simp))|int j=>obtain⟨b,rfl⟩:=a;exact PySem.EqMixed.ne_str_int (CI I q (by simp))|str j=>obtain⟨b,rfl⟩:=a;exact ne_str (CI I q (De not RD))|_=>exact absurd (show false=true from c) B0
 |byt i=>
  obtain⟨t,rfl⟩:=d;cases y with|byt j=>obtain⟨b,rfl⟩:=a;exact PySem.W.ne_bytes (CI I q (De not RE))|_=>exact absurd (show false=true from c) B0
 |_=>cases y<;>exact absurd (show false=true from c) B0
def MI:CD X (compareOp .Lt) (IY λi j=>.bl (decide (i<j))):=J1 λ_ _ _ _ _ _ _ q=>lt_int q
def Gk:CD X (compareOp .LtE) (IY λi j=>.bl (decide (i<=j))):=J1 λ_ _ _ _ _ _ _ q=>le_int q
def I7:CD X (compareOp .Gt) (IY λi j=>.bl (decide (j<i))):=J1 λ_ _ _ _ _ _ _ q=>gt_int q
variable {op:CmpOp}
def B3(b:Expr)(h:op≠.In:=by decide)(a:op≠.NotIn:=by decide):behindInMarks op b=false:=by
 have c:(op==CmpOp.In)=false:=by cases op<;>first|rfl|exact absurd rfl h
 have d:(op==CmpOp.NotIn)=false:=by cases op<;>first|rfl|exact absurd rfl a
 cases b<;>simp[behindInMarks,c,d]
variable {r:R2}
def Ja(c:CD X (compareOp op) r)(d:PE X a B)(e:PE X b tb)(f:behindInMarks op b=false):PE X (.Compare a [op] [b] G) (EK r B tb):=by intro pins s σ H Q I h;exact wpAny_Compare1 (JZ d e I h λv u g x y U i j k q=>c pins g σ U x y v u Q i j k q) f
def Jb (t:TE):TT:=λσ H Q=>t σ H λx H'=>∃k,x=.bl k/\Q k H'
def Cc(d:CD X (compareOp op) r)(f:PE X a B)(g:PE X b tb)(i:behindInMarks op b=false):PT X (.Compare a [op] [b] G) (Jb (EK r B tb)):=by
 intro pins s σ H Q I h
 refine wpAny_isTrue_Compare1 (AG (f pins s σ H _ I h) λv j⟨x,Y,l,m,n⟩=>AG (g pins j σ Y _ l n) λu o⟨y,U,p,q,Z⟩ =>
  AG (d pins o σ U x y v u _ p m q Z) λc D⟨z,t,w,A,k,e,C⟩=>?_) i
 subst e;cases A;exact El ⟨t,w,C⟩
def Gm (r r':R2) (B tb tc:TE):TE:=λσ H Q=>B σ H λx Y=>tb σ Y λy U=>r x y U λz H3=>∃k,z=.bl k /\
 (if k=true then tc σ H3 λw' H4=>r' y w' H4 Q else Q (.bl false) H3)
def RF{f:CmpOp}{g:R2}(n:CD X (compareOp op) r)(T:CD X (compareOp f) g)(o:PE X a B)(p:PE X b tb)(q:PE X c tc)
 (t:lastMarks [op,f] [b,c]=false:=by with_unfolding_all rfl):PE X (.Compare a [op,f] [b,c] G) (Gm r g B tb tc):=by
 intro pins s σ H Q I h
 refine Compare_chain (AG (o pins s σ H _ I h) λv w⟨x,Y,A,C,D⟩=>chain_link (AG (p pins w σ Y _ A D) λu E⟨y,U,F,i,Z⟩ =>
  AG (n pins E σ U x y v u _ F C i Z) λd J⟨z,j,l,K,k,e,m⟩=>?_)) t
 subst e;cases K;refine El ?_;cases k with|false=>exact ite_ff ⟨.bl false,j,l,rfl,m⟩|true=>exact ite_tt (chain_last (AG (q pins J σ j _ l m) λL M⟨N,O,P,R,S⟩=>T pins M σ O y N u L Q P i R S))
def UL{d:CmpOp}{f:R2}(m:CD X (compareOp op) r)(aa:CD X (compareOp d) f)(n:PE X a B)(o:PE X b tb)(p:PE X c tc)
 (q:lastMarks [op,d] [b,c]=false:=by with_unfolding_all rfl):PT X (.Compare a [op,d] [b,c] G) (Jb (Gm r f B tb tc)):=by
 intro pins s σ H ab I h
 refine isTrue_chain (AG (n pins s σ H _ I h) λv t⟨x,Y,w,z,A⟩=>test_link (AG (o pins t σ Y _ w A) λu C⟨y,U,D,g,Z⟩ =>
  AG (m pins C σ U x y v u _ D z g Z) λae E⟨af,i,j,F,k,e,l⟩=>?_)) q
 subst e;cases F;refine El ?_;cases k with|false=>obtain⟨k',J,K⟩:=l;cases J;exact ite_ff ⟨i,j,K⟩|true=>refine ite_tt (test_last (AG (p pins E σ i _ j l) λL M⟨N,O,P,Q,R⟩=>AG (aa pins M σ O y N u L _ P g Q R) λd' s5⟨z2,S,T,V,k2,W,q5⟩=>?_));subst W;cases V;exact El ⟨S,T,q5⟩
def PP (K:Ah) (x:V) (H:Hp) (k:Bool):Prop:=
 match x with
 |.non=>k=false
 |.bl b=>k=b
 |.int i=>k=(i != 0)
 |.str y=>y.length<=sizeLine/\k=((y.length:Int) != 0)
 |.byt y=>y.size<=sizeLine/\k=((y.size:Int) != 0)
 |.ref p=>(∃xs,Ag K H p xs/\k=!xs.isEmpty)\/(∃xs,AB K H p xs/\k=!xs.isEmpty)\/∃kvs,H p=some (.dK kvs)/\k=!kvs.isEmpty
 |_=>False
def UM{κ:Type}{kvs:List (κ×V)}{vs:List (κ×Value)}(r:KV kvs vs):(!vs.isEmpty)=!kvs.isEmpty:=by cases r<;>rfl
def RG{xs:R'}{a:E'}(r:Am xs a):(!a.toArray.isEmpty)=!xs.isEmpty:=by cases r<;>simp
def L3:(sizeLine:Nat)<2 ^ 63:=by rw[sizeLine_eq];decide
def J6:PK X (λx H Q=>∃k,PP X.K x H k/\Q k H):=by
 intro pins s σ H x v Q I d h;obtain⟨k,e,q⟩:=h;have A:=L3;have B:sizeLine=16777216:=sizeLine_eq
 cases x with
 |non=>cases d;have a:k=false:=e;subst a;exact truthy_none ⟨H,I,q⟩
 |bl b=>cases d;have a:k=b:=e;subst a;exact El ⟨H,I,q⟩
 |int i=>obtain⟨t,rfl⟩:=d;have a:k=(i != 0):=e;subst a;exact PySem.P.truthy_int ⟨H,I,q⟩
 |str y=>obtain⟨t,rfl⟩:=d;obtain⟨u,a⟩:y.length<=sizeLine/\k=((y.length:Int) != 0):=e;subst a;exact PySem.P.truthy_str (by omega) ⟨H,I.tok _,q⟩
 |byt y=>obtain⟨t,rfl⟩:=d;obtain⟨u,a⟩:y.size<=sizeLine/\k=((y.size:Int) != 0):=e;subst a;exact PySem.W.truthy_bytes (by omega) ⟨H,I.tok _,q⟩
 |ref p=>cases d;have a:(∃c,Ag X.K H p c/\k=!c.isEmpty)\/(∃c,AB X.K H p c/\k=!c.isEmpty)\/∃f,H p=some (.dK f)/\k=!f.isEmpty:=e;rcases a with⟨c,g,a⟩|⟨c,g,a⟩|⟨f,g,a⟩;subst a;obtain⟨z,r,l,n⟩:=I.list g;have o:=r.length;exact wpAny_truthy_list l.isList (by simp only[BR];omega) ⟨H,I.tok _,by rw[RG r];exact q⟩;subst a;obtain⟨z,r,l,n⟩:=I.tuple g;have o:=r.length;exact truthy_tuple l (by simp only[BR];omega) ⟨H,I.tok _,by rw[RG r];exact q⟩;subst a;obtain⟨n,w,j,r,m⟩:f.length<=sizeLine/\(p==sysModules)=false/\∃j,KV f j/\s.heap.DictOf (Dj X.prog X.w) p j:=I.hok p _ g;have o:f.length=j.length:=Paired.length r;exact wpAny_truthy_dict w m (by omega) ⟨H,I.tok _,by rw[UM r];exact q⟩
 |_=>exact(show False from e).elim
def RH:CD X (binaryOp .Add) (λx y H Q=>∃i j,x=.str i/\y=.str j/\i.length+j.length<=sizeLine/\Q (.str (i++j)) H):=by intro pins s σ H x y v u Q I a b h;obtain⟨i,j,rfl,rfl,c,q⟩:=h;obtain⟨t,rfl⟩:=a;obtain⟨d,rfl⟩:=b;exact add_str (λd L=>⟨.str (i++j),H,I.tok _,⟨_,rfl⟩,q⟩) c
def EL{a:E'}(r:Am [x] a):∃u,a=[u]/\RelV x u:=by
 cases r with|cons b c=>cases c;exact⟨_,rfl,b⟩
def He{y:V}{a:E'}(r:Am [x,y] a):∃u b,a=[u,b]/\RelV x u/\RelV y b:=by
 cases r with
 |cons c d=>
  cases d with|cons e f=>cases f;exact⟨_,_,rfl,c,e⟩
def PQ (K:Ah) (x:V) (H:Hp) (n:Nat):Prop:=
 match x with
 |.str y=>y.length<=sizeLine/\n=y.length
 |.byt y=>y.size<=sizeLine/\n=y.size
 |.ref p=>(∃xs,Ag K H p xs/\n=xs.length)\/∃xs,AB K H p xs/\n=xs.length
 |_=>False
def Fz:A1 X (.builtin "len") (λxs H Q=>∃x n,xs=[x]/\PQ X.K x H n/\Q (.int n) H):=by
 intro pins s σ H xs l Q I r h;obtain⟨x,n,rfl,e,q⟩:=h;obtain⟨u,rfl,b⟩:=EL r;have m:=L3;have o:sizeLine=16777216:=sizeLine_eq
 cases x with
 |str y=>obtain⟨t,rfl⟩:=b;obtain⟨i,a⟩:y.length<=sizeLine/\n=y.length:=e;subst a;exact len_str (by omega) ⟨.int _,H,I.tok _,⟨_,rfl⟩,q⟩
 |byt y=>obtain⟨t,rfl⟩:=b;obtain⟨i,a⟩:y.size<=sizeLine/\n=y.size:=e;subst a;exact PySem.W.len_bytes (by omega) ⟨.int _,H,I.tok _,⟨_,rfl⟩,q⟩
 |ref p=>cases b;have a:(∃xs,Ag X.K H p xs/\n=xs.length)\/∃xs,AB X.K H p xs/\n=xs.length:=e;rcases a with⟨xs,c,a⟩|⟨xs,c,a⟩;subst a;obtain⟨k,d,f,j⟩:=I.list c;have g:=d.length;exact Calls.call_len_list f.isList (by simp only[BR];omega) ⟨.int xs.length,H,I.tok _,⟨_,by simp only[BR];rw[g]⟩,q⟩;subst a;obtain⟨k,d,f,j⟩:=I.tuple c;have g:=d.length;exact len_tuple f (by simp only[BR];omega) ⟨.int xs.length,H,I.tok _,⟨_,by simp only[BR];rw[g]⟩,q⟩
 |_=>exact(show False from e).elim
end
section
variable {prog:Program} {w:World} {A:Around} {E:B'} {s:Shared} {K:Ah} {x dx C f:Addr} {i:Str->J'} {name:Str} {v:Value}
end
def Dg.some_of{v:V}{o:J'}(r:Dg (some v) o):∃u,o=some u/\RelV v u:=by
 cases o with|none=>exact(show False from r).elim|some u=>exact⟨u,rfl,r⟩
section
variable {P:Program} {w:World} {H H':Hp} {h h':Heap} {a C dx:Addr} {fs fs':List (Str×V)}
end
section
variable {X:Cx} {pins:A'} {σ:St} {H:Hp} {s:Shared} {a C dx:Addr} {fs:List (Str×V)} {f:Str} {v:V} {A:Around} {E:B'}
end
section
variable {X:Cx} {o e d:Expr} {f:Str} {G F c:Pos} {B tv:TE}
end
section
variable {X:Cx} {pins:A'} {σ:St} {H:Hp} {s:Shared} {A:Around} {E:B'} {Q:B'} {c:Value} {b:Bool}
end
structure Bc (k:Nat) (A:Around):Prop where
 hd:A.handled=none
 dp:A.depth+3*k+5<recursionLimit
 un:A.units+16*k+200<cLine
 gd:A.guards=some []
def Bc.mono{j k:Nat}(r:Bc k A)(h:j<=k):Bc j A:=⟨r.hd,by have:=r.dp;omega,by have:=r.un;omega,r.gd⟩
def Bc.deeper{k:Nat}{A:Around}(r:Bc (k+1) A)(env:Env):Bc k (A.deeper env):=
 ⟨r.hd,by have:=r.dp;show A.depth+1+3*k+5<_;omega,by have:=r.un;show A.units+3+16*k+200<_;omega,by first|exact r.gd|(simpa [Around.deeper] using r.gd)⟩
def Bc.depth{k:Nat}{A:Around}(r:Bc k A):A.depth<recursionLimit:=by have:=r.dp;omega
def Bc.units{k:Nat}{A:Around}(r:Bc k A):A.units+64<cLine:=by have:=r.un;omega
def CW:TA:=λ_ H Q=>Q [] H
def Dk (B:TE) (tr:TA):TA:=λσ H Q=>B σ H λx Y=>tr σ Y λxs U=>Q (x::xs) U
section
variable {X:Cx} {e:Expr} {es:M'} {te:TE} {t:TA} {G:Pos}
def Af:PA X [] CW:=λ_ _ _ _ H Q I h=>Calls.spliced_nil ⟨[],H,I,.nil,h⟩
def Ab(a:PE X e te)(b:PA X es t)(c:starEach (e::es) X.env=(false,eval e X.env)::starEach es X.env:=by rfl):PA X (e::es) (Dk te t):=by intro G pins s σ H Q I h;rw[c];show wpAny _ _ (spliced ((false,eval e X.env)::backTo G (starEach es X.env))) _ _ s;refine Calls.spliced_cons (AG (a pins s σ H _ I h) λu d⟨x,Y,f,g,i⟩=>?_);exact AG (b G pins d σ Y _ f i) λm n⟨j,U,k,l,Z⟩=>⟨x::j,U,k,.cons g l,Z⟩
def Ec (t:TA):TE:=λσ H Q=>t σ H λxs Y=>xs.length<=sizeLine/\∀p,Y p=none->Q (.ref p) (upd Y p (.tup xs))
def J7 (t:TA):TE:=λσ H Q=>t σ H λxs Y=>xs.length<=sizeLine/\∀p,Y p=none->Q (.ref p) (upd Y p (.lst xs))
def Bf{d}(h:PA X es t):PE X (.Tuple es d G) (Ec t):=by intro pins s σ H Q I f;refine wpAny_Tuple_spliced (AG (h G pins s σ H _ I f) λg a⟨i,Y,c,r,z,q⟩=>⟨by rw[<-r.length];exact z,?_⟩);have j:Y a.heap.objs.size=none:=c.hok.fresh (Aw _);refine⟨.ref a.heap.objs.size,upd Y a.heap.objs.size (.tup i),c.laid (t':=a.toks) (λb u e=>AR _ e) (Aw _) ?_,rfl,q _ j⟩;exact⟨z,g,r,⟨_,BG _ rfl,rfl,_,rfl⟩⟩
def Bl(h:PA X es t):PE X (.List es G) (J7 t):=by intro pins s σ H Q I d;refine wpAny_List_spliced (AG (h G pins s σ H _ I d) λf a⟨g,Y,c,r,z,q⟩=>⟨by rw[<-r.length];exact z,?_⟩);have i:Y a.heap.objs.size=none:=c.hok.fresh (Aw _);refine⟨.ref a.heap.objs.size,upd Y a.heap.objs.size (.lst g),c.laid (t':=a.toks) (λb u e=>AR _ e) (Aw _) ?_,rfl,q _ i⟩;exact⟨z,f,0,r,BG _ rfl⟩
end
abbrev Sp:=List V->Hp->VK->XK->Prop
abbrev FA:=List Env->Hp->Shared->XK->Value->Shared->Prop
structure Go (P:Program) (w:World) (K:Ah) (mg:Str->J') (base:Heap) (A:Around) (outer:List Env) (s:Shared) (H:Hp):Prop where
 frames:A.frames=some outer
 mod:Mod K mg base
 bs:∀b o,base.get? b=some o->s.heap.get? b=some o/\H b=none
 bsz:base.objs.size<=s.heap.objs.size
 funs:s.heap.FunFrames base outer
 frf:∀b∈BM outer,H b=none
 hok:Ce P w H s.heap
 bare:AllBare s.gens
def CE (outer:List Env) (P:Program) (w:World) (H:Hp) (s:Shared) (Q:VK) (u:Value) (s':Shared):Prop:=
 ∃v H',s'.os=s.os/\AllBare s'.gens/\Un (BM outer) [] H H' s.heap s'.heap/\Ce P w H' s'.heap/\RelV v u/\Q v H'
def CR (CX:FA) (outer:List Env) (P:Program) (w:World) (H:Hp) (s:Shared) (Q:VK) (E:XK) (r:Result) (s':Shared):Prop:=
 match r with
 |.ok (.ret u)=>CE outer P w H s Q u s'
 |.ok _=>False
 |.error e=>CX outer H s E e s'
structure Cg (P:Program) (w:World) (K:Ah) (mg:Str->J') (base:Heap) (CX:FA) (k:Nat) (f:Addr) (fd:FuncData) (ps:G') (sp:Sp):Prop where
 len:∀vs H Q E,sp vs H Q E->vs.length=ps.length
 run:∀(A:Around)(outer:List Env)(s:Shared)(H:Hp)(args:Args)(us:E')(vs:R')(Q:VK)(E:XK),Bc k A->Go P w K mg base A outer s H->BindsTo s fd args (ps.zip us)->Am vs us->sp vs H Q E ->
  codeAny (model P w) A (.call (.ref f) args) (CR CX outer P w H s Q E) s
section
variable {X:Cx} {pins:A'} {σ:St} {H:Hp} {s s':Shared}
def Inv.env0(I:Inv X pins σ H s):Go X.prog X.w X.K X.mg X.base X.A X.stack s H:=
 ⟨I.ok.frames,I.ok.mod,I.bs,Dm I.ok.bsz I.sz,I.stack,I.stkFree,I.hok,I.bare⟩
def Inv.after{Q:VK}{u:Value}(I:Inv X pins σ H s)(h:CE X.stack X.prog X.w H s Q u s'):EP X pins σ Q u s':=by obtain⟨v,a,c,j,un,f,r,q⟩:=h;obtain⟨e,g,d,t,i⟩:=s';obtain rfl:i=s.os:=c;exact⟨v,a,I.call (h':=e) (g':=g) (d':=d) (t':=t) (ch:=[]) un f j (λb z=>absurd z (by simp)),r,q⟩
end
def NY (sp:Sp) (c:R') (E:XK) (t:TA):TE:=λσ H Q=>t σ H λvs Y=>sp (vs++c) Y Q E
def Binds (K:Ah) (fd:FuncData) (ps:G') (ds:E'):Prop:=
 ∀(s:Shared)(us:E'),K.In s.heap->(us++ds).length=ps.length->BindsTo s fd ⟨us,[]⟩ (ps.zip (us++ds))
variable {ps:G'}
def Binds.all{K:Ah}{b:FuncData}(h:∀a:E',a.length=ps.length->bindArgs b ⟨a,[]⟩=pure (ps.zip a)):Binds K b ps []:=λs a _ c=>by rw[EF] at c ⊢;exact .of_eq (h a c)
def NZ (CX:FA) (X:Cx) (E:XK):Prop:=∀(pins:A')(σ:St)(H:Hp)(s:Shared)(e:Value)(s':Shared),Inv X pins σ H s->CX X.stack H s E e s'->X.xe e s'
section
variable {X:Cx} {CX:FA} {k:Nat} {f C:Addr} {fd:FuncData} {ps:G'} {sp:Sp} {c:R'} {ds:E'} {E:XK} {x m:Str} {p G apos:Pos} {e o:Expr} {es:M'} {B:TE} {t:TA}
def J8{Q:VK}{a:E'}{vs:R'}(F:Cg X.prog X.w X.K X.mg X.base CX k f fd ps sp)(g:Bc k X.A)(i:Binds X.K fd ps ds)(hd:Am c ds)(j:NZ CX X E)
 (I:Inv X pins σ H s) (r:Am vs a) (h:sp (vs++c) H Q E):wpAny (model X.prog X.w) X.A (call (.ref f) a) (EP X pins σ Q) X.xe s:=by
 have d:Am (vs++c) (a++ds):=r.append hd;have l:(a++ds).length=ps.length:=by rw[<-d.length];exact F.len _ _ _ _ h
 refine wpAny_call (codeAny_mono (F.run X.A X.stack s H ⟨a,[]⟩ (a++ds) (vs++c) Q E g I.env0 (i s a I.kIn l) d h) λr m b=>?_)
 cases r with
 |error e=>exact j pins σ H s e m I b
 |ok n=>
  cases n with|ret u=>exact I.after b|next=>exact False.elim b|brk=>exact False.elim b|cont=>exact False.elim b
def RI(F:Cg X.prog X.w X.K X.mg X.base CX k f fd ps sp)(b:Bc k X.A)(d:Gl X x)(g:X.mg x=some (.ref f))(i:PySem.W.keepIn X.K (.ref f)=true)(j:Binds X.K fd ps ds)(hd:Am c ds)(l:NZ CX X E)
 (m:PA X (e::es) t) (o:(x==f')=false:=by decide) (n:starEach (e::es) X.env=(false,eval e X.env)::starEach es X.env:=by rfl) (u:(backTo G (starEach es X.env)).any (·.1)=false:=by rfl) :
 PE X (.Call (.Name x p) (e::es) [] G) (NY sp c E t):=by
 intro pins s σ H Q I h;refine wpAny_Call_Name_kw (LY I d g ?_ o);refine PySem.W.callWith_K (h₀:=X.base) I.ok.mod.kin i (AG (m G pins s σ H _ I h) λv w⟨y,Y,a,r,q⟩=>⟨a.kIn,?_⟩) n u;exact J8 F b j hd l a r q
end
section
variable {X:Cx} {CX:FA} {k:Nat} {f C:Addr} {fd:FuncData} {ps ks:G'} {sp:Sp} {E:XK} {x m:Str} {p G apos kpos:Pos} {e o:Expr} {es:M'} {kws:List Keyword} {te B:TE} {t L:TA} {nm:Option Str}
variable {g:E'->E'->E'} {gV:R'->R'->R'}
end
structure Ae (N P:G') (sc:Scope):Prop where
 kind:sc.kind=.function
 co:sc.isCoroutine=false
 gen:sc.isGenerator=false
 nd:N.Nodup
 pre:N.take P.length=P
 par:∀x∈P,sc.names.lookup x=some .local\/sc.names.lookup x=some .cell
 nofree:∀y∈sc.names,y.2≠.free
theorem RJ{kindOf:Str->Option NameKind}{x:Str}:∀{binds:List (Str×Value)}{m:Str->J'},(∀v,(x,v)∉binds)->bindL kindOf binds m x=m x
 |[],_,_=>rfl
 |(n,v)::r,m,h=>by
   unfold bindL;rw[RJ λw a=>h w (Dc _ a)];split;have:x≠n:=by rintro rfl;exact h v CH
   simp[this];rfl
theorem RL{kindOf:Str->Option NameKind}{x:Str}:∀{binds:List (Str×Value)}{m:Str->J'},(∀v,(x,v)∉binds)->bindC kindOf binds m x=m x
 |[],_,_=>rfl
 |(n,v)::r,m,h=>by
   unfold bindC;rw[RL λw a=>h w (Dc _ a)];split;rfl;have:x≠n:=by rintro rfl;exact h v CH
   simp[this]
theorem RM{kindOf:Str->Option NameKind}{x:Str}{v:Value}:∀{P:G'}{vs:E'}{i:Nat}{m:Str->J'},P.Nodup->P[i]?=some x->vs[i]?=some v->kindOf x=some .local ->
 bindL kindOf (P.zip vs) m x=some v
 |[],_,_,_,_,h,_,_=>by simp at h
 |_::_,[],_,_,_,_,h,_=>by simp at h
 |p::P,w::vs,0,m,c,a,b,d=>by
   simp at a b;subst a;subst b;show bindL kindOf ((p,w)::P.zip vs) m p=_;unfold bindL;rw[RJ λv hv=>(Hq.mp c).1 (List.of_mem_zip hv).1,Ap d];simp
 |p::P,w::vs,i+1,m,c,a,b,d=>by show bindL kindOf ((p,w)::P.zip vs) m x=_;unfold bindL;exact RM (i:=i) (Hq.mp c).2 (by simpa using a) (by simpa using b) d
theorem RN{kindOf:Str->Option NameKind}{x:Str}{v:Value}:∀{P:G'}{vs:E'}{i:Nat}{m:Str->J'},P.Nodup->P[i]?=some x->vs[i]?=some v->kindOf x≠some .local ->
 bindC kindOf (P.zip vs) m x=some v
 |[],_,_,_,_,h,_,_=>by simp at h
 |_::_,[],_,_,_,_,h,_=>by simp at h
 |p::P,w::vs,0,m,c,a,b,d=>by
   simp at a b;subst a;subst b;show bindC kindOf ((p,w)::P.zip vs) m p=_;unfold bindC;rw[RL λv hv=>(Hq.mp c).1 (List.of_mem_zip hv).1,An d];simp
 |p::P,w::vs,i+1,m,c,a,b,d=>by show bindC kindOf ((p,w)::P.zip vs) m x=_;unfold bindC;exact RN (i:=i) (Hq.mp c).2 (by simpa using a) (by simpa using b) d
def EM (N:G') (vs:R'):St:=vs.map some++List.replicate (N.length-vs.length) none
def Au (CX:FA) (P:Program) (w:World) (K:Ah) (mg:Str->J') (base:Heap) (N:G') (qual:Str) (scope:Scope) (f:Addr) (B:Value) (A:Around) (outer:List Env) (s:Shared) (H:Hp) (E:XK):Cx where
 prog:=P
 w:=w
 K:=K
 mg:=mg
 base:=base
 A:=A.deeper (envOfC qual scope s.heap.objs.size f B)
 N:=N
 s₀:=s
 H₀:=H
 env:=envOfC qual scope s.heap.objs.size f B
 outer:=outer
 stack:=envOfC qual scope s.heap.objs.size f B::outer
 ex:=[]
 calm:=true
 fn:=λ_=>true
 pn:=[]
 xe:=λe s'=>wpAny (model P w) (A.deeper (envOfC qual scope s.heap.objs.size f B)) (leaving (envOfC qual scope s.heap.objs.size f B) e) (λ_ s''=>CX outer H s E e s'') (λe' s''=>CX outer H s E e' s'') s'
def RO{a:Scope}{n:Nat}{x:Str}(h:a.names.lookup x=some .cell):∃c,(cellsFrom n a.names []).lookup x=some c:=by have q:=PySem.W.cellsFrom_some a.names n [] (.inl h);exact Option.isSome_iff_exists.mp q
def RP{CX:FA}{K:Ah}{C:Str->J'}{base:Heap}{N:G'}{t:Str}{scope:Scope}{f:Addr}{B:Value}{G:List Env}{I:Shared}{E:XK}{D:E'}{vs:R'}
 (S:Ae N ps scope) (hd:A.handled=none) (g:Go P w K C base A G s H) (T:vs.length=ps.length) (r:Am vs D)
 (x:InCallC s s.heap.objs.size (bindL (envOfC t scope s.heap.objs.size f B).kindOf (ps.zip D) λ_=>none) (cellsFrom (s.heap.objs.size+1) scope.names []) (bindC (envOfC t scope s.heap.objs.size f B).kindOf (ps.zip D) λ_=>none) I) :
 Inv (Au CX P w K C base N t scope f B A G s H E) [] (EM N vs) H I:=by
 have W:ps.length<=N.length:=by have:=De List.length S.pre;rw[CA] at this;omega
 obtain⟨m,L,rfl,J⟩:=x.done;have F:∀b:Addr,b∉(Au CX P w K C base N t scope f B A G s H E).ex:=λb z=>absurd (show b∈([]:F') from z) (by simp)
 refine⟨⟨g.mod,S.kind,rfl,rfl,Aw _,λy z c m d=>?_,λy j=>?_,λy c _ h=>?_,λ_=>hd,Around.frames_deeper g.frames,.inr ⟨rfl,rfl⟩,λb z=>absurd z (F b),g.bs,g.bsz,λb _ _=>F b,λb z=>absurd z (F b),g.funs,g.frf⟩,
  rfl,g.bare,Un.kept J,⟨_,x.toInCall.ns,λi y v m d U=>?_⟩,λy c h=>⟨_,x.cell y c h⟩,g.hok.fresh (Aw _),λy c h=>?_,λp l=>absurd (show p∈([]:A') from l) (by simp),g.hok.kept J,?_⟩
 exact name_of_addr x.apart (EH m) (EH d);have j:scope.names.lookup y=some .cell\/scope.names.lookup y=some .free:=j;rcases j with j|j;exact RO j;exact absurd rfl (S.nofree _ (EH j));exact CZ (x.above y c (EH h));have o:i<vs.length:=(by unfold EM at d;by_cases o:i<vs.length;exact o;rw[D6 (by simpa using o)] at d;rw[List.getElem?_replicate] at d;split at d<;>cases d)
 have Q:vs[i]?=some v:=by
  unfold EM at d;rw[Ew (by simpa using o),BP] at d;cases e:vs[i]? with|none=>rw[e] at d;cases d|some a=>rw[e] at d;cases d;rfl
 obtain⟨u,M,R⟩:=r.get Q;have l:ps[i]?=some y:=(by rw[<-S.pre,List.getElem?_take_of_lt (by omega)];exact m);have O:ps.Nodup:=by rw[<-S.pre];exact S.nd.sublist (List.take_sublist _ _)
 refine⟨u,R,?_⟩;rcases S.par y (Ei l) with k|k;exact .inl ⟨k,RM O l M k⟩;obtain⟨c,e⟩:=RO (n:=s.heap.objs.size+1) k;refine .inr ⟨.inl k,c,e,?_⟩;have q:=x.cell y c e;rw[RN O l M (by show scope.names.lookup y≠_;rw[k];decide)] at q;exact q;exact g.hok.fresh (CZ (x.above y c (EH h)));unfold EM;show _=N.length;rw[BF,AD,q0];omega
def Gp{CX:FA}{K:Ah}{i:Str->J'}{base:Heap}{k:Nat}{f:Addr}{name c:Str}{R:Arguments}{p:List Stmt}{scope:Scope}{z kV G B a ct T:Value}{C od:Option Addr}
 {aa:Array (J')} {N:G'} {sp:Sp} (U:K.lookup f=some ⟨T,od,.func (PySem.W.fnOf name c R p scope z kV G B C a ct),aa⟩) (ab:PySem.W.codeIn K a c=true) (S:Ae N ps scope)
 (L:∀vs H Q E,sp vs H Q E->vs.length=ps.length)
 (af:∀(A:Around)(g:List Env)(s:Shared)(H:Hp)(vs:R')(Q:VK)(E:XK),Bc k (A.deeper (envOfC c scope s.heap.objs.size f a))->sp vs H Q E ->
  ∃t,DR (Au CX P w K i base N c scope f a A g s H E) p t/\t {nx:=λ_ H'=>Q .non H',rt:=Q} (EM N vs) H) :
 Cg P w K i base CX (k+1) f (PySem.W.fnOf name c R p scope z kV G B C a ct) ps sp:=by
 refine⟨L,λA g s H ai W vs Q E j h X r M=>?_⟩;have Y:=L _ _ _ _ M;have D:K.In s.heap:=h.mod.kin.keeps λb o e=>(h.bs b o e).1;have ae:s.heap.NoLimit:=h.mod.nolimit.keeps λb o e=>(h.bs b o e).1
 have ag:∀y∈ps.zip W,scope.names.lookup y.1=some .local\/(scope.names.lookup y.1=some .cell/\((cellsFrom (s.heap.objs.size+1) scope.names []).lookup y.1).isSome=true):=λ⟨n,v⟩Z=>by
  rcases S.par n (List.of_mem_zip Z).1 with q|q;exact .inl q;exact .inr ⟨q,PySem.W.cellsFrom_some _ _ _ (.inl q)⟩
 refine codeAny_call_function j.depth (D _ _ U) rfl S.co S.gen rfl (PySem.W.codeRec_of D ab) (X _ _ _ _ ?_);refine wpAny_newFunctionEnv_cells S.kind ag λah he F x=>?_;subst he;refine⟨ae.keeps x.toInCall.keep,codeAny_func ?_⟩;obtain⟨t,ht,hq⟩:=af A g s H vs Q E (j.deeper _) M;have I:Inv (Au CX P w K i base N c scope f a A g s H E) [] (EM N vs) H F:=RP S j.hd h Y r x;refine Do (ht [] F (EM N vs) H _ I hq) (λfl l d=>?_) λe l d=>d
 have O:∀{σ':St}{H':Hp}{v:V}{u:Value},Inv (Au CX P w K i base N c scope f a A g s H E) [] σ' H' l->RelV v u->Q v H'->CE g P w H s Q u l:=
  λ{σ' H' v u}J m q=>⟨v,H',J.os,J.bare,J.base,J.hok,m,q⟩
 cases fl with|ret u=>obtain⟨v,σ',H',J,m,q⟩:=d;exact O J m q|next=>obtain⟨σ',H',J,q⟩:=d;exact O (v:=V.non) (u:=Value.none) J rfl q|brk=>obtain⟨_,_,_,q⟩:=d;exact False.elim q|cont=>obtain⟨_,_,_,q⟩:=d;exact False.elim q
section
variable {X:Cx} {x:Str} {p G:Pos} {e:Expr} {es:M'} {t:TA} {id T:String} {r:R'->Hp->VK->Prop}
def PR (r:R'->Hp->VK->Prop) (t:TA):TE:=λσ H Q=>t σ H λvs Y=>r vs Y Q
def Bq(a:A1 X (.builtin id) r)(b:X.mg x=none)(c:PA X (e::es) t)(d:Gl X x:=by rfl)(hv:bootBuiltins x=some (.builtin id):=by decide +kernel)(f:x ≠ "__name__" :=by decide)(o:(x==f')=false:=by decide)
 (g:starEach (e::es) X.env=(false,eval e X.env)::starEach es X.env:=by rfl) (q:(backTo G (starEach es X.env)).any (·.1)=false:=by rfl):PE X (.Call (.Name x p) (e::es) [] G) (PR r t):=by
 intro pins s σ H Q I h;refine wpAny_Call_Name_kw (IT I d b hv ?_ f o);exact PyProof.Rows.callWith_builtin1 (AG (c G pins s σ H _ I h) λi j⟨k,Y,l,m,n⟩=>a pins j σ Y k i Q l m n) g q
def MJ(a:A1 X (.type T) r)(b:X.mg x=none)(c:PA X (e::es) t)(d:Gl X x:=by rfl)(hv:bootBuiltins x=some (.type T):=by decide +kernel)(f:x ≠ "__name__" :=by decide)(o:(x==f')=false:=by decide)
 (g:starEach (e::es) X.env=(false,eval e X.env)::starEach es X.env:=by rfl) (q:(backTo G (starEach es X.env)).any (·.1)=false:=by rfl):PE X (.Call (.Name x p) (e::es) [] G) (PR r t):=by
 intro pins s σ H Q I h;refine wpAny_Call_Name_kw (IT I d b hv ?_ f o);exact PyProof.Rows.callWith_type1 (AG (c G pins s σ H _ I h) λi j⟨k,Y,l,m,n⟩=>a pins j σ Y k i Q l m n) g q
end
end L2
namespace HT
open PySem PyProof.Rows
section
open PySem.SeqAt
open PySem.AutoSeq1 (wpAny_loadPart')
open PySem.MeetsSeq PySem.MeetsSeq2 PySem.MeetsSeq3
end
section
variable {prog:Program} {w:World} {A:Around} {E:B'} {s:Shared}
def sIx (n d:Nat):K'->Nat
 |none=>d
 |some v=>if v<0 then(v+(n:Int)).toNat else min v.toNat n
def sIx_none(n d:Nat):sIx n d none=d:=rfl
def sIx_nat(n d k:Nat):sIx n d (some (k:Int))=min k n:=by show(if(k:Int)<0 then((k:Int)+(n:Int)).toNat else min (k:Int).toNat n)=min k n;rw[An (by omega),E6]
end
end HT
namespace L2
open PySem PySem.Spec PyProof.Rows
abbrev TO:=St->Hp->(K'->Hp->Prop)->Prop
def PO (X:Cx) (e:Option Expr) (t:TO):Prop:=
 ∀(pins:A')(s:Shared)(σ:St)(H:Hp)(Q:K'->Hp->Prop),Inv X pins σ H s->t σ H Q ->
  wpAny (model X.prog X.w) X.A (evalPart e X.env) (λu s'=>∃o H',Inv X pins σ H' s'/\IsPart u o/\Q o H') X.xe s
def HE:TO:=λ_ H Q=>Q none H
def MK (t:TE):TO:=λσ H Q=>t σ H λx Y=>∃i,x=.int i/\Q (some i) Y
def UN{a:D'}:∀{b:E'},Am (a.map V.int) b->IntsAre b a:=by
 induction a with
 |nil=>intro b r;rw[Mr] at r;cases r;exact .nil
 |cons n a c=>
  intro b r;rw[D1] at r;cases r with|cons d f=>obtain⟨t,e⟩:=d;subst e;exact .cons n t (c f)
section
variable {X:Cx} {e:Expr} {te:TE} {lo hi:Option Expr} {k th:TO} {G p2:Pos}
def HF:PO X none HE:=by intro a s σ H Q I h;rw[evalPart_none];exact Al ⟨none,H,I,.none,h⟩
def HG(h:PE X e te):PO X (some e) (MK te):=by intro f s σ H Q I a;rw[evalPart_some];refine AG (h f s σ H _ I a) λu g⟨x,Y,b,c,d⟩=>?_;obtain⟨i,rfl,q⟩:=d;obtain⟨t,rfl⟩:=c;exact⟨some i,Y,b,.int i t,q⟩
def PU (X:Cx) (r:V->K'->K'->Hp->VK->Prop):Prop:=
 ∀(pins:A')(s:Shared)(σ:St)(H:Hp)(x:V)(v vl vu:Value)(lo hi:K')(sl:Addr)(Q:VK),Inv X pins σ H s->RelV x v->s.heap.IsSliceOf sl vl vu .none->IsPart vl lo->IsPart vu hi->r x lo hi H Q ->
  ∃T id,typeLookup (.type T) "__getitem__" = pure (some (.builtin id))/\s.TypeIs v T/\wpAny (model X.prog X.w) X.A (getItem v (.ref sl)) (EP X pins σ Q) X.xe s
def UO (r:V->K'->K'->Hp->VK->Prop) (te:TE) (k th:TO):TE:=λσ H Q=>te σ H λx Y=>k σ Y λl U=>th σ U λu H3=>r x l u H3 Q
def UP{r:V->K'->K'->Hp->VK->Prop}(i:PU X r)(j:PE X e te)(m:PO X lo k)(n:PO X hi th):PE X (.Subscript e (.Slice lo hi none p2) G) (UO r te k th):=by intro c s σ H Q I h;refine Subscript_ (AG (j c s σ H _ I h) λv o⟨x,Y,p,t,w⟩=>?_);refine wpAny_Slice (AG (m c o σ Y _ p w) λd y⟨l,U,z,A,Z⟩=>AG (n c y σ U _ z Z) λf a⟨u,g,B,C,D⟩=>?_);rw[evalPart_none];refine Al ?_;have E:Inv X c σ g {a with heap:=a.heap.push {cls:=.type "slice",data:=.fields #[d,f,.none]}}:=B.kept (t':=a.toks) λb L q=>AR _ q;obtain⟨T,id,F,J,K⟩:=i c {a with heap:=a.heap.push {cls:=.type "slice",data:=.fields #[d,f,.none]}} σ g x v d f l u a.heap.objs.size Q E t (Heap.IsSliceOf.new ..) A C D;show wpAny (model X.prog X.w) X.A (subscriptTail e (.Slice lo hi none p2) v (.ref a.heap.objs.size)) (EP X c σ Q) X.xe {a with heap:=a.heap.push {cls:=.type "slice",data:=.fields #[d,f,.none]}};exact tail_any (ops:=[.ref a.heap.objs.size,v]) J F K (by with_unfolding_all rfl)
def FC (xs:R') (lo hi:K'):R':=(xs.drop (HT.sIx xs.length 0 lo)).take (HT.sIx xs.length xs.length hi-HT.sIx xs.length 0 lo)
def UQ(xs:R')(lo hi:K'):(FC xs lo hi).length<=xs.length:=by unfold FC;rw[CA,Ex];omega
end
def Gq (n:Nat) (i:Int):Option Nat:=if 0<=i then(if i<n then some i.toNat else none) else if -(n:Int)<=i then some (i+n).toNat else none
def EN {α:Type} (xs:List α) (i:Int):Option α:=(Gq xs.length i).bind λj=>xs[j]?
variable {n:Nat}
def RQ{i:Int}{j:Nat}(h:Gq n i=some j):seqIndex? i n=some j/\j<n/\-(n:Int)<=i/\i<n:=by unfold Gq at h;by_cases b:0<=i;rw[Ap b] at h;by_cases a:i<n;rw[Ap a] at h;have e:i.toNat=j:=C0 h;exact⟨by rw[seqIndex_of b a,e],by omega,by omega,a⟩;rw[An a] at h;cases h;rw[An b] at h;by_cases a:-(n:Int)<=i;rw[Ap a] at h;have e:(i+n).toNat=j:=C0 h;exact⟨by rw[seqIndex_neg (by omega) a,e],by omega,a,by omega⟩;rw[An a] at h;cases h
def PV{α:Type}{xs:List α}{i:Int}{v:α}(h:EN xs i=some v):∃j,seqIndex? i xs.length=some j/\xs[j]?=some v/\j<xs.length/\-(xs.length:Int)<=i/\i<xs.length:=by
 unfold EN at h;cases e:Gq xs.length i with|none=>rw[e] at h;cases h|some j=>rw[e] at h;obtain⟨a,b,c,d⟩:=RQ e;exact⟨j,a,h,b,c,d⟩
def EO{α:Type}{xs:List α}{j:Nat}{v:α}(h:xs[j]?=some v):EN xs (j:Int)=some v:=by
 have a:j<xs.length:=(Cd.mp h).1;have e:Gq xs.length (j:Int)=some j:=(by unfold Gq;rw[Ap (by omega),Ap (by omega)];simp);unfold EN;rw[e];exact h
def HH (b:Expr):Prop:=∀o i,subscripted b false o i=operate [o,i] (getItem o i)
def Hf (X:Cx) (r:R2):Prop:=
 ∀(d slice:Expr)(pins:A')(s:Shared)(σ:St)(H:Hp)(x y:V)(v u:Value)(Q:VK),Inv X pins σ H s->RelV x v->RelV y u->r x y H Q ->
  subscripted slice false v u=operate [v,u] (getItem v u)->wpAny (model X.prog X.w) X.A (subscriptTail d slice v u) (EP X pins σ Q) X.xe s
def J9 (X:Cx) (id:String) (r:V->R'->Hp->VK->Prop):Prop:=
 ∀(pins:A')(s:Shared)(σ:St)(H:Hp)(x:V)(xs:R')(v:Value)(us:E')(Q:VK),Inv X pins σ H s->RelV x v->Am xs us->r x xs H Q ->
  wpAny (model X.prog X.w) X.A (call (.builtin id) (v::us)) (EP X pins σ Q) X.xe s
section
variable {X:Cx} {a b:Expr} {B tb:TE} {G:Pos}
def Hf.or{r a:R2}(h:Hf X r)(h':Hf X a):Hf X (λx y H Q=>r x y H Q\/a x y H Q):=by intro d slice f s σ H x y v u Q I b c q e;rcases q with q|q;exact h d slice f s σ H x y v u Q I b c q e;exact h' d slice f s σ H x y v u Q I b c q e
def AK{r:R2}(c:Hf X r)(d:PE X a B)(e:PE X b tb)(f:HH b:=by exact λ_ _=>rfl):PE X (.Subscript a b G) (EK r B tb):=by intro l s σ H Q I h;exact Subscript_ (JZ d e I h λv u g x y U i j k q=>c a b l g σ U x y v u Q i j k q (f _ _))
def ML (K:Ah):R2:=λx y H Q=>∃p xs i v,x=.ref p/\y=.int i/\Ag K H p xs/\EN xs i=some v/\Q v H
def MM (K:Ah):R2:=λx y H Q=>∃p xs i v,x=.ref p/\y=.int i/\AB K H p xs/\EN xs i=some v/\Q v H
def MN:R2:=λx y H Q=>∃z i c,x=.str z/\y=.int i/\z.length<=sizeLine/\EN z.cps.toList i=some c/\Q (.str ⟨#[c]⟩) H
def HI:Hf X (ML X.K):=by
 intro d slice l s σ H x y v u Q I m n h e;obtain⟨p,K,i,z,rfl,rfl,o,A,q⟩:=h;cases m;obtain⟨t,rfl⟩:=n;obtain⟨G,r,b,L⟩:=I.list o;obtain⟨j,a,B,M,C,D⟩:=PV A;obtain⟨w,f,J⟩:=r.get B;have E:=r.length;have N:=L3;have k:EP X l σ Q w s:=⟨z,H,I,J,q⟩;by_cases g:0<=i;have c:i.toNat=j:=(by rw[seqIndex_of g D] at a;exact C0 a);exact item_listR b.isList g (by omega) (by rw[c];simpa using f) k e;have c:(i+(G.toArray.size:Int)).toNat=j:=(by rw[seqIndex_neg (by omega) C] at a;rw[BR,<-E];exact C0 a)
 exact subscriptTail_builtinR (x:=w) b.isList.typeIs slot_list_getitem.lookup
  (wpAny_getItem_list_neg (Q:=λr F=>r=w/\EP X l σ Q r F) b.isList (by omega) (by rw[BR]<;>omega) (by omega) (by rw[c];simpa using f) ⟨rfl,k⟩) e
def Ka:Hf X (MM X.K):=by
 intro d slice b s σ H x y v u Q I c e h f;obtain⟨p,D,i,z,rfl,rfl,g,k,q⟩:=h;cases c;obtain⟨t,rfl⟩:=e;obtain⟨L,r,a,E⟩:=I.tuple g;obtain⟨j,l,m,F,G,J⟩:=PV k;obtain⟨w,n,B⟩:=r.get m;have o:=r.length;have K:=L3;have C:EP X b σ Q w s:=⟨z,H,I,B,q⟩
 exact subscriptTail_builtinR (x:=w) a.typeIs slot_tuple_getitem.lookup
  (getItem_tuple (j:=j) (Q:=λr A=>r=w/\EP X b σ Q r A) a (by omega) (by omega) (by rw[BR,<-o];exact l) (by simpa using n) ⟨rfl,C⟩) f
def Kb:Hf X MN:=by
 intro d slice C s σ H x y v u Q I b e h f;obtain⟨z,i,c,rfl,rfl,r,g,q⟩:=h;obtain⟨t,rfl⟩:=b;obtain⟨w,rfl⟩:=e;obtain⟨j,a,k,A,l,m⟩:=PV g;have n:z.cps.toList.length=z.length:=(by simp[Str.length]);rw[n] at a l m;have B:=L3
 exact tail_any (typeIs_str s z t) slot_str_getitem.lookup (getItem_str (c:=c) (by
  have o:decide (i < -(2 ^ 63:Int))=false:=BZ (by omega);have p:decide (i ≥ 2 ^ 63)=false:=BZ (by omega);rw[o,p,Bool.or_false]) (by rw[a];simpa using k) ⟨.str ⟨#[c]⟩,H,I.tok _,⟨_,rfl⟩,q⟩) f
def HJ (K:Ah):R2:=λx y H Q=>ML K x y H Q\/MM K x y H Q\/MN x y H Q
def AL:Hf X (HJ X.K):=HI.or (Ka.or Kb)
def UR(a:E')(n j:Nat)(u:Value):Obj.mapSeq (·.setIfInBounds j u) {cls:=.type "list",data:=.seq a.toArray n}={cls:=.type "list",data:=.seq (a.set j u).toArray n}:=by simp[Obj.mapSeq]
def Inv.lst{pins:A'}{σ:St}{H:Hp}{s:Shared}{p:Addr}{xs:R'}(I:Inv X pins σ H s)(h:H p=some (.lst xs)) :
 ∃(a:E')(n:Nat),Am xs a/\s.heap.get? p=some {cls:=.type "list",data:=.seq a.toArray n}/\xs.length<=sizeLine:=by
 obtain⟨z,a,n,r,e⟩:=I.hok p _ h;exact⟨a,n,r,e,z⟩
variable {s:Shared}
def Inv.lstUpd{pins:A'}{σ:St}{H:Hp}{p:Addr}{xs a:R'}{g its':E'}{c:Nat}{f:Obj->Obj}(I:Inv X pins σ H s)(h:H p=some (.lst xs))
 (i:s.heap.get? p=some {cls:=.type "list",data:=.seq g.toArray n}) (d:f {cls:=.type "list",data:=.seq g.toArray n}={cls:=.type "list",data:=.seq its'.toArray c}) (r:Am a its') (hz:a.length<=sizeLine) (t:Nat) :
 Inv X pins σ (upd H p (.lst a)) {s with heap:=s.heap.update p f,toks:=t}:=by
 have e:(s.heap.update p f).get? p=some {cls:=.type "list",data:=.seq its'.toArray c}:=(by rw[r9 f i (by rw[d]<;>rfl),d]);refine I.write (x:=p) (e:=p) (by rw[h];trivial) (.inl rfl) (λb u j q=>(Heap.get?_update_other _ _ (Ne.symm j)).trans q) ⟨_,e⟩ ?_;exact⟨hz,its',c,r,e⟩
def MO:V->V->V->Hp->(Hp->Prop)->Prop:=λo i v H Q=>∃p xs k j,o=.ref p/\i=.int k/\H p=some (.lst xs)/\Gq xs.length k=some j/\Q (upd H p (.lst (xs.set j v)))
def US:HB X MO:=by
 intro D s σ H o i v E F u Q I x y z h;obtain⟨p,A,k,j,rfl,rfl,e,B,q⟩:=h;cases x;obtain⟨t,rfl⟩:=y;obtain⟨w,n,r,b,C⟩:=I.lst e;obtain⟨a,G,f,g⟩:=RQ B;have c:=r.length;have J:=L3
 have l:Inv X D σ (upd H p (.lst (A.set j v))) {s with heap:=s.heap.update p (Obj.mapSeq (·.setIfInBounds j u))}:=
  I.lstUpd e b (UR w n j u) (r.set z j) (by rw[List.length_set];exact C) s.toks
 by_cases m:0<=k;have d:k.toNat=j:=(by rw[seqIndex_of m g] at a;exact C0 a);exact PySem.W.ki_setAt b m (by omega) (by rw[BR,<-c];exact g) (by rw[d];exact⟨_,l,q⟩);have d:(k+(w.toArray.size:Int)).toNat=j:=(by rw[seqIndex_neg (by omega) f] at a;rw[BR,<-c];exact C0 a);exact PySem.W.ki_setBack b (by omega) (by rw[BR,<-c];exact f) (by omega) (by rw[d];exact⟨_,l,q⟩)
def UT(lo hi:K')(n:Nat):(sliceBounds lo hi none n).1=((HT.sIx n 0 lo:Nat):Int)/\(sliceBounds lo hi none n).2.1=((HT.sIx n n hi:Nat):Int)/\(sliceBounds lo hi none n).2.2=1:=by
 refine⟨?_,?_,rfl⟩
 cases lo with
 |none=>simp[sliceBounds,HT.sIx]
 |some i=>simp only[sliceBounds,HT.sIx,Option.getD_none,show(1:Int) > 0 by decide,if_true];by_cases h:i<0;simp only[h,if_true]<;>omega;simp only[h,if_false]<;>omega
 cases hi with|none=>simp[sliceBounds,HT.sIx]|some i=>simp only[sliceBounds,HT.sIx,Option.getD_none,show(1:Int) > 0 by decide,if_true];by_cases h:i<0;simp only[h,if_true]<;>omega;simp only[h,if_false]<;>omega
def UU(a:E')(lo hi:K'):slicePick a.toArray lo hi none=((a.drop (HT.sIx a.length 0 lo)).take (HT.sIx a.length a.length hi-HT.sIx a.length 0 lo)).toArray:=by obtain⟨b,c,d⟩:=UT lo hi a.toArray.size;unfold slicePick;rw[b,c,d];simp only[sliceRange_one,pick_run,BR]<;>rfl
def PX (K:Ah):V->K'->K'->Hp->VK->Prop:=λx lo hi H Q=>∃a xs,x=.ref a/\Ag K H a xs/\∀p,H p=none->Q (.ref p) (upd H p (.lst (FC xs lo hi)))
def HK:PU X (PX X.K):=by intro z s σ H x v p t d e u Q I g i j k h;obtain⟨a,c,rfl,l,q⟩:=h;cases g;obtain⟨y,r,f,m⟩:=I.list l;have n:=r.length;refine⟨"list",_,slot_list_getitem.lookup,f.isList.typeIs,?_⟩;refine wpAny_getItem_list_slice f.isList i j k .none (by simp) ?_ (by rw[BR]<;>omega);rw[UU,<-n];refine⟨.ref s.heap.objs.size,_,I.laid (t':=s.toks) (o:=.lst (FC c d e)) (λb w q=>AR _ q) (Aw _) ?_,rfl,q _ (I.hok.fresh (Aw _))⟩;exact⟨Dm (UQ c d e) m,_,0,(r.drop (HT.sIx c.length 0 d)).take (HT.sIx c.length c.length e-HT.sIx c.length 0 d),BG _ rfl⟩
def HL:V->Bool
 |.non=>true
 |.bl _=>true
 |.int _=>true
 |.str _=>true
 |_=>false
def Hg:V->V->Bool
 |.non,.non=>true
 |.bl a,.bl b=>a==b
 |.bl a,.int b=>(if a then 1 else 0)==b
 |.int a,.bl b=>a==(if b then 1 else 0)
 |.int a,.int b=>a==b
 |.str a,.str b=>a==b
 |_,_=>false
variable {x:V}
def Kc{A:Around}{y:V}{u v:Value}(e:RelV y u)(c:RelV x v)(g:HL y=true)(f:HL x=true):SeqAt.EqAt A s u v (Hg y x):=by
 cases y with
 |non=>
  cases e;cases x with|non=>cases c;exact SeqAt.EqAt.same _|bl b=>cases c;exact SeqAt.EqAt.none_bool b|int b=>obtain⟨t,rfl⟩:=c;exact SeqAt.EqAt.none_int b t|str b=>obtain⟨t,rfl⟩:=c;exact SeqAt.EqAt.none_str b t|_=>exact absurd (show false=true from f) B0
 |bl a=>
  cases e;cases x with|non=>cases c;exact SeqAt.EqAt.bool_none a|bl b=>cases c;exact SeqAt.EqAt.bool_bool a b|int b=>obtain⟨t,rfl⟩:=c;exact SeqAt.EqAt.bool_int a b t|str b=>obtain⟨t,rfl⟩:=c;exact SeqAt.EqAt.bool_str a b t|_=>exact absurd (show false=true from f) B0
 |int a=>
  obtain⟨d,rfl⟩:=e;cases x with|non=>cases c;exact SeqAt.EqAt.int_none a d|bl b=>cases c;exact SeqAt.EqAt.int_bool a d b|int b=>obtain⟨t,rfl⟩:=c;exact SeqAt.EqAt.int_int a d b t|str b=>obtain⟨t,rfl⟩:=c;exact SeqAt.EqAt.int_str a d b t|_=>exact absurd (show false=true from f) B0
 |str a=>
  obtain⟨d,rfl⟩:=e;cases x with|non=>cases c;exact SeqAt.EqAt.str_none a d|bl b=>cases c;exact SeqAt.EqAt.str_bool a d b|int b=>obtain⟨t,rfl⟩:=c;exact SeqAt.EqAt.str_int a d b t|str b=>obtain⟨t,rfl⟩:=c;exact SeqAt.EqAt.str_str a d b t|_=>exact absurd (show false=true from f) B0
 |_=>exact absurd (show false=true from g) B0
def HM (x:V) (u:Value):Bool:=match u with
 |.none=>Hg .non x
 |.bool b=>Hg (.bl b) x
 |.int i _=>Hg (.int i) x
 |.str z _=>Hg (.str z) x
 |_=>false
def Gr{y:V}{u:Value}(r:RelV y u)(f:HL y=true):HM x u=Hg y x:=by
 cases y with|non=>cases r;rfl|bl b=>cases r;rfl|int i=>obtain⟨t,rfl⟩:=r;rfl|str z=>obtain⟨t,rfl⟩:=r;rfl|_=>exact absurd (show false=true from f) B0
theorem PY{x:V}:∀{xs:R'}{a:E'},Am xs a->xs.all HL=true->a.any (HM x)=xs.any λy=>Hg y x
 |_,_,.nil,_=>rfl
 |y::xs,u::a,.cons r t,f=>by rw[List.all_cons,Bool.and_eq_true] at f;rw[List.any_cons,List.any_cons,Gr r f.1,PY t f.2]
theorem PZ{A:Around}{s:Shared}{x:V}{v:Value}(c:RelV x v)(d:HL x=true):∀{xs:R'}{b:E'},Am xs b->xs.all HL=true->∀u∈b,SeqAt.EqAt A s u v (HM x u)
 |_,_,.nil,_=>λu a=>by cases a
 |y::xs,u::b,.cons r t,f=>λe a=>by rw[List.all_cons,Bool.and_eq_true] at f;rcases BL.mp a with rfl|a;rw[Gr r f.1];exact Kc r c f.1 d;exact PZ c d t f.2 e a
def Kd (x:V) (xs:R'):Bool:=xs.any λy=>Hg y x
def UV (K:Ah) (neg:Bool):R2:=λx y H Q=>∃p xs,y=.ref p/\(Ag K H p xs\/AB K H p xs)/\HL x=true/\xs.all HL=true/\Q (.bl (if neg then !Kd x xs else Kd x xs)) H
def RT:CD X (compareOp .In) (UV X.K false):=by intro k s σ H x y v u Q I e g h;obtain⟨p,j,rfl,a,f,fs,q⟩:=h;cases g;rcases a with a|a;obtain⟨b,r,c,i⟩:=I.list a;refine SeqAt.in_listAt (HM x) c.isList (λw d=>PZ e f r fs w (by simpa using d)) ⟨.bl _,H,I,rfl,?_⟩;rw[show b.toArray.any (HM x)=b.any (HM x) by simp,PY r fs];exact q;obtain⟨b,r,c,i⟩:=I.tuple a;refine SeqAt.in_tupleAt (HM x) c (λw d=>PZ e f r fs w (by simpa using d)) ⟨.bl _,H,I,rfl,?_⟩;rw[show b.toArray.any (HM x)=b.any (HM x) by simp,PY r fs];exact q
def RU:A1 X (.type "list") (λxs H Q=>∃p d,xs=[.ref p]/\(Ag X.K H p d\/AB X.K H p d)/\∀l,H l=none->Q (.ref l) (upd H l (.lst d))):=by
 intro z s σ H xs B Q I r h;obtain⟨p,d,rfl,i,q⟩:=h;obtain⟨u,rfl,y⟩:=EL r;cases y
 have x:∀(c:E'),Am d c->d.length<=sizeLine->∀(a:Heap)(f:Nat),(∀b w,s.heap.get? b=some w->a.get? b=some w) ->
  a.get? s.heap.objs.size=some {cls:=.type "list",dict:=none,data:=.seq c.toArray f,slots:=#[]}->EP X z σ Q (.ref s.heap.objs.size) {s with heap:=a}:=λc g j a f k e =>
  ⟨.ref s.heap.objs.size,_,I.laid (t':=s.toks) k (Aw _) (show Ay X.prog X.w _ a _ (.lst d) from⟨j,c,f,g,e⟩),rfl,q _ (I.hok.fresh (Aw _))⟩
 rcases i with i|i;obtain⟨c,g,m,j⟩:=I.list i;have A:=g.length;obtain⟨o,t,v,n,hd⟩:=m.isList;exact call_list_seq p (.inl rfl) t v hd (λa f k e=>x c g j a f k e) (by simp only[BR]<;>omega);obtain⟨c,g,m,j⟩:=I.tuple i;have A:=g.length;obtain⟨o,t,v,n,hd⟩:=m;exact call_list_seq p (.inr rfl) t v hd (λa f k e=>x c g j a f k e) (by simp only[BR]<;>omega)
def RV (K:Ah) (T:String) (x:V) (H:Hp):Prop:=match x with
 |.str _=>T = "str"
 |.int _=>T = "int"
 |.ref p=>(T = "list" /\ ∃xs,Ag K H p xs)\/(T = "tuple" /\ ∃o,K.lookup p=some o/\o.cls=.type "tuple" /\ o.dict=none) \/
  (T = "dict" /\ ((∃kvs,H p=some (.dK kvs))\/∃kvs,H p=some (.dT kvs)))\/(T = "set" /\ ∃S n,H p=some (.set S n))
 |_=>False
def Ke{pins:List (Addr × Obj)}{σ:St}{H:Hp}{T:String}{v:Value}(I:Inv X pins σ H s)(r:RelV x v)(ty:RV X.K T x H) :
 s.TypeIs v T/\∀a,v=.ref a->∃ob,s.heap.get? a=some ob/\ob.dict=none:=by
 cases x with
 |str z=>
  obtain⟨t,rfl⟩:=r;cases(show T = "str" from ty);exact⟨typeIs_str s z t,λ_ e=>nomatch e⟩
 |int i=>
  obtain⟨t,rfl⟩:=r;cases(show T = "int" from ty);exact⟨typeIs_int s i t,λ_ e=>nomatch e⟩
 |ref p=>
  cases r;rcases ty with⟨rfl,k,g⟩|⟨rfl,o,b,h,hd⟩|⟨rfl,b⟩|⟨rfl,S,n,b⟩;obtain⟨l,_,f,_⟩:=I.list g;refine⟨f.isList.typeIs,λa e=>?_⟩;cases e;obtain⟨o,n,e,c,hd,_⟩:=f;exact⟨o,e,hd⟩;refine⟨⟨o,I.kIn p o b,h⟩,λa e=>?_⟩;cases e;exact⟨o,I.kIn _ o b,hd⟩;have z:∃o,s.heap.get? p=some o/\o.ExactDict:=(by rcases b with⟨j,b⟩|⟨j,b⟩;obtain⟨_,_,_,_,o,_,_,e,ex,_⟩:=I.hok p _ b;exact⟨o,e,ex⟩;obtain⟨_,_,_,_,o,_,_,e,ex,_⟩:=I.hok p _ b;exact⟨o,e,ex⟩);obtain⟨o,e,ex⟩:=z;refine⟨⟨o,e,ex.1⟩,λa d=>?_⟩;cases d;exact⟨o,e,ex.2.1⟩;obtain⟨o,_,_,_,e,ex,_⟩:=I.hok p _ b;refine⟨⟨o,e,ex.1⟩,λa d=>?_⟩;cases d;exact⟨o,e,ex.2.1⟩
 |_=>exact False.elim ty
def UW (K:Ah) (T:String) (r:V->R'->Hp->VK->Prop) (to:TE) (t:TA):TE:=λσ H Q=>to σ H λx Y=>RV K T x Y/\t σ Y λxs U=>r x xs U Q
variable {o e:Expr} {es:M'} {to:TE} {t:TA} {name:Str} {apos cpos:Pos} {T id:String} {r:V->R'->Hp->VK->Prop}
def DN(f:PlainAttrs T)(B:Slot T name id)(A:typeOf (.builtin id)=pure (.type "method_descriptor"))(g:J9 X id r)(i:PE X o to)(j:PA X (e::es) t)
 (D:attributeBase o name X.env (eval o X.env)=eval o X.env:=by rfl)
 (C:((backTo cpos (starEach (e::es) X.env)).all (λx=>!x.1) && (backToKw cpos (keywordEach [] X.env)).all (λx=>x.1.isSome)
  && decide ((e::es).length+([]:List Keyword).length+(if([]:List Keyword).isEmpty then 0 else 1)<30))=true:=by rfl)
 (E:(apos.endLine==cpos.line)=true:=by rfl) (k:starEach (e::es) X.env=(false,eval e X.env)::starEach es X.env:=by rfl) (F:(backTo cpos (starEach es X.env)).any (·.1)=false:=by rfl) :
 PE X (.Call (.Attribute o name apos) (e::es) [] cpos) (UW X.K T r to t):=by
 intro a s σ H Q I h;refine wpAny_Call_method_late D C E rfl (AG (i a s σ H _ I h) λv l⟨x,Y,b,c,ty,m⟩=>?_);obtain⟨n,p⟩:=Ke b c ty;refine⟨T,id,f,B,A,n,p,?_⟩;have d:=j cpos a l σ Y _ b m;rw[k] at d ⊢;refine Calls.callWith_builtin (by show(false || (backTo cpos (starEach es X.env)).any (·.1))=false;rw[F]<;>rfl) (Calls.evalArgs_plain ?_);exact AG d λq u⟨w,U,y,z,Z⟩=>g a u σ U x w v q Q y c z Z
end
def RW (X:Cx) (id:String) (r:V->R'->Hp->VK->Prop):Prop:=
 ∀(pins:A')(s:Shared)(σ:St)(H:Hp)(x:V)(xs:R')(v:Value)(us:E')(Q:VK),Inv X pins σ H s->RelV x v->Am xs us->r x xs H Q ->
  wpAny (model X.prog X.w) X.A (call (.builtin id) (v::us)) (EP X pins σ Q) X.xe s
theorem Am.one:∀{x:V}{a:E'},Am [x] a->∃u,a=[u]/\RelV x u
 |_,_,.cons r .nil=>⟨_,rfl,r⟩
section
variable {X:Cx} {pins:A'} {σ:St} {H:Hp} {s:Shared} {l b:Addr} {xs ys zs:R'}
def Inv.lset{a its':E'}{f:L'->L'}{t':Nat}(I:Inv X pins σ H s)(b:H l=some (.lst xs))
 (e:s.heap.get? l=some {cls:=.type "list",data:=.seq a.toArray n}) (c:f a.toArray=its'.toArray) (hv:Am ys its') (hz:ys.length<=sizeLine) :
 Inv X pins σ (upd H l (.lst ys)) {s with heap:=s.heap.update l (Obj.mapSeq f),toks:=t'}:=by
 have q:=PySem.IsL.update e f;rw[c] at q;refine I.write (x:=l) (e:=l) (by rw[b];exact trivial) (.inl rfl) (λh u d g=>(Heap.get?_update_other s.heap (Obj.mapSeq f) (Ne.symm d)).trans g) ⟨_,q⟩ ?_;exact⟨hz,its',_,hv,q⟩
def Inv.lnew{a:E'}{t':Nat}(I:Inv X pins σ H s)(hv:Am ys a)(hz:ys.length<=sizeLine) :
 Inv X pins σ (upd H s.heap.objs.size (.lst ys)) {s with heap:=s.heap.push {cls:=.type "list",data:=.seq a.toArray},toks:=t'}:=
 I.laid (λ_ _ q=>AR _ q) (Aw _) ⟨hz,a,0,hv,BG _ rfl⟩
def Inv.fresh(I:Inv X pins σ H s):H s.heap.objs.size=none:=I.hok.fresh (Aw _)
def Inv.lstM(I:Inv X pins σ H s)(b:H l=some (.lst xs)):xs.length<=sizeLine/\∃(a:E')(n:Nat),Am xs a/\xs.length=a.length/\s.heap.get? l=some {cls:=.type "list",data:=.seq a.toArray n}:=by obtain⟨z,a,n,r,e⟩:=I.hok l _ b;exact⟨z,a,n,r,r.length,e⟩
def UX(h:n<=sizeLine):Builtin.List.listTooLong n=false:=by unfold Builtin.List.listTooLong;exact BZ (by omega)
end
section
variable {X:Cx}
def RX:V->R'->Hp->VK->Prop:=λx vs H Q=>∃l xs y,x=.ref l/\vs=[y]/\H l=some (.lst xs)/\xs.length<sizeLine/\Q .non (upd H l (.lst (xs++[y])))
theorem RY:RW X "list.append" RX:=by intro o s σ H x g v i Q I c d h;obtain⟨l,j,y,rfl,rfl,a,k,q⟩:=h;cases c;obtain⟨u,rfl,f⟩:=d.one;obtain⟨z,b,n,r,m,e⟩:=I.lstM a;refine call_meets F.slot_list_append ⟨_,e,rfl⟩ F.entry_list_append (F.args_list_append_2 _ _) (PySem.list_append l b.toArray n u (by rw[BR];omega)) ⟨e,?_⟩;refine⟨.non,_,I.lset (its':=b++[u]) a e (by simp) (r.append (.cons f .nil)) ?_,rfl,q⟩;rw[BF,Ju];omega
def RZ:V->R'->Hp->VK->Prop:=λx vs H Q=>∃l b xs zs,x=.ref l/\vs=[.ref b]/\H l=some (.lst xs)/\H b=some (.lst zs)/\xs.length+zs.length<=sizeLine/\Q .non (upd H l (.lst (xs++zs)))
theorem UY:RW X "list.extend" RZ:=by
 intro J s σ H x w v y Q I f g h;obtain⟨l,b,A,B,rfl,rfl,d,i,C,q⟩:=h;cases f;obtain⟨u,rfl,j⟩:=g.one;cases j;obtain⟨z,a,n,r,D,e⟩:=I.lstM d;obtain⟨E,c,k,m,G,o⟩:=I.lstM i;have p:a.toArray.size+c.toArray.size<=sizeLine:=by rw[BR,BR];omega
 have t:¬(!a.toArray.isEmpty && Builtin.List.listTooLong (a.toArray.size+c.toArray.size))=true:=(by rw[UX p,Bool.and_false];exact B0)
 refine call_meets F.slot_list_extend ⟨_,e,rfl⟩ F.entry_list_extend (F.args_list_extend_2 _ _)
  (AutoSeq1.list_extend_list_list_0 l a.toArray n b c.toArray k t (by rw[BR];omega) (by omega)) ⟨e,o,?_⟩
 refine⟨.non,_,I.lset (its':=a++c) d e (by simp) (r.append m) ?_,rfl,q⟩;rw[BF];omega
def P0:R2:=λx y H Q=>∃l b xs zs,x=.ref l/\y=.ref b/\H l=some (.lst xs)/\H b=some (.lst zs)/\xs.length+zs.length<=sizeLine/\∀p,H p=none->Q (.ref p) (upd H p (.lst (xs++zs)))
def Jc:CD X (binaryOp .Add) P0:=by intro D s σ H x y v u Q I d f h;obtain⟨l,b,o,p,rfl,rfl,g,i,t,q⟩:=h;cases d;cases f;obtain⟨z,a,n,r,w,e⟩:=I.lstM g;obtain⟨A,c,B,j,C,k⟩:=I.lstM i;refine PySem.P.add_list e k ?_ (by rw[BR,BR];omega);have m:a.toArray++c.toArray=(a++c).toArray:=(by simp);rw[m];exact⟨.ref _,_,I.lnew (t':=s.toks) (r.append j) (by rw[BF];omega),rfl,q _ I.fresh⟩
end
section
variable {prog:Program} {w:World} {A:Around} {E:B'} {s:Shared}
end
section
variable {X:Cx}
end
section
variable {κ:Type} [DecidableEq κ]
def AZ (kvs:List (κ×V)) (k:κ):U':=(kvs.find? λkv=>decide (kv.1=k)).map (·.2)
def Bj (kvs:List (κ×V)) (k:κ) (v:V):List (κ×V):=
 if(kvs.any λkv=>decide (kv.1=k))=true then kvs.map (λkv=>if kv.1=k then(kv.1,v) else kv) else kvs++[(k,v)]
def P1{p:κ×V}{r:List (κ×V)}{k:κ}(e:p.1=k):AZ (p::r) k=some p.2:=by simp[AZ,Li,e]
def P2{p:κ×V}{r:List (κ×V)}{k:κ}(e:¬p.1=k):AZ (p::r) k=AZ r k:=by simp[AZ,Li,e]
theorem R3(k:κ):∀kvs:List (κ×V),(kvs.any λa=>decide (a.1=k))=(AZ kvs k).isSome
 |[]=>rfl
 |p::r=>by rw[List.any_cons];by_cases e:p.1=k;simp only[P1 e,B2 e,Bool.true_or,Option.isSome_some];rw[P2 e,BZ e,Bool.false_or];exact R3 k r
def MP(kvs:List (κ×V))(k:κ)(v:V):(Bj kvs k v).length<=kvs.length+1:=by unfold Bj;split;rw[AD];omega;rw[BF,Ej,EG];omega
def Dg.isSome_eq{o:U'}{u:J'}(r:Dg o u):o.isSome=u.isSome:=by
 cases o with
 |none=>cases u with
   |none=>rfl
   |some _=>exact(show False from r).elim
 |some _=>cases u with
   |none=>exact(show False from r).elim
   |some _=>rfl
def Dg.getD{o:U'}{u:J'}{d:V}{d':Value}(r:Dg o u)(a:RelV d d'):RelV (o.getD d) (u.getD d'):=by
 cases o with
 |none=>cases u with
   |none=>exact a
   |some _=>exact(show False from r).elim
 |some _=>cases u with
   |none=>exact(show False from r).elim
   |some _=>exact r
variable {kvs:List (κ×V)}{vs:List (κ×Value)}
def KV.val(r:KV kvs vs)(k:κ):Dg (AZ kvs k) (valueAt vs k):=by
 unfold KV at r
 induction r with|nil=>exact True.intro|@cons p q i a h t f=>obtain⟨d,g⟩:=h;by_cases e:p.1=k;have c:q.1=k:=d.symm.trans e;have b:valueAt (q::a) k=some q.2:=(by simp[valueAt,Li,c]);rw[P1 e,b];exact g;have c:¬q.1=k:=λz=>e (d.trans z);have b:valueAt (q::a) k=valueAt a k:=(by simp[valueAt,Li,c]);rw[P2 e,b];exact f
def KV.any{kvs:List (κ×V)}{vs:List (κ×Value)}(r:KV kvs vs)(k:κ):(kvs.any λa=>decide (a.1=k))=vs.any λa=>decide (a.1=k):=by
 unfold KV at r
 induction r with|nil=>rfl|cons h t b=>rw[List.any_cons,List.any_cons,b,h.1]
def KV.repl(r:KV kvs vs)(k:κ){y:V}{u:Value}(c:RelV y u) :
 KV (kvs.map λa=>if a.1=k then(a.1,y) else a) (vs.map λa=>if a.1=k then(a.1,u) else a):=by
 unfold KV at r ⊢
 induction r with|nil=>exact .nil|@cons p q g i h t d=>rw[D1,D1];refine .cons ?_ d;obtain⟨b,f⟩:=h;by_cases e:p.1=k;rw[Ap e,Ap (b.symm.trans e)];exact⟨b,c⟩;rw[An e,An (λz=>e (b.trans z))];exact⟨b,f⟩
def KV.put(r:KV kvs vs)(k:κ){y:V}{u:Value}(a:RelV y u):KV (Bj kvs k y) (stored vs k u):=by unfold Bj stored;rw[r.any k];by_cases e:(vs.any λb=>decide (b.1=k))=true;rw[Ap e,Ap e];exact r.repl k a;rw[An e,An e];exact Paired.snoc r ⟨rfl,a⟩
def KV.keys(r:KV kvs vs):kvs.map (·.1)=vs.map (·.1):=by
 unfold KV at r
 induction r with|nil=>rfl|cons h t a=>rw[D1,D1,a,h.1]
def KV.length{kvs:List (κ×V)}{vs:List (κ×Value)}(r:KV kvs vs):kvs.length=vs.length:=Paired.length r
end
variable {P:Program}{w:World}{u:Value}
def Kf{k:A2}(r:RelV (kV k) u):(Dj P w).is k u=true:=by
 cases k with|inl i=>obtain⟨t,e⟩:=(show ∃t,u=Value.int i t from r);subst e;exact Uz P w i t|inr x=>obtain⟨t,e⟩:=(show ∃t,u=Value.str x t from r);subst e;exact UA P w x t
theorem R6{P:Program}{w:World}:∀{ks:List A2}{a:E'},Am (ks.map kV) a->ItemsAre (Dj P w) ks a
 |[],_,r=>by rw[Mr] at r;cases r;exact .nil
 |k::ks,_,r=>by
   rw[D1] at r;cases r with|cons h t=>exact .cons (Kf h) (R6 t)
abbrev KT (H:Hp):List (List A2×V)->List (List A2×Addr×Value)->Prop:=Paired λp q=>p.1=q.1/\H q.2.1=some (.tup (p.1.map kV))/\RelV p.2 q.2.2
variable {H:Hp}{kvs:List (List A2×V)}{xs:List (List A2×Addr×Value)}
def KT.val(r:KT H kvs xs)(k:List A2):Dg (AZ kvs k) ((atKey xs k).map (·.2)):=by
 induction r with|nil=>exact True.intro|@cons p q i a h t f=>obtain⟨d,_,g⟩:=h;by_cases e:p.1=k;have c:q.1=k:=d.symm.trans e;have b:atKey (q::a) k=some q.2:=(by simp[atKey,Li,c]);rw[P1 e,b];exact g;have c:¬q.1=k:=λz=>e (d.trans z);have b:atKey (q::a) k=atKey a k:=(by simp[atKey,Li,c]);rw[P2 e,b];exact f
variable {y:V}
def KT.repl(r:KT H kvs xs)(k:List A2)(d:RelV y u) :
 KT H (kvs.map λb=>if b.1=k then(b.1,y) else b) (xs.map (putAt k u)):=by
 induction r with|nil=>exact .nil|@cons p q i j h t f=>rw[D1,D1];refine .cons ?_ f;obtain⟨a,c,g⟩:=h;unfold putAt;by_cases e:p.1=k;rw[Ap e,Ap (a.symm.trans e)];exact⟨a,c,d⟩;rw[An e,An (λz=>e (a.trans z))];exact⟨a,c,g⟩
def KT.put(r:KT H kvs xs)(k:List A2){b:Addr}(c:H b=some (.tup (k.map kV)))(a:RelV y u) :
 KT H (Bj kvs k y) (storedH xs k b u):=by
 have e:(kvs.any λd=>decide (d.1=k))=(atKey xs k).isSome:=(by rw[R3,(r.val k).isSome_eq,Option.isSome_map]);unfold Bj storedH;rw[e];by_cases q:(atKey xs k).isSome=true;rw[Ap q,Ap q];exact r.repl k a;rw[An q,An q];exact Paired.snoc r ⟨rfl,c,a⟩
variable {H':Hp}
def KT.keeps(r:KT H kvs xs)(c:∀b a,H b=some (.tup a)->H' b=some (.tup a)):KT H' kvs xs:=
 Paired.mapP r λ_ _ z=>⟨z.1,c _ _ z.2.1,z.2.2⟩
section
variable {P:Program} {w:World} {H:Hp} {h:Heap} {a:Addr}
def Gu{u:HO}(ok:Ce P w H h)(e:Rd H a u):Ay P w H h a u:=e.ok ok
def Kg{kvs:List (A2×V)}(ok:Ce P w H h)(e:Rd H a (.dK kvs)):kvs.length<=sizeLine/\(a==sysModules)=false/\∃vs,KV kvs vs/\h.DictOf (Dj P w) a vs:=
 show Ay P w H h a (.dK kvs) from Gu ok e
def Gv{kvs:List (A2×V)}(ok:Ce P w H h)(e:H a=some (.dK kvs)):kvs.length<=sizeLine/\(a==sysModules)=false/\∃vs,KV kvs vs/\h.DictOf (Dj P w) a vs:=Kg ok (.inl e)
def Jd{ks:List A2}(ok:Ce P w H h)(e:H a=some (.tup (ks.map kV))):(tupleKind (Dj P w)).is h ks a:=by obtain⟨_,f,r,o,b,c,n,d⟩:=(show Ay P w H h a (.tup (ks.map kV)) from ok a _ e);exact⟨o,f.toArray,n,b,c,d,by simpa using R6 r⟩
def Kh(ok:Ce P w H h)(e:Rd H a (.dT kvs)):kvs.length<=sizeLine/\(a==sysModules)=false /\
 ∃xs,KT H kvs xs/\h.DictOfH (tupleKind (Dj P w)) a xs:=by
 obtain⟨z,y,xs,r,o,d,f,g,i,j,k,n⟩:=(show Ay P w H h a (.dT kvs) from Gu ok e);refine⟨z,y,xs,r,o,d,f,g,i,j,k,λx b=>?_,n⟩
 have all:∀{l:List (List A2 × V)}{m:List (List A2 × Addr × Value)},KT H l m -> ∀x∈m,(tupleKind (Dj P w)).is h x.1 x.2.1:=by
  intro l m q
  induction q with
  |nil=>intro x b;exact nomatch b
  |@cons p q u v c t s=>intro x b;rcases BL.mp b with e|b;subst e;exact Jd ok (by rw[<-c.1];exact c.2.1);exact s x b
 exact all r x b
def Gw(ok:Ce P w H h)(e:H a=some (.dT kvs)):kvs.length<=sizeLine/\(a==sysModules)=false /\
 ∃xs,KT H kvs xs/\h.DictOfH (tupleKind (Dj P w)) a xs:=Kh ok (.inl e)
end
def Ch (H:Hp) (a:Addr) (y:V) (r:U'):Prop:=
 (∃kvs k,Rd H a (.dK kvs)/\y=kV k/\r=AZ kvs k)\/∃kvs k b,Rd H a (.dT kvs)/\y=.ref b/\H b=some (.tup (k.map kV))/\r=AZ kvs k
def Gx (H:Hp) (a:Addr) (y v:V) (H':Hp):Prop:=
 (∃kvs k,H a=some (.dK kvs)/\y=kV k/\kvs.length<sizeLine/\H'=upd H a (.dK (Bj kvs k v))) \/
 ∃kvs k b,H a=some (.dT kvs)/\y=.ref b/\H b=some (.tup (k.map kV))/\kvs.length<sizeLine/\H'=upd H a (.dT (Bj kvs k v))
def Ch.k{H:Hp}{a:Addr}{kvs:List (A2×V)}{k:A2}(e:H a=some (.dK kvs)):Ch H a (kV k) (AZ kvs k):=.inl ⟨kvs,k,.inl e,rfl,rfl⟩
variable {a:Addr}
def Ch.t{b:Addr}{k:List A2}(e:H a=some (.dT kvs))(c:H b=some (.tup (k.map kV))):Ch H a (.ref b) (AZ kvs k):=.inr ⟨kvs,k,b,.inl e,rfl,c,rfl⟩
def Gx.k{H:Hp}{a:Addr}{kvs:List (A2×V)}{k:A2}{v:V}(e:H a=some (.dK kvs))(b:kvs.length<sizeLine):Gx H a (kV k) v (upd H a (.dK (Bj kvs k v))):=.inl ⟨kvs,k,e,rfl,b,rfl⟩
section
variable {X:Cx} {pins:A'} {σ:St} {H:Hp} {s:Shared} {a:Addr} {y v:V} {u r:Value} {o:U'} {A:Around} {E:B'}
def Inv.big(I:Inv X pins σ H s):sysModules<s.heap.objs.size:=by have h:mainGlobals<s.heap.objs.size:=(I.mod.glob.keeps I.bk).lt;exact Nat.lt_trans (by decide) h
variable {Q:B'}
def UZ(r:A.units+1<cLine)(I:Inv X pins σ H s)(g:Ch H a y (some v))(n:RelV y u)(h:∀c q,Inv X pins σ H q->RelV v c->Q c q) :
 wpAny (model X.prog X.w) A (getItem (.ref a) u) Q E s:=by
 rcases g with⟨kvs,k,e,d,l⟩|⟨kvs,k,b,e,d,t,l⟩;subst d;obtain⟨z,hd,w,j,f⟩:=Kg I.hok e;obtain⟨c,i,m⟩:=Dg.some_of (v:=v) (o:=valueAt w k) (by rw[l];exact j.val k);exact wpAny_getItem_of (Kf n) f.mapOf i (h c _ (I.tok _) m);subst d;cases(show u=Value.ref b from n);obtain⟨z,hd,xs,j,f⟩:=Kh I.hok e;obtain⟨c,i,m⟩:=Dg.some_of (v:=v) (o:=(atKey xs k).map (·.2)) (by rw[l];exact j.val k);obtain⟨p,x,B⟩:=Dd.mp i;refine wpAny_getItem_heap (tupleKind_room_in1 r) (Jd I.hok t) f x ?_;rw[B];exact h c _ (I.tok _) m
def P4(m:A.units+1<cLine)(I:Inv X pins σ H s)(g:Ch H a y o)(i:RelV y u)(h:∀j,Inv X pins σ H j->Q (.bool o.isSome) j) :
 wpAny (model X.prog X.w) A (compareOp .In u (.ref a)) Q E s:=by
 rcases g with⟨kvs,k,e,c,l⟩|⟨kvs,k,b,e,c,n,l⟩;subst c;obtain⟨z,hd,p,f,d⟩:=Kg I.hok e;refine wpAny_in_of (Kf i) hd d.mapOf ?_;rw[<-(f.val k).isSome_eq,<-l];exact h _ (I.tok _);subst c;cases(show u=Value.ref b from i);obtain⟨z,hd,xs,f,d⟩:=Kh I.hok e;refine wpAny_in_heap (tupleKind_room_in1 m) (Jd I.hok n) hd d ?_;have q:=(f.val k).isSome_eq;rw[Option.isSome_map] at q;rw[<-q,<-l];exact h _ (I.tok _)
def HN(m:A.units+1<cLine)(I:Inv X pins σ H s)(g:Ch H a y o)(i:RelV y u)(h:∀j,Inv X pins σ H j->Q (.bool (!o.isSome)) j) :
 wpAny (model X.prog X.w) A (compareOp .NotIn u (.ref a)) Q E s:=by
 rcases g with⟨kvs,k,e,c,l⟩|⟨kvs,k,b,e,c,n,l⟩;subst c;obtain⟨z,hd,p,f,d⟩:=Kg I.hok e;refine wpAny_notIn_of (Kf i) hd d.mapOf ?_;rw[<-(f.val k).isSome_eq,<-l];exact h _ (I.tok _);subst c;cases(show u=Value.ref b from i);obtain⟨z,hd,xs,f,d⟩:=Kh I.hok e;refine wpAny_notIn_heap (tupleKind_room_in1 m) (Jd I.hok n) hd d ?_;have q:=(f.val k).isSome_eq;rw[Option.isSome_map] at q;rw[<-q,<-l];exact h _ (I.tok _)
def MQ{h':Heap}{t':Nat}{ob:HO}(I:Inv X pins σ H s)(c:Mt (H a))(d:Heap.SameBut a s.heap h')(f:∃q,h'.get? a=some q)(h:Ay X.prog X.w (upd H a ob) h' a ob) :
 Inv X pins σ (upd H a ob) {s with heap:=h',toks:=t'}:=
 I.write (x:=a) (e:=a) c (.inl rfl) (λb q g z=>(d.2 b g).trans z) f h
def Gy{h':Heap}{kvs:List (A2×V)}{vs:List (A2×Value)}(z:kvs.length<=sizeLine)(hd:(a==sysModules)=false)(b:KV kvs vs)(dd:h'.DictOf (Dj P w) a vs) :
 Ay P w H' h' a (.dK kvs):=⟨z,hd,vs,b,dd⟩
def U0{Q:Unit->Shared->Prop}(G:A.units+1<cLine)(I:Inv X pins σ H s)(g:Gx H a y v H')(w:RelV y u)(x:RelV v r)(h:∀B,Inv X pins σ H' B->Q () B) :
 wpAny (model X.prog X.w) A (setItem (.ref a) u r) Q E s:=by
 rcases g with⟨kvs,k,e,j,l,m⟩|⟨kvs,k,b,e,j,C,l,m⟩;subst j m;obtain⟨z,hd,J,d,n⟩:=Gv I.hok e;have o:J.length<=sizeLine:=by rw[<-d.length];exact z
 have p:(Bj kvs k v).length<=sizeLine:=by have:=MP kvs k v;omega
 refine wpAny_setItem_pairs (hsz:=o) (Kf w) n λD i t=>h _ ?_;have K:∃q,D.get? a=some q:=let ⟨q,_,_,f,_⟩:=i;⟨q,f⟩;exact MQ I (by rw[e];exact True.intro) t K (Gy p hd (d.put k x) i);subst j m;cases(show u=Value.ref b from w);obtain⟨z,hd,xs,d,n⟩:=Gw I.hok e;have o:xs.length<=sizeLine:=by rw[<-Paired.length d];exact z
 have p:(Bj kvs k v).length<=sizeLine:=by have:=MP kvs k v;omega
 refine wpAny_setItem_heap (hsz:=o) (tupleKind_room_in1 G) (Jd I.hok C) n λD i t=>h _ ?_;obtain⟨q,L,M,f,N,O,P,_,R⟩:=i;refine MQ I (by rw[e];exact True.intro) t ⟨q,f⟩ ⟨p,hd,_,(d.put k C x).keeps λc S F=>?_,q,L,M,f,N,O,P,R⟩;rw[Ax (NV F e (λz=>nomatch z))];exact F
end
section
variable {X:Cx} {pins:A'} {σ:St} {H:Hp} {s:Shared} {a:Addr} {kvs:List (A2×V)} {k:A2} {u:Value} {A:Around} {E:B'}
end
def MR (i:Expr):Prop:=∀ov iv,subscripted i false ov iv=operate [ov,iv] (getItem ov iv)
variable {s:Shared}
def HP{prog:Program}{A:Around}{E:B'}{env:Env}{d slice:Expr}{G:Pos}{T id:String}{Q:B'}
 (j:typeLookup (.type T) "__getitem__" = pure (some (.builtin id))) (k:MR slice)
 (h:wpAny (model prog w) A (eval d env) (λo e=>wpAny (model prog w) A (eval slice env) (λi a=>a.TypeIs o T/\wpAny (model prog w) A (getItem o i) Q E a) E e) E s) :
 wpAny (model prog w) A (eval (.Subscript d slice G) env) Q E s:=by
 refine Subscript_ (Do h (λo e l=>Do l (λi a b=>?_) λ_ _ x=>x) λ_ _ x=>x);obtain⟨f,b⟩:=b;unfold subscriptTail;refine Ac ?_;rw[getitemInPython_of_ne f.not_modules];refine Ac (wpAny_specialOf f j ?_);have c:wpAny (model prog w) A (subscripted slice false o i) (λr g=>wpAny (model prog w) A (letTemporaryGo d o r >>= λ_=>pure r) Q E g) E a:=(by rw[k o i];exact wpAny_operating (Do b (λr g m=>Ac (wpAny_letTemporaryGo (Al m))) λ_ _ x=>x))
 first
  |exact Al (Ac c)
  |exact Ac (Al (Ac c))
  |exact Ac c
def U1{X:Cx}{pins:A'}{σ:St}{o:U'}(I:Inv X pins σ H s)(g:Ch H a y o):s.TypeIs (.ref a) "dict" :=by rcases g with⟨kvs,k,e,_,_⟩|⟨kvs,k,b,e,_,_,_⟩;obtain⟨_,_,d,_,c⟩:=Kg I.hok e;exact c.typeIs;obtain⟨_,_,xs,_,c⟩:=Kh I.hok e;exact c.typeIs
def MS (k ty:TE):TE:=λσ H Q=>k σ H λx Y=>ty σ Y λy U=>∃a v,x=.ref a/\Ch U a y (some v)/\Q v U
section
variable {X:Cx} {o i e d:Expr} {G F c:Pos} {k ty tv:TE}
def HQ(d:X.A.units+1<cLine)(e:PE X o k)(hi:PE X i ty)(f:MR i):PE X (.Subscript o i G) (MS k ty):=by intro c s σ H Q I h;refine HP PySem.F.slot_dict_getitem.lookup f (AG (e c s σ H _ I h) λu j⟨x,Y,l,m,n⟩=>AG (hi c j σ Y _ l n) λt w⟨y,U,b,p,a,v,ex,g,Z⟩=>?_);subst ex;obtain rfl:u=Value.ref a:=m;exact⟨U1 b g,UZ d b g p λz A q r=>⟨v,U,q,r,Z⟩⟩
end
def U2(h:Heap)(a:sysModules<h.objs.size):Ay P w H (h.push {cls:=.type "dict",data:=.dict #[]}) h.objs.size (.dK []):=
 ⟨A9 _,beq_eq_false_iff_ne.mpr (Ne.symm (Bu a)),[],.nil,Heap.DictOf.new h⟩
def R7(h:Heap)(a:sysModules<h.objs.size):Ay P w H (h.push {cls:=.type "dict",data:=.dict #[]}) h.objs.size (.dT []):=
 ⟨A9 _,beq_eq_false_iff_ne.mpr (Ne.symm (Bu a)),[],.nil,_,#[],0,BG _ rfl,⟨rfl,rfl,rfl⟩,rfl,rfl,List.nodup_nil⟩
def Ki:TE:=λ_ H Q=>∀p,H p=none->Q (.ref p) (upd H p (.dK []))
def Kj:TE:=λ_ H Q=>∀p,H p=none->Q (.ref p) (upd H p (.dT []))
section
variable {X:Cx} {G:Pos}
def R8:PE X (.Dict [] [] G) Ki:=λb s σ H Q I h =>
 wpAny_Dict_empty ⟨.ref s.heap.objs.size,_,I.laid (a:=s.heap.objs.size) (o:=.dK []) (t':=s.toks) (λ_ _ q=>AR _ q) (Aw _) (U2 s.heap I.big),rfl,h _ (I.hok.fresh (Aw _))⟩
def P5:PE X (.Dict [] [] G) Kj:=λb s σ H Q I h =>
 wpAny_Dict_empty ⟨.ref s.heap.objs.size,_,I.laid (a:=s.heap.objs.size) (o:=.dT []) (t':=s.toks) (λ_ _ q=>AR _ q) (Aw _) (R7 s.heap I.big),rfl,h _ (I.hok.fresh (Aw _))⟩
end
structure M2 (X:Cx) (o:Expr) (m:Str) (apos:Pos) (e f:Expr) (cpos:Pos):Prop where
 base:attributeBase o m X.env (eval o X.env)=eval o X.env
 few:((backTo cpos (starEach [e,f] X.env)).all (λx=>!x.1) && (backToKw cpos (keywordEach [] X.env)).all (λx=>x.1.isSome)
  && decide (([e,f]:M').length+([]:List Keyword).length+(if([]:List Keyword).isEmpty then 0 else 1)<30))=true
 line:(apos.endLine==cpos.line)=true
 trees:backTo cpos (starEach [e,f] X.env)=[(false,eval e X.env),(false,eval f X.env)]
def R9 (H:Hp) (a:Addr):Prop:=(∃kvs,Rd H a (.dK kvs))\/∃kvs,Rd H a (.dT kvs)
def Kk{X:Cx}{pins:A'}{σ:St}(I:Inv X pins σ H s)(d:R9 H a) :
 s.TypeIs (.ref a) "dict" /\ (∀b,Value.ref a=.ref b->∃ob,s.heap.get? b=some ob/\ob.dict=none)/\(a==sysModules)=false:=by
 rcases d with⟨kvs,e⟩|⟨kvs,e⟩;obtain⟨_,hd,h,_,c⟩:=Kg I.hok e;refine⟨c.typeIs,λb q=>?_,hd⟩;cases q;obtain⟨ob,_,_,f,g,_⟩:=c;exact⟨ob,f,g.2.1⟩;obtain⟨_,hd,xs,_,c⟩:=Kh I.hok e;refine⟨c.typeIs,λb q=>?_,hd⟩;cases q;obtain⟨ob,_,_,f,g,_⟩:=c;exact⟨ob,f,g.2.1⟩
section
variable {X:Cx} {pins:A'} {σ:St} {H:Hp} {s:Shared} {a:Addr} {y d:V} {u r:Value} {o:U'} {A:Around} {E:B'}
def Gz{Q:B'}(q:A.units+1<cLine)(I:Inv X pins σ H s)(g:Ch H a y o)(j:RelV y u)(m:RelV d r)(h:∀n p,Inv X pins σ H p->RelV (o.getD d) n->Q n p) :
 wpAny (model X.prog X.w) A (call (.builtin "dict.get") [.ref a,u,r]) Q E s:=by
 rcases g with⟨kvs,k,e,f,l⟩|⟨kvs,k,b,e,f,t,l⟩;subst f;obtain⟨z,hd,v,i,c⟩:=Kg I.hok e;refine call_meetsIn PySem.F.slot_dict_get c.typeIs PySem.F.entry_dict_get (PySem.F.args_dict_get_3 _ _ _) (meets_dict_get_default (Dj X.prog X.w) a (Kf j) hd r) ⟨_,c.mapOf,h _ _ (I.tok _) ?_⟩;rw[l];exact(i.val k).getD m;subst f;cases(show u=Value.ref b from j);obtain⟨z,hd,xs,i,c⟩:=Kh I.hok e;refine call_meetsIn PySem.F.slot_dict_get c.typeIs PySem.F.entry_dict_get (PySem.F.args_dict_get_3 _ _ _) (meetsH_dict_get_default (tupleKind (Dj X.prog X.w)) a b hd r) ⟨tupleKind_room_in1 q,k,xs,Jd I.hok t,c,h _ _ (I.tok _) ?_⟩;rw[l];exact(i.val k).getD m
end
def Kl (k ty tx:TE):TE:=λσ H Q=>k σ H λx Y=>∃a,x=.ref a/\R9 Y a/\ty σ Y λy U=>tx σ U λz H3=>∃o,Ch H3 a y o/\Q (o.getD z) H3
section
variable {X:Cx} {o e f:Expr} {apos cpos:Pos} {k ty tx:TE}
def U3(i:X.A.units+1<cLine)(j:PE X o k)(l:PE X e ty)(n:PE X f tx)(m:M2 X o "get" apos e f cpos):PE X (.Call (.Attribute o "get" apos) [e,f] [] cpos) (Kl k ty tx):=by
 intro b s σ H Q I h;refine wpAny_Call_method m.base m.few m.line PySem.F.plainAttrs_dict PySem.F.slot_dict_get PySem.F.type_dict_get (AG (j b s σ H _ I h) λu p⟨x,Y,c,q,a,ex,d,r⟩=>?_);subst ex;obtain rfl:u=Value.ref a:=q;obtain⟨t,v,_⟩:=Kk c d;refine⟨t,v,?_⟩;rw[m.trees]
 refine Calls.callWith_builtin rfl (Calls.evalArgs_plain (Calls.spliced_cons (AG (l b p σ Y _ c r) λK w⟨y,U,A,B,Z⟩ =>
  Calls.spliced_cons (AG (n b w σ U _ A Z) λL M⟨z,C,D,E,N,g,F⟩=>Calls.spliced_nil ?_))))
 exact Gz i D g B E λO P G J=>⟨_,C,G,J,F⟩
end
section
variable {X:Cx} {pins:A'} {σ:St} {H:Hp} {s:Shared} {a:Addr} {kvs:List (A2×V)} {A:Around} {E:B'}
end
section
variable {X:Cx} {pins:A'} {σ:St} {H:Hp} {s:Shared} {a:Addr} {y:V} {u:Value} {A:Around} {E:B'}
end
end L2
namespace Att
open PySem PySem.W PySem.Calls PyProof.Rows
def U4{P:Params}{h:Heap}:∀(c:D')(vs:E'),WellAll P h vs (c.map WData.int)->IntsAre vs c:=by
 intro c
 induction c with
 |nil=>intro vs w;rw[Mr] at w;cases w;exact .nil
 |cons n c d=>
  intro vs w;rw[D1] at w;cases w with|cons a b=>cases a;exact .cons _ _ (d _ b)
def U5{l:OpenLaw}{n:Nat}(j:l.most=some n){P:Params}{h:Heap}{args:List WData}{g:E'}
 (i:l.row.toRowW.claim.pre args=true) (u:WellAll P h g args) :
 ∃a vs b,g=[Value.ref a]/\args=[WData.list (b.map WData.int)]/\h.get? a=some {cls:=.type "list",data:=.seq vs.toArray}/\IntsAre vs b/\b.length<=n:=by
 have v:WShape.hasAll [] args [.list .int]=true:=(pre_splitW i).1;have f:l.pre.holds [] {args:=args}=true:=(pre_splitW i).2;obtain⟨d,r,rfl,k,m⟩:=hasAllW_cons v;obtain rfl:=hasAllW_nil m;obtain⟨y,rfl,o⟩:=hasW_list k;obtain⟨b,rfl⟩:=items_int o
 have w:b.length<=n:=by
  unfold OpenLaw.pre at f;have c:(WTm.not (.lt (.lit (.int (n:Int))) (.len (.arg 0)))).holds [] {args:=[.list (b.map .int)]}=true:=(by have c:=(holds_andW f).1;rw[j] at c;exact c);have e:=condW_of c (w_not (w_lt w_lit (w_len_list (w_arg rfl))));rw[AD] at e;refine Nat.le_of_not_lt λq=>?_;have p:(n:Int)<((b.length:Nat):Int):=(by omega)
  first
   |(rw[B2 p] at e;exact absurd e (by decide))
   |(simp at e;omega)
 cases u with
 |cons C s=>
  cases s;cases C with|list t x=>exact⟨_,_,b,rfl,rfl,t,U4 b _ x,w⟩
def U6(l:OpenLaw)(args:List WData):l.row.toRowW.claim.post args (.bool true) args=true:=
 postW_of (r:=l.row.toRowW) (X:=(true==true))
  (show WShape.has [] (.bool true) .bool=true by first|rfl|decide|simp[WShape.has,WShape.arms,WShape.armsAll])
  (show(WTm.eq .res (.lit (.bool true))).value [] {args:=args,res:=some (.bool true),after:=args}=some (.bool (true==true)) from w_eq_bool (w_res rfl) w_lit) rfl
def attach_call{l:OpenLaw}{n:Nat}{q:Program}{loose:G'}{XP:(Str->J')->Heap->Prop}{YP:World->Heap->Prop}{d:DefRec}
 (s:l.most=some n) (D:d.params.defaults=[])
 (call:∀(w:World)(i b:Shared)(e j:Str->J')(c:Addr)(o:Obj)(k B m:Value)(a:Addr)(vs:E')(g:D'),
  Ground q loose [] XP w i e j b.heap->YP w b.heap ->
  b.heap.get? c=some o->o.data=.func (docDef d.name d.params d.body d.scope k B m)->b.heap.CodeRec B d.name->e d.name=some (.ref c) ->
  b.heap.get? a=some {cls:=.type "list",data:=.seq vs.toArray}->IntsAre vs g->g.length<=n->b.gens=#[] ->
  codeAny (model l.prog w) callerA (.call (.ref c) ⟨[.ref a],[]⟩) (λr h=>r=.ok (.ret (.bool true))/\OldK b.heap h.heap/\h.os=b.os/\AllBare h.gens) b) :
 WalkO q loose XP YP l.row.toRowW d [] (λf vs=>PySem.call f vs):=by
 intro w i b e j G Y c o k B m t kV u hd E p F v P Q M I R N H O;obtain rfl:t=.none:=Dflts.none p D;obtain rfl:kV=.none:=Dflts.noKw p;obtain⟨a,vs,g,rfl,rfl,J,L,K⟩:=U5 s I H;refine enter_call (codeAny_mono (call w i b e j c o k B m a vs g G Y u (fd_plain hd) E F J L K v) λr h x=>?_);obtain⟨rfl,y,z,A⟩:=x;exact⟨.inl ⟨.bool true,.bool true,[],rfl,λ_=>rfl,.bool true,U6 l _,λ_=>⟨List.Pairwise.nil,λ_ C=>(nomatch C)⟩⟩,y,z,A⟩
section
variable {prog:Program} {w:World} {A:Around} {E:B'} {s:Shared} {K:Frag}
end
end Att
namespace L2
open PySem PySem.Spec PyProof.Rows
theorem Sa:∀{vs:E'}{a:D'},IntsAre vs a->Am (a.map V.int) vs
 |_,_,.nil=>.nil
 |_,_,.cons n t h=>.cons ⟨t,rfl⟩ (Sa h)
def Bv (H:Hp):Prop:=∀b,H b=none\/∃o xs,H b=some (.frz o (.lst xs))
variable {P:Program}{w:World}{a:Addr}{fd:FuncData}{x:Str}
def U7 {K:Ah} {i B:Str->J'} {CX:FA} {k:Nat} {C:Addr} {sp:Sp} {c:Shared} {vs:E'} {j:D'}
 (G:K.In c.heap) (O:c.heap.Ns mainGlobals i) (f:c.heap.Ns builtinsNs B) (ab:∀x:Str,x ≠ "__name__" -> B x=bootBuiltins x) (ah:c.heap.NoLimit) (U:c.gens=#[])
 (y:c.heap.get? a=some {cls:=.type "list",data:=.seq vs.toArray}) (hi:IntsAre vs j) (I:j.length<=sizeLine) (W:Bc k callerA)
 (F:∀base:Heap,K.In base->base.Ns mainGlobals i->Cg P w K i base CX k C fd [x] sp) (al:∀(s:Shared)(u:Value),BindsTo s fd ⟨[u],[]⟩ [(x,u)])
 (ae:∀H:Hp,Bv H->Ag K H a (j.map V.int)->sp [.ref a] H (λv _=>v=.bl true) λ_ _ _=>False)
 (af:∀H e g,CX [] H c (λ_ _ _=>False) e g->False) :
 codeAny (model P w) callerA (.call (.ref C) ⟨[.ref a],[]⟩) (λr g=>r=.ok (.ret (.bool true))/\OldK c.heap g.heap/\g.os=c.os/\AllBare g.gens) c:=by
 have J:=Sa hi;have ai:=hi.length
 have S:∀ H:Hp,Bv H->Ag K H a (j.map V.int)->Ce P w H c.heap->(∀ b,H b≠none->b=a)->(H a≠none->K.lookup a=none) ->
  codeAny (model P w) callerA (.call (.ref C) ⟨[.ref a],[]⟩) (λr g=>r=.ok (.ret (.bool true))/\OldK c.heap g.heap/\g.os=c.os/\AllBare g.gens) c:=by
  intro H L X Q M Y;have T:∀{b:Addr}{o:Obj},c.heap.get? b=some o->H b=none->(Ea c.heap H).get? b=some o:=λe n=>UC e n
  have ag:∀{b:Addr}{o:Obj}{l:Array DictEntry}{p:Nat},c.heap.get? b=some o->o.data=.dict l p->H b=none:=λ{b o l p}e d=>by
   cases q:H b with|none=>rfl|some u=>have D:b=a:=M b (by rw[q];simp);subst D;rw[y] at e;cases e;have Z:Data.seq vs.toArray _=Data.dict l p:=d;cases Z
  have A:∀{b:Addr}{m:Str->J'},c.heap.Ns b m->(Ea c.heap H).Ns b m:=λ{b m}⟨o,l,p,e,d,r⟩=>⟨o,l,p,T e (ag e d),d,r⟩
  have R:K.In (Ea c.heap H):=λb o e=>T (G b o e) (by
   cases q:H b with
   |none=>rfl
   |some u=>
    have D:b=a:=M b (by rw[q];simp);subst D;rw[Y (by rw[q];simp)] at e;cases e)
  have hM:Mod K i (Ea c.heap H):=⟨R,A O,⟨B,A f,ab⟩,let ⟨mc,h1,h2⟩:=ah;⟨mc,A h1,h2⟩⟩;have e0:Go P w K i (Ea c.heap H) callerA [] c H:=⟨rfl,hM,λb o e=>Hx e,Nat.le_of_eq (UB _ _),trivial,λb f=>absurd (show b∈([]:F') from f) (by simp),Q,.of_eq U⟩;refine codeAny_mono ((F _ R (A O)).run callerA [] c H ⟨[.ref a],[]⟩ [.ref a] [.ref a] _ _ W e0 (al c (.ref a)) (.cons rfl .nil) (ae H L X)) λr g h=>?_
  cases r with
  |error e=>exact(af H e g h).elim
  |ok fl=>
   cases fl with
   |next=>exact False.elim h
   |brk=>exact False.elim h
   |cont=>exact False.elim h
   |ret u=>
    obtain⟨v,H',aa,aj,un,ak,r',q⟩:=h;have q':v=.bl true:=q;subst q';obtain rfl:u=Value.bool true:=r';refine⟨rfl,OldK.of_keep λb o e=>?_,aa,aj⟩
    cases q:H b with
    |none=>exact un.keep b o e q (by intro z;exact absurd (show b∈([]:F') from z) (by simp)) (by simp)
    |some u=>rcases L b with z|⟨ob,xs,z⟩;rw[q] at z;cases z;have z2:=un.frzs b ob _ z;obtain⟨N,_⟩:=Q b _ z;obtain⟨e2,_⟩:=ak b _ z2;rw[e] at N;cases N;exact e2
 cases E:K.lookup a with
 |some o=>have e:=G a o E;rw[y] at e;cases e;refine S (λ_=>none) (λ_=>.inl rfl) (.inr ⟨_,vs.toArray,_,E,rfl,rfl,rfl,by rw[BR,ai];exact I,by simpa using J⟩) (λb u z=>by have t:(none:Option HO)=some u:=z;cases t) (λb z=>absurd rfl z) λz=>absurd rfl z
 |none=>
  refine S (λb=>if b=a then some (.frz {cls:=.type "list",data:=.seq vs.toArray} (.lst (j.map V.int))) else none) (λb=>?_) (.inl (.inr ⟨{cls:=.type "list",data:=.seq vs.toArray},Ap rfl⟩)) (λb u z=>?_) (λb z=>?_) λ_=>E;by_cases f:b=a;exact .inr ⟨_,_,Ap f⟩;exact .inl (An f);by_cases f:b=a;have t:=(Ap f).symm.trans z;cases t;subst f;exact⟨y,by rw[AD];exact I,vs,_,J,y⟩;have t:=(An f).symm.trans z;cases t;by_cases f:b=a;exact f;exact absurd (An f) z
variable {n:Nat}
def HS{l:PySem.W.OpenLaw}{k:Nat}{q:Program}{loose:G'}{XP:(Str->J')->Heap->Prop}{YP:World->Heap->Prop}{d:DefRec}{K:Params->Ah}{CX:World->FA}{sp:World->Sp}(p:l.most=some n)(I:n<=sizeLine)(J:d.params.defaults=[])(r:Bc k callerA)
 (t:∀(w:World)(h:Heap),YP w h->(K w.params).In h)
 (F:∀(w:World)(b:Str->J')(c:Addr)(h:Heap),(K w.params).In h->h.Ns mainGlobals b->b d.name=some (.ref c) ->
  ∃fd:FuncData,(∀(s:Shared)(u:Value),BindsTo s fd ⟨[u],[]⟩ [(x,u)]) /\
   ∀base:Heap,(K w.params).In base->base.Ns mainGlobals b->Cg l.prog w (K w.params) b base (CX w) k c fd [x] (sp w))
 (L:∀(w:World)(H:Hp)(a:Addr)(g:D'),g.length<=n->Bv H->Ag (K w.params) H a (g.map V.int)->sp w [.ref a] H (λv _=>v=.bl true) λ_ _ _=>False)
 (M:∀(w:World)(H:Hp)(s:Shared)(e:Value)(i:Shared),CX w [] H s (λ_ _ _=>False) e i->False) :
 PySem.W.WalkO q loose XP YP l.row.toRowW d [] (λf vs=>PySem.call f vs):=by
 refine Att.attach_call p J λw Q y b R c o S B U a vs g G Y T hd W N O P m z=>?_;have j:=t w _ Y;obtain⟨fd,A,C⟩:=F w b c _ j G.T.g N;exact U7 j G.T.g G.T.b G.T.builtins G.T.nolimit z O P (Dm m I) r C A (λH D E=>L w H a g m D E) λH e i=>M w H y e i
abbrev EQ:FA:=λ_ _ _ _ _ _=>False
abbrev E0:XK:=λ_ _ _=>False
variable {X:Cx}
def MT:NZ EQ X E0:=λ_ _ _ _ _ _ _ h=>h.elim
structure A4 (K:Ah) (x qual:Str) (st:Stmt) (f:Addr) (fd:FuncData):Prop where
 ex:∃(oc:Value)(od:Option Addr)(kV doc pm:Value)(an:Option Addr)(cdv ct:Value)(osl:Array (J')),
  fd=PySem.W.fnOf x qual (A8 st) (A0 st) (Ar st) .none kV doc pm an cdv ct/\K.lookup f=some ⟨oc,od,.func fd,osl⟩/\PySem.W.codeIn K cdv qual=true
 kp:PySem.W.keepIn K (.ref f)=true
section
variable {P:Program} {w:World} {K:Ah} {mg:Str->J'} {base:Heap}
variable {qual:Str}{st:Stmt}{f:Addr}
def A4.ok{N b:G'}{k:Nat}{sp:Sp}(F:A4 K x qual st f fd)(S:Ae N b (Ar st))(g:∀vs H Q E,sp vs H Q E->vs.length=b.length)
 (l:∀(a:Value)(A:Around)(c:List Env)(s:Shared)(H:Hp)(vs:R')(Q:VK)(E:XK),Bc k (A.deeper (envOfC qual (Ar st) s.heap.objs.size f a))->sp vs H Q E ->
  ∃t,DR (Au EQ P w K mg base N qual (Ar st) f a A c s H E).nox (A0 st) t/\t {nx:=λ_ H'=>Q .non H',rt:=Q} (EM N vs) H):Cg P w K mg base EQ (k+1) f fd b sp:=by
 obtain⟨m,n,kV,u,o,p,a,r,v,rfl,d,i⟩:=F.ex;refine Gp d i S g λA c s H vs Q E e j=>?_;obtain⟨t,h,q⟩:=l a A c s H vs Q E e j;exact⟨t,h.nox,q⟩
def A4.binds{a:G'}(F:A4 K x qual st f fd)
 (h:∀(kV e b:Value)(c:Option Addr)(g ct:Value)(d:E'),d.length=a.length->bindArgs (PySem.W.fnOf x qual (A8 st) (A0 st) (Ar st) .none kV e b c g ct) ⟨d,[]⟩=pure (a.zip d)):Binds K fd a []:=by
 obtain⟨i,j,kV,e,b,c,g,ct,l,rfl,k,m⟩:=F.ex;exact .all (h kV e b c g ct)
def Bt{g:Value}{od b:Option Addr}{h:Array (J')}{kV e d a ct:Value}(l:K.lookup f=some ⟨g,od,.func (PySem.W.fnOf x qual (A8 st) (A0 st) (Ar st) .none kV e d b a ct),h⟩)
 (c:PySem.W.codeIn K a qual=true) (k:PySem.W.keepIn K (.ref f)=true):A4 K x qual st f (PySem.W.fnOf x qual (A8 st) (A0 st) (Ar st) .none kV e d b a ct):=⟨⟨g,od,kV,e,d,b,a,ct,h,rfl,l,c⟩,k⟩
end
variable {A:Around}
def Km{k:Nat}(a:Bc k A):A.units+1<cLine:=Nat.lt_of_le_of_lt (Nat.add_le_add_left (by decide:1<=64) _) a.units
def BQ(h:n<=1000):n<sizeLine:=Nat.lt_of_le_of_lt h (by decide)
section
variable {X:Cx}
def pv(i:Nat){G:Pos}(a:X.N[i]?=some x:=by rfl)(hv:Mu X.env.scope x:=by first|exact p7 rfl|exact p8 (p7 rfl)|exact p8 (p8 rfl))(hd:(x==f')=false:=by decide)
 (b:(x==("__classdict__":Str))=false:=by decide):PE X (.Name x G) (Cq i):=JP a hv hd b
end
variable {B:Prop}
def AC{A:Prop}(h:B):if false=true then A else B:=by rw[An B0];exact h
def AS{A:Prop}(h:A):if true=true then A else B:=by rw[Ap rfl];exact h
def Ci{c A:Prop} [Decidable c](a:c->A)(b:¬c->B):if c then A else B:=by by_cases h:c;rw[Ap h];exact a h;rw[An h];exact b h
def Ad (H H':Hp):Prop:=∀b o,H b=some o->H' b=some o
def Ad.refl(H:Hp):Ad H H:=λ_ _ h=>h
variable {H Y:Hp}
def Ad.trans{U:Hp}(a:Ad H Y)(b:Ad Y U):Ad H U:=λc o h=>b c o (a c o h)
variable {H':Hp}
def Ad.free(e:Ad H H'){l:Addr}(h:H' l=Option.none):H l=Option.none:=by
 cases q:H l with|none=>rfl|some o=>rw[e l o q] at h;cases h
variable {xs:R'}
def Ad.seq{K:Ah}(e:Ad H H')(h:Ag K H a xs):Ag K H' a xs:=by rcases h with(h|⟨o,h⟩)|h;exact .inl (.inl (e _ _ h));exact .inl (.inr ⟨o,e _ _ h⟩);exact .inr h
section
variable {κ:Type} [DecidableEq κ]
end
inductive Ty where
 |int|bool|str|non|lst|tup|dct
 deriving DecidableEq
def Ty.name:Ty->String
 |.int => "int"|.bool => "bool"|.str => "str"|.non => "NoneType"|.lst => "list"|.tup => "tuple"|.dct => "dict"
inductive Hh (K:Ah) (H:Hp):V->Ty->Prop where
 |int (i:Int):Hh K H (.int i) .int
 |bl (b:Bool):Hh K H (.bl b) .bool
 |str (x:Str):Hh K H (.str x) .str
 |non:Hh K H .non .non
 |lst {a:Addr} {xs:R'} (h:Ag K H a xs):Hh K H (.ref a) .lst
 |tup {a:Addr} {xs:R'} (h:AB K H a xs):Hh K H (.ref a) .tup
 |dk {a:Addr} {kvs:List (A2×V)} (h:H a=some (.dK kvs)):Hh K H (.ref a) .dct
def P6:Ty->Ty->Bool
 |.int,.int=>true|.bool,.bool=>true|.bool,.int=>true|.str,.str=>true|.non,.non=>true|.lst,.lst=>true|.tup,.tup=>true|.dct,.dct=>true|_,_=>false
def P7 (K:Ah):R'->Hp->VK->Prop:=λvs H Q=>∃x T T',vs=[x,.ty (Ty.name T)]/\Hh K H x T'/\Q (.bl (P6 T' T)) H
def FS:A1 X (.builtin "isinstance") (P7 X.K):=by
 intro F s σ H g w Q I r h;obtain⟨x,T,z,rfl,ty,q⟩:=h;obtain⟨u,j,rfl,c,p⟩:=He r;have k:j=Value.type (Ty.name T):=p;subst k
 cases ty with
 |int i=>
  obtain⟨t,rfl⟩:=c;cases T with|int=>exact IsiPair.int_int ⟨.bl true,H,I,rfl,q⟩|bool=>exact IsiPair.int_bool ⟨.bl false,H,I.tok _,rfl,q⟩|str=>exact IsiPair.int_str ⟨.bl false,H,I.tok _,rfl,q⟩|non=>exact IsiPair.int_NoneType ⟨.bl false,H,I.tok _,rfl,q⟩|lst=>exact IsiPair.int_list ⟨.bl false,H,I.tok _,rfl,q⟩|tup=>exact IsiPair.int_tuple ⟨.bl false,H,I.tok _,rfl,q⟩|dct=>exact IsiPair.int_dict ⟨.bl false,H,I.tok _,rfl,q⟩
 |bl b=>
  obtain rfl:u=Value.bool b:=c;cases T with|int=>exact IsiPair.bool_int ⟨.bl true,H,I,rfl,q⟩|bool=>exact IsiPair.bool_bool ⟨.bl true,H,I,rfl,q⟩|str=>exact IsiPair.bool_str ⟨.bl false,H,I.tok _,rfl,q⟩|non=>exact IsiPair.bool_NoneType ⟨.bl false,H,I.tok _,rfl,q⟩|lst=>exact IsiPair.bool_list ⟨.bl false,H,I.tok _,rfl,q⟩|tup=>exact IsiPair.bool_tuple ⟨.bl false,H,I.tok _,rfl,q⟩|dct=>exact IsiPair.bool_dict ⟨.bl false,H,I.tok _,rfl,q⟩
 |str y=>
  obtain⟨t,rfl⟩:=c;cases T with|int=>exact IsiPair.str_int ⟨.bl false,H,I.tok _,rfl,q⟩|bool=>exact IsiPair.str_bool ⟨.bl false,H,I.tok _,rfl,q⟩|str=>exact IsiPair.str_str ⟨.bl true,H,I,rfl,q⟩|non=>exact IsiPair.str_NoneType ⟨.bl false,H,I.tok _,rfl,q⟩|lst=>exact IsiPair.str_list ⟨.bl false,H,I.tok _,rfl,q⟩|tup=>exact IsiPair.str_tuple ⟨.bl false,H,I.tok _,rfl,q⟩|dct=>exact IsiPair.str_dict ⟨.bl false,H,I.tok _,rfl,q⟩
 |non=>
  obtain rfl:u=Value.none:=c;cases T with|int=>exact IsiPair.NoneType_int ⟨.bl false,H,I.tok _,rfl,q⟩|bool=>exact IsiPair.NoneType_bool ⟨.bl false,H,I.tok _,rfl,q⟩|str=>exact IsiPair.NoneType_str ⟨.bl false,H,I.tok _,rfl,q⟩|non=>exact IsiPair.NoneType_NoneType ⟨.bl true,H,I,rfl,q⟩|lst=>exact IsiPair.NoneType_list ⟨.bl false,H,I.tok _,rfl,q⟩|tup=>exact IsiPair.NoneType_tuple ⟨.bl false,H,I.tok _,rfl,q⟩|dct=>exact IsiPair.NoneType_dict ⟨.bl false,H,I.tok _,rfl,q⟩
 |lst d=>
  obtain rfl:u=Value.ref _:=c;obtain⟨v,l,⟨o,n,e,a,hd,m⟩,f⟩:=I.list d;cases T with|int=>exact IsiPair.list_int e a ⟨.bl false,H,I.tok _,rfl,q⟩|bool=>exact IsiPair.list_bool e a ⟨.bl false,H,I.tok _,rfl,q⟩|str=>exact IsiPair.list_str e a ⟨.bl false,H,I.tok _,rfl,q⟩|non=>exact IsiPair.list_NoneType e a ⟨.bl false,H,I.tok _,rfl,q⟩|lst=>exact IsiPair.list_list e a ⟨.bl true,H,I,rfl,q⟩|tup=>exact IsiPair.list_tuple e a ⟨.bl false,H,I.tok _,rfl,q⟩|dct=>exact IsiPair.list_dict e a ⟨.bl false,H,I.tok _,rfl,q⟩
 |tup d=>
  obtain rfl:u=Value.ref _:=c;obtain⟨v,l,⟨o,e,a,n,m⟩,f⟩:=I.tuple d;cases T with|int=>exact IsiPair.tuple_int e a ⟨.bl false,H,I.tok _,rfl,q⟩|bool=>exact IsiPair.tuple_bool e a ⟨.bl false,H,I.tok _,rfl,q⟩|str=>exact IsiPair.tuple_str e a ⟨.bl false,H,I.tok _,rfl,q⟩|non=>exact IsiPair.tuple_NoneType e a ⟨.bl false,H,I.tok _,rfl,q⟩|lst=>exact IsiPair.tuple_list e a ⟨.bl false,H,I.tok _,rfl,q⟩|tup=>exact IsiPair.tuple_tuple e a ⟨.bl true,H,I,rfl,q⟩|dct=>exact IsiPair.tuple_dict e a ⟨.bl false,H,I.tok _,rfl,q⟩
 |dk d=>
  obtain rfl:u=Value.ref _:=c;obtain⟨f,A,g,E,o,B,C,e,ex,D⟩:=I.hok _ _ d;have a:=ex.1;cases T with|int=>exact IsiPair.dict_int e a ⟨.bl false,H,I.tok _,rfl,q⟩|bool=>exact IsiPair.dict_bool e a ⟨.bl false,H,I.tok _,rfl,q⟩|str=>exact IsiPair.dict_str e a ⟨.bl false,H,I.tok _,rfl,q⟩|non=>exact IsiPair.dict_NoneType e a ⟨.bl false,H,I.tok _,rfl,q⟩|lst=>exact IsiPair.dict_list e a ⟨.bl false,H,I.tok _,rfl,q⟩|tup=>exact IsiPair.dict_tuple e a ⟨.bl false,H,I.tok _,rfl,q⟩|dct=>exact IsiPair.dict_dict e a ⟨.bl true,H,I,rfl,q⟩
def Sb{bs:List Bool}{a:E'}(r:Am (bs.map V.bl) a):TruthOf P w A (λi v=>a.toArray[i]?=some v) (λi=>bs.getD i false):=by
 intro i v s Q E d f;have c:a[i]?=some v:=(by simpa using d);have g:=r.length;rw[AD] at g;have k:i<a.length:=(Cd.mp c).1;have h:(bs.map V.bl)[i]?=some (V.bl (bs.getD i false)):=(by rw[BP,A7];have:bs[i]?=some bs[i]:=AQ (by omega);rw[this];rfl);obtain⟨u,b,j⟩:=r.get h;rw[c] at b;cases b;have e:v=Value.bool (bs.getD i false):=j;subst e;exact El f
def U8{bs:List Bool}:(List.range bs.length).all (λi=>bs.getD i false)=bs.all id:=by rw[Bool.eq_iff_iff,List.all_eq_true,List.all_eq_true];constructor;intro h b d;obtain⟨i,a,e⟩:=Mp.mp d;have:=h i (List.mem_range.mpr a);rw[A7,AQ a] at this;rw[<-e];exact this;intro h i a;have c:=List.mem_range.mp a;rw[A7,AQ c];exact h _ (EE c)
def P8 (K:Ah):R'->Hp->VK->Prop:=λvs H Q=>∃(a:Addr)(bs:List Bool),vs=[.ref a]/\Ag K H a (bs.map V.bl)/\Q (.bl (bs.all id)) H
def P9(g:X.calm=true):A1 X (.builtin "all") (P8 X.K):=by
 intro B s σ H t w Q I r h;obtain⟨a,bs,rfl,j,q⟩:=h;obtain⟨u,rfl,k⟩:=EL r;obtain rfl:u=Value.ref a:=k;obtain⟨c,d,p,x⟩:=I.list j;have f:=d.length;rw[AD] at f;have n:a<s.heap.objs.size:=by obtain⟨_,e,_⟩:=p.isList;exact AI e
 refine call_all_walk (wpAny_pyIter_list p.isList ?_);refine⟨s.heap.objs.size,[s.heap.objs.size,a],[s.heap.objs.size],c.toArray.size,(λi v=>c.toArray[i]?=some v),(λi h=>h.IsListIter s.heap.objs.size a i/\h.IsList a c.toArray),(λi=>bs.getD i false),rfl,Walks.list (A:=X.A.in1) (I.ok.hd g) s.heap.objs.size a (Bu n) c.toArray,⟨⟨_,BG _ rfl,rfl,rfl⟩,p.isList.push _⟩,Sb d,λy L l=>?_⟩;refine⟨.bl (bs.all id),H,I.kept λb o e=>l b o (λz=>?_) (AR _ e),?_,q⟩;have m:b=s.heap.objs.size:=(by simpa using z);exact absurd (AI e) (by rw[m];exact D7 _);have e:c.toArray.size=bs.length:=(by rw[BR,f]);show Value.bool _=Value.bool _;rw[e,U8]
def rS (g:Str->Str->Bool):R2:=λx y H Q=>∃a b,x=.str a/\y=.str b/\Q (.bl (g a b)) H
theorem GA:CD X (compareOp .LtE) (rS λa b=>!decide (b.cps.toList<a.cps.toList)):=by intro f s σ H x y v u Q I c d h;obtain⟨a,b,rfl,rfl,q⟩:=h;obtain⟨t,rfl⟩:=c;obtain⟨e,rfl⟩:=d;exact P.le_str ⟨.bl _,H,I,rfl,q⟩
def MU (x:Str):It:=⟨λi _=>i<x.cps.size,λi H v H'=>H'=H/\∃c,x.cps[i]?=some c/\v=.str ⟨#[c]⟩,λi _=>i=x.cps.size⟩
variable {tg:Expr}
def Sc{K:Ah}{t:Tok}{ty:String}(a:Addr)(O:["enumerate", "zip", "dict_itemiterator", "dict_reverseitemiterator", "odict_iterator", "itertools.zip_longest", "itertools.pairwise"].contains ty=false)
 (W:∀A:Around,A.handled=none->Walks P w A a [a] [a] x.cps.size (SignAt x) (λi h=>h.IsStrIter a ty x t i))
 (Z:∀(A:Around)(i:Nat)(s:Shared)(Q:B')(E:B'),s.heap.IsStrIter a ty x t i->Q (.ref a) s->wpAny (model P w) A (pyIter (.ref a)) Q E s):Ep P w K tg (MU x) [a] a (λi h=>h.IsStrIter a ty x t i) where
 mem:=by simp
 obj:=λi h f b g=>by have e:b=a:=(by simpa using g);subst e;obtain⟨o,e,c,d⟩:=f;exact⟨o,e,λv z=>by rw[d] at z;cases z⟩
 keep:=λi h j f k=>by obtain⟨o,e,r⟩:=f;exact⟨o,k a (by simp) o e,r⟩
 item:=by intro X m n p q i N s σ H E I l f y;subst m n p;obtain⟨B,C,R,D,F,G⟩:=l a (by simp);refine(W X.A (I.ok.hd q)).item i s _ _ y f λv j L S M J=>?_;obtain⟨c,u,V,rfl⟩:=S;have T:Inv X N σ H {s with heap:=j,toks:=L}:=I.turned (λb o g e=>J b o (by simpa using g) e) B C D F G;obtain⟨o,e,U,d⟩:=id M;exact⟨_,rfl,MC (s:={s with heap:=j,toks:=L}) e U d O ⟨.str ⟨#[c]⟩,H,T,⟨u,rfl⟩,⟨rfl,c,V,rfl⟩,M,λb g=>(l b g).1⟩⟩
 done:=by intro X m n p q i N s σ H E I l f y;subst m n p;obtain⟨B,C,R,D,F,G⟩:=l a (by simp);have Y:i=x.cps.size:=y;subst Y;exact(W X.A (I.ok.hd q)).done s _ _ f λj L J=>⟨rfl,I.turned (λb o g e=>J b o (by simpa using g) e) B C D F G⟩
 self:=Z
def Qa (te:TE):TI:=λσ H R=>te σ H λx Y=>∃y,x=.str y/\R (MU y) Y
variable {te:TE}
def Kn{e:Expr}(m:PE X e te):PI X tg e (Qa te):=by
 intro l s σ H R I h;refine AG (m l s σ H _ I h) λv a⟨x,Y,c,n,p⟩=>?_;obtain⟨y,rfl,q⟩:=p;obtain⟨t,rfl⟩:=n
 have k:∀b∈[a.heap.objs.size],CV X l Y b:=λb r=>by
  have e:b=a.heap.objs.size:=(by simpa using r);subst e;exact c.fpOk (Aw _) (c.hok.fresh (Aw _))
 cases j:y.cps.all (· < 128);refine wpAny_pyIter_wide j ⟨a.heap.objs.size,[a.heap.objs.size],_,_,Y,rfl,c.kept (t':=a.toks) λb o e=>AR _ e,Sc (ty:= "str_iterator") (t:=t) _ (by decide) (λA d=>Walks.strWide d _ y t) (λA i s Q E f g=>wpAny_pyIter_striter_wide f g),⟨_,BG _ rfl,rfl,rfl⟩,k,q⟩;refine wpAny_pyIter_ascii j ⟨a.heap.objs.size,[a.heap.objs.size],_,_,Y,rfl,c.kept (t':=a.toks) λb o e=>AR _ e,Sc (ty:= "str_ascii_iterator") (t:=t) _ (by decide) (λA d=>Walks.strAscii d _ y t) (λA i s Q E f g=>wpAny_pyIter_striter_ascii f g),⟨_,BG _ rfl,rfl,rfl⟩,k,q⟩
variable {pins:A'}{σ:St}{s:Shared}
def Inv.track{T:Addr}{o:HO}(I:Inv X pins σ H s)(f:CV X pins H T)(p:∃ob,s.heap.get? T=some ob)(l:Ay X.prog X.w (upd H T o) s.heap T o):Inv X pins σ (upd H T o) s:=by obtain⟨d,g,r,h,i,j⟩:=f;refine I.step (g':=s.gens) (t':=s.toks) (d':=s.drawn) (h':=s.heap) (ch:=[T]) (λb a=>?_) (λb ob _ _ _ e _=>e) (λb ob _ _ _ e _=>⟨ob.slots,e⟩) (λb ob a e n=>?_) (λb ob _ e=>⟨ob,e⟩) (λb xs e=>?_) (λb ob u e=>?_) (λb t e=>?_) (λm k=>k) (λb u e=>?_) I.bare;have e:b=T:=(by simpa using a);subst e;exact⟨h,g,i,j⟩;rw[Ax (by simpa using a)];exact n;rw[Ax (AM e d)];exact e;rw[Ax (AM e d)];exact e;exact⟨#[],by rw[Ax (AM e d),e];simp⟩;by_cases a:b=T;subst a;rw[Aa] at e;cases e;exact l;rw[Ax a] at e;exact(I.hok b u e).stay (λc v _ q=>q) (λc q=>by rw[Ax (AM q d)];exact q) λc xs q=>by rw[Ax (AM q d)];exact q
def MV (K:Ah) (l1 l2:Addr):It:=
 ⟨λi H=>∃xs ys x y,Ag K H l1 xs/\Ag K H l2 ys/\xs[i]?=some x/\ys[i]?=some y,
  λi H v H'=>∃T x y,H T=none/\v=.ref T/\H'=upd H T (.tup [x,y])/\(∀xs,Ag K H l1 xs->xs[i]?=some x)/\∀ys,Ag K H l2 ys->ys[i]?=some y,
  λi H=>∃xs ys,Ag K H l1 xs/\Ag K H l2 ys/\(xs.length<=i\/ys.length<=i)⟩
def MW (z TI TO i1 i2 l1 l2:Addr) (i:Nat) (h:Heap):Prop:=IsZip h z TI TO .none/\IsPair h TI (.ref i1) (.ref i2)/\(∃a b,IsPair h TO a b)/\h.IsListIter i1 l1 i/\h.IsListIter i2 l2 i
variable {G:Pos}
theorem U9{K:Ah}{es:M'}{k:Nat}{z TI TO g j l1 l2:Addr}(D:ZipApart z TI TO g j l1 l2) :
 Ep P w K (.Tuple es k G) (MV K l1 l2) [z,TI,TO,g,j] z (MW z TI TO g j l1 l2) where
 mem:=by simp
 obj:=λi h C b d=>by obtain⟨E,F,⟨a,c,L⟩,⟨o1,e1,c1,d1⟩,⟨o2,e2,c2,d2⟩⟩:=C;simp at d;rcases d with rfl|rfl|rfl|rfl|rfl;exact⟨_,E,λv q=>by cases q⟩;exact⟨_,F,λv q=>by cases q⟩;exact⟨_,L,λv q=>by cases q⟩;exact⟨_,e1,λv q=>by rw[d1] at q;cases q⟩;exact⟨_,e2,λv q=>by rw[d2] at q;cases q⟩
 keep:=λi h h' C S=>by obtain⟨E,F,⟨a,c,L⟩,M,N⟩:=C;exact⟨S z (by simp) _ E,S TI (by simp) _ F,⟨a,c,S TO (by simp) _ L⟩,M.at λo e=>S g (by simp) o e,N.at λo e=>S j (by simp) o e⟩
 item:=by
  intro X hP hw hK A i pins s σ H aj I B C hg;subst hP hw hK;obtain⟨xs,ys,x,y,Y,Z,hx,hy⟩:=hg;obtain⟨E,F,⟨a,c,L⟩,M,N⟩:=C;obtain⟨ay,ab,p1,al⟩:=I.list Y;obtain⟨az,ae,p2,an⟩:=I.list Z;obtain⟨U,ao,aq⟩:=ab.get hx;obtain⟨V,ar,au⟩:=ae.get hy;refine wpAny_pyNext_zip_item D E F L M N p1.isList p2.isList (x:=U) (y:=V) (by simpa using ao) (by simpa using ar) λh' a1 a2 a3 a4 a5 a6 J=>?_;refine⟨_,rfl,wpAny_letOwnedTupleGo_zip (s:={s with heap:=h'}) a1 λT a0 R=>?_⟩;have m:=B z (by simp);have t:=B TO (by simp);have p:=B g (by simp);have r:=B j (by simp);have G9:∀b u,H b=some u->b≠z/\b≠TO/\b≠g/\b≠j:=λb u e=>⟨AM e m.1,AM e t.1,AM e p.1,AM e r.1⟩;have keep:∀b o,b≠z->b≠TO->b≠g->b≠j->s.heap.get? b=some o->T.get? b=some o:=λb o W n2 n3 n4 e=>(R.2 b W).trans (J b o W n2 n3 n4 e);have f:∀{b:Addr},b∉[z,TO,g,j]->b≠z/\b≠TO/\b≠g/\b≠j:=λ{b}d=>by simpa using d
  have I1:Inv X pins σ H {s with heap:=T}:=by
   refine I.step (g':=s.gens) (t':=s.toks) (d':=s.drawn) (h':=T) (ch:=[z,TO,g,j]) (λb d=>?_) (λb l _ _ d e _=>keep b l (f d).1 (f d).2.1 (f d).2.2.1 (f d).2.2.2 e) (λb l _ _ d e _=>⟨l.slots,keep b l (f d).1 (f d).2.1 (f d).2.2.1 (f d).2.2.2 e⟩)
    (λ_ _ _ _ n=>n) (λb l d e=>⟨l,keep b l (f d).1 (f d).2.1 (f d).2.2.1 (f d).2.2.2 e⟩) (λ_ _ e=>e) (λ_ _ _ e=>e) (λb ps e=>⟨#[],by rw[e];simp⟩) (λak hm=>?_) (λb u e=>?_) I.bare
   have:b=z\/b=TO\/b=g\/b=j:=(by simpa using d);rcases this with rfl|rfl|rfl|rfl;exact⟨m.2.2.2.1,m.2.1,m.2.2.2.2.1,m.2.2.2.2.2⟩;exact⟨t.2.2.2.1,t.2.1,t.2.2.2.2.1,t.2.2.2.2.2⟩;exact⟨p.2.2.2.1,p.2.1,p.2.2.2.2.1,p.2.2.2.2.2⟩;exact⟨r.2.2.2.1,r.2.1,r.2.2.2.2.1,r.2.2.2.2.2⟩;obtain⟨o,es,ep,ho,aa⟩:=hm;exact⟨o,es,ep,keep _ o (Ne.symm m.2.1) (Ne.symm t.2.1) (Ne.symm p.2.1) (Ne.symm r.2.1) ho,aa⟩;refine(I.hok b u e).stay (λc v A q=>?_) (λ_ q=>q) λ_ _ q=>q;have af:∃O,H c=some O:=(by rcases A with rfl|A;exact⟨_,e⟩;exact⟨_,A⟩);obtain⟨O,Q⟩:=af;obtain⟨W,n2,n3,n4⟩:=G9 c O Q;exact keep c v W n2 n3 n4 q
  have av:s.heap.objs.size≠z:=Nat.ne_of_gt (AI E);have ah:H s.heap.objs.size=none:=I.hok.fresh (Aw _);have ai:T.get? s.heap.objs.size=some {cls:=.type "tuple",data:=.seq #[U,V]}:=(R.2 _ av).trans a5;have I2:Inv X pins σ (upd H s.heap.objs.size (.tup [x,y])) {s with heap:=T}:=(by refine I1.track (I.fpOk (Aw _) ah) ⟨_,ai⟩ ?_;exact⟨by show 2<=sizeLine;decide,[U,V],.cons aq (.cons au .nil),⟨_,ai,rfl,_,rfl⟩⟩);refine⟨.ref s.heap.objs.size,_,I2,rfl,⟨s.heap.objs.size,x,y,ah,rfl,rfl,λzs ag=>by rw[I.list_inj ag Y];exact hx,λzs ag=>by rw[I.list_inj ag Z];exact hy⟩,?_,λb d=>?_⟩;refine⟨a0,R.extBut _ _ D.TIz (J _ _ D.TIz D.TITO D.TIi1 D.TIi2 F),⟨U,V,R.extBut _ _ D.TOz a2⟩,a3.extBut R.extBut D.i1z,a4.extBut R.extBut D.i2z⟩;have aw:=(B b d).1;rw[Ax (λq=>?_)];exact aw;have ax:b=z\/b=TI\/b=TO\/b=g\/b=j:=(by simpa using d);obtain⟨o1,e1,_⟩:=M;obtain⟨o2,e2,_⟩:=N;have lt:b<s.heap.objs.size:=(by rcases ax with rfl|rfl|rfl|rfl|rfl;exact AI E;exact AI F;exact AI L;exact AI e1;exact AI e2);rw[q] at lt;exact absurd lt (D7 _)
 done:=by
  intro X hP hw hK A i pins s σ H aj I B C hg;subst hP hw hK;obtain⟨xs,ys,Y,Z,a9⟩:=hg;obtain⟨E,F,⟨a,c,L⟩,M,N⟩:=C;obtain⟨ay,ab,p1,al⟩:=I.list Y;obtain⟨az,ae,p2,an⟩:=I.list Z;have a7:=ab.length;have a8:=ae.length;refine wpAny_pyNext_zip_end (I.ok.hd A) D E F L M N p1.isList p2.isList (by simp;omega) λh' J=>⟨rfl,?_⟩;have m:=B z (by simp);have t:=B TO (by simp);have p:=B g (by simp);have r:=B j (by simp);have f:∀{b:Addr},b∉[z,TO,g,j]->b≠z/\b≠TO/\b≠g/\b≠j:=λ{b}d=>by simpa using d
  refine I.step (g':=s.gens) (t':=s.toks) (d':=s.drawn) (h':=h') (ch:=[z,TO,g,j]) (λb d=>?_) (λb l _ _ d e _=>J b l (f d).1 (f d).2.1 (f d).2.2.1 (f d).2.2.2 e) (λb l _ _ d e _=>⟨l.slots,J b l (f d).1 (f d).2.1 (f d).2.2.1 (f d).2.2.2 e⟩)
   (λ_ _ _ _ n=>n) (λb l d e=>⟨l,J b l (f d).1 (f d).2.1 (f d).2.2.1 (f d).2.2.2 e⟩) (λ_ _ e=>e) (λ_ _ _ e=>e) (λb ps e=>⟨#[],by rw[e];simp⟩) (λak hm=>?_) (λb u e=>?_) I.bare
  have:b=z\/b=TO\/b=g\/b=j:=(by simpa using d);rcases this with rfl|rfl|rfl|rfl;exact⟨m.2.2.2.1,m.2.1,m.2.2.2.2.1,m.2.2.2.2.2⟩;exact⟨t.2.2.2.1,t.2.1,t.2.2.2.2.1,t.2.2.2.2.2⟩;exact⟨p.2.2.2.1,p.2.1,p.2.2.2.2.1,p.2.2.2.2.2⟩;exact⟨r.2.2.2.1,r.2.1,r.2.2.2.2.1,r.2.2.2.2.2⟩;obtain⟨o,es,ep,ho,aa⟩:=hm;exact⟨o,es,ep,J _ o (Ne.symm m.2.1) (Ne.symm t.2.1) (Ne.symm p.2.1) (Ne.symm r.2.1) ho,aa⟩;refine(I.hok b u e).stay (λc v A q=>?_) (λ_ q=>q) λ_ _ q=>q;have af:∃O,H c=some O:=(by rcases A with rfl|A;exact⟨_,e⟩;exact⟨_,A⟩);obtain⟨O,Q⟩:=af;exact J c v (AM Q m.1) (AM Q t.1) (AM Q p.1) (AM Q r.1) q
 self:=λ_ _ _ _ _ C h=>wpAny_pyIter_zip C.1 h
def Er (env:Env):List (Str×NameKind)->List (Str×Addr)->List (Str×Addr)
 |[],acc=>acc
 |(n,k)::r,acc=>if k==.free then Er env r ((n,(env.cells.lookup n).getD 0)::acc) else Er env r acc
theorem Qb{env:Env}(f:Str×NameKind->List (Str×Addr)->Sem (ForInStep (List (Str×Addr))))
 (d:∀n k g,f (n,k) g=if(k==NameKind.free)=true then(cellOf env n >>= λa=>pure (.yield ((n,a)::g))) else pure (.yield g)) :
 ∀(names:List (Str×NameKind))(acc:List (Str×Addr)),(∀x∈names,x.2=.free->∃c,env.cells.lookup x.1=some c)->forIn names acc f=pure (Er env names acc)
 |[],acc,_=>by rw[List.forIn_nil];rfl
 |(n,k)::r,acc,h=>by
   rw[List.forIn_cons,d];unfold Er;by_cases b:(k==NameKind.free)=true;rw[Ap b,Ap b];obtain⟨c,j⟩:=h (n,k) CH (beq_iff_eq.mp b);have e:cellOf env n=pure c:=by unfold cellOf;rw[j]
   rw[e,j];exact Qb f d r _ λx i=>h x (Dc _ i);rw[An b,An b];exact Qb f d r _ λx i=>h x (Dc _ i)
variable {scope:Scope}{env:Env}
def Qc(h:∀x∈scope.names,x.2=.free->∃c,env.cells.lookup x.1=some c):closureFor scope env=pure (Er env scope.names []):=by simp only[closureFor];rw[Qb (env:=env) _ (λn k b=>by cases a:k==NameKind.free<;>simp[a]) scope.names [] h];rfl
theorem N0{env:Env}:∀{names:List (Str×NameKind)}{acc:List (Str×Addr)}{x:Str}{c:Addr},(x,c)∈Er env names acc->(x,c)∈acc\/((x,NameKind.free)∈names/\c=(env.cells.lookup x).getD 0)
 |[],_,_,_,h=>.inl h
 |(n,k)::r,acc,x,c,h=>by unfold Er at h;by_cases a:(k==NameKind.free)=true;rw[Ap a] at h;rcases N0 h with h|⟨h,e⟩;rcases BL.mp h with h|h;cases h;rw[beq_iff_eq.mp a];exact .inr ⟨CH,rfl⟩;exact .inl h;exact .inr ⟨Dc _ h,e⟩;rw[An a] at h;rcases N0 h with h|⟨h,e⟩;exact .inl h;exact .inr ⟨Dc _ h,e⟩
theorem Qd{env:Env}:∀{names:List (Str×NameKind)}{acc:List (Str×Addr)}{p:Str×Addr},p∈acc->p∈Er env names acc
 |[],_,_,h=>h
 |(n,k)::r,acc,p,h=>by unfold Er;by_cases a:(k==NameKind.free)=true;rw[Ap a];exact Qd (Dc _ h);rw[An a];exact Qd h
theorem MX{env:Env}:∀{names:List (Str×NameKind)}{acc:List (Str×Addr)}{x:Str},(x,NameKind.free)∈names->∃c,(x,c)∈Er env names acc
 |(n,k)::r,acc,x,h=>by unfold Er;rcases BL.mp h with h|h;cases h;rw[Ap (show(NameKind.free==NameKind.free)=true by rfl)];exact⟨_,Qd CH⟩;by_cases a:(k==NameKind.free)=true;rw[Ap a];exact MX h;rw[An a];exact MX h
theorem L5{α:Type}:∀{l:List (Str×α)}{x:Str}{c:α},(x,c)∈l->∃a,l.lookup x=some a
 |(n,d)::r,x,c,h=>by
   rw[G8]
   cases b:x==n with
   |true=>exact⟨d,rfl⟩
   |false=>rcases BL.mp h with h|h;cases h;simp at b;exact L5 h
theorem Je:∀(names:List (Str×NameKind))(n:Nat)(acc:List (Str×Addr)),cellsFrom n names acc=cellsFrom n names []++acc
 |[],_,_=>rfl
 |(x,k)::r,n,acc=>by unfold cellsFrom;by_cases a:(k==NameKind.cell)=true;rw[Ap a,Ap a,Je r (n+1) ((x,n)::acc),Je r (n+1) [(x,n)],E5];rfl;rw[An a,An a];exact Je r n acc
theorem N1:∀{names:List (Str×NameKind)}{n:Nat}{acc:List (Str×Addr)}{x:Str}{c:Addr},(x,c)∈cellsFrom n names acc->(x,c)∈acc\/(x,NameKind.cell)∈names
 |[],_,_,_,_,h=>.inl h
 |(y,k)::r,n,acc,x,c,h=>by unfold cellsFrom at h;by_cases a:(k==NameKind.cell)=true;rw[Ap a] at h;rcases N1 h with h|h;rcases BL.mp h with h|h;cases h;rw[beq_iff_eq.mp a];exact .inr CH;exact .inl h;exact .inr (Dc _ h);rw[An a] at h;rcases N1 h with h|h;exact .inl h;exact .inr (Dc _ h)
section
variable {M:Model} {A:Around} {E:B'} {s:Shared}
def Va{a:List (Str×Addr)}{Q:Env->Shared->Prop}
 (b:Q (newEnv scope s.heap.objs.size env.globals (cellsFrom (s.heap.objs.size+1) scope.names a) env.qual none .none (some env) builtinsNs) {s with heap:=pushCells (s.heap.push {cls:=.type "dict",data:=.dict #[]}) scope.names}) :
 wpAny M A (newFunctionEnv scope env.globals a [] env.qual none .none (some env)) Q E s:=by
 simp only[newFunctionEnv,Option.isSome_some,if_true];refine Ac (wpAny_alloc ?_);refine Ac (wpAny_layCells _ (λname d e=>by cases c:d==NameKind.cell<;>simp[c]) _ _ _ _ ?_);rw[show({s with heap:=s.heap.push {cls:=.type "dict",data:=.dict #[]}}:Shared).heap.objs.size=s.heap.objs.size+1 from q9 ..];exact Ac (Al (Al b))
end
abbrev Dh (X:Cx) (N:G') (scope:Scope) (cs:List (Str×Addr)) (C:Addr) (s:Shared) (H:Hp) (ex:F'):Cx where
 prog:=X.prog
 w:=X.w
 K:=X.K
 mg:=X.mg
 base:=X.base
 A:=X.A
 N:=N
 s₀:=s
 H₀:=H
 env:=compEnvC scope cs C X.env
 outer:=X.stack
 stack:=X.stack
 ex:=ex
 fn:=λx=>decide (scope.names.lookup x≠some .free)
 calm:=X.calm
 pn:=[]
 xe:=λ_ _=>False
structure Ai (psc:Scope) (PN:G') (scope:Scope) (N:G') (k:Nat) (caps:O'):Prop where
 kind:scope.kind=.function
 loc:∀x∈scope.names,x.2=.local->scope.names.lookup x.1=some .local
 ndn:(scope.names.map (·.1)).Nodup
 nd:N.Nodup
 len:N.length=k+caps.length
 free:∀x∈scope.names,x.2=.free->psc.names.lookup x.1=some .cell\/psc.names.lookup x.1=some .free
 cap:∀p∈(N.drop k).zip caps,PN[p.2]?=some p.1/\scope.names.lookup p.1=some .free
def Cr (k:Nat) (caps:O') (σ:St):St:=List.replicate k none++caps.map λj=>(σ[j]?).getD none
variable {caps:O'}{i:Nat}{v:V}
def Sd{k:Nat}(h:(Cr k caps σ)[i]?=some (some v)):∃j,k<=i/\caps[i-k]?=some j/\σ[j]?=some (some v):=by
 unfold Cr at h;by_cases b:i<k;rw[Ew (by simpa using b),List.getElem?_replicate,Ap b] at h;cases h;rw[D6 (by simpa using b),q0,BP] at h
 cases e:caps[i-k]? with
 |none=>rw[e] at h;cases h
 |some j=>
  rw[e] at h;have a:(σ[j]?).getD none=some v:=C0 h;refine⟨j,by omega,rfl,?_⟩;cases q:σ[j]? with|none=>rw[q] at a;cases a|some o=>rw[q] at a;exact De some a
def Se{a:NameKind}(h:(relabel scope env).names.lookup x=some a):∃k,(x,k)∈scope.names/\(a=k\/(k=.free/\a=.cell)):=by
 have e:=EH h;have f:(x,a)∈scope.names.map (λ(n,k)=>if(k==NameKind.free && env.scope.kind==.function && env.kindOf n==some .cell) then(n,NameKind.cell) else(n,k)):=e;obtain⟨⟨n,k⟩,d,b⟩:=CU.mp f;dsimp only at b;by_cases c:(k==NameKind.free && env.scope.kind==.function && env.kindOf n==some .cell)=true;rw[Ap c] at b;cases b;simp only[Bool.and_eq_true,beq_iff_eq] at c;exact⟨k,d,.inr ⟨c.1.1,rfl⟩⟩;rw[An c] at b;cases b;exact⟨a,d,.inl rfl⟩
theorem Sf{f:Str×NameKind->Str×NameKind}(b:∀n k,f (n,k)=(n,k)\/(k=.free/\f (n,k)=(n,NameKind.cell))):∀{names:List (Str×NameKind)}{x:Str},names.lookup x=some .free->(names.map f).lookup x=some .cell\/(names.map f).lookup x=some .free
 |[],_,h=>by simp at h
 |(n,k)::r,x,h=>by
   have d:=@Sf f b r x;rw[G8] at h;rw[D1]
   cases a:x==n with
   |true=>rw[a] at h;cases h;rcases b n .free with e|⟨_,e⟩;right;rw[e,G8,a];left;rw[e,G8,a]
   |false=>rw[a] at h;have c:=d h;rcases b n k with e|⟨_,e⟩;rw[e,G8,a];exact c;rw[e,G8,a];exact c
def Qe(h:scope.names.lookup x=some .free):(relabel scope env).names.lookup x=some .cell\/(relabel scope env).names.lookup x=some .free:=by refine Sf (λn k=>?_) h;by_cases a:(k==NameKind.free && env.scope.kind==.function && env.kindOf n==some .cell)=true;right;refine⟨?_,Ap a⟩;simp only[Bool.and_eq_true,beq_iff_eq] at a;exact a.1.1;left;exact An a
def N3{names:List (Str×NameKind)}(h:(names.map (·.1)).Nodup){k d:NameKind}(a:(x,k)∈names)(b:(x,d)∈names):k=d:=by
 induction names with
 |nil=>simp at a
 |cons p r g=>rw[D1] at h;obtain⟨e,i⟩:=Hq.mp h;rcases BL.mp a with f|a<;>rcases BL.mp b with c|b;rw[<-f] at c;exact(Prod.mk.inj c).2.symm;exact absurd (CU.mpr ⟨_,b,by rw[<-f]⟩) e;exact absurd (CU.mpr ⟨_,a,by rw[<-c]⟩) e;exact g i a b
variable {h1:Heap}{C:Addr}
def Un.but{fs ex:F'}{h f:Heap}(u:Un fs ex H H' h h1)(c:Heap.SameBut C h1 f)(g:h.objs.size<=C):Un fs ex H H' h f:=by have ne:∀b o,h.get? b=some o->b≠C:=λb o e=>Bu (D8 (AI e) g);refine⟨λb o e n d a=>(c.2 b (ne b o e)).trans (u.keep b o e n d a),λb o e n d a=>?_,u.free,λb o e a=>?_,u.tups,u.frzs,u.tbls⟩;obtain⟨i,q⟩:=u.slot b o e n d a;exact⟨i,(c.2 b (ne b o e)).trans q⟩;obtain⟨j,q⟩:=u.there b o e a;exact⟨j,(c.2 b (ne b o e)).trans q⟩
def Ce.but{d:Heap}(x:Ce P w H h1)(g:Heap.SameBut C h1 d)(f:H C=none):Ce P w H d:=λb u e=>by refine(x b u e).stay (λc v a q=>(g.2 c ?_).trans q) (λ_ q=>q) λ_ _ q=>q;rintro rfl;rcases a with rfl|a;rw[f] at e;cases e;rw[f] at a;cases a
section
variable {X:Cx} {scope:Scope} {N:G'} {k:Nat} {caps:O'} {psc:Scope} {PN:G'} {pins:A'} {σ:St} {H:Hp} {s:Shared}
abbrev C2 (X:Cx) (scope:Scope) (C:Addr):List (Str×Addr):=cellsFrom (C+1) scope.names (Er X.env scope.names [])
def Sh(I:Inv X pins σ H s)(S:Ai X.env.scope X.N scope N k caps){c:Addr}(h:(x,c)∈C2 X scope C) :
 (x,c)∈cellsFrom (C+1) scope.names []\/X.env.cells.lookup x=some c:=by
 unfold C2 at h;rw[Je] at h;rcases CG.mp h with h|h;exact .inl h;rcases N0 h with h|⟨h,e⟩;simp at h;obtain⟨b,a⟩:=I.ok.has x (S.free _ h rfl);rw[a] at e;exact .inr (by rw[a];exact De some e.symm)
def Vb{r:F'}(I:Inv X pins σ H s)(S:Ai X.env.scope X.N scope N k caps)(A:∀b∈r,CV X pins H b)(ae:∀b∈r,∃o,s.heap.get? b=some o){D C:Nat}{t':Nat}(g:D=s.heap.objs.size)(G:C=D+1)
 (B:h1=pushCells ((s.heap.push {cls:=.type "list",data:=.seq #[]}).push {cls:=.type "dict",data:=.dict #[]}) scope.names) :
 Inv (Dh X N scope (C2 X scope C) C s H r) [] (Cr k caps σ) (upd H D (.lst [])) {s with heap:=h1,toks:=t'}:=by
 have Y:(s.heap.push {cls:=.type "list",data:=.seq #[]}).objs.size=C:=(by rw[q9,G,g]);have aa:((s.heap.push {cls:=.type "list",data:=.seq #[]}).push {cls:=.type "dict",data:=.dict #[]}).objs.size=C+1:=(by rw[q9,Y])
 have F:∀b o,s.heap.get? b=some o->h1.get? b=some o:=λb o e=>by
  rw[B];exact pushCells_keeps _ _ b o (AR _ (AR _ e))
 have ak:h1.get? D=some {cls:=.type "list",data:=.seq #[]}:=(by rw[B,g];exact pushCells_keeps _ _ _ _ (AR _ (BG _ rfl)));have af:h1.Ns C (λ_=>none):=(by rw[B,<-Y];exact(Heap.Ns.new _ (.type "dict")).keeps (pushCells_keeps _ _));have ok:=cellsFrom_ok scope.names ((s.heap.push {cls:=.type "list",data:=.seq #[]}).push {cls:=.type "dict",data:=.dict #[]}) (C+1) [] ⟨λ_ _ d=>(nomatch d),List.Pairwise.nil⟩ (by rw[aa];exact Aw _);rw[aa] at ok;have own:∀x c,(x,c)∈cellsFrom (C+1) scope.names []->h1.IsCell c none/\C+1<=c:=λx c h=>by rw[B];exact ok.empty x c h
 have O:∀x c,X.env.cells.lookup x=some c->c<D:=λx c e=>by
  obtain⟨v,q⟩:=I.cell x c e;rw[g];exact q.lt
 have W:∀b∈r,b<D:=λb f=>by
  obtain⟨o,e⟩:=ae b f;rw[g];exact AI e
 have ao:H C=none:=I.hok.fresh (by rw[G,g];exact Nat.le_succ _);have split:=λx c(h:(C2 X scope C).lookup x=some c)=>Sh (C:=C) I S (EH h);have R:∀b,b≠D->H b=none->(upd H D (.lst [])) b=none:=λb f e=>by rw[Ax f];exact e
 have al:∀x,scope.names.lookup x=some .free->∃c,X.env.cells.lookup x=some c/\(C2 X scope C).lookup x=some c:=λx t=>by
  have d:=EH t;obtain⟨E,J⟩:=MX (env:=X.env) (acc:=[]) d;obtain⟨c,T⟩:=L5 (l:=C2 X scope C) (x:=x) (c:=E) (by unfold C2;rw[Je];exact ED _ J);refine⟨c,?_,T⟩;rcases split x c T with q|q;rcases N1 q with z|z;simp at z;have:=N3 S.ndn d z;cases this;exact q
 have ag:(Dh X N scope (C2 X scope C) C s H r).Ok:=by
  refine⟨I.ok.mod,S.kind,I.ok.glob,I.ok.blt,?above,?inj,?has,?cab,I.ok.hd,I.ok.frames,.inl rfl,?exf,λb o e=>I.bs b o e,Dm I.ok.bsz I.sz,?noex,?exfs,I.stack,I.stkFree⟩
  case above =>
   show s.heap.objs.size<=C;rw[G,g];exact Nat.le_succ _
  case inj =>
   intro x y c K L;rcases split x c K with n|n<;>rcases split y c L with Z|Z;exact name_of_addr ok.apart n Z;have h1:@LE.le Nat _ (C+1) c:=(own x c n).2;have a:@LT.lt Nat _ c D:=O y c Z;exfalso;omega;have h1:@LE.le Nat _ (C+1) c:=(own y c Z).2;have a:@LT.lt Nat _ c D:=O x c n;exfalso;omega;exact I.ok.inj x y c n Z
  case has =>
   intro x t;have P:(relabel scope X.env).names.lookup x=some .cell\/(relabel scope X.env).names.lookup x=some .free:=t;have p:∃m,(x,m)∈scope.names/\(m=.cell\/m=.free):=(by rcases P with q|q;obtain⟨m,h1,a⟩:=Se q;rcases a with a|⟨a,_⟩;exact⟨m,h1,.inl a.symm⟩;exact⟨m,h1,.inr a⟩;obtain⟨m,h1,a⟩:=Se q;rcases a with a|⟨_,a⟩;exact⟨m,h1,.inr a.symm⟩;cases a);obtain⟨m,d,p|p⟩:=p;subst p
   have q:=PySem.W.cellsFrom_some scope.names (C+1) (Er X.env scope.names []) (x:=x) (.inl (by
    obtain⟨k2,w⟩:=L5 d;rw[w,N3 S.ndn (EH w) d]))
   exact Option.isSome_iff_exists.mp q;subst p;obtain⟨E,J⟩:=MX (env:=X.env) (acc:=[]) d;exact L5 (c:=E) (by show(x,E)∈C2 X scope C;unfold C2;rw[Je];exact ED _ J)
  case cab =>
   intro x c t e;have P:decide (scope.names.lookup x≠some .free)=true:=t;have ah:=E7 P;show s.heap.objs.size<=c;have e':(C2 X scope C).lookup x=some c:=e;have d:=EH e';unfold C2 at d;rw[Je] at d;rcases CG.mp d with z|z;have h1:@LE.le Nat _ (C+1) c:=(own x c z).2;have a:@LE.le Nat _ s.heap.objs.size c:=(by omega);exact a;rcases N0 z with z|⟨z,_⟩;simp at z;obtain⟨k2,w⟩:=L5 z;exact absurd (by rw[w,N3 S.ndn (EH w) z]) ah
  case exf =>
   intro b f;refine⟨?_,λx c e z=>?_⟩;have h1:@LT.lt Nat _ b D:=W b f;exact Bu (show @LT.lt Nat _ b C by omega);rcases split x c e with q|q;have h1:@LE.le Nat _ (C+1) c:=(own x c q).2;have a:@LT.lt Nat _ b D:=W b f;have U:@Eq Nat c b:=z;omega;exact(A b f).2.2.2.2.1 x c q z
  case noex =>
   intro b o e f;rcases(A b f).2.2.2.1 with q|q;exact I.ok.noex b o e q;exact absurd (D8 (AI e) (Dm I.ok.bsz q)) (D7 _)
  case exfs =>
   intro b f z;have U:b∈BM X.stack:=z;rcases BL.mp (I.stkSub b U) with q|q;exact(A b f).2.1 q;exact(A b f).2.2.1 q
 refine⟨ag,rfl,I.bare,Un.laid F (by rw[g];exact Aw _) (I.hok.fresh (by rw[g];exact Aw _)),⟨_,af,?loc⟩,?cell,R _ (show @Ne Nat C D by omega) ao,?freeC,λaq M=>absurd M (by simp),?hok,?len⟩
 case loc =>
  intro i x v K L e3;obtain⟨j,hi,hj,hv⟩:=Sd L;have hz:(x,j)∈(N.drop k).zip caps:=(by refine List.mem_iff_getElem?.mpr ⟨i-k,?_⟩;rw[List.getElem?_zip_eq_some];refine⟨?_,hj⟩;rw[List.getElem?_drop,show k+(i-k)=i by omega];exact K);obtain⟨M,Q⟩:=S.cap (x,j) hz;have p:=S.free (x,.free) (EH Q) rfl;obtain⟨ar,hn,hl⟩:=I.loc;obtain⟨u,ab,l⟩:=hl j x v M hv (by rcases p with q|q;exact .inr (.inl q);exact .inr (.inr q));refine⟨u,ab,?_⟩;obtain⟨c,ai,aj⟩:=al x Q;have an:s.heap.IsCell c (some u):=(by rcases l with⟨q,_⟩|⟨_,c',n,Z⟩;have V:X.env.scope.names.lookup x=some .local:=q;rcases p with z|z;rw[V] at z;cases z;rw[V] at z;cases z;rw[ai] at n;cases n;exact Z);exact .inr ⟨Qe Q,c,aj,an.keeps F⟩
 case cell =>
  intro x c e;rcases split x c e with q|q;exact⟨_,(own x c q).1⟩;obtain⟨v,z⟩:=I.cell x c q;exact⟨v,z.keeps F⟩
 case freeC =>
  intro x c e;rcases split x c e with q|q;have h1:@LE.le Nat _ (C+1) c:=(own x c q).2;have a:@LE.le Nat _ s.heap.objs.size c:=(by omega);exact R c (show @Ne Nat c D by omega) (I.hok.fresh a);exact R c (Bu (O x c q)) (I.freeC x c q)
 case hok =>
  exact I.hok.laid F (by rw[g];exact Aw _) ⟨A9 _,[],0,.nil,ak⟩
 case len =>
  show(Cr k caps σ).length=N.length;unfold Cr;rw[BF,q0,AD,S.len]
def Vc{a:F'}(I:Inv X pins σ H s)(S:Ai X.env.scope X.N scope N k caps){t:A'}{σ':St}{e:Shared}(P:∀x c,X.env.cells.lookup x=some c->c∉a)(T:s.heap.objs.size<=C)
 (J:Inv (Dh X N scope (C2 X scope C) C s H a) t σ' H' e):Inv (Dh X N scope (C2 X scope C) C s H a) t (Cr k caps σ) H' e:=by
 obtain⟨m,w,_⟩:=id J.loc;refine⟨J.ok,J.os,J.bare,J.base,⟨m,w,λi x v y A U=>?_⟩,J.cell,J.free,J.freeC,J.pin,J.hok,?_⟩;obtain⟨j,V,B,D⟩:=Sd A;have E:(x,j)∈(N.drop k).zip caps:=(by refine List.mem_iff_getElem?.mpr ⟨i-k,?_⟩;rw[List.getElem?_zip_eq_some];refine⟨?_,B⟩;rw[List.getElem?_drop,show k+(i-k)=i by omega];exact y);obtain⟨F,b⟩:=S.cap (x,j) E;have f:=S.free (x,.free) (EH b) rfl;obtain⟨W,aa,G⟩:=I.loc;obtain⟨u,r,l⟩:=G j x v F D (by rcases f with q|q;exact .inr (.inl q);exact .inr (.inr q));refine⟨u,r,?_⟩;have R:∃c,X.env.cells.lookup x=some c/\s.heap.IsCell c (some u):=(by rcases l with⟨q,_⟩|⟨_,g,K,Z⟩;have h:X.env.scope.names.lookup x=some .local:=q;rcases f with z|z;rw[h] at z;cases z;rw[h] at z;cases z;exact⟨g,K,Z⟩);obtain⟨c,d,o,L,hd⟩:=R;have Q:(C2 X scope C).lookup x=some c:=(by have n:=EH b;obtain⟨M,O⟩:=MX (env:=X.env) (acc:=[]) n;obtain⟨g,p⟩:=L5 (l:=C2 X scope C) (x:=x) (c:=M) (by unfold C2;rw[Je];exact ED _ O);rcases Sh (C:=C) I S (EH p) with q|q;rcases N1 q with z|z;simp at z;have:=N3 S.ndn n z;cases this;rw[d] at q;cases q;exact p);obtain⟨Y,q⟩:=J.base.any L (I.freeC x c d) (P x c d);exact .inr ⟨Qe b,c,Q,_,q,hd⟩;show(Cr k caps σ).length=N.length;unfold Cr;rw[BF,q0,AD,S.len]
end
def PF (X:Cx) (f:M') (t:TT):Prop:=
 ∀(pins:A')(s:Shared)(σ:St)(H:Hp)(Q:Bool->Hp->Prop),Inv X pins σ H s->t σ H Q ->
  wpAny (model X.prog X.w) X.A (forIn f true λc r=>if r=true then do let ok <-isTrue c X.env (eval c X.env);pure (ForInStep.yield ok) else pure (ForInStep.yield r)) (TP X pins σ Q) X.xe s
def DO:TT:=λ_ H Q=>Q true H
def EA:PF X [] DO:=λ_ _ _ H _ I h=>wpAny_tests_nil ⟨H,I,h⟩
def GB{c:Expr}{t:TT}(h:PT X c t):PF X [c] t:=λpins s σ H Q I a=>wpAny_tests_one (h pins s σ H Q I a)
variable {l j:Expr}{f:M'}
def Vd{prog:Program}{R:Result->Shared->Prop}{target:Expr}{d acc:Value}(I:Nat->Shared->Prop)
 (z:∀n s,I n s->wpAny (model prog w) A (pyNext d) (λr b=>match r with
  |none=>R (.ok .next) b
  |some v=>wpAny (model prog w) A (letOwnedTupleGo target d v) (λ_ b=>wpAny (model prog w) A (assign target env v) (λ_ i=>
   wpAny (model prog w) A (forIn f true λc r=>if r=true then do let ok <-isTrue c env (eval c env);pure (ForInStep.yield ok) else pure (ForInStep.yield r)) (λok g =>
    if ok=true then wpAny (model prog w) A (eval l env) (λx k =>
     wpAny (model prog w) A (call (.builtin "list.append") [acc,x]) (λ_ o=>∃m,m<n/\I m o) (λ_ _=>False) k) (λ_ _=>False) g
    else ∃m,m<n/\I m g) (λ_ _=>False) i) (λ_ _=>False) b) (λ_ _=>False) b) (λ_ _=>False) s)
 (n:Nat) (h:I n s) :
 codeAny (model prog w) A (.compLoop (.ListComp l [⟨target,j,f,0⟩] scope G) 0 d acc env) R s:=by
 refine codeAny_loop rfl I (λn s q=>?_) n h;show wpAny _ A ((compTurn (.ListComp l [⟨target,j,f,0⟩] scope G) 0 d acc env).onRaise (λx=>do noteFrame x env;theTreesLotGoes x)) _ _ s;refine wpAny_noted ?_;rw[compTurn_list];refine Ac (wpAny_standAt (Ac (Do (z n s q) (λr b e=>?_) λ_ _ a=>a.elim)))
 cases r with
 |none=>exact Al e
 |some v=>
  refine Ac (Do e (λ_ b e=>?_) λ_ _ a=>a.elim);refine Ac (Do e (λ_ i t=>Ac (Do t (λok g p=>?_) λ_ _ a=>a.elim)) λ_ _ a=>a.elim);cases ok with|false=>exact Al ⟨rfl,p⟩|true=>exact Ac (Ac (Do p (λx k u=>Ac (Do u (λ_ o y=>Al (Al ⟨rfl,y⟩)) λ_ _ a=>a.elim)) λ_ _ a=>a.elim))
def N4 (k:Nat) (caps:O') (wi:TI) (g:TG) (tc:TT) (te:TE):TE:=λσ H Q=>wi σ H λJ Y=>∀D,Y D=none->∃W:Nat->Nat->R'->Hp->Prop,(∃m,W 0 m [] (upd Y D (.lst [])))/\∀i m ys U,W i m ys U ->
 (J.stop i U/\Q (.ref D) U)\/(J.go i U/\∀x H3,J.yld i U x H3->g x (Cr k caps σ) H3 λσ4 H4=>tc σ4 H4 λb H5 =>
  if b=true then te σ4 H5 λy H6=>H6 D=some (.lst ys)/\ys.length<sizeLine/\∃m',m'<m/\W (i+1) m' (ys++[y]) (upd H6 D (.lst (ys++[y]))) else ∃m',m'<m/\W (i+1) m' ys H5)
variable {N:G'}{g:TG}{tc:TT}
def Qf{k:Nat}{E:B'}{Q:VK}
 {it:Addr} {d:F'} {O:Nat->Heap->Prop} {J:It} {Y:Value->Addr->Result->Shared->Prop} {cm:Cx->Prop} (hc:∀A C s H ex,cm (Dh X N scope A C s H ex)) (S:Ai X.env.scope X.N scope N k caps) (I:Inv X pins σ H s)
 (T:Fc cm X.prog X.w X.K tg J d it O) (st:O 0 s.heap) (u:∀b∈d,CV X pins H b)
 (hg:∀A C s H ex,PG (Dh X N scope A C s H ex) tg g) (ht:∀A C s H ex,PF (Dh X N scope A C s H ex) f tc) (he:∀A C s H ex,PE (Dh X N scope A C s H ex) l te)
 (q:∀D,H D=none->∃W:Nat->Nat->R'->Hp->Prop,(∃m,W 0 m [] (upd H D (.lst [])))/\∀i m h U,W i m h U ->
  (J.stop i U/\Q (.ref D) U)\/(J.go i U/\∀x B,J.yld i U x B->g x (Cr k caps σ) B λσ4 H4=>tc σ4 H4 λb P =>
   if b=true then te σ4 P λy Z=>Z D=some (.lst h)/\h.length<sizeLine/\∃p,p<m/\W (i+1) p (h++[y]) (upd Z D (.lst (h++[y]))) else ∃p,p<m/\W (i+1) p h P))
 (ao:∀D C H' r m,C≠X.env.locals->(∀x c,X.env.cells.lookup x=some c->c≠C)->r.heap.Ns C m->(∀h',Heap.SameBut C r.heap h'->Inv X pins σ H' {r with heap:=h'})->H' C=none->s.heap.objs.size<=C->Q (.ref D) H'->Y (.ref D) C (.ok .next) r) :
 wpAny (model X.prog X.w) X.A (newList []) (λacc s₃=>wpAny (model X.prog X.w) X.A (newFunctionEnv scope X.env.globals (Er X.env scope.names []) [] X.env.qual none .none (some X.env)) (λai s₄ =>
  codeAny (model X.prog X.w) X.A (.compStart (.ListComp l [⟨tg,j,f,0⟩] scope G) 0 (.ref it) acc {ai with scope:=relabel scope X.env}) (Y acc ai.locals) s₄) E s₃) E s:=by
 refine wpAny_newObj_type (Va ?_);generalize t:s.heap.objs.size=D;have a1:(s.heap.push {cls:=.type "list",dict:=none,data:=.seq ([]:E').toArray}).objs.size=D+1:=(by rw[q9,t]);dsimp only;rw[a1];have aa:∀b∈d,∃o,s.heap.get? b=some o:=λb a=>let ⟨o,e,_⟩:=T.obj 0 _ st b a;⟨o,e⟩;have aq:H D=none:=I.hok.fresh (by rw[t];exact Aw _);have J0:=Vb (t':=s.toks) I S u aa (D:=D) (C:=D+1) t.symm rfl rfl;have ar:∀x c,X.env.cells.lookup x=some c->c∉d:=λx c e a=>(u c a).2.2.2.2.1 x c e rfl
 have ab:∀{M:A'}{H':Hp},(∀b∈d,H' b=none)->M=[]->∀b∈d,CV (Dh X N scope (C2 X scope (D+1)) (D+1) s H d) M H' b:=λ{M H'}hn hp b a=>by
  obtain⟨o,e⟩:=aa b a;have au:@LT.lt Nat _ b D:=by rw[<-t];exact AI e
  subst hp;refine⟨hn b a,?_,λz=>?_,.inl a,λx c e=>(J0.ok.exf b a).2 x c e,λa3 hp=>absurd hp (by simp)⟩;show @Ne Nat b (D+1);omega;have z':b∈BM X.stack:=z;rcases BL.mp (I.stkSub b z') with w|w;exact(u b a).2.1 w;exact(u b a).2.2.1 w
 obtain⟨W,⟨m0,ak⟩,a2⟩:=q D aq;have af:O 0 (pushCells ((s.heap.push {cls:=.type "list",data:=.seq #[]}).push {cls:=.type "dict",data:=.dict #[]}) scope.names):=T.keep 0 _ _ st λb a o e=>pushCells_keeps _ _ b o (AR _ (AR _ e))
 have av:∀b∈d,(upd H D (.lst [])) b=none:=λb a=>by
  obtain⟨o,e⟩:=aa b a;have au:@LT.lt Nat _ b D:=by rw[<-t];exact AI e
  rw[Ax (show @Ne Nat b D by omega)];exact(u b a).1
 have aw:∀{H':Hp}{r:Shared}{σ':St}{M:A'},Inv (Dh X N scope (C2 X scope (D+1)) (D+1) s H d) M σ' H' r->Q (.ref D) H'->Y (.ref D) (D+1) (.ok .next) r:=λ{H' r σ' M}J q=>by
  obtain⟨m,hn,_⟩:=id J.loc;refine ao D (D+1) H' r m (λz=>?_) (λx c e z=>?_) hn (λh' hs=>?_) J.free (by rw[t];exact Nat.le_succ _) q;have h1:@LT.lt Nat _ X.env.locals D:=by rw[<-t];exact I.lt
  have z':@Eq Nat (D+1) X.env.locals:=z;omega;obtain⟨v,y⟩:=I.cell x c e;have h1:@LT.lt Nat _ c D:=by rw[<-t];exact y.lt
  have z':@Eq Nat c (D+1):=z;omega;refine I.call' (ch:=d) J.os (J.base.but hs (by rw[t];exact Nat.le_succ _)) (J.hok.but hs J.free) J.bare λb a=>?_;exact⟨(u b a).2.2.2.1,(u b a).2.1,(u b a).2.2.2.2.1,(u b a).2.2.2.2.2⟩
 have aj:codeAny (model X.prog X.w) X.A (.compLoop (.ListComp l [⟨tg,j,f,0⟩] scope G) 0 (.ref it) (.ref D) (compEnvC scope (C2 X scope (D+1)) (D+1) X.env)) (Y (.ref D) (D+1))
  {s with heap:=pushCells ((s.heap.push {cls:=.type "list",data:=.seq #[]}).push {cls:=.type "dict",data:=.dict #[]}) scope.names}:=by
  refine Vd (λn r=>∃i h H',Inv (Dh X N scope (C2 X scope (D+1)) (D+1) s H d) [] (Cr k caps σ) H' r/\O i r.heap/\(∀b∈d,H' b=none)/\W i n h H') ?_ m0 ⟨0,[],_,J0,af,av,ak⟩;rintro n s3 ⟨i,h,B,I3,ag,ah,w3⟩;rcases a2 i n h B w3 with⟨stop,qn⟩|⟨go,step⟩
  . refine AG (T.done (Dh X N scope (C2 X scope (D+1)) (D+1) s H d) rfl rfl rfl (hc _ _ _ _ _) i [] s3 _ B _ I3 (ab ah rfl) ag stop) λal s4⟨hr,I4⟩=>?_
    subst hr;exact aw I4 qn
  refine AG (T.item (Dh X N scope (C2 X scope (D+1)) (D+1) s H d) rfl rfl rfl (hc _ _ _ _ _) i [] s3 _ B _ I3 (ab ah rfl) ag go) λal s4⟨an,hr,h4⟩=>?_;subst hr;refine AG h4 λ_ s5⟨x,P,I5,r5,y5,ae,ax⟩=>?_;have ay:=I5.pinned (ab ax rfl) (T.obj _ _ ae)
  have again:∀{σ7:St}{F:Hp}{K:Shared}{p:Nat}{zs:R'},Inv (Dh X N scope (C2 X scope (D+1)) (D+1) s H d) ([]++MF d s5.heap) σ7 F K->p<n->W (i+1) p zs F ->
   ∃m,m<n/\∃i h H',Inv (Dh X N scope (C2 X scope (D+1)) (D+1) s H d) [] (Cr k caps σ) H' K/\O i K.heap/\(∀b∈d,H' b=none)/\W i m h H':=λ{σ7 F K p zs}L R w7=>by
   refine⟨p,R,i+1,zs,F,Vc I S ar (by rw[t];exact Nat.le_succ _) L.unpinned,T.keep _ _ _ ae λb a o e=>(L.pin (b,o) (ED _ (ED _ (NW a e)))).1,λb a=>?_,w7⟩;obtain⟨o,e,a4⟩:=T.obj _ _ ae b a;exact(L.pin (b,o) (ED _ (ED _ (NW a e)))).2.1
  refine AG (hg _ _ _ _ _ _ s5 _ P x an _ ay r5 (step x P y5)) λ_ s6⟨σ6,Z,I6,q6⟩=>?_;refine AG (ht _ _ _ _ _ _ s6 σ6 Z _ I6 q6) λb K⟨F,L,q7⟩=>?_;cases b with|false=>rw[An B0] at q7 ⊢;obtain⟨p,R,w7⟩:=q7;exact again L R w7|true=>rw[Ap rfl] at q7 ⊢;refine AG (he _ _ _ _ _ _ K σ6 F _ L q7) λy s8⟨yv,H8,I8,r8,az,a0,p,R,w8⟩=>?_;refine AG (RY (X:=Dh X N scope (C2 X scope (D+1)) (D+1) s H d) _ s8 σ6 H8 (.ref D) [yv] (.ref D) [y] (λ_ H9=>W (i+1) p (h++[yv]) H9) I8 rfl (.cons r8 .nil) ⟨D,h,yv,rfl,rfl,az,a0,w8⟩) λ_ s9⟨_,H9,I9,_,w9⟩=>?_;exact again I9 R w9
 exact codeAny_compStart_list aj (T.self _ 0 _ _ _ af aj)
def ES{k:Nat}{b:TI}(c:X.calm=true)(S:Ai X.env.scope X.N scope N k caps)(hi:PI X tg j b)
 (d:∀a C s H ex,PG (Dh X N scope a C s H ex) tg g) (i:∀a C s H ex,PF (Dh X N scope a C s H ex) f tc) (n:∀a C s H ex,PE (Dh X N scope a C s H ex) l te)
 (o:∀x,foldedSetIterable j X.env x=pure x:=by intro _;rfl):PE X (.ListComp l [⟨tg,j,f,0⟩] scope G) (N4 k caps b g tc te):=by
 intro pins s σ H Q I h;have B:closureFor scope X.env=pure (Er X.env scope.names []):=Qc λx p E=>I.ok.has x.1 (S.free x p E);rw[eval_ListComp];refine wpAny_comprehension_free (use:=none) rfl o B S.kind S.loc (AG (hi pins s σ H _ I h) λv L h1=>AG h1 λW M r=>?_);obtain⟨O,P,R,J,U,e,t,T,F,u,q⟩:=r;subst e;refine Qf (Q:=Q) (λ_ _ _ _ _=>c) S t T F u d i n q ?_;intro D C H' V m _ _ w y _ _ z;exact⟨m,w,λA K=>⟨.ref D,H',y A K,rfl,z⟩⟩
set_option tactic.hygienic true in
def Si{E:Pos}{k:Nat}{F:Pos}{u:TI}(J:X.N.Nodup)(aa:X.N[i]?=some x)(o:Loc X.env.scope x)
 (K:X.calm=true) (S:Ai X.env.scope X.N scope N k caps) (hi:PI X tg j u)
 (L:∀c C s H ex,PG (Dh X N scope c C s H ex) tg g) (M:∀c C s H ex,PF (Dh X N scope c C s H ex) f tc) (O:∀c C s H ex,PE (Dh X N scope c C s H ex) l te)
 (ab:swapsWith (.ListComp l [⟨tg,j,f,0⟩] scope G) (some (.Name x F)) E.line X.env=pure true:=by rfl)
 (P:∀x,foldedSetIterable j X.env x=pure x:=by intro _;rfl) (ae:X.fn x=true\/X.env.scope.names.lookup x=some .local:=by first|exact .inl rfl|exact .inr rfl|assumption) :
 PS X (.Assign [.Name x F] (.ListComp l [⟨tg,j,f,0⟩] scope G) E) (HC (N4 k caps u g tc te) (Eb i)):=by
 intro pins s σ H D I h;have af:closureFor scope X.env=pure (Er X.env scope.names []):=Qc λx o ag=>I.ok.has x.1 (S.free x o ag);rw[exec_Assign_Name_used _ _ _ _ ab];refine Ac (wpAny_standAt (Ac ?_));show wpAny _ _ (do let _ <-comprehension (.ListComp l [⟨tg,j,f,0⟩] scope G) scope X.env _ (newList []) false (eval j X.env) (some (assign (.Name x F) X.env))) _ _ s
 refine Ac (Do (wpAny_comprehension_free (use:=some (assign (.Name x F) X.env)) (Q:=λ_ d=>SP X pins D .next d) rfl P af S.kind S.loc
  (AG (hi pins s σ H _ I h) λv s1 h1=>AG h1 λav s2 R=>?_)) (λ_ d r=>Al (Al r)) λ_ _ e=>e)
 obtain⟨it,fp,tn,aq,ar,e,t,T,ah,U,q⟩:=R;subst e;refine Qf (Q:=λx Y=>Eb i x σ Y D.nx) (λ_ _ _ _ _=>K) S t T ah U L M O q ?_;intro w C H' d m y A W Z ai B r;have I3:=Z d.heap (.refl ..);have aj:Inv X pins σ H' d:=I3;refine wpAny_assign_Name (Rv aj J aa o (show RelV (V.ref w) (.ref w) from rfl) (λak I4⟨a,al,n⟩=>?_) ae);have an:C≠a:=(by rcases n with n|n;rw[n];exact y;exact Ne.symm (A x a n));refine⟨m,W.sameBut al an,λh' ao=>?_⟩;refine⟨_,H',?_,r⟩
 exact I4.turned (t':=ak.toks) (λb au hb e=>(ao.2 b hb).trans e) ai y (.inr (Dm t.sz B)) A λp hp z=>by
  have:=AI (t.pin p hp).1;rw[z] at this;exact absurd (D8 this B) (D7 _)
def Bo (P:Program) (w:World) (K:Ah) (mg:Str->J') (base:Heap) (x:Str) (k:Nat) (ps:G') (sp:Sp):Prop:=
 ∃f fd,Cg P w K mg base EQ k f fd ps sp/\mg x=some (.ref f)/\PySem.W.keepIn K (.ref f)=true/\Binds K fd ps []
section
variable {X:Cx} {x:Str} {k:Nat} {ps:G'} {sp:Sp} {e:Expr} {es:M'} {t:TA} {p G:Pos}
def A3(C:Bo X.prog X.w X.K X.mg X.base x k ps sp)(a:PA X (e::es) t)(b:Bc k X.A:=by exact Bc.mono (by assumption) (by decide))(c:Gl X x:=by rfl)(j:(x==f')=false:=by decide)
 (d:starEach (e::es) X.env=(false,eval e X.env)::starEach es X.env:=by rfl) (l:(backTo G (starEach es X.env)).any (·.1)=false:=by rfl):PE X (.Call (.Name x p) (e::es) [] G) (NY sp [] E0 t):=by
 obtain⟨f,fd,F,g,h,i⟩:=C;exact RI F b c g h i .nil MT a j d l
end
def FD(n:String)(a:Gl X x)(b:X.mg x=none)(hv:bootBuiltins x=some (.type n))(c:x ≠ "__name__" :=by decide)(hd:(x==f')=false:=by decide):PE X (.Name x G) (tC (.ty n)):=Hz (v:=.ty n) a b hv rfl c hd
def N5{t u:TS}{D:Ends}{σ:L2.St}(P:L2.St->Hp->Prop)(a:∀σ' H',P σ' H'->u D σ' H')(b:∀N:L2.St->Hp->Prop,(∀σ' H',P σ' H'->N σ' H')->t {D with nx:=N} σ H):Fu t u D σ H:=b (u D) a
def Ad.upd{H H':Hp}{D:Addr}{o:HO}(h:Ad H H')(a:H D=none):Ad H (upd H' D o):=λb u e=>by rw[Ax (AM e a)];exact h b u e
def Ad.seqT{K:Ah}(e:Ad H H')(h:AB K H a xs):AB K H' a xs:=by rcases h with(h|⟨o,h⟩)|h;exact .inl (.inl (e _ _ h));exact .inl (.inr ⟨o,e _ _ h⟩);exact .inr h
variable {Q:Addr->Hp->Prop}
def Ve{k:Nat}{lo:Int}(f:Nat->V)(u:n<=sizeLine)
 (t:∀(i:Nat)(U:Hp)(D:Addr)(R:VK),i<n->Ad Y U->Y D=none->(∀c,Ad U c->R (f i) c)->g (.int (lo+i)) (Cr k caps σ) U λσ4 h=>te σ4 h R)
 (hd:∀(U:Hp)(D:Addr),Ad Y U->Y D=none->U D=some (.lst ((List.range n).map f))->Q D U) :
 ∀D,Y D=none->∃W:Nat->Nat->R'->Hp->Prop,(∃m,W 0 m [] (upd Y D (.lst [])))/\∀i m a U,W i m a U ->
  ((Hc lo n).stop i U/\Q D U)\/((Hc lo n).go i U/\∀x c,(Hc lo n).yld i U x c->g x (Cr k caps σ) c λσ4 h=>DO σ4 h λb p =>
   if b=true then te σ4 p λy q=>q D=some (.lst a)/\a.length<sizeLine/\∃d,d<m/\W (i+1) d (a++[y]) (upd q D (.lst (a++[y]))) else ∃d,d<m/\W (i+1) d a p):=by
 intro D j;refine⟨λi m a U=>m=n-i/\i<=n/\a=(List.range i).map f/\Ad Y U/\U D=some (.lst a),⟨n,rfl,A9 _,rfl,(Ad.refl _).upd j,Aa⟩,?_⟩;rintro i m a U ⟨rfl,v,rfl,l,r⟩;by_cases o:i<n;refine .inr ⟨o,λx c y=>?_⟩;obtain⟨rfl,rfl⟩:=y;refine t i c D _ o l j λh s=>?_;refine⟨s _ _ r,by rw[AD,p9];omega,n-(i+1),by omega,rfl,o,?_,(l.trans s).upd j,Aa⟩;rw[List.range_succ,Cb];rfl;have e:i=n:=(by omega);subst e;exact .inl ⟨Aw _,hd U D l j r⟩
def Sj{K:Ah}{k:Nat}(f:V->V)(w:xs.length<=sizeLine)(u:Ag K Y a xs)
 (v:∀(i:Nat)(x:V)(U:Hp)(D:Addr)(R:VK),xs[i]?=some x->Ad Y U->Y D=none->(∀d,Ad U d->R (f x) d)->g x (Cr k caps σ) U λσ4 j=>te σ4 j R)
 (hd:∀(U:Hp)(D:Addr),Ad Y U->Y D=none->U D=some (.lst (xs.map f))->Q D U) :
 ∀D,Y D=none->∃W:Nat->Nat->R'->Hp->Prop,(∃m,W 0 m [] (upd Y D (.lst [])))/\∀i m c U,W i m c U ->
  ((Ez K a).stop i U/\Q D U)\/((Ez K a).go i U/\∀x d,(Ez K a).yld i U x d->g x (Cr k caps σ) d λσ4 j=>DO σ4 j λb p =>
   if b=true then te σ4 p λy q=>q D=some (.lst c)/\c.length<sizeLine/\∃h,h<m/\W (i+1) h (c++[y]) (upd q D (.lst (c++[y]))) else ∃h,h<m/\W (i+1) h c p):=by
 intro D l;refine⟨λi m c U=>m=xs.length-i/\i<=xs.length/\c=(xs.take i).map f/\Ad Y U/\U D=some (.lst c),⟨xs.length,rfl,A9 _,rfl,(Ad.refl _).upd l,Aa⟩,?_⟩;rintro i m c U ⟨rfl,z,rfl,n,o⟩;have Z:=n.seq u;by_cases t:i<xs.length;refine .inr ⟨⟨xs,xs[i],Z,by simp[t]⟩,λx d y=>?_⟩;obtain⟨rfl,y⟩:=y;have r:=y xs Z;refine v i x d D _ r n l λj s=>?_;refine⟨s _ _ o,by rw[AD,CA];omega,xs.length-(i+1),by omega,rfl,t,?_,(n.trans s).upd l,Aa⟩;rw[E4,r,Cb];rfl;have e:i=xs.length:=(by omega);subst e;rw[FQ] at o;exact .inl ⟨⟨xs,Z,Aw _⟩,hd U D n l o⟩
def Vf{k:Nat}(f:Nat->V)(z:x.cps.size<=sizeLine)
 (u:∀(i c:Nat)(U:Hp)(D:Addr)(R:VK),x.cps[i]?=some c->Ad Y U->Y D=none->(∀d,Ad U d->R (f c) d)->g (.str ⟨#[c]⟩) (Cr k caps σ) U λσ4 j=>te σ4 j R)
 (hd:∀(U:Hp)(D:Addr),Ad Y U->Y D=none->U D=some (.lst (x.cps.toList.map f))->Q D U) :
 ∀D,Y D=none->∃W:Nat->Nat->R'->Hp->Prop,(∃m,W 0 m [] (upd Y D (.lst [])))/\∀i m a U,W i m a U ->
  ((MU x).stop i U/\Q D U)\/((MU x).go i U/\∀y d,(MU x).yld i U y d->g y (Cr k caps σ) d λσ4 j=>DO σ4 j λb p =>
   if b=true then te σ4 p λy q=>q D=some (.lst a)/\a.length<sizeLine/\∃h,h<m/\W (i+1) h (a++[y]) (upd q D (.lst (a++[y]))) else ∃h,h<m/\W (i+1) h a p):=by
 intro D l;refine⟨λi m a U=>m=x.cps.size-i/\i<=x.cps.size/\a=(x.cps.toList.take i).map f/\Ad Y U/\U D=some (.lst a),⟨x.cps.size,rfl,A9 _,rfl,(Ad.refl _).upd l,Aa⟩,?_⟩;rintro i m a U ⟨rfl,A,rfl,n,o⟩;by_cases t:i<x.cps.size;refine .inr ⟨t,λy d v=>?_⟩;obtain⟨rfl,c,r,rfl⟩:=v;have w:x.cps.toList[i]?=some c:=(by simpa using r);refine u i c d D _ r n l λj s=>?_;refine⟨s _ _ o,by rw[AD,CA];omega,x.cps.size-(i+1),by omega,rfl,t,?_,(n.trans s).upd l,Aa⟩;rw[E4,w,Cb];rfl;have e:i=x.cps.size:=(by omega);rw[e,List.take_of_length_le (by simp)] at o;exact .inl ⟨e,hd U D n l o⟩
def Sk{c d:Nat}:(decide (([c]:O') < [d]))=decide (c<d):=by
 by_cases h:c<d;rw[B2 h,B2];exact List.Lex.rel h;rw[BZ h,BZ];intro q;cases q with|rel q=>exact h q|cons q=>cases q
def FE (ns:D') (k:Int):Int:=(ns[k.toNat]?).getD 0
def MY{u:TS}{D:Ends}(h:u D (σ.set i (some v)) H):Fu (HC (tC v) (Eb i)) u D σ H:=h
def Vg(xs:R')(n:Nat):FC xs none (some (n:Int))=xs.take n:=by unfold FC;rw[HT.sIx_none,HT.sIx_nat,List.drop_zero,Nat.sub_zero];by_cases h:n<=xs.length;rw[Nat.min_eq_left h];rw[Nat.min_eq_right (by omega),List.take_of_length_le (Aw _),List.take_of_length_le (by omega)]
def AJ{p:Addr}{o:HO}(h:H p=none):Ad H (upd H p o):=(Ad.refl H).upd h
open PySem.SeqAt
inductive Dt where
 |non|bl (b:Bool)|int (i:Int)|str (x:Str)|tup (l:List Dt)|lst (l:List Dt)
mutual
inductive Av (K:Ah) (H:Hp):V->Dt->Prop where
 | non:Av K H .non .non
 | bl (b:Bool):Av K H (.bl b) (.bl b)
 | int (i:Int):Av K H (.int i) (.int i)
 | str (x:Str):Av K H (.str x) (.str x)
 | tup {a:Addr} {vs:R'} {ds:List Dt} (h:AB K H a vs) (t:AF K H vs ds):Av K H (.ref a) (.tup ds)
 | lst {a:Addr} {vs:R'} {ds:List Dt} (h:Ag K H a vs) (t:AF K H vs ds):Av K H (.ref a) (.lst ds)
inductive AF (K:Ah) (H:Hp):R'->List Dt->Prop where
 | nil:AF K H [] []
 | cons {v:V} {d:Dt} {vs:R'} {ds:List Dt} (h:Av K H v d) (t:AF K H vs ds):AF K H (v :: vs) (d :: ds)
end
theorem AF.length{K:Ah}{H:Hp}:∀{vs:R'}{a:List Dt},AF K H vs a->vs.length=a.length
 |_,_,.nil=>rfl
 |_,_,.cons _ t=>De (·+1) t.length
theorem AF.get{K:Ah}{H:Hp}:∀{vs:R'}{a:List Dt}{i:Nat}{v:V},AF K H vs a->vs[i]?=some v->∃d,a[i]?=some d/\Av K H v d
 |_,_,_,_,.nil,e=>by simp at e
 |_,_,0,_,.cons h _,e=>by simp at e;subst e;exact⟨_,rfl,h⟩
 |_,_,i+1,v,.cons _ t,e=>by obtain⟨d,h1,b⟩:=AF.get (i:=i) (v:=v) t (by simpa using e);exact⟨d,by simpa using h1,b⟩
theorem AF.get'{K:Ah}{H:Hp}:∀{vs:R'}{a:List Dt}{i:Nat}{d:Dt},AF K H vs a->a[i]?=some d->∃v,vs[i]?=some v/\Av K H v d
 |_,_,_,_,.nil,e=>by simp at e
 |_,_,0,_,.cons h _,e=>by simp at e;subst e;exact⟨_,rfl,h⟩
 |_,_,i+1,v,.cons _ t,e=>by obtain⟨d,h1,b⟩:=AF.get' (i:=i) (d:=v) t (by simpa using e);exact⟨d,by simpa using h1,b⟩
section
variable {X:Cx} {pins:A'} {σ:St} {H:Hp} {s:Shared}
def Inv.not_both(I:Inv X pins σ H s){f:R'}(h:Ag X.K H a xs)(h':AB X.K H a f):False:=by obtain⟨_,_,⟨o,n,e,c,_⟩,_⟩:=I.list h;obtain⟨_,_,⟨g,b,d,_⟩,_⟩:=I.tuple h';rw[e] at b;cases b;rw[c] at d;exact absurd d (by decide)
mutual
theorem Av.inj (I:Inv X pins σ H s) {v:V} {d e:Dt} (h:Av X.K H v d) (h':Av X.K H v e):d=e:=by
 cases h with
 | non=>cases h';rfl
 | bl _=>cases h';rfl
 | int _=>cases h';rfl
 | str _=>cases h';rfl
 | tup h t=>cases h' with
   | tup h' a=>have e:=I.tuple_inj h h';subst e;rw[AF.inj I t a]
   | lst h' _=>exact(I.not_both h' h).elim
 | lst h t=>cases h' with
   | lst h' a=>have e:=I.list_inj h h';subst e;rw[AF.inj I t a]
   | tup h' _=>exact(I.not_both h h').elim
theorem AF.inj (I:Inv X pins σ H s) {vs:R'} {a es:List Dt} (h:AF X.K H vs a) (h':AF X.K H vs es):a=es:=by
 cases h with
 | nil=>cases h';rfl
 | cons h t=>cases h' with
   | cons h' b=>rw[Av.inj I h h',AF.inj I t b]
end
end
def Dt.kd:Dt->Nat
 |.non=>0|.bl _=>1|.int _=>2|.str _=>3|.tup _=>4|.lst _=>5
def FT (a b:Nat):Bool:=a != b && !(a==1 && b==2) && !(a==2 && b==1)
mutual
inductive DS:Nat->Dt->Dt->Prop where
 | non {n:Nat}:DS n .non .non
 | bl {n:Nat} (a b:Bool):DS n (.bl a) (.bl b)
 | int {n:Nat} (a b:Int):DS n (.int a) (.int b)
 | str {n:Nat} (a b:Str):DS n (.str a) (.str b)
 | tup {n:Nat} {ds es:List Dt} (t:Cj n ds es):DS (n+1) (.tup ds) (.tup es)
 | lst {n:Nat} {ds es:List Dt} (t:Cj n ds es):DS (n+1) (.lst ds) (.lst es)
 | apart {n:Nat} {d e:Dt} (h:FT d.kd e.kd=true):DS (n+1) d e
inductive Cj:Nat->List Dt->List Dt->Prop where
 | nil {n:Nat} (es:List Dt):Cj n [] es
 | nil' {n:Nat} (ds:List Dt):Cj n ds []
 | cons {n:Nat} {d e:Dt} {ds es:List Dt} (h:DS n d e) (t:Cj n ds es):Cj n (d :: ds) (e :: es)
end
theorem Cj.of{n:Nat}:∀{a es:List Dt},(∀d∈a,∀e∈es,DS n d e)->Cj n a es
 |[],es,_=>.nil es
 |d::a,[],_=>.nil' _
 |d::a,e::es,h=>.cons (h d (by simp) e (by simp)) (Cj.of λx b y c=>h x (by simp[b]) y (by simp[c]))
open Classical in
noncomputable def dec (p:Prop):Bool:=decide p
variable {p:Prop}
def Em(h:p):dec p=true:=@B2 p (Classical.propDecidable p) h
def FF(h:¬p):dec p=false:=@BZ p (Classical.propDecidable p) h
def Fd:dec p=true↔p:=⟨λh=>@E7 p (Classical.propDecidable p) h,Em⟩
def L6{q:Prop}(h:p↔q):dec p=dec q:=by rw[propext h]
def Qg{α:Type} [BEq α] [LawfulBEq α]{a b:α}(h:p↔a=b):(a==b)=dec p:=by by_cases e:a=b;subst e;rw[Em (h.mpr rfl)];exact beq_self_eq_true _;rw[FF λq=>e (h.mp q)];exact beq_false_of_ne e
variable {ds es:List Dt}
def Vh(b:ds.length=es.length)(h:∀i,i<ds.length->ds[i]?=es[i]?):ds=es:=r6 λi=>by by_cases a:i<ds.length;exact h i a;rw[FZ (by omega),FZ (by omega)]
section
variable {X:Cx} {pins:A'} {σ:St} {H:Hp} {s:Shared}
def Hi(A:Around):A.in1.units=A.units+1:=rfl
def Sl(I:Inv X pins σ H s){vs c:R'}{a b:E'}(f:Am vs a)(g:Am c b)(o:AF X.K H vs ds)(r:AF X.K H c es)
 (t:∀(i:Nat)(d e:Dt)(v u:V)(x y:Value),ds[i]?=some d->es[i]?=some e->RelV v x->RelV u y->Av X.K H v d->Av X.K H u e->EqAt A s x y (dec (d=e))) :
 ∀j(h1:j<a.toArray.size)(h:j<b.toArray.size),EqAt A s a.toArray[j] b.toArray[j] (dec (ds[j]?=es[j]?)):=by
 intro j h1 h;have E:=f.length;have F:=g.length;have C:j<a.length:=(by simpa using h1);have D:j<b.length:=(by simpa using h);obtain⟨x,l,w⟩:=f.get (i:=j) (x:=vs[j]'(by omega)) (AQ (by omega));obtain⟨y,m,z⟩:=g.get (i:=j) (x:=c[j]'(by omega)) (AQ (by omega));obtain⟨d,hd,k⟩:=o.get (i:=j) (v:=vs[j]'(by omega)) (AQ (by omega));obtain⟨e,n,te⟩:=r.get (i:=j) (v:=c[j]'(by omega)) (AQ (by omega));have ex:a.toArray[j]=x:=(by rw[AQ C] at l;simpa using l);have B:b.toArray[j]=y:=(by rw[AQ D] at m;simpa using m);rw[ex,B,hd,n];have:=t j d e _ _ x y hd n w z k te;rw[L6 (p:=some d=some e) (q:=d=e) (by simp)];exact this
def Sm(a:n=ds.length)(b:ds.length=es.length):(List.range n).all (λj=>dec (ds[j]?=es[j]?))=dec (ds=es):=by subst a;by_cases h:ds=es;subst h;rw[Em rfl,List.all_eq_true];exact λi _=>Em rfl;rw[FF h,Bool.eq_false_iff];intro q;rw[List.all_eq_true] at q;exact h (Vh b λi c=>Fd.mp (q i (List.mem_range.mpr c)))
variable {d e:Dt}{u:V}{y:Value}
def Vi(I:Inv X pins σ H s){x:Value}(h:FT d.kd e.kd=true)(k:Av X.K H v d)(te:Av X.K H u e)(l:RelV v x)(g:RelV u y)(c:A.units<cLine):EqAt A s x y false/\RcAt A s x y false/\RcNeAt A s x y true:=by
 cases k with
 |non=>
  cases l;cases te with|non=>exact absurd h (by simp[FT,Dt.kd])|bl b=>cases g;exact⟨EqAt.none_bool _,RcAt.none_bool _,RcNeAt.none_bool _⟩|int b=>obtain⟨j,rfl⟩:=g;exact⟨EqAt.none_int _ _,RcAt.none_int _ _,RcNeAt.none_int _ _⟩|str b=>obtain⟨j,rfl⟩:=g;exact⟨EqAt.none_str _ _,RcAt.none_str _ _,RcNeAt.none_str _ _⟩|tup i j=>cases g;obtain⟨_,_,f,_⟩:=I.tuple i;exact⟨EqAt.none_tuple f c,RcAt.none_tuple f c,RcNeAt.none_tuple f c⟩|lst i j=>cases g;obtain⟨_,_,f,_⟩:=I.list i;have f:=f.isList;exact⟨EqAt.none_list f c,RcAt.none_list f c,RcNeAt.none_list f c⟩
 |bl a=>
  cases l;cases te with|non=>cases g;exact⟨EqAt.bool_none _,RcAt.bool_none _,RcNeAt.bool_none _⟩|bl b=>exact absurd h (by simp[FT,Dt.kd])|int b=>exact absurd h (by simp[FT,Dt.kd])|str b=>obtain⟨j,rfl⟩:=g;exact⟨EqAt.bool_str _ _ _,RcAt.bool_str _ _ _,RcNeAt.bool_str _ _ _⟩|tup i j=>cases g;obtain⟨_,_,f,_⟩:=I.tuple i;exact⟨EqAt.bool_tuple _ f c,RcAt.bool_tuple _ f c,RcNeAt.bool_tuple _ f c⟩|lst i j=>cases g;obtain⟨_,_,f,_⟩:=I.list i;have f:=f.isList;exact⟨EqAt.bool_list _ f c,RcAt.bool_list _ f c,RcNeAt.bool_list _ f c⟩
 |int a=>
  obtain⟨t,rfl⟩:=l;cases te with|non=>cases g;exact⟨EqAt.int_none _ _,RcAt.int_none _ _,RcNeAt.int_none _ _⟩|bl b=>exact absurd h (by simp[FT,Dt.kd])|int b=>exact absurd h (by simp[FT,Dt.kd])|str b=>obtain⟨j,rfl⟩:=g;exact⟨EqAt.int_str _ _ _ _,RcAt.int_str _ _ _ _,RcNeAt.int_str _ _ _ _⟩|tup i j=>cases g;obtain⟨_,_,f,_⟩:=I.tuple i;exact⟨EqAt.int_tuple _ _ f c,RcAt.int_tuple _ _ f c,RcNeAt.int_tuple _ _ f c⟩|lst i j=>cases g;obtain⟨_,_,f,_⟩:=I.list i;have f:=f.isList;exact⟨EqAt.int_list _ _ f c,RcAt.int_list _ _ f c,RcNeAt.int_list _ _ f c⟩
 |str a=>
  obtain⟨t,rfl⟩:=l;cases te with|non=>cases g;exact⟨EqAt.str_none _ _,RcAt.str_none _ _,RcNeAt.str_none _ _⟩|bl b=>cases g;exact⟨EqAt.str_bool _ _ _,RcAt.str_bool _ _ _,RcNeAt.str_bool _ _ _⟩|int b=>obtain⟨j,rfl⟩:=g;exact⟨EqAt.str_int _ _ _ _,RcAt.str_int _ _ _ _,RcNeAt.str_int _ _ _ _⟩|str b=>exact absurd h (by simp[FT,Dt.kd])|tup i j=>cases g;obtain⟨_,_,f,_⟩:=I.tuple i;exact⟨EqAt.str_tuple _ _ f c,RcAt.str_tuple _ _ f c,RcNeAt.str_tuple _ _ f c⟩|lst i j=>cases g;obtain⟨_,_,f,_⟩:=I.list i;have f:=f.isList;exact⟨EqAt.str_list _ _ f c,RcAt.str_list _ _ f c,RcNeAt.str_list _ _ f c⟩
 |tup h1 m=>
  cases l;obtain⟨_,_,p,_⟩:=I.tuple h1;cases te with|non=>cases g;exact⟨EqAt.tuple_none p c,RcAt.tuple_none p c,RcNeAt.tuple_none p c⟩|bl b=>cases g;exact⟨EqAt.tuple_bool _ p c,RcAt.tuple_bool _ p c,RcNeAt.tuple_bool _ p c⟩|int b=>obtain⟨j,rfl⟩:=g;exact⟨EqAt.tuple_int _ _ p c,RcAt.tuple_int _ _ p c,RcNeAt.tuple_int _ _ p c⟩|str b=>obtain⟨j,rfl⟩:=g;exact⟨EqAt.tuple_str _ _ p c,RcAt.tuple_str _ _ p c,RcNeAt.tuple_str _ _ p c⟩|tup i j=>exact absurd h (by simp[FT,Dt.kd])|lst i j=>cases g;obtain⟨_,_,f,_⟩:=I.list i;have f:=f.isList;exact⟨EqAt.tuple_list p f c,RcAt.tuple_list p f c,RcNeAt.tuple_list p f c⟩
 |lst h1 m=>
  cases l;obtain⟨_,_,p,_⟩:=I.list h1;have p:=p.isList;cases te with|non=>cases g;exact⟨EqAt.list_none p c,RcAt.list_none p c,RcNeAt.list_none p c⟩|bl b=>cases g;exact⟨EqAt.list_bool _ p c,RcAt.list_bool _ p c,RcNeAt.list_bool _ p c⟩|int b=>obtain⟨j,rfl⟩:=g;exact⟨EqAt.list_int _ _ p c,RcAt.list_int _ _ p c,RcNeAt.list_int _ _ p c⟩|str b=>obtain⟨j,rfl⟩:=g;exact⟨EqAt.list_str _ _ p c,RcAt.list_str _ _ p c,RcNeAt.list_str _ _ p c⟩|tup i j=>cases g;obtain⟨_,_,f,_⟩:=I.tuple i;exact⟨EqAt.list_tuple p f c,RcAt.list_tuple p f c,RcNeAt.list_tuple p f c⟩|lst i j=>exact absurd h (by simp[FT,Dt.kd])
def So(I:Inv X pins σ H s){x:Value}(k:Av X.K H v d)(te:Av X.K H u e)(b:RelV v x)(i:RelV u y)(h:RcAt A s x y (dec (d=e))):EqAt A s x y (dec (d=e)):=by
 by_cases g:x=y;subst g;have j:=b.inj i;subst j;rw[Em (Av.inj I k te)];exact EqAt.same _;intro f w E Q c;unfold eqBool;refine C1 ?_;refine wpAny_ite_split (λl=>absurd (eq_of_beq l) g) (λ_=>?_);cases k with|non=>cases b;exact Ac (h f w E _ (El c))|bl a=>cases b;exact Ac (h f w E _ (El c))|int a=>obtain⟨t,rfl⟩:=b;exact Ac (h f w E _ (El c))|str a=>obtain⟨t,rfl⟩:=b;exact Ac (h f w E _ (El c))|tup _ _=>cases b;exact Ac (h f w E _ (El c))|lst _ _=>cases b;exact Ac (h f w E _ (El c))
def MZ(h:FT d.kd e.kd=true):¬d=e:=λz=>by subst z;simp[FT] at h
set_option tactic.hygienic true in
mutual
theorem N6 (I:Inv X pins σ H s) {n:Nat} {d e:Dt} {v u:V} {x y:Value} {A:Around} (c:DS n d e) (k:Av X.K H v d) (te:Av X.K H u e) (g:RelV v x) (i:RelV u y) (O:A.units+n<cLine):RcAt A s x y (dec (d=e))/\RcNeAt A s x y (!dec (d=e)):=by
 cases c with
 | non=>cases k;cases te;cases g;cases i;rw[Em rfl];exact⟨RcAt.none_none,RcNeAt.none_none⟩
 | bl a b=>cases k;cases te;cases g;cases i;rw[<-Qg (a:=a) (b:=b) (by simp)];exact⟨RcAt.bool_bool a b,RcNeAt.bool_bool a b⟩
 | int a b=>cases k;cases te;obtain⟨t,rfl⟩:=g;obtain⟨f,rfl⟩:=i;rw[<-Qg (a:=a) (b:=b) (by simp)];exact⟨RcAt.int_int a t b f,RcNeAt.int_int a t b f⟩
 | str a b=>cases k;cases te;obtain⟨t,rfl⟩:=g;obtain⟨f,rfl⟩:=i;rw[<-Qg (a:=a) (b:=b) (by simp)];exact⟨RcAt.str_str a t b f,RcNeAt.str_str a t b f⟩
 | @tup n ds es c=>
  cases k;cases te;rename_i a F h t b G D f;cases g;cases i;obtain⟨m,r,p,_⟩:=I.tuple h;obtain⟨o,w,l,_⟩:=I.tuple D;have J:=r.length;have K:=w.length;have L:=t.length;have M:=f.length;have B:=Sl (A:=A.in1) I r w t f (Ko I c (by rw[Hi];omega))
  have e:dec (Dt.tup ds=Dt.tup es)=((List.range (min m.toArray.size o.toArray.size)).all (fun j=>dec (ds[j]?=es[j]?)) && m.toArray.size == o.toArray.size):=by
   rw[L6 (p:=Dt.tup ds=Dt.tup es) (q:=ds=es) (by simp)];simp only[BR];by_cases C:ds.length=es.length;rw[show(m.length == o.length)=true from beq_iff_eq.mpr (by omega),Bool.and_true,Sm (by omega) C];rw[show(m.length == o.length)=false from beq_false_of_ne (by omega),Bool.and_false,FF fun z=>C (by rw[z])]
  rw[e];exact⟨RcAt.tuples (A:=A) p l (by omega) B,RcNeAt.tuples (A:=A) p l (by omega) B⟩
 | @lst n ds es c=>
  cases k;cases te;rename_i a F h t b G D f;cases g;cases i;obtain⟨m,r,p,_⟩:=I.list h;obtain⟨o,w,l,_⟩:=I.list D;have J:=r.length;have K:=w.length;have L:=t.length;have M:=f.length;by_cases C:ds.length=es.length;have B:=Sl (A:=A.in1) I r w t f (Ko I c (by rw[Hi];omega));rw[L6 (p:=Dt.lst ds=Dt.lst es) (q:=ds=es) (by simp),<-Sm (n:=m.toArray.size) (by simp only[BR];omega) C];exact⟨RcAt.lists (A:=A) p.isList l.isList (by simp only[BR];omega) (by omega) B,RcNeAt.lists (A:=A) p.isList l.isList (by simp only[BR];omega) (by omega) B⟩;rw[FF (show ¬Dt.lst ds=Dt.lst es from fun z=>C (by cases z;rfl))];have E:(m.toArray.size != o.toArray.size)=true:=by simp only[BR];rw[bne_iff_ne];omega
  exact⟨RcAt.lists_lengths p.isList l.isList E (by omega),RcNeAt.lists_lengths p.isList l.isList E (by omega)⟩
 | apart h=>obtain⟨_,h1,N⟩:=Vi (A:=A) I h k te g i (by omega);rw[FF (MZ h)];exact⟨h1,N⟩
theorem Ko (I:Inv X pins σ H s) {n:Nat} {ds es:List Dt} {A:Around} (c:Cj n ds es) (f:A.units+n<cLine)
 (i:Nat) (d e:Dt) (v u:V) (x y:Value) (h:ds[i]?=some d) (h':es[i]?=some e) (a:RelV v x) (b:RelV u y) (k:Av X.K H v d) (te:Av X.K H u e):EqAt A s x y (dec (d=e)):=by
 cases c with
 | nil=>simp at h
 | nil'=>simp at h'
 | cons c t=>cases i with
   | zero=>simp at h h';subst h;subst h';have g:=N6 (A:=A) I c k te a b f;exact So I k te a b g.1
   | succ i=>exact Ko I t f i d e v u x y (by simpa using h) (by simpa using h') a b k te
end
def Sq(I:Inv X pins σ H s){x:Value}(c:DS n d e)(k:Av X.K H v d)(te:Av X.K H u e)(a:RelV v x)(b:RelV u y)(f:A.units+n<cLine):EqAt A s x y (dec (d=e)):=
 So I k te a b (N6 I c k te a b f).1
end
section
variable {X:Cx}
def Qh (K:Ah):R2:=λx y H Q=>∃n d e,DS n d e/\n<=60/\Av K H x d/\Av K H y e/\Q (.bl (dec (d=e))) H
def Qi (K:Ah):R2:=λx y H Q=>∃n d e,DS n d e/\n<=60/\Av K H x d/\Av K H y e/\Q (.bl (!dec (d=e))) H
def GC(f:X.A.units+64<cLine):CD X (compareOp .Eq) (Qh X.K):=by intro pins s σ H x y v u Q I a b h;obtain⟨n,d,e,c,g,k,te,q⟩:=h;exact(N6 (A:=X.A) I c k te a b (by omega)).1 _ _ _ _ ⟨.bl _,H,I,rfl,q⟩
def Kp(f:X.A.units+64<cLine):CD X (compareOp .NotEq) (Qi X.K):=by intro pins s σ H x y v u Q I a b h;obtain⟨n,d,e,c,g,k,te,q⟩:=h;exact(N6 (A:=X.A) I c k te a b (by omega)).2 _ _ _ _ ⟨.bl _,H,I,rfl,q⟩
def HU (K:Ah):R2:=λx y H Q=>∃n d ds a vs,(∀e∈ds,DS n e d)/\n<=60/\Av K H x d/\y=.ref a/\Ag K H a vs/\AF K H vs ds/\Q (.bl (!dec (d∈ds))) H
def Vj(I:Inv X pins σ H s){d:Dt}{vs:R'}{b:E'}{x:Value}(r:Am vs b)(t:AF X.K H vs ds)(C:∀e∈ds,DS n e d)(k:Av X.K H v d)(D:RelV v x)(E:A.units+n<cLine) :
 (∀y,y∈b.toArray->EqAt A s y x (dec (∃u,RelV u y/\Av X.K H u d)))/\b.toArray.any (λy=>dec (∃u,RelV u y/\Av X.K H u d))=dec (d∈ds):=by
 have L:=r.length;have lt:=t.length
 have one:∀y,y∈b->∃e∈ds,∃u,RelV u y/\Av X.K H u e:=λy a=>by
  obtain⟨i,g,e⟩:=Mp.mp a;obtain⟨M,B,j⟩:=r.get (i:=i) (x:=vs[i]'(by omega)) (AQ (by omega));obtain⟨F,c,te⟩:=t.get (i:=i) (v:=vs[i]'(by omega)) (AQ (by omega));rw[AQ g,e] at B;cases B;exact⟨F,Ei c,_,j,te⟩
 refine⟨λy a=>?_,?_⟩;obtain⟨e,c,u,f,te⟩:=one y (by simpa using a);have:=Sq (A:=A) I (C e c) te k f D E
 rw[L6 (p:=∃u,RelV u y/\Av X.K H u d) (q:=e=d) ⟨λ⟨G,m,o⟩=>by
  have l:=f.inj m;subst l;exact Av.inj I te o,λz=>⟨u,f,by rw[<-z];exact te⟩⟩]
 exact this;by_cases h:d∈ds;rw[Em h,Array.any_eq_true];obtain⟨i,g,e⟩:=Mp.mp h;obtain⟨u,K,te⟩:=t.get' (i:=i) (d:=d) (by rw[AQ g,e]);obtain⟨y,a,j⟩:=r.get K;have w:i<b.length:=(Cd.mp a).1;refine⟨i,by simpa using w,?_⟩;have:b.toArray[i]'(by simpa using w)=y:=(by rw[AQ w] at a;simpa using a);rw[this];exact Em ⟨u,j,te⟩;rw[FF h,Bool.eq_false_iff];intro q;obtain⟨i,g,q⟩:=Array.any_eq_true.mp q;obtain⟨u,f,te⟩:=Fd.mp q;obtain⟨e,c,G,m,o⟩:=one (b.toArray[i]) (by simp);have l:=f.inj m;subst l;have J:=Av.inj I te o;subst J;exact h c
def Vk(i:X.A.units+64<cLine):CD X (compareOp .NotIn) (HU X.K):=by intro pins s σ H x y v u Q I b c h;obtain⟨n,d,ds,a,j,e,l,k,rfl,f,t,q⟩:=h;cases c;obtain⟨m,r,p,_⟩:=I.list f;obtain⟨h1,g⟩:=Vj (A:=X.A.in1) I r t e k b (by rw[Hi];omega);exact notIn_listAt _ p.isList h1 (by rw[g];exact⟨.bl _,H,I,rfl,q⟩)
end
end L2
namespace Ord
variable {α:Type} [DecidableEq α]
def Vl{l:List α}{x:α}(h:l.Nodup)(d:x∉l):(l++[x]).Nodup:=by rw[List.nodup_append];refine⟨h,by simp,?_⟩;intro a f b c e;rw[BY] at c;subst c;subst e;exact d f
def nodup_sub_length{l m:List α}(h:l.Nodup)(a:∀x∈l,x∈m):l.length<=m.length:=by
 induction l generalizing m with
 |nil=>simp
 |cons x r f=>
  have b:=a x (by simp);have c:=(Hq.mp h)
  have:r.length<=(m.erase x).length:=f c.2 (λy d=>by
   have g:=a y (by simp[d]);have ne:y≠x:=λe=>c.1 (e▸d);exact(List.mem_erase_of_ne ne).mpr g)
  rw[List.length_erase_of_mem b] at this;have i:0<m.length:=List.length_pos_of_mem b;simp;omega
end Ord
namespace War
end War
namespace Ord
variable {α:Type} [DecidableEq α]
end Ord
namespace L2
open PySem PySem.Spec PyProof.Rows
section
variable {X:Cx}
def M0:V->R'->Hp->VK->Prop:=λx vs H Q=>∃a kvs k d,x=.ref a/\vs=[kV k,d]/\H a=some (.dK kvs)/\kvs.length<sizeLine/\(∀v,AZ kvs k=some v->Q v H)/\(AZ kvs k=none->Q d (upd H a (.dK (Bj kvs k d))))
def Vm:J9 X "dict.setdefault" M0:=by
 intro M s σ H x J v K Q I p t h;obtain⟨a,c,k,d,rfl,rfl,hd,L,w,Z⟩:=h;cases p;obtain⟨u,r,rfl,A,j⟩:=He t;obtain⟨z,l,m,i,n⟩:=Gv I.hok hd;have f:m.length<=sizeLine:=by rw[<-i.length];exact z
 have b:=i.val k
 refine call_meetsIn PySem.F.slot_dict_setdefault n.typeIs PySem.F.entry_dict_setdefault (PySem.F.args_dict_setdefault_3 _ _ _) (kt_meets_setdefault (Dj X.prog X.w) a (Kf A) l r)
  ⟨m,n,f,λy B=>?_,λC D o E=>?_⟩
 rw[B] at b
 cases e:AZ c k with
 |none=>rw[e] at b;exact False.elim b
 |some g=>rw[e] at b;exact⟨g,H,I.tok _,b,w g e⟩
 rw[C] at b
 cases e:AZ c k with
 |some g=>rw[e] at b;exact False.elim b
 |none=>
  have f:(Bj c k d).length<=sizeLine:=by have:=MP c k d;omega
  have F:∃q,D.get? a=some q:=let ⟨q,_,_,G,_⟩:=o;⟨q,G⟩;exact⟨d,_,MQ I (by rw[hd];exact True.intro) E F (Gy f l (i.put k j) o),j,Z e⟩
def M1:V->R'->Hp->VK->Prop:=λx vs H Q=>∃a y z o,x=.ref a/\vs=[y,z]/\Ch H a y o/\Q (o.getD z) H
def Kq(b:X.A.units+1<cLine):J9 X "dict.get" M1:=by intro p s σ H x k v l Q I c d h;obtain⟨a,y,z,o,rfl,rfl,g,q⟩:=h;cases c;obtain⟨u,r,rfl,e,f⟩:=He d;exact Gz b I g e f λm n i j=>⟨_,H,i,j,q⟩
def Sr (neg:Bool):R2:=λx y H Q=>∃a o,y=.ref a/\Ch H a x o/\Q (.bl (o.isSome != neg)) H
def Vn(b:X.A.units+1<cLine):CD X (compareOp .In) (Sr false):=by intro i s σ H x y v u Q I c d h;obtain⟨a,o,rfl,g,q⟩:=h;cases d;refine P4 b I g c λf e=>⟨.bl _,H,e,?_,q⟩;cases o<;>rfl
def Vo(b:X.A.units+1<cLine):CD X (compareOp .NotIn) (Sr true):=by intro i s σ H x y v u Q I c d h;obtain⟨a,o,rfl,g,q⟩:=h;cases d;refine HN b I g c λf e=>⟨.bl _,H,e,?_,q⟩;cases o<;>rfl
def Vp:V->V->V->Hp->(Hp->Prop)->Prop:=λo i v H Q=>∃a H',o=.ref a/\Gx H a i v H'/\Q H'
def Vq(b:X.A.units+1<cLine):HB X Vp:=by intro n s σ H o i v k l u Q I c d e h;obtain⟨a,f,rfl,g,q⟩:=h;cases c;exact U0 b I g d e λm j=>⟨f,j,q⟩
def Ss{a:Expr}{B:TE}(c:PE X a B)(d:∀whole,isTrue a X.env whole=(do let v <-whole;standAt a.pos;holding [v] (truthy v)):=by intro _;rfl) :
 PT X a (λσ H Q=>B σ H λx Y=>∃p xs,x=.ref p/\Ag X.K Y p xs/\Q (!xs.isEmpty) Y):=by
 intro b s σ H Q I e;refine isTrue_plain (AG (c b s σ H _ I e) λv f⟨x,Y,g,h,i⟩=>?_) (d _);obtain⟨p,xs,rfl,j,q⟩:=i;exact J6 b f σ Y _ v Q g h ⟨_,p7 ⟨xs,j,rfl⟩,q⟩
end
theorem Su{f:Str×NameKind->Str×NameKind}(b:∀n k,f (n,k)=(n,k)\/(k=.free/\f (n,k)=(n,NameKind.cell))):∀{names:List (Str×NameKind)}{x:Str},names.lookup x=some .cell->(names.map f).lookup x=some .cell
 |[],_,h=>by simp at h
 |(n,k)::r,x,h=>by
   have c:=@Su f b r x;rw[G8] at h;rw[D1]
   cases a:x==n with
   |true=>rw[a] at h;cases h;rcases b n .cell with e|⟨z,_⟩;rw[e,G8,a];cases z
   |false=>rw[a] at h;rcases b n k with e|⟨_,e⟩;rw[e,G8,a];exact c h;rw[e,G8,a];exact c h
def Ai.re{c:Scope}{b:G'}{scope:Scope}{N:G'}{k:Nat}{d:O'}(S:Ai c b scope N k d)(env:Env):Ai (relabel c env) b scope N k d:=
 ⟨S.kind,S.loc,S.ndn,S.nd,S.len,λx e f=>by
  rcases S.free x e f with h|h;left;refine Su (λn k=>?_) h;by_cases a:(k==NameKind.free && env.scope.kind==.function && env.kindOf n==some .cell)=true;right;refine⟨?_,Ap a⟩;simp only[Bool.and_eq_true,beq_iff_eq] at a;exact a.1.1;left;exact An a;exact Qe h,S.cap⟩
open Ord
def Kr{a:G'}{i:Nat}{x:V}(h:(a.map V.str)[i]?=some x):∃z,a[i]?=some z/\x=V.str z:=by rw[BP] at h;obtain⟨b,c,d⟩:=Dd.mp h;exact⟨b,c,d.symm⟩
def Ks:([]:R').length+1<=sizeLine:=by decide
def Ct:([]:R').length+1+1<=sizeLine:=by decide
theorem AF.of_get{K:Ah}{H:Hp}:∀{vs:R'}{a:List Dt},vs.length=a.length->(∀(n:Nat)v d,vs[n]?=some v->a[n]?=some d->Av K H v d)->AF K H vs a
 |[],[],_,_=>.nil
 |v::vs,d::a,b,h=>.cons (h 0 v d rfl rfl) (AF.of_get (by simpa using b) λn x y c e=>h (n+1) x y (by simpa using c) (by simpa using e))
def AO (f:Nat->Str) (i:Nat):G':=((List.range i).map f).foldl step_dedup []
def Jf(f:Nat->Str)(i:Nat):AO f (i+1)=step_dedup (AO f i) (f i):=by unfold AO;rw[List.range_succ,Cb,Po];rfl
def N7(l:G')(x:Str):(step_dedup l x).length=if l.any (·==x) then l.length else l.length+1:=by unfold step_dedup;split<;>simp
def Qj(l:G')(x y:Str):(step_dedup l x).any (·==y)=(l.any (·==y) || decide (y=x)):=by
 unfold step_dedup;by_cases h:l.any (·==x)=true;rw[Ap h];by_cases e:y=x;subst e;rw[h];rfl;rw[BZ e,Bool.or_false];rw[An h,List.any_append];congr 1;by_cases e:y=x;subst e;simp;rw[BZ e];simp;exact λz=>e z.symm
theorem N8(f:Nat->Str):∀i,(AO f i).length<=i
 |0=>Aw _
 |i+1=>by have:=N8 f i;rw[Jf,N7];split<;>omega
theorem N9(f:Nat->Str):∀(i:Nat)(y:Str),(AO f i).any (·==y)=true↔∃j,j<i/\f j=y
 |0,y=>by constructor;intro h;cases h;rintro⟨j,h,_⟩;omega
 |i+1,y=>by rw[Jf,Qj,Bool.or_eq_true,N9 f i y,decide_eq_true_iff];constructor;rintro(⟨j,h,e⟩|e);exact⟨j,by omega,e⟩;exact⟨i,by omega,e.symm⟩;rintro⟨j,h,e⟩;by_cases a:j=i;subst a;exact .inr e.symm;exact .inl ⟨j,by omega,e⟩
set_option tactic.hygienic true in
theorem Sv(f:Nat->Str):∀i,(AO f i).length=i↔∀a b,a<b->b<i->f a≠f b
 |0=>⟨λ_ a b _ h=>by omega,λ_=>rfl⟩
 |i+1=>by have k:=Sv f i;have o:=N8 f i;rw[Jf,N7];constructor;intro h a b c l e;split at h;omega;rename_i d;have g:(AO f i).length=i:=(by omega);by_cases n:b=i;subst n;exact d ((N9 f b _).mpr ⟨a,c,e⟩);exact k.mp g a b c (by omega) e;intro h;have g:(AO f i).length=i:=k.mpr λa b c l=>h a b c (by omega);rw[An,g];intro d;obtain⟨j,m,e⟩:=(N9 f i _).mp d;exact h j i m (by omega) e
section
variable {prog:Program} {w:World} {A:Around} {R:Result->Shared->Prop} {It:Addr} {fp g:F'} {G:Array GenState->Array GenState->Prop} {n:Nat} {Pn:Nat->Value->Prop} {Sn:Nat->Shared->Prop}
theorem Vr(c:WalksS prog w A.in1 It fp g G n Pn Sn)(D:Addr)(C:D∉fp)(f:Nat->Str)(J:∀i v,Pn i v->∃t,v=.str (f i) t)(X:n+1<scanBound) :
 ∀(k i:Nat)(s:Shared),n-i=k->i<=n->Sn i s->s.heap.SetOf (strKind prog w) D (λy=>(AO f i).any (·==y)) (AO f i).length ->
  (∀h,Moved (D::g) G s h->h.heap.SetOf (strKind prog w) D (λy=>(AO f n).any (·==y)) (AO f n).length->R (.ok (.ret .none)) h) ->
  codeAny (model prog w) A (.builtin "set.update.loop" ⟨[.ref D,.ref It],[]⟩) R s:=by
 have H:D∉g:=λz=>C (c.sub _ z);have sub:∀b∈g,b∈D::g:=λb z=>Dc _ z;intro k
 induction k with
 |zero=>
  intro i s K L j l x;obtain rfl:i=n:=by omega
  refine codeAny_builtin F.entry_set_update_loop ?_;rw[u4 F.plain_set_update_loop _];show wpAny _ A.in1 (pyNext (.ref It) >>= _) _ _ s;refine Ac (c.done s _ _ j λa d=>?_);show wpAny _ A.in1 (ret Value.none) _ _ a;refine Al (x a (d.mono sub) ?_);obtain⟨m,p,q,r,e,B⟩:=l;exact⟨m,p,q,r,d.heap D _ H e,B⟩
 |succ k M=>
  intro i s K L j l x;have lt:i<n:=(by omega);refine codeAny_builtin F.entry_set_update_loop ?_;rw[u4 F.plain_set_update_loop _];show wpAny _ A.in1 (pyNext (.ref It) >>= _) _ _ s;refine Ac (c.item i s _ _ lt j λv a pv P d=>?_);obtain⟨t,rfl⟩:=J i v pv;have Q:a.heap.SetOf (strKind prog w) D (λy=>(AO f i).any (·==y)) (AO f i).length:=(by obtain⟨m,p,q,r,e,B⟩:=l;exact⟨m,p,q,r,d.heap D _ H e,B⟩);show wpAny _ A.in1 (holding [Value.str (f i) t] (setAdd D (.str (f i) t)) >>= _) _ _ a;refine Ac (C1 ?_);unfold setAdd;refine C1 ?_;have I:(strKind prog w).is (f i) (.str (f i) t)=true:=strKind_is _ _ _ _;refine Ac ((strKind prog w).pyHash (k:=f i) I ?_);have W:(AO f i).length+1<scanBound:=by have:=N8 f i;omega
  refine wpAny_setAddHashed_of (knd:=strKind prog w) (s:={a with toks:=a.toks+1}) I rfl Q W λN E S=>?_
  have T:N.SetOf (strKind prog w) D (λy=>(AO f (i+1)).any (·==y)) (AO f (i+1)).length:=
   SetOf_congr S (λy=>by rw[Jf,Qj]) (by rw[Jf,N7])
  refine Al ⟨plainId_quiet F.plain_set_update_loop _,M (i+1) _ (by omega) lt (c.frame _ a _ _ P (Nat.le_succ _) λb u o e=>?_) T λO U V=>?_⟩;rw[E.2 b λz:b=D=>C (by rw[<-z];exact u)];exact e;refine x O (Moved.trans c.gtrans ((d.mono sub).then_heap (Nat.le_succ _) λb o u e=>?_) U) V;rw[E.2 b λz:b=D=>u (by rw[z];exact CH)];exact e
end
abbrev Hj (b:Bool):Obj:={cls:=.type "set",dict:=none,data:=.set #[] 0 (.fresh 0 0 b)}
section
variable {prog:Program} {w:World} {A:Around} {E:B'} {s:Shared}
set_option maxRecDepth 100000 in
set_option maxHeartbeats 3200000 in
theorem Vs {l:Addr} {a:L'} {f:Nat->Str} {Q:B'} (M:A.handled=none) (N:s.heap.IsList l a) (hi:∀ (i:Nat) (v:Value),a[i]? = some v -> ∃ t,v=.str (f i) t) (g:a.size + 1 < scanBound)
 (h:∀(h':Heap)(L:Nat),h'.SetOf (strKind prog w) s.heap.objs.size (λy=>(AO f a.size).any (·==y)) (AO f a.size).length ->
  (∀b o,b<s.heap.objs.size->s.heap.get? b=some o->h'.get? b=some o)->Q (.ref s.heap.objs.size) {s with heap:=h',toks:=L}) :
 wpAny (model prog w) A (call (.type "set") [.ref l]) Q E s:=by
 obtain⟨c,k,aq⟩:=F.called_set.mro;have aw:=F.called_set.made;have ar:=F.called_set.sub;refine wpAny_call (codeAny_of_tree ?_);show wpAny _ _ (callAny (.type "set") _) _ _ _;refine Al ⟨Code.quiet_builtin _ (by decide +kernel),codeAny_builtin F.entry_type_call ?_⟩;rw[Around.under_plain (weight_type_call_type "set" [.ref l] []) rfl];have h1:=F.called_set.notType;have h2:=F.called_set.canCreate;have aj:=F.typeCall_set_1 (.ref l)
 repeat (any_goals (first|assumption|wp_step))
 refine codeAny_mono (code_set_new_1 (.ref l) (E:=E) (Q₁:=λq u=>∃b:Bool,q=.ref s.heap.objs.size/\u={s with heap:=s.heap.push (Hj b)}) λb=>⟨b,rfl,rfl⟩) λr u m=>?_
 cases r with
 |error e=>exact m
 | ok O=>
  cases O with
  | ret q=>
   obtain⟨d,rfl,rfl⟩:=m;have x:(s.heap.push (Hj d)).get? s.heap.objs.size=some (Hj d):=BG _ rfl;have P:Shared.TypeIs {s with heap:=s.heap.push (Hj d)} (.ref s.heap.objs.size) "set" :=⟨_,x,rfl⟩;have ak:=F.called_set.init.lookup;have al:=F.called_set.init.bind (.ref s.heap.objs.size)
   repeat (any_goals (first|assumption|wp_step))
   refine codeAny_mono (codeAny_call_builtin (R:=wants (λr B=>r=.none/\∃h' L,B={s with heap:=h',toks:=L}/\h'.SetOf (strKind prog w) s.heap.objs.size (λy=>(AO f a.size).any (·==y)) (AO f a.size).length /\
    (∀b o,b<s.heap.objs.size->s.heap.get? b=some o->h'.get? b=some o)) E) F.called_set.init.plain F.entry_set_init (check_set_init_1 P ?_)) λS B n=>?_
   . obtain⟨⟨oc,T,an,X⟩,G,H,C,I⟩:=N
     simp only at H I;subst H;subst I;have ai:(s.heap.push (Hj d)).get? l=some {cls:=.type "list",dict:=T,data:=.seq a C,slots:=X}:=AR _ G;have au:=F.sub_list_set;have av:=F.sub_list_frozenset;have ao:(Value.type "list" == Value.type "dict")=false:=(by decide);have J:(s.heap.push (Hj d)).IsList l a:=⟨_,ai,rfl,C,rfl⟩;unfold Builtin.«set.__init__» noKeywords Builtin.Frozenset.updateFrom;generalize Y:pyIter=PI
     wp_walk
     subst Y;refine wpAny_pyIter_list J (Ac (wpAny_runValue ?_));have K:l<s.heap.objs.size:=AI G;have Z:A.in1.in1.in1.handled=none:=(by simp[M]);have aa:l≠(s.heap.push (Hj d)).objs.size:=(by rw[q9];exact Bu (Nat.lt_succ_of_lt K));have ab:s.heap.objs.size∉[(s.heap.push (Hj d)).objs.size,l]:=(by rw[q9];intro z;rcases BL.mp z with z|z;exact absurd z (Bu (Lj _));exact absurd (BY.mp z) (Nat.ne_of_gt K));refine Vr ((Walks.list Z _ l aa a).toS) s.heap.objs.size ab f hi g (a.size-0) 0 _ (by omega) (A9 _) ⟨⟨_,BG _ rfl,rfl,rfl⟩,(J.push _)⟩ ?hS0 ?hR
     case hS0 =>
      have U:((s.heap.push (Hj d)).push {cls:=.type "list_iterator",data:=.fields #[.ref l,.int 0 0]}).get? s.heap.objs.size=some (Hj d):=AR _ x;exact SetOf_congr ((setObjOf_fresh (knd:=strKind prog w) d).setOf U (by unfold scanBound;omega)) (λ_=>rfl) rfl
     case hR =>
      rintro⟨h',V,W,ae,af⟩ j p;obtain rfl:V=s.gens:=j.gens;obtain rfl:W=s.drawn:=j.drawn;obtain rfl:af=s.os:=j.os;show wpAny _ _ _ _ _ _;refine Al ?_;show wpAny _ _ (ret Value.none) _ _ _;refine Al ⟨rfl,h',ae,rfl,p,λb o g e=>?_⟩;refine j.heap b o (λz=>?_) (AR _ (AR _ e));rcases BL.mp z with z|z;exact absurd z (Bu g);have D:=BY.mp z;rw[q9] at D;exact absurd D (Bu (Nat.lt_succ_of_lt g))
   . cases S with
     |error e=>exact n
     |ok ag=>
      cases ag with
      |ret r=>
       obtain⟨rfl,h',L,rfl,p,ah⟩:=n
       repeat (any_goals (first|assumption|wp_step))
       exact h _ _ p ah
      |_=>exact n.elim
  |_=>exact m.elim
end
def Kt (P:Program) (w:World) (a:Addr) (n:Nat):HO:=.ext λh=>∃S,h.SetOf (strKind P w) a S n
section
variable {X:Cx}
def M3 (P:Program) (w:World) (K:Ah):R'->Hp->VK->Prop:=λvs H Q=>∃(p:Addr)(xs:G'),vs=[.ref p]/\Ag K H p (xs.map V.str)/\xs.length<=1000/\∀q n,(n=xs.length↔xs.Nodup)->H q=none->Q (.ref q) (upd H q (Kt P w q n))
def Sw{xs:G'}{a:E'}(r:Am (xs.map V.str) a):∀(i:Nat)(v:Value),a.toArray[i]?=some v->∃t,v=.str (xs.getD i default) t:=by
 intro i v e;have d:a[i]?=some v:=(by simpa using e);have f:=r.length;rw[AD] at f;have b:i<xs.length:=(by have:=(Cd.mp d).1;omega);obtain⟨u,c,g⟩:=r.get (i:=i) (x:=.str xs[i]) (by rw[BP,AQ b];rfl);rw[d] at c;cases c;rw[A7,AQ b];exact g
def Vt{xs:G'}:(∀a b,a<b->b<xs.length->xs.getD a default≠xs.getD b default)↔xs.Nodup:=by
 unfold List.Nodup;rw[List.pairwise_iff_getElem];constructor;intro h i j e c f;have:=h i j f c
 rwa [A7,A7,AQ e,AQ c] at this
 intro h a b g d;have:=h a b (by omega) d g;rw[A7,A7,AQ (by omega),AQ d];exact this
def Vu(m:X.calm=true):A1 X (.type "set") (M3 X.prog X.w X.K):=by
 intro M s σ H E F Q I r h;obtain⟨p,a,rfl,n,G,q⟩:=h;obtain⟨u,rfl,v⟩:=EL r;obtain rfl:u=Value.ref p:=v;obtain⟨j,c,w,_⟩:=I.list n;have d:=c.length;rw[AD] at d;have l:j.toArray.size=a.length:=(by rw[BR,d]);refine Vs (f:=λi=>a.getD i default) (I.ok.hd m) w.isList (Sw c) (by rw[l];unfold scanBound;omega) λx L g k=>?_;have y:(AO (λi=>a.getD i default) j.toArray.size).length=a.length↔a.Nodup:=(by rw[l,Sv,Vt]);have z:∀b u,s.heap.get? b=some u->x.get? b=some u:=λb u e=>k b u (AI e) e;refine⟨.ref s.heap.objs.size,upd H s.heap.objs.size (Kt X.prog X.w s.heap.objs.size _),I.laid (t':=L) z (Aw _) ?_,rfl,q _ _ y I.fresh⟩;refine⟨⟨_,g⟩,?_,λJ K⟨S,o,A,B,t,e,D⟩C=>⟨S,o,A,B,t,C o e,D⟩⟩;obtain⟨o,_,_,_,e,_⟩:=g;exact⟨o,e⟩
def Vv:A1 X (.builtin "len") (λvs H Q=>∃q n,vs=[.ref q]/\H q=some (Kt X.prog X.w q n)/\n<=1000/\Q (.int n) H):=by intro m s σ H vs i Q I r h;obtain⟨a,n,rfl,e,j,q⟩:=h;obtain⟨u,rfl,b⟩:=EL r;obtain rfl:u=Value.ref a:=b;obtain⟨⟨S,o,k,l,t,c,f,hd,_,_,_,d,g⟩,_,_⟩:=I.hok a _ e;subst g;exact PySem.call_len_set c f hd d (by omega) ⟨.int _,H,I.tok _,⟨_,rfl⟩,q⟩
end
variable {σ:L2.St}{H:Hp}
def At{i:Nat}{v:V}{N:L2.St->Hp->Prop}(h:N (σ.set i (some v)) H):Eb i v σ H N:=h
section
variable {X:Cx}
def Fe:J9 X "list.append" RX:=RY
def Oa:J9 X "list.extend" RZ:=UY
end
abbrev M4:R2:=IY λi j=>.int (i+j)
variable {a:Addr}
def M5{K:Ah}{xs:R'}{k:Nat}{q:O'}{g:TG}{te:TE}{σ:St}{Y:Hp}{Q:Addr->Hp->Prop}(Pv:Addr->Nat->R'->Hp->Prop)
 (r:∀D,Y D=none->Pv D 0 [] (upd Y D (.lst []))) (s:∀D i c U,Pv D i c U->Ag K U a xs)
 (t:∀D i x c U(R:VK),Y D=none->xs[i]?=some x->Pv D i c U->(∀y d,d D=some (.lst c)->c.length<sizeLine->Pv D (i+1) (c++[y]) (upd d D (.lst (c++[y])))->R y d)->g x (Cr k q σ) U λσ4 j=>te σ4 j R)
 (hd:∀D c U,Y D=none->Pv D xs.length c U->Q D U) :
 ∀D,Y D=none->∃W:Nat->Nat->R'->Hp->Prop,(∃m,W 0 m [] (upd Y D (.lst [])))/\∀i m c U,W i m c U ->
  ((Ez K a).stop i U/\Q D U)\/((Ez K a).go i U/\∀x h,(Ez K a).yld i U x h->g x (Cr k q σ) h λσ4 j=>DO σ4 j λb n =>
   if b=true then te σ4 n λy d=>d D=some (.lst c)/\c.length<sizeLine/\∃f,f<m/\W (i+1) f (c++[y]) (upd d D (.lst (c++[y]))) else ∃f,f<m/\W (i+1) f c n):=by
 intro D l;refine⟨λi m c U=>m=xs.length-i/\i<=xs.length/\Pv D i c U,⟨xs.length,rfl,A9 _,r D l⟩,?_⟩;rintro i m c U ⟨rfl,B,p⟩;have Z:=s D i c U p;by_cases o:i<xs.length;refine .inr ⟨⟨xs,xs[i],Z,by simp[o]⟩,λx h y=>?_⟩;obtain⟨rfl,y⟩:=y;have u:=y xs Z;refine t D i x c h _ l u p λv d w z A=>?_;exact⟨w,z,xs.length-(i+1),by omega,rfl,o,A⟩;have e:i=xs.length:=(by omega);subst e;exact .inl ⟨⟨xs,Z,Aw _⟩,hd D c U l p⟩
def Ay.ex{P:Program}{w:World}{h:Heap}{o:HO}(x:Ay P w H h a o):∃u,h.get? a=some u:=by
 cases o with|lst b=>obtain⟨_,_,_,_,e⟩:=x;exact⟨_,e⟩|tup b=>obtain⟨_,_,_,u,e,_⟩:=x;exact⟨u,e⟩|dK c=>obtain⟨_,_,_,_,u,_,_,e,_⟩:=x;exact⟨u,e⟩|dT c=>obtain⟨_,_,_,_,u,_,_,e,_⟩:=x;exact⟨u,e⟩|set S n=>obtain⟨u,_,_,_,e,_⟩:=x;exact⟨u,e⟩|ins C d fs=>obtain⟨_,_,_,e,_⟩:=x;exact⟨_,e⟩|own y=>exact x|xd fs=>obtain⟨_,⟨u,_,_,e,_⟩,_⟩:=x;exact⟨u,e⟩|rng lo g=>obtain⟨_,_,_,e⟩:=x;exact⟨_,e⟩|frz i u=>obtain⟨e,_⟩:=x;exact⟨_,e⟩|tbl j=>exact⟨_,(show h.get? a=some _ from x)⟩|met f y=>exact⟨_,(show h.get? a=some _ from x)⟩|ext φ=>exact x.2.1
def Inv.freshN{X:Cx}{pins:A'}{s:Shared}(I:Inv X pins σ H s)(d:∀b u,s.heap.get? b=some u->b≠a):H a=none:=by
 cases e:H a with|none=>rfl|some o=>obtain⟨u,c⟩:=(I.hok a o e).ex;exact absurd rfl (d a u c)
def Inv.laidN{X:Cx}{pins:A'}{s:Shared}{h':Heap}{o:HO}{t':Nat}(I:Inv X pins σ H s)(k:∀b u,s.heap.get? b=some u->h'.get? b=some u)(h:∀b u,s.heap.get? b=some u->b≠a)(i:Ay X.prog X.w (upd H a o) h' a o) :
 Inv X pins σ (upd H a o) {s with heap:=h',toks:=t'}:=by
 have d:=I.freshN h;refine I.un ⟨λb u q _ _ _=>k b u q,λb u q _ _ _=>⟨u.slots,k b u q⟩,λb u q n _=>by rw[Ax (h b u q)];exact n,λb u q _=>⟨u,k b u q⟩,λb f q=>by rw[Ax (AM q d)];exact q,λb u f q=>by rw[Ax (AM q d)];exact q,λb j q=>⟨#[],by rw[Ax (AM q d),q];simp⟩⟩ λb u e=>?_;by_cases g:b=a;subst g;rw[Aa] at e;cases e;exact i;rw[Ax g] at e;exact(I.hok b u e).stay (λc v _ q=>k c v q) (λc q=>by rw[Ax (AM q d)];exact q) λc f q=>by rw[Ax (AM q d)];exact q
def DJ (a b:Str):Prop:=a.cps.toList<b.cps.toList
def Vw(a:Str):¬DJ a a:=List.lt_irrefl _
def Sx{a b c:Str}(h:DJ a b)(k:DJ b c):DJ a c:=List.lt_trans h k
def Vx{a b:Str}(h:¬DJ b a)(ne:a≠b):DJ a b:=by have d:a.cps.toList<=b.cps.toList:=List.not_lt.mp h;rcases Classical.em (a.cps.toList<b.cps.toList) with c|c;exact c;have e:b.cps.toList<=a.cps.toList:=List.not_lt.mp c;exact absurd (ext_toList (List.le_antisymm d e)) ne
theorem Sy:∀(l:G')(p:Str),risingS p l=true->(p::l).Nodup->(p::l).Pairwise DJ
 |[],p,_,_=>by simp
 |q::r,p,h,f=>by
   have h':(!ltCps q.cps.toList p.cps.toList && risingS q r)=true:=(by simpa [risingS] using h);rw[Bool.and_eq_true] at h';have c:=(Hq.mp f);have b:=Sy r q h'.2 c.2
   have d:DJ p q:=Vx (λz=>by
    have:=h'.1;rw[ltCps_eq,B2 (show q.cps.toList<p.cps.toList from z)] at this;cases this) λz=>c.1 (by rw[z];exact CH)
   refine List.pairwise_cons.mpr ⟨λx a=>?_,b⟩;rcases BL.mp a with e|a;rw[e];exact d;exact Sx d ((List.pairwise_cons.mp b).1 x a)
def Vy{l:G'}(h:sortedS l=true)(a:l.Nodup):l.Pairwise DJ:=by
 cases l with|nil=>exact List.Pairwise.nil|cons p r=>exact Sy r p h a
theorem Ob:∀{vs:E'}{ss:G'},StrsAre vs ss->Am (ss.map V.str) vs
 |_,_,.nil=>.nil
 |_,_,.cons _ _ h=>.cons ⟨_,rfl⟩ (Ob h)
def Sz{ss:G'}:∀{vs:E'},vs.length=ss.length->(∀(i:Nat)(v:Value),vs[i]?=some v->∃t,v=.str (ss.getD i default) t)->StrsAre vs ss:=by
 induction ss with
 |nil=>intro vs a _;cases vs with
   |nil=>exact .nil
   |cons _ _=>simp at a
 |cons x r b=>
  intro vs a h;cases vs with|nil=>simp at a|cons v vs=>obtain⟨t,e⟩:=h 0 v rfl;have c:v=.str x t:=e;subst c;exact .cons _ _ (b (by simpa using a) λi u d=>h (i+1) u (by simpa using d))
section
variable {prog:Program} {w:World} {A:Around} {E:B'} {s:Shared}
def Vz{d:Addr}{kvs:List (A2×Value)}{ss:G'}{Q:B'}(C:A.handled=none)(dd:s.heap.DictOf (Dj prog w) d kvs)(lo:(d==sysModules)=false)
 (q:kvs.map (·.1)=ss.map Sum.inr) (U:ss.length<64)
 (h:∀(D:Addr)(h':Heap)(L n:Nat)(out:E')(a:G'),(∀b o,s.heap.get? b=some o->h'.get? b=some o)->(∀b o,s.heap.get? b=some o->b≠D)->h'.get? D=some {cls:=.type "list",data:=.seq out.toArray n}->Am (a.map V.str) out->a.Perm ss->sortedS a=true->Q (.ref D) {s with heap:=h',toks:=L}) :
 wpAny (model prog w) A (call (.builtin "sorted") [.ref d]) Q E s:=by
 have W:kvs.length=ss.length:=by have:=De List.length q;simpa using this
 have F:kvs.length<=sizeLine:=CZ (BQ (by omega));obtain⟨ep,X⟩:=dd.dictAt;refine Calls.call_function_entry kind_sorted plain_sorted entry_sorted (args_sorted1 _) ?_;unfold Builtin.«sorted»;refine Ac (m:=checkCount "sorted" 1 1 _) (Al ?_);refine Ac (PySem.W.kdu_collect (A:=A.in1) (PySem.W.kdl_dict (knd:=Dj prog w) (kvs:=kvs) (ep:=ep) lo) C X F λf L c g B=>?_);have j:c.toList.length=ss.length:=(by rw[Array.length_toList,B.1,W])
 have l:StrsAre c.toList ss:=Sz j λi v G=>by
  obtain⟨k,x,H,I⟩:=B.2 i v (by rw[<-Array.getElem?_toList];exact G);have r:(kvs.map (·.1))[i]?=some k:=by rw[BP,H];rfl
  rw[q,BP] at r;obtain⟨z,J,K⟩:=Dd.mp r;have y:JK k v=true:=I;rw[<-K] at y;obtain⟨t,M⟩:=Value.isStrOf_shape y;exact⟨t,by rw[M,A7,J];rfl⟩
 refine Ac (wpAny_newList ?_ (by rw[j];exact CZ (BQ (by omega))));have p:(f.push {cls:=.type "list",data:=.seq c.toList.toArray}).get? f.objs.size=some (seqObj "list" c.toList.toArray 0):=BG _ rfl;refine Ac (C1 (wpAny_call_entry slot_list_sort ⟨_,p,rfl⟩ entry_list_sort (list_sort_treeK strKind_oneLt p l.keysOf (λv₁ v₂ aa e=>keyKind_strs (by rw[<-e];exact l)) (by rw[j];exact U) λY N O=>⟨_,rfl,?_⟩) (args_list_sort _)));obtain⟨a,P,R,S⟩:=sorted_out_str l N O;obtain⟨n,T⟩:=sortedHeap_at (vs:=c.toList) (out:=(arrOf Y).map (·.2)) p;have Z:∀b o,s.heap.get? b=some o->b≠f.objs.size:=λb o e=>Bu (AI (g b o e));refine Al ⟨_,rfl,h f.objs.size _ L n _ a (λb o e=>?_) Z (by rw[Array.toArray_toList];exact T) (Ob P) R S⟩;have u:=AI (g b o e);rw[sortedHeap_old (Bu u) (by rw[q9];exact Nat.lt_succ_of_lt u)];exact AR _ (g b o e)
end
section
variable {X:Cx}
def Ku:R'->Hp->VK->Prop:=λvs H Q=>∃(d:Addr)(kvs:List (A2×V))(ss:G'),vs=[.ref d]/\H d=some (.dK kvs)/\kvs.map (·.1)=ss.map Sum.inr/\ss.length<64/\∀D ss',ss'.Perm ss->sortedS ss'=true->H D=none->Q (.ref D) (upd H D (.lst (ss'.map V.str)))
def SA(e:X.calm=true):A1 X (.builtin "sorted") Ku:=by
 intro E s σ H x y Q I r h;obtain⟨d,C,ss,rfl,hd,f,p,q⟩:=h;obtain⟨u,rfl,g⟩:=EL r;obtain rfl:u=Value.ref d:=g;obtain⟨z,i,A,t,j⟩:=Gv I.hok hd;refine Vz (I.ok.hd e) j i (ss:=ss) (by rw[<-t.keys];exact f) p λD B L n v a k b l m c o=>?_;have w:(a.map V.str).length<=sizeLine:=by rw[AD,c.length_eq];exact CZ (BQ (by omega))
 exact⟨.ref D,upd H D (.lst (a.map V.str)),I.laidN (t':=L) k b ⟨w,v,n,m,l⟩,rfl,q D a c o (I.freshN b)⟩
end
end L2
namespace HT
open PySem PyProof.Rows
section
open PySem.SeqAt
open PySem.AutoSeq1 (wpAny_loadPart')
open PySem.MeetsSeq PySem.MeetsSeq2 PySem.MeetsSeq3
end
section
variable {prog:Program} {w:World} {A:Around} {E:B'} {s:Shared}
end
end HT
namespace L2
open PySem PySem.Spec PyProof.Rows
section
variable {X:Cx}
def VA{ss:G'}:∀{c:E'},Am (ss.map V.str) c->StrsAre c ss:=by
 induction ss with
 |nil=>intro c h;cases h;exact .nil
 |cons x r d=>
  intro c h;cases h with|cons a b=>obtain⟨t,rfl⟩:=a;exact .cons _ _ (d b)
end
end L2
namespace L2
end L2
namespace KasM
open PySem PySem.W PyProof.Rows
set_option autoImplicit false
def Tw {α:Type} (lt:Nat->Nat->Bool) (n:Nat):KasT α->(α->Prop)->Prop
 |.ret a,Q=>Q a
 |.ask i j k,Q=>i<n/\j<n/\Tw lt n (k (lt i j)) Q
theorem L7{α β:Type}{lt:Nat->Nat->Bool}{n:Nat}{f:α->KasT β}{Q:β->Prop}:∀(t:KasT α),Tw lt n t (λa=>Tw lt n (f a) Q)->Tw lt n (t.bind f) Q
 |.ret _,h=>h
 |.ask _ _ k,⟨b,c,d⟩=>⟨b,c,L7 (k _) d⟩
theorem Tw_mono{α:Type}{lt:Nat->Nat->Bool}{n:Nat}{Q b:α->Prop}(c:∀a,Q a->b a):∀(t:KasT α),Tw lt n t Q->Tw lt n t b
 |.ret a,h=>c a h
 |.ask _ _ k,⟨d,e,f⟩=>⟨d,e,Tw_mono c (k _) f⟩
theorem Tw_wp{α:Type}{lt:Nat->Nat->Bool}{n:Nat}{c:Nat->Nat->(Bool->Shared->Prop)->Shared->Prop}{s:Shared}{Q:α->Shared->Prop}(b:∀i j C,i<n->j<n->C (lt i j) s->c i j C s) :
 ∀(t:KasT α),Tw lt n t (λa=>Q a s)->t.kasWp c Q s
 |.ret _,h=>h
 |.ask _ _ k,⟨d,e,f⟩=>b _ _ _ d e (Tw_wp b (k _) f)
section
variable {O:KeyOrd} {key:Nat->O.α} {n:Nat}
def K (key:Nat->O.α) (p:P') (i:Nat):O.α:=key (p.getD i 0)
def Asc (key:Nat->O.α) (p:P') (k:Nat):Prop:=∀i,i+1<k->O.kle (K key p i) (K key p (i+1))
def M6 (key:Nat->O.α) (p:P') (k:Nat):Prop:=∀i,i+1<k->O.kle (K key p (i+1)) (K key p i)
def Pm (n:Nat) (p:P'):Prop:=p.Perm (List.range n).toArray
def Pm.size{p:P'}(h:Pm n p):p.size=n:=by have:=h.size_eq;simpa using this
variable {p:P'}
def Pm.lt(h:Pm n p)(b:0<n)(i:Nat):p.getD i 0<n:=by by_cases a:i<p.size;have e:p.getD i 0=p[i]:=(by simp[Array.getD,a]);rw[e];have:p[i]∈p:=Array.getElem_mem a;have c:=h.mem_iff.mp this;simpa using c;have e:p.getD i 0=0:=(by simp[Array.getD,a]);rw[e];exact b
variable {i j:Nat}
def getD_rev(a:j<=p.size)(k:Nat):(kas_rev p i j).getD k 0=if i<=k/\k<j then p.getD (i+j-1-k) 0 else p.getD k 0:=by unfold kas_rev;simp only[q8];rw[getElem?_mirror_all a];split<;>rfl
def getD_bub{k l:Nat}(a:k<p.size)(b:l<=k)(t:Nat):(bubble p k (k-l)).getD t 0=if t=l then p.getD k 0 else if l<t/\t<=k then p.getD (t-1) 0 else p.getD t 0:=by simp only[q8];rw[getElem?_bubble a _ (by omega)];rw[show k-(k-l)=l by omega];split;rfl;split<;>rfl
def Pm.rev(h:Pm n p)(i j:Nat):Pm n (kas_rev p i j):=(mirror_perm _ _ _ _).trans h
def Pm.bub(h:Pm n p)(i j:Nat):Pm n (bubble p i j):=(bubble_perm _ _ _).trans h
def K_rev(a:j<=p.size)(k:Nat):K key (kas_rev p i j) k=if i<=k/\k<j then K key p (i+j-1-k) else K key p k:=by unfold K;rw[getD_rev a];split<;>rfl
def K_rev_eq(b:j<=p.size)(a:∀k,i<=k->k<j->K key p k=K key p (j-1))(k:Nat):K key (kas_rev p i j) k=K key p k:=by rw[K_rev b];split;rw[a _ (by omega) (by omega),a k (by omega) (by omega)];rfl
def K_bub{k l:Nat}(a:k<p.size)(b:l<=k)(t:Nat):K key (bubble p k (k-l)) t=if t=l then K key p k else if l<t/\t<=k then K key p (t-1) else K key p t:=by unfold K;rw[getD_bub a b];split;rfl;split<;>rfl
theorem Asc.le{p:P'}{k:Nat}(h:Asc key p k){i:Nat}:∀(d:Nat),i+d<k->O.kle (K key p i) (K key p (i+d))
 |0,_=>KeyOrd.kle_refl _
 |d+1,hd=>KeyOrd.kle_trans (h.le d (by omega)) (h (i+d) (by omega))
def Asc.le'{k:Nat}(h:Asc key p k)(b:i<=j)(a:j<k):O.kle (K key p i) (K key p j):=by
 have:=h.le (i:=i) (j-i) (by omega)
 rwa [show i+(j-i)=j by omega] at this
abbrev lt (O:KeyOrd) (key:Nat->O.α) (i j:Nat):Bool:=O.blt (key i) (key j)
theorem Qk{p:P'}(b:Pm n p)(c:0<n):∀(f a:Nat),1<=a->Tw (lt O key) n (kas_asc p f a) λm=>a<=m/\m<=a+f/\(∀i,a-1<=i->i+1<m->O.kle (K key p i) (K key p (i+1)))/\(m<a+f->O.klt (K key p m) (K key p (m-1)))
 |0,a,_=>⟨Aw _,Aw _,λi d g=>by omega,λh=>by omega⟩
 | f + 1,a,q=>by
   refine⟨b.lt c _,b.lt c _,?_⟩;cases j:lt O key (p.getD a 0) (p.getD (a-1) 0) with|true=>simp only[if_true];exact⟨Aw _,by omega,λi d g=>by omega,λ_=>j⟩|false=>simp only[Dn,if_false];refine Tw_mono ?_ _ (Qk b c f (a+1) (by omega));rintro m ⟨d,g,k,l⟩;refine⟨by omega,by omega,λi r o=>?_,λh=>l (by omega)⟩;by_cases e:i=a-1;subst e;rw[show a-1+1=a by omega];exact j;exact k i (by omega) o
theorem Oc(c:0<n):∀(f:Nat)(p:P')(a q:Nat),Pm n p->a+f<=n->M6 key p a->q+1<=a->(∀k,a-(q+1)<=k->k<a->K key p k=K key p (a-1)) ->
 Tw (lt O key) n (kas_desc f p a q) λr=>Pm n r.1/\a<=r.2.1/\r.2.1<=a+f/\M6 key r.1 r.2.1/\r.2.2+1<=r.2.1/\(∀k,r.2.1-(r.2.2+1)<=k->k<r.2.1->K key r.1 k=K key r.1 (r.2.1-1))
 |0,p,a,q,b,_,hd,o,d=>⟨b,Aw _,Aw _,hd,o,d⟩
 | f + 1,p,a,q,b,F,hd,o,d=>by
   have hz:=b.size;refine⟨b.lt c _,b.lt c _,?_⟩
   cases u:lt O key (p.getD a 0) (p.getD (a-1) 0) with
   |true=>
    have t:O.klt (K key p a) (K key p (a-1)):=u
    have A:M6 key p (a+1):=λi s=>by
     by_cases e:i+1=a;rw[e];have:i=a-1:=by omega
     rw[this];exact KeyOrd.kle_of_klt t;exact hd i (by omega)
    simp only[if_true];by_cases B:q > 0;rw[Ap B];have v:=K_rev_eq (key:=key) (p:=p) (i:=a-(q+1)) (j:=a) (by omega) d;refine Tw_mono ?_ _ (Oc c f _ (a+1) 0 (b.rev _ _) (by omega) (λi s=>by rw[v,v];exact A i s) (by omega) (λk w x=>by rw[show k=a+1-1 by omega]));rintro r ⟨g,y,z,h,l,m⟩;exact⟨g,by omega,by omega,h,l,m⟩;rw[An B];refine Tw_mono ?_ _ (Oc c f _ (a+1) 0 b (by omega) A (by omega) (λk w x=>by rw[show k=a+1-1 by omega]));rintro r ⟨g,y,z,h,l,m⟩;exact⟨g,by omega,by omega,h,l,m⟩
   |false=>
    have t:O.kle (K key p (a-1)) (K key p a):=u;simp only[Dn,if_false];refine⟨b.lt c _,b.lt c _,?_⟩
    cases E:lt O key (p.getD (a-1) 0) (p.getD a 0) with
    |true=>simp only[if_true];exact⟨b,Aw _,Nat.le_add_right _ _,hd,o,d⟩
    |false=>
     have C:O.kle (K key p a) (K key p (a-1)):=E;have D:K key p a=K key p (a-1):=KeyOrd.kle_antisymm C t;simp only[Dn,if_false];refine Tw_mono ?_ _ (Oc c f _ (a+1) (q+1) b (by omega) (λi s=>?_) (by omega) (λk w x=>?_));rintro r ⟨g,y,z,h,l,m⟩;exact⟨g,by omega,by omega,h,l,m⟩;by_cases e:i+1=a;rw[e];have:i=a-1:=by omega
     rw[this];exact C;exact hd i (by omega);rw[show a+1-1=a by omega];by_cases e:k=a;rw[e];rw[d k (by omega) (by omega),D]
abbrev Ql (key:Nat->O.α) (n:Nat) (r:Nat×Array Nat):Prop:=Pm n r.2/\1<=r.1/\r.1<=n/\Asc key r.2 r.1
def SD(d:0<n){a:Nat}(b:Pm n p)(f:1<=a)(l:a<=n)(hd:M6 key p a):Tw (lt O key) n (kas_tail3 a n p) (Ql key n):=by
 unfold kas_tail3;have o:=b.size;have c:=K_rev (key:=key) (p:=p) (i:=0) (j:=a) (by omega);refine L7 _ (Tw_mono ?_ _ (Qk (O:=O) (key:=key) (b.rev 0 a) d (n-a) a f));rintro m ⟨q,r,g,_⟩;refine⟨b.rev _ _,by show 1<=m;omega,by show m<=n;omega,λi h=>?_⟩;have k:i+1<m:=h;by_cases e:a-1<=i;exact g i e k;show O.kle (K key (kas_rev p 0 a) i) (K key (kas_rev p 0 a) (i+1));rw[c,c,Ap (by omega),Ap (by omega)];have:=hd (0+a-1-(i+1)) (by omega)
 rwa [show 0+a-1-(i+1)+1=0+a-1-i by omega] at this
def SE(c:0<n){a:Nat}(g:Pm n p)(h:1<=a)(u:a+1<=n)(hd:M6 key p (a+1)):Tw (lt O key) n (kas_descPart a n p) (Ql key n):=by
 unfold kas_descPart;refine L7 _ (Tw_mono ?_ _ (Oc (O:=O) (key:=key) c (n-(a+1)) p (a+1) 0 g (by omega) hd (by omega) (λk h v=>by rw[show k=a+1-1 by omega])));rintro⟨l,m,q⟩ ⟨b,o,r,d,s,e⟩;dsimp only at b o r d s e ⊢;have w:=b.size;split;have f:=K_rev_eq (key:=key) (p:=l) (i:=m-(q+1)) (j:=m) (by omega) e;exact SD c (b.rev _ _) (by omega) (by omega) λi t=>by rw[f,f];exact d i t
 exact SD c b (by omega) (by omega) d
def VB(b:0<n)(a:Pm n p):Tw (lt O key) n (kas_count n p) (Ql key n):=by
 unfold kas_count;have x:=a.size;refine L7 _ (Tw_mono ?_ _ (Qk (O:=O) (key:=key) a b (n-1) 1 (Aw _)));rintro m ⟨c,y,s,t⟩;have d:Asc key p m:=λi f=>s i (by omega) f;by_cases g:(m==n)=true;rw[Ap g];exact⟨a,c,by show m<=n;omega,d⟩;rw[An g];have z:m<n:=(by have:m≠n:=λq=>g (by rw[q];exact beq_self_eq_true _);omega);have l:=t (by omega);by_cases o:m > 1;rw[Ap o];refine⟨a.lt b _,a.lt b _,?_⟩
 cases u:lt O key (p.getD 0 0) (p.getD (m-1) 0) with
 |true=>simp only[if_true];exact⟨a,c,by show m<=n;omega,d⟩
 |false=>
  have w:O.kle (K key p (m-1)) (K key p 0):=u;simp only[Dn,if_false]
  have h:∀k,0<=k->k<m->K key p k=K key p (m-1):=λk _ v =>
   KeyOrd.kle_antisymm (d.le' (by omega) (by omega)) (KeyOrd.kle_trans w (d.le' (by omega) v))
  have r:=K_rev_eq (key:=key) (p:=p) (i:=0) (j:=m) (by omega) h;refine SE b (a.rev _ _) c (by omega) λi f=>?_;rw[r,r];by_cases e:i+1=m;rw[e,show i=m-1 by omega];exact KeyOrd.kle_of_klt l;rw[h i (by omega) (by omega),h (i+1) (by omega) (by omega)];exact KeyOrd.kle_refl _
 rw[An o];refine SE b a c (by omega) λi f=>?_;have:m=1:=(by omega);subst this;obtain rfl:i=0:=by omega
 exact KeyOrd.kle_of_klt l
theorem Qm(c:0<n){p:P'}{k:Nat}(d:Pm n p)(g:Asc key p k):∀(f l r:Nat),r-l<=f->l<=r->r<=k->(∀i,i<l->O.kle (K key p i) (K key p k))->(∀i,r<=i->i<k->O.klt (K key p k) (K key p i)) ->
 Tw (lt O key) n (kas_place p k f l r) λm=>m<=k/\(∀i,i<m->O.kle (K key p i) (K key p k))/\(∀i,m<=i->i<k->O.klt (K key p k) (K key p i))
 |0,l,r,t,u,q,h,j=>⟨by omega,h,λi a b=>j i (by omega) b⟩
 | f + 1,l,r,t,u,q,h,j=>by
   unfold kas_place;by_cases e:l ≥ r;rw[Ap e];exact⟨by omega,h,λi a b=>j i (by omega) b⟩;rw[An e];refine⟨d.lt c _,d.lt c _,?_⟩;cases s:lt O key (p.getD k 0) (p.getD ((l+r)/2) 0) with|true=>have o:O.klt (K key p k) (K key p ((l+r)/2)):=s;simp only[if_true];exact Qm c d g f l ((l+r)/2) (by omega) (by omega) (by omega) h λi a b=>KeyOrd.klt_of_klt_of_kle o (g.le' a b)|false=>have o:O.kle (K key p ((l+r)/2)) (K key p k):=s;simp only[Dn,if_false];exact Qm c d g f ((l+r)/2+1) r (by omega) (by omega) q (λi a=>KeyOrd.kle_trans (g.le' (by omega) (by omega)) o) j
theorem GD (h0:0<n):∀ (f:Nat) (p:P') (k:Nat),Pm n p->k+f=n->Asc key p k->Tw (lt O key) n (kas_bin f p k) fun p'=>Pm n p'/\Asc key p' n
 | 0, p, k, hp, hk, ha => ⟨hp, by have : k = n := by omega
                                  rw[<-this];exact ha⟩
 |f+1,p,k,hp,hk,ha=>by
   have hz:=hp.size;unfold kas_bin;refine L7 _ (Tw_mono ?_ _ (Qm (O:=O) (key:=key) h0 hp ha k 0 k (by omega) (by omega) (Aw _) (λi h=>by omega) λi a b=>by omega));rintro l ⟨b1,b2,b3⟩;have kk:=K_bub (key:=key) (p:=p) (k:=k) (l:=l) (by omega) b1;refine GD h0 f _ (k+1) (hp.bub _ _) (by omega) λi hi=>?_;rw[kk,kk];by_cases e1:i=l;rw[Ap e1,An (by omega)];by_cases e2:i+1<=k;rw[Ap (by omega)];exact KeyOrd.kle_of_klt (b3 (i+1-1) (by omega) (by omega));omega;rw[An e1];by_cases e2:i+1=l;rw[Ap e2,An (by omega)];exact b2 i (by omega);rw[An e2];by_cases e3:l<i;rw[Ap (by omega),Ap (by omega)];have:=ha (i-1) (by omega)
   rwa [show i-1+1=i+1-1 by omega] at this
   rw[An (by omega),An (by omega)];exact ha i (by omega)
def sort_ok(h0:0<n):Tw (lt O key) n (kas_sort n) λp=>Pm n p/\Asc key p n:=by
 unfold kas_sort;refine L7 _ (Tw_mono ?_ _ (VB (O:=O) (key:=key) h0 (Array.Perm.refl _)));rintro⟨m,p⟩ ⟨b1,b2,b3,b4⟩;dsimp only at b1 b2 b3 b4 ⊢;split;rw[show max m 1=m by omega];exact GD h0 _ _ _ b1 (by omega) b4
 exact ⟨b1, by have : m = n := by omega
               rw[<-this];exact b4⟩
end
end KasM
namespace L2
open PySem PySem.Spec PyProof.Rows
section
variable {prog:Program} {w:World} {A:Around} {E:B'} {s:Shared}
def VC{O:KeyOrd}{key:Nat->O.α}{κ:SortKind}{a:Addr}{vs:E'}{n:Nat}{P:PySem.Fin->Shared->Prop}(g:s.heap.get? a=some (seqObj "list" vs.toArray n))(M:vs.length<64)
 (U:2<=vs.length->∀(h':Heap),(∀b o,b≠a->s.heap.get? b=some o->h'.get? b=some o)->∀(Q:SortKind->Shared->Prop),Q κ {s with heap:=h'}->wpAny (model prog w) A (keyKind' vs.toArray) Q (λ_ _=>False) {s with heap:=h'})
 (R:∀(h':Heap),(∀b o,b≠a->s.heap.get? b=some o->h'.get? b=some o)->∀(i j:Nat)(C:Bool->Shared->Prop),i<vs.length->j<vs.length->C (O.blt (key i) (key j)) {s with heap:=h'}->PySem.W.kas_ask prog w A κ vs i j C {s with heap:=h'})
 (h:∀f:O',f.Perm (List.range vs.length)->(∀i,i+1<f.length->O.kle (key (f.getD i 0)) (key (f.getD (i+1) 0)))->P (.done (.ret .none)) {s with heap:=sortedHeap s.heap a vs (f.map λi=>vs.getD i Value.none).toArray}) :
 wpAny (model prog w) A (Builtin.«list.sort» ⟨[.ref a],[]⟩) P E s:=by
 rw[list_sort_plain];have y:a<s.heap.objs.size:=AI g;have W:vs.toArray.size=vs.length:=(by simp);refine Ac (listItems_at g rfl ?_);refine Ac (listUpdate_at g rfl ?_ (by rw[BR,sizeLine_eq];omega) (A9 _));obtain⟨t,B⟩:∃t,(s.heap.update a (Obj.mapSeq λ_=>#[])).get? a=some (seqObj "list" #[] t):=⟨_,get?_update_seq g (λ_=>#[])⟩;refine Ac (seqEpoch_at B rfl ?_);refine Ac (wpAny_newTuple ?_ (by show vs.length<=_;rw[sizeLine_eq];omega));refine Ac (wpAny_newList ?_ (A9 _));refine C1 ?_;have m:(((s.heap.update a (Obj.mapSeq λ_=>#[])).push (seqObj "tuple" vs.toArray 0)).push (seqObj "list" #[] 0)).get? a=some (seqObj "list" #[] t):=(by rw[Heap.get?_push_ne _ _ _ (by rw[size_push',Heap.size_update];exact Bu (Nat.lt_succ_of_lt y)),Heap.get?_push_ne _ _ _ (by rw[Heap.size_update];exact Bu y)];exact B)
 have keep:∀b o,b≠a->s.heap.get? b=some o->(((s.heap.update a (Obj.mapSeq λ_=>#[])).push (seqObj "tuple" vs.toArray 0)).push (seqObj "list" #[] 0)).get? b=some o:=λb o F q=>by
  refine AR _ (AR _ ?_);rw[Heap.get?_update_ne _ _ _ _ F];exact q
 show wpAny (model prog w) A _ P E {s with heap:=((s.heap.update a (Obj.mapSeq λ_=>#[])).push (seqObj "tuple" vs.toArray 0)).push (seqObj "list" #[] 0)};dsimp only;by_cases l:vs.toArray.size<2;rw[Ap l,Ap l];refine Ac (Al ?_);rw[StateT.run_pure];refine Ac (Al ?_);dsimp only;refine Ac (seqEpoch_at m rfl ?_);refine Ac (listUpdate_at m rfl ?_ (A9 _) (by rw[Array.size_map];show(pairsOf vs).size<=_;rw[pairsOf_size,sizeLine_eq];omega));simp only[bne_self_eq_false,Dn,if_false];have:=h (List.range vs.length) (List.Perm.refl _) (λi u=>by rw[p9] at u;omega);have e:((List.range vs.length).map λi=>vs.getD i Value.none).toArray=(arrOf (SortSt.mk' general' (vs.toArray.zip vs.toArray) #[] 7 none)).map (·.2):=(by apply Array.toList_inj.mp;show(List.range vs.length).map (λi=>vs.getD i Value.none)=((vs.toArray.zip vs.toArray).map (·.2)).toList;apply r6;intro k;by_cases z:k<vs.length;simp[z,A7];simp[z]);rw[e] at this;exact Al this;rw[An l,An l];have D:2<=vs.length:=(by omega);refine Ac (Do (U D _ keep (λκ' c=>κ'=κ/\c=_) ⟨rfl,rfl⟩) ?_ λ_ _ x=>x.elim);rintro κ' c ⟨rfl,rfl⟩
 refine Ac (Do (PySem.W.kat_run (Q:=λr c=>∃p:P',arrOf r=p.map (PySem.W.kas_item (vs.toArray.zip vs.toArray))/\failedOf r=none/\KasM.Pm vs.length p/\KasM.Asc key p vs.length/\c={s with heap:=((s.heap.update a (Obj.mapSeq λ_=>#[])).push (seqObj "tuple" vs.toArray 0)).push (seqObj "list" #[] 0)})
  (G:=λp c=>KasM.Pm vs.length p/\KasM.Asc key p vs.length/\c={s with heap:=((s.heap.update a (Obj.mapSeq λ_=>#[])).push (seqObj "tuple" vs.toArray 0)).push (seqObj "list" #[] 0)})
  rfl D M (λH r c V I J v=>⟨H,I,J,v.1,v.2.1,v.2.2⟩)
  (KasM.Tw_wp (lt:=KasM.lt O key) (n:=vs.length) (R _ keep) _ (KasM.Tw_mono (λp d=>⟨d.1,d.2,rfl⟩) _ (KasM.sort_ok (O:=O) (key:=key) (by omega))))) ?_ λ_ _ e=>e)
 rintro⟨⟨⟩,r⟩ c ⟨p,N,K,d,S,rfl⟩;dsimp only;have T:=PySem.W.kat_snds (ks:=vs) (vs:=vs) rfl N;rw[T];refine Ac (seqEpoch_at m rfl ?_);refine Ac (listUpdate_at m rfl ?_ (A9 _) (by rw[BR,AD,Array.length_toList,d.size,sizeLine_eq];omega));rw[K];simp only[bne_self_eq_false,Dn,if_false];refine Al (h p.toList (by have:=Array.perm_iff_toList_perm.mp d;simpa using this) λi u=>?_);have L:=d.size;have:=S i (by simpa [L] using u);simpa [KasM.K,q8,A7] using this
def SG{O:KeyOrd}{key:Nat->O.α}{κ:SortKind}{l:Addr}{vs:E'}{Q:B'}(g:s.heap.IsList l vs.toArray)(v:vs.length<64)
 (y:2<=vs.length->∀(h':Heap),(∀b o,s.heap.get? b=some o->h'.get? b=some o)->∀(Q:SortKind->Shared->Prop),Q κ {s with heap:=h'}->wpAny (model prog w) A.in1.in1 (keyKind' vs.toArray) Q (λ_ _=>False) {s with heap:=h'})
 (x:∀(h':Heap),(∀b o,s.heap.get? b=some o->h'.get? b=some o)->∀(i j:Nat)(C:Bool->Shared->Prop),i<vs.length->j<vs.length->C (O.blt (key i) (key j)) {s with heap:=h'}->PySem.W.kas_ask prog w A.in1.in1 κ vs i j C {s with heap:=h'})
 (h:∀(D:Addr)(h':Heap)(n:Nat)(a:O'),(∀b o,s.heap.get? b=some o->h'.get? b=some o)->(∀b o,s.heap.get? b=some o->b≠D)->a.Perm (List.range vs.length)->(∀i,i+1<a.length->O.kle (key (a.getD i 0)) (key (a.getD (i+1) 0))) ->
  h'.get? D=some (seqObj "list" (a.map λi=>vs.getD i Value.none).toArray n)->Q (.ref D) {s with heap:=h'}) :
 wpAny (model prog w) A (call (.builtin "sorted") [.ref l]) Q E s:=by
 refine Calls.call_function_entry kind_sorted plain_sorted entry_sorted (args_sorted1 _) ?_;unfold Builtin.«sorted»;refine Ac (m:=checkCount "sorted" 1 1 _) (Al ?_);refine Ac (collect_list g ?_ (by rw[sizeLine_eq];omega));refine Ac (wpAny_newList ?_ (by rw[sizeLine_eq];omega));have d:((s.heap.push (seqObj "list" #[] 0)).update s.heap.objs.size (Obj.mapSeq (·++vs.toArray))).objs.size=s.heap.objs.size+1:=(by rw[Heap.size_update,size_push']);have e:(((s.heap.push (seqObj "list" #[] 0)).update s.heap.objs.size (Obj.mapSeq (·++vs.toArray))).push (seqObj "list" vs.toArray 0)).get? (s.heap.objs.size+1)=some (seqObj "list" vs.toArray 0):=(by rw[<-d];exact BG _ rfl)
 have keep:∀b o,s.heap.get? b=some o->(((s.heap.push (seqObj "list" #[] 0)).update s.heap.objs.size (Obj.mapSeq (·++vs.toArray))).push (seqObj "list" vs.toArray 0)).get? b=some o:=λb o q=>by
  have f:b<s.heap.objs.size:=AI q;rw[Heap.get?_push_ne _ _ _ (by rw[d];exact Bu (Nat.lt_succ_of_lt f)),Heap.get?_update_ne _ _ _ _ (Bu f),Heap.get?_push_ne _ _ _ (Bu f)];exact q
 have c:∀b o,s.heap.get? b=some o->b≠s.heap.objs.size+1:=λb o q=>Bu (Nat.lt_succ_of_lt (AI q));show wpAny _ _ _ _ _ {s with heap:=((s.heap.push (seqObj "list" #[] 0)).update s.heap.objs.size (Obj.mapSeq (·++vs.toArray))).push (seqObj "list" vs.toArray 0)};rw[d];refine Ac (C1 (wpAny_call_entry slot_list_sort ⟨_,e,rfl⟩ entry_list_sort ?body (args_list_sort _)))
 case body =>
  refine VC (s:={s with heap:=((s.heap.push (seqObj "list" #[] 0)).update s.heap.objs.size (Obj.mapSeq (·++vs.toArray))).push (seqObj "list" vs.toArray 0)}) (key:=key) (κ:=κ) e v
   (λp h' k=>y p h' λb o q=>k b o (c b o q) (keep b o q)) (λh' k=>x h' λb o q=>k b o (c b o q) (keep b o q)) λa r t=>?_
  obtain⟨n,u⟩:=sortedHeap_at (vs:=vs) (out:=(a.map λi=>vs.getD i Value.none).toArray) e;refine⟨_,rfl,Al ⟨_,rfl,h (s.heap.objs.size+1) _ n a (λb o q=>?_) c r t u⟩⟩;show(sortedHeap (((s.heap.push (seqObj "list" #[] 0)).update s.heap.objs.size (Obj.mapSeq (·++vs.toArray))).push (seqObj "list" vs.toArray 0)) (s.heap.objs.size+1) vs _).get? b=some o;rw[sortedHeap_old (c b o q) (AI (keep b o q))];exact keep b o q
end
@[reducible] def Br (O P:KeyOrd):KeyOrd where
 α:=O.α×P.α
 blt x y:=O.blt x.1 y.1 || (!O.blt y.1 x.1 && P.blt x.2 y.2)
 irrefl x:=by simp[O.irrefl,P.irrefl]
 trans x y z h1 h2:=by simp only[Bool.or_eq_true,Bool.and_eq_true,Bool.not_eq_true'] at h1 h2 ⊢;rcases h1 with h1|⟨h1,k1⟩<;>rcases h2 with h2|⟨h2,k2⟩;exact .inl (O.trans _ _ _ h1 h2);exact .inl (KeyOrd.klt_of_klt_of_kle h1 h2);exact .inl (KeyOrd.klt_of_kle_of_klt h1 h2);exact .inr ⟨KeyOrd.kle_trans (O:=O) h1 h2,P.trans _ _ _ k1 k2⟩
 negTrans x y z h:=by
  simp only[Bool.or_eq_true,Bool.and_eq_true,Bool.not_eq_true'] at h ⊢;rcases h with h|⟨h,k⟩;rcases O.negTrans _ y.1 _ h with h|h;exact .inl (.inl h);exact .inr (.inl h)
  cases e1:O.blt x.1 y.1 with
  |true=>exact .inl (.inl rfl)
  |false=>
   cases e2:O.blt y.1 z.1 with
   |true=>exact .inr (.inl rfl)
   |false=>have a1:O.kle y.1 x.1:=e1;have a2:O.kle z.1 y.1:=e2;have a3:O.kle x.1 z.1:=h;have b1:O.blt y.1 x.1=false:=KeyOrd.kle_trans (O:=O) a3 a2;have b2:O.blt z.1 y.1=false:=KeyOrd.kle_trans (O:=O) a1 a3;rcases P.negTrans _ y.2 _ k with k|k;exact .inl (.inr ⟨b1,k⟩);exact .inr (.inr ⟨b2,k⟩)
 total x y h1 h2:=by simp only[Bool.or_eq_false_iff,Bool.and_eq_false_iff,Bool.not_eq_false'] at h1 h2;have e1:x.1=y.1:=O.total _ _ h1.1 h2.1;have e2:x.2=y.2:=P.total _ _ (by rcases h1.2 with z|z;exact absurd (h2.1.symm.trans z) (by simp);exact z) (by rcases h2.2 with z|z;exact absurd (h1.1.symm.trans z) (by simp);exact z);exact Prod.ext e1 e2
@[reducible] def Dp:KeyOrd where
 α:=Str
 blt a b:=decide (a.cps.toList<b.cps.toList)
 irrefl a:=by simpa using List.lt_irrefl a.cps.toList
 trans a b c h1 h2:=by simp only[decide_eq_true_eq] at *;exact List.lt_trans h1 h2
 negTrans a b c h:=by
  simp only[decide_eq_true_eq] at *;by_cases hab:a.cps.toList<b.cps.toList;exact .inl hab;exact .inr (List.lt_of_le_of_lt (List.not_lt.mp hab) h)
 total a b h1 h2:=by simp only[decide_eq_false_iff_not] at *;exact ext_toList (List.le_antisymm (List.not_lt.mp h2) (List.not_lt.mp h1))
@[reducible] def FG:KeyOrd where
 α:=Int
 blt a b:=decide (a<b)
 irrefl a:=by simp
 trans a b c h1 h2:=by simp only[decide_eq_true_eq] at *;omega
 negTrans a b c h:=by simp only[decide_eq_true_eq] at *;omega
 total a b h1 h2:=by simp only[decide_eq_false_iff_not] at *;omega
structure FH where
 O:KeyOrd
 val:O.α->V
 dflt:O.α
 T:Value
 tT:(T==T)=true
 tN:(T != Value.type "tuple")=true
 look:∀(M:Model)(h:Heap)(a:O.α)(u:Value),RelV (val a) u->PySem.W.Looks M h (typeOf u) T
 eqB:∀(prog:Program)(w:World)(A:Around)(E:B')(s:Shared)(a b:O.α)(u v:Value)(Q:Bool->Shared->Prop),RelV (val a) u->RelV (val b) v->(∀e:Bool,(e=true↔a=b)->Q e s)->wpAny (model prog w) A (eqBool u v) Q E s
 ltB:∀(prog:Program)(w:World)(A:Around)(E:B')(s:Shared)(a b:O.α)(u v:Value)(Q:Bool->Shared->Prop),RelV (val a) u->RelV (val b) v->Q (O.blt a b) s->wpAny (model prog w) A (oneLt' true u v) Q E s
 ltC:∀(prog:Program)(w:World)(A:Around)(E:B')(s:Shared)(a b:O.α)(u v:Value)(Q:Bool->Shared->Prop),RelV (val a) u->RelV (val b) v->Q (O.blt a b) s->wpAny (model prog w) A (oneLt' false u v) Q E s
@[reducible] def M7:FH where
 O:=Dp
 val:=V.str
 dflt:=default
 T:=.type "str"
 tT:=by decide
 tN:=by decide
 look M h a u r:=by obtain⟨t,rfl⟩:=r;exact PySem.W.Looks.of_pure rfl
 eqB prog w A E s a b u v Q r r' h:=by obtain⟨t,rfl⟩:=r;obtain⟨t',rfl⟩:=r';exact eqBool_str (h _ (by simp))
 ltB prog w A E s a b u v Q r r' h:=by obtain⟨t,rfl⟩:=r;obtain⟨t',rfl⟩:=r';exact oneLt_str h
 ltC prog w A E s a b u v Q r r' h:=by obtain⟨t,rfl⟩:=r;obtain⟨t',rfl⟩:=r';exact PySem.W.kat_one _ _ (PySem.P.lt_str h)
@[reducible] def M8:FH where
 O:=FG
 val:=V.int
 dflt:=0
 T:=.type "int"
 tT:=by decide
 tN:=by decide
 look M h a u r:=by obtain⟨t,rfl⟩:=r;exact PySem.W.Looks.of_pure rfl
 eqB prog w A E s a b u v Q r r' h:=by obtain⟨t,rfl⟩:=r;obtain⟨t',rfl⟩:=r';exact wpAny_eqBool_int (h _ (by simp))
 ltB prog w A E s a b u v Q r r' h:=by obtain⟨t,rfl⟩:=r;obtain⟨t',rfl⟩:=r';exact oneLt_int h
 ltC prog w A E s a b u v Q r r' h:=by obtain⟨t,rfl⟩:=r;obtain⟨t',rfl⟩:=r';exact PySem.W.kat_one _ _ (PySem.P.lt_int h)
variable {d:FH}
def HV{c:FH}(x y:(Br c.O d.O).α)(e:x.1=y.1):(Br c.O d.O).blt x y=d.O.blt x.2 y.2:=by show(c.O.blt x.1 y.1 || (!c.O.blt y.1 x.1 && d.O.blt x.2 y.2))=_;rw[e,c.O.irrefl];rfl
def HW{c:FH}(x y:(Br c.O d.O).α)(e:x.1≠y.1):(Br c.O d.O).blt x y=c.O.blt x.1 y.1:=by
 show(c.O.blt x.1 y.1 || (!c.O.blt y.1 x.1 && d.O.blt x.2 y.2))=_
 cases a:c.O.blt x.1 y.1 with
 |true=>rfl
 |false=>
  cases b:c.O.blt y.1 x.1 with|true=>rfl|false=>exact absurd (c.O.total _ _ a b) e
section
variable {prog:Program} {w:World} {A:Around} {E:B'} {s:Shared}
def VD(c d:FH){x y:Addr}{p q:(Br c.O d.O).α}{b f g i:Value}{Q:Bool->Shared->Prop}(r:IsTup s.heap x #[b,f])(t:IsTup s.heap y #[g,i])(j:RelV (c.val p.1) b)(k:RelV (d.val p.2) f)(l:RelV (c.val q.1) g)(o:RelV (d.val q.2) i)
 (h:Q ((Br c.O d.O).blt p q) s):wpAny (model prog w) A (keyLt' (tuples' true) (.ref x) (.ref y)) Q E s:=by
 obtain⟨F,B,_,n,u⟩:=r;obtain⟨G,C,_,m,v⟩:=t;refine PySem.W.kat_lt B u C v (PySem.W.kat_cons (c.eqB _ _ _ _ _ _ _ _ _ _ j l λe a=>?_))
 cases e with
 |false=>have D:p.1≠q.1:=λz=>B0 (a.mpr z);rw[HW _ _ D] at h;exact PySem.W.kat_no (c.ltB _ _ _ _ _ _ _ _ _ _ j l h)
 |true=>
  rw[HV _ _ (a.mp rfl)] at h;refine PySem.W.kat_yes (PySem.W.kat_cons (d.eqB _ _ _ _ _ _ _ _ _ _ k o λe a=>?_));cases e with|false=>exact PySem.W.kat_no (d.ltC _ _ _ _ _ _ _ _ _ _ k o h)|true=>refine PySem.W.kat_yes (PySem.W.kat_nil ?_);rw[a.mp rfl,d.O.irrefl] at h;exact h
end
theorem Od{α:Type}{R:α->α->Prop}(f:∀a b c,R a b->R b c->R a c):∀(l:List α),(∀i a b,l[i]?=some a->l[i+1]?=some b->R a b)->l.Pairwise R
 |[],_=>.nil
 |[x],_=>by simp
 |x::y::r,h=>by have g:=Od f (y::r) λi a b k m=>h (i+1) a b (by simpa using k) (by simpa using m);have j:R x y:=h 0 x y rfl rfl;refine List.pairwise_cons.mpr ⟨λz d=>?_,g⟩;rcases BL.mp d with e|d;rw[e];exact j;exact f _ _ _ j ((List.pairwise_cons.mp g).1 z d)
section
variable {X:Cx}
abbrev Row (c d:FH):Type:=V×(Br c.O d.O).α
def Kv (X:Cx) (c d:FH):R'->Hp->VK->Prop:=λvs H Q=>∃(l:Addr)(zs:List (Row c d)),vs=[.ref l]/\Ag X.K H l (zs.map (·.1))/\zs.length<64 /\
 (∀z∈zs,∃t,z.1=.ref t/\AB X.K H t [c.val z.2.1,d.val z.2.2])/\∀(D:Addr)(zs':List (Row c d)),zs'.Perm zs->(zs'.map (·.2)).Pairwise (Br c.O d.O).kle->H D=none->Q (.ref D) (upd H D (.lst (zs'.map (·.1))))
def HR (c d:FH) (h:Heap) (z:Row c d) (v:Value):Prop:=∃t u1 u2,z.1=.ref t/\v=.ref t/\IsTup h t #[u1,u2]/\RelV (c.val z.2.1) u1/\RelV (d.val z.2.2) u2
def HR.keeps{c d:FH}{h h':Heap}{z:Row c d}{v:Value}(k:∀b o,h.get? b=some o->h'.get? b=some o)(x:HR c d h z v):HR c d h' z v:=by obtain⟨t,a,e,f,g,i,j⟩:=x;exact⟨t,a,e,f,g,i.keeps k,j⟩
def HX{c:FH}{h:Heap}(zs:List (Row c d))(f:E')(g:Paired (HR c d h) zs f):∃fs,PySem.W.KatTups h f fs/\fs.length=zs.length/\∀v∈fs,∃a,RelV (c.val a) v:=by
 induction g with
 |nil=>exact⟨[],.nil,rfl,λ_ x=>by cases x⟩
 |cons i r j=>obtain⟨t,k,z,A,l,⟨o,m,p,n,q⟩,s,B⟩:=i;obtain⟨fs,u,w,y⟩:=j;subst l;refine⟨k::fs,.cons m p q rfl u,by simp[w],λv b=>?_⟩;rcases BL.mp b with e|b;exact⟨_,e▸s⟩;exact y v b
def M9{α β:Type}{R:α->β->Prop}{xs:List α}{d:List β}(h:Paired R xs d):∀(i:Nat)(b:α)(c:β),i<xs.length->R (xs.getD i b) (d.getD i c):=by
 induction h with
 |nil=>intro i b c h;simp at h
 |cons a r e=>
  intro i b c h;cases i with|zero=>exact a|succ i=>simpa using e i b c (by simpa using h)
theorem Oe{α β γ:Type}{R:α->β->Prop}{f:γ->α}{g:γ->β}:∀(l:List γ),(∀x∈l,R (f x) (g x))->Paired R (l.map f) (l.map g)
 |[],_=>.nil
 |x::l,h=>.cons (h x CH) (Oe l λy a=>h y (Dc _ a))
theorem Jg{c d:FH}{pins:A'}{σ:L2.St}{H:Hp}{s:Shared}(I:Inv X pins σ H s):∀(zs:List (Row c d))(f:E'),Am (zs.map (·.1)) f->(∀z∈zs,∃t,z.1=.ref t/\AB X.K H t [c.val z.2.1,d.val z.2.2])->Paired (HR c d s.heap) zs f
 |[],f,r,_=>by cases r;exact .nil
 | z :: zs,f,r,h=>by
   cases r with
   |cons a b=>
    obtain⟨t,e,j⟩:=h z CH;obtain⟨n,g,k,_⟩:=I.tuple j
    cases g with
    |cons g i=>
     cases i with|cons i l=>cases l;dsimp only at a;rw[e] at a;exact .cons ⟨t,_,_,e,a,k,g,i⟩ (Jg I zs _ b λy m=>h y (Dc _ m))
theorem SH(c d:FH):A1 X (.builtin "sorted") (Kv X c d):=by
 intro ar s σ H vs us ak I r h;obtain⟨l,b,rfl,Q,aq,R,q⟩:=h;obtain⟨u,rfl,S⟩:=EL r;obtain rfl:u=Value.ref l:=S;obtain⟨g,U,W,_⟩:=I.list Q;have m:=Jg I b g U R;have N:b.length=g.length:=m.length
 let e:Row c d:=(V.non,(c.dflt,d.dflt))
 refine SG (O:=Br c.O d.O) (key:=λi=>(b.getD i e).2) (κ:=tuples' true) (vs:=g) (by obtain⟨o,n,w,p,F,A⟩:=W;exact⟨o,w,p,n,A⟩) (by omega) (λB C k Q' Y=>?_) (λC k i j al z hj Z=>?_) λD C n f kk G M ae hg=>?_;have af:Paired (HR c d C) b g:=Paired.mapP m λ_ _ x=>x.keeps k;obtain⟨fs,k1,k2,k3⟩:=HX _ _ af;refine PySem.W.kat_kind (T:=c.T) k1 (by omega) (λv E=>?_) c.tT (by rw[c.tN];exact Y);obtain⟨a,ha⟩:=k3 v E;exact c.look _ _ a v ha;obtain⟨t,u1,u2,w,p,F,A,a5⟩:=(M9 m i e Value.none (by omega)).keeps k;obtain⟨t',ao,v2,b1,b2,b3,b4,b5⟩:=(M9 m j e Value.none (by omega)).keeps k;unfold PySem.W.kas_ask;rw[p,b2];exact VD c d F b3 A a5 b4 b5 Z
 have ag:∀i∈f,i<b.length:=λi z=>by
  have:=M.mem_iff.mp z;rw[N];simpa using this
 have aj:(List.range b.length).map (λi=>b.getD i e)=b:=(by apply r6;intro k;by_cases J:k<b.length;simp[J,A7];simp[J])
 have P:(f.map λi=>b.getD i e).Perm b:=by
  have:=M.map (λi=>b.getD i e)
  rwa [<-N,aj] at this
 have E:Am ((f.map λi=>b.getD i e).map (·.1)) (f.map λi=>g.getD i Value.none):=(by rw[Dl];refine Oe f λi z=>?_;obtain⟨t,u1,u2,w,p,_⟩:=M9 m i e Value.none (ag i z);show RelV (b.getD i e).1 (g.getD i Value.none);rw[w,p];exact rfl)
 have ah:((f.map λi=>b.getD i e).map (·.2)).Pairwise (Br c.O d.O).kle:=by
  refine Od (λ_ _ _=>KeyOrd.kle_trans) _ λi a an K B=>?_;rw[Dl,BP,Dd] at K B;obtain⟨x,e1,rfl⟩:=K;obtain⟨y,L,rfl⟩:=B;obtain⟨ai,_⟩:=Cd.mp L;have:=ae i ai;have aa:f.getD i 0=x:=by rw[A7,e1];rfl
  have ab:f.getD (i+1) 0=y:=by rw[A7,L];rfl
  rw[aa,ab] at this;exact this
 exact⟨.ref D,upd H D (.lst ((f.map λi=>b.getD i e).map (·.1))),I.laidN (t':=s.toks) kk G ⟨by rw[AD,P.length_eq];exact CZ (BQ (by omega)),_,n,E,hg⟩,rfl,q D _ P ah (I.freshN G)⟩
end
open Ord
def VE{b:E'}{ss:G'}(c:StrsAre b ss)(a:2<=b.length):keyKind' b.toArray=pure oneType':=by
 match b,c,a with
 |[],_,a=>simp at a
 |[_],_,a=>simp at a
 |d::e::p,c,_=>exact keyKind_strs c
section
variable {X:Cx}
def Kw (X:Cx):R'->Hp->VK->Prop:=λvs H Q=>∃(l:Addr)(ss:G'),vs=[.ref l]/\Ag X.K H l (ss.map V.str)/\ss.length<64/\∀(D:Addr)(ss':G'),ss'.Perm ss->ss'.Pairwise Dp.kle->H D=none->Q (.ref D) (upd H D (.lst (ss'.map V.str)))
theorem VF:A1 X (.builtin "sorted") (Kw X):=by
 intro ai s σ H vs us ab I r h;obtain⟨l,a,rfl,F,ah,q⟩:=h;obtain⟨u,rfl,G⟩:=EL r;obtain rfl:u=Value.ref l:=G;obtain⟨g,m,J,_⟩:=I.list F;have K:=VA m;have C:a.length=g.length:=by have:=m.length;rwa [AD] at this
 have p:∀i,i<a.length->∃t,g.getD i Value.none=.str (a.getD i default) t:=λi c=>by
  have:=M9 m i V.non Value.none (by rw[AD];exact c);have e:(a.map V.str).getD i V.non=V.str (a.getD i default):=(by rw[A7,BP,A7,AQ c];rfl);rw[e] at this;exact this
 refine SG (O:=Dp) (key:=λi=>a.getD i default) (κ:=oneType') (vs:=g) J.isList (by omega) (λd v k Q' L=>?_) (λv k i j ae c hj M=>?_) λD v n b N w B U P=>?_;rw[VE K d];exact Al L;obtain⟨t,o⟩:=p i (by omega);obtain⟨t',f⟩:=p j (by omega);unfold PySem.W.kas_ask;rw[o,f,keyLt'_oneType];exact oneLt_str M
 have W:∀i∈b,i<a.length:=λi c=>by
  have:=B.mem_iff.mp c;rw[C];simpa using this
 have aa:(List.range a.length).map (λi=>a.getD i default)=a:=(by apply r6;intro k;by_cases z:k<a.length;simp[z,A7];simp[z])
 have E:(b.map λi=>a.getD i default).Perm a:=by
  have:=B.map (λi=>a.getD i default)
  rwa [<-C,aa] at this
 have Q:Am ((b.map λi=>a.getD i default).map V.str) (b.map λi=>g.getD i Value.none):=(by rw[Dl];exact Oe b λi c=>p i (W i c))
 have Y:(b.map λi=>a.getD i default).Pairwise Dp.kle:=by
  refine Od (R:=Dp.kle) (λ_ _ _ h k=>KeyOrd.kle_trans (O:=Dp) h k) _ λi af ag A d=>?_;rw[BP,Dd] at A d;obtain⟨x,o,rfl⟩:=A;obtain⟨y,f,rfl⟩:=d;obtain⟨Z,_⟩:=Cd.mp f;have:=U i Z;have S:b.getD i 0=x:=by rw[A7,o];rfl
  have T:b.getD (i+1) 0=y:=by rw[A7,f];rfl
  rw[S,T] at this;exact this
 exact⟨.ref D,upd H D (.lst ((b.map λi=>a.getD i default).map V.str)),I.laidN (t':=s.toks) N w ⟨by rw[AD,E.length_eq];exact CZ (BQ (by omega)),_,n,Q,P⟩,rfl,q D _ E Y (I.freshN w)⟩
end
def L8:([]:R').length+1+1+1<=sizeLine:=by decide
variable {O:KeyOrd}
def VG{l m:List O.α}(h:l.Perm m)(c:l.Pairwise O.kle)(d:m.Pairwise O.kle):l=m:=
 h.eq_of_pairwise (λa b _ _ x y=>KeyOrd.kle_antisymm x y) c d
structure Ed (H:Hp) (a:Addr) (l0 l1:Str):Prop where
 ex:∃u g e gt,H a=some (.lst [.ref u])/\H u=some (.tup [.ref g,.ref e])/\H g=some (.lst [.ref gt])/\H gt=some (.tup [.str l0,.int 0])/\H e=some (.lst [.str l1])
variable {H:Hp}{a:Addr}
def Ed.same{H':Hp}{b c:Str}(s:Ad H H')(h:Ed H a b c):Ed H' a b c:=
 ⟨let ⟨u,g,e,gt,d,f,i,j,k⟩:=h.ex;⟨u,g,e,gt,s _ _ d,s _ _ f,s _ _ i,s _ _ j,s _ _ k⟩⟩
structure DP (H:Hp) (p:Addr) (b w:Str):Prop where
 ex:∃pr,H p=some (.lst [.ref pr])/\H pr=some (.tup [.str b,.str w])
def DP.same{H':Hp}{b w:Str}(s:Ad H H')(h:DP H a b w):DP H' a b w:=
 ⟨let ⟨u,c,d⟩:=h.ex;⟨u,s _ _ c,s _ _ d⟩⟩
variable {b:Addr}
def Na{o:HO}(e:H a=some o)(h:H b=none):b≠a:=(AM e h).symm
variable {Y:Hp}
def Ff{D:Addr}{o:HO}(s:Ad H Y)(a:H D=none):Ad H (upd Y D o):=λb z e=>by rw[Ax (AM e a)];exact s b z e
variable {v:V}{g:TG}{σ:St}
def FI{K:Ah}{tb:TS}{D:Ends}(d:Ag K H a [v])
 (e:g v σ H λσ2 U=>tb {D with nx:=λσ H=>Ag K H a [v]/\D.nx σ H,ct:=λσ H=>Ag K H a [v]/\D.nx σ H,bk:=D.nx} σ2 U):Fy (Ez K a) g tb D σ H:=by
 refine EJ (xs:=[v]) (λi σ' b=>match i with|0=>σ'=σ/\b=H|_+1=>Ag K b a [v]/\D.nx σ' b) ⟨rfl,rfl⟩ ?_ ?_ (λσ H p=>p.2)
 intro i σ' b _ p
 cases i with
 |zero=>obtain⟨_,rfl⟩:=p;exact d
 |succ n=>exact p.1
 intro i x σ' b c p;cases i with|zero=>obtain⟨rfl,rfl⟩:=p;cases c;exact e|succ n=>simp at c
def Qn{K:Ah}{k:Nat}{s:O'}{te:TE}{Q:Addr->Hp->Prop}(t:Ag K Y a [v])
 (u:∀D(R:VK),Y D=none->(∀y d,d D=some (.lst [])->Ag K (upd d D (.lst [y])) a [v]->Q D (upd d D (.lst [y]))->R y d)->g v (Cr k s σ) (upd Y D (.lst [])) λσ4 h=>te σ4 h R) :
 ∀D,Y D=none->∃W:Nat->Nat->R'->Hp->Prop,(∃m,W 0 m [] (upd Y D (.lst [])))/\∀i m c U,W i m c U ->
  ((Ez K a).stop i U/\Q D U)\/((Ez K a).go i U/\∀x l,(Ez K a).yld i U x l->g x (Cr k s σ) l λσ4 h=>DO σ4 h λb o =>
   if b=true then te σ4 o λy d=>d D=some (.lst c)/\c.length<sizeLine/\∃e,e<m/\W (i+1) e (c++[y]) (upd d D (.lst (c++[y]))) else ∃e,e<m/\W (i+1) e c o):=by
 refine M5 (xs:=[v]) (λD i c f=>match i with|0=>c=[]/\f=upd Y D (.lst [])/\Ag K f a [v]|_+1=>Ag K f a [v]/\Q D f) (λD j=>⟨rfl,rfl,(AJ j).seq t⟩) ?_ ?_ (λD c U _ p=>p.2)
 intro D i c U p
 cases i with
 |zero=>exact p.2.2
 |succ n=>exact p.1
 intro D i x c U R j r p q;cases i with|zero=>obtain⟨rfl,rfl,_⟩:=p;cases r;exact u D R j λy d w z A=>q y d w (BQ (A9 _)) ⟨z,A⟩|succ n=>simp at r
def SI{ss:G'}{x:Str}(h:ss.Perm [x]):ss=[x]:=List.perm_singleton.mp h
section
variable {K:Ah} {M:Addr->Prop} {H H':Hp}
end
def VH{K:Ah}{xs:R'}{k:Nat}{r:O'}{tc:TT}{te:TE}{Q:Addr->Hp->Prop}(Pv:Addr->Nat->R'->Hp->Prop)
 (s:∀D,Y D=none->Pv D 0 [] (upd Y D (.lst []))) (t:∀D i c U,Pv D i c U->Ag K U a xs)
 (u:∀D i x c U(R:VK)(q:Hp->Prop),Y D=none->xs[i]?=some x->Pv D i c U->(∀y f,f D=some (.lst c)->c.length<sizeLine->Pv D (i+1) (c++[y]) (upd f D (.lst (c++[y])))->R y f)->(∀d,Pv D (i+1) c d->q d)->g x (Cr k r σ) U λσ4 l=>tc σ4 l λb d=>if b=true then te σ4 d R else q d)
 (hd:∀D c U,Y D=none->Pv D xs.length c U->Q D U) :
 ∀D,Y D=none->∃W:Nat->Nat->R'->Hp->Prop,(∃m,W 0 m [] (upd Y D (.lst [])))/\∀i m c U,W i m c U ->
  ((Ez K a).stop i U/\Q D U)\/((Ez K a).go i U/\∀x j,(Ez K a).yld i U x j->g x (Cr k r σ) j λσ4 l=>tc σ4 l λb d =>
   if b=true then te σ4 d λy f=>f D=some (.lst c)/\c.length<sizeLine/\∃h,h<m/\W (i+1) h (c++[y]) (upd f D (.lst (c++[y]))) else ∃h,h<m/\W (i+1) h c d):=by
 intro D n;refine⟨λi m c U=>m=xs.length-i/\i<=xs.length/\Pv D i c U,⟨xs.length,rfl,A9 _,s D n⟩,?_⟩;rintro i m c U ⟨rfl,E,p⟩;have Z:=t D i c U p;by_cases o:i<xs.length;refine .inr ⟨⟨xs,xs[i],Z,by simp[o]⟩,λx j y=>?_⟩;obtain⟨rfl,y⟩:=y;have w:=y xs Z;refine u D i x c j _ _ n w p (λv f z A B=>?_) (λd C=>?_);exact⟨z,A,xs.length-(i+1),by omega,rfl,o,B⟩;exact⟨xs.length-(i+1),by omega,rfl,o,C⟩;have e:i=xs.length:=(by omega);subst e;exact .inl ⟨⟨xs,Z,Aw _⟩,hd D c U n p⟩
open PySem.SeqAt
open PySem.AutoSeq1 (wpAny_loadPart')
open PySem.MeetsSeq PySem.MeetsSeq2 PySem.MeetsSeq3
def BN (A:Around) (s:Shared) (x y:Value) (b:Bool):Prop:=
 ∀(prog:Program)(w:World)(E:B')(Q:B'),Q (.bool b) s->wpAny (model prog w) A (richCompare .Lt x y) Q E s
inductive Bp (A:Around) (s:Shared):E'->E'->Bool->Prop where
 |nil:Bp A s [] [] false
 |lt (w:Value) (ws:E'):Bp A s [] (w::ws) true
 |gt (v:Value) (vs:E'):Bp A s (v::vs) [] false
 |eq {v w:Value} {vs ws:E'} {b:Bool} (h:EqAt A s v w true) (t:Bp A s vs ws b):Bp A s (v::vs) (w::ws) b
 |ne {v w:Value} {vs ws:E'} {b:Bool} (h:EqAt A s v w false) (l:BN A s v w b):Bp A s (v::vs) (w::ws) b
def VI(l b:Addr)(m e:L')(n F:Nat)(dd j:Option Addr)(G N:Array (J'))(c:Bool) :
 Meets (Builtin.«tuple.__lt__» ⟨[.ref l,.ref b],[]⟩)
  (λA R s=>s.heap.get? l=some {cls:=.type "tuple",dict:=dd,data:=.seq m n,slots:=G}/\s.heap.get? b=some {cls:=.type "tuple",dict:=j,data:=.seq e F,slots:=N} /\
   Bp A.in1 s m.toList e.toList c/\R (.ok (.ret (.bool c))) s):=
 .of_wp λB w A R s h=>by
  obtain⟨C,g,d,L,D⟩:=s;obtain⟨H,I,f,h⟩:=h;have P:=AutoSeq1.sub_tuple_tuple
  wp_walk using wpAny_loadPart' H,wpAny_loadPart' I,wpAny_forIn_list _ (λp b q=>b.1=none/\q=⟨C,g,d,L,D⟩/\∃(i k:E'),p=i.zip k /\
   Bp A.in1 ⟨C,g,d,L,D⟩ i k c/\i.length+e.size=k.length+m.size) _
  case turn =>
   rintro⟨y,x⟩ p b q ⟨u,rfl,i,k,a,v,o⟩
   cases v with
   |nil=>rw[List.zip_nil_left] at a;cases a
   |lt=>rw[List.zip_nil_left] at a;cases a
   |gt=>rw[List.zip_nil_right] at a;cases a
   |eq r J=>
    rw[List.zip_cons_cons] at a;injection a with z E;injection z with t f;subst t f;simp only[Ej] at o;refine Ac (r B w _ _ ?_)
    wp_walk
    exact⟨rfl,rfl,_,_,E,J,by omega⟩
   |ne r K=>
    rw[List.zip_cons_cons] at a;injection a with z E;injection z with t f;subst t f;refine Ac (r B w _ _ ?_);have O:=K B w
    wp_walk using O
    exact⟨_,rfl,by simpa using h⟩
  case fin =>
   rintro⟨Q,S⟩ q ⟨u,rfl,i,k,a,v,o⟩;simp only at u;subst u
   have M:c=decide (m.size<e.size):=by
    cases v with|nil=>simp only[EG] at o;exact(BZ (by omega)).symm|lt=>simp only[EG,Ej] at o;exact(B2 (by omega)).symm|gt=>simp only[EG,Ej] at o;exact(BZ (by omega)).symm|eq=>rw[List.zip_cons_cons] at a;cases a|ne=>rw[List.zip_cons_cons] at a;cases a
   rw[M] at h
   wp_walk
   exact⟨_,rfl,by simpa [Builtin.Tuple.tupleCompareSizes] using h⟩
  case h =>
   exact⟨rfl,rfl,m.toList,e.toList,rfl,f,by simp[Nat.add_comm]⟩
def VJ(l b:Addr)(m e:L')(n D:Nat)(dd j:Option Addr)(E O:Array (J'))(c:Bool)(k:Nat) :
 ∀i:Nat,m.size-i=k->i<=m.size->i<=e.size->Meets (Builtin.«list.__eq__.loop» ⟨[.ref l,.ref b,rawInt i,rawInt 0],[]⟩)
  (λA R s=>s.heap.get? l=some {cls:=.type "list",dict:=dd,data:=.seq m n,slots:=E}/\s.heap.get? b=some {cls:=.type "list",dict:=j,data:=.seq e D,slots:=O} /\
   Bp A.in1 s (m.toList.drop i) (e.toList.drop i) c/\R (.ok (.ret (.bool c))) s):=by
 induction k with
 |zero=>
  intro i F G P t w A R s h;obtain⟨H,g,d,L,I⟩:=s;obtain⟨f,o,a,h⟩:=h;have v:m.toList.drop i=[]:=by simp;omega
  rw[v] at a
  have x:c=decide (m.size<e.size):=by
   generalize p:e.toList.drop i=r at a;have y:=De List.length p;simp only[Ex,Array.length_toList] at y;cases a with|nil=>simp only[EG] at y;exact(BZ (by omega)).symm|lt=>simp only[Ej] at y;exact(B2 (by omega)).symm
  wp_walk using wpAny_loadPart' f,wpAny_loadPart' o
  have q:m[((i:Nat):Int).toNat]?=none:=by simp;omega
  rw[q]
  wp_walk using wpAny_loadPart' f,wpAny_loadPart' o
  show R (.ok (.ret (.bool (decide (m.size<e.size))))) _;rw[<-x];exact h
 |succ k J=>
  intro i F G P t w A R s h;obtain⟨H,g,d,L,I⟩:=s;obtain⟨f,o,a,h⟩:=h;have B:i<m.size:=(by omega);have q:m[((i:Nat):Int).toNat]?=some m[i]:=(by simp[B]);have v:m.toList.drop i=m[i]::m.toList.drop (i+1):=(by simp[Mq,B]);rw[v] at a
  wp_walk using wpAny_loadPart' f,wpAny_loadPart' o
  by_cases C:i<e.size;have u:e[((i:Nat):Int).toNat]?=some e[i]:=(by simp[C]);have p:e.toList.drop i=e[i]::e.toList.drop (i+1):=(by simp[Mq,C]);have K:((i:Int)+1)=((i+1:Nat):Int):=by push_cast;rfl
  rw[p] at a;rw[q,u]
  cases a with
  |eq z M=>
   refine Ac (z t w _ _ ?_)
   wp_walk
   rw[K]
   exact⟨plainId_quiet plain_eq_loop _,codeAny_builtin entry_eq_loop (by
    rw[u4 plain_eq_loop _];exact J (i+1) (by omega) (by omega) (by omega) t w A R _ ⟨f,o,M,h⟩)⟩
  |ne z N=>
   refine Ac (z t w _ _ ?_);have Q:=N t w
   wp_walk using wpAny_loadPart' f,wpAny_loadPart' o
   rw[q,u]
   wp_walk using Q
   exact h
  have u:e[((i:Nat):Int).toNat]?=none:=by simp;omega
  have p:e.toList.drop i=[]:=by simp;omega
  rw[p] at a;have x:c=decide (m.size<e.size):=(by cases a;exact(BZ (by omega)).symm);rw[q,u]
  wp_walk using wpAny_loadPart' f,wpAny_loadPart' o
  show R (.ok (.ret (.bool (decide (m.size<e.size))))) _;rw[<-x];exact h
def SJ(l b:Addr)(m e:L')(n a:Nat)(dd j:Option Addr)(f o:Array (J'))(c:Bool) :
 Meets (Builtin.«list.__lt__» ⟨[.ref l,.ref b],[]⟩)
  (λA R s=>s.heap.get? l=some {cls:=.type "list",dict:=dd,data:=.seq m n,slots:=f}/\s.heap.get? b=some {cls:=.type "list",dict:=j,data:=.seq e a,slots:=o} /\
   Bp A.in1 s m.toList e.toList c/\R (.ok (.ret (.bool c))) s):=by
 intro q w A R s h;obtain⟨r,g,d,L,t⟩:=s;obtain⟨i,k,p,h⟩:=h;have u:=AutoSeq1.sub_list_list
 wp_walk using wpAny_loadPart' i,wpAny_loadPart' k
 exact⟨plainId_quiet plain_eq_loop _,codeAny_builtin entry_eq_loop (by
  rw[u4 plain_eq_loop _];exact VJ l b m e n a dd j f o c _ 0 rfl (A9 _) (A9 _) q w A R _ ⟨i,k,by simpa using p,h⟩)⟩
section
variable {A:Around} {s:Shared}
variable {l:Addr}{m e:L'}
def BN.tuples{c:Bool}(k:IsTup s.heap l m)(o:IsTup s.heap b e)(p:Bp A.in1 s m.toList e.toList c)(q:A.units<cLine):BN A s (.ref l) (.ref b) c:=λz w E Q h=>by
 obtain⟨⟨y,r,B,t⟩,a,d,n,hd⟩:=id k;obtain⟨⟨C,j,data2,v⟩,f,g,u,i⟩:=id o;simp only at d hd g i;subst d hd g i
 exact richCompare_meets_room (op:=.Lt) ⟨_,a,rfl⟩ ⟨_,f,rfl⟩ PySem.F.slot_tuple_lt PySem.F.entry_tuple_lt (PySem.F.args_tuple_lt_2 _ _) (VI l b m e n u r j t v c)
  ⟨a,f,p,show Value.bool c≠Value.notImplemented/\Q (.bool c) s from⟨(λx=>nomatch x),h⟩⟩ q
def BN.lists{c:Bool}(k:s.heap.IsList l m)(o:s.heap.IsList b e)(p:Bp A.in1 s m.toList e.toList c)(q:A.units<cLine):BN A s (.ref l) (.ref b) c:=λz w E Q h=>by
 obtain⟨⟨y,r,B,t⟩,a,d,n,hd⟩:=id k;obtain⟨⟨C,j,data2,v⟩,f,g,u,i⟩:=id o;simp only at d hd g i;subst d hd g i
 exact richCompare_meets_room (op:=.Lt) ⟨_,a,rfl⟩ ⟨_,f,rfl⟩ PySem.F.slot_list_lt PySem.F.entry_list_lt (PySem.F.args_list_lt_2 _ _) (SJ l b m e n u r j t v c)
  ⟨a,f,p,show Value.bool c≠Value.notImplemented/\Q (.bool c) s from⟨(λx=>nomatch x),h⟩⟩ q
def SM{prog:Program}{w:World}{E:B'}{c:Bool}{Q:Bool->Shared->Prop}(i:s.heap.IsList l m)(k:s.heap.IsList b e)(o:Bp A.in1 s m.toList e.toList c)(p:A.units<cLine)(h:Q c s) :
 wpAny (model prog w) A (oneLt' true (.ref l) (.ref b)) Q E s:=by
 obtain⟨⟨x,q,y,r⟩,a,d,n,hd⟩:=id i;obtain⟨⟨z,j,data2,u⟩,v,f,t,g⟩:=id k;simp only at d hd f g;subst d hd f g;rw[oneLt'_eq];simp only[if_true];refine Ac (wpAny_cRoomFor p ?_);refine Ac (wpAny_callSpecialIfBound?_slot (T:= "list") ⟨_,a,rfl⟩ PySem.F.slot_list_lt (call_meets PySem.F.slot_list_lt ⟨_,a,rfl⟩ PySem.F.entry_list_lt (PySem.F.args_list_lt_2 _ _) (SJ l b m e n t q j r u c) ⟨a,v,o,?_⟩));exact El h
end
def DT (O:KeyOrd):List O.α->List O.α->Bool
 |[],[]=>false
 |[],_::_=>true
 |_::_,[]=>false
 |x::xs,y::ys=>O.blt x y || (!O.blt y x && DT O xs ys)
def Kx(O:KeyOrd)(x y:O.α)(xs a:List O.α):DT O (x::xs) (y::a)=(O.blt x y || (!O.blt y x && DT O xs a)):=rfl
theorem SN(O:KeyOrd):∀xs,DT O xs xs=false
 |[]=>rfl
 |x::xs=>by rw[Kx,O.irrefl,SN O xs];rfl
theorem SO(O:KeyOrd):∀xs c zs,DT O xs c=true->DT O c zs=true->DT O xs zs=true
 |[],[],_,h,_=>by cases h
 |[],_::_,[],_,k=>by cases k
 |[],_::_,_::_,_,_=>rfl
 |_::_,[],_,h,_=>by cases h
 |_::_,_::_,[],_,k=>by cases k
 |x::xs,y::c,z::zs,a,b=>by
   rw[Kx] at *;simp only[Bool.or_eq_true,Bool.and_eq_true,Bool.not_eq_true'] at a b ⊢;rcases a with a|⟨a,k1⟩<;>rcases b with b|⟨b,k2⟩;exact .inl (O.trans _ _ _ a b);exact .inl (KeyOrd.klt_of_klt_of_kle a b);exact .inl (KeyOrd.klt_of_kle_of_klt a b);exact .inr ⟨KeyOrd.kle_trans (O:=O) a b,SO O xs c zs k1 k2⟩
theorem SQ(O:KeyOrd):∀xs a zs,DT O xs zs=true->DT O xs a=true\/DT O a zs=true
 |[],[],[],h=>by cases h
 |[],[],_::_,_=>.inr rfl
 |[],_::_,_,_=>.inl rfl
 |_::_,_,[],h=>by cases h
 |_::_,[],_::_,_=>.inr rfl
 | x :: xs,y :: a,z :: zs,h=>by
   rw[Kx] at *;rw[Kx];simp only[Bool.or_eq_true,Bool.and_eq_true,Bool.not_eq_true'] at h ⊢;rcases h with h|⟨h,k⟩;rcases O.negTrans _ y _ h with h|h;exact .inl (.inl h);exact .inr (.inl h)
   cases c:O.blt x y with
   |true=>exact .inl (.inl rfl)
   |false=>
    cases d:O.blt y z with
    |true=>exact .inr (.inl rfl)
    |false=>have e:O.kle y x:=c;have f:O.kle z y:=d;have b:O.kle x z:=h;have g:O.blt y x=false:=KeyOrd.kle_trans (O:=O) b f;have i:O.blt z y=false:=KeyOrd.kle_trans (O:=O) e b;rcases SQ O xs a zs k with k|k;exact .inl (.inr ⟨g,k⟩);exact .inr (.inr ⟨i,k⟩)
theorem SR(O:KeyOrd):∀xs a,DT O xs a=false->DT O a xs=false->xs=a
 |[],[],_,_=>rfl
 |[],_::_,h,_=>by cases h
 |_::_,[],_,k=>by cases k
 |x::xs,y::a,b,c=>by rw[Kx] at b c;simp only[Bool.or_eq_false_iff,Bool.and_eq_false_iff,Bool.not_eq_false'] at b c;have d:x=y:=O.total _ _ b.1 c.1;have e:xs=a:=SR O xs a (by rcases b.2 with z|z;exact absurd (c.1.symm.trans z) (by simp);exact z) (by rcases c.2 with z|z;exact absurd (b.1.symm.trans z) (by simp);exact z);rw[d,e]
@[reducible] def Nb (O:KeyOrd):KeyOrd where
 α:=List O.α
 blt:=DT O
 irrefl:=SN O
 trans:=SO O
 negTrans:=SQ O
 total:=SR O
def L9{P:KeyOrd}(x y:(Br O P).α)(e:x.1=y.1):(Br O P).blt x y=P.blt x.2 y.2:=by show(O.blt x.1 y.1 || (!O.blt y.1 x.1 && P.blt x.2 y.2))=_;rw[e,O.irrefl];rfl
def Ky{P:KeyOrd}(x y:(Br O P).α)(e:x.1≠y.1):(Br O P).blt x y=O.blt x.1 y.1:=by
 show(O.blt x.1 y.1 || (!O.blt y.1 x.1 && P.blt x.2 y.2))=_
 cases a:O.blt x.1 y.1 with
 |true=>rfl
 |false=>
  cases b:O.blt y.1 x.1 with|true=>rfl|false=>exact absurd (O.total _ _ a b) e
def VL(x:O.α)(xs a:List O.α):DT O (x::xs) (x::a)=DT O xs a:=by rw[Kx,O.irrefl];rfl
def VM{x y:O.α}(xs a:List O.α)(e:x≠y):DT O (x::xs) (y::a)=O.blt x y:=by
 rw[Kx]
 cases b:O.blt x y with
 |true=>rfl
 |false=>
  cases c:O.blt y x with|true=>rfl|false=>exact absurd (O.total _ _ b c) e
mutual
theorem DS.mono {n m:Nat}{d e:Dt} (c:DS n d e) (h:n<=m):DS m d e:=by
 cases c with
 | non=>exact .non
 | bl a b=>exact .bl a b
 | int a b=>exact .int a b
 | str a b=>exact .str a b
 | tup t=>cases m with
   | zero=>exact absurd h (Nat.not_succ_le_zero _)
   | succ m=>exact .tup (Cj.mono t (Nat.le_of_succ_le_succ h))
 | lst t=>cases m with
   | zero=>exact absurd h (Nat.not_succ_le_zero _)
   | succ m=>exact .lst (Cj.mono t (Nat.le_of_succ_le_succ h))
 | apart a=>cases m with
   | zero=>exact absurd h (Nat.not_succ_le_zero _)
   | succ m=>exact .apart a
theorem Cj.mono {n m:Nat}{a es:List Dt} (c:Cj n a es) (h:n<=m):Cj m a es:=by
 cases c with| nil=>exact .nil _| nil'=>exact .nil' _| cons c t=>exact .cons (DS.mono c h) (Cj.mono t h)
end
structure Enc where
 O:KeyOrd
 D:O.α->Dt
 dflt:O.α
 dep:Nat
 cmp:∀a b,DS dep (D a) (D b)
 inj:∀a b,D a=D b->a=b
 lt:∀{X:Cx}{pins:A'}{σ:St}{H:Hp}{s:Shared},Inv X pins σ H s->∀{a b:O.α}{v u:V}{x y:Value}{A:Around},Av X.K H v (D a)->Av X.K H u (D b)->RelV v x->RelV u y->A.units+dep<cLine->BN A s x y (O.blt a b)
section
variable {X:Cx} {pins:A'} {σ:St} {H:Hp} {s:Shared}
def Enc.eq(c:Enc)(I:Inv X pins σ H s){a b:c.O.α}{u:V}{x y:Value}{A:Around}(hv:Av X.K H v (c.D a))(d:Av X.K H u (c.D b))(e:RelV v x)(f:RelV u y)(g:A.units+c.dep<cLine):EqAt A s x y (dec (a=b)):=by
 have:=Sq (A:=A) I (c.cmp a b) hv d e f g
 rwa [L6 (p:=c.D a=c.D b) (q:=a=b) ⟨c.inj a b,λz=>by rw[z]⟩] at this
def Enc.lex(c:Enc)(I:Inv X pins σ H s){a b:c.O.α}{u:V}{x y:Value}{A:Around}{vs h:E'}{e f:Bool}(hv:Av X.K H v (c.D a))(i:Av X.K H u (c.D b))(j:RelV v x)(k:RelV u y)(l:A.units+c.dep<cLine)(m:a=b->Bp A s vs h e/\f=e)(n:a≠b->f=c.O.blt a b):Bp A s (x::vs) (y::h) f:=by have d:=c.eq (A:=A) I hv i j k l;by_cases g:a=b;rw[Em g] at d;obtain⟨t,rfl⟩:=m g;exact .eq d t;rw[FF g] at d;rw[n g];exact .ne d (c.lt I hv i j k l)
end
@[reducible] def ET:Enc where
 O:=FG
 D:=Dt.int
 dflt:=(0:Int)
 dep:=0
 cmp a b:=.int a b
 inj a b h:=Dt.int.inj h
 lt {X pins σ H s} I {a b v u x y A} hv hu rx ry _:=by cases hv;cases hu;obtain⟨t,rfl⟩:=rx;obtain⟨t',rfl⟩:=ry;exact λprog w E Q h=>(PySem.P.lt_int h:wpAny (model prog w) _ (compareOp .Lt _ _) Q E _)
@[reducible] def Qo:Enc where
 O:=Dp
 D:=Dt.str
 dflt:=(default:Str)
 dep:=0
 cmp a b:=.str a b
 inj a b h:=Dt.str.inj h
 lt {X pins σ H s} I {a b v u x y A} hv hu rx ry _:=by cases hv;cases hu;obtain⟨t,rfl⟩:=rx;obtain⟨t',rfl⟩:=ry;exact λprog w E Q h=>(PySem.P.lt_str h:wpAny (model prog w) _ (compareOp .Lt _ _) Q E _)
section
variable {X:Cx} {pins:A'} {σ:St} {H:Hp} {s:Shared}
def Enc.lexL(c:Enc)(I:Inv X pins σ H s){A:Around}(m:A.units+c.dep<cLine):∀{d bs:List c.O.α}{vs i:R'}{xs j:E'},AF X.K H vs (d.map c.D)->AF X.K H i (bs.map c.D)->Am vs xs->Am i j->Bp A s xs j (DT c.O d bs):=by
 intro d
 induction d with
 |nil=>
  intro bs vs i xs j k f l g;cases k;cases l;cases bs with|nil=>cases f;cases g;exact .nil|cons b bs=>cases f;cases g;exact .lt _ _
 |cons a d n=>
  intro bs vs i xs j k f l g
  cases k with
  |cons h t=>cases l with
    |cons r q=>cases bs with
      |nil=>cases f;cases g;exact .gt _ _
      |cons b bs=>cases f with
        |cons o p=>cases g with
          |cons u v=>exact c.lex I h o r u m (λe=>⟨n t p q v,by subst e;exact VL a d bs⟩) (λe=>VM d bs e)
end
theorem SS(c:Enc):∀{a b:List c.O.α},a.map c.D=b.map c.D->a=b
 |[],[],_=>rfl
 |[],_::_,h=>by cases h
 |_::_,[],h=>by cases h
 |x::a,y::b,h=>by rw[D1,D1] at h;injection h with d e;rw[c.inj x y d,SS c e]
@[reducible] def DK (c:Enc):Enc where
 O:=Nb c.O
 D l:=Dt.lst (l.map c.D)
 dflt:=([]:List c.O.α)
 dep:=c.dep+1
 cmp a b:=.lst (Cj.of λd hd e he=>by
  obtain⟨x,_,rfl⟩:=CU.mp hd;obtain⟨y,_,rfl⟩:=CU.mp he;exact c.cmp x y)
 inj a b h:=SS c (Dt.lst.inj h)
 lt {X pins σ H s} I {a b v u x y A} hv hu rx ry hA:=by
  cases hv with
  |lst h t=>
   cases hu with|lst h' t'=>cases rx;cases ry;obtain⟨its,r,p,_⟩:=I.list h;obtain⟨its',r',p',_⟩:=I.list h';exact BN.lists p.isList p'.isList (c.lexL (A:=A.in1) I (by rw[Hi];omega) t t' r r') (by omega)
def Kz{K:Ah}{vs:R'}{d e:Dt}(h:AF K H vs [d,e]):∃a b,vs=[a,b]/\Av K H a d/\Av K H b e:=by
 cases h with
 |cons c t=>cases t with
   |cons f t=>cases t;exact⟨_,_,rfl,c,f⟩
def Nc{K:Ah}{vs:R'}{d e f:Dt}(h:AF K H vs [d,e,f]):∃a b c,vs=[a,b,c]/\Av K H a d/\Av K H b e/\Av K H c f:=by
 cases h with|cons g t=>obtain⟨a,b,rfl,i,j⟩:=Kz t;exact⟨_,_,_,rfl,g,i,j⟩
def GF{x y z:V}{c:E'}(r:Am [x,y,z] c):∃u w v,c=[u,w,v]/\RelV x u/\RelV y w/\RelV z v:=by
 cases r with|cons d e=>obtain⟨a,b,rfl,f,g⟩:=He e;exact⟨_,_,_,rfl,d,f,g⟩
@[reducible] def Ma (c d:Enc):Enc where
 O:=Br c.O d.O
 D p:=Dt.tup [c.D p.1,d.D p.2]
 dflt:=(c.dflt,d.dflt)
 dep:=max c.dep d.dep+1
 cmp a b:=.tup (.cons ((c.cmp a.1 b.1).mono (Nat.le_max_left _ _)) (.cons ((d.cmp a.2 b.2).mono (Nat.le_max_right _ _)) (.nil _)))
 inj a b h:=by injection h with h;injection h with h1 h2;injection h2 with h2 _;exact Prod.ext (c.inj _ _ h1) (d.inj _ _ h2)
 lt {X pins σ H s} I {a b v u x y A} hv hu rx ry hA:=by
  have m1:=Nat.le_max_left c.dep d.dep;have m2:=Nat.le_max_right c.dep d.dep
  cases hv with
  |tup h t=>
   cases hu with|tup h' t'=>cases rx;cases ry;obtain⟨its,r,p,_⟩:=I.tuple h;obtain⟨its',r',p',_⟩:=I.tuple h';obtain⟨v1,v2,rfl,t1,t2⟩:=Kz t;obtain⟨u1,u2,rfl,s1,s2⟩:=Kz t';obtain⟨x1,x2,rfl,r1,r2⟩:=He r;obtain⟨y1,y2,rfl,q1,Z⟩:=He r';refine BN.tuples p p' (c.lex (A:=A.in1) I t1 s1 r1 q1 (by rw[Hi];omega) (λe=>⟨d.lex (A:=A.in1) I t2 s2 r2 Z (by rw[Hi];omega) (λe'=>⟨.nil,?_⟩) λe'=>rfl,L9 a b e⟩) λe=>Ky a b e) (by omega);rw[e',d.O.irrefl]
@[reducible] def Jh (c d e:Enc):Enc where
 O:=Br c.O (Br d.O e.O)
 D p:=Dt.tup [c.D p.1,d.D p.2.1,e.D p.2.2]
 dflt:=(c.dflt,d.dflt,e.dflt)
 dep:=max c.dep (max d.dep e.dep)+1
 cmp a b:=.tup (.cons ((c.cmp a.1 b.1).mono (Nat.le_max_left _ _)) (.cons ((d.cmp a.2.1 b.2.1).mono (by omega)) (.cons ((e.cmp a.2.2 b.2.2).mono (by omega)) (.nil _))))
 inj a b h:=by injection h with h;injection h with h1 h2;injection h2 with h2 h3;injection h3 with h3 _;exact Prod.ext (c.inj _ _ h1) (Prod.ext (d.inj _ _ h2) (e.inj _ _ h3))
 lt {X pins σ H s} I {a b v u x y A} hv hu rx ry hA:=by
  have m1:=Nat.le_max_left c.dep (max d.dep e.dep);have m2:=Nat.le_max_right c.dep (max d.dep e.dep);have m3:=Nat.le_max_left d.dep e.dep;have m4:=Nat.le_max_right d.dep e.dep
  cases hv with
  |tup h t=>
   cases hu with|tup h' t'=>cases rx;cases ry;obtain⟨its,r,p,_⟩:=I.tuple h;obtain⟨its',r',p',_⟩:=I.tuple h';obtain⟨v1,v2,v3,rfl,t1,t2,t3⟩:=Nc t;obtain⟨u1,u2,u3,rfl,s1,s2,s3⟩:=Nc t';obtain⟨x1,x2,x3,rfl,r1,r2,r3⟩:=GF r;obtain⟨y1,y2,y3,rfl,q1,Z,q3⟩:=GF r';refine BN.tuples p p' (c.lex (A:=A.in1) I t1 s1 r1 q1 (by rw[Hi];omega) (λg=>⟨d.lex (A:=A.in1) I t2 s2 r2 Z (by rw[Hi];omega) (λg'=>⟨e.lex (A:=A.in1) I t3 s3 r3 q3 (by rw[Hi];omega) (λg''=>⟨.nil,?_⟩) λ_=>rfl,L9 a.2 b.2 g'⟩) λg'=>Ky a.2 b.2 g',L9 a b g⟩) λg=>Ky a b g) (by omega);rw[g'',e.O.irrefl]
end L2
local macro_rules | `(tactic| walk_at "z") => `(tactic| (extract_lets -underBinder -merge -useContext +onlyGivenNames zq; subst zq))
local macro_rules | `(tactic| walk_at "d") => `(tactic| try dsimp -zeta only)
namespace Tim
set_option tactic.hygienic true
open PySem PySem.W PyProof.Rows
def SU:Bool->Keyed->Array Keyed->Nat->Nat->Nat->StateT SortSt Sem (Option Nat):=sortPriv% PySem.Builtin.gallop
def SV(k:Keyed)(a:Array Keyed):True:=by
 fun_cases (sortPriv% PySem.Builtin.gallop) true k a 0 1 0
 all_goals trivial
section
variable {prog:Program} {w:World} {A:Around} {E:B'} {s:Shared} {O:KeyOrd} {key:Nat->O.α} {κ:SortKind} {it:Array Keyed} {N:Nat}
def Asks (prog:Program) (w:World) (A:Around) (s:Shared) (O:KeyOrd) (key:Nat->O.α) (κ:SortKind) (it:Array Keyed) (N:Nat):Prop:=∀(i j:Nat)(C:Bool->Shared->Prop),i<N->j<N->C (O.blt (key i) (key j)) s->kas_cmp prog w A κ it i j C s
variable {st:SortSt}
def w_lt(hc:Asks prog w A s O key κ it N){i j:Nat}{Q:Option Bool->SortSt->Prop}(hi:i<N)(hj:j<N)(hk:kindOf st=κ)(h:Q (some (O.blt (key i) (key j))) st):wpS (model prog w) A E s (lt' (kas_item it i) (kas_item it j)) Q st:=by rw[lt'_eq];refine wpS_bind (wpS_get ?_);rw[hk];refine wpS_bind (wpS_lift (wpAny_attempt (Do (hc i j (λb s'=>s'=s/\b=O.blt (key i) (key j)) hi hj ⟨rfl,rfl⟩) (λb s'⟨e1,e2⟩=>⟨e1,?_⟩) λ_ _ x=>x.elim)));rw[e2];exact wpS_pure h
def Mb{p:P'}{i:Nat}{Q:Keyed->SortSt->Prop}(hi:i<p.size)(h:Q (kas_item it (p.getD i 0)) st):wpS (model prog w) A E s (elem' (p.map (kas_item it)) i) Q st:=by rw[elem'_eq];have e:(p.map (kas_item it))[i]?=some (kas_item it (p.getD i 0)):=(by simp[hi]);rw[e];exact wpS_pure h
def Mc(hc:Asks prog w A s O key κ it N){left:Bool}{k:Nat}{p:P'}{base n hint:Nat}{Q:Option Nat->SortSt->Prop}(hk:k<N)(hp:∀i,i<p.size->p.getD i 0<N)(hb:base+n<=p.size)(hh:hint<n)(hkd:kindOf st=κ)
 (P:Nat->Bool) (hP:∀i,i<n->P i=if left=true then O.blt (key (p.getD (base+i) 0)) (key k) else !O.blt (key k) (key (p.getD (base+i) 0))) (anti:∀i j,i<=j->j<n->P j=true->P i=true)
 (h:∀r,r<=n->(∀i,i<r->P i=true)->(∀i,r<=i->i<n->P i=false)->Q (some r) st):wpS (model prog w) A E s (SU left (kas_item it k) (p.map (kas_item it)) base n hint) Q st:=by
 have af:∀i j,i<=j->j<n->P i=false->P j=false:=λi j hij hj hi=>by
  cases e:P j with|false=>rfl|true=>rw[anti i j hij hj e] at hi;cases hi
 unfold SU;rw[(sortPriv% PySem.Builtin.gallop.eq_def)]
 extract_lets -underBinder -merge -useContext +onlyGivenNames beyond
 clear_value (hbe:beyond=_)
 have B:∀(i:Nat)(Q':Option Bool->SortSt->Prop),i<n->Q' (some (P i)) st->wpS (model prog w) A E s (beyond i) Q' st:=λi Q' hi q=>by
  rw[hbe];refine wpS_bind (Mb (by lia) ?_);cases left with|true=>rw[Ap rfl];refine w_lt hc (hp _ (by lia)) hk hkd ?_;have:=hP i hi;rw[Ap rfl] at this;rw[<-this];exact q|false=>rw[An B0];refine wpS_bind (w_lt hc hk (hp _ (by lia)) hkd (wpS_pure ?_));have:=hP i hi;rw[An B0] at this;show Q' (some (!_)) st;rw[<-this];exact q
 clear hbe
 walk_at "z"
 walk_at "z"
 walk_at "z"
 walk_at "z"
 walk_at "d"
 refine wpS_bind (B hint _ hh ?_)
 walk_at "d"
 extract_lets -underBinder -merge -useContext +onlyGivenNames jp
 clear_value (hjp:jp=_)
 have J:∀(x:Unit)(a b lo hi:Nat),lo<=hi->hi<=n->(∀i,i<lo->P i=true)->(∀i,hi<=i->i<n->P i=false)->wpS (model prog w) A E s (jp x a b lo hi) Q st:=λx a b lo hi h1 h2 h3 h4=>by
  rw[hjp]
  walk_at "d"
  refine wpS_bind (wpS_mono (wpS_forRange (I:=λx c st'=>st'=st/\∃l r,c=(none,l,r)/\l<=r/\r<=n/\r-l<=n-x/\(∀i,i<l->P i=true)/\(∀i,r<=i->i<n->P i=false))
   (Q:=λc st'=>st'=st/\∃l r,c=(none,l,r)/\r<=n/\(∀i,i<r->P i=true)/\(∀i,r<=i->i<n->P i=false)) ?_ ?_ ⟨rfl,lo,hi,rfl,h1,h2,by lia,h3,h4⟩) ?_)
  rintro x c st' _ hx ⟨rfl,l,r,rfl,a1,a2,a3,a4,a5⟩
  walk_at "z"
  walk_at "z"
  walk_at "z"
  walk_at "d"
  dsimp only;by_cases hge:l ≥ r;rw[Ap hge];obtain rfl:l=r:=by lia
  exact wpS_pure ⟨rfl,l,l,rfl,a2,a4,a5⟩;rw[An hge];refine wpS_bind (B _ _ (by lia) ?_);dsimp only
  cases e:P (l+(r-l)/2) with
  |true=>rw[Ap rfl];exact wpS_pure ⟨rfl,l+(r-l)/2+1,r,rfl,by lia,by lia,by lia,λi hi=>anti i (l+(r-l)/2) (by lia) (by lia) e,a5⟩
  |false=>rw[An B0];exact wpS_pure ⟨rfl,l,l+(r-l)/2,rfl,by lia,by lia,by lia,a4,λi hi hn=>af (l+(r-l)/2) i hi hn e⟩
  rintro c st' ⟨rfl,l,r,rfl,a1,a2,a3,a4,a5⟩;obtain rfl:l=r:=by lia
  exact⟨rfl,l,l,rfl,a2,a4,a5⟩;rintro c st' ⟨rfl,l,r,rfl,a2,a4,a5⟩;exact wpS_pure (h r a2 a4 a5)
 clear hjp
 cases e:P hint with
 |true=>
  rw[Ap rfl]
  walk_at "z"
  walk_at "d"
  refine wpS_bind (wpS_mono (wpS_forRange (I:=λx c st'=>st'=st/\∃l o,c=(none,l,o)/\l<o/\x+1<=o/\hint+l<n/\P (hint+l)=true)
   (Q:=λc st'=>st'=st/\∃l o,c=(none,l,o)/\l<o/\hint+l<n/\P (hint+l)=true/\(o<n-hint->P (hint+o)=false)) ?_ ?_ ⟨rfl,0,1,rfl,by lia,by lia,by lia,e⟩) ?_)
  rintro x c st' _ hx ⟨rfl,l,o,rfl,a1,a2,a3,a4⟩
  walk_at "z"
  walk_at "z"
  walk_at "z"
  walk_at "d"
  dsimp only;by_cases hge:o ≥ n-hint;rw[Ap hge];exact wpS_pure ⟨rfl,l,o,rfl,a1,a3,a4,λz=>by lia⟩;rw[An hge];refine wpS_bind (B _ _ (by lia) ?_);dsimp only
  cases e2:P (hint+o) with
  |false=>exact wpS_pure ⟨rfl,l,o,rfl,a1,a3,a4,λ_=>e2⟩
  |true=>exact wpS_pure ⟨rfl,o,2*o+1,rfl,by lia,by lia,by lia,e2⟩
  rintro c st' ⟨rfl,l,o,rfl,a1,a2,a3,a4⟩;exact⟨rfl,l,o,rfl,a1,a3,a4,λz=>by lia⟩;rintro c st' ⟨rfl,l,o,rfl,a1,a3,a4,a5⟩;refine J () l o (hint+l+1) (hint+min o (n-hint)) (by lia) (by lia) (λi hi=>anti i (hint+l) (by lia) a3 a4) (λi hi hn=>?_);by_cases ho:o<n-hint;exact af (hint+o) i (by lia) hn (a5 ho);lia
 |false=>
  rw[An B0]
  walk_at "z"
  walk_at "d"
  refine wpS_bind (wpS_mono (wpS_forRange (I:=λx c st'=>st'=st/\∃l o,c=(none,l,o)/\l<o/\x+1<=o/\l<=hint/\P (hint-l)=false)
   (Q:=λc st'=>st'=st/\∃l o,c=(none,l,o)/\l<o/\l<=hint/\P (hint-l)=false/\(o<hint+1->P (hint-o)=true)) ?_ ?_ ⟨rfl,0,1,rfl,by lia,by lia,by lia,e⟩) ?_)
  rintro x c st' _ hx ⟨rfl,l,o,rfl,a1,a2,a3,a4⟩
  walk_at "z"
  walk_at "z"
  walk_at "z"
  walk_at "d"
  dsimp only;by_cases hge:o ≥ hint+1;rw[Ap hge];exact wpS_pure ⟨rfl,l,o,rfl,a1,a3,a4,λz=>by lia⟩;rw[An hge];refine wpS_bind (B _ _ (by lia) ?_);dsimp only
  cases e2:P (hint-o) with
  |true=>exact wpS_pure ⟨rfl,l,o,rfl,a1,a3,a4,λ_=>e2⟩
  |false=>exact wpS_pure ⟨rfl,o,2*o+1,rfl,by lia,by lia,by lia,e2⟩
  rintro c st' ⟨rfl,l,o,rfl,a1,a2,a3,a4⟩;exact⟨rfl,l,o,rfl,a1,a3,a4,λz=>by lia⟩;rintro c st' ⟨rfl,l,o,rfl,a1,a3,a4,a5⟩;refine J () l o (hint+1-min o (hint+1)) (hint-l) (by lia) (by lia) (λi hi=>?_) (λi hi hn=>af (hint-l) i (by lia) hn a4);by_cases ho:o<hint+1;exact anti i (hint-o) (by lia) (by lia) (a5 ho);lia
end
end Tim
namespace Tim
set_option tactic.hygienic true
open PySem PySem.W PyProof.Rows
section
variable {R:Nat->Nat->Prop} {la lb:O'}
structure Mg (R:Nat->Nat->Prop) (la lb po:O') (ia ib:Nat):Prop where
 ha:ia<=la.length
 hb:ib<=lb.length
 pm:po.Perm (la.take ia++lb.take ib)
 so:po.Pairwise R
 le:∀x∈po,∀y∈la.drop ia++lb.drop ib,R x y
def VN{l:O'}(i k:Nat):l.take (i+k)=l.take i++(l.drop i).take k:=by rw[List.take_add]
variable {po:O'}{ia ib:Nat}
def Mg.pushA(h:Mg R la lb po ia ib)(sa:la.Pairwise R)(k:Nat)(hk:ia+k<=la.length)(hle:∀x∈(la.drop ia).take k,∀y∈lb.drop ib,R x y):Mg R la lb (po++(la.drop ia).take k) (ia+k) ib:=by have sd:(la.drop ia).Pairwise R:=sa.sublist (List.drop_sublist _ _);have spl:la.drop ia=(la.drop ia).take k++la.drop (ia+k):=(by rw[<-List.drop_drop,List.take_append_drop]);refine⟨hk,h.hb,?_,?_,?_⟩;rw[VN];refine(h.pm.append_right _).trans ?_;rw[E5,E5];exact List.Perm.append_left _ List.perm_append_comm;refine List.pairwise_append.mpr ⟨h.so,sd.sublist (List.take_sublist _ _),λx hx y hy=>h.le x hx y (Jv _ (List.mem_of_mem_take hy))⟩;intro x hx y hy;rcases CG.mp hx with hx|hx;refine h.le x hx y ?_;rcases CG.mp hy with hy|hy;exact Jv _ (by rw[spl];exact ED _ hy);exact ED _ hy;rcases CG.mp hy with hy|hy;rw[spl] at sd;exact(List.pairwise_append.mp sd).2.2 x hx y hy;exact hle x hx y hy
def Mg.swap(h:Mg R la lb po ia ib):Mg R lb la po ib ia:=
 ⟨h.hb,h.ha,h.pm.trans List.perm_append_comm,h.so,λx hx y hy=>h.le x hx y (CG.mpr (CG.mp hy).symm)⟩
def Mg.pushB(h:Mg R la lb po ia ib)(sb:lb.Pairwise R)(k:Nat)(hk:ib+k<=lb.length)(hle:∀x∈(lb.drop ib).take k,∀y∈la.drop ia,R x y):Mg R la lb (po++(lb.drop ib).take k) ia (ib+k):=
 (h.swap.pushA sb k hk hle).swap
def EU (R:Nat->Nat->Prop) (la lb pr:O'):Prop:=pr.Perm (la++lb)/\pr.Pairwise R
def Mg.endA(h:Mg R la lb po ia ib)(sa:la.Pairwise R)(e:ib=lb.length):EU R la lb (po++la.drop ia):=by have:=h.pushA sa (la.length-ia) (by have:=h.ha;lia) (λx hx y hy=>by rw[e,List.drop_length] at hy;simp at hy);rw[List.take_of_length_le (by rw[Ex];lia)] at this;have pm:=this.pm;rw[e,FQ,List.take_of_length_le (by have:=h.ha;lia)] at pm;exact⟨pm,this.so⟩
def Mg.endB(h:Mg R la lb po ia ib)(sb:lb.Pairwise R)(e:ia=la.length):EU R la lb (po++lb.drop ib):=by have:=h.swap.endA sb e;exact⟨this.1.trans List.perm_append_comm,this.2⟩
def Mg.last(h:Mg R la lb po ia ib)(sb:lb.Pairwise R)(e:ia+1=la.length)(hl:∀x∈lb,∀y∈la.drop ia,R x y):EU R la lb (po++lb.drop ib++la.drop ia):=by
 have h2:=h.pushB sb (lb.length-ib) (by have:=h.hb;lia) (λx hx y hy=>hl x (List.mem_of_mem_drop (List.mem_of_mem_take hx)) y hy);rw[List.take_of_length_le (by rw[Ex];lia)] at h2
 have ea:(la.drop ia).Pairwise R:=by
  have hl1:(la.drop ia).length=1:=by rw[Ex];lia
  match la.drop ia,hl1 with
  |[x],_=>exact List.pairwise_singleton _ _
 refine⟨?_,List.pairwise_append.mpr ⟨h2.so,ea,λx hx y hy=>h2.le x hx y (Jv _ hy)⟩⟩;have pm:=h2.pm;have hb:=h.hb;rw[List.take_of_length_le (l:=lb) (by lia)] at pm;refine(pm.append_right _).trans ?_;rw[E5];refine(List.Perm.append_left _ List.perm_append_comm).trans ?_;rw[<-E5,List.take_append_drop]
end
section
variable {it:Array Keyed}
abbrev ar (it:Array Keyed) (l:O'):Array Keyed:=l.toArray.map (kas_item it)
def Md(l:O'):(ar it l).size=l.length:=by simp[ar]
def Fg(l:O')(i j:Nat):(ar it l).extract i j=ar it ((l.drop i).take (j-i)):=by apply Array.toList_inj.mp;simp[ar,List.map_take,List.map_drop]
def FU(l m:O'):ar it l++ar it m=ar it (l++m):=by apply Array.toList_inj.mp;simp[ar]
def Ji(l:O')(x:Nat):(ar it l).push (kas_item it x)=ar it (l++[x]):=by apply Array.toList_inj.mp;simp[ar]
def GG(x:Nat):#[kas_item it x]=ar it [x]:=by simp[ar]
def Of(l:O'):(ar it l).reverse=ar it l.reverse:=by apply Array.toList_inj.mp;simp[ar]
end
variable {l:O'}{i:Nat}
def KA(h:i<l.length):(l.drop i).take 1=[l.getD i 0]:=by rw[Mq h,A7,AQ h];rfl
def Nd{x:Nat}(h:x∈l.drop i):∃j,i<=j/\j<l.length/\x=l.getD j 0:=by obtain⟨j,hj,e⟩:=List.getElem_of_mem h;rw[Ex] at hj;rw[List.getElem_drop] at e;exact⟨i+j,by lia,by lia,by rw[A7,AQ (by lia)];exact e.symm⟩
def Jj{k x:Nat}(h:x∈(l.drop i).take k):∃j,i<=j/\j<i+k/\j<l.length/\x=l.getD j 0:=by obtain⟨j,hj,e⟩:=List.getElem_of_mem h;rw[CA,Ex] at hj;rw[List.getElem_take,List.getElem_drop] at e;exact⟨i+j,by lia,by lia,by lia,by rw[A7,AQ (by lia)];exact e.symm⟩
def Og{R:Nat->Nat->Prop}(hr:∀x,R x x)(h:l.Pairwise R){j:Nat}(hij:i<=j)(hj:j<l.length):R (l.getD i 0) (l.getD j 0):=by rw[A7,AQ (by lia),A7,AQ hj];rcases Nat.lt_or_eq_of_le hij with e|e;exact List.pairwise_iff_getElem.mp h i j (by lia) hj e;subst e;exact hr _
end Tim
namespace Tim
set_option tactic.hygienic true
open PySem PySem.W PyProof.Rows
def SW(a b:Array Keyed):True:=by
 fun_cases (sortPriv% PySem.Builtin.mergeLo) a b
 all_goals trivial
def SX:Array Keyed->Array Keyed->StateT SortSt Sem (Array Keyed):=sortPriv% PySem.Builtin.mergeLo
def Nf:Nat->StateT SortSt Sem Unit:=sortPriv% PySem.Builtin.setMinGallop
structure Bv (st st':SortSt):Prop where
 kd:kindOf st'=kindOf st
 arr:arrOf st'=arrOf st
 pd:pendingOf st'=pendingOf st
 fl:failedOf st'=failedOf st
def Bv.refl(st:SortSt):Bv st st:=⟨rfl,rfl,rfl,rfl⟩
def Bv.trans{a b c:SortSt}(h:Bv a b)(k:Bv b c):Bv a c:=⟨k.kd.trans h.kd,k.arr.trans h.arr,k.pd.trans h.pd,k.fl.trans h.fl⟩
section
variable {M:Model} {prog:Program} {w:World} {A:Around} {E:B'} {s:Shared} {O:KeyOrd} {key:Nat->O.α} {κ:SortKind} {it:Array Keyed} {N:Nat}
variable {st:SortSt}
def Oh{g:Nat}{Q:Unit->SortSt->Prop}(h:∀st',Bv st st'->Q () st'):wpS M A E s (Nf g) Q st:=by show wpS M A E s (modify λx=>SortSt.mk' (kindOf x) (arrOf x) (pendingOf x) g (failedOf x)) Q st;exact wpS_modify (h _ ⟨rfl,rfl,rfl,rfl⟩)
def B8{l:O'}{i:Nat}{Q:Keyed->SortSt->Prop}(hi:i<l.length)(h:Q (kas_item it (l.getD i 0)) st):wpS (model prog w) A E s (elem' (ar it l) i) Q st:=by refine Mb (by simpa using hi) ?_;have:l.toArray.getD i 0=l.getD i 0:=(by simp);rw[this];exact h
def Bm{α:Type}{c:Prop} [Decidable c]{a b:StateT SortSt Sem α}{Q:α->SortSt->Prop}(h1:c->wpS M A E s a Q st)(h2:¬c->wpS M A E s b Q st):wpS M A E s (if c then a else b) Q st:=by by_cases h:c;rw[Ap h];exact h1 h;rw[An h];exact h2 h
abbrev RK (O:KeyOrd) (key:Nat->O.α) (x y:Nat):Prop:=O.kle (key x) (key y)
def Oi(x:Nat):RK O key x x:=KeyOrd.kle_refl _
def Jk{x y z:Nat}(h:RK O key x y)(k:RK O key y z):RK O key x z:=KeyOrd.kle_trans h k
variable {la lb:O'}
structure GH (R:Nat->Nat->Prop) (it:Array Keyed) (la lb:O') (Jy st':SortSt) (out:Array Keyed) (ia ib low:Nat):Prop where
 on:Bv Jy st'
 mg:∃po,out=ar it po/\Mg R la lb po ia ib
 h1:ia+1<la.length
 h2:ib<lb.length
 low:low<=ia+ib
def FV (R:Nat->Nat->Prop) (it:Array Keyed) (la lb:O') (Jy st':SortSt) (r:Array Keyed):Prop:=Bv Jy st'/\∃pr,r=ar it pr/\EU R la lb pr
def VO(hc:Asks prog w A s O key κ it N){Q:Array Keyed->SortSt->Prop}(ha:∀x∈la,x<N)(hb:∀x∈lb,x<N)(sa:la.Pairwise (RK O key))(sb:lb.Pairwise (RK O key))(na:la≠[])(nb:lb≠[])(h0:RK O key (lb.getD 0 0) (la.getD 0 0))
 (hl:∀x∈lb,RK O key x (la.getD (la.length-1) 0)) (hkd:kindOf st=κ) (h:∀pr st',Bv st st'->EU (RK O key) la lb pr->Q (ar it pr) st'):wpS (model prog w) A E s (SX (ar it la) (ar it lb)) Q st:=by
 have la0:0<la.length:=List.length_pos_iff.mpr na;have lb0:0<lb.length:=List.length_pos_iff.mpr nb
 have gN:∀{l:O'},(∀x∈l,x<N)->∀i,i<l.length->l.getD i 0<N:=λ{l}hh i hi=>by
  rw[A7,AQ hi];exact hh _ (EE hi)
 have gA:=gN ha;have gB:=gN hb
 have d:∀i,i<la.toArray.size->la.toArray.getD i 0<N:=λi hi=>by
  have e:la.toArray.getD i 0=la.getD i 0:=(by simp);rw[e];exact gA i (by simpa using hi)
 have tB:∀i,i<lb.toArray.size->lb.toArray.getD i 0<N:=λi hi=>by
  have e:lb.toArray.getD i 0=lb.getD i 0:=(by simp);rw[e];exact gB i (by simpa using hi)
 have eA:∀i,la.toArray.getD i 0=la.getD i 0:=λi=>by simp
 have eB:∀i,lb.toArray.getD i 0=lb.getD i 0:=λi=>by simp
 have pA:∀{i j:Nat},i<=j->j<la.length->RK O key (la.getD i 0) (la.getD j 0):=λhij hj=>Og Oi sa hij hj;have pB:∀{i j:Nat},i<=j->j<lb.length->RK O key (lb.getD i 0) (lb.getD j 0):=λhij hj=>Og Oi sb hij hj
 have lastA:∀ia,ia+1=la.length->∀x∈lb,∀y∈la.drop ia,RK O key x y:=λia e x hx y hy=>by
  obtain⟨j,B,F,rfl⟩:=Nd hy;obtain rfl:j=la.length-1:=by lia
  exact hl x hx
 have stB:∀{po:O'}{ia ib:Nat},Mg (RK O key) la lb po ia ib->ib<lb.length->(ia<la.length->RK O key (lb.getD ib 0) (la.getD ia 0))->Mg (RK O key) la lb (po++[lb.getD ib 0]) ia (ib+1):=λ{po ia ib}m hi hr=>by
  have:=m.pushB sb 1 (by lia) (λx hx y hy=>by
   rw[KA hi,BY] at hx;obtain⟨j,B,F,rfl⟩:=Nd hy;rw[hx];exact Jk (hr (by lia)) (pA B F))
  rwa [KA hi] at this
 have stA:∀{po:O'}{ia ib:Nat},Mg (RK O key) la lb po ia ib->ia<la.length->(ib<lb.length->RK O key (la.getD ia 0) (lb.getD ib 0))->Mg (RK O key) la lb (po++[la.getD ia 0]) (ia+1) ib:=λ{po ia ib}m hi hr=>by
  have:=m.pushA sa 1 (by lia) (λx hx y hy=>by
   rw[KA hi,BY] at hx;obtain⟨j,B,F,rfl⟩:=Nd hy;rw[hx];exact Jk (hr (by lia)) (pB B F))
  rwa [KA hi] at this
 unfold SX;rw[(sortPriv% PySem.Builtin.mergeLo.eq_def)];rw[Md,Md];refine wpS_bind (wpS_lift (D9 ⟨rfl,?_⟩))
 extract_lets -underBinder -merge -useContext +onlyGivenNames tot
 clear_value (htot:tot=_)
 extract_lets -underBinder -merge -useContext +onlyGivenNames dn
 clear_value (hdn:dn=_)
 extract_lets -underBinder -merge -useContext +onlyGivenNames ls
 clear_value (hls:ls=_)
 have D:∀po ia ib,dn (ar it po) ia ib=ar it (po++la.drop ia++lb.drop ib):=λpo ia ib=>by
  rw[hdn];show ar it po++(ar it la).extract ia _++(ar it lb).extract ib _=_;rw[Fg,Fg,FU,FU,List.take_of_length_le (by simp),List.take_of_length_le (by simp)]
 have Ls:∀po ia ib,ls (ar it po) ia ib=ar it (po++lb.drop ib++la.drop ia):=λpo ia ib=>by
  rw[hls];show ar it po++(ar it lb).extract ib _++(ar it la).extract ia _=_;rw[Fg,Fg,FU,FU,List.take_of_length_le (by simp),List.take_of_length_le (by simp)]
 clear hdn hls
 have DB:∀{po:O'}{ia ib:Nat},Mg (RK O key) la lb po ia ib->ib=lb.length->∃pr,dn (ar it po) ia ib=ar it pr/\EU (RK O key) la lb pr:=λ{po ia ib}m e=>⟨_,D po ia ib,by
  have:=m.endA sa e;rw[e,List.drop_length,EF];exact this⟩
 have DA:∀{po:O'}{ia ib:Nat},Mg (RK O key) la lb po ia ib->ia=la.length->∃pr,dn (ar it po) ia ib=ar it pr/\EU (RK O key) la lb pr:=λ{po ia ib}m e=>⟨_,D po ia ib,by
  have:=m.endB sb e;rw[e,List.drop_length,EF];exact this⟩
 have DL:∀{po:O'}{ia ib:Nat},Mg (RK O key) la lb po ia ib->ia+1=la.length->∃pr,ls (ar it po) ia ib=ar it pr/\EU (RK O key) la lb pr:=λ{po ia ib}m e=>⟨_,Ls po ia ib,m.last sb e (lastA ia e)⟩;clear D Ls;refine wpS_bind (B8 lb0 ?_)
 walk_at "z"
 walk_at "z"
 walk_at "z"
 walk_at "d"
 rw[GG];have m0:Mg (RK O key) la lb [lb.getD 0 0] 0 1:=(by have:=stB (po:=[]) (ia:=0) (ib:=0) ⟨A9 _,A9 _,List.Perm.refl _,List.Pairwise.nil,λx hx=>by simp at hx⟩ lb0 (λ_=>h0);exact this);refine Bm (λe=>?_) (λe=>?_);obtain⟨pr,e1,e2⟩:=DB m0 (by simpa using e);rw[e1];exact wpS_pure (h pr st (Bv.refl _) e2);have n1:1<lb.length:=(by have:¬1=lb.length:=(by simpa using e);lia);refine Bm (λe=>?_) (λe=>?_);obtain⟨pr,e1,e2⟩:=DL m0 (by simpa using e);rw[e1];exact wpS_pure (h pr st (Bv.refl _) e2);have n2:1<la.length:=(by have:¬1=la.length:=(by simpa using e);lia);refine wpS_bind (wpS_get ?_)
 walk_at "z"
 walk_at "d"
 have lt_le:∀{x y:Nat},O.blt (key x) (key y)=true->RK O key x y:=λh=>KeyOrd.kle_of_klt h;have nl_le:∀{x y:Nat},O.blt (key x) (key y)=false->RK O key y x:=λh=>h;refine wpS_bind (wpS_mono (wpS_forRange (I:=λx c st'=>c.1=none/\GH (RK O key) it la lb st st' c.2.1 c.2.2.1 c.2.2.2.1 x) (Q:=λc st'=>∃r,c.1=some r/\FV (RK O key) it la lb st st' r) ?step ?fin ⟨rfl,Bv.refl _,⟨_,rfl,m0⟩,by lia,n1,by lia⟩) ?post)
 case post =>
  rintro⟨r0,out,ia,ib,mg⟩ st' ⟨r,e,on,pr,e2,re⟩;obtain rfl:r0=some r:=e
  walk_at "z"
  walk_at "d"
  walk_at "d"
  rw[e2];exact wpS_pure (h pr st' on re)
 case fin =>
  rintro⟨r0,out,ia,ib,mg⟩ st' ⟨e,cu⟩;exfalso;have h1:=cu.h1;have h2:=cu.h2;have h3:=cu.low;dsimp only at h1 h2 h3;rw[htot] at h3;lia
 case step =>
  rintro x ⟨r0,out,ia,ib,mg⟩ st' _ hx ⟨e0,on,⟨po,eo,m⟩,h1,h2,lo⟩;dsimp only at e0 eo m h1 h2 lo;subst e0 eo
  walk_at "z"
  walk_at "z"
  walk_at "z"
  walk_at "z"
  walk_at "z"
  walk_at "z"
  walk_at "z"
  walk_at "z"
  walk_at "z"
  walk_at "d"
  refine wpS_bind (wpS_mono (wpS_forRange (I:=λy c st2=>c.1=none/\GH (RK O key) it la lb st st2 c.2.1 c.2.2.1 c.2.2.2.1 (ia+ib+y)) (Q:=λc st2=>(∃r,c.1=some r/\FV (RK O key) it la lb st st2 r)\/(c.1=none/\GH (RK O key) it la lb st st2 c.2.1 c.2.2.1 c.2.2.2.1 (x+1))) ?s1 ?f1 ⟨rfl,on,⟨po,rfl,m⟩,h1,h2,by dsimp only;lia⟩) ?p1)
  case f1 =>
   rintro⟨r1,out,ia1,ib1,ac,bc⟩ st2 ⟨e,cu⟩;have h3:=cu.low;dsimp only at h3;rw[htot] at h3;exact .inr ⟨e,cu.on,cu.mg,cu.h1,cu.h2,by dsimp only;lia⟩
  case s1 =>
   rintro y ⟨r1,out,ia1,ib1,ac,bc⟩ st2 _ hy ⟨e1,on2,⟨po2,eo2,m2⟩,g1,g2,lo2⟩;dsimp only at e1 eo2 m2 g1 g2 lo2;subst e1 eo2;have kd2:kindOf st2=κ:=on2.kd.trans hkd
   walk_at "z"
   walk_at "z"
   walk_at "z"
   walk_at "z"
   walk_at "z"
   walk_at "z"
   walk_at "z"
   walk_at "z"
   walk_at "z"
   walk_at "d"
   refine wpS_bind (B8 g2 (wpS_bind (B8 (by lia) (wpS_bind (w_lt hc (gB _ g2) (gA _ (by lia)) kd2 ?_)))))
   walk_at "d"
   refine Bm (λhb1=>?_) (λhb1=>?_);refine wpS_bind (B8 g2 ?_)
   walk_at "z"
   walk_at "z"
   walk_at "z"
   walk_at "z"
   walk_at "d"
   rw[Ji];have m3:=stB m2 g2 (λ_=>lt_le hb1);refine Bm (λe=>?_) (λe=>Bm (λ_=>?_) (λ_=>?_));obtain⟨pr,e1,e2⟩:=DB m3 (by simpa using e);exact wpS_pure (.inl ⟨_,rfl,on2,pr,e1,e2⟩);have:¬ib1+1=lb.length:=(by simpa using e);exact wpS_pure (.inr ⟨rfl,on2,⟨_,rfl,m3⟩,g1,by dsimp only;lia,by dsimp only;lia⟩);have:¬ib1+1=lb.length:=(by simpa using e);exact wpS_pure ⟨rfl,on2,⟨_,rfl,m3⟩,g1,by dsimp only;lia,by dsimp only;lia⟩;refine wpS_bind (B8 (by lia) ?_)
   walk_at "z"
   walk_at "z"
   walk_at "z"
   walk_at "z"
   walk_at "d"
   rw[Ji];have m3:=stA m2 (by lia) (λ_=>nl_le (Bool.not_eq_true _ |>.mp hb1));refine Bm (λe=>?_) (λe=>Bm (λ_=>?_) (λ_=>?_));obtain⟨pr,e1,e2⟩:=DL m3 (by simpa using e);exact wpS_pure (.inl ⟨_,rfl,on2,pr,e1,e2⟩);have:¬ia1+1+1=la.length:=(by simpa using e);exact wpS_pure (.inr ⟨rfl,on2,⟨_,rfl,m3⟩,by dsimp only;lia,g2,by dsimp only;lia⟩);have:¬ia1+1+1=la.length:=(by simpa using e);exact wpS_pure ⟨rfl,on2,⟨_,rfl,m3⟩,by dsimp only;lia,g2,by dsimp only;lia⟩
  case p1 =>
   rintro⟨r1,out,ia1,ib1,ac,bc⟩ st2 (⟨r,e,en⟩|⟨e,on2,⟨po2,eo2,m2⟩,g1,g2,lo2⟩);obtain rfl:r1=some r:=e
   walk_at "z"
   walk_at "z"
   walk_at "z"
   walk_at "z"
   walk_at "z"
   walk_at "z"
   walk_at "z"
   walk_at "z"
   walk_at "z"
   walk_at "z"
   walk_at "d"
   walk_at "d"
   exact wpS_pure ⟨r,rfl,en⟩;dsimp only at e eo2 m2 g1 g2 lo2;subst e eo2
   walk_at "z"
   walk_at "z"
   walk_at "z"
   walk_at "z"
   walk_at "z"
   walk_at "z"
   walk_at "z"
   walk_at "z"
   walk_at "z"
   walk_at "z"
   walk_at "d"
   walk_at "d"
   refine wpS_bind (wpS_lift (D9 ⟨rfl,?_⟩))
   walk_at "z"
   walk_at "d"
   refine wpS_bind (wpS_mono (wpS_forRange (I:=λz c st3=>c.1=none/\GH (RK O key) it la lb st st3 c.2.1 c.2.2.1 c.2.2.2.1 (x+1)) (Q:=λc st3=>(∃r,c.1=some r/\FV (RK O key) it la lb st st3 r)\/(c.1=none/\GH (RK O key) it la lb st st3 c.2.1 c.2.2.1 c.2.2.2.1 (x+1))) ?s2 ?f2 ⟨rfl,on2,⟨po2,rfl,m2⟩,g1,g2,lo2⟩) ?p2)
   case f2 =>
    rintro c st3 ⟨e,cu⟩;exact .inr ⟨e,cu⟩
   case p2 =>
    rintro⟨r3,out,ia3,ib3,mg3,ac3,bc3⟩ st3 (⟨r,e,en⟩|⟨e,cu⟩);obtain rfl:r3=some r:=e
    walk_at "z"
    walk_at "z"
    walk_at "z"
    walk_at "z"
    walk_at "z"
    walk_at "z"
    walk_at "z"
    walk_at "z"
    walk_at "z"
    walk_at "d"
    walk_at "d"
    exact wpS_pure ⟨r,rfl,en⟩;obtain rfl:r3=none:=e
    walk_at "z"
    walk_at "z"
    walk_at "z"
    walk_at "z"
    walk_at "z"
    walk_at "z"
    walk_at "z"
    walk_at "z"
    walk_at "z"
    walk_at "d"
    walk_at "d"
    walk_at "z"
    walk_at "d"
    refine wpS_bind (Oh λst4 on4=>wpS_pure ⟨rfl,cu.on.trans on4,cu.mg,cu.h1,cu.h2,cu.low⟩)
   case s2 =>
    rintro z ⟨r3,out,ia3,ib3,mg3,ac3,bc3⟩ st3 _ hz ⟨e3,on3,⟨po3,eo3,m3⟩,k1,k2,lo3⟩;dsimp only at e3 eo3 m3 k1 k2 lo3;subst e3 eo3
    walk_at "z"
    walk_at "z"
    walk_at "z"
    walk_at "z"
    walk_at "z"
    walk_at "z"
    walk_at "z"
    walk_at "z"
    walk_at "z"
    walk_at "z"
    walk_at "z"
    walk_at "d"
    extract_lets -underBinder -merge -useContext +onlyGivenNames jp
    clear_value (hjp:jp=_)
    have J:∀(u:Unit)(g:Nat),wpS (model prog w) A E s (jp u g) (λr st'=>match r with|.done c'=>(∃r,c'.1=some r/\FV (RK O key) it la lb st st' r)\/(c'.1=none/\GH (RK O key) it la lb st st' c'.2.1 c'.2.2.1 c'.2.2.2.1 (x+1))|.yield c'=>c'.1=none/\GH (RK O key) it la lb st st' c'.2.1 c'.2.2.1 c'.2.2.2.1 (x+1)) st3:=λu g=>by
     rw[hjp]
     walk_at "d"
     refine wpS_bind (Oh λst4 on4=>?_);have on34:=on3.trans on4;have kd4:kindOf st4=κ:=on34.kd.trans hkd;refine wpS_bind (B8 k2 ?_);refine wpS_bind (Mc hc (left:=false) (k:=lb.getD ib3 0) (p:=la.toArray) (base:=ia3) (n:=la.length-ia3) (hint:=0) (gB _ k2) d (by simp;lia) (by lia) kd4 (λi=>!O.blt (key (lb.getD ib3 0)) (key (la.getD (ia3+i) 0))) (λi hi=>by rw[An B0,eA]) (λi j hij hj e=>?_) (λk hk1 hk2 hk3=>?_));have e':O.blt (key (lb.getD ib3 0)) (key (la.getD (ia3+j) 0))=false:=(by simpa using e);have:=Jk (pA (i:=ia3+i) (j:=ia3+j) (by lia) (by lia)) (nl_le e');show(!O.blt _ _)=true;rw[show O.blt (key (lb.getD ib3 0)) (key (la.getD (ia3+i) 0))=false from this];rfl
     walk_at "d"
     walk_at "z"
     walk_at "d"
     extract_lets -underBinder -merge -useContext +onlyGivenNames jp2
     clear_value (hjp2:jp2=_)
     have J2:∀(u:Unit)(out':Array Keyed)(ia':Nat)(po':O'),out'=ar it po'->Mg (RK O key) la lb po' ia' ib3->ia'+1<la.length->RK O key (lb.getD ib3 0) (la.getD ia' 0)->ia3<=ia'->wpS (model prog w) A E s (jp2 u out' ia') (λr st'=>match r with|.done c'=>(∃r,c'.1=some r/\FV (RK O key) it la lb st st' r)\/(c'.1=none/\GH (RK O key) it la lb st st' c'.2.1 c'.2.2.1 c'.2.2.2.1 (x+1))|.yield c'=>c'.1=none/\GH (RK O key) it la lb st st' c'.2.1 c'.2.2.1 c'.2.2.2.1 (x+1)) st4:=λu out' ia' po' eo' m' l1 l2 l3=>by
      rw[hjp2,eo']
      walk_at "d"
      refine wpS_bind (B8 k2 ?_)
      walk_at "z"
      walk_at "z"
      walk_at "d"
      rw[Ji];have m4:=stB m' k2 (λ_=>l2);refine Bm (λe=>?_) (λe=>?_);obtain⟨pr,e1,e2⟩:=DB m4 (by simpa using e);exact wpS_pure (.inl ⟨_,rfl,on34,pr,e1,e2⟩);have k3:ib3+1<lb.length:=(by have:¬ib3+1=lb.length:=(by simpa using e);lia);refine wpS_bind (B8 (by lia) ?_);refine wpS_bind (Mc hc (left:=true) (k:=la.getD ia' 0) (p:=lb.toArray) (base:=ib3+1) (n:=lb.length-(ib3+1)) (hint:=0) (gA _ (by lia)) tB (by simp;lia) (by lia) kd4 (λi=>O.blt (key (lb.getD (ib3+1+i) 0)) (key (la.getD ia' 0))) (λi hi=>by rw[Ap rfl,eB]) (λi j hij hj e=>?_) (λq hq1 hq2 hq3=>?_));have:=pB (i:=ib3+1+i) (j:=ib3+1+j) (by lia) (by lia);exact KeyOrd.klt_of_kle_of_klt this e
      walk_at "d"
      walk_at "z"
      walk_at "d"
      extract_lets -underBinder -merge -useContext +onlyGivenNames jp3
      clear_value (hjp3:jp3=_)
      have J3:∀(u:Unit)(out':Array Keyed)(ib':Nat)(po':O'),out'=ar it po'->Mg (RK O key) la lb po' ia' ib'->ib'<lb.length->RK O key (la.getD ia' 0) (lb.getD ib' 0)->ib3<=ib'->wpS (model prog w) A E s (jp3 u out' ib') (λr st'=>match r with|.done c'=>(∃r,c'.1=some r/\FV (RK O key) it la lb st st' r)\/(c'.1=none/\GH (RK O key) it la lb st st' c'.2.1 c'.2.2.1 c'.2.2.2.1 (x+1))|.yield c'=>c'.1=none/\GH (RK O key) it la lb st st' c'.2.1 c'.2.2.1 c'.2.2.2.1 (x+1)) st4:=λu out' ib' po' eo' m' l1' l2' l3'=>by
       rw[hjp3,eo']
       walk_at "d"
       refine wpS_bind (B8 (by lia) ?_)
       walk_at "z"
       walk_at "z"
       walk_at "d"
       rw[Ji];have m5:=stA m' (by lia) (λ_=>l2');refine Bm (λe=>?_) (λe=>?_);obtain⟨pr,e1,e2⟩:=DL m5 (by simpa using e);exact wpS_pure (.inl ⟨_,rfl,on34,pr,e1,e2⟩);have k4:ia'+1+1<la.length:=(by have:¬ia'+1+1=la.length:=(by simpa using e);lia);refine Bm (λ_=>?_) (λ_=>?_);exact wpS_pure (.inr ⟨rfl,on34,⟨_,rfl,m5⟩,k4,l1',by dsimp only;lia⟩);exact wpS_pure ⟨rfl,on34,⟨_,rfl,m5⟩,k4,l1',by dsimp only;lia⟩
      clear hjp3;refine Bm (λhq=>?_) (λhq=>?_)
      have m5:=m4.pushB sb q (by lia) (λx hx y hy=>by
       obtain⟨j,B,F,j3,rfl⟩:=Jj hx;obtain⟨i,i1,i2,rfl⟩:=Nd hy;have:=hq2 (j-(ib3+1)) (by lia);rw[show ib3+1+(j-(ib3+1))=j by lia] at this;exact Jk (lt_le this) (pA i1 i2))
      walk_at "z"
      walk_at "z"
      walk_at "d"
      rw[Fg,FU,show ib3+1+q-(ib3+1)=q by lia];refine Bm (λe=>?_) (λe=>?_);obtain⟨pr,e1,e2⟩:=DB m5 (by simpa using e);exact wpS_pure (.inl ⟨_,rfl,on34,pr,e1,e2⟩);have:¬ib3+1+q=lb.length:=(by simpa using e);exact J3 () _ _ _ rfl m5 (by lia) (nl_le (by have:=hq3 q (Aw _) (by lia);exact this)) (by lia);obtain rfl:q=0:=by lia
      exact J3 () _ _ _ rfl m4 k3 (nl_le (by have:=hq3 0 (Aw _) (by lia);exact this)) (by lia)
     clear hjp2;refine Bm (λhq=>?_) (λhq=>?_)
     have m5:=m3.pushA sa k (by lia) (λx hx y hy=>by
      obtain⟨j,B,F,j3,rfl⟩:=Jj hx;obtain⟨i,i1,i2,rfl⟩:=Nd hy;have:=hk2 (j-ia3) (by lia);rw[show ia3+(j-ia3)=j by lia] at this;exact Jk (nl_le (by simpa using this)) (pB i1 i2))
     walk_at "z"
     walk_at "z"
     walk_at "d"
     rw[Fg,FU,show ia3+k-ia3=k by lia];refine Bm (λe=>?_) (λe=>Bm (λe'=>?_) (λe'=>?_));obtain⟨pr,e1,e2⟩:=DL m5 (by simpa using e);exact wpS_pure (.inl ⟨_,rfl,on34,pr,e1,e2⟩);obtain⟨pr,e1,e2⟩:=DA m5 (by simpa using e');exact wpS_pure (.inl ⟨_,rfl,on34,pr,e1,e2⟩);have q1:¬ia3+k+1=la.length:=(by simpa using e);have Z:¬ia3+k=la.length:=(by simpa using e');exact J2 () _ _ _ rfl m5 (by lia) (lt_le (by have:=hk3 k (Aw _) (by lia);simpa using this)) (by lia);obtain rfl:k=0:=by lia
     exact J2 () _ _ _ rfl m3 k1 (lt_le (by have:=hk3 0 (Aw _) (by lia);simpa using this)) (by lia)
    clear hjp;refine Bm (λ_=>?_) (λ_=>?_)
    walk_at "z"
    walk_at "d"
    exact wpS_mono (J () _) λr st' hr=>by cases r<;>exact hr
    exact wpS_mono (J () _) λr st' hr=>by cases r<;>exact hr
end
end Tim
namespace Tim
set_option tactic.hygienic true
open PySem PySem.W PyProof.Rows
def SY(a b:Array Keyed):True:=by
 fun_cases (sortPriv% PySem.Builtin.mergeHi) a b
 all_goals trivial
def S0:Array Keyed->Array Keyed->StateT SortSt Sem (Array Keyed):=sortPriv% PySem.Builtin.mergeHi
variable {l:O'}{n:Nat}
def Ng{k:Nat}(hn:n<=l.length)(hk:k<=n):(l.reverse.drop (l.length-n)).take k=((l.drop (n-k)).take k).reverse:=by rw[List.drop_reverse,show l.length-(l.length-n)=n by lia,List.take_reverse,CA,show min n l.length-k=n-k by lia,List.drop_take,show n-(n-k)=k by lia]
def KC(hn:n<=l.length):l.reverse.drop (l.length-n)=(l.take n).reverse:=by rw[List.drop_reverse,show l.length-(l.length-n)=n by lia]
def Oj(hn:n<=l.length)(h1:1<=n):(l.reverse.drop (l.length-n)).take 1=[l.getD (n-1) 0]:=by rw[Ng hn h1,KA (by lia)];rfl
def Qp{x:Nat}(h:x∈l.take n):∃j,j<n/\j<l.length/\x=l.getD j 0:=by obtain⟨j,hj,e⟩:=List.getElem_of_mem h;rw[CA] at hj;rw[List.getElem_take] at e;exact⟨j,by lia,by lia,by rw[A7,AQ (by lia)];exact e.symm⟩
section
variable {M:Model} {prog:Program} {w:World} {A:Around} {E:B'} {s:Shared} {O:KeyOrd} {key:Nat->O.α} {κ:SortKind} {it:Array Keyed} {N:Nat} {la lb:O'}
abbrev Mh (O:KeyOrd) (key:Nat->O.α) (la lb po:O') (na nb:Nat):Prop:=Mg (λx y=>RK O key y x) lb.reverse la.reverse po (lb.length-nb) (la.length-na)
def Qq{pr:O'}(h:EU (λx y=>RK O key y x) lb.reverse la.reverse pr):EU (RK O key) la lb pr.reverse:=by refine⟨(List.reverse_perm _).trans (h.1.trans ?_),?_⟩;exact(List.Perm.append (List.reverse_perm _) (List.reverse_perm _)).trans List.perm_append_comm;rw[List.pairwise_reverse];exact h.2
structure Dq (O:KeyOrd) (key:Nat->O.α) (it:Array Keyed) (la lb:O') (Jy st':SortSt) (out:Array Keyed) (na nb low:Nat):Prop where
 on:Bv Jy st'
 mg:∃po,out=ar it po/\Mh O key la lb po na nb
 h1:1<=na/\na<=la.length
 h2:2<=nb/\nb<=lb.length
 low:low<=(la.length-na)+(lb.length-nb)
def VP(hc:Asks prog w A s O key κ it N){st:SortSt}{Q:Array Keyed->SortSt->Prop}(ha:∀x∈la,x<N)(hb:∀x∈lb,x<N)(sa:la.Pairwise (RK O key))(sb:lb.Pairwise (RK O key))(na0:la≠[])(nb0:lb≠[])(h0:∀x∈la,RK O key (lb.getD 0 0) x)
 (hl:RK O key (lb.getD (lb.length-1) 0) (la.getD (la.length-1) 0)) (hkd:kindOf st=κ) (h:∀pr st',Bv st st'->EU (RK O key) la lb pr->Q (ar it pr) st'):wpS (model prog w) A E s (S0 (ar it la) (ar it lb)) Q st:=by
 have la0:0<la.length:=List.length_pos_iff.mpr na0;have lb0:0<lb.length:=List.length_pos_iff.mpr nb0
 have gN:∀{l:O'},(∀x∈l,x<N)->∀i,i<l.length->l.getD i 0<N:=λ{l}hh i hi=>by
  rw[A7,AQ hi];exact hh _ (EE hi)
 have gA:=gN ha;have gB:=gN hb
 have d:∀i,i<la.toArray.size->la.toArray.getD i 0<N:=λi hi=>by
  have e:la.toArray.getD i 0=la.getD i 0:=(by simp);rw[e];exact gA i (by simpa using hi)
 have tB:∀i,i<lb.toArray.size->lb.toArray.getD i 0<N:=λi hi=>by
  have e:lb.toArray.getD i 0=lb.getD i 0:=(by simp);rw[e];exact gB i (by simpa using hi)
 have eA:∀i,la.toArray.getD i 0=la.getD i 0:=λi=>by simp
 have eB:∀i,lb.toArray.getD i 0=lb.getD i 0:=λi=>by simp
 have pA:∀{i j:Nat},i<=j->j<la.length->RK O key (la.getD i 0) (la.getD j 0):=λhij hj=>Og Oi sa hij hj;have pB:∀{i j:Nat},i<=j->j<lb.length->RK O key (lb.getD i 0) (lb.getD j 0):=λhij hj=>Og Oi sb hij hj;have ra:la.reverse.Pairwise (λx y=>RK O key y x):=List.pairwise_reverse.mpr sa;have rb:lb.reverse.Pairwise (λx y=>RK O key y x):=List.pairwise_reverse.mpr sb;have lt_le:∀{x y:Nat},O.blt (key x) (key y)=true->RK O key x y:=λh=>KeyOrd.kle_of_klt h;have nl_le:∀{x y:Nat},O.blt (key x) (key y)=false->RK O key y x:=λh=>h
 have psA:∀{po:O'}{na nb k:Nat},Mh O key la lb po na nb->na<=la.length->nb<=lb.length->k<=na->(∀j,na-k<=j->j<na->1<=nb->RK O key (lb.getD (nb-1) 0) (la.getD j 0))->Mh O key la lb (po++((la.drop (na-k)).take k).reverse) (na-k) nb:=λ{po na nb k}m l1 l2 hk hr=>by
  have:=m.pushB ra k (by rw[List.length_reverse];lia) (λx hx y hy=>by
   rw[Ng l1 hk,Lh] at hx;rw[KC l2,Lh] at hy;obtain⟨j,B,F,j3,rfl⟩:=Jj hx;obtain⟨i,i1,i2,rfl⟩:=Qp hy;exact Jk (pB (by lia) (by lia)) (hr j B (by lia) (by lia)))
  rw[Ng l1 hk,show la.length-na+k=la.length-(na-k) by lia] at this;exact this
 have psB:∀{po:O'}{na nb k:Nat},Mh O key la lb po na nb->na<=la.length->nb<=lb.length->k<=nb->(∀j,nb-k<=j->j<nb->1<=na->RK O key (la.getD (na-1) 0) (lb.getD j 0))->Mh O key la lb (po++((lb.drop (nb-k)).take k).reverse) na (nb-k):=λ{po na nb k}m l1 l2 hk hr=>by
  have:=m.pushA rb k (by rw[List.length_reverse];lia) (λx hx y hy=>by
   rw[Ng l2 hk,Lh] at hx;rw[KC l1,Lh] at hy;obtain⟨j,B,F,j3,rfl⟩:=Jj hx;obtain⟨i,i1,i2,rfl⟩:=Qp hy;exact Jk (pA (by lia) (by lia)) (hr j B (by lia) (by lia)))
  rw[Ng l2 hk,show lb.length-nb+k=lb.length-(nb-k) by lia] at this;exact this
 have stA:∀{po:O'}{na nb:Nat},Mh O key la lb po na nb->na<=la.length->nb<=lb.length->1<=na->(1<=nb->RK O key (lb.getD (nb-1) 0) (la.getD (na-1) 0))->Mh O key la lb (po++[la.getD (na-1) 0]) (na-1) nb:=λ{po na nb}m l1 l2 hk hr=>by
  have:=psA m l1 l2 hk (λj B F j3=>by rw[show j=na-1 by lia];exact hr j3)
  rwa [KA (by lia)] at this
 have stB:∀{po:O'}{na nb:Nat},Mh O key la lb po na nb->na<=la.length->nb<=lb.length->1<=nb->(1<=na->RK O key (la.getD (na-1) 0) (lb.getD (nb-1) 0))->Mh O key la lb (po++[lb.getD (nb-1) 0]) na (nb-1):=λ{po na nb}m l1 l2 hk hr=>by
  have:=psB m l1 l2 hk (λj B F j3=>by rw[show j=nb-1 by lia];exact hr j3)
  rwa [KA (by lia)] at this
 unfold S0;rw[(sortPriv% PySem.Builtin.mergeHi.eq_def)];rw[Md,Md];refine wpS_bind (wpS_lift (D9 ⟨rfl,?_⟩))
 extract_lets -underBinder -merge -useContext +onlyGivenNames tot
 clear_value (htot:tot=_)
 extract_lets -underBinder -merge -useContext +onlyGivenNames dn
 clear_value (hdn:dn=_)
 extract_lets -underBinder -merge -useContext +onlyGivenNames ls
 clear_value (hls:ls=_)
 have D:∀po na nb,dn (ar it po) na nb=ar it (la.take na++lb.take nb++po.reverse):=λpo na nb=>by
  rw[hdn];show(ar it la).extract 0 na++(ar it lb).extract 0 nb++(ar it po).reverse=_;rw[Fg,Fg,Of,FU,FU,List.drop_zero,List.drop_zero,Nat.sub_zero,Nat.sub_zero]
 have Ls:∀po na nb,ls (ar it po) na nb=ar it (lb.take nb++la.take na++po.reverse):=λpo na nb=>by
  rw[hls];show(ar it lb).extract 0 nb++(ar it la).extract 0 na++(ar it po).reverse=_;rw[Fg,Fg,Of,FU,FU,List.drop_zero,List.drop_zero,Nat.sub_zero,Nat.sub_zero]
 clear hdn hls
 have DA:∀{po:O'}{na nb:Nat},Mh O key la lb po na nb->nb<=lb.length->na=0->∃pr,dn (ar it po) na nb=ar it pr/\EU (RK O key) la lb pr:=λ{po na nb}m l2 e=>⟨_,D po na nb,by
  have:=Qq (m.endA rb (by rw[List.length_reverse,e];rfl));rw[KC l2,List.reverse_append,List.reverse_reverse] at this;rw[e,IP,List.nil_append];exact this⟩
 have DB:∀{po:O'}{na nb:Nat},Mh O key la lb po na nb->na<=la.length->nb=0->∃pr,dn (ar it po) na nb=ar it pr/\EU (RK O key) la lb pr:=λ{po na nb}m l1 e=>⟨_,D po na nb,by
  have:=Qq (m.endB ra (by rw[List.length_reverse,e];rfl));rw[KC l1,List.reverse_append,List.reverse_reverse] at this;rw[e,IP,EF];exact this⟩
 have DL:∀{po:O'}{na nb:Nat},Mh O key la lb po na nb->na<=la.length->nb=1->∃pr,ls (ar it po) na nb=ar it pr/\EU (RK O key) la lb pr:=λ{po na nb}m l1 e=>⟨_,Ls po na nb,by
  have:=Qq (m.last ra (by rw[List.length_reverse,e];lia) (λx hx y hy=>by
   rw[KC (by lia),Lh,e] at hy;obtain⟨i,i1,i2,rfl⟩:=Qp hy;obtain rfl:i=0:=by lia
   exact h0 x (Lh.mp hx)))
  rw[KC l1,KC (by lia),List.reverse_append,List.reverse_append,List.reverse_reverse,List.reverse_reverse] at this;rw[E5];exact this⟩
 clear D Ls
 walk_at "z"
 walk_at "z"
 walk_at "d"
 refine wpS_bind (B8 (by lia) ?_)
 walk_at "z"
 walk_at "d"
 rw[GG];have m0:Mh O key la lb [la.getD (la.length-1) 0] (la.length-1) lb.length:=(by have:=stA (po:=[]) (na:=la.length) (nb:=lb.length) ⟨by rw[Nat.sub_self];exact A9 _,by rw[Nat.sub_self];exact A9 _,by rw[Nat.sub_self,Nat.sub_self];exact List.Perm.refl _,List.Pairwise.nil,λx hx=>by simp at hx⟩ (Aw _) (Aw _) la0 (λ_=>hl);exact this);refine Bm (λe=>?_) (λe=>?_);obtain⟨pr,e1,e2⟩:=DA m0 (Aw _) (by simpa using e);rw[e1];exact wpS_pure (h pr st (Bv.refl _) e2);have n1:¬la.length-1=0:=(by simpa using e);refine Bm (λe=>?_) (λe=>?_);obtain⟨pr,e1,e2⟩:=DL m0 (by lia) (by simpa using e);rw[e1];exact wpS_pure (h pr st (Bv.refl _) e2);have n2:¬lb.length=1:=(by simpa using e);refine wpS_bind (wpS_get ?_)
 walk_at "z"
 walk_at "d"
 refine wpS_bind (wpS_mono (wpS_forRange (I:=λx c st'=>c.1=none/\Dq O key it la lb st st' c.2.2.2.1 c.2.1 c.2.2.1 x) (Q:=λc st'=>∃r,c.1=some r/\FV (RK O key) it la lb st st' r) ?step ?fin ⟨rfl,Bv.refl _,⟨_,rfl,m0⟩,⟨by dsimp only;lia,by dsimp only;lia⟩,⟨by dsimp only;lia,by dsimp only;lia⟩,by lia⟩) ?post)
 case post =>
  rintro⟨r0,na,nb,out,mg⟩ st' ⟨r,e,on,pr,e2,re⟩;obtain rfl:r0=some r:=e
  walk_at "z"
  walk_at "d"
  walk_at "d"
  rw[e2];exact wpS_pure (h pr st' on re)
 case fin =>
  rintro⟨r0,na,nb,out,mg⟩ st' ⟨e,cu⟩;exfalso;have h1:=cu.h1;have h2:=cu.h2;have h3:=cu.low;dsimp only at h1 h2 h3;rw[htot] at h3;lia
 case step =>
  rintro x ⟨r0,na,nb,out,mg⟩ st' _ hx ⟨e0,on,⟨po,eo,m⟩,⟨h1,h1'⟩,⟨h2,h2'⟩,lo⟩;dsimp only at e0 eo m h1 h1' h2 h2' lo;subst e0 eo
  walk_at "z"
  walk_at "z"
  walk_at "z"
  walk_at "z"
  walk_at "z"
  walk_at "z"
  walk_at "z"
  walk_at "z"
  walk_at "z"
  walk_at "d"
  refine wpS_bind (wpS_mono (wpS_forRange (I:=λy c st2=>c.1=none/\Dq O key it la lb st st2 c.2.2.2.1 c.2.1 c.2.2.1 ((la.length-na)+(lb.length-nb)+y)) (Q:=λc st2=>(∃r,c.1=some r/\FV (RK O key) it la lb st st2 r)\/(c.1=none/\Dq O key it la lb st st2 c.2.2.2.1 c.2.1 c.2.2.1 (x+1))) ?s1 ?f1 ⟨rfl,on,⟨po,rfl,m⟩,⟨h1,h1'⟩,⟨h2,h2'⟩,by dsimp only;lia⟩) ?p1)
  case f1 =>
   rintro⟨r1,na1,nb1,out,ac,bc⟩ st2 ⟨e,cu⟩;have h3:=cu.low;dsimp only at h3;rw[htot] at h3;exact .inr ⟨e,cu.on,cu.mg,cu.h1,cu.h2,by dsimp only;lia⟩
  case s1 =>
   rintro y ⟨r1,na1,nb1,out,ac,bc⟩ st2 _ hy ⟨e1,on2,⟨po2,eo2,m2⟩,⟨g1,g1'⟩,⟨g2,g2'⟩,lo2⟩;dsimp only at e1 eo2 m2 g1 g1' g2 g2' lo2;subst e1 eo2;have kd2:kindOf st2=κ:=on2.kd.trans hkd
   walk_at "z"
   walk_at "z"
   walk_at "z"
   walk_at "z"
   walk_at "z"
   walk_at "z"
   walk_at "z"
   walk_at "z"
   walk_at "z"
   walk_at "d"
   refine wpS_bind (B8 (by lia) (wpS_bind (B8 (by lia) (wpS_bind (w_lt hc (gB _ (by lia)) (gA _ (by lia)) kd2 ?_)))))
   walk_at "d"
   refine Bm (λhb1=>?_) (λhb1=>?_)
   walk_at "z"
   walk_at "d"
   refine wpS_bind (B8 (by lia) ?_)
   walk_at "z"
   walk_at "z"
   walk_at "z"
   walk_at "d"
   rw[Ji];have m3:=stA m2 g1' g2' g1 (λ_=>lt_le hb1);refine Bm (λe=>?_) (λe=>Bm (λ_=>?_) (λ_=>?_));obtain⟨pr,e1,e2⟩:=DA m3 g2' (by simpa using e);exact wpS_pure (.inl ⟨_,rfl,on2,pr,e1,e2⟩);have:¬na1-1=0:=(by simpa using e);exact wpS_pure (.inr ⟨rfl,on2,⟨_,rfl,m3⟩,⟨by dsimp only;lia,by dsimp only;lia⟩,⟨g2,g2'⟩,by dsimp only;lia⟩);have:¬na1-1=0:=(by simpa using e);exact wpS_pure ⟨rfl,on2,⟨_,rfl,m3⟩,⟨by dsimp only;lia,by dsimp only;lia⟩,⟨g2,g2'⟩,by dsimp only;lia⟩
   walk_at "z"
   walk_at "d"
   refine wpS_bind (B8 (by lia) ?_)
   walk_at "z"
   walk_at "z"
   walk_at "z"
   walk_at "d"
   rw[Ji];have m3:=stB m2 g1' g2' (by lia) (λ_=>nl_le (Bool.not_eq_true _ |>.mp hb1));refine Bm (λe=>?_) (λe=>Bm (λ_=>?_) (λ_=>?_));obtain⟨pr,e1,e2⟩:=DL m3 g1' (by simpa using e);exact wpS_pure (.inl ⟨_,rfl,on2,pr,e1,e2⟩);have:¬nb1-1=1:=(by simpa using e);exact wpS_pure (.inr ⟨rfl,on2,⟨_,rfl,m3⟩,⟨g1,g1'⟩,⟨by dsimp only;lia,by dsimp only;lia⟩,by dsimp only;lia⟩);have:¬nb1-1=1:=(by simpa using e);exact wpS_pure ⟨rfl,on2,⟨_,rfl,m3⟩,⟨g1,g1'⟩,⟨by dsimp only;lia,by dsimp only;lia⟩,by dsimp only;lia⟩
  case p1 =>
   rintro⟨r1,na1,nb1,out,ac,bc⟩ st2 (⟨r,e,en⟩|⟨e,on2,⟨po2,eo2,m2⟩,⟨g1,g1'⟩,⟨g2,g2'⟩,lo2⟩);obtain rfl:r1=some r:=e
   walk_at "z"
   walk_at "z"
   walk_at "z"
   walk_at "z"
   walk_at "z"
   walk_at "z"
   walk_at "z"
   walk_at "z"
   walk_at "z"
   walk_at "z"
   walk_at "d"
   walk_at "d"
   exact wpS_pure ⟨r,rfl,en⟩;dsimp only at e eo2 m2 g1 g1' g2 g2' lo2;subst e eo2
   walk_at "z"
   walk_at "z"
   walk_at "z"
   walk_at "z"
   walk_at "z"
   walk_at "z"
   walk_at "z"
   walk_at "z"
   walk_at "z"
   walk_at "z"
   walk_at "d"
   walk_at "d"
   refine wpS_bind (wpS_lift (D9 ⟨rfl,?_⟩))
   walk_at "z"
   walk_at "d"
   refine wpS_bind (wpS_mono (wpS_forRange (I:=λz c st3=>c.1=none/\Dq O key it la lb st st3 c.2.2.2.1 c.2.1 c.2.2.1 (x+1)) (Q:=λc st3=>(∃r,c.1=some r/\FV (RK O key) it la lb st st3 r)\/(c.1=none/\Dq O key it la lb st st3 c.2.2.2.1 c.2.1 c.2.2.1 (x+1))) ?s2 ?f2 ⟨rfl,on2,⟨po2,rfl,m2⟩,⟨g1,g1'⟩,⟨g2,g2'⟩,lo2⟩) ?p2)
   case f2 =>
    rintro c st3 ⟨e,cu⟩;exact .inr ⟨e,cu⟩
   case p2 =>
    rintro⟨r3,na3,nb3,out,mg3,ac3,bc3⟩ st3 (⟨r,e,en⟩|⟨e,cu⟩);obtain rfl:r3=some r:=e
    walk_at "z"
    walk_at "z"
    walk_at "z"
    walk_at "z"
    walk_at "z"
    walk_at "z"
    walk_at "z"
    walk_at "z"
    walk_at "z"
    walk_at "d"
    walk_at "d"
    exact wpS_pure ⟨r,rfl,en⟩;obtain rfl:r3=none:=e
    walk_at "z"
    walk_at "z"
    walk_at "z"
    walk_at "z"
    walk_at "z"
    walk_at "z"
    walk_at "z"
    walk_at "z"
    walk_at "z"
    walk_at "d"
    walk_at "d"
    walk_at "z"
    walk_at "d"
    refine wpS_bind (Oh λst4 on4=>wpS_pure ⟨rfl,cu.on.trans on4,cu.mg,cu.h1,cu.h2,cu.low⟩)
   case s2 =>
    rintro z ⟨r3,na3,nb3,out,mg3,ac3,bc3⟩ st3 _ hz ⟨e3,on3,⟨po3,eo3,m3⟩,⟨k1,k1'⟩,⟨k2,k2'⟩,lo3⟩;dsimp only at e3 eo3 m3 k1 k1' k2 k2' lo3;subst e3 eo3
    walk_at "z"
    walk_at "z"
    walk_at "z"
    walk_at "z"
    walk_at "z"
    walk_at "z"
    walk_at "z"
    walk_at "z"
    walk_at "z"
    walk_at "z"
    walk_at "z"
    walk_at "d"
    extract_lets -underBinder -merge -useContext +onlyGivenNames jp
    clear_value (hjp:jp=_)
    have J:∀(u:Unit)(g:Nat),wpS (model prog w) A E s (jp u g) (λr st'=>match r with|.done c'=>(∃r,c'.1=some r/\FV (RK O key) it la lb st st' r)\/(c'.1=none/\Dq O key it la lb st st' c'.2.2.2.1 c'.2.1 c'.2.2.1 (x+1))|.yield c'=>c'.1=none/\Dq O key it la lb st st' c'.2.2.2.1 c'.2.1 c'.2.2.1 (x+1)) st3:=λu g=>by
     rw[hjp]
     walk_at "d"
     refine wpS_bind (Oh λst4 on4=>?_);have on34:=on3.trans on4;have kd4:kindOf st4=κ:=on34.kd.trans hkd;refine wpS_bind (B8 (by lia) ?_);refine wpS_bind (Mc hc (left:=false) (k:=lb.getD (nb3-1) 0) (p:=la.toArray) (base:=0) (n:=na3) (hint:=na3-1) (gB _ (by lia)) d (by simp;lia) (by lia) kd4 (λi=>!O.blt (key (lb.getD (nb3-1) 0)) (key (la.getD (0+i) 0))) (λi hi=>by rw[An B0,eA]) (λi j hij hj e=>?_) (λk hk1 hk2 hk3=>?_));have e':O.blt (key (lb.getD (nb3-1) 0)) (key (la.getD (0+j) 0))=false:=(by simpa using e);have:=Jk (pA (i:=0+i) (j:=0+j) (by lia) (by lia)) (nl_le e');show(!O.blt _ _)=true;rw[show O.blt (key (lb.getD (nb3-1) 0)) (key (la.getD (0+i) 0))=false from this];rfl
     walk_at "d"
     walk_at "z"
     walk_at "z"
     walk_at "d"
     extract_lets -underBinder -merge -useContext +onlyGivenNames jp2
     clear_value (hjp2:jp2=_)
     have J2:∀(u:Unit)(na':Nat)(out':Array Keyed)(po':O'),out'=ar it po'->Mh O key la lb po' na' nb3->1<=na'->na'<=na3->RK O key (la.getD (na'-1) 0) (lb.getD (nb3-1) 0)->wpS (model prog w) A E s (jp2 u na' out') (λr st'=>match r with|.done c'=>(∃r,c'.1=some r/\FV (RK O key) it la lb st st' r)\/(c'.1=none/\Dq O key it la lb st st' c'.2.2.2.1 c'.2.1 c'.2.2.1 (x+1))|.yield c'=>c'.1=none/\Dq O key it la lb st st' c'.2.2.2.1 c'.2.1 c'.2.2.1 (x+1)) st4:=λu na' out' po' eo' m' l1 l2 l3=>by
      rw[hjp2,eo']
      walk_at "d"
      walk_at "z"
      walk_at "d"
      refine wpS_bind (B8 (by lia) ?_)
      walk_at "z"
      walk_at "d"
      rw[Ji];have m4:=stB m' (by lia) k2' (by lia) (λ_=>l3);refine Bm (λe=>?_) (λe=>?_);obtain⟨pr,e1,e2⟩:=DL m4 (by lia) (by simpa using e);exact wpS_pure (.inl ⟨_,rfl,on34,pr,e1,e2⟩);have k3:¬nb3-1=1:=(by simpa using e);refine wpS_bind (B8 (by lia) ?_);refine wpS_bind (Mc hc (left:=true) (k:=la.getD (na'-1) 0) (p:=lb.toArray) (base:=0) (n:=nb3-1) (hint:=nb3-1-1) (gA _ (by lia)) tB (by simp;lia) (by lia) kd4 (λi=>O.blt (key (lb.getD (0+i) 0)) (key (la.getD (na'-1) 0))) (λi hi=>by rw[Ap rfl,eB]) (λi j hij hj e=>?_) (λq hq1 hq2 hq3=>?_));have:=pB (i:=0+i) (j:=0+j) (by lia) (by lia);exact KeyOrd.klt_of_kle_of_klt this e
      walk_at "d"
      walk_at "z"
      walk_at "z"
      walk_at "d"
      extract_lets -underBinder -merge -useContext +onlyGivenNames jp3
      clear_value (hjp3:jp3=_)
      have J3:∀(u:Unit)(nb':Nat)(out':Array Keyed)(po':O'),out'=ar it po'->Mh O key la lb po' na' nb'->2<=nb'->nb'<=nb3->RK O key (lb.getD (nb'-1) 0) (la.getD (na'-1) 0)->wpS (model prog w) A E s (jp3 u nb' out') (λr st'=>match r with|.done c'=>(∃r,c'.1=some r/\FV (RK O key) it la lb st st' r)\/(c'.1=none/\Dq O key it la lb st st' c'.2.2.2.1 c'.2.1 c'.2.2.1 (x+1))|.yield c'=>c'.1=none/\Dq O key it la lb st st' c'.2.2.2.1 c'.2.1 c'.2.2.1 (x+1)) st4:=λu nb' out' po' eo' m' l1' l2' l3'=>by
       rw[hjp3,eo']
       walk_at "d"
       walk_at "z"
       walk_at "d"
       refine wpS_bind (B8 (by lia) ?_)
       walk_at "z"
       walk_at "d"
       rw[Ji];have m5:=stA m' (by lia) (by lia) l1 (λ_=>l3');refine Bm (λe=>?_) (λe=>?_);obtain⟨pr,e1,e2⟩:=DA m5 (by lia) (by simpa using e);exact wpS_pure (.inl ⟨_,rfl,on34,pr,e1,e2⟩);have k4:¬na'-1=0:=(by simpa using e);refine Bm (λ_=>?_) (λ_=>?_);exact wpS_pure (.inr ⟨rfl,on34,⟨_,rfl,m5⟩,⟨by dsimp only;lia,by dsimp only;lia⟩,⟨by dsimp only;lia,by dsimp only;lia⟩,by dsimp only;lia⟩);exact wpS_pure ⟨rfl,on34,⟨_,rfl,m5⟩,⟨by dsimp only;lia,by dsimp only;lia⟩,⟨by dsimp only;lia,by dsimp only;lia⟩,by dsimp only;lia⟩
      clear hjp3;refine Bm (λhq=>?_) (λhq=>?_)
      have m5:=psB (k:=nb3-1-q) m4 (by lia) (by lia) (by lia) (λj B F _=>by
       have:=hq3 j (by lia) (by lia);rw[Nat.zero_add] at this;exact nl_le this)
      rw[show nb3-1-(nb3-1-q)=q by lia] at m5
      walk_at "z"
      walk_at "z"
      walk_at "d"
      rw[Fg,Of,FU];refine Bm (λe=>?_) (λe=>Bm (λe'=>?_) (λe'=>?_));obtain⟨pr,e1,e2⟩:=DL m5 (by lia) (by simpa using e);exact wpS_pure (.inl ⟨_,rfl,on34,pr,e1,e2⟩);obtain⟨pr,e1,e2⟩:=DB m5 (by lia) (by simpa using e');exact wpS_pure (.inl ⟨_,rfl,on34,pr,e1,e2⟩);have q1:¬q=1:=(by simpa using e);have Z:¬q=0:=(by simpa using e');exact J3 () _ _ _ rfl m5 (by lia) (by lia) (lt_le (by have:=hq2 (q-1) (by lia);rw[Nat.zero_add] at this;exact this));obtain rfl:q=nb3-1:=by lia
      exact J3 () _ _ _ rfl m4 (by lia) (by lia) (lt_le (by have:=hq2 (nb3-1-1) (by lia);rw[Nat.zero_add] at this;exact this))
     clear hjp2;refine Bm (λhq=>?_) (λhq=>?_)
     have m5:=psA (k:=na3-k) m3 k1' k2' (by lia) (λj B F _=>by
      have:=hk3 j (by lia) (by lia);rw[Nat.zero_add] at this;exact lt_le (by simpa using this))
     rw[show na3-(na3-k)=k by lia] at m5
     walk_at "z"
     walk_at "z"
     walk_at "d"
     rw[Fg,Of,FU];refine Bm (λe=>?_) (λe=>?_);obtain⟨pr,e1,e2⟩:=DA m5 k2' (by simpa using e);exact wpS_pure (.inl ⟨_,rfl,on34,pr,e1,e2⟩);have q1:¬k=0:=(by simpa using e);exact J2 () _ _ _ rfl m5 (by lia) (by lia) (nl_le (by have:=hk2 (k-1) (by lia);rw[Nat.zero_add] at this;simpa using this));obtain rfl:k=na3:=by lia
     exact J2 () _ _ _ rfl m3 k1 (Aw _) (nl_le (by have:=hk2 (k-1) (by lia);rw[Nat.zero_add] at this;simpa using this))
    clear hjp;refine Bm (λ_=>?_) (λ_=>?_)
    walk_at "z"
    walk_at "d"
    exact wpS_mono (J () _) λr st' hr=>by cases r<;>exact hr
    exact wpS_mono (J () _) λr st' hr=>by cases r<;>exact hr
end
end Tim
namespace Tim
set_option tactic.hygienic true
open PySem PySem.W PyProof.Rows
def S1(a b:Nat):True:=by
 fun_cases (sortPriv% PySem.Builtin.countRun) a b
 all_goals trivial
def S6(a b c:Nat):True:=by
 fun_cases (sortPriv% PySem.Builtin.binarySort) a b c
 all_goals trivial
section
variable {prog:Program} {w:World} {A:Around} {E:B'} {s:Shared} {O:KeyOrd} {key:Nat->O.α} {κ:SortKind} {it:Array Keyed} {N:Nat}
structure Sg (it:Array Keyed) (κ:SortKind) (N:Nat) (pd0:Array (Nat×Nat×Nat)) (p0:P') (lo hi:Nat) (st:SortSt) (p:P'):Prop where
 arr:arrOf st=p.map (kas_item it)
 kd:kindOf st=κ
 fl:failedOf st=none
 pd:pendingOf st=pd0
 pm:KasM.Pm N p
 out:∀i,(i<lo\/hi<=i)->p.getD i 0=p0.getD i 0
def UpS (key:Nat->O.α) (p:P') (lo hi:Nat):Prop:=∀i j,lo<=i->i<=j->j<hi->O.kle (KasM.K key p i) (KasM.K key p j)
def Fh (key:Nat->O.α) (p:P') (lo hi:Nat):Prop:=∀i j,lo<=i->i<=j->j<hi->O.kle (KasM.K key p j) (KasM.K key p i)
variable {pd0:Array (Nat×Nat×Nat)} {p0 p:P'} {lo hi:Nat} {st:SortSt}
def FJ(hc:Asks prog w A s O key κ it N)(S:Sg it κ N pd0 p0 lo hi st p){i j:Nat}{Q:Option Bool->SortSt->Prop}(hi':i<N)(hj:j<N)(h:Q (some (O.blt (KasM.K key p i) (KasM.K key p j))) st):wpS (model prog w) A E s (ltAt' i j) Q st:=by
 have hz:=S.pm.size;rw[ltAt'_eq];refine wpS_bind (wpS_get ?_);show wpS _ _ _ _ (do let x <-elem' (arrOf st) i;let y <-elem' (arrOf st) j;lt' x y) Q st;rw[S.arr];refine wpS_bind (Mb (by lia) (wpS_bind (Mb (by lia) ?_)));exact w_lt hc (S.pm.lt (by lia) i) (S.pm.lt (by lia) j) S.kd h
def Ol(S:Sg it κ N pd0 p0 lo hi st p){i j:Nat}{Q:Unit->SortSt->Prop}(h1:lo<=i)(h2:j<=hi)(hN:hi<=N)(h:∀st',Sg it κ N pd0 p0 lo hi st' (kas_rev p i j)->Q () st'):wpS (model prog w) A E s (reverseSlice' i j) Q st:=by have hz:=S.pm.size;rw[reverseSlice'_eq];refine wpS_modify (h _ ⟨?_,S.kd,S.fl,S.pd,S.pm.rev _ _,λk hk=>?_⟩);show mirror (arrOf st) i j ((j-i)/2)=_;rw[S.arr];exact kas_swaps_map (kas_item it) (λk=>i+k) (λk=>j-1-k) _ p;rw[KasM.getD_rev (by lia),An (by lia)];exact S.out k hk
def Nh(S:Sg it κ N pd0 p0 lo hi st p){k l:Nat}{Q:Unit->SortSt->Prop}(h1:lo<=l)(h2:l<=k)(h3:k<hi)(hN:hi<=N)(h:∀st',Sg it κ N pd0 p0 lo hi st' (bubble p k (k-l))->Q () st'):wpS (model prog w) A E s (moveDown' k l) Q st:=by have hz:=S.pm.size;rw[moveDown'_eq];refine wpS_modify (h _ ⟨?_,S.kd,S.fl,S.pd,S.pm.bub _ _,λt ht=>?_⟩);show bubble (arrOf st) k (k-l)=_;rw[S.arr];exact kas_swaps_map (kas_item it) (λi=>k-i) (λi=>k-i-1) _ p;rw[KasM.getD_bub (by lia) h2,An (by lia),An (by lia)];exact S.out t ht
def UpS.snoc{a:Nat}(h:UpS key p lo a)(hl:lo<a)(hk:O.kle (KasM.K key p (a-1)) (KasM.K key p a)):UpS key p lo (a+1):=λi j h1 h2 h3=>by
 by_cases e:j<a;exact h i j h1 h2 e;obtain rfl:j=a:=by lia
 by_cases e2:i=j;rw[e2];exact KeyOrd.kle_refl _;exact KeyOrd.kle_trans (h i (j-1) h1 (by lia) (by lia)) hk
def Fh.snoc{a:Nat}(h:Fh key p lo a)(hl:lo<a)(hk:O.kle (KasM.K key p a) (KasM.K key p (a-1))):Fh key p lo (a+1):=λi j h1 h2 h3=>by
 by_cases e:j<a;exact h i j h1 h2 e;obtain rfl:j=a:=by lia
 by_cases e2:i=j;rw[e2];exact KeyOrd.kle_refl _;exact KeyOrd.kle_trans hk (h i (j-1) h1 (by lia) (by lia))
def UpS.one:UpS key p lo (lo+1):=λi j h1 h2 h3=>by rw[show i=j by lia];exact KeyOrd.kle_refl _
def VQ(hc:Asks prog w A s O key κ it N){nrem:Nat}{Q:Option Nat->SortSt->Prop}(S:Sg it κ N pd0 p0 lo (lo+nrem) st p)(h1:1<=nrem)(hN:lo+nrem<=N)
 (h:∀m st' p',Sg it κ N pd0 p0 lo (lo+nrem) st' p'->1<=m->m<=nrem->UpS key p' lo (lo+m)->Q (some m) st'):wpS (model prog w) A E s (countRun' lo nrem) Q st:=by
 unfold countRun';rw[(sortPriv% PySem.Builtin.countRun.eq_def)]
 walk_at "z"
 walk_at "d"
 refine wpS_bind (wpS_mono (wpS_forRange (I:=λx c st'=>st'=st/\c=(none,x)/\UpS key p lo (lo+x)) (Q:=λc st'=>st'=st/\∃m,c=(none,m)/\1<=m/\m<=nrem/\UpS key p lo (lo+m)/\(m=nrem\/O.blt (KasM.K key p (lo+m)) (KasM.K key p (lo+m-1))=true)) ?_ ?_ ⟨rfl,rfl,UpS.one⟩) ?_);rintro x c st' hx1 hx2 ⟨rfl,rfl,up⟩
 walk_at "z"
 walk_at "d"
 refine wpS_bind (FJ hc S (by lia) (by lia) ?_)
 walk_at "d"
 refine Bm (λe=>wpS_pure ⟨rfl,x,rfl,hx1,by lia,up,.inr e⟩) (λe=>?_)
 walk_at "z"
 walk_at "d"
 refine wpS_pure ⟨rfl,rfl,?_⟩;exact up.snoc (by lia) (Bool.not_eq_true _ |>.mp e);rintro c st' ⟨rfl,rfl,up⟩;rw[show max 1 nrem=nrem by lia] at up ⊢;exact⟨rfl,nrem,rfl,h1,Aw _,up,.inl rfl⟩;rintro c st' ⟨rfl,m,rfl,m1,m2,up,ends⟩
 walk_at "z"
 walk_at "z"
 walk_at "d"
 walk_at "d"
 refine Bm (λe=>wpS_pure (h m st' p S m1 m2 up)) (λe=>?_);have mne:¬m=nrem:=(by simpa using e);have ends:=ends.resolve_left mne
 extract_lets -underBinder -merge -useContext +onlyGivenNames jp
 clear_value (hjp:jp=_)
 have J:∀(u:Unit)(st2:SortSt)(p2:P'),Sg it κ N pd0 p0 lo (lo+nrem) st2 p2->Fh key p2 lo (lo+m+1)->wpS (model prog w) A E s (jp u) Q st2:=λu st2 p2 S2 dn=>by
  rw[hjp]
  walk_at "d"
  refine wpS_bind (wpS_lift (D9 ⟨rfl,?_⟩))
  walk_at "z"
  walk_at "z"
  walk_at "d"
  refine wpS_bind (wpS_mono (wpS_forRange (I:=λx c st3=>∃p3 q,c=(none,x,q)/\Sg it κ N pd0 p0 lo (lo+nrem) st3 p3/\Fh key p3 lo (lo+x)/\q+1<=x/\(∀k,lo+x-(q+1)<=k->k<lo+x->KasM.K key p3 k=KasM.K key p3 (lo+x-1)))
   (Q:=λc st3=>∃p3 x q,c=(none,x,q)/\m+1<=x/\x<=nrem/\Sg it κ N pd0 p0 lo (lo+nrem) st3 p3/\Fh key p3 lo (lo+x)/\q+1<=x/\(∀k,lo+x-(q+1)<=k->k<lo+x->KasM.K key p3 k=KasM.K key p3 (lo+x-1))) ?_ ?_ ⟨p2,0,rfl,S2,dn,by lia,λk a b=>by rw[show k=lo+(m+1)-1 by lia]⟩) ?_)
  rintro x c st3 hx1 hx2 ⟨p3,q,rfl,S3,dn3,hq,he⟩;have hz:=S3.pm.size
  walk_at "z"
  walk_at "z"
  walk_at "z"
  walk_at "d"
  refine wpS_bind (FJ hc S3 (by lia) (by lia) ?_)
  walk_at "d"
  extract_lets -underBinder -merge -useContext +onlyGivenNames jp2
  clear_value (hjp2:jp2=_)
  have J2:∀(u:Unit)(q':Nat)(st4:SortSt)(p4:P'),Sg it κ N pd0 p0 lo (lo+nrem) st4 p4->Fh key p4 lo (lo+(x+1))->q'+1<=x+1->(∀k,lo+(x+1)-(q'+1)<=k->k<lo+(x+1)->KasM.K key p4 k=KasM.K key p4 (lo+(x+1)-1))->wpS (model prog w) A E s (jp2 u q') (λr st'=>match r with|.done c'=>∃p3 x q,c'=(none,x,q)/\m+1<=x/\x<=nrem/\Sg it κ N pd0 p0 lo (lo+nrem) st' p3/\Fh key p3 lo (lo+x)/\q+1<=x/\(∀k,lo+x-(q+1)<=k->k<lo+x->KasM.K key p3 k=KasM.K key p3 (lo+x-1))|.yield c'=>∃p3 q,c'=(none,x+1,q)/\Sg it κ N pd0 p0 lo (lo+nrem) st' p3/\Fh key p3 lo (lo+(x+1))/\q+1<=x+1/\(∀k,lo+(x+1)-(q+1)<=k->k<lo+(x+1)->KasM.K key p3 k=KasM.K key p3 (lo+(x+1)-1))) st4:=λu q' st4 p4 S4 d4 q4 e4=>by
   rw[hjp2]
   walk_at "d"
   walk_at "z"
   walk_at "d"
   exact wpS_pure ⟨p4,q',rfl,S4,d4,q4,e4⟩
  refine wpS_mono (Q:=λr st'=>match r with|.done c'=>∃p3 x q,c'=(none,x,q)/\m+1<=x/\x<=nrem/\Sg it κ N pd0 p0 lo (lo+nrem) st' p3/\Fh key p3 lo (lo+x)/\q+1<=x/\(∀k,lo+x-(q+1)<=k->k<lo+x->KasM.K key p3 k=KasM.K key p3 (lo+x-1))|.yield c'=>∃p3 q,c'=(none,x+1,q)/\Sg it κ N pd0 p0 lo (lo+nrem) st' p3/\Fh key p3 lo (lo+(x+1))/\q+1<=x+1/\(∀k,lo+(x+1)-(q+1)<=k->k<lo+(x+1)->KasM.K key p3 k=KasM.K key p3 (lo+(x+1)-1))) ?_ (λr st' hr=>by cases r<;>exact hr)
  clear hjp2;refine Bm (λe=>?_) (λe=>?_)
  extract_lets -underBinder -merge -useContext +onlyGivenNames jp3
  clear_value (hjp3:jp3=_)
  have J3:∀(u:Unit)(st4:SortSt)(p4:P'),Sg it κ N pd0 p0 lo (lo+nrem) st4 p4->Fh key p4 lo (lo+(x+1))->wpS (model prog w) A E s (jp3 u) _ st4:=λu st4 p4 S4 d4=>by
   rw[hjp3]
   walk_at "d"
   walk_at "z"
   walk_at "d"
   exact J2 () 0 st4 p4 S4 d4 (by lia) (λk a b=>by rw[show k=lo+(x+1)-1 by lia])
  have d3:Fh key p3 lo (lo+x+1):=dn3.snoc (by lia) (KeyOrd.kle_of_klt e);refine Bm (λhq0=>?_) (λhq0=>?_);refine wpS_bind (Ol S3 (by lia) (by lia) hN λst4 S4=>J3 _ st4 _ S4 ?_);have kk:=KasM.K_rev_eq (key:=key) (p:=p3) (i:=lo+x-(q+1)) (j:=lo+x) (by lia) he;intro i j a b c;rw[kk,kk];exact d3 i j a b (by lia);exact J3 () st3 p3 S3 d3;have e':O.blt (KasM.K key p3 (lo+x)) (KasM.K key p3 (lo+x-1))=false:=Bool.not_eq_true _ |>.mp e;refine wpS_bind (FJ hc S3 (by lia) (by lia) ?_)
  walk_at "d"
  refine Bm (λe2=>?_) (λe2=>?_);exact wpS_pure ⟨p3,x,q,rfl,hx1,by lia,S3,dn3,hq,he⟩;have e2':O.blt (KasM.K key p3 (lo+x-1)) (KasM.K key p3 (lo+x))=false:=Bool.not_eq_true _ |>.mp e2;have ee:KasM.K key p3 (lo+x)=KasM.K key p3 (lo+x-1):=KeyOrd.kle_antisymm e2' e'
  walk_at "z"
  walk_at "d"
  refine J2 () (q+1) st3 p3 S3 (dn3.snoc (by lia) e2') (by lia) (λk a b=>?_);rw[show lo+(x+1)-1=lo+x by lia];by_cases hk:k=lo+x;rw[hk];rw[he k (by lia) (by lia),ee];rintro c st3 ⟨p3,q,rfl,S3,dn3,hq,he⟩;rw[show max (m+1) nrem=nrem by lia] at *;exact⟨p3,nrem,q,rfl,by lia,Aw _,S3,dn3,hq,he⟩;rintro c st3 ⟨p3,x,q,rfl,x1,x2,S3,dn3,hq,he⟩;have hz:=S3.pm.size
  walk_at "z"
  walk_at "z"
  walk_at "z"
  walk_at "z"
  walk_at "d"
  walk_at "d"
  extract_lets -underBinder -merge -useContext +onlyGivenNames jp4
  clear_value (hjp4:jp4=_)
  have J4:∀(u:Unit)(st4:SortSt)(p4:P'),Sg it κ N pd0 p0 lo (lo+nrem) st4 p4->Fh key p4 lo (lo+x)->wpS (model prog w) A E s (jp4 u) Q st4:=λu st4 p4 S4 d4=>by
   have hz4:=S4.pm.size;rw[hjp4]
   walk_at "d"
   refine wpS_bind (Ol S4 (Aw _) (by lia) hN λst5 S5=>?_)
   have up5:UpS key (kas_rev p4 lo (lo+x)) lo (lo+x):=λi j a b c=>by
    rw[KasM.K_rev (by lia),KasM.K_rev (by lia),Ap (by lia),Ap (by lia)];exact d4 _ _ (by lia) (by lia) (by lia)
   generalize kas_rev p4 lo (lo+x)=p5 at S5 up5;refine wpS_bind (wpS_mono (wpS_forRange (I:=λy c st'=>st'=st5/\c=(none,y)/\UpS key p5 lo (lo+y)) (Q:=λc st'=>st'=st5/\∃m,c=(none,m)/\1<=m/\m<=nrem/\UpS key p5 lo (lo+m)) ?_ ?_ ⟨rfl,rfl,up5⟩) ?_);rintro y c st' hy1 hy2 ⟨rfl,rfl,up⟩
   walk_at "z"
   walk_at "d"
   refine wpS_bind (FJ hc S5 (by lia) (by lia) ?_)
   walk_at "d"
   refine Bm (λe=>wpS_pure ⟨rfl,y,rfl,by lia,by lia,up⟩) (λe=>?_)
   walk_at "z"
   walk_at "d"
   refine wpS_pure ⟨rfl,rfl,?_⟩;exact up.snoc (by lia) (Bool.not_eq_true _ |>.mp e);rintro c st' ⟨rfl,rfl,up⟩;rw[show max x nrem=nrem by lia] at up ⊢;exact⟨rfl,nrem,rfl,h1,Aw _,up⟩;rintro c st' ⟨rfl,m',rfl,a1,a2,a3⟩
   walk_at "z"
   walk_at "z"
   walk_at "d"
   walk_at "d"
   exact wpS_pure (h m' st' p5 S5 a1 a2 a3)
  clear hjp4;refine Bm (λhq0=>?_) (λhq0=>J4 () st3 p3 S3 dn3);refine wpS_bind (Ol S3 (by lia) (by lia) hN λst4 S4=>J4 _ st4 _ S4 ?_);have kk:=KasM.K_rev_eq (key:=key) (p:=p3) (i:=lo+x-(q+1)) (j:=lo+x) (by lia) he;intro i j a b c;rw[kk,kk];exact dn3 i j a b c
 clear hjp;have hz:=S.pm.size;have lt1:O.kle (KasM.K key p (lo+m)) (KasM.K key p (lo+m-1)):=KeyOrd.kle_of_klt ends;refine Bm (λhm=>?_) (λhm=>?_);refine wpS_bind (FJ hc S (by lia) (by lia) ?_)
 walk_at "d"
 refine Bm (λe2=>wpS_pure (h m st' p S m1 m2 up)) (λe2=>?_);have e2':O.kle (KasM.K key p (lo+m-1)) (KasM.K key p lo):=Bool.not_eq_true _ |>.mp e2
 have all:∀k,lo<=k->k<lo+m->KasM.K key p k=KasM.K key p (lo+m-1):=λk a b =>
  KeyOrd.kle_antisymm (up k (lo+m-1) a (by lia) (by lia)) (KeyOrd.kle_trans e2' (up lo k (Aw _) a b))
 refine wpS_bind (Ol S (Aw _) (by lia) hN λst4 S4=>J _ st4 _ S4 ?_);have kk:=KasM.K_rev_eq (key:=key) (p:=p) (i:=lo) (j:=lo+m) (by lia) all;intro i j a b c;rw[kk,kk];by_cases hj:j<lo+m;rw[all i a (by lia),all j (by lia) hj];exact KeyOrd.kle_refl _;obtain rfl:j=lo+m:=by lia
 by_cases hij:i=lo+m;rw[hij];exact KeyOrd.kle_refl _;rw[all i a (by lia)];exact lt1;obtain rfl:m=1:=by lia
 refine J () st' p S ?_;intro i j a b c;by_cases hij:i=j;rw[hij];exact KeyOrd.kle_refl _;obtain rfl:i=lo:=by lia
 obtain rfl:j=i+1:=by lia
 exact lt1
def VR(hc:Asks prog w A s O key κ it N){n ok:Nat}{Q:Bool->SortSt->Prop}(S:Sg it κ N pd0 p0 lo (lo+n) st p)(h1:1<=ok)(h2:ok<=n)(hN:lo+n<=N)(up:UpS key p lo (lo+ok))
 (h:∀st' p',Sg it κ N pd0 p0 lo (lo+n) st' p'->UpS key p' lo (lo+n)->Q true st'):wpS (model prog w) A E s (binarySort' lo n ok) Q st:=by
 unfold binarySort';rw[(sortPriv% PySem.Builtin.binarySort.eq_def)];refine wpS_bind (wpS_mono (wpS_forRange (I:=λk c st'=>c=(none,())/\∃p',Sg it κ N pd0 p0 lo (lo+n) st' p'/\UpS key p' lo (lo+k)) (Q:=λc st'=>c=(none,())/\∃p',Sg it κ N pd0 p0 lo (lo+n) st' p'/\UpS key p' lo (lo+n)) ?_ ?_ ⟨rfl,p,S,by rw[show max ok 1=ok by lia];exact up⟩) ?_)
 . rintro k c st' hk1 hk2 ⟨rfl,p',S',up'⟩
   have hz:=S'.pm.size
   walk_at "z"
   walk_at "z"
   walk_at "d"
   refine wpS_bind (wpS_mono (wpS_forRange (I:=λx c st''=>st''=st'/\∃l r,c=(none,l,r)/\l<=r/\r<=k/\r-l<=k-x/\(∀i,i<l->O.kle (KasM.K key p' (lo+i)) (KasM.K key p' (lo+k)))/\(∀i,r<=i->i<k->O.kle (KasM.K key p' (lo+k)) (KasM.K key p' (lo+i))))
    (Q:=λc st''=>st''=st'/\∃l r,c=(none,l,r)/\l<=k/\(∀i,i<l->O.kle (KasM.K key p' (lo+i)) (KasM.K key p' (lo+k)))/\(∀i,l<=i->i<k->O.kle (KasM.K key p' (lo+k)) (KasM.K key p' (lo+i)))) ?_ ?_ ⟨rfl,0,k,rfl,by lia,by lia,by lia,λi hi=>by lia,λi a b=>by lia⟩) ?_)
   rintro x c st'' _ hx ⟨rfl,l,r,rfl,a1,a2,a3,a4,a5⟩
   walk_at "z"
   walk_at "z"
   walk_at "z"
   walk_at "d"
   refine Bm (λe=>?_) (λe=>?_);obtain rfl:l=r:=by lia
   exact wpS_pure ⟨rfl,l,l,rfl,a2,a4,a5⟩
   walk_at "z"
   walk_at "d"
   refine wpS_bind (FJ hc S' (by lia) (by lia) ?_)
   walk_at "d"
   refine Bm (λe2=>?_) (λe2=>?_)
   walk_at "z"
   walk_at "d"
   exact wpS_pure ⟨rfl,l,(l+r)/2,rfl,by lia,by lia,by lia,a4,λi b1 b2=>KeyOrd.kle_trans (KeyOrd.kle_of_klt e2) (up' _ _ (by lia) (by lia) (by lia))⟩
   walk_at "z"
   walk_at "d"
   exact wpS_pure ⟨rfl,(l+r)/2+1,r,rfl,by lia,by lia,by lia,λi b1=>KeyOrd.kle_trans (up' (lo+i) (lo+(l+r)/2) (by lia) (by lia) (by lia)) (Bool.not_eq_true _ |>.mp e2),a5⟩;rintro c st'' ⟨rfl,l,r,rfl,a1,a2,a3,a4,a5⟩;obtain rfl:l=r:=by lia
   exact⟨rfl,l,l,rfl,a2,a4,a5⟩
   . rintro c st'' ⟨rfl,l,r,rfl,a2,a4,a5⟩
     walk_at "z"
     walk_at "z"
     walk_at "z"
     walk_at "d"
     walk_at "d"
     refine wpS_bind (Nh S' (by lia) (by lia) (by lia) hN λst3 S3=>wpS_pure ⟨rfl,_,S3,?_⟩);intro i j b1 b2 b3;rw[KasM.K_bub (by lia) (by lia),KasM.K_bub (by lia) (by lia)]
     have f1:∀t,lo<=t->t<lo+l->O.kle (KasM.K key p' t) (KasM.K key p' (lo+k)):=λt q1 Z=>by
      have:=a4 (t-lo) (by lia);rwa [show lo+(t-lo)=t by lia] at this
     have f2:∀t,lo+l<=t->t<lo+k->O.kle (KasM.K key p' (lo+k)) (KasM.K key p' t):=λt q1 Z=>by
      have:=a5 (t-lo) (by lia) (by lia);rwa [show lo+(t-lo)=t by lia] at this
     repeat' split
     all_goals first
      |(exfalso;lia)
      |exact KeyOrd.kle_refl _
      |exact f1 _ (by lia) (by lia)
      |exact f2 _ (by lia) (by lia)
      |exact up' _ _ (by lia) (by lia) (by lia)
 rintro c st' ⟨rfl,p',S',up'⟩;rw[show max (max ok 1) n=n by lia] at up';exact⟨rfl,p',S',up'⟩;rintro c st' ⟨rfl,p',S',up'⟩
 walk_at "z"
 walk_at "d"
 walk_at "d"
 exact wpS_pure (h st' p' S' up')
end
end Tim
namespace Tim
set_option tactic.hygienic true
open PySem PySem.W PyProof.Rows
def S7(a:Nat):True:=by
 fun_cases (sortPriv% PySem.Builtin.mergeAt) a
 all_goals trivial
theorem S8{α:Type}(off:Nat):∀(l:List α)(k:Nat)(p:Array α),off+k+l.length<=p.size->(l.zipIdx k).foldl (λa x=>match x with|(q,j)=>a.setIfInBounds (off+j) q) p=(p.toList.take (off+k)++l++p.toList.drop (off+k+l.length)).toArray
 |[],k,p,_=>by simp
 |x::l,k,p,h=>by
   rw[Ej] at h;rw[List.zipIdx_cons,List.foldl_cons];have ih:=S8 off l (k+1) (p.setIfInBounds (off+k) x) (by rw[Array.size_setIfInBounds];lia);show List.foldl _ (p.setIfInBounds (off+k) x) _=_;rw[ih,Array.toList_setIfInBounds];have hk:off+k<p.toList.length:=by rw[Array.length_toList];lia
   congr 1;rw[List.drop_set_of_lt (by lia),show off+(k+1)=off+k+1 by lia,E4,v9 hk,List.take_set_of_le (Aw _),Ej]
   simp
   congr 1;lia
def GI{it:Array Keyed}(p:P'):p.map (kas_item it)=ar it p.toList:=by simp[ar]
def Me(p:P')(i:Nat):p.getD i 0=p.toList.getD i 0:=by simp
section
variable {O:KeyOrd} {key:Nat->O.α}
def Om{p:P'}{lo hi:Nat}(h:UpS key p lo hi)(hN:hi<=p.size):((p.toList.drop lo).take (hi-lo)).Pairwise (RK O key):=by
 rw[List.pairwise_iff_getElem];intro i j hi' hj' hij;have hl:j<hi-lo/\lo+j<p.toList.length:=(by rw[CA,Ex] at hj';lia);rw[List.getElem_take,List.getElem_take,List.getElem_drop,List.getElem_drop];have:=h (lo+i) (lo+j) (by lia) (by lia) (by lia);unfold KasM.K at this;rw[Me,Me,A7,AQ (by lia),A7,AQ (by lia)] at this;exact this
def Ni{p:P'}{lo hi:Nat}(h:((p.toList.drop lo).take (hi-lo)).Pairwise (RK O key))(hN:hi<=p.size):UpS key p lo hi:=by intro i j h1 h2 h3;by_cases e:i=j;rw[e];exact KeyOrd.kle_refl _;have hl:p.toList.length=p.size:=Array.length_toList;have:=List.pairwise_iff_getElem.mp h (i-lo) (j-lo) (by rw[CA,Ex];lia) (by rw[CA,Ex];lia) (by lia);rw[List.getElem_take,List.getElem_take,List.getElem_drop,List.getElem_drop] at this;unfold KasM.K;rw[Me,Me,A7,AQ (by lia),A7,AQ (by lia)];have q1:lo+(i-lo)=i:=(by lia);have Z:lo+(j-lo)=j:=(by lia);simp only[q1,Z] at this;exact this
end
def Jl:Nat->List (Nat×Nat×Nat)->Nat->Prop
 |a,[],b=>a=b
 |a,e::r,b=>e.1=a/\1<=e.2.1/\Jl (a+e.2.1) r b
theorem Oo:∀{l:List (Nat×Nat×Nat)}{a b:Nat},Jl a l b->a+l.length<=b
 |[],a,b,h=>by have:a=b:=h;simp;lia
 |e::r,a,b,⟨_,h2,h3⟩=>by have:=Oo h3;rw[Ej];lia
theorem Bd:∀{l m:List (Nat×Nat×Nat)}{a b:Nat},Jl a (l++m) b↔∃c,Jl a l c/\Jl c m b
 |[],m,a,b=>⟨λh=>⟨a,rfl,h⟩,λ⟨c,h1,h2⟩=>by have:a=c:=h1;rw[this];exact h2⟩
 |e::l,m,a,b=>by constructor;rintro⟨h1,h2,h3⟩;obtain⟨c,q1,Z⟩:=Bd.mp h3;exact⟨c,⟨h1,h2,q1⟩,Z⟩;rintro⟨c,⟨h1,h2,q1⟩,Z⟩;exact⟨h1,h2,Bd.mpr ⟨c,q1,Z⟩⟩
theorem Op:∀{l:List (Nat×Nat×Nat)}{a b:Nat},Jl a l b->∀e∈l,a<=e.1/\e.1+e.2.1<=b
 |[],_,_,_,e,he=>by simp at he
 |x::r,a,b,⟨h1,h2,h3⟩,e,he=>by have:=Oo h3;rcases BL.mp he with rfl|he;exact⟨by lia,by lia⟩;have:=Op h3 e he;exact⟨by lia,this.2⟩
section
variable {prog:Program} {w:World} {A:Around} {E:B'} {s:Shared} {O:KeyOrd} {key:Nat->O.α} {κ:SortKind} {it:Array Keyed} {N:Nat}
def Nj{σ:Type}{M:Model}{x st:σ}{Q:PUnit->σ->Prop}(h:Q ⟨⟩ x):wpS M A E s (set x:StateT σ Sem PUnit) Q st:=by unfold wpS;rw[StateT.run_set];exact Al ⟨rfl,h⟩
structure AX (it:Array Keyed) (κ:SortKind) (N:Nat) (key:Nat->O.α) (st:SortSt) (p:P') (l:List (Nat×Nat×Nat)) (lo:Nat):Prop where
 arr:arrOf st=p.map (kas_item it)
 kd:kindOf st=κ
 fl:failedOf st=none
 pd:pendingOf st=l.toArray
 pm:KasM.Pm N p
 ch:Jl 0 l lo
 le:lo<=N
 up:∀e∈l,UpS key p e.1 (e.1+e.2.1)
def S9(hc:Asks prog w A s O key κ it N){st:SortSt}{p:P'}{l1 l2:List (Nat × Nat × Nat)}{ea eb:Nat × Nat × Nat}{lo:Nat}{Q:Bool->SortSt->Prop}(W:AX it κ N key st p (l1++ea::eb::l2) lo)
 (h:∀st' p' e',AX it κ N key st' p' (l1++e'::l2) lo->(∀i,lo<=i->p'.getD i 0=p.getD i 0)->Q true st'):wpS (model prog w) A E s (mergeAt' l1.length) Q st:=by
 obtain⟨sa,na,pw⟩:=ea;obtain⟨sb,nb,pw2⟩:=eb;have hz:=W.pm.size;have hzl:p.toList.length=N:=by rw[Array.length_toList];exact hz
 obtain⟨c,ch1,q1,Z,q3,q4,ch2⟩:=Bd.mp W.ch;dsimp only at q1 Z q3 q4 ch2;subst q1;have eb':sb=sa+na:=q3;have chl:=Oo ch2;have hN:=W.le;have hend:sb+nb<=N:=(by lia);have upA:UpS key p sa sb:=(by have:=W.up (sa,na,pw) (by simp);rw[eb'];exact this);have upB:UpS key p sb (sb+nb):=W.up (sb,nb,pw2) (by simp);have hlt:∀i,p.getD i 0<N:=λi=>W.pm.lt (by lia) i
 have fin:∀(st':SortSt)(p':P'),arrOf st'=p'.map (kas_item it)->kindOf st'=κ->failedOf st'=none->pendingOf st'=((l1++(sa,na,pw)::(sb,nb,pw2)::l2).toArray.setIfInBounds l1.length (sa,na+nb,pw)).eraseIdxIfInBounds (l1.length+1)->KasM.Pm N p'->(∀i,(i<sa\/sb+nb<=i)->p'.getD i 0=p.getD i 0)->UpS key p' sa (sb+nb)->Q true st':=λst' p' f1 f2 f3 f4 f5 f6 f7=>by
  have keep:∀{x y:Nat},(y<=sa\/sb+nb<=x)->UpS key p x y->UpS key p' x y:=λ{x y}hxy hu i j a b d=>by
   unfold KasM.K;rw[f6 i (by lia),f6 j (by lia)];exact hu i j a b d
  refine h st' p' (sa,na+nb,pw) ⟨f1,f2,f3,?_,f5,Bd.mpr ⟨sa,ch1,rfl,by show 1<=na+nb;lia,?_⟩,W.le,λe he=>?_⟩ (λi hi=>f6 i (by lia));rw[f4];apply Array.toList_inj.mp;rw[Array.toList_eraseIdxIfInBounds,Array.toList_setIfInBounds];rw[List.set_append_right _ _ (Aw _),Nat.sub_self,List.set_cons_zero,List.eraseIdx_append_of_length_le (by lia),show l1.length+1-l1.length=1 by lia];rfl;show Jl (sa+(na+nb)) l2 lo;rw[show sa+(na+nb)=sa+na+nb by lia];exact ch2;rcases CG.mp he with he|he;have:=Op ch1 e he;exact keep (by lia) (W.up e (Jv _ he));rcases BL.mp he with rfl|he;show UpS key p' sa (sa+(na+nb));rw[show sa+(na+nb)=sb+nb by lia];exact f7;have:=Op ch2 e he;exact keep (by lia) (W.up e (by simp[he]))
 have eP:(sortPriv% PySem.Builtin.SortState.pending) st=(l1++(sa,na,pw)::(sb,nb,pw2)::l2).toArray:=W.pd;have eArr:(sortPriv% PySem.Builtin.SortState.a) st=p.map (kas_item it):=W.arr;unfold mergeAt';rw[(sortPriv% PySem.Builtin.mergeAt.eq_def)];refine wpS_bind (wpS_get ?_);rw[eP,eArr];have g1:(l1++(sa,na,pw)::(sb,nb,pw2)::l2).toArray[l1.length]?=some (sa,na,pw):=(by simp);have g2:(l1++(sa,na,pw)::(sb,nb,pw2)::l2).toArray[l1.length+1]?=some (sb,nb,pw2):=(by rw[List.getElem?_toArray,D6 (by lia)];simp);rw[g1,g2]
 walk_at "d"
 refine wpS_bind (Nj ?_);refine wpS_bind (Mb (by lia) ?_);refine wpS_bind (Mc hc (left:=false) (k:=p.getD sb 0) (p:=p) (base:=sa) (n:=na) (hint:=0) (hlt _) (λi _=>hlt i) (by lia) (by lia) W.kd (λi=>!O.blt (KasM.K key p sb) (KasM.K key p (sa+i))) (λi hi=>by rw[An B0];rfl) (λi j hij hj e=>?_) (λk hk1 hk2 hk3=>?_));have e':O.kle (KasM.K key p (sa+j)) (KasM.K key p sb):=show O.blt _ _=false by simpa using e
 have:=KeyOrd.kle_trans (upA (sa+i) (sa+j) (by lia) (by lia) (by lia)) e';show(!O.blt _ _)=true;rw[show O.blt (KasM.K key p sb) (KasM.K key p (sa+i))=false from this];rfl;have aLow:∀i,i<k->O.kle (KasM.K key p (sa+i)) (KasM.K key p sb):=λi hi=>show O.blt _ _=false by simpa using hk2 i hi
 have aHigh:∀i,k<=i->i<na->O.kle (KasM.K key p sb) (KasM.K key p (sa+i)):=λi h1 h2=>KeyOrd.kle_of_klt (show O.blt _ _=true by simpa using hk3 i h1 h2)
 walk_at "d"
 refine Bm (λe=>?_) (λe=>?_);have hk:na-k=0:=(by simpa using e);refine wpS_pure (fin _ p rfl W.kd W.fl rfl W.pm (λi _=>rfl) λi j a b d=>?_);by_cases hj:j<sb;exact upA i j a b hj;by_cases hi:i<sb;have:=aLow (i-sa) (by lia);rw[show sa+(i-sa)=i by lia] at this;exact KeyOrd.kle_trans this (upB sb j (Aw _) (by lia) d);exact upB i j (by lia) b d;have hk:¬na-k=0:=(by simpa using e);refine wpS_bind (Mb (by lia) ?_);have elast:sa+k+(na-k)-1=sb-1:=(by lia);rw[elast];refine wpS_bind (Mc hc (left:=true) (k:=p.getD (sb-1) 0) (p:=p) (base:=sb) (n:=nb) (hint:=nb-1) (hlt _) (λi _=>hlt i) (by lia) (by lia) W.kd (λi=>O.blt (KasM.K key p (sb+i)) (KasM.K key p (sb-1))) (λi hi=>by rw[Ap rfl];rfl) (λi j hij hj e=>KeyOrd.klt_of_kle_of_klt (upB (sb+i) (sb+j) (by lia) (by lia) (by lia)) e) (λm hm1 hm2 hm3=>?_));have bLow:∀i,i<m->O.kle (KasM.K key p (sb+i)) (KasM.K key p (sb-1)):=λi hi=>KeyOrd.kle_of_klt (hm2 i hi);have bHigh:∀i,m<=i->i<nb->O.kle (KasM.K key p (sb-1)) (KasM.K key p (sb+i)):=λi h1 h2=>hm3 i h1 h2
 walk_at "d"
 refine Bm (λe=>?_) (λe=>?_);have hm:m=0:=(by simpa using e);refine wpS_pure (fin _ p rfl W.kd W.fl rfl W.pm (λi _=>rfl) λi j a b d=>?_);by_cases hj:j<sb;exact upA i j a b hj;by_cases hi:i<sb;have:=bHigh (j-sb) (by lia) (by lia);rw[show sb+(j-sb)=j by lia] at this;exact KeyOrd.kle_trans (upA i (sb-1) a (by lia) (by lia)) this;exact upB i j (by lia) b d;have hm:¬m=0:=(by simpa using e);rw[GI,Fg,Fg,show sb+m-sb=m by lia,show sb-(sa+k)=na-k by lia]
 walk_at "z"
 walk_at "z"
 walk_at "d"
 obtain⟨P,eP'⟩:∃P,P=p.toList:=⟨_,rfl⟩;have gP:∀i,p.getD i 0=P.getD i 0:=λi=>by rw[eP'];exact Me p i
 rw[<-eP'];have hzP:P.length=N:=by rw[eP'];exact hzl
 obtain⟨la,ela⟩:∃la,la=(P.drop (sa+k)).take (na-k):=⟨_,rfl⟩;obtain⟨lb,elb⟩:∃lb,lb=(P.drop sb).take m:=⟨_,rfl⟩;rw[<-ela,<-elb];have lla:la.length=na-k:=by rw[ela,CA,Ex];lia
 have llb:lb.length=m:=by rw[elb,CA,Ex];lia
 have sA:la.Pairwise (RK O key):=(by have:=Om (lo:=sa+k) (hi:=sb) (λi j a b d=>upA i j (by lia) b d) (by lia);rw[<-eP',show sb-(sa+k)=na-k by lia,<-ela] at this;exact this);have sB:lb.Pairwise (RK O key):=(by have:=Om (lo:=sb) (hi:=sb+m) (λi j a b d=>upB i j (by lia) b (by lia)) (by lia);rw[<-eP',show sb+m-sb=m by lia,<-elb] at this;exact this)
 have gA:∀i,i<na-k->la.getD i 0=p.getD (sa+k+i) 0:=λi hi=>by
  rw[gP,ela,A7,List.getElem?_take_of_lt hi,List.getElem?_drop,A7]
 have gB:∀i,i<m->lb.getD i 0=p.getD (sb+i) 0:=λi hi=>by
  rw[gP,elb,A7,List.getElem?_take_of_lt hi,List.getElem?_drop,A7]
 have inA:∀x∈la,∃i,i<na-k/\x=p.getD (sa+k+i) 0:=λx hx=>by
  rw[ela] at hx;obtain⟨j,B,F,_,rfl⟩:=Jj hx;exact⟨j-(sa+k),by lia,by rw[gP];congr 1;lia⟩
 have inB:∀x∈lb,∃i,i<m/\x=p.getD (sb+i) 0:=λx hx=>by
  rw[elb] at hx;obtain⟨j,B,F,_,rfl⟩:=Jj hx;exact⟨j-sb,by lia,by rw[gP];congr 1;lia⟩
 have nA:la≠[]:=λz=>by rw[z] at lla;simp at lla;lia
 have nB:lb≠[]:=λz=>by rw[z] at llb;simp at llb;lia
 extract_lets -underBinder -merge -useContext +onlyGivenNames jp
 clear_value (hjp:jp=_)
 have J:∀(pr:O')(st':SortSt),arrOf st'=p.map (kas_item it)->kindOf st'=κ->failedOf st'=none->pendingOf st'=((l1++(sa,na,pw)::(sb,nb,pw2)::l2).toArray.setIfInBounds l1.length (sa,na+nb,pw)).eraseIdxIfInBounds (l1.length+1)->EU (RK O key) la lb pr->wpS (model prog w) A E s (jp (ar it pr)) Q st':=λpr st' f1 f2 f3 f4 re=>by
  have lpr:pr.length=(na-k)+m:=(by rw[re.1.length_eq,BF,lla,llb]);obtain⟨p',ep'⟩:∃p':P',p'=(P.take (sa+k)++pr++P.drop (sb+m)).toArray:=⟨_,rfl⟩;have ltk:(P.take (sa+k)).length=sa+k:=by rw[CA];lia
  have et:p'.toList=P.take (sa+k)++pr++P.drop (sb+m):=(by rw[ep']);have sz:p'.size=N:=by rw[<-Array.length_toList,et,BF,BF,ltk,lpr,Ex];lia
  have spl:P=P.take (sa+k)++(la++lb)++P.drop (sb+m):=by
   have a1:P.drop (sa+k)=la++P.drop sb:=(by rw[ela];have:=List.take_append_drop (na-k) (P.drop (sa+k));rw[List.drop_drop,show sa+k+(na-k)=sb by lia] at this;exact this.symm);have a2:P.drop sb=lb++P.drop (sb+m):=(by rw[elb];have:=List.take_append_drop m (P.drop sb);rw[List.drop_drop] at this;exact this.symm);have:=List.take_append_drop (sa+k) P;rw[a1,a2] at this;rw[E5,E5];exact this.symm
  rw[hjp]
  walk_at "d"
  refine wpS_bind (wpS_modify ?_);refine wpS_bind (wpS_get ?_)
  have e9:∀b:Bool,b=true->Q b (SortSt.mk' (kindOf st') (p'.map (kas_item it)) (pendingOf st') (gallopOf st') (failedOf st')):=λb hb=>by
   rw[hb];refine fin _ p' rfl f2 f3 f4 ?_ (λi hi=>?_) (Ni ?_ (by lia));refine Array.perm_iff_toList_perm.mpr (List.Perm.trans ?_ (Array.perm_iff_toList_perm.mp W.pm));rw[et,<-eP'];have:=(re.1.append_left (P.take (sa+k))).append_right (P.drop (sb+m));refine this.trans ?_;rw[<-spl];rw[Me,et,gP,A7,A7];rcases hi with hi|hi;rw[E5,Ew (by lia),List.getElem?_take_of_lt (by lia)];rw[D6 (by rw[BF,ltk,lpr];lia),BF,ltk,lpr,List.getElem?_drop];congr 1;congr 1;lia;have a0:P.take (sa+k)=P.take sa++(P.drop sa).take k:=(by rw[List.take_add]);have b0:P.drop (sb+m)=(P.drop (sb+m)).take (nb-m)++P.drop (sb+nb):=(by have:=List.take_append_drop (nb-m) (P.drop (sb+m));rw[List.drop_drop,show sb+m+(nb-m)=sb+nb by lia] at this;exact this.symm);have ls:(P.take sa).length=sa:=by rw[CA];lia
   have lA0:((P.drop sa).take k).length=k:=by rw[CA,Ex];lia
   have lB0:((P.drop (sb+m)).take (nb-m)).length=nb-m:=by rw[CA,Ex];lia
   have mid:(p'.toList.drop sa).take (sb+nb-sa)=(P.drop sa).take k++pr++(P.drop (sb+m)).take (nb-m):=(by rw[et,a0,b0];have e1:P.take sa++(P.drop sa).take k++pr++((P.drop (sb+m)).take (nb-m)++P.drop (sb+nb))=P.take sa++(((P.drop sa).take k++pr++(P.drop (sb+m)).take (nb-m))++P.drop (sb+nb)):=(by simp only[E5]);rw[e1,List.drop_append_of_le_length (by lia),List.drop_of_length_le (by lia),List.nil_append,List.take_append_of_le_length (by rw[BF,BF,lA0,lB0,lpr];lia),List.take_of_length_le (by rw[BF,BF,lA0,lB0,lpr];lia),<-b0]);rw[mid]
   have xA:∀x∈(P.drop sa).take k,∃i,i<k/\x=p.getD (sa+i) 0:=λx hx=>by
    obtain⟨j,B,F,_,rfl⟩:=Jj hx;exact⟨j-sa,by lia,by rw[gP];congr 1;lia⟩
   have xB:∀x∈(P.drop (sb+m)).take (nb-m),∃i,m<=i/\i<nb/\x=p.getD (sb+i) 0:=λx hx=>by
    obtain⟨j,B,F,_,rfl⟩:=Jj hx;exact⟨j-sb,by lia,by lia,by rw[gP];congr 1;lia⟩
   have s1:((P.drop sa).take k).Pairwise (RK O key):=(by have:=Om (lo:=sa) (hi:=sa+k) (λi j a b d=>upA i j a b (by lia)) (by lia);rw[<-eP',show sa+k-sa=k by lia] at this;exact this);have s3:((P.drop (sb+m)).take (nb-m)).Pairwise (RK O key):=(by have:=Om (lo:=sb+m) (hi:=sb+nb) (λi j a b d=>upB i j (by lia) b d) (by lia);rw[<-eP',show sb+nb-(sb+m)=nb-m by lia] at this;exact this);refine List.pairwise_append.mpr ⟨List.pairwise_append.mpr ⟨s1,re.2,λx hx y hy=>?_⟩,s3,λx hx y hy=>?_⟩;obtain⟨i,i1,rfl⟩:=xA x hx;rcases CG.mp (re.1.mem_iff.mp hy) with hy|hy;obtain⟨j,B,rfl⟩:=inA y hy;exact upA (sa+i) (sa+k+j) (by lia) (by lia) (by lia);obtain⟨j,B,rfl⟩:=inB y hy;exact KeyOrd.kle_trans (aLow i i1) (upB sb (sb+j) (Aw _) (by lia) (by lia));obtain⟨j,B,F,rfl⟩:=xB y hy;rcases CG.mp hx with hx|hx;obtain⟨i,i1,rfl⟩:=xA x hx;exact KeyOrd.kle_trans (aLow i i1) (upB sb (sb+j) (Aw _) (by lia) (by lia));rcases CG.mp (re.1.mem_iff.mp hx) with hx|hx;obtain⟨i,i1,rfl⟩:=inA x hx;exact KeyOrd.kle_trans (upA (sa+k+i) (sb-1) (by lia) (by lia) (by lia)) (bHigh j B F);obtain⟨i,i1,rfl⟩:=inB x hx;exact upB (sb+i) (sb+j) (by lia) (by lia) (by lia)
  have ear:(List.foldl (λa x=>match x with|(q,j)=>a.setIfInBounds (sa+k+j) q) (arrOf st') (ar it pr).toList.zipIdx)=p'.map (kas_item it):=(by rw[f1];have hs:=S8 (sa+k) (ar it pr).toList 0 (p.map (kas_item it)) (by rw[Array.length_toList,Md,lpr,Array.size_map];lia);rw[Nat.add_zero] at hs;refine hs.trans ?_;rw[ep',Array.length_toList,Md,lpr,show sa+k+(na-k+m)=sb+m by lia,eP'];apply Array.toList_inj.mp;simp[ar])
  refine wpS_pure ?_;have:=e9 (failedOf st').isNone (by rw[f3];rfl);rw[<-ear] at this;exact this
 clear hjp;have W2:∀{st1 st2:SortSt},Bv st1 st2->arrOf st1=p.map (kas_item it)->kindOf st1=κ->failedOf st1=none->arrOf st2=p.map (kas_item it)/\kindOf st2=κ/\failedOf st2=none/\pendingOf st2=pendingOf st1:=λo a b c=>⟨o.arr.trans a,o.kd.trans b,o.fl.trans c,o.pd⟩;have hA:∀x∈la,x<N:=λx hx=>by obtain⟨i,_,rfl⟩:=inA x hx;exact hlt _
 have hB:∀x∈lb,x<N:=λx hx=>by obtain⟨i,_,rfl⟩:=inB x hx;exact hlt _
 have b0a:∀x∈la,RK O key (lb.getD 0 0) x:=λx hx=>by
  obtain⟨i,i1,rfl⟩:=inA x hx;rw[gB 0 (by lia),Nat.add_zero];have:=aHigh (k+i) (by lia) (by lia);rw[show sa+(k+i)=sa+k+i by lia] at this;exact this
 have al:∀x∈lb,RK O key x (la.getD (la.length-1) 0):=λx hx=>by
  obtain⟨i,i1,rfl⟩:=inB x hx;rw[lla,gA _ (by lia),show sa+k+(na-k-1)=sb-1 by lia];exact bLow i i1
 refine Bm (λhle=>?_) (λhle=>?_);refine wpS_bind (VO hc hA hB sA sB nA nB (b0a _ (by rw[A7,AQ (by lia)];exact EE _)) al W.kd λpr st' on re=>?_);obtain⟨a1,a2,a3,a4⟩:=W2 on (by show ar it P=_;rw[eP',<-GI]) W.kd W.fl;exact J pr st' a1 a2 a3 a4 re;refine wpS_bind (VP hc hA hB sA sB nA nB b0a (al _ (by rw[A7,AQ (by lia)];exact EE _)) W.kd λpr st' on re=>?_);obtain⟨a1,a2,a3,a4⟩:=W2 on (by show ar it P=_;rw[eP',<-GI]) W.kd W.fl;exact J pr st' a1 a2 a3 a4 re
end
end Tim
namespace Tim
set_option tactic.hygienic true
open PySem PySem.W PyProof.Rows
def Ta:True:=by
 fun_cases (sortPriv% PySem.Builtin.sortRuns)
 all_goals trivial
def Tb{α:Type}{l:List α}{j:Nat}(h:j+1<l.length):∃l1 a b l2,l=l1++a::b::l2/\l1.length=j:=by refine⟨l.take j,l[j],l[j+1],l.drop (j+2),?_,by rw[CA];lia⟩;have h1:l.drop j=l[j]::l.drop (j+1):=Mq (by lia);have h2:l.drop (j+1)=l[j+1]::l.drop (j+2):=Mq h;rw[<-h2,<-h1,List.take_append_drop]
theorem Tc{α:Type}{f:α->α}{e:α}:∀{l:List α},(l++[e]).modify l.length f=l++[f e]
 |[]=>rfl
 |a::l=>by have:=Tc (f:=f) (e:=e) (l:=l);simpa using this
section
variable {prog:Program} {w:World} {A:Around} {E:B'} {s:Shared} {O:KeyOrd} {key:Nat->O.α} {κ:SortKind} {it:Array Keyed} {N:Nat}
variable {st:SortSt}{p:P'}
def AX.sg{l:List (Nat×Nat×Nat)}{lo n:Nat}(W:AX it κ N key st p l lo):Sg it κ N l.toArray p lo (lo+n) st p:=⟨W.arr,W.kd,W.fl,W.pd,W.pm,λ_ _=>rfl⟩
def AX.of{st':SortSt}{p':P'}{l:List (Nat×Nat×Nat)}{lo n:Nat}(W:AX it κ N key st p l lo)(S:Sg it κ N l.toArray p lo (lo+n) st' p'):AX it κ N key st' p' l lo:=
 ⟨S.arr,S.kd,S.fl,S.pd,S.pm,W.ch,W.le,λe he i j a b c=>by
  have:=Op W.ch e he;unfold KasM.K;rw[S.out i (by lia),S.out j (by lia)];exact W.up e he i j a b c⟩
def sortRuns_ok(hc:Asks prog w A s O key κ it N){Q:Unit->SortSt->Prop}(W:AX it κ N key st p [] 0)(hN:1<=N)
 (h:∀st' p',arrOf st'=p'.map (kas_item it)->failedOf st'=none->KasM.Pm N p'->UpS key p' 0 N->Q () st'):wpS (model prog w) A E s sortRuns' Q st:=by
 unfold sortRuns';rw[(sortPriv% PySem.Builtin.sortRuns.eq_def)];refine wpS_bind (wpS_get ?_)
 extract_lets -underBinder -merge -useContext +onlyGivenNames size
 clear_value (hsize:size=_)
 have hs:size=N:=by
  have:(arrOf st).size=N:=by rw[W.arr,Array.size_map];exact W.pm.size
  exact hsize.trans this
 subst hs;clear hsize
 extract_lets -underBinder -merge -useContext +onlyGivenNames minrun
 clear_value (hmr:minrun=_)
 clear hmr
 extract_lets -underBinder -merge -useContext +onlyGivenNames zq
 try subst zq
 walk_at "d"
 refine wpS_bind (wpS_mono (wpS_forRange (I:=λx c st'=>∃p' l lo,c=(none,lo)/\AX it κ size key st' p' l lo/\x<=lo) (Q:=λc st'=>∃p' l,c=(none,size)/\AX it κ size key st' p' l size) ?step ?fin ⟨p,[],0,rfl,W,Aw _⟩) ?post)
 case fin =>
  rintro c st' ⟨p',l,lo,rfl,W',hx⟩;have:=W'.le;obtain rfl:lo=size:=by lia
  exact⟨p',l,rfl,W'⟩
 case step =>
  rintro x c st' _ hx ⟨p',l,lo,rfl,W',hlo⟩;have hle:=W'.le
  extract_lets -underBinder -merge -useContext +onlyGivenNames zq
  try subst zq
  walk_at "d"
  refine Bm (λe=>?_) (λe=>?_);obtain rfl:lo=size:=by lia
  exact wpS_pure ⟨p',l,rfl,W'⟩;refine wpS_bind (VQ hc (W'.sg (n:=size-lo)) (by lia) (by lia) λm st2 p2 S2 m1 m2 up2=>?_);have W2:=W'.of S2
  walk_at "d"
  extract_lets -underBinder -merge -useContext +onlyGivenNames zq
  try subst zq
  walk_at "d"
  extract_lets -underBinder -merge -useContext +onlyGivenNames jp
  clear_value (hjp:jp=_)
  refine wpS_mono (Q:=λr st'=>match r with|.done c'=>∃p' l,c'=(none,size)/\AX it κ size key st' p' l size|.yield c'=>∃p' l lo,c'=(none,lo)/\AX it κ size key st' p' l lo/\x+1<=lo) ?_ (λr st' hr=>by cases r<;>exact hr)
  have J:∀(u:Unit)(n:Nat)(st3:SortSt)(p3:P'),AX it κ size key st3 p3 l lo->1<=n->lo+n<=size->UpS key p3 lo (lo+n)->wpS (model prog w) A E s (jp u n) (λr st'=>match r with|.done c'=>∃p' l,c'=(none,size)/\AX it κ size key st' p' l size|.yield c'=>∃p' l lo,c'=(none,lo)/\AX it κ size key st' p' l lo/\x+1<=lo) st3:=λu n st3 p3 W3 n1 n2 up3=>by
   rw[hjp]
   walk_at "d"
   refine wpS_bind (wpS_get ?_)
   extract_lets -underBinder -merge -useContext +onlyGivenNames jp2
   clear_value (hjp2:jp2=_)
   have J2:∀(u:Unit)(st4:SortSt)(p4:P')(l4:List (Nat×Nat×Nat)),AX it κ size key st4 p4 l4 lo->UpS key p4 lo (lo+n)->wpS (model prog w) A E s (jp2 u) (λr st'=>match r with|.done c'=>∃p' l,c'=(none,size)/\AX it κ size key st' p' l size|.yield c'=>∃p' l lo,c'=(none,lo)/\AX it κ size key st' p' l lo/\x+1<=lo) st4:=λu st4 p4 l4 W4 up4=>by
    rw[hjp2]
    walk_at "d"
    refine wpS_bind (wpS_modify ?_)
    extract_lets -underBinder -merge -useContext +onlyGivenNames zq
    try subst zq
    walk_at "d"
    refine wpS_pure ⟨p4,l4++[(lo,n,0)],lo+n,rfl,⟨W4.arr,W4.kd,W4.fl,?_,W4.pm,Bd.mpr ⟨lo,W4.ch,rfl,n1,rfl⟩,n2,λe he=>?_⟩,by lia⟩;show(pendingOf st4).push (lo,n,0)=_;rw[W4.pd];simp;rcases CG.mp he with he|he;exact W4.up e he;rw[BY.mp he];exact up4
   clear hjp2;generalize ((sortPriv% PySem.Builtin.SortState.pending) st3).back?=bk
   cases bk with
   |none=>
     walk_at "d"
     exact J2 () st3 p3 l W3 up3
   |some t=>
    obtain⟨s1,n1',z⟩:=t
    walk_at "d"
    extract_lets -underBinder -merge -useContext +onlyGivenNames pwr
    clear_value (hpw:pwr=_)
    clear hpw;refine wpS_bind (wpS_mono (wpS_forRange (I:=λx c st4=>c=(none,())/\∃p4 l4,AX it κ size key st4 p4 l4 lo/\UpS key p4 lo (lo+n)) (Q:=λc st4=>c=(none,())/\∃p4 l4,AX it κ size key st4 p4 l4 lo/\UpS key p4 lo (lo+n)) ?_ ?_ ⟨rfl,p3,l,W3,up3⟩) ?_);rintro y c st4 _ hy ⟨rfl,p4,l4,W4,up4⟩;refine wpS_bind (wpS_get ?_)
    extract_lets -underBinder -merge -useContext +onlyGivenNames pp
    clear_value (hpp:pp=_)
    have ep:pp=l4.toArray:=hpp.trans W4.pd;subst ep;clear hpp;rw[BR];by_cases hl:l4.length > 1;rw[Ap hl];obtain⟨l1,a,b,l2,rfl,el⟩:=Tb (l:=l4) (j:=l4.length-2) (by lia);have e2:(l1++a::b::l2).toArray[(l1++a::b::l2).length-2]?=some a:=(by rw[<-el];simp);rw[e2];obtain⟨a1,a2,a3⟩:=a
    walk_at "d"
    refine Bm (λ_=>wpS_pure ⟨rfl,p4,_,W4,up4⟩) (λ_=>?_);rw[<-el];refine wpS_bind (S9 hc W4 λst5 p5 e5 W5 out5=>?_)
    walk_at "d"
    exact wpS_pure ⟨rfl,p5,_,W5,λi j q1 Z q3=>by
     unfold KasM.K;rw[out5 i q1,out5 j (by lia)];exact up4 i j q1 Z q3⟩
    rw[An hl]
    walk_at "d"
    exact wpS_pure ⟨rfl,p4,l4,W4,up4⟩;rintro c st4 hh;exact hh;rintro c st4 ⟨rfl,p4,l4,W4,up4⟩
    extract_lets -underBinder -merge -useContext +onlyGivenNames zq
    try subst zq
    walk_at "d"
    walk_at "d"
    refine wpS_bind (wpS_modify ?_);rcases List.eq_nil_or_concat l4 with rfl|⟨l0,⟨f1,f2,f3⟩,rfl⟩;refine J2 () _ p4 [] ⟨W4.arr,W4.kd,W4.fl,?_,W4.pm,W4.ch,W4.le,W4.up⟩ up4;have e:∀n(f:Nat×Nat×Nat->Nat×Nat×Nat),(pendingOf st4).modify n f=#[]:=λn f=>by rw[W4.pd];rfl
    exact e ((pendingOf st4).size-1) (λx=>(x.1,x.2.1,pwr));obtain⟨c0,q1,Z⟩:=Bd.mp (by rw[List.concat_eq_append] at W4;exact W4.ch);rw[List.concat_eq_append] at W4;refine J2 () _ p4 (l0++[(f1,f2,pwr)]) ⟨W4.arr,W4.kd,W4.fl,?_,W4.pm,Bd.mpr ⟨c0,q1,Z⟩,W4.le,λe he=>?_⟩ up4
    have e:∀(f:Nat×Nat×Nat->Nat×Nat×Nat),(pendingOf st4).modify ((pendingOf st4).size-1) f=(l0++[f (f1,f2,f3)]).toArray:=λf=>by
     rw[W4.pd];apply Array.toList_inj.mp;rw[Array.toList_modify,BR,BF,Ju,Nat.add_sub_cancel];show(l0++[(f1,f2,f3)]).modify l0.length _=_;exact Tc
    exact e (λx=>(x.1,x.2.1,pwr));rcases CG.mp he with he|he;exact W4.up e (Jv _ he);rw[BY.mp he];exact W4.up (f1,f2,f3) (by simp)
  clear hjp;refine Bm (λhlt=>?_) (λhlt=>J () m st2 p2 W2 m1 (by lia) up2);refine wpS_bind (wpS_lift (D9 ⟨rfl,?_⟩))
  extract_lets -underBinder -merge -useContext +onlyGivenNames zq
  try subst zq
  walk_at "d"
  refine wpS_bind (VR hc (W2.sg (n:=min (size-lo) minrun)) m1 (by lia) (by lia) up2 λst3 p3 S3 up3=>?_);refine Bm (λe=>absurd e (by decide)) (λ_=>?_)
  extract_lets -underBinder -merge -useContext +onlyGivenNames zq
  try subst zq
  walk_at "d"
  exact J () _ st3 p3 (W2.of S3) (by lia) (by lia) up3
 case post =>
  rintro c st' ⟨p',l,rfl,W'⟩
  extract_lets -underBinder -merge -useContext +onlyGivenNames zq
  try subst zq
  try (extract_lets -underBinder -merge -useContext +onlyGivenNames zq;subst zq)
  walk_at "d"
  walk_at "d"
  have hl0:=Oo W'.ch;refine wpS_bind (wpS_mono (wpS_forRange (I:=λx c st2=>c=(none,())/\∃p2 l2,AX it κ size key st2 p2 l2 size/\(l2.length+x<=size\/l2.length<=1)) (Q:=λc st2=>c=(none,())/\∃p2 l2,AX it κ size key st2 p2 l2 size/\l2.length<=1) ?_ ?_ ⟨rfl,p',l,W',.inl (by lia)⟩) ?_);rintro y c st2 _ hy ⟨rfl,p2,l2,W2,hl⟩
  extract_lets -underBinder -merge -useContext +onlyGivenNames zq
  try subst zq
  walk_at "d"
  refine wpS_bind (wpS_get ?_)
  extract_lets -underBinder -merge -useContext +onlyGivenNames pp
  clear_value (hpp:pp=_)
  have ep:pp=l2.toArray:=hpp.trans W2.pd;subst ep;clear hpp;rw[BR];refine Bm (λe=>wpS_pure ⟨rfl,p2,l2,W2,e⟩) (λe=>?_)
  extract_lets -underBinder -merge -useContext +onlyGivenNames zq
  try subst zq
  try (extract_lets -underBinder -merge -useContext +onlyGivenNames zq;subst zq)
  extract_lets -underBinder -merge -useContext +onlyGivenNames zq
  try subst zq
  walk_at "d"
  have key2:∀j:Nat,j+1<l2.length->wpS (model prog w) A E s (mergeAt' j) (λr st3=>r=true/\∃p3 l3,AX it κ size key st3 p3 l3 size/\l3.length+1=l2.length) st2:=λj hj=>by
   obtain⟨l1,a,b,lz,rfl,el⟩:=Tb hj;rw[<-el];refine S9 hc W2 λst5 p5 e5 W5 _=>⟨rfl,p5,_,W5,?_⟩;simp;lia
  refine wpS_bind (wpS_mono (key2 _ ?_) λr st3⟨er,p3,l3,W3,hl3⟩=>?_);have hj:∀c:Bool,(if c=true then l2.length-2-1 else l2.length-2)+1<l2.length:=λc=>by split<;>lia
  exact hj _;subst er
  walk_at "d"
  exact wpS_pure ⟨rfl,p3,l3,W3,.inl (by lia)⟩;rintro c st2 ⟨rfl,p2,l2,W2,hl⟩;exact⟨rfl,p2,l2,W2,by lia⟩;rintro c st2 ⟨rfl,p2,l2,W2,hl⟩
  extract_lets -underBinder -merge -useContext +onlyGivenNames zq
  try subst zq
  walk_at "d"
  walk_at "d"
  refine wpS_pure (h st2 p2 W2.arr W2.fl W2.pm ?_)
  match l2,hl,W2 with
  |[],_,W2=>have:0=size:=W2.ch;lia
  |[(e1,e2,e3)],_,W2=>obtain⟨q1,Z,q3⟩:=W2.ch;have u:=W2.up (e1,e2,e3) (by simp);have q1:e1=0:=q1;have q3:0+e2=size:=q3;dsimp only at u;rw[q1,q3] at u;exact u
end
end Tim
namespace L2
open PySem PySem.Spec PyProof.Rows
section
variable {prog:Program} {w:World} {A:Around} {E:B'} {s:Shared}
def VS{O:KeyOrd}{key:Nat->O.α}{κ:SortKind}{a:Addr}{vs:E'}{n:Nat}{P:PySem.Fin->Shared->Prop}(g:s.heap.get? a=some (seqObj "list" vs.toArray n))(ab:vs.length<=50000)
 (aa:2<=vs.length->∀(h':Heap),(∀b o,b≠a->s.heap.get? b=some o->h'.get? b=some o)->∀(Q:SortKind->Shared->Prop),Q κ {s with heap:=h'}->wpAny (model prog w) A (keyKind' vs.toArray) Q (λ_ _=>False) {s with heap:=h'})
 (V:∀(h':Heap),(∀b o,b≠a->s.heap.get? b=some o->h'.get? b=some o)->∀(i j:Nat)(C:Bool->Shared->Prop),i<vs.length->j<vs.length->C (O.blt (key i) (key j)) {s with heap:=h'}->PySem.W.kas_ask prog w A κ vs i j C {s with heap:=h'})
 (h:∀d:O',d.Perm (List.range vs.length)->(∀i,i+1<d.length->O.kle (key (d.getD i 0)) (key (d.getD (i+1) 0)))->P (.done (.ret .none)) {s with heap:=sortedHeap s.heap a vs (d.map λi=>vs.getD i Value.none).toArray}) :
 wpAny (model prog w) A (Builtin.«list.sort» ⟨[.ref a],[]⟩) P E s:=by
 rw[list_sort_plain];have v:a<s.heap.objs.size:=AI g;have ae:vs.toArray.size=vs.length:=(by simp);refine Ac (listItems_at g rfl ?_);refine Ac (listUpdate_at g rfl ?_ (by rw[BR,sizeLine_eq];omega) (A9 _));obtain⟨r,z⟩:∃r,(s.heap.update a (Obj.mapSeq λ_=>#[])).get? a=some (seqObj "list" #[] r):=⟨_,get?_update_seq g (λ_=>#[])⟩;refine Ac (seqEpoch_at z rfl ?_);refine Ac (wpAny_newTuple ?_ (by show vs.length<=_;rw[sizeLine_eq];omega));refine Ac (wpAny_newList ?_ (A9 _));refine C1 ?_;have l:(((s.heap.update a (Obj.mapSeq λ_=>#[])).push (seqObj "tuple" vs.toArray 0)).push (seqObj "list" #[] 0)).get? a=some (seqObj "list" #[] r):=(by rw[Heap.get?_push_ne _ _ _ (by rw[size_push',Heap.size_update];exact Bu (Nat.lt_succ_of_lt v)),Heap.get?_push_ne _ _ _ (by rw[Heap.size_update];exact Bu v)];exact z)
 have keep:∀b o,b≠a->s.heap.get? b=some o->(((s.heap.update a (Obj.mapSeq λ_=>#[])).push (seqObj "tuple" vs.toArray 0)).push (seqObj "list" #[] 0)).get? b=some o:=λb o B q=>by
  refine AR _ (AR _ ?_);rw[Heap.get?_update_ne _ _ _ _ B];exact q
 show wpAny (model prog w) A _ P E {s with heap:=((s.heap.update a (Obj.mapSeq λ_=>#[])).push (seqObj "tuple" vs.toArray 0)).push (seqObj "list" #[] 0)};dsimp only;by_cases c:vs.toArray.size<2;rw[Ap c,Ap c];refine Ac (Al ?_);rw[StateT.run_pure];refine Ac (Al ?_);dsimp only;refine Ac (seqEpoch_at l rfl ?_);refine Ac (listUpdate_at l rfl ?_ (A9 _) (by rw[Array.size_map];show(pairsOf vs).size<=_;rw[pairsOf_size,sizeLine_eq];omega));simp only[bne_self_eq_false,Dn,if_false];have:=h (List.range vs.length) (List.Perm.refl _) (λi f=>by rw[p9] at f;omega);have e:((List.range vs.length).map λi=>vs.getD i Value.none).toArray=(arrOf (SortSt.mk' general' (vs.toArray.zip vs.toArray) #[] 7 none)).map (·.2):=(by apply Array.toList_inj.mp;show(List.range vs.length).map (λi=>vs.getD i Value.none)=((vs.toArray.zip vs.toArray).map (·.2)).toList;apply r6;intro k;by_cases y:k<vs.length;simp[y,A7];simp[y]);rw[e] at this;exact Al this;rw[An c,An c];have S:2<=vs.length:=(by omega);refine Ac (Do (aa S _ keep (λκ' t=>κ'=κ/\t=_) ⟨rfl,rfl⟩) ?_ λ_ _ x=>x.elim);rintro κ' t ⟨rfl,rfl⟩;have af:pairsOf vs=vs.toArray.zip vs.toArray:=rfl
 have W:Tim.Asks prog w A {s with heap:=((s.heap.update a (Obj.mapSeq λ_=>#[])).push (seqObj "tuple" vs.toArray 0)).push (seqObj "list" #[] 0)} O key κ' (vs.toArray.zip vs.toArray) vs.length:=λi j C D c F=>by
  have:=V _ keep i j C D c F;rw[PySem.W.kas_ask_eq] at this;exact this
 have X:arrOf (SortSt.mk' κ' (vs.toArray.zip vs.toArray) #[] 7 none)=(List.toArray (List.range vs.length)).map (PySem.W.kas_item (vs.toArray.zip vs.toArray)):=(by have e:=PySem.W.kas_range (vs.toArray.zip vs.toArray);rw[show(vs.toArray.zip vs.toArray).size=vs.length by simp] at e;exact e.symm)
 refine Ac (Do (Tim.sortRuns_ok (E:=E) (N:=vs.length) (st:=SortSt.mk' κ' (vs.toArray.zip vs.toArray) #[] 7 none) (p:=(List.range vs.length).toArray) (Q:=λ_ m=>∃p:P',arrOf m=p.map (PySem.W.kas_item (vs.toArray.zip vs.toArray))/\failedOf m=none/\KasM.Pm vs.length p/\Tim.UpS key p 0 vs.length)
  W ⟨X,rfl,rfl,rfl,Array.Perm.refl _,rfl,A9 _,λe G=>by simp at G⟩ (by omega) λm H I J K L=>⟨H,I,J,K,L⟩) ?_ λ_ _ e=>e)
 rintro⟨⟨⟩,m⟩ t ⟨rfl,p,T,M,u,U⟩;have Y:KasM.Asc key p vs.length:=λi f=>U i (i+1) (A9 _) (Nat.le_succ _) f;dsimp only;have Z:=PySem.W.kat_snds (ks:=vs) (vs:=vs) rfl T;rw[Z];refine Ac (seqEpoch_at l rfl ?_);refine Ac (listUpdate_at l rfl ?_ (A9 _) (by rw[BR,AD,Array.length_toList,u.size,sizeLine_eq];omega));rw[M];simp only[bne_self_eq_false,Dn,if_false];refine Al (h p.toList (by have:=Array.perm_iff_toList_perm.mp u;simpa using this) λi f=>?_);have R:=u.size;have:=Y i (by simpa [R] using f);simpa [KasM.K,q8,A7] using this
def VT{O:KeyOrd}{key:Nat->O.α}{κ:SortKind}{l:Addr}{vs:E'}{Q:B'}(g:s.heap.IsList l vs.toArray)(v:vs.length<=50000)
 (y:2<=vs.length->∀(h':Heap),(∀b o,s.heap.get? b=some o->h'.get? b=some o)->∀(Q:SortKind->Shared->Prop),Q κ {s with heap:=h'}->wpAny (model prog w) A.in1.in1 (keyKind' vs.toArray) Q (λ_ _=>False) {s with heap:=h'})
 (x:∀(h':Heap),(∀b o,s.heap.get? b=some o->h'.get? b=some o)->∀(i j:Nat)(C:Bool->Shared->Prop),i<vs.length->j<vs.length->C (O.blt (key i) (key j)) {s with heap:=h'}->PySem.W.kas_ask prog w A.in1.in1 κ vs i j C {s with heap:=h'})
 (h:∀(D:Addr)(h':Heap)(n:Nat)(a:O'),(∀b o,s.heap.get? b=some o->h'.get? b=some o)->(∀b o,s.heap.get? b=some o->b≠D)->a.Perm (List.range vs.length)->(∀i,i+1<a.length->O.kle (key (a.getD i 0)) (key (a.getD (i+1) 0))) ->
  h'.get? D=some (seqObj "list" (a.map λi=>vs.getD i Value.none).toArray n)->Q (.ref D) {s with heap:=h'}) :
 wpAny (model prog w) A (call (.builtin "sorted") [.ref l]) Q E s:=by
 refine Calls.call_function_entry kind_sorted plain_sorted entry_sorted (args_sorted1 _) ?_;unfold Builtin.«sorted»;refine Ac (m:=checkCount "sorted" 1 1 _) (Al ?_);refine Ac (collect_list g ?_ (by rw[sizeLine_eq];omega));refine Ac (wpAny_newList ?_ (by rw[sizeLine_eq];omega));have d:((s.heap.push (seqObj "list" #[] 0)).update s.heap.objs.size (Obj.mapSeq (·++vs.toArray))).objs.size=s.heap.objs.size+1:=(by rw[Heap.size_update,size_push']);have e:(((s.heap.push (seqObj "list" #[] 0)).update s.heap.objs.size (Obj.mapSeq (·++vs.toArray))).push (seqObj "list" vs.toArray 0)).get? (s.heap.objs.size+1)=some (seqObj "list" vs.toArray 0):=(by rw[<-d];exact BG _ rfl)
 have keep:∀b o,s.heap.get? b=some o->(((s.heap.push (seqObj "list" #[] 0)).update s.heap.objs.size (Obj.mapSeq (·++vs.toArray))).push (seqObj "list" vs.toArray 0)).get? b=some o:=λb o q=>by
  have f:b<s.heap.objs.size:=AI q;rw[Heap.get?_push_ne _ _ _ (by rw[d];exact Bu (Nat.lt_succ_of_lt f)),Heap.get?_update_ne _ _ _ _ (Bu f),Heap.get?_push_ne _ _ _ (Bu f)];exact q
 have c:∀b o,s.heap.get? b=some o->b≠s.heap.objs.size+1:=λb o q=>Bu (Nat.lt_succ_of_lt (AI q));show wpAny _ _ _ _ _ {s with heap:=((s.heap.push (seqObj "list" #[] 0)).update s.heap.objs.size (Obj.mapSeq (·++vs.toArray))).push (seqObj "list" vs.toArray 0)};rw[d];refine Ac (C1 (wpAny_call_entry slot_list_sort ⟨_,e,rfl⟩ entry_list_sort ?body (args_list_sort _)))
 case body =>
  refine VS (s:={s with heap:=((s.heap.push (seqObj "list" #[] 0)).update s.heap.objs.size (Obj.mapSeq (·++vs.toArray))).push (seqObj "list" vs.toArray 0)}) (key:=key) (κ:=κ) e v
   (λp h' k=>y p h' λb o q=>k b o (c b o q) (keep b o q)) (λh' k=>x h' λb o q=>k b o (c b o q) (keep b o q)) λa r t=>?_
  obtain⟨n,u⟩:=sortedHeap_at (vs:=vs) (out:=(a.map λi=>vs.getD i Value.none).toArray) e;refine⟨_,rfl,Al ⟨_,rfl,h (s.heap.objs.size+1) _ n a (λb o q=>?_) c r t u⟩⟩;show(sortedHeap (((s.heap.push (seqObj "list" #[] 0)).update s.heap.objs.size (Obj.mapSeq (·++vs.toArray))).push (seqObj "list" vs.toArray 0)) (s.heap.objs.size+1) vs _).get? b=some o;rw[sortedHeap_old (c b o q) (AI (keep b o q))];exact keep b o q
end
open PySem.SeqAt
section
variable {X:Cx}
abbrev FK (c:Enc):Type:=V×c.O.α
def Oq (X:Cx) (c:Enc):R'->Hp->VK->Prop:=λvs H Q=>∃(l:Addr)(zs:List (FK c)),vs=[.ref l]/\Ag X.K H l (zs.map (·.1))/\zs.length<=900 /\
 (∀z∈zs,Av X.K H z.1 (c.D z.2))/\∀(D:Addr)(zs':List (FK c)),zs'.Perm zs->(zs'.map (·.2)).Pairwise c.O.kle->H D=none->Q (.ref D) (upd H D (.lst (zs'.map (·.1))))
theorem Qr(c:Enc)(κ:SortKind)
 (aj:∀(pins:A')(σ:St)(H:Hp)(s:Shared)(zs:List (FK c))(f:E')(Q:SortKind->Shared->Prop),Inv X pins σ H s->Am (zs.map (·.1)) f->(∀z∈zs,Av X.K H z.1 (c.D z.2))->2<=f.length->Q κ s->wpAny (model X.prog X.w) X.A.in1.in1 (keyKind' f.toArray) Q (λ_ _=>False) s)
 (ai:∀(pins:A')(σ:St)(H:Hp)(s:Shared)(z g:FK c)(x y:Value)(C:Bool->Shared->Prop),Inv X pins σ H s->Av X.K H z.1 (c.D z.2)->Av X.K H g.1 (c.D g.2)->RelV z.1 x->RelV g.1 y->C (c.O.blt z.2 g.2) s->wpAny (model X.prog X.w) X.A.in1.in1 (keyLt' κ x y) C (λ_ _=>False) s) :
 A1 X (.builtin "sorted") (Oq X c):=by
 intro pins s σ H vs us Q I r h;obtain⟨l,zs,rfl,K,ao,t,q⟩:=h;obtain⟨u,rfl,L⟩:=EL r;obtain rfl:u=Value.ref l:=L;obtain⟨f,o,M,_⟩:=I.list K;have G:zs.length=f.length:=by have:=o.length;rwa [AD] at this
 let a:FK c:=(V.non,c.dflt)
 have p:∀i,i<zs.length->RelV (zs.getD i a).1 (f.getD i Value.none)/\Av X.K H (zs.getD i a).1 (c.D (zs.getD i a).2):=λi b=>by
  have:=M9 o i V.non Value.none (by rw[AD];exact b);have e:(zs.map (·.1)).getD i V.non=(zs.getD i a).1:=(by rw[A7,BP,A7,AQ b];rfl);rw[e] at this;refine⟨this,t _ ?_⟩;rw[A7,AQ b];exact EE b
 refine VT (O:=c.O) (key:=λi=>(zs.getD i a).2) (κ:=κ) (vs:=f) M.isList (by omega) (λm v k N P=>?_) (λv k i j C b hj R=>?_) λD v n d S w F ae T=>?_;exact aj pins σ H _ zs f N (I.kept (t':=s.toks) k) o t m P;obtain⟨U,W⟩:=p i (by omega);obtain⟨Y,Z⟩:=p j (by omega);unfold PySem.W.kas_ask;exact ai pins σ H _ _ _ _ _ C (I.kept (t':=s.toks) k) W Z U Y R
 have af:∀i∈d,i<zs.length:=λi b=>by
  have:=F.mem_iff.mp b;rw[G];simpa using this
 have ak:(List.range zs.length).map (λi=>zs.getD i a)=zs:=(by apply r6;intro k;by_cases A:k<zs.length;simp[A,A7];simp[A])
 have J:(d.map λi=>zs.getD i a).Perm zs:=by
  have:=F.map (λi=>zs.getD i a)
  rwa [<-G,ak] at this
 have hv:Am ((d.map λi=>zs.getD i a).map (·.1)) (d.map λi=>f.getD i Value.none):=(by rw[Dl];exact Oe d λi b=>(p i (af i b)).1)
 have ag:((d.map λi=>zs.getD i a).map (·.2)).Pairwise c.O.kle:=by
  refine Od (λ_ _ _=>KeyOrd.kle_trans) _ λi al an B m=>?_;rw[Dl,BP,Dd] at B m;obtain⟨x,e1,rfl⟩:=B;obtain⟨y,E,rfl⟩:=m;obtain⟨ah,_⟩:=Cd.mp E;have:=ae i ah;have aa:d.getD i 0=x:=by rw[A7,e1];rfl
  have ab:d.getD (i+1) 0=y:=by rw[A7,E];rfl
  rw[aa,ab] at this;exact this
 exact⟨.ref D,upd H D (.lst ((d.map λi=>zs.getD i a).map (·.1))),I.laidN (t':=s.toks) S w ⟨by rw[AD,J.length_eq];exact CZ (BQ (by omega)),_,n,hv,T⟩,rfl,q D _ J ag (I.freshN w)⟩
variable {s:Shared}{x:Value}
def Qs{pins:A'}{σ:St}{H:Hp}{M:Model}(I:Inv X pins σ H s){v:V}{a:List Dt}(h:Av X.K H v (.lst a))(r:RelV v x):PySem.W.Looks M s.heap (typeOf x) (.type "list"):=by
 cases h with|lst h t=>cases r;obtain⟨d,_,p,_⟩:=I.list h;obtain⟨o,b,c,_⟩:=p.isList;rw[<-c];exact(PySem.W.Looks.ld b).andThen .now
def VU(c:Enc)(J:X.A.units+64<cLine)(hd:c.dep<=50):A1 X (.builtin "sorted") (Oq X (DK c)):=by
 refine Qr (DK c) oneType' (λG σ H s f E Q I b g j k=>?_) λG σ H s z l x y C I h a r m n=>?_;refine PySem.W.kas_kind (T:=.type "list") j (λv o=>?_) (by decide) (by decide) k;obtain⟨i,d⟩:=List.getElem?_of_mem o;have L:=(Cd.mp d).1;have q:=b.length;rw[AD] at q;obtain⟨x,e,w⟩:=b.get (i:=i) (x:=(f[i]'(by omega)).1) (by rw[BP,AQ (by omega)];rfl);rw[d] at e;cases e;exact Qs I (g _ (EE (by omega))) w;rw[keyLt'_oneType];obtain⟨v,K⟩:=z;obtain⟨u,bs⟩:=l
 cases h with
 |lst h t=>
  cases a with|lst a A=>cases r;cases m;obtain⟨E,B,p,_⟩:=I.list h;obtain⟨M,F,D,_⟩:=I.list a;exact SM p.isList D.isList (c.lexL I (by show _+1+1+1+_<_;omega) t A B F) (by show _+1+1<_;omega) n
theorem Qt(c:Enc){pins:A'}{σ:St}{H:Hp}{s:Shared}(I:Inv X pins σ H s){g:c.O.α->List Dt}:∀{zs:List (V×c.O.α)}{f:E'}{k:c.O.α->List Dt},Am (zs.map (·.1)) f->(∀z∈zs,∃b,k z.2=Dt.lst b::g z.2/\Av X.K H z.1 (.tup (k z.2))) ->
 ∃fs,PySem.W.KatTups s.heap f fs/\fs.length=zs.length/\∀v∈fs,∃(u:V)(b:List Dt),Av X.K H u (.lst b)/\RelV u v
 |[],_,_,.nil,_=>⟨[],.nil,rfl,λ_ x=>by cases x⟩
 | z :: zs,_,k,.cons r i,h=>by
   obtain⟨fs,k1,k2,k3⟩:=Qt c I (zs:=zs) i λy j=>h y (Dc _ j);obtain⟨b,e,hd⟩:=h z CH;rw[e] at hd;obtain⟨v,a⟩:=z;dsimp only at r hd
   cases hd with
   | tup l t=>
    cases r;obtain⟨f,m,⟨o,p,q,n,A⟩,_⟩:=I.tuple l
    cases t with
    |cons B D=>
     cases m with
     |cons C E=>refine⟨_::fs,.cons p q A rfl k1,by simp[k2],λw d=>?_⟩;rcases BL.mp d with e|d;exact⟨_,b,B,e▸C⟩;exact k3 w d
def Qu{A:Around}{prog:Program}{w:World}{E:B'}{y:Value}{b:Bool}{Q:Bool->Shared->Prop}(h:BN A s x y b)(q:Q b s):wpAny (model prog w) A (oneLt' false x y) Q E s:=
 PySem.W.kat_one _ _ (h prog w E _ q)
def GJ(c:Enc){pins:A'}{σ:St}{H:Hp}(I:Inv X pins σ H s){A:Around}{a bs:List c.O.α}{v u:V}{y:Value}{prog:Program}{w:World}{E:B'}{Q:Bool->Shared->Prop}(h:Av X.K H v ((DK c).D a))(h':Av X.K H u ((DK c).D bs))(r:RelV v x)(b:RelV u y)(i:A.units+(c.dep+1)<cLine)(q:Q (DT c.O a bs) s):wpAny (model prog w) A (oneLt' true x y) Q E s:=by
 cases h with
 |lst h t=>
  cases h' with|lst h' d=>cases r;cases b;obtain⟨j,e,p,_⟩:=I.list h;obtain⟨k,g,f,_⟩:=I.list h';exact SM p.isList f.isList (c.lexL I (by rw[Hi];omega) t d e g) (by omega) q
def VV (c d:Enc) (hu:X.A.units + 64 < cLine) (h1:c.dep<=50) (h2:d.dep<=50):A1 X (.builtin "sorted") (Oq X (Ma (DK c) d)):=by
 refine Qr (Ma (DK c) d) (tuples' true) (λaf σ H s zs V ag I m J hl K=>?_) λaf σ H s z L x ah C I h n r o a=>?_;obtain⟨fs,M,k2,N⟩:=Qt (Ma (DK c) d) I (k:=λp=>[(DK c).D p.1,d.D p.2]) (g:=λp=>[d.D p.2]) m λz W=>⟨_,rfl,J z W⟩;have Y:=m.length;rw[AD] at Y;refine PySem.W.kat_kind (T:=.type "list") M (by omega) (λv O=>?_) (by decide) K;obtain⟨u,ds,P,Q⟩:=N v O;exact Qs I P Q;obtain⟨v,p⟩:=z;obtain⟨u,q⟩:=L;dsimp only at h n r o;change C ((Ma (DK c) d).O.blt p q) s at a;have j:X.A.in1.in1.units=X.A.units+1+1:=rfl
 cases h with
 | tup R t=>
  cases n with
  | tup aa b=>
   cases r;cases o;obtain⟨V,e,⟨ox,ab,_,ai,S⟩,_⟩:=I.tuple R;obtain⟨ak,f,⟨oy,ae,_,aj,U⟩,_⟩:=I.tuple aa
   cases t with
   | cons w t=>cases t with
     | cons y t=>cases t; cases b with
       | cons B b=>cases b with
         | cons D b=>cases b; cases e with
           |cons E e=>cases e with
             |cons F e=>cases e; cases f with
               |cons G f=>cases f with
                 |cons Z f=>
                  cases f;refine PySem.W.kat_lt ab S ae U (PySem.W.kat_cons ((DK c).eq (A:=X.A.in1.in1) I w B E G (by rw[j];show _+(c.dep+1)<_;omega) _ _ _ _ ?_));by_cases i:p.1=q.1;rw[Em i];rw[show(Ma (DK c) d).O.blt p q=d.O.blt p.2 q.2 from L9 p q i] at a;refine PySem.W.kat_yes (PySem.W.kat_cons (d.eq (A:=X.A.in1.in1) I y D F Z (by rw[j];omega) _ _ _ _ ?_));by_cases l:p.2=q.2;rw[Em l];refine PySem.W.kat_yes (PySem.W.kat_nil ?_);rw[l,d.O.irrefl] at a;exact a;rw[FF l];exact PySem.W.kat_no (Qu (d.lt I y D F Z (by rw[j];omega)) a);rw[FF i];rw[show(Ma (DK c) d).O.blt p q=DT c.O p.1 q.1 from Ky p q i] at a;exact PySem.W.kat_no (GJ c I w B E G (by rw[j];omega) a)
def VW (c d e:Enc) (hu:X.A.units + 64 < cLine) (h1:c.dep<=50) (h2:d.dep<=50) (h3:e.dep<=50):A1 X (.builtin "sorted") (Oq X (Jh (DK c) d e)):=by
 refine Qr (Jh (DK c) d e) (tuples' true) (λai σ H s zs aa aj I o P hl Q=>?_) λai σ H s z R x ak C I h w r y a=>?_;obtain⟨fs,S,k2,U⟩:=Qt (Jh (DK c) d e) I (k:=λp=>[(DK c).D p.1,d.D p.2.1,e.D p.2.2]) (g:=λp=>[d.D p.2.1,e.D p.2.2]) o λz ab=>⟨_,rfl,P z ab⟩;have ae:=o.length;rw[AD] at ae;refine PySem.W.kat_kind (T:=.type "list") S (by omega) (λv V=>?_) (by decide) Q;obtain⟨u,ds,W,Y⟩:=U v V;exact Qs I W Y;obtain⟨v,p⟩:=z;obtain⟨u,q⟩:=R;dsimp only at h w r y;change C ((Jh (DK c) d e).O.blt p q) s at a;have j:X.A.in1.in1.units=X.A.units+1+1:=rfl
 cases h with
 | tup hs t=>
  cases w with
  | tup af b=>
   cases r;cases y;obtain⟨aa,f,⟨ox,ag,_,al,dx⟩,_⟩:=I.tuple hs;obtain⟨ao,i,⟨oy,ah,_,an,dy⟩,_⟩:=I.tuple af
   cases t with
   | cons B t=>cases t with
     | cons D t=>cases t with
       | cons E t=>cases t; cases b with
         | cons F b=>cases b with
           | cons G b=>cases b with
             | cons J b=>cases b; cases f with
               | cons K f=>cases f with
                 | cons L f=>cases f with
                   |cons M f=>cases f; cases i with
                     |cons N i=>cases i with
                       |cons Z i=>cases i with
                         |cons O i=>
                          cases i;refine PySem.W.kat_lt ag dx ah dy (PySem.W.kat_cons ((DK c).eq (A:=X.A.in1.in1) I B F K N (by rw[j];show _+(c.dep+1)<_;omega) _ _ _ _ ?_));by_cases l:p.1=q.1;rw[Em l];rw[show(Jh (DK c) d e).O.blt p q=(Br d.O e.O).blt p.2 q.2 from L9 p q l] at a;refine PySem.W.kat_yes (PySem.W.kat_cons (d.eq (A:=X.A.in1.in1) I D G L Z (by rw[j];omega) _ _ _ _ ?_));by_cases m:p.2.1=q.2.1;rw[Em m];rw[show(Br d.O e.O).blt p.2 q.2=e.O.blt p.2.2 q.2.2 from L9 p.2 q.2 m] at a;refine PySem.W.kat_yes (PySem.W.kat_cons (e.eq (A:=X.A.in1.in1) I E J M O (by rw[j];omega) _ _ _ _ ?_));by_cases n:p.2.2=q.2.2;rw[Em n];refine PySem.W.kat_yes (PySem.W.kat_nil ?_);rw[n,e.O.irrefl] at a;exact a;rw[FF n];exact PySem.W.kat_no (Qu (e.lt I E J M O (by rw[j];omega)) a);rw[FF m];rw[show(Br d.O e.O).blt p.2 q.2=d.O.blt p.2.1 q.2.1 from Ky p.2 q.2 m] at a;exact PySem.W.kat_no (Qu (d.lt I D G L Z (by rw[j];omega)) a);rw[FF l];rw[show(Jh (DK c) d e).O.blt p q=DT c.O p.1 q.1 from Ky p q l] at a;exact PySem.W.kat_no (GJ c I B F K N (by rw[j];omega) a)
end
def Nk (K:Ah) (l:Addr):It:=
 ⟨λi H=>∃xs x,Ag K H l xs/\xs[i]?=some x,
  λi H v H'=>∃T x,H T=none/\v=.ref T/\H'=upd H T (.tup [.int i,x])/\∀xs,Ag K H l xs->xs[i]?=some x,
  λi H=>∃xs,Ag K H l xs/\xs.length<=i⟩
def KD (e it l:Addr) (i:Nat) (h:Heap):Prop:=(∃old,IsEnum h e it i old)/\h.IsListIter it l i
variable {es:M'}{G:Pos}
theorem VX{P:Program}{w:World}{K:Ah}{k:Nat}{e d l:Addr}(Y:e≠d) :
 Ep P w K (.Tuple es k G) (Nk K l) [e,d] e (KD e d l) where
 mem:=by simp
 obj:=λi h g b a=>by obtain⟨⟨A,f⟩,⟨o1,F,c1,d1⟩⟩:=g;simp at a;rcases a with rfl|rfl;exact⟨_,f,λv q=>by cases q⟩;exact⟨_,F,λv q=>by rw[d1] at q;cases q⟩
 keep:=λi h h' g V=>by obtain⟨⟨A,f⟩,m⟩:=g;exact⟨⟨A,V e (by simp) _ f⟩,m.at λo x=>V d (by simp) o x⟩
 item:=by
  intro X J L M n i T s σ H ab I y g N;subst J L M;obtain⟨xs,x,E,W⟩:=N;obtain⟨⟨A,f⟩,m⟩:=g;obtain⟨ar,S,O,ah⟩:=I.list E;obtain⟨C,ai,aj⟩:=S.get W;refine wpAny_pyNext_enum_item f m O.isList (x:=C) (by simpa using ai) Y λh' a1 a2 a3 a4 hk=>?_;refine⟨_,rfl,wpAny_letOwnedTupleGo_enum (s:={s with heap:=h',toks:=s.toks+1}) a1 λB au U=>?_⟩;have p:=y e (by simp);have r:=y d (by simp);have G9:∀b u,H b=some u->b≠e/\b≠d:=λb u z=>⟨AM z p.1,AM z r.1⟩;have keep:∀b o,b≠e->b≠d->s.heap.get? b=some o->B.get? b=some o:=λb o D Q z=>(U.2 b D).trans (hk b o D Q z);have t:∀{b:Addr},b∉[e,d]->b≠e/\b≠d:=λ{b}a=>by simpa using a
  have I1:Inv X T σ H {s with heap:=B,toks:=s.toks+1}:=by
   refine I.step (g':=s.gens) (t':=s.toks+1) (d':=s.drawn) (h':=B) (ch:=[e,d]) (λb a=>?_) (λb j _ _ a z _=>keep b j (t a).1 (t a).2 z) (λb j _ _ a z _=>⟨j.slots,keep b j (t a).1 (t a).2 z⟩)
    (λ_ _ _ _ ae=>ae) (λb j a z=>⟨j,keep b j (t a).1 (t a).2 z⟩) (λ_ _ z=>z) (λ_ _ _ z=>z) (λb ps z=>⟨#[],by rw[z];simp⟩) (λav hm=>?_) (λb u z=>?_) I.bare
   have:b=e\/b=d:=(by simpa using a);rcases this with rfl|rfl;exact⟨p.2.2.2.1,p.2.1,p.2.2.2.2.1,p.2.2.2.2.2⟩;exact⟨r.2.2.2.1,r.2.1,r.2.2.2.2.1,r.2.2.2.2.2⟩;obtain⟨o,es,ep,ho,af⟩:=hm;exact⟨o,es,ep,keep _ o (Ne.symm p.2.1) (Ne.symm r.2.1) ho,af⟩;refine(I.hok b u z).stay (λc v n q=>?_) (λ_ q=>q) λ_ _ q=>q;have ak:∃R,H c=some R:=(by rcases n with rfl|n;exact⟨_,z⟩;exact⟨_,n⟩);obtain⟨R,e'⟩:=ak;obtain⟨D,Q⟩:=G9 c R e';exact keep c v D Q q
  have al:s.heap.objs.size≠e:=Nat.ne_of_gt (AI f);have Z:H s.heap.objs.size=none:=I.hok.fresh (Aw _);have aa:B.get? s.heap.objs.size=some {cls:=.type "tuple",data:=.seq #[.int i s.toks,C]}:=(U.2 _ al).trans a3;have I2:Inv X T σ (upd H s.heap.objs.size (.tup [.int i,x])) {s with heap:=B,toks:=s.toks+1}:=(by refine I1.track (I.fpOk (Aw _) Z) ⟨_,aa⟩ ?_;exact⟨by show 2<=sizeLine;decide,[.int i s.toks,C],.cons ⟨_,rfl⟩ (.cons aj .nil),⟨_,aa,rfl,_,rfl⟩⟩);refine⟨.ref s.heap.objs.size,_,I2,rfl,⟨s.heap.objs.size,x,Z,rfl,rfl,λzs an=>by rw[I.list_inj an E];exact W⟩,?_,λb a=>?_⟩;refine⟨⟨C,by simpa using au⟩,a2.extBut U.extBut (Ne.symm Y)⟩;have ao:=(y b a).1;rw[Ax (λq=>?_)];exact ao;have aq:b=e\/b=d:=(by simpa using a);obtain⟨o1,F,_⟩:=m;have lt:b<s.heap.objs.size:=(by rcases aq with rfl|rfl;exact AI f;exact AI F);rw[q] at lt;exact absurd lt (D7 _)
 done:=by intro X J L M n i T s σ H ab I y g N;subst J L M;obtain⟨xs,E,ay⟩:=N;obtain⟨⟨A,f⟩,m⟩:=g;obtain⟨ar,S,O,ah⟩:=I.list E;have ax:=S.length;obtain⟨f0,ag,aw,f3,f4,f5⟩:=y d (by simp);exact wpAny_pyNext_enum_end (I.ok.hd n) f m O.isList (by simp;omega) λh' eb=>⟨rfl,I.turned (t':=s.toks) (λb o a z=>eb b o a z) f0 ag f3 f4 f5⟩
 self:=λ_ _ _ _ _ g h=>by obtain⟨⟨A,f⟩,_⟩:=g;exact wpAny_pyIter_enum f h
def Nl (K:Ah) (B:TA):TI:=λσ H R=>B σ H λvs Y=>∃l,vs=[.ref l]/\(∃xs,Y l=some (.lst xs))/\R (Nk K l) Y
variable {X:Cx}
def Qv{k:Nat}{c:Pos}{a:Expr}{B:TA}{p:Pos}(j:Gl X "enumerate")(m:X.mg "enumerate" = none)(o:PA X [a] B)(r:starEach [a] X.env=[(false,eval a X.env)]:=by rfl) :
 PI X (.Tuple es k c) (.Call (.Name "enumerate" p) [a] [] G) (Nl X.K B):=by
 intro J s σ H R I h;refine Call_ (IT I j m (u:=.type "enumerate") (by decide +kernel) (PyProof.Rows.callWith_type1 (AG (o G J s σ H _ I h) λK d⟨L,Y,f,t,v⟩=>?_) (by rw[r];rfl) (by rfl)));obtain⟨l,rfl,⟨M,w⟩,q⟩:=v;obtain⟨x,rfl,E⟩:=EL t;obtain rfl:x=Value.ref l:=E;obtain⟨z,P,n,N,e⟩:=f.hok l _ w;have O:l<d.heap.objs.size:=AI e;refine call_enumerate_1 e λy g A Q C=>?_;refine wpAny_pyIter_enum (s:={d with heap:=y}) g ?_;refine⟨_,[d.heap.objs.size+1,d.heap.objs.size],_,_,Y,rfl,f.kept (t':=d.toks) C,VX (Nat.succ_ne_self _),⟨⟨_,g⟩,A⟩,λb D=>?_,q⟩;have i:d.heap.objs.size<=b:=(by have F:b=d.heap.objs.size+1\/b=d.heap.objs.size:=(by simpa using D);rcases F with rfl|rfl;exact Nat.le_add_right _ _;exact Aw _);exact f.fpOk i (f.hok.fresh i)
def Qw{K:Ah}{l:Addr}{xs:R'}{g:TG}{tb:TS}{D:Ends}{σ:St}{H:Hp}(Pv:Nat->St->Hp->Prop)(d:Pv 0 σ H)(f:∀i σ H,Pv i σ H->Ag K H l xs)
 (h:∀i x T σ H,xs[i]?=some x->H T=none->Pv i σ H->g (.ref T) σ (upd H T (.tup [.int i,x])) λσ2 U=>tb {D with nx:=Pv (i+1),ct:=Pv (i+1),bk:=D.nx} σ2 U) (hd:∀σ H,Pv xs.length σ H->D.nx σ H) :
 ∃W:Nat->Nat->St->Hp->Prop,(∃m,W 0 m σ H)/\∀i m σ H,W i m σ H ->
  ((Nk K l).stop i H/\D.nx σ H)\/((Nk K l).go i H/\∃N:St->Hp->Prop,(∀σ' H',N σ' H'->∃b,b<m/\W (i+1) b σ' H')/\∀x H',(Nk K l).yld i H x H'->g x σ H' λσ2 U=>tb {D with nx:=N,ct:=N,bk:=D.nx} σ2 U):=by
 refine⟨λi m σ H=>m=xs.length-i/\i<=xs.length/\Pv i σ H,⟨_,rfl,A9 _,d⟩,?_⟩;rintro i m σ H ⟨rfl,o,p⟩;have a:=f i σ H p;by_cases c:i<xs.length;refine .inr ⟨⟨xs,xs[i],a,by simp[c]⟩,Pv (i+1),λσ' H' j=>⟨xs.length-(i+1),by omega,rfl,c,j⟩,λv H' y=>?_⟩;obtain⟨T,x,k,rfl,rfl,n⟩:=y;exact h i x T σ H (n xs a) k p;have e:i=xs.length:=(by omega);refine .inl ⟨⟨xs,a,by omega⟩,?_⟩;rw[e] at p;exact hd σ H p
def Mf (h:Heap) (e T:Addr) (cls fl:Value) (dd:Option Addr):Prop:=
 ∃l vs oT ts,h.get? e=some l/\l.cls=cls/\l.dict=dd/\l.data=.fields vs/\vs[1]?=some (.ref T)/\T≠e/\h.get? T=some oT/\oT.data=.fields ts/\ts[3]?=some fl/\vs[2]?=some .none
abbrev Ot (h:Heap) (e T:Addr) (cls:Value) (dd:Option Addr):Prop:=Mf h e T cls .none dd
structure Ee (l:List Env) (e T T':Addr) (cls fl:Value) (dd:Option Addr) (h h':Heap):Prop where
 fly:Mf h' e T' cls fl dd
 tr:T'=T\/h.get? T'=none
 keep:∀b o,h.get? b=some o->b≠e->b≠T->b∉BM l->h'.get? b=some o
 slot:∀b o,h.get? b=some o->b∈BM l->∃sl,h'.get? b=some {o with slots:=sl}
abbrev HY (l:List Env) (e T T':Addr) (cls:Value) (dd:Option Addr) (h h':Heap):Prop:=Ee l e T T' cls .none dd h h'
section
variable {M:Model} {A:Around} {E:B'} {s:Shared} {base:Heap} {env:Env} {outer:List Env} {L e T:Addr} {cls fl:Value} {dd:Option Addr} {Q:Unit->Shared->Prop}
variable {l:Obj}{vs:L'}
def Td{head:Value}{K:Bool}(J:A.frames=some (env::outer))(r:s.heap.FunFrames base (env::outer))(F:env.frame=some L)(t:s.heap.get? e=some l)(hd:l.data=.fields vs)(hsz:1<vs.size)
 (h:∀h' f,(∀b o,s.heap.get? b=some o->b≠e->b∉BM (env::outer)->h'.get? b=some o)->(∀b o,s.heap.get? b=some o->b∈BM (env::outer)->∃g,h'.get? b=some {o with slots:=g})->s.heap.get? f=none->f≠e ->
  (∃p,h'.get? e=some p/\p.cls=l.cls/\p.dict=l.dict/\p.data=.fields (vs.setIfInBounds 1 (.ref f)))->(∃u v,h'.get? f=some u/\u.data=.fields v/\v[3]?=some (rawInt L))->Q () {s with heap:=h'}) :
 wpAny M A (do let a <-frameOf env;let i <-entryPlaceOf L K;let b <-EntryCells.newEntry head a .none (rawInt L) .none i;setField (.ref e) 1 b) Q E s:=by
 have ne:e∉BM (env::outer):=λm=>by
  obtain⟨_,o,w,G⟩:=r.mem m;rw[t] at w;cases w;exact G vs hd
 refine Ac (wpAny_frameOf_fun J r F λd j=>?_);refine Ac (wpAny_entryPlaceOf λi C=>?_);unfold EntryCells.newEntry newFields;refine Ac (wpAny_newObj_type ?_ (C.sizeOk5 _ _ _ _ _));generalize D:({cls:=.type "traceback",dict:=none,data:=.fields ([head,.ref L,.none,rawInt L,.none]++(if i.isEmpty then List.replicate 6 Value.none else i)).toArray}:Obj)=k;have x:d.get? e=some l:=(j.2.1 e ne).trans t;have Z:(d.push k).get? e=some l:=AR _ x;have y:d.objs.size≠e:=Nat.ne_of_gt (AI x);refine wpAny_setField Z hd hsz (h _ d.objs.size (λb o q n m=>?_) (λb o q m=>?_) ?_ y ?_ ?_);rw[Heap.get?_update_other _ _ (Ne.symm n)];exact AR _ ((j.2.1 b m).trans q);obtain⟨g,H⟩:=j.2.2 b o q;refine⟨g,?_⟩;rw[Heap.get?_update_other _ _ (λz=>ne (by rw[z];exact m))];exact AR _ H;exact Heap.get?_none_of_le (by rw[j.1];exact Aw _);have B:=Obj.data_mapFields hd (·.setIfInBounds 1 (Value.ref d.objs.size));refine⟨_,r9 _ Z (Obj.isFreed_of_fields B),Obj.cls_mapFields _ _,?_,B⟩;obtain⟨c,dd,dt,g⟩:=l;cases dt<;>first|rfl|(simp at hd)
 . have I:(d.push k).get? d.objs.size=some k:=BG _ (by rw[<-D];rfl)
   refine⟨k,_,(Heap.get?_update_other _ _ (Ne.symm y)).trans I,by rw[<-D],?_⟩
   first|(simp;done)|(rcases C with rfl|⟨_,_,_,_,_,_,_,rfl⟩<;>simp)
def Te(aa:A.frames=some (env::outer))(t:s.heap.FunFrames base (env::outer))(u:env.frame=some L)(D:Mf s.heap e T cls fl dd)
 (h:∀h' a,Ee (env::outer) e T a cls (rawInt L) dd s.heap h'->Q () {s with heap:=h'}):wpAny M A (noteFrame (.ref e) env) Q E s:=by
 obtain⟨l,vs,F,i,j,v,C,k,g,w,c,d,p,x⟩:=D;have G:3<i.size:=(Array.getElem?_eq_some_iff.mp p).1;have f:∀b,b≠T->(s.heap.update T (Obj.mapFields (·.setIfInBounds 3 Value.none))).get? b=s.heap.get? b:=λb H=>Heap.get?_update_other _ _ (Ne.symm H)
 have y:∀b o,s.heap.get? b=some o->(∀vs,o.data≠.fields vs)->b≠T:=λb o q n z=>by
  rw[z,c] at q;cases q;exact n i d
 unfold noteFrame;simp only[u];refine Ac (wpAny_field j k g ?_);rw[Ap (show(Value.ref T != Value.none)=true from by simp)];refine Ac (wpAny_field c d p ?_);by_cases z:(fl==rawInt L)=true;rw[Ap z];refine Al (h s.heap T ⟨⟨l,vs,F,i,j,v,C,k,g,w,c,d,by rw[p,beq_iff_eq.mp z],x⟩,.inl rfl,λb o q _ _ _=>q,λb o q _=>⟨o.slots,q⟩⟩);rw[An z];refine Ac (wpAny_setField c d G ?_);refine Td (base:=base) aa (t.of_keeps λb o q n=>⟨o,(f b (y b o q n)).trans q,rfl⟩) u ((f e (Ne.symm w)).trans j) k (Array.getElem?_eq_some_iff.mp g).1 λh' a I J r K⟨ab,N,O,P,R⟩⟨ae,af,S,U,V⟩=>?_
 have W:a≠T:=λz=>by
  have:=r9 (Obj.mapFields (·.setIfInBounds 3 Value.none)) c (Obj.isFreed_of_fields (Obj.data_mapFields d _));rw[<-z] at this;rw[z] at r this;rw[r] at this;cases this
 refine h h' a ⟨⟨ab,_,ae,af,N,O.trans v,P.trans C,R,?_,K,S,U,V,(Array.getElem?_setIfInBounds_ne (by decide)).trans x⟩,.inr ((f a W).symm.trans r),λb o q X Y Z=>I b o ((f b Y).trans q) X Z,λb o q m=>?_⟩;simp[(Array.getElem?_eq_some_iff.mp g).1];obtain⟨_,o',B,n⟩:=t.mem m;rw[q] at B;cases B;exact J b o ((f b (y b o q n)).trans q) m
def VY(B:A.frames=some (env::outer))(g:s.heap.FunFrames base (env::outer))(d:env.frame=some L)(f:s.heap.get? e=some l)(hd:l.data=.fields vs)(a:vs[1]?=some .none)(i:vs[2]?=some .none)
 (h:∀h' c,Ee (env::outer) e e c l.cls (rawInt L) l.dict s.heap h'->Q () {s with heap:=h'}):wpAny M A (noteFrame (.ref e) env) Q E s:=by
 unfold noteFrame;simp only[d];refine Ac (wpAny_field f hd a ?_);rw[An (by decide)];refine Td (base:=base) B g d f hd (Array.getElem?_eq_some_iff.mp a).1 λh' c j k m n⟨C,p,r,t,u⟩⟨D,F,v,w,x⟩=>?_;refine h h' c ⟨⟨C,_,D,F,p,r,t,u,?_,n,v,w,x,(Array.getElem?_setIfInBounds_ne (by decide)).trans i⟩,.inr m,λb o q y _ z=>j b o q y z,k⟩;simp[(Array.getElem?_eq_some_iff.mp a).1]
def Ou(p:Mf s.heap e T cls fl dd)(h:∀h',Ot h' e T cls dd->(∀b o,s.heap.get? b=some o->b≠T->h'.get? b=some o)->Q () {s with heap:=h'}):wpAny M A (setFlight (.ref e) none) Q E s:=by obtain⟨l,vs,y,r,c,t,x,d,g,i,j,a,u,v⟩:=p;have k:3<r.size:=(Array.getElem?_eq_some_iff.mp u).1;have m:∀b,b≠T->(s.heap.update T (Obj.mapFields (·.setIfInBounds 3 ((none:Option Addr).elim Value.none λf=>rawInt f)))).get? b=s.heap.get? b:=λb w=>Heap.get?_update_other _ _ (Ne.symm w);unfold setFlight;refine Ac (wpAny_field c d g ?_);rw[Ap (show(Value.ref T != Value.none)=true from by simp)];refine wpAny_setField j a k (h _ ?_ λb o q n=>(m b n).trans q);exact⟨l,vs,_,_,(m e (Ne.symm i)).trans c,t,x,d,g,i,r9 _ j (Obj.isFreed_of_fields (Obj.data_mapFields a _)),Obj.data_mapFields a _,by simp[k],v⟩
def Tf{a:Addr}{d c:Heap}(u:s.heap.FunFrames base (env::outer))(j:∀b∈BM (env::outer),b≠T)(g:Ee (env::outer) e T a cls fl dd s.heap d)(f:Ot c e a cls dd)(k:∀b o,d.get? b=some o->b≠a->c.get? b=some o):HY (env::outer) e T a cls dd s.heap c:=by
 have h:∀b o,s.heap.get? b=some o->b≠T->b≠a:=λb o q n z=>by
  rcases g.tr with y|y;exact n (z.trans y);rw[z,y] at q;cases q
 refine⟨f,g.tr,λb o q l i p=>k b o (g.keep b o q l i p) (h b o q i),λb o q m=>?_⟩;obtain⟨r,t⟩:=g.slot b o q m;exact⟨r,k b _ t (h b o q (j b m))⟩
def VZ(v:A.frames=some (env::outer))(a:s.heap.FunFrames base (env::outer))(g:env.frame=some L)(c:Mf s.heap e T cls fl dd)
 (h:∀h' i,HY (env::outer) e T i cls dd s.heap h'->Q () {s with heap:=h'}):wpAny M A (leaving env (.ref e)) Q E s:=by
 unfold leaving;refine Ac (Te v a g c λw j d=>Ou d.fly λk p q=>h k j (Tf a (λb m z=>?_) d p q));obtain⟨l,vs,x,r,_,_,_,_,_,_,t,u,_⟩:=c;obtain⟨_,o,f,n⟩:=a.mem m;rw[z,t] at f;cases f;exact n r u
def V0(t:A.frames=some (env::outer))(a:s.heap.FunFrames base (env::outer))(j:env.frame=some L)(d:s.heap.get? e=some l)(hd:l.data=.fields vs)(f:vs[1]?=some .none)(c:vs[2]?=some .none)
 (h:∀h' k,HY (env::outer) e e k l.cls l.dict s.heap h'->Q () {s with heap:=h'}):wpAny M A (leaving env (.ref e)) Q E s:=by
 unfold leaving;refine Ac (VY t a j d hd f c λf p g=>Ou g.fly λc q r=>h c p (Tf a (λb m z=>?_) g q r));obtain⟨_,o,i,n⟩:=a.mem m;rw[z,d] at i;cases i;exact n vs hd
end
def Ay.there{P:Program}{w:World}{H:Hp}{h:Heap}{a:Addr}{o:HO}(x:Ay P w H h a o):∃u,h.get? a=some u:=by
 cases o with|lst b=>obtain⟨_,_,_,_,e⟩:=x;exact⟨_,e⟩|tup b=>obtain⟨_,_,_,u,e,_⟩:=x;exact⟨u,e⟩|dK c=>obtain⟨_,_,_,_,u,_,_,e,_⟩:=x;exact⟨u,e⟩|dT c=>obtain⟨_,_,_,_,u,_,_,e,_⟩:=x;exact⟨u,e⟩|set S n=>obtain⟨u,_,_,_,e,_⟩:=x;exact⟨u,e⟩|ins C d fs=>obtain⟨_,_,_,e,_⟩:=x;exact⟨_,e⟩|own y=>exact x|xd fs=>obtain⟨_,⟨u,_,_,e,_⟩,_⟩:=x;exact⟨u,e⟩|rng lo g=>obtain⟨_,_,_,e⟩:=x;exact⟨_,e⟩|frz i u=>obtain⟨e,_⟩:=x;exact⟨_,e⟩|tbl j=>exact⟨_,(show h.get? a=some _ from x)⟩|met f y=>exact⟨_,(show h.get? a=some _ from x)⟩|ext φ=>obtain⟨_,e,_⟩:=x;exact e
def V1 (h0 h:Heap) (H':Hp) (a:Addr) (cls:Value) (dd:Option Addr):Prop:=
 (∃l vs,h.get? a=some l/\l.cls=cls/\l.dict=dd/\l.data=.fields vs/\vs[1]?=some .none/\vs[2]?=some .none)\/∃T fl,Mf h a T cls fl dd/\h0.get? T=none/\H' T=none
structure Th (P:Program) (w:World) (stack:List Env) (H:Hp) (s:Shared) (H':Hp) (s':Shared) (a C:Addr) (dd:Option Addr):Prop where
 os:s'.os=s.os
 bare:AllBare s'.gens
 un:Un (BM stack) [] H H' s.heap s'.heap
 hok:Ce P w H' s'.heap
 new:s.heap.get? a=none
 free:H' a=none
 thr:V1 s.heap s'.heap H' a (.ref C) dd
def Fi (P:Program) (w:World):FA:=λouter H s E e s'=>∃a C dd H',e=.ref a/\Th P w outer H s H' s' a C dd/\(∃T,Ot s'.heap a T (.ref C) dd/\s.heap.get? T=none/\H' T=none)/\E (.ref C) dd H'
def Dr (X:Cx) (E:XK):Prop:=∀(pins:A')(σ:St)(H:Hp)(s:Shared)(H':Hp)(s':Shared)(a C:Addr)(dd:Option Addr),Inv X pins σ H s->Th X.prog X.w X.stack H s H' s' a C dd->E (.ref C) dd H'->X.xe (.ref a) s'
def Dr.passes{E:XK}(h:Dr X E):NZ (Fi X.prog X.w) X E:=λg σ H s e b I c=>by obtain⟨a,C,d,f,rfl,t,_,q⟩:=c;exact h g σ H s f b a C d I t q
theorem GK{h h' base:Heap}{H H':Hp}:∀{l:List Env}{fs:F'},(∀b∈BM l,b∈fs)->(∀b∈BM l,H b=none)->Un fs [] H H' h h'->h.FunFrames base l->h'.FunFrames base l
 |[],_,_,_,_,_=>trivial
 |env::p,fs,c,d,u,⟨k,⟨L,o,a,g,i,hd⟩,j⟩=>by
   have f:L∈BM (env::p):=by simp[BM,a]
   have sub:∀b∈BM p,b∈BM (env::p):=λb m=>by
    simp only[BM,Ga,a];exact Dc _ m
   obtain⟨n,e⟩:=u.slot L o i (d L f) (c L f) (by simp);exact⟨k,⟨L,_,a,g,e,hd⟩,GK (λb m=>c b (sub b m)) (λb m=>d b (sub b m)) u j⟩
section
variable {P:Program} {w:World} {K:Ah} {mg:Str->J'} {base:Heap} {N:G'} {qual:Str} {scope:Scope} {f:Addr} {B:Value} {A:Around} {outer:List Env} {s:Shared} {H:Hp} {E:XK}
def Tg:Dr (Au (Fi P w) P w K mg base N qual scope f B A outer s H E) E:=by
 intro av σ aq v q x a C Z I t ah;obtain⟨X,j⟩:∃X,X=Au (Fi P w) P w K mg base N qual scope f B A outer s H E:=⟨_,rfl⟩;have ai:=t.hok;rw[<-j] at I t ⊢;have D:X.stack=X.env::outer:=by rw[j];rfl
 have F:X.env.frame=some X.env.locals:=by rw[j];rfl
 have e3:X.s₀=s:=by rw[j];rfl
 have e4:X.H₀=H:=by rw[j];rfl
 have e5:X.fs=BM outer:=by rw[j];rfl
 have e6:X.ex=[]:=by rw[j];rfl
 have e7:X.env.locals=s.heap.objs.size:=by rw[j];rfl
 have U:=I.ok.frames;have V:=GK (λb m=>m) I.stkFree t.un I.stack;rw[D] at U V
 have af:∀b∈BM (X.env::outer),q b=none:=λb m=>by
  rw[<-D] at m;obtain⟨_,o,ho,_⟩:=I.stack.mem m;exact t.un.free b o ho (I.stkFree b m) (by simp)
 have i:=I.base;rw[e3,e4,e5,e6] at i
 have big:∀ T d l,(T=a\/(v.heap.get? T=none/\q T=none))->HY (X.env :: outer) a T d (.ref C) Z x.heap l->Fi P w outer H s E (.ref a) {x with heap:=l}:=fun T d l L g=>by
  have nT:∀b o,v.heap.get? b=some o->b≠T:=λb o e z=>by
   rcases L with y|y;rw[z,y,t.new] at e;cases e;rw[z,y.1] at e;cases e
  have nA:∀b o,v.heap.get? b=some o->b≠a:=λb o e z=>by rw[z,t.new] at e;cases e
  have W:q T=none:=(by rcases L with y|y;rw[y];exact t.free;exact y.2)
  have ag:q d=none:=by
   rcases g.tr with y|y;rw[y];exact W;cases z:q d with|none=>rfl|some o=>obtain⟨u,e⟩:=(t.hok d o z).there;rw[y] at e;cases e
  have G:∀b o,s.heap.get? b=some o->∃o',v.heap.get? b=some o':=λb o e=>i.there b o e (by simp)
  have aa:∀b o,s.heap.get? b=some o->b∉BM outer->b∉BM (X.env::outer):=λb o e n m=>by
   simp only[BM,Ga,F] at m;rcases BL.mp m with z|z;rw[z,e7] at e;exact D7 _ (AI e);exact n z
  have ab:∀b,b∈BM outer->b∈BM (X.env::outer):=λb m=>by
   simp only[BM,Ga,F];exact Dc _ m
  have one:∀b,v.heap.get? b=none->s.heap.get? b=none:=λb e=>by
   cases z:s.heap.get? b with|none=>rfl|some o=>obtain⟨o',J⟩:=G b o z;rw[e] at J;cases J
  have ae:s.heap.get? d=none:=by
   rcases g.tr with y|y;rw[y];rcases L with z|z;rw[z];exact one a t.new;exact one T z.1;cases z:s.heap.get? d with|none=>rfl|some o=>obtain⟨r,z1⟩:=G d o z;obtain⟨M,z2⟩:=t.un.there d r z1 (by simp);rw[y] at z2;cases z2
  refine⟨a,C,Z,q,rfl,⟨t.os.trans (I.os.trans (by rw[e3])),t.bare,⟨λb o e n m _=>?_,λb o e n m _=>?_,λb o e n _=>?_,λb o e _=>?_,λb xs e=>t.un.tups b xs (i.tups b xs e),λb o u e=>t.un.frzs b o u (i.frzs b o u e),λb ps e=>?_⟩,λb o e=>?_,one a t.new,t.free,.inr ⟨d,_,g.fly,ae,ag⟩⟩,⟨d,g.fly,ae,ag⟩,ah⟩;have h:=i.keep b o e n m (by simp);have p:=t.un.keep b o h (i.free b o e n (by simp)) (by rw[D];exact aa b o e m) (by simp);exact g.keep b o p (nA b o h) (nT b o h) (aa b o e m);obtain⟨sl,h⟩:=i.slot b o e n m (by simp);obtain⟨au,p⟩:=t.un.slot b _ h (i.free b o e n (by simp)) (by rw[D];exact ab b m) (by simp);obtain⟨aj,O⟩:=g.slot b _ p (ab b m);exact⟨aj,O⟩;obtain⟨r,h⟩:=G b o e;exact t.un.free b r h (i.free b o e n (by simp)) (by simp);obtain⟨r,h⟩:=G b o e;obtain⟨M,p⟩:=t.un.there b r h (by simp);by_cases m:b∈BM (X.env::outer);obtain⟨sl,O⟩:=g.slot b M p m;exact⟨_,O⟩;exact⟨_,g.keep b M p (nA b r h) (nT b r h) m⟩;obtain⟨an,h⟩:=i.tbls b ps e;obtain⟨ao,p⟩:=t.un.tbls b _ h;exact⟨an++ao,by rw[p,Array.append_assoc]⟩
  . refine(show Ay P w q l b o from(ai b o e).stay (λc u hc k=>g.keep c u k ?_ ?_ ?_) (λ_ z=>z) λ_ _ z=>z)
    all_goals
     intro z;rcases hc with y|y
     first
      |(rw[<-y,z,t.free] at e;cases e)
      |(rw[<-y,z,W] at e;cases e)
      |(rw[<-y,af c z] at e;cases e)
     first
      |(rw[z,t.free] at y;cases y)
      |(rw[z,W] at y;cases y)
      |(rw[af c z] at y;cases y)
 have ak:X.xe (.ref a) x=wpAny (model P w) X.A (leaving X.env (.ref a)) (λ_ Y=>Fi P w outer H s E (.ref a) Y) (λJ Y=>Fi P w outer H s E J Y) x:=by rw[j];rfl
 rw[ak];rcases t.thr with⟨ar,vs,Q,R,al,S,h4,h5⟩|⟨T,_,Q,R,S⟩;refine V0 U V F Q S h4 h5 λl d g=>?_;rw[R,al] at g;exact big a d l (.inl rfl) g;exact VZ U V F Q λl d g=>big T d l (.inr ⟨R,S⟩) g
end
structure Qx (K:Ah) (mg:Str->J') (x:Str) (C:Addr):Prop where
 at_:mg x=some (.ref C)
 ok:PySem.W.excIn K C [.type "ValueError",.type "Exception",.type "BaseException",.type "object"] "ValueError.__new__" = true
def subIn (K:Ah) (C g:Addr):Bool:=match K.lookup C with
 |some ⟨_,_,.cls B,_⟩=>B.mro.contains (.ref g)
 |_=>false
set_option tactic.hygienic true in
def Qy{K:Ah}{C:Addr}{b:E'}{a:String}(q:PySem.W.excIn K C b a=true) :
 ∃nm e N bs bm hdct sn sub ab col dd k0 k1 k2 k3 k5,(∀h:Heap,K.In h->h.get? C=some (excClassObj nm e C N bs bm hdct sn sub ab col dd k0 k1 k2 k3 k5 a))/\PySem.W.nsOkIn K N=true/\PySem.W.nsIn K N "__init__" = some none/\PySem.W.tailIn K b bm=true/\∀g,subIn K C g=(Value.ref C::bm).contains (.ref g):=by
 unfold PySem.W.excIn at q;split at q
 next dd B c look =>
  split at q
  next o bm k0 k1 k2 k3 n k5 em es =>
   simp only[Bool.and_eq_true,beq_iff_eq,Bool.not_eq_true'] at q;rcases q with⟨⟨⟨⟨⟨f,i⟩,d⟩,j⟩,k⟩,l⟩;subst f;subst i;refine⟨B.name,B.qualname,B.ns,B.bases,bm,B.hasDict,B.slotNames,B.subclasses,B.abstract,B.collection,dd,k0,k1,k2,k3,k5,λh I=>?_,k,l,j,λg=>by unfold subIn;rw[look];simp only[em]⟩;rw[I _ _ look];have m:c=#[k0,k1,k2,k3,some (.builtin n),k5]:=by cases c;simp only at es;rw[es]
   rw[m];cases B;simp only at em d;rw[em,d]
  next=>cases q
 next=>cases q
def KE (C:Addr) (E:XK) (t:TA):TS:=λ_ σ H=>t σ H λvs Y=>vs.length<=sizeLine/\E (.ref C) none Y
def V2{E:XK}{C:Addr}{x:Str}{l c:Pos}{b:Expr}{t:TA}(n:Dr X E)(p:X.calm=true)(k:Qx X.K X.mg x C)(v:Gl X x)(w:PA X (b::es) t)
 (M:(x==f')=false:=by decide) (d:starEach (b::es) X.env=(false,eval b X.env)::starEach es X.env:=by rfl) (O:(backTo c (starEach es X.env)).any (·.1)=false:=by rfl) :
 PS X (.Raise (some (.Call (.Name x l) (b::es) [] c)) none G) (KE C E t):=by
 intro j s σ H D I h;obtain⟨nm,A,N,bs,bm,hdct,sn,sub,ab,col,dd,k0,k1,k2,k3,k5,B,g,P,i,_⟩:=Qy k.ok;have F:X.base.Ns N (X.base.nsMap N):=.of_isNs (PySem.W.isNs_of_in I.mod.kin g);refine wpAny_Raise_call_subT (nm:=nm) (q:=A) (N:=N) (bs:=bs) (bm:=bm) (hdct:=hdct) (sn:=sn) (sub:=sub) (ab:=ab) (col:=col) (dd:=dd) (k0:=k0) (k1:=k1) (k2:=k2) (k3:=k3) (k5:=k5) (mN:=X.base.nsMap N) PySem.F.excBase_ValueError (OwnTail.hasType (PySem.W.tail_of_in I.kIn i) (X:= "BaseException") (by decide)) (I.ok.hd p) ?_ (PySem.W.nsMap_none_of_in I.mod.kin g P) (LY I v k.at_ ⟨rfl,?_⟩ M);rw[d];show(false || (backTo c (starEach es X.env)).any (·.1))=false;rw[O];rfl;have f:=w c j s σ H _ I h;rw[d] at f ⊢;refine Calls.evalArgs_plain (AG f λJ K⟨Q,U,a,r,q⟩=>⟨rfl,?_,B _ a.kIn,F.keeps a.bk,PySem.W.tail_of_in a.kIn i,λR e m=>?_⟩);show J.length<=sizeLine;rw[<-r.length];exact q.1;obtain⟨S,L,T,V⟩:=m.there;refine n j σ U K U _ e C none a ⟨rfl,a.bare,Un.kept m.keeps,a.hok.kept m.keeps,m.new,?_,.inl ⟨_,_,L,rfl,rfl,rfl,rfl,rfl⟩⟩ q.2;cases z:U e with|none=>rfl|some o=>obtain⟨u,y⟩:=(a.hok e o z).there;rw[m.new] at y;cases y
end L2
set_option maxRecDepth 100000
namespace PySem
open Sem (wp)
section
variable {prog:Program} {w:World} {A:Around} {E:B'} {h:Heap} {g:Array GenState} {d:Drawn} {t:Nat} {os:OsState}
variable {nm q:Str} {C N:Addr} {bs bm b:E'} {hdct:Bool} {sn:G'} {sub:E'} {ab:Bool} {col:Option Bool} {dd:Option Addr} {k0 k1 k2 k3 k5:J'} {B Bn a nid initId inN:String} {bmN:E'}
end
section
variable {M:Model} {A:Around} {E:B'} {env:Env}
variable {nm q:Str} {C N:Addr} {bs bm:E'} {hdct:Bool} {sn:G'} {sub:E'} {ab:Bool} {col:Option Bool} {dd:Option Addr} {k0 k1 k2 k3 k5:J'} {a:String}
end
end PySem
set_option maxRecDepth 100000
namespace PySem.W
open PySem PySem.Calls PyProof.Rows Builtin Builtin.ObjectAttr
abbrev VEm:E':=[.type "ValueError",.type "Exception",.type "BaseException",.type "object"]
section
variable {prog:Program} {w:World} {A:Around} {s:Shared} {K:Frag} {x C:Addr} {R:Result->Shared->Prop}
end
end PySem.W
namespace L2
open PySem PySem.Spec PySem.Calls PyProof.Rows PySem.W
structure CJ (K:Ah) (D:Addr):Prop where
 hg:findIn K (.ref D) "__getattribute__" = some (some (.builtin "BaseException.__getattribute__"))
 hk:findIn K (.ref D) "__getattr__" = some none
 hb:mroIn K D (.type "BaseException")=some true
 hc:(clsIn K D).isSome=true
 ha:findIn K (.ref D) "__class__" = some (some (.builtin "object.__class__"))
 hn:specialIn K (.builtin "object.__class__") "__get__" = some (some (.builtin "getset_descriptor.__get__"))
 ht:takesIn K (.builtin "object.__class__")=some true
 hm:mroIn K D (.type "object")=some true
section
variable {prog:Program} {w:World} {A:Around} {E:B'} {s:Shared} {K:Ah} {x D:Addr} {ox:Obj} {od:Option Obj} {c:Value}
def HZ{a:Value}{Q:Unit->Shared->Prop}(k:CJ K D)(X:K.In s.heap)(I:InstAt s.heap x ox D od)(h:Q () s):wpAny (model prog w) A (checkBuiltinCall "BaseException.__getattribute__" ⟨[.ref x,a],[]⟩) Q E s:=by
 obtain⟨b,g,d,t,j⟩:=s;have c:builtinKind "BaseException.__getattribute__" = some .slot:=(by decide +kernel);have i:splitId "BaseException.__getattribute__" = some ("BaseException", "__getattribute__"):=(by decide +kernel);have l:=PySem.F.args_bexc_ga (.ref x) a;have e:=I.type (M:=model prog w);have f:Looks (model prog w) b (isInstance (.ref x) (.type "BaseException")) true:=e.andThen (looks_mroIn (M:=model prog w) X k.hb);simp only[checkBuiltinCall,c,i];refine Ac (f.at ?_)
 repeat (first|exact h|wp_step)
def V3{L:Tok}{Q:Fin->Shared->Prop}(k:CJ K D)(X:K.In s.heap)(I:InstAt s.heap x ox D od)(h:Q (.done (.ret (.ref D))) s):wpAny (model prog w) A (Builtin.«object.__getattribute__» ⟨[.ref x,.str "__class__" L],[]⟩) Q E s:=by
 have a:findObj K D od "__class__" = some (.bind (.builtin "getset_descriptor.__get__") (.builtin "object.__class__")):=(by obtain⟨B,b⟩:=Option.isSome_iff_exists.mp k.hc;unfold findObj;rw[b,Option.bind_some,k.ha,Option.bind_some];simp[k.hn,k.ht]);obtain⟨c,g,d,t,e⟩:=s;have f:=I.type (M:=model prog w);have i:=looks_find (M:=model prog w) X I a;refine Ac (Al (Ac (Al (Ac (f.at (Ac (i.at ?_)))))));show wpAny _ _ (holding [.builtin "object.__class__"] (call (.builtin "getset_descriptor.__get__") [.builtin "object.__class__",.ref x,.ref D]) >>= ret) _ _ _;exact Ac (C1 (wpAny_call (class_get (s:=⟨c,g,d,t,e⟩) (ox:=ox) (od:=od) X I k.hm (Al h))))
def H0{Q:J'->Shared->Prop}(k:CJ K D)(X:K.In s.heap)(I:InstAt s.heap x ox D od)(h:Q (some (.ref D)) {s with toks:=s.toks+1}):wpAny (model prog w) A (getAttr? (.ref x) "__class__") Q E s:=by
 obtain⟨f,g,d,t,i⟩:=s;have a:=I.type (M:=model prog w);have b:=looks_findIn (M:=model prog w) X k.hg;have L2:=looks_findIn (M:=model prog w) X k.hk;have c:=PySem.F.attr_ValueError.ga.bind (.ref x);unfold getAttr? getAttrBy? getAttrBy;refine Ac (wpAny_mkText (Ac (wpAny_attempt (C1 (Ac (a.at (Ac (b.at ?_))))))));have e:(Value.builtin "BaseException.__getattribute__" == Value.builtin "object.__getattribute__")=false:=(by decide +kernel);show wpAny _ _ (if(onTheHeap (.ref D) && Value.builtin "BaseException.__getattribute__" == Value.builtin "object.__getattribute__")=true then _ else getAttrByItsOwn _ _ _ _ _ _) _ _ _;rw[e,Bool.and_false,An (by decide)];unfold getAttrByItsOwn;refine Ac (L2.at ?_);refine Ac (wpAny_attempt (C1 ?_));show wpAny _ _ (boundAndCalled _ _ _) _ _ _;unfold boundAndCalled;rw[c];refine Ac (Al (wpAny_call (codeAny_call_builtin PySem.F.attr_ValueError.ga.plain PySem.F.entry_bexc_ga (HZ k X I (V3 k X I ?_)))));exact Al (Al h)
end
section
variable {M:Model} {A:Around} {E:B'}
variable {nm q nm2 Z:Str} {C N c N2:Addr} {bs bm bs2 bm2:E'} {hdct hdct2:Bool} {sn sn2:G'} {sub sub2:E'} {ab ab2:Bool} {col col2:Option Bool} {dd j:Option Addr} {k0 k1 k2 k3 k5 j0 B F j3 j5:J'} {a newId2:String}
def V4{h:Heap}{g:Array GenState}{d:Drawn}{t:Nat}{i:OsState}{e:Addr}{l:Obj}{b:Bool}{Q:Bool->Shared->Prop}
 (m:h.get? C=some (excClassObj nm q C N bs bm hdct sn sub ab col dd k0 k1 k2 k3 k5 a)) (k:h.get? c=some (excClassObj nm2 Z c N2 bs2 bm2 hdct2 sn2 sub2 ab2 col2 j j0 B F j3 j5 newId2))
 (n:h.get? e=some l) (s:l.cls=.ref C) (u:bm2.contains (.type "BaseException")=true) (o:(Value.ref C::bm).contains (.ref c)=b)
 (p:Q b ⟨h,g,d,t,i⟩):wpAny M A (excMatches (.ref e) (.ref c)) Q E ⟨h,g,d,t,i⟩:=by
 have r:(Value.ref c::bm2).contains (.type "BaseException")=true:=(by rw[List.contains_cons,u,Bool.or_true]);have f:=tc_notTuple;unfold excMatches
 repeat (first|(with_reducible refine wpAny_loadPart_at n ?_;rw[s])|with_reducible refine wpAny_loadPart_at k ?_|(with_reducible refine wpAny_isSubtype_exc k ?_;rw[r])|(with_reducible refine wpAny_isSubtype_exc m ?_;rw[o])|wp_step)
 cases b<;>(wp_walk;exact p)
end
section
variable {X:Cx} {pins:A'} {σ:St} {H:Hp} {s:Shared}
def Inv.unset{i:Nat}{x:Str}{m:Str->J'}{u:J'}{h':Heap}(I:Inv X pins σ H s)(A:X.N.Nodup)(hi:X.N[i]?=some x)(B:∀(j:Nat)(y:Str)(v:V),X.N[j]?=some y->σ[j]?=some (some v)->Mu X.env.scope y->∃u,RelV v u/\Look X.env s.heap m y u)
 (P:h'.Ns X.env.locals (λy=>if y=x then u else m y)) (a:Heap.SameBut X.env.locals s.heap h'):Inv X pins (σ.set i none) H {s with heap:=h'}:=by
 obtain⟨Q,⟨R,_,_,S,_⟩,_⟩:=id I.loc;have h:∀b o,X.s₀.heap.get? b=some o->b≠X.env.locals:=λb o e=>Bu (D8 (AI e) I.ok.above);have C:i<σ.length:=by rw[I.len];exact(Cd.mp hi).1
 refine⟨I.ok,I.os,I.bare,⟨λb o e n l f=>(a.2 b (h b o e)).trans (I.base.keep b o e n l f),λb o e n l f=>?_,I.base.free,λb o e f=>?_,I.base.tups,I.base.frzs,I.base.tbls⟩,⟨_,P,λj y v t g D=>?_⟩,λy c e=>?_,I.free,I.freeC,λp E=>?_,λb o e=>?_,by simpa using I.len⟩;obtain⟨F,q⟩:=I.base.slot b o e n l f;exact⟨F,(a.2 b (h b o e)).trans q⟩;obtain⟨G,q⟩:=I.base.there b o e f;exact⟨G,(a.2 b (h b o e)).trans q⟩;by_cases r:i=j;subst r;rw[v9 C] at g;cases g;rw[r4 r] at g;obtain⟨J,K,q⟩:=B j y v t g D;have L:y≠x:=λz=>r (Pr A hi (z▸t));refine⟨J,K,?_⟩;rcases q with⟨k,z⟩|⟨k,c,z,M⟩;exact .inl ⟨k,(An L).trans z⟩;exact .inr ⟨k,c,z,M.sameBut a (I.cne y c z)⟩;obtain⟨w,z⟩:=I.cell y c e;exact⟨w,z.sameBut a (I.cne y c e)⟩;obtain⟨q,n,ne,N,d⟩:=I.pin p E;exact⟨(a.2 p.1 ne).trans q,n,ne,N,d⟩;refine(I.hok b o e).stay (λc w O q=>(a.2 c λz=>?_).trans q) (λ_ q=>q) λ_ _ q=>q;rcases O with y|y;rw[<-y,z,I.free] at e;cases e;rw[z,I.free] at y;cases y
def Ti{M:Model}{A:Around}{E:B'}{i:Nat}{x:Str}{G:Pos}{Q:Unit->Shared->Prop}(I:Inv X pins σ H s)(b:X.N.Nodup)(hi:X.N[i]?=some x)(a:X.env.scope.names.lookup x=some .local)
 (h:∀c,Inv X pins (σ.set i none) H c->Q () c):wpAny M A (do bindName X.env x .none;unbindBehindTheSuite X.env x G) Q E s:=by
 refine Ac (wpAny_bindName (LX I b hi (.inl a) (v:=.non) (u:=.none) rfl (λp d=>?_) (.inr a)));obtain⟨m,j,e⟩:=id d.loc;have k:i<σ.length:=by rw[I.len];exact(Cd.mp hi).1
 obtain⟨u,r,q⟩:=e i x .non hi (v9 k) (.inl a);have f:X.env.kindOf x=some .local:=a;have l:m x=some u:=(by rcases q with⟨_,z⟩|⟨z,_⟩;exact z;rw[f] at z;rcases z with z|z<;>cases z);unfold unbindBehindTheSuite;refine wpAny_onRaise (wpAny_unbindName_local f j l (by rw[I.ok.kind];rfl) λt w o n=>?_);have g:=d.unset b hi e o n;rw[List.set_set] at g;exact h _ g
end
def Ef (a C:Addr) (dd:Option Addr):HO:=.ext λh=>∃l vs,h.get? a=some l/\l.cls=.ref C/\l.dict=dd/\l.data=.fields vs/\vs[2]?=some .none
abbrev Cx.held (X:Cx) (v:Value):Cx:={X with A:=X.A.mark (some v),calm:=false,xe:=λ_ _=>False}
section
variable {X:Cx} {pins:A'} {σ:St} {H H':Hp} {s s':Shared} {v:Value}
def Cx.Ok.held(ok:X.Ok):(X.held v).Ok:=
 ⟨ok.mod,ok.kind,ok.glob,ok.blt,ok.above,ok.inj,ok.has,ok.cab,λz=>(by cases z),ok.frames,ok.stk,ok.exf,ok.bs,ok.bsz,ok.noex,ok.exfs,ok.funs,ok.frf⟩
def Inv.held(I:Inv X pins σ H s):Inv (X.held v) pins σ H s:=⟨I.ok.held,I.os,I.bare,I.base,I.loc,I.cell,I.free,I.freeC,I.pin,I.hok,I.len⟩
def Inv.unheld(ok:X.Ok)(I:Inv (X.held v) pins σ H s):Inv X pins σ H s:=⟨ok,I.os,I.bare,I.base,I.loc,I.cell,I.free,I.freeC,I.pin,I.hok,I.len⟩
def Qz{P:Program}{w:World}{stack:List Env}{d f g:Heap}{a T:Addr}(un:Un (BM stack) [] H H' d f)(A:Ce P w H' f)(na:d.get? a=none)(x:d.get? T=none)(r:H' a=none)(s:H' T=none)(t:∀b∈BM stack,H' b=none)
 (k:∀b o,f.get? b=some o->b≠a->b≠T->b∉BM stack->g.get? b=some o) (h:∀b o,f.get? b=some o->b∈BM stack->∃h,g.get? b=some {o with slots:=h}):Un (BM stack) [] H H' d g/\Ce P w H' g:=by
 have i:∀b o,d.get? b=some o->b≠a/\b≠T:=λb o e=>⟨λz=>(by rw[z,na] at e;cases e),λz=>(by rw[z,x] at e;cases e)⟩;refine⟨⟨λb o e n m _=>k b o (un.keep b o e n m (by simp)) (i b o e).1 (i b o e).2 m,λb o e n m _=>?_,un.free,λb o e _=>?_,un.tups,un.frzs,un.tbls⟩,λb o e=>(A b o e).stay (λc u l q=>k c u q (λz=>?_) (λz=>?_) λz=>?_) (λ_ z=>z) λ_ _ z=>z⟩;obtain⟨B,j⟩:=un.slot b o e n m (by simp);obtain⟨v,Z⟩:=h b _ j m;exact⟨v,Z⟩;obtain⟨p,j⟩:=un.there b o e (by simp);by_cases m:b∈BM stack;obtain⟨v,Z⟩:=h b p j m;exact⟨_,Z⟩;exact⟨p,k b p j (i b o e).1 (i b o e).2 m⟩;rcases l with y|y;rw[<-y,z,r] at e;cases e;rw[z,r] at y;cases y;rcases l with y|y;rw[<-y,z,s] at e;cases e;rw[z,s] at y;cases y;rcases l with y|y;rw[<-y,t c z] at e;cases e;rw[t c z] at y;cases y
end
def Nm (P:Program) (w:World) (K:Ah) (mg:Str->J') (base:Heap) (x:Str) (k:Nat) (ps:G') (sp:Sp):Prop:=
 ∃f fd,Cg P w K mg base (Fi P w) k f fd ps sp/\mg x=some (.ref f)/\PySem.W.keepIn K (.ref f)=true/\Binds K fd ps []
section
variable {X:Cx} {x y:Str} {k:Nat} {ps:G'} {sp:Sp} {e:Expr} {es:M'} {t:TA} {p G:Pos} {E:XK}
def KG(C:Nm X.prog X.w X.K X.mg X.base x k ps sp)(a:Dr X E)(b:Bc k X.A)(c:Gl X x)(d:PA X (e::es) t)(l:(x==f')=false:=by decide)
 (g:starEach (e::es) X.env=(false,eval e X.env)::starEach es X.env:=by rfl) (m:(backTo G (starEach es X.env)).any (·.1)=false:=by rfl):PE X (.Call (.Name x p) (e::es) [] G) (NY sp [] E t):=by
 obtain⟨f,n,F,h,i,j⟩:=C;exact RI F b c h i j .nil a.passes d l g m
def A4.okE{P:Program}{w:World}{K:Ah}{d:Str->J'}{base:Heap}{b:Str}{st:Stmt}{f:Addr}{e:FuncData}{N:G'}(F:A4 K x b st f e)(S:Ae N ps (Ar st))(i:∀vs H Q E,sp vs H Q E->vs.length=ps.length)
 (m:∀(a:Value)(A:Around)(c:List Env)(s:Shared)(H:Hp)(vs:R')(Q:VK)(E:XK),Bc k (A.deeper (envOfC b (Ar st) s.heap.objs.size f a))->sp vs H Q E ->
  ∃t,DR (Au (Fi P w) P w K d base N b (Ar st) f a A c s H E) (A0 st) t/\t {nx:=λ_ H'=>Q .non H',rt:=Q} (EM N vs) H):Cg P w K d base (Fi P w) (k+1) f e ps sp:=by
 obtain⟨n,o,kV,u,p,q,a,r,v,rfl,g,j⟩:=F.ex;exact Gp g j S i λA c s H vs Q E h l=>m a A c s H vs Q E h l
end
end L2
namespace PySem.W
open PySem
end PySem.W
namespace L2
open PySem PySem.Spec PyProof.Rows
def GL (K:Ah) (C:Addr):Prop:=∃nm qn N bs bm hdct sn sub ab col dd k0 k1 k2 k3 k5 a,(∀h:Heap,K.In h->h.get? C=some (excClassObj nm qn C N bs bm hdct sn sub ab col dd k0 k1 k2 k3 k5 a))/\(∀g,subIn K C g=(Value.ref C::bm).contains (.ref g))
def V5{K:Ah}{C:Addr}{b:E'}{a:String}(q:PySem.W.excIn K C b a=true):GL K C:=by obtain⟨c,d,N,bs,e,r,f,sub,g,p,h,i,j,k,l,m,n,_,_,_,o⟩:=Qy q;exact⟨c,d,N,bs,e,r,f,sub,g,p,h,i,j,k,l,m,a,n,o⟩
section
variable {X:Cx} {pins:A'} {σ:St} {H:Hp} {s:Shared} {E:XK} {C fI:Addr} {fd:FuncData} {ps:G'} {sp:Sp} {k:Nat}
end
end L2
set_option maxRecDepth 100000
namespace L2
open PySem PySem.Spec PySem.Calls PyProof.Rows PySem.W
section
variable {prog:Program} {w:World} {A:Around} {E:B'} {s:Shared} {K:Ah} {C:Addr} {name:Str} {v:Value}
end
section
variable {prog:Program} {w:World} {A:Around} {E:B'} {h:Heap} {g:Array GenState} {d:Drawn} {t:Nat} {os:OsState}
variable {nm q:Str} {C N e t0:Addr} {bs bm:E'} {hdct:Bool} {sn:G'} {sub:E'} {ab:Bool} {col:Option Bool} {dd dx:Option Addr} {k0 k1 k2 k3 k5:J'} {a:String} {p:E'}
end
section
variable {X:Cx} {x f:Str} {e e0 o d:Expr} {es:M'} {t:TA} {B tv:TE} {np apos G F:Pos} {g:Addr}
end
def GN (K:Ah) (C:Addr):Prop:=∃nm qn N bs bm hdct sn sub ab col dd k0 k1 k2 k3 k5 a,∀h:Heap,K.In h->h.get? C=some (excClassObj nm qn C N bs bm hdct sn sub ab col dd k0 k1 k2 k3 k5 a)/\bm.contains (.type "BaseException")=true
variable {C:Addr}
def V6{K:Ah}{n:String}(q:PySem.W.excIn K C PySem.W.VEm n=true):GN K C:=by obtain⟨a,b,N,bs,c,r,d,sub,e,p,f,g,i,j,k,l,m,_,_,o,_⟩:=Qy q;exact⟨a,b,N,bs,c,r,d,sub,e,p,f,g,i,j,k,l,_,λh I=>⟨m h I,OwnTail.hasType (PySem.W.tail_of_in I o) (by decide)⟩⟩
section
variable {X:Cx} {pins:A'} {σ:St} {H H':Hp} {s s':Shared} {v:Value}
def V7{i:Nat}{x n:Str}{ak aw:Pos}{L:Stmt}{ai:List Stmt}{a g:Addr}{dd:Option Addr}{D:Ends}{M:TS}(I:Inv X pins σ H s)(V:X.stack=X.env::X.outer)(al:X.env.frame=some X.env.locals)
 (t:Th X.prog X.w X.stack H s H' s' a C dd) (ax:∃T,Ot s'.heap a T (.ref C) dd/\s.heap.get? T=none/\H' T=none) (fC:GL X.K C) (kP:GN X.K g) (ay:subIn X.K C g=true)
 (an:Gl X x) (ao:X.mg x=some (.ref g)) (aq:(x==f')=false) (E:X.N.Nodup) (hi:X.N[i]?=some n) (A:X.env.scope.names.lookup n=some .local)
 (hs:DR (X.held (.ref a)) (L::ai) M) (q:M {nx:=λσ' H'=>D.nx (σ'.set i none) H',rt:=D.rt} (σ.set i (some (.ref a))) (upd H' a (Ef a C dd))) :
 wpAny (model X.prog X.w) X.A (noteFrame (.ref a) X.env) (λ_ s₂=>wpAny (model X.prog X.w) X.A (setFlight (.ref a) none) (λ_ s₃ =>
  wpAny (model X.prog X.w) X.A (handleBy (.ref a) X.env [.ExceptHandler (some (.Name x ak)) (some n) (L::ai) aw]) (SP X pins D) X.xe s₃) X.xe s₂) X.xe s':=by
 obtain⟨T,fl,N,O⟩:=ax
 have G:∀b∈BM X.stack,H' b=none:=λb m=>by
  obtain⟨_,o,d,_⟩:=I.stack.mem m;exact t.un.free b o d (I.stkFree b m) (by simp)
 have W:=GK (λb m=>m) I.stkFree t.un I.stack;have Y:=I.ok.frames;rw[V] at W Y;refine Te Y W al fl λh1 l f=>?_;rw[<-V] at f
 have B:s.heap.get? l=none:=by
  rcases f.tr with z|z;rw[z];exact N;cases y:s.heap.get? l with|none=>rfl|some o=>obtain⟨P,e⟩:=t.un.there l o y (by simp);rw[z] at e;cases e
 have Z:H' l=none:=by
  rcases f.tr with z|z;rw[z];exact O;cases y:H' l with|none=>rfl|some o=>obtain⟨u,e⟩:=(t.hok l o y).there;rw[z] at e;cases e
 obtain⟨ar,az⟩:=Qz t.un t.hok t.new N t.free O G f.keep f.slot;refine Ou f.fly λr aa Q=>?_
 obtain⟨ae,ah⟩:=Qz ar az t.new B t.free Z G (λb o e _ z _=>Q b o e z) (λb o e m=>⟨o.slots,Q b o e λz=>by
  obtain⟨_,P,d,_⟩:=I.stack.mem m;rw[z,B] at d;cases d⟩)
 obtain⟨nm,qn,a2,bs,bm,aI,sn,sub,ab,a6,a7,k0,k1,a8,k3,k5,aJ,hC,hm⟩:=fC;obtain⟨a9,aA,N',aB,aC,aM,aD,aK,aE,aL,aF,j0,a3,F,j3,j5,aG,R⟩:=kP;have w:Inv X pins σ H' {s' with heap:=r}:=I.call' (ch:=[]) t.os ae ah t.bare λb z=>absurd z (by simp);refine wpAny_handleBy_cons (codeAny_handlers_test (LY (X:=X.held (.ref a)) w.held an ao ?_ aq)) (by intro z;cases z);obtain⟨a4,vs,oT,aH,e1,e2,_,e3,e4,e5,e6,e7,e8⟩:=id aa;refine V4 (hC r w.kIn) (R r w.kIn).1 e1 e2 (R r w.kIn).2 (b:=true) ((hm g).symm.trans ay) ?_;refine codeAny_handlers_suite_as (Ou (fl:=.none) aa λh3 au af=>?_)
 obtain⟨j,a0⟩:=Qz ae ah t.new B t.free Z G (λb o e _ z _=>af b o e z) (λb o e m=>⟨o.slots,af b o e λz=>by
  obtain⟨_,P,d,_⟩:=I.stack.mem m;rw[z,B] at d;cases d⟩)
 obtain⟨ag,av,_,_,S,y2,y3,y4,_,_,_,_,_,y9⟩:=id au
 have I3:Inv X pins σ (upd H' a (Ef a C dd)) {s' with heap:=h3}:=by
  have nb:∀b o,s.heap.get? b=some o->b≠a:=λb o e z=>by rw[z,t.new] at e;cases e
  have p:∀b o,H' b=some o->b≠a:=λb o e z=>by rw[z,t.free] at e;cases e
  refine I.call' (ch:=[]) t.os ⟨j.keep,j.slot,λb o e n m=>?_,j.there,λb U e=>?_,λb o u e=>?_,λb ps e=>?_⟩ (λb o e=>?_) t.bare λb z=>absurd z (by simp);rw[Ax (nb b o e)];exact j.free b o e n m;have:=j.tups b U e;rw[Ax (p b _ this)];exact this;have:=j.frzs b o u e;rw[Ax (p b _ this)];exact this;obtain⟨a1,this⟩:=j.tbls b ps e;exact⟨a1,by rw[Ax (p b _ this)];exact this⟩;by_cases z:b=a;subst z;rw[Aa] at e;cases e;exact⟨⟨ag,av,S,y2,y3,y4,y9⟩,⟨ag,S⟩,λf a5⟨o,v,p1,p2⟩k=>⟨o,v,k o p1,p2⟩⟩;rw[Ax z] at e;exact(a0 b o e).stay (λ_ _ _ z=>z) (λc z=>by rw[Ax (p c _ z)];exact z) λc U z=>by rw[Ax (p c _ z)];exact z
 refine LX (X:=X.held (.ref a)) I3.held E hi (.inl A) (v:=.ref a) (u:=.ref a) rfl (λs4 I4=>?_) (.inr A);refine Do (hs pins s4 _ _ _ I4 q) (λaj s5 z=>?_) λ_ _ z=>False.elim z;cases aj with|next=>obtain⟨σ5,H5,J,h⟩:=z;exact Ti (J.unheld I.ok) E hi A λs6 K=>⟨_,_,K,h⟩|brk=>obtain⟨_,_,_,h⟩:=z;exact False.elim h|cont=>obtain⟨_,_,_,h⟩:=z;exact False.elim h|ret u=>obtain⟨v5,σ5,H5,J,r5,h⟩:=z;exact Ti (J.unheld I.ok) E hi A λs6 K=>⟨v5,_,_,K,r5,h⟩
end
section
variable {X:Cx} {x y:Str} {k:Nat} {ps:G'} {sp:Sp} {e:Expr} {es:M'} {t:TA} {p G:Pos} {E:XK}
end
open PySem.Calls PySem.W
structure B4 (K:Ah) (D:Addr) (c:Value) (b:Bool):Prop where
 ty:∀(M:Model)(h:Heap),K.In h->Looks M h (typeOf c) (.type "type")
 is:∀(M:Model)(h:Heap),K.In h->Looks M h (isType c) true
 sub:∀(M:Model)(h:Heap),K.In h->Looks M h (isSubtype (.ref D) c) b
section
variable {prog:Program} {w:World} {A:Around} {E:B'} {s:Shared} {K:Ah} {x D:Addr} {ox:Obj} {od:Option Obj} {c:Value}
set_option tactic.hygienic true in
def V8{b:Bool}{p:Int}{L:Tok}{Q:Fin->Shared->Prop}(k:CJ K D)(a:B4 K D c b)(X:K.In s.heap)(I:InstAt s.heap x ox D od)(j:(Value.ref D==c)=true->b=true)(h:∀t,Q (.done (.ret (.bool b))) {s with toks:=t}) :
 wpAny (model prog w) A (Builtin.«isinstance.nested» ⟨[.ref x,c,.int p L],[]⟩) Q E s:=by
 have r:Looks (model prog w) s.heap (isType (.ref D)) true:=(by have e:=k.hc;unfold clsIn at e;split at e;rename_i u v G H l;intro y z B C m q;unfold isType loadHead;exact Ac (wpAny_loadPart (m _ _ (X _ _ l)) (Al q));cases e);obtain⟨n,g,d,f,F⟩:=s;have i:=I.type (M:=model prog w);have o:Looks (model prog w) n (isInstance (.ref x) c) b:=i.andThen (a.sub _ _ X);unfold Builtin.«isinstance.nested»;refine Ac (i.at ?_);by_cases q:(Value.ref D==c)=true;rw[Ap q];have:=j q;subst this;exact Ac (D9 (Ac (Al (Al (h f)))));rw[An q];refine Ac ((a.ty _ _ X).at ?_);rw[Ap (by decide)]
 k_delta "plainIsInstance"
 refine Ac (Ac ((a.is _ _ X).at ?_));simp only[Bool.not_true,Dn,if_false];refine Ac (o.at ?_)
 cases b with
 |true=>simp only[if_true];exact Al (Al (h f))
 |false=>
  simp only[Dn,if_false];refine Ac (H0 k X I ?_);refine Ac (r.at ?_);simp only[Bool.not_true,Dn,if_false];refine Ac (D9 ?_);refine(a.sub _ _ X).at ?_
  first
   |exact Al (h _)
   |exact Al (Al (h _))
   |exact Ac (Al (Al (h _)))
def Jm{b:Bool}{Q:B'}(k:CJ K D)(a:B4 K D c b)(X:K.In s.heap)(I:InstAt s.heap x ox D od)(e:(Value.ref D==c)=true->b=true)(h:∀t,Q (.bool b) {s with toks:=t}):wpAny (model prog w) A (call (.builtin "isinstance") [.ref x,c]) Q E s:=
 call_isinstance (S:=λ_ R s=>(K.In s.heap/\InstAt s.heap x ox D od)/\∀t,R (.ok (.ret (.bool b))) {s with toks:=t})
  (λ_ _ _ _ _ d=>isinstance_outer (V8 k a d.1.1 d.1.2 e d.2) (by intro q;cases q)) ⟨⟨X,I⟩,h⟩
end
def Nn (K:Ah):R'->Hp->VK->Prop:=λvs H Q=>∃(a C:Addr)(dd:Option Addr)(c:V)(u:Value)(b:Bool),vs=[.ref a,c]/\(∀u',RelV c u'->u'=u)/\H a=some (Ef a C dd)/\(∀dx,dd=some dx->∃o,H dx=some o)/\CJ K C/\B4 K C u b/\((Value.ref C==u)=true->b=true)/\Q (.bl b) H
def Hk{X:Cx}:A1 X (.builtin "isinstance") (Nn X.K):=by
 intro G s σ H B D Q I r h;obtain⟨a,C,m,c,u,b,rfl,n,p,hd,d,e,f,q⟩:=h;obtain⟨v,E,rfl,w,z⟩:=He r;obtain rfl:v=Value.ref a:=w;obtain rfl:=n _ z;obtain⟨⟨l,F,g,i,j,x,_⟩,_,_⟩:=I.hok a _ p;have no:notCls l=true:=by unfold notCls;rw[x]
 cases m with|none=>exact Jm d e I.kIn (ox:=l) (od:=none) ⟨g,i,no,by rw[j];trivial⟩ f λt=>⟨.bl b,H,I.tok t,rfl,q⟩|some k=>obtain⟨o,y⟩:=hd k rfl;obtain⟨od,A⟩:=(I.hok k o y).there;exact Jm d e I.kIn (ox:=l) (od:=some od) ⟨g,i,no,by rw[j];exact A⟩ f λt=>⟨.bl b,H,I.tok t,rfl,q⟩
def Ak (K:Ah) (x:Str):Addr:=match PySem.W.nsIn K mainGlobals x with
 |some (some (.ref C))=>C
 |_=>0
def Hl{K:Ah}{x:Str}(h:PySem.W.nsIn K mainGlobals x=some (some (.ref C))):Ak K x=C:=by unfold Ak;rw[h]
def H1 (K:Ah) (C c:Addr) (b:Bool):Bool:=(clsIn K c).isSome && typeIn K (.ref c)==some (.type "type") && PySem.W.subIn K (.ref C) (.ref c)==some b
variable {b:Bool}
set_option tactic.hygienic true in
def H2{K:Ah}{c:Addr}(e:H1 K C c b=true):B4 K C (.ref c) b:=by unfold H1 at e;simp only[Bool.and_eq_true,beq_iff_eq] at e;obtain⟨⟨a,d⟩,f⟩:=e;refine⟨λM h X=>looks_typeIn X d,λM h X=>?_,λM h X=>looks_subIn X f⟩;unfold clsIn at a;split at a;rename_i j k p r g;intro l m n o i q;unfold isType loadHead;exact Ac (wpAny_loadPart (i _ _ (X _ _ g)) (Al q));cases a
def KH{K:Ah}(e:PySem.W.subIn K (.ref C) (.type "ValueError")=some b):B4 K C (.type "ValueError") b:=
 ⟨λM h _=>Looks.of_pure (by kernel_rfl),λM h _=>Looks.of_pure (by kernel_rfl),λM h X=>looks_subIn X e⟩
def Tj{K:Ah}{v:Value}(h:PySem.W.mroIn K C v=some b):(PySem.W.clsIn K C).isSome=true:=by obtain⟨B,a,_⟩:=Option.bind_eq_some_iff.mp h;rw[a];rfl
def V9{K:Ah}(p:PySem.W.findIn K (.ref C) "__getattribute__" = some (some (.builtin "BaseException.__getattribute__")))(a:PySem.W.findIn K (.ref C) "__getattr__" = some none)(b:PySem.W.mroIn K C (.type "BaseException")=some true)(q:PySem.W.findIn K (.ref C) "__class__" = some (some (.builtin "object.__class__")))(c:PySem.W.specialIn K (.builtin "object.__class__") "__get__" = some (some (.builtin "getset_descriptor.__get__")))(d:PySem.W.takesIn K (.builtin "object.__class__")=some true)(m:PySem.W.mroIn K C (.type "object")=some true):CJ K C:=
 ⟨p,a,b,Tj m,q,c,d,m⟩
set_option tactic.hygienic true in
def Wa{K:Ah}{g:Addr}(h:PySem.W.mroIn K C (.ref g)=some true):L2.subIn K C g=true:=by obtain⟨B,a,b⟩:=Option.bind_eq_some_iff.mp h;unfold PySem.W.clsIn at a;unfold L2.subIn;split at a;rename_i c;cases a;rw[c];show B.mro.contains (.ref g)=true;split at b;cases b;exact C0 b;cases a
def Ia{K:Ah}{c:Addr}(o:PySem.W.mroIn K c (.type "object")=some true)(t:PySem.W.typeIn K (.ref c)=some (.type "type"))(r:PySem.W.subIn K (.ref C) (.ref c)=some b):H1 K C c b=true:=by
 unfold H1;rw[Tj o,t,r];simp
open Ord
section
variable {X:Cx} {x y:Str} {k:Nat} {ps:G'} {sp:Sp} {e:Expr} {es:M'} {t:TA} {p G:Pos} {E:XK}
end
def Ib{X:Cx}{G:Pos}{i:Nat}{x:Str}{e:Expr}{te:TE}{op:Operator}{a:R2}{F:Pos}(b:X.N.Nodup)(hi:X.N[i]?=some x)(c:Loc X.env.scope x)(d:PE X e te)(f:CD X (inplaceOp op) a)(g:X.fn x=true\/X.env.scope.names.lookup x=some .local:=by first|exact .inl rfl|exact .inr rfl|assumption) :
 PS X (.AugAssign (.Name x F) op e G) (MB i te a):=JW b hi c d f g
def GO:([]:R').length+1+1+1+1<=sizeLine:=by decide
def FW:([]:R').length+1<=sizeLine:=by decide
section
variable {β γ:Type}
def AV (f:β->List β) (b:β):Nat->List β
 |0=>[b]
 |k+1=>AV f b k++match(AV f b k)[k]? with
   |some x=>f x
   |none=>[]
def Ic(f:β->List β)(b:β)(k:Nat):(AV f b k).length<=(AV f b (k+1)).length:=by show _<=(AV f b k++_).length;rw[BF];omega
def GP{f:β->List β}{b:β}{k:Nat}(h:k<(AV f b k).length):AV f b (k+1)=AV f b k++f (AV f b k)[k]:=by show AV f b k++_=_;rw[AQ h]
theorem Mi{P:β->Prop}{f:β->List β}{b:β}(c:P b)(d:∀x,P x->∀y∈f x,P y):∀k,∀x∈AV f b k,P x
 |0,x,a=>by rw[BY.mp a];exact c
 | k + 1,x,a=>by
   rcases CG.mp a with a|a;exact Mi c d k x a;cases e:(AV f b k)[k]? with|none=>rw[e] at a;simp at a|some y=>rw[e] at a;exact d y (Mi c d k y (Ei e)) x a
structure C3 (f:β->List β) (b:β) (k:Nat):Prop where
 bef:∀j,j<k->j<(AV f b j).length/\(AV f b j).length<=200
 at_:(k=(AV f b k).length/\(AV f b k).length<=200)\/200<(AV f b k).length
end
structure DM (H:Hp) (ts:F') (ss:List (Str×Nat)):Prop where
 len:ts.length=ss.length
 at_:∀(n:Nat)(t:Addr)(p:Str×Nat),ts[n]?=some t->ss[n]?=some p->H t=some (.tup [.str p.1,.str "to",.int (p.2:Int)])
variable {H:Hp}
def DM.nil:DM H [] []:=⟨rfl,λn t p h=>by simp at h⟩
variable {ts:F'}{ss:List (Str×Nat)}
def DM.same{H':Hp}(e:Ad H H')(h:DM H ts ss):DM H' ts ss:=⟨h.len,λn t p a b=>e _ _ (h.at_ n t p a b)⟩
def DM.updL{D:Addr}{o:HO}{xs:R'}(c:H D=some (.lst xs))(h:DM H ts ss):DM (upd H D o) ts ss:=⟨h.len,λn t p a b=>by
 have:=h.at_ n t p a b;rw[Ax λz=>by rw[z,c] at this;cases this];exact this⟩
def DM.ins{t:Addr}{p:Str×Nat}{k:Nat}(h:DM H ts ss)(j:k<=ss.length)(e:H t=some (.tup [.str p.1,.str "to",.int (p.2:Int)])):DM H (ts.take k++t::ts.drop k) (ss.take k++p::ss.drop k):=by
 have i:=h.len;refine⟨by simp[i],λn v q a b=>?_⟩;have f:(ts.take k).length=k:=by rw[CA];omega
 have g:(ss.take k).length=k:=by rw[CA];omega
 rcases v8 n k with c|c|c;rw[Ew (by omega),List.getElem?_take_of_lt c] at a;rw[Ew (by omega),List.getElem?_take_of_lt c] at b;exact h.at_ n v q a b;subst c;rw[D6 (by omega),f,Nat.sub_self] at a;rw[D6 (by omega),g,Nat.sub_self] at b;cases a;cases b;exact e;obtain⟨d,rfl⟩:∃d,n=k+1+d:=⟨n-k-1,by omega⟩;rw[D6 (by omega),f,show k+1+d-k=d+1 by omega,List.getElem?_cons_succ,List.getElem?_drop] at a;rw[D6 (by omega),g,show k+1+d-k=d+1 by omega,List.getElem?_cons_succ,List.getElem?_drop] at b;exact h.at_ (k+d) v q a b
def DM.snoc{t:Addr}{p:Str×Nat}(h:DM H ts ss)(e:H t=some (.tup [.str p.1,.str "to",.int (p.2:Int)])):DM H (ts++[t]) (ss++[p]):=by
 have:=h.ins (Aw _) e;have l:=h.len
 rwa [List.take_of_length_le (by omega),List.drop_of_length_le (by omega),List.take_of_length_le (Aw _),List.drop_of_length_le (Aw _)] at this
def Ov{l:F'}{i:Nat}(h:i<l.length):l[i]?=some (l.getD i 0):=by rw[A7,AQ h];rfl
def Cs (lab:Str):Nat->List (Str×Nat)->List (Nat×Nat)
 |_,[]=>[]
 |i,p::r=>if p.1=lab then(i,p.2)::Cs lab (i+1) r else Cs lab (i+1) r
theorem Tk(lab:Str):∀(l:List (Str×Nat))(i:Nat)(p:Str×Nat),Cs lab i (l++[p])=Cs lab i l++if p.1=lab then[(i+l.length,p.2)] else[]
 |[],i,p=>by show(if p.1=lab then[(i,p.2)] else[])=_;simp[Cs]
 |q::r,i,p=>by
   have a:=Tk lab r (i+1) p;show(if q.1=lab then(i,q.2)::Cs lab (i+1) (r++[p]) else Cs lab (i+1) (r++[p]))=(if q.1=lab then(i,q.2)::Cs lab (i+1) r else Cs lab (i+1) r)++_;rw[a,Ej,show i+(r.length+1)=i+1+r.length by omega]
   split<;>simp
theorem Ow(lab:Str):∀(l:List (Str×Nat))(i:Nat),(Cs lab i l).length<=l.length
 |[],_=>Aw _
 |q::r,i=>by
   have:=Ow lab r (i+1);show(if q.1=lab then(i,q.2)::Cs lab (i+1) r else Cs lab (i+1) r).length<=r.length+1
   split;rw[Ej];omega;omega
theorem QA{lab:Str}:∀{l:List (Str×Nat)}{i:Nat}{x:Nat×Nat},x∈Cs lab i l->∃p∈l,x.2=p.2
 |[],_,_,h=>by simp[Cs] at h
 |q::r,i,x,h=>by
   have h:x∈(if q.1=lab then(i,q.2)::Cs lab (i+1) r else Cs lab (i+1) r):=h
   split at h;rcases BL.mp h with rfl|h;exact⟨q,by simp,rfl⟩;obtain⟨p,a,b⟩:=QA h;exact⟨p,Dc _ a,b⟩;obtain⟨p,a,b⟩:=QA h;exact⟨p,Dc _ a,b⟩
abbrev B9:Type:=List (Nat×Nat)×Nat
abbrev CF (b:B9):O':=b.1.map (·.1)++[b.2]
def AA (lab:Str) (S:Nat->List (Str×Nat)) (b:B9):List B9:=((Cs lab 0 (S b.2)).filter λx=>decide (x.2∉CF b)).map λx=>(b.1++[(b.2,x.1)],x.2)
def Wb{lab:Str}{S:Nat->List (Str×Nat)}{b:B9}(h:(S b.2).length<=8):(AA lab S b).length<=8:=by unfold AA;rw[AD];exact Dm (Rr _ _) (Dm (Ow _ _ _) h)
structure EB (H:Hp) (ts:F') (ms:List (Nat×Nat)):Prop where
 len:ts.length=ms.length
 at_:∀(n:Nat)(t:Addr)(p:Nat×Nat),ts[n]?=some t->ms[n]?=some p->H t=some (.tup [.int (p.1:Int),.str "step",.int (p.2:Int)])
def EB.nil:EB H [] []:=⟨rfl,λn t p h=>by simp at h⟩
variable {ms:List (Nat×Nat)}
def EB.same{H':Hp}(e:Ad H H')(h:EB H ts ms):EB H' ts ms:=⟨h.len,λn t p a b=>e _ _ (h.at_ n t p a b)⟩
def EB.updL{D:Addr}{o:HO}{xs:R'}{ss:List (Nat×Nat)}(c:H D=some (.lst xs))(h:EB H ts ss):EB (upd H D o) ts ss:=⟨h.len,λn t p a b=>by
 have:=h.at_ n t p a b;rw[Ax λz=>by rw[z,c] at this;cases this];exact this⟩
def EB.snoc{t:Addr}{p:Nat×Nat}(h:EB H ts ms)(e:H t=some (.tup [.int (p.1:Int),.str "step",.int (p.2:Int)])):EB H (ts++[t]) (ms++[p]):=by refine⟨by rw[BF,BF,h.len];rfl,λn v q a b=>?_⟩;rcases u0 n ts.length with c|g;rw[Ew c] at a;rw[Ew (by rw[<-h.len];exact c)] at b;exact h.at_ n v q a b;have f:n<(ts++[t]).length:=(Cd.mp a).1;rw[BF,Ju] at f;have d:n=ts.length:=(by omega);subst d;rw[D6 (Aw _),Nat.sub_self] at a;rw[D6 (by rw[h.len];exact Aw _),h.len,Nat.sub_self] at b;cases a;cases b;exact e
abbrev KI:Enc:=Jh ET Qo ET
abbrev KJ:Enc:=Jh (DK KI) ET ET
abbrev Jn (p:Nat×Nat):KI.O.α:=((p.1:Int), "step",(p.2:Int))
def EB.dts{K:Ah}(h:EB H ts ms):AF K H (ts.map V.ref) ((ms.map Jn).map KI.D):=by refine AF.of_get (by simpa using h.len) λn v d a b=>?_;rw[BP] at a b;obtain⟨t,e,rfl⟩:=Dd.mp a;obtain⟨o,c,rfl⟩:=Dd.mp b;rw[BP] at c;obtain⟨p,f,rfl⟩:=Dd.mp c;exact .tup (AB.of (h.at_ n t p e f)) (.cons (.int _) (.cons (.str _) (.cons (.int _) .nil)))
def FX (H:Hp) (a:Addr) (b:B9):Prop:=∃ml ts,H a=some (.tup [.ref ml,.int (b.2:Int),.int 0])/\H ml=some (.lst (ts.map V.ref))/\EB H ts b.1
def FX.same{H H':Hp}{a:Addr}{b:B9}(e:Ad H H')(h:FX H a b):FX H' a b:=let ⟨c,ts,d,f,g⟩:=h;⟨c,ts,e _ _ d,e _ _ f,g.same e⟩
abbrev QB (b:B9):KJ.O.α:=(b.1.map Jn,(b.2:Int),0)
def FX.dt{K:Ah}{a:Addr}{b:B9}(h:FX H a b):Av K H (.ref a) (KJ.D (QB b)):=by obtain⟨f,ts,c,d,e⟩:=h;exact .tup (AB.of c) (.cons (.lst (Ag.of d) e.dts) (.cons (.int _) (.cons (.int _) .nil)))
def No{k:Nat}{r:O'}{g:TG}{tc:TT}{te:TE}{σ:St}{Y:Hp}{Q:Addr->Hp->Prop}{lo:Int}{n:Nat}(Pv:Addr->Nat->R'->Hp->Prop)
 (s:∀D,Y D=none->Pv D 0 [] (upd Y D (.lst [])))
 (t:∀(D:Addr)(i:Nat)(a:R')(U:Hp)(R:VK)(q:Hp->Prop),Y D=none->i<n->Pv D i a U->(∀y d,d D=some (.lst a)->a.length<sizeLine->Pv D (i+1) (a++[y]) (upd d D (.lst (a++[y])))->R y d)->(∀c,Pv D (i+1) a c->q c)->g (.int (lo+i)) (Cr k r σ) U λσ4 l=>tc σ4 l λb c=>if b=true then te σ4 c R else q c)
 (hd:∀D a U,Y D=none->Pv D n a U->Q D U) :
 ∀D,Y D=none->∃W:Nat->Nat->R'->Hp->Prop,(∃m,W 0 m [] (upd Y D (.lst [])))/\∀i m a U,W i m a U ->
  ((Hc lo n).stop i U/\Q D U)\/((Hc lo n).go i U/\∀x h,(Hc lo n).yld i U x h->g x (Cr k r σ) h λσ4 l=>tc σ4 l λb c =>
   if b=true then te σ4 c λy d=>d D=some (.lst a)/\a.length<sizeLine/\∃f,f<m/\W (i+1) f (a++[y]) (upd d D (.lst (a++[y]))) else ∃f,f<m/\W (i+1) f a c):=by
 intro D o;refine⟨λi m a U=>m=n-i/\i<=n/\Pv D i a U,⟨n,rfl,A9 _,s D o⟩,?_⟩;rintro i m a U ⟨rfl,B,p⟩;by_cases j:i<n;refine .inr ⟨j,λx h y=>?_⟩;obtain⟨rfl,rfl⟩:=y;refine t D i a h _ _ o j p (λv d u w z=>?_) (λc A=>?_);exact⟨u,w,n-(i+1),by omega,rfl,j,z⟩;exact⟨n-(i+1),by omega,rfl,j,A⟩;have e:i=n:=(by omega);subst e;exact .inl ⟨Aw _,hd D a U o p⟩
def Wc{β:Type}{f:β->List β}{b:β}{j:Nat}(h:∀i,i<j->i<(AV f b i).length/\(AV f b i).length<=200)(a:¬(j<(AV f b j).length/\(AV f b j).length<=200)):C3 f b j:=by
 refine⟨h,?_⟩
 have e:j<=(AV f b j).length:=by
  cases j with|zero=>exact A9 _|succ j=>have c:=(h j (Lj j)).1;have d:=Ic f b j;omega
 omega
end L2
namespace PySem
section
variable {prog:Program} {w:World} {K:Type} [DecidableEq K] {knd:HeapKind prog w K} {A:Around} {E:B'} {s:Shared}
def Wd{d a:Addr}{xs:List (K×Addr×Value)}{k:K}{v:Value}{Q:B'}(l:knd.room A)(i:knd.is s.heap k a)(r:s.heap.DictOfH knd d xs)
 (t:∀p,atKey xs k=some p->Q p.2 {s with toks:=s.toks+knd.draws k})
 (u:atKey xs k=none->∀h',h'.DictOfH knd d (storedH xs k a v)->Heap.SameBut d s.heap h'->Q v {s with heap:=h',toks:=s.toks+knd.draws k})
 (hsz:xs.length<=sizeLine:=by size_fits) :
 wpAny (model prog w) A (dictSetDefault d (.ref a) v) Q E s:=by
 obtain⟨o,D,z,c,B,hd,g,q,h⟩:=r;unfold dictSetDefault
 try with_reducible refine C1 ?_
 refine Ac (knd.pyHash l i ?_);refine Ac (wpAny_dictFind_heap (s:={s with toks:=s.toks+knd.draws k}) l i c hd g q h ?_ ?_);intro f;have C:k∉xs.map (·.1):=not_mem_keys_of_get f
 refine Ac (D9 (Ac (wpAny_updateDictKeys (hz:=by have e:=size_of_entries g;omega) (s:={s with toks:=s.toks+knd.draws k}) c hd (Al (u (atKey_none_of_get f) _ ⟨_,_,z+1,r9 _ c (Obj.isFreed_of_dict (Obj.data_mapDictKeys hd _)),
  B.mapDictKeys _,Obj.data_mapDictKeys hd _,?_,?_,?_⟩ (s0 ..))))))
 rw[storedH_new (atKey_none_of_get f)];simp[g,entryOfKey];rw[storedH_new (atKey_none_of_get f)];intro x b;rcases CG.mp b with b|b;exact knd.keeps (q x b) c hd (s0 ..);simp only[BY] at b;subst b;exact knd.keeps i c hd (s0 ..);rw[storedH_new (atKey_none_of_get f)];rw[Cb,List.nodup_append];refine⟨h,by simp,?_⟩;intro x b y m;simp only[D1,Mr,BY] at m;subst m;exact λe=>C (e▸b);intro j p n;refine Ac (wpAny_dictEntries (s:={s with toks:=s.toks+knd.draws k}) c hd ?_);rw[entry_at g j,n];exact Ac (D9 (Al (t p (atKey_of_get h n))))
def We(d a:Addr)(hd:(d==sysModules)=false)(b:Value) :
 MeetsIn prog w (Builtin.«dict.setdefault» ⟨[.ref d,.ref a,b],[]⟩) (λA R s=>knd.room A.in1/\∃k xs,knd.is s.heap k a/\s.heap.DictOfH knd d xs/\xs.length<=sizeLine /\
  (∀p,atKey xs k=some p->R (.ok (.ret p.2)) {s with toks:=s.toks+knd.draws k}) /\
  (atKey xs k=none->∀h',h'.DictOfH knd d (storedH xs k a b)->Heap.SameBut d s.heap h'->R (.ok (.ret b)) {s with heap:=h',toks:=s.toks+knd.draws k})):=
 .of_wp λA R s l=>by obtain⟨e,k,xs,o,c,f,g,h⟩:=l;unfold Builtin.«dict.setdefault»;refine Ac ?_;unfold Builtin.Dict.keyAndDefault;refine Ac (wpAny_notOrdered_dict c.typeIs ?_);show wpAny _ _ (pure (d,Value.ref a,some b)) _ _ s;refine Al ?_;show wpAny _ _ (if(d==sysModules)=true then _ else(dictSetDefault d (.ref a) b >>= _)) _ _ s;rw[An (by rw[hd];exact B0)];exact Ac (Wd (hsz:=f) e o c (λp i=>Al ⟨p.2,rfl,g p i⟩) λj h' m n=>Al ⟨b,rfl,h j h' m n⟩)
end
section
variable {prog:Program} {w:World} {A:Around} {E:B'} {s:Shared}
variable {d:Addr}{es:Array DictEntry}{ep:Nat}
theorem Wf{o:Obj}{Q:B'}(hd:(d==sysModules)=false)(a:s.heap.get? d=some o)(e:o.ExactDict)(c:o.data=.dict es ep)
 (f:Q (.ref s.heap.objs.size) {s with heap:=s.heap.push {cls:=.type "dict_keyiterator",data:=.fields #[.ref d,.int 0 0,.int es.size 0,.int ep 0]}}) :
 wpAny (model prog w) A (pyIter (.ref d)) Q E s:=by
 have b:s.TypeIs (.ref d) "dict" :=⟨o,a,e.1⟩;refine wpAny_pyIter_slot b F.slot_dict_iter (wpAny_call_entry F.slot_dict_iter b F.entry_dict_iter ?_ (F.args_dict_iter_1 _));unfold Builtin.«dict.__iter__»;refine Ac ?_;unfold Builtin.Dict.dictSlotNone;refine Ac (wpAny_notOrdered_dict b ?_);show wpAny _ _ (pure (Value.ref d)) _ _ s;refine Al ?_;show wpAny _ _ (Builtin.Dict.showsAll d >>= _) _ _ s;unfold Builtin.Dict.showsAll;rw[An (by rw[hd];exact B0)];refine Ac (Al ?_);refine Ac (wpAny_dictEntries a c ?_);refine Ac (wpAny_dictEpoch a c ?_);refine Ac (wpAny_newObj_type (Al ⟨_,rfl, "dict_keyiterator",_,⟨_,BG _ rfl,rfl⟩,F.slot_dict_keyiterator_next.lookup,?_⟩));simpa [rawInt] using f
theorem Wg{a:Addr}{i:Nat}{od:Obj}{Q:J'->Shared->Prop}(b:s.heap.IsKeyIter a d i es.size ep)
 (e:s.heap.get? d=some od) (f:od.data=.dict es ep) (k:i<es.size)
 (h:∀h',h'.IsKeyIter a d (i+1) es.size ep->Heap.SameBut a s.heap h'->Q (some es[i].key) {s with heap:=h'}) :
 wpAny (model prog w) A (pyNext (.ref a)) Q E s:=by
 obtain⟨o,c,j,hd⟩:=id b;unfold pyNext
 refine Ac (wpAny_attempt (wpAny_callSpecial?_slot (name:=Str.ofString "__next__") b.typeIs F.slot_dict_keyiterator_next
  (wpAny_call_entry F.slot_dict_keyiterator_next b.typeIs F.entry_dict_keyiterator_next ?_ (F.args_dict_keyiterator_next_1 _))))
 refine Ac (Al ?_);refine Ac ?_;refine Ac ?_
 first|refine Ac (wpAny_typeNameOfWhole_keyiter b.typeIs (Al ?_))|refine Ac (wpAny_typeNameOf_keyiter b.typeIs (Al ?_))
 refine Ac (wpAny_fieldsOf c hd ?_);have l:Builtin.Dict_items.ownsTuple "dict_keyiterator" = false:=(by decide);simp only[l,Dn,if_false];show wpAny _ _ (if(Value.ref d==Value.none)=true then _ else _) _ _ s;rw[An (show ¬((Value.ref d==Value.none)=true) from B0)];refine Ac (Al ?_);refine Ac (wpAny_dictEntries e f ?_);rw[An (by simp)];refine Ac (Al ?_);refine Ac (wpAny_dictEpoch e f ?_);rw[An (by simp)];refine Al ?_;simp only[show ¬((i:Int)<0) from by omega,if_false,E6,Array.getElem?_eq_getElem k];refine Ac ?_
 first|refine Ac (wpAny_typeNameOfWhole_keyiter b.typeIs (Al ?_))|refine Ac (wpAny_typeNameOf_keyiter b.typeIs (Al ?_))
 refine Ac (wpAny_isOneOf_keyiter b.typeIs ?_);show wpAny _ _ (setField (.ref a) 1 (rawInt ((i:Int)+1)) >>= _) _ _ s;refine Ac (wpAny_setField c hd (by simp) ?_)
 have g:(s.heap.update a (Obj.mapFields (·.setIfInBounds 1 (rawInt ((i:Int)+1))))).IsKeyIter a d (i+1) es.size ep:=
  ⟨_,r9 _ c (Obj.isFreed_of_fields (Obj.data_mapFields hd _)),(Obj.cls_mapFields ..).trans j,by rw[Obj.data_mapFields hd];simp[rawInt]⟩
 refine Ac (C1 ?_);refine Ac (wpAny_isOneOf_keyiter (s:={s with heap:=s.heap.update a (Obj.mapFields (·.setIfInBounds 1 (rawInt ((i:Int)+1))))}) g.typeIs ?_);show wpAny _ _ (pure es[i].key) _ _ _;exact Al (Al ⟨_,rfl,Al (h _ g (s0 ..))⟩)
theorem Wh{e:Addr}{i:Nat}{od:Obj}{Q:J'->Shared->Prop}(j:A.handled=none)(c:s.heap.IsKeyIter e d i es.size ep)
 (g:s.heap.get? d=some od) (h:od.data=.dict es ep) (l:es.size<=i)
 (k:∀h',Heap.ExtBut e s.heap h'->Q none {s with heap:=h'}):wpAny (model prog w) A (pyNext (.ref e)) Q E s:=by
 obtain⟨o,f,p,hd⟩:=id c;unfold pyNext
 refine Ac (wpAny_attempt (wpAny_callSpecial?_slot (name:=Str.ofString "__next__") c.typeIs F.slot_dict_keyiterator_next
  (wpAny_call_entry F.slot_dict_keyiterator_next c.typeIs F.entry_dict_keyiterator_next ?_ (F.args_dict_keyiterator_next_1 _))))
 refine Ac (Al ?_);refine Ac ?_;refine Ac ?_
 first|refine Ac (wpAny_typeNameOfWhole_keyiter c.typeIs (Al ?_))|refine Ac (wpAny_typeNameOf_keyiter c.typeIs (Al ?_))
 refine Ac (wpAny_fieldsOf f hd ?_);have n:Builtin.Dict_items.ownsTuple "dict_keyiterator" = false:=(by decide);simp only[n,Dn,if_false];show wpAny _ _ (if(Value.ref d==Value.none)=true then _ else _) _ _ s;rw[An (show ¬((Value.ref d==Value.none)=true) from B0)];refine Ac (Al ?_);refine Ac (wpAny_dictEntries g h ?_);rw[An (by simp)];refine Ac (Al ?_);refine Ac (wpAny_dictEpoch g h ?_);rw[An (by simp)];refine Al ?_;simp only[show ¬((i:Int)<0) from by omega,if_false,E6,Array.getElem?_eq_none l];refine Ac ?_
 first|refine Ac (wpAny_typeNameOfWhole_keyiter c.typeIs (Al ?_))|refine Ac (wpAny_typeNameOf_keyiter c.typeIs (Al ?_))
 show wpAny _ _ (setField (.ref e) 0 .none >>= _) _ _ s;refine Ac (wpAny_setField f hd (by simp) ?_);show wpAny _ _ (newExc (.type "StopIteration") [] >>= _) _ _ _;refine Ac ?_;simp only[newExc,newTuple];refine Ac (wpAny_newObj_type ?_ (by size_fits));refine Ac (m:=firstArgMember _ _) (wpAny_of_eq (a:=Value.none) (by first|rfl|(simp only[firstArgMember];rfl)) ?_);refine wpAny_newObj_type ?_ (by size_fits);simp only[raiseNew];refine Ac (wpAny_handled ?_);rw[show A.in1.handled=none from j];refine Ac (Al (wpAny_throw ?_));refine Ac (wpAny_isInstance (T:= "StopIteration") (b:=true) ⟨_,BG _ rfl,rfl⟩ isSubtype_stop ?_);exact Al (k _ (((s0 ..).extBut.push _).push _))
end
end PySem
namespace L2
open PySem PySem.Spec PyProof.Rows
section
variable {X:Cx}
def Np:V->R'->Hp->VK->Prop:=λx vs H Q=>∃a kvs k b d,x=.ref a/\vs=[.ref b,d]/\H a=some (.dT kvs)/\H b=some (.tup (k.map kV))/\kvs.length<sizeLine/\(∀v,AZ kvs k=some v->Q v H)/\(AZ kvs k=none->Q d (upd H a (.dT (Bj kvs k d))))
def Wi(B:X.A.units+1<cLine):J9 X "dict.setdefault" Np:=by
 intro aa s σ H x T v U Q I C D h;obtain⟨a,i,k,b,d,rfl,rfl,hd,m,V,E,Z⟩:=h;cases C;obtain⟨u,r,rfl,F,n⟩:=He D;cases(show u=Value.ref b from F);obtain⟨z,o,p,l,t⟩:=Gw I.hok hd;have j:p.length<=sizeLine:=by rw[<-Paired.length l];exact z
 have f:=l.val k
 refine call_meetsIn PySem.F.slot_dict_setdefault t.typeIs PySem.F.entry_dict_setdefault (PySem.F.args_dict_setdefault_3 _ _ _) (We (knd:=tupleKind (Dj X.prog X.w)) a b o r)
  ⟨tupleKind_room_in1 B,k,p,Jd I.hok m,t,j,λy G=>?_,λJ W S K=>?_⟩
 rw[G] at f
 cases e:AZ i k with
 |none=>rw[e] at f;exact False.elim f
 |some g=>rw[e] at f;exact⟨g,H,I.tok _,f,E g e⟩
 rw[J] at f
 cases e:AZ i k with
 |some g=>rw[e] at f;exact False.elim f
 |none=>
  have j:(Bj i k d).length<=sizeLine:=by have:=MP i k d;omega
  obtain⟨q,L,M,w,N,O,P,_,R⟩:=S;refine⟨d,_,MQ (ob:=.dT (Bj i k d)) I (by rw[hd];exact True.intro) K ⟨q,w⟩ ⟨j,o,_,(l.put k m n).keeps λc Y A=>?_,q,L,M,w,N,O,P,R⟩,n,Z e⟩;rw[Ax (NV A hd (λz=>nomatch z))];exact A
def Ox (H Y U:Hp):Prop:=∀b,U b=Y b\/H b=none/\∃kvs o,Y b=some (.dT kvs)/\U b=some (.frz o (.dT kvs))
def Inv.frz{pins:A'}{s:Shared}{σ:St}{H U:Hp}(I:Inv X pins σ H s)(h:∀b,U b=H b\/∃kvs o,s.heap.get? b=some o/\H b=some (.dT kvs)/\U b=some (.frz o (.dT kvs))):Inv X pins σ U s:=by
 have same:∀b u,H b=some u->(∀kvs,u≠.dT kvs)->U b=some u:=λb u e n=>by
  rcases h b with z|⟨kvs,o,_,z,_⟩;rw[z];exact e;rw[e] at z;cases z;exact absurd rfl (n kvs)
 refine I.step (g':=s.gens) (t':=s.toks) (d':=s.drawn) (h':=s.heap) (ch:=[]) (λb d=>nomatch d) (λb o _ _ _ z _=>z) (λb o _ _ _ z _=>⟨o.slots,z⟩) (λb o _ _ n=>?_) (λb o _ z=>⟨o,z⟩)
  (λb f z=>same b _ z λ_ q=>nomatch q) (λb o u z=>same b _ z λ_ q=>nomatch q) (λb k z=>⟨#[],by rw[same b _ z λ_ q=>nomatch q];simp⟩) (λm i=>i) (λb u z=>?_) I.bare
 rcases h b with z|⟨kvs,o,_,z,_⟩;rw[z];exact n;rw[n] at z;cases z;have a:∀{v:HO},H b=some v->Ay X.prog X.w U s.heap b v:=λ{v}e=>(I.hok b v e).stay (λ_ _ _ q=>q) (λc q=>same c _ q λ_ q=>nomatch q) λc f q=>same c _ q λ_ q=>nomatch q;rcases h b with y|⟨kvs,o,g,y,j⟩;rw[y] at z;exact a z;rw[j] at z;cases z;exact⟨g,a y⟩
def QC (t:TE):TE:=λσ H Q=>t σ H λv Y=>∀U,Ox H Y U->(∀b kvs,H b=none->Y b=some (.dT kvs)->∃o,U b=some (.frz o (.dT kvs)))->Q v U
set_option tactic.hygienic true in
def GQ{e:Expr}{t:TE}(m:PE X e t):PE X e (QC t):=by
 intro r s σ H Q I h;refine AG (m r s σ H _ I h) λu i⟨x,Y,k,n,p⟩=>?_
 classical
 let U:Hp:=λb=>if H b=none then(match Y b,i.heap.get? b with
  |some (.dT a),some o=>some (.frz o (.dT a))
  |z,_=>z) else Y b
 have j:∀b,U b=Y b\/H b=none /\ ∃a o,i.heap.get? b=some o/\Y b=some (.dT a)/\U b=some (.frz o (.dT a)):=λb=>by
  by_cases c:H b=none
  have e:U b=(match Y b,i.heap.get? b with
   |some (.dT a),some o=>some (.frz o (.dT a))
   |z,_=>z):=Ap c
  by_cases hd:∃a o,Y b=some (.dT a)/\i.heap.get? b=some o;obtain⟨a,o,d,f⟩:=hd;rw[d,f] at e;exact .inr ⟨c,a,o,f,d,e⟩;refine .inl ?_;rw[e];split;rename_i a o d f;exact absurd ⟨a,o,d,f⟩ hd;rfl;exact .inl (An c)
 refine⟨x,U,k.frz λb=>(j b).imp id λ⟨_,z⟩=>z,n,p U (λb=>(j b).imp id λ⟨c,a,o,_,d,f⟩=>⟨c,a,o,d,f⟩) λb a c z=>?_⟩;rcases j b with y|⟨_,v,o,_,l,q⟩;exfalso;obtain⟨_,_,_,_,o,w,A,g,_⟩:=(show Ay X.prog X.w Y i.heap b (.dT a) from k.hok b _ z);have e:U b=some (.frz o (.dT a)):=(by show(if H b=none then _ else _)=_;rw[Ap c,z,g]);rw[e,z] at y;cases y;rw[z] at l;cases l;exact⟨o,q⟩
def Nq (a:Addr) (o:Obj) (kvs:List (List A2×V)):It:=
 ⟨λi H=>H a=some (.frz o (.dT kvs))/\i<kvs.length,λi H x H'=>H'=H/\∃k v b,kvs[i]?=some (k,v)/\x=.ref b/\H b=some (.tup (k.map kV)),λi H=>H a=some (.frz o (.dT kvs))/\kvs.length<=i⟩
def KL{α β:Type}{F:α->β->Prop}{l:List α}{m:List β}(h:Paired F l m):∀{i:Nat}(hi:i<l.length),∃y,m[i]?=some y/\F l[i] y:=by
 induction h with
 |nil=>intro i hi;exact absurd hi (Nat.not_lt_zero _)
 |cons r t a=>
  intro i hi;cases i with|zero=>exact⟨_,rfl,r⟩|succ i=>exact a (i:=i) (by simpa using hi)
def Wj{P:Program}{w:World}{K:Ah}{tg:Expr}{a j:Addr}{o:Obj}{kvs:List (List A2×V)}{es:Array DictEntry}{ep:Nat}(hd:o.data=.dict es ep) :
 Ep P w K tg (Nq a o kvs) [j] j (λi h=>h.IsKeyIter j a i es.size ep) where
 mem:=by simp
 obj:=λi h f b l=>by have e:b=j:=(by simpa using l);subst e;obtain⟨o,e,c,d⟩:=f;exact⟨o,e,λah z=>by rw[d] at z;cases z⟩
 keep:=λi h p f k=>f.at λo e=>k j (by simp) o e
 item:=by intro X t u v N i R s σ H E I r f x;subst t u v;obtain⟨A,B⟩:=x;obtain⟨m,z,y,S,M,T,ab,ae,g,U,n,C,W⟩:=(show Ay X.prog X.w H s.heap a (.frz o (.dT kvs)) from I.hok a _ A);rw[m] at g;cases g;rw[hd] at n;cases n;obtain⟨q,Y,e1,Z,e3⟩:=KL M B;have O:=entry_at (knd:=tupleKind (Dj X.prog X.w)) C i;rw[Y] at O;obtain⟨af,ag⟩:=Array.getElem?_eq_some_iff.mp O;obtain⟨D,F,aa,G,J,L⟩:=r j (by simp);refine Wg f m hd af λp Q sb=>?_;have I1:Inv X R σ H {s with heap:=p}:=I.turned (t':=s.toks) (λb o l e=>(sb.2 b l).trans e) D F G J L;obtain⟨oi,e,c,d⟩:=id Q;refine⟨_,rfl,MC (s:={s with heap:=p}) e c d (by decide) ⟨.ref q.2.1,H,I1,?_,⟨rfl,kvs[i].1,kvs[i].2,q.2.1,by simp[B],rfl,Z⟩,Q,λb l=>(r b l).1⟩⟩;rw[ag];rfl
 done:=by intro X t u v N i R s σ H E I r f x;subst t u v;obtain⟨A,B⟩:=x;obtain⟨m,z,y,S,M,T,ab,ae,g,U,n,C,W⟩:=(show Ay X.prog X.w H s.heap a (.frz o (.dT kvs)) from I.hok a _ A);rw[m] at g;cases g;rw[hd] at n;cases n;have ai:=size_of_entries C;have hl:=Paired.length M;obtain⟨D,F,aa,G,J,L⟩:=r j (by simp);exact Wh (I.ok.hd N) f m hd (by omega) λp eb=>⟨rfl,I.turned (t':=s.toks) (λb o l e=>eb b o l e) D F G J L⟩
 self:=λ_ _ _ _ _ f h=>wpAny_pyIter_keyiter f h
def Nr (k:TE):TI:=λσ H R=>k σ H λx Y=>∃a kvs,x=.ref a/\Rd Y a (.dT kvs)/\∀o,(Y a=some (.dT kvs)\/Y a=some (.frz o (.dT kvs)))->R (Nq a o kvs) (upd Y a (.frz o (.dT kvs)))
def Ie{tg l:Expr}{k:TE}(r:PE X l k):PI X tg l (Nr k):=by
 intro p s σ H R I h;refine AG (r p s σ H _ I h) λv c⟨x,Y,i,t,u⟩=>?_;obtain⟨a,d,e,m,q⟩:=u;subst e;cases t;obtain⟨_,w,B,_,o,C,D,g,y,n,_⟩:=(show Ay X.prog X.w Y c.heap a (.dT d) from Gu i.hok m)
 have f:Y a=some (.dT d)\/Y a=some (.frz o (.dT d)):=by
  rcases m with z|⟨A,z⟩;exact .inl z;have:=(show Ay X.prog X.w Y c.heap a (.frz A (.dT d)) from i.hok a _ z).1;rw[g] at this;cases this;exact .inr z
 have j:Inv X p σ (upd Y a (.frz o (.dT d))) c:=i.frz λb=>by
  by_cases e:b=a;subst e;rcases f with z|z;exact .inr ⟨d,o,g,z,Aa⟩;exact .inl (Aa.trans z.symm);exact .inl (Ax e)
 refine Wf w g y n ?_;refine⟨c.heap.objs.size,[c.heap.objs.size],_,_,_,rfl,j.kept (t':=c.toks) λb o e=>AR _ e,Wj n,⟨_,BG _ rfl,rfl,rfl⟩,λb f=>?_,q o f⟩;have e:b=c.heap.objs.size:=(by simpa using f);subst e;exact j.fpOk (Aw _) (j.hok.fresh (Aw _))
def Wk{a:Addr}{o:Obj}{kvs:List (List A2×V)}{g:TG}{tb:TS}{D:Ends}{σ:St}{H:Hp}(Pv:Nat->St->Hp->Prop)(f:Pv 0 σ H)(h:∀i σ H,i<=kvs.length->Pv i σ H->H a=some (.frz o (.dT kvs)))
 (j:∀i k v b σ H,kvs[i]?=some (k,v)->H b=some (.tup (k.map kV))->Pv i σ H->g (.ref b) σ H λσ2 U=>tb {D with nx:=Pv (i+1),ct:=Pv (i+1),bk:=D.nx} σ2 U) (hd:∀σ H,Pv kvs.length σ H->D.nx σ H) :
 ∃W:Nat->Nat->St->Hp->Prop,(∃m,W 0 m σ H)/\∀i m σ H,W i m σ H ->
  ((Nq a o kvs).stop i H/\D.nx σ H)\/((Nq a o kvs).go i H/\∃N:St->Hp->Prop,(∀σ' H',N σ' H'->∃c,c<m/\W (i+1) c σ' H')/\∀x H',(Nq a o kvs).yld i H x H'->g x σ H' λσ2 U=>tb {D with nx:=N,ct:=N,bk:=D.nx} σ2 U):=by
 refine⟨λi m σ H=>m=kvs.length-i/\i<=kvs.length/\Pv i σ H,⟨kvs.length,by simp,A9 _,f⟩,?_⟩;rintro i m σ H ⟨rfl,l,p⟩;have q:=h i σ H l p;by_cases d:i<kvs.length;refine .inr ⟨⟨q,d⟩,Pv (i+1),λσ' H' n=>⟨kvs.length-(i+1),by omega,rfl,d,n⟩,λx H' y=>?_⟩;obtain⟨e,k,v,b,r,s,t⟩:=y;subst e s;exact j i k v b σ _ r t p;have e:i=kvs.length:=(by omega);subst e;exact .inl ⟨⟨q,Aw _⟩,hd σ H p⟩
end
end L2
namespace PySem
section
variable {prog:Program} {w:World} {A:Around} {E:B'} {s:Shared}
theorem Wl{a:Addr}{o:Obj}{xs:L'}{k:Nat}{Q:J'->Shared->Prop}
 (f:s.heap.get? a=some o) (i:o.cls=.type "list") (n:o.data=.seq xs k) (hd:o.dict=none) (p:A.handled=none)
 (h:∀h' L,(∀b o,s.heap.get? b=some o->h'.get? b=some o)->Q none {s with heap:=h',toks:=L}):wpAny (model prog w) A (getAttr? (.ref a) "keys") Q E s:=by
 obtain⟨c,dct,G,q⟩:=o;simp only at i n hd;subst i n hd;obtain⟨r,g,d,L,t⟩:=s;have j:∀l,(⟨r,g,d,l,t⟩:Shared).TypeIs (.ref a) "list" :=λ_=>⟨_,f,rfl⟩;have v:=sub_AttributeError;have x:=F.slot_list_getattribute.lookup;have y:=F.slot_list_getattribute.bind (.ref a);have z:=am_list_getattr_none;have u:typeLookup (.type "list") "keys" = pure none:=by rw[typeLookup_type,builtinLookup_eq_fast];kernel_rfl
 unfold getAttr? getAttrBy? getAttrBy
 repeat (any_goals (first|assumption|exact j _|((with_reducible show wpAny _ _ (call (Value.builtin "list.__getattribute__") _ _) _ _ _);refine call_meets F.slot_list_getattribute (j _) am_entry_list_getattribute (F.args_list_getattribute_2 _ _) (meets_getattribute_miss_list a xs k q "keys" _ u (by decide) (by size_fits)) ⟨f,p,λh' l e m=>?_⟩)|wp_step))
 obtain⟨B,C,D⟩:=m.there;show wpAny _ _ (getattributeRaised _ _ _ _ _ _ _) _ _ _;unfold getattributeRaised
 repeat (any_goals (first|assumption|wp_step))
 exact h _ _ m.keeps
namespace F
def args_minD(a v:Value):argsOk "min" ⟨[a],[(Str.ofString "default",v)]⟩:=by unfold argsOk;kernel_rfl
def entry_upd_loop:entryFor table "dict.update.loop" = some Builtin.«dict.update.loop»:=entryFor_of_tree (by kernel_rfl)
def plain_upd_loop:plainId "dict.update.loop" = true:=by decide +kernel
end F
variable {R:Result->Shared->Prop} {I:Addr} {fp g:F'} {n:Nat} {P:Nat->Value->Prop} {St:Nat->Heap->Prop}
def Oy:(toString "min" ++ toString ".loop" : String) = "min.loop" :=by decide
theorem QD(W:Walks prog w A.in1 I fp g n P St)(d:Nat->Nat->Bool)(E:CmpOf prog w A.in1 .Lt P d)(S:Addr)(p:S∉fp)(t:List (Str×Value)) :
 ∀(k j:Nat)(s:Shared)(a:Value)(c:Nat),n=j+1+k->St (j+1) s.heap->P (argBest d j) a->s.heap.get? S=some {cls:=.type "list",data:=.seq #[a,a] c} ->
 (∀v h' L,P (argBest d (n-1)) v->(∀b o,b∉g->b≠S->s.heap.get? b=some o->h'.get? b=some o)->R (.ok (.ret v)) {s with heap:=h',toks:=L}) ->
 codeAny (model prog w) A (.builtin "min.loop" ⟨[.ref I,.none,.ref S],t⟩) R s
 |0,j,s,a,c,G,y,r,m,q=>by subst G;refine codeAny_builtin F.entry_min_loop ?_;rw[u4 F.plain_min_loop _];show wpAny _ A.in1 (seqItems? (.ref S) >>= _) _ _ s;refine Ac (Fa m rfl ?_);show wpAny _ A.in1 (tryCatch (pyNext (.ref I)) _ >>= _) _ _ s;refine Ac (wpAny_tryCatch (W.done s _ _ y λh' L i=>?_));show wpAny _ A.in1 (updateSeq S (λ_=>#[]) >>= _) _ _ _;refine Ac (wpAny_updateSeq (i S _ (λh=>p (W.sub _ h)) m) rfl (Ac (wpAny_letGo (Al (q a _ L r λb o f l e=>?_)))));exact(Heap.get?_update_other _ _ (Ne.symm l)).trans (i b o f e)
 | k + 1,j,s,a,c,G,y,r,m,q=>by
   refine codeAny_builtin F.entry_min_loop ?_;rw[u4 F.plain_min_loop _];show wpAny _ A.in1 (seqItems? (.ref S) >>= _) _ _ s;refine Ac (Fa m rfl ?_);show wpAny _ A.in1 (tryCatch (pyNext (.ref I)) _ >>= _) _ _ s;refine Ac (wpAny_tryCatch (W.item (j+1) s _ _ (by omega) y λv h' L H K i=>?_));have z:=i S _ (λh=>p (W.sub _ h)) m;show wpAny _ A.in1 (tryCatch (holding [v,v] (richCompare .Lt v a >>= _)) _ >>= _) _ _ _;refine Ac (wpAny_tryCatch (C1 (Ac (E (j+1) (argBest d j) v a _ _ _ H r (Ac (C1 (El (Ac (wpAny_letGo (Al ?_))))))))))
   cases J:d (j+1) (argBest d j) with
   |true=>simp only[if_true];refine Ac (wpAny_updateSeq z rfl (Ac (wpAny_letGo ?_)));rw[Oy];refine Al ⟨plainId_quiet F.plain_min_loop _,QD W d E S p t k (j+1) _ v _ (by omega) (W.frame _ _ _ K λb M o e=>?_) (by simp only[argBest,J,if_true];exact H) (r9 _ z rfl) λu x B C D=>?_⟩;exact(Heap.get?_update_other _ _ (λh:S=b=>p (by rw[h];exact M))).trans e;exact q u x B C λb o f l e=>D b o f l ((Heap.get?_update_other _ _ (Ne.symm l)).trans (i b o f e))
   |false=>
    simp only[Dn,if_false];refine Ac (wpAny_letGo ?_);rw[Oy]
    exact Al ⟨plainId_quiet F.plain_min_loop _,QD W d E S p t k (j+1) _ a c (by omega) K (by simp only[argBest,J,Dn,if_false];exact r) z λu x B C D =>
     q u x B C λb o f l e=>D b o f l (i b o f e)⟩
theorem Wm{x d:Value}{Q:B'}
 (h:wpAny (model prog w) A.in1 (pyIter x) (λm c=>∃I fp g n P St f,m=.ref I/\Walks prog w A.in1 I fp g n P St/\St 0 c.heap/\(∀b∈fp,b<c.heap.objs.size)/\CmpOf prog w A.in1 .Lt P f /\
  ∀v h' L,(if n=0 then v=d else P (argBest f (n-1)) v)->(∀b o,b∉g->c.heap.get? b=some o->h'.get? b=some o)->Q v {c with heap:=h',toks:=L}) E s) :
 wpAny (model prog w) A (call (.builtin "min") [x] [(Str.ofString "default",d)]) Q E s:=by
 refine wpAny_call (codeAny_call_builtin F.plain_min F.entry_min (wpAny_of_eq (a:=()) (by
  have k:=F.args_minD x d;simp only[checkBuiltinCall,F.kind_min];unfold argsOk at k
  cases R:Manifest.signature? "min" with
  |none=>rfl
  |some U=>rw[R] at k;exact k) ?_))
 show wpAny _ A.in1 (Builtin.Builtins.bindParams "min" ["key", "default"] 0 ⟨[],[(Str.ofString "default",d)]⟩ >>= _) _ _ s;refine Ac (wpAny_of_eq (show Builtin.Builtins.bindParams "min" ["key", "default"] 0 ⟨[],[(Str.ofString "default",d)]⟩=pure [none,some d] from rfl) ?_);refine Ac (Al ?_);refine Ac (Do h (λm c y=>?_) λ_ _ e=>e);obtain⟨I,fp,g,n,P,St,f,rfl,W,G,H,S,p⟩:=y;refine Ac (wpAny_newObj_type ?_);have l:c.heap.objs.size∉fp:=λz=>D7 _ (H _ z);have J:c.heap.objs.size∉g:=λh=>l (W.sub _ h);rw[Oy];have q:(c.heap.push {cls:=.type "list",data:=.seq #[]}).get? c.heap.objs.size=some {cls:=.type "list",data:=.seq #[]}:=BG _ rfl;have u:=W.frame _ _ (c.heap.push {cls:=.type "list",data:=.seq #[]}) G λb _ o e=>AR _ e;refine Al ⟨plainId_quiet F.plain_min_loop _,codeAny_builtin F.entry_min_loop ?_⟩;rw[u4 F.plain_min_loop _];show wpAny _ A.in1 (seqItems? (.ref c.heap.objs.size) >>= _) _ _ _;refine Ac (Fa q rfl ?_);show wpAny _ A.in1 (tryCatch (pyNext (.ref I)) _ >>= _) _ _ _;cases n with|zero=>refine Ac (wpAny_tryCatch (W.done _ _ _ u λh' L i=>?_));exact Ac (D9 (Al (p d _ L (by rw[Ap rfl]) λb o j e=>i b o j (AR _ e))))|succ n=>refine Ac (wpAny_tryCatch (W.item 0 _ _ _ (IR _) u λv h' L B T i=>?_));have t:=i _ _ J q;show wpAny _ A.in1 (updateSeq c.heap.objs.size (λ_=>#[v,v]) >>= _) _ _ _;refine Ac (wpAny_updateSeq t rfl ?_);rw[Oy];refine Al ⟨plainId_quiet F.plain_min_loop _,QD W f S _ l _ n 0 _ v _ (by omega) (W.frame _ _ _ T λb K o e=>?_) B (r9 _ t rfl) λC D M N O=>?_⟩;exact(Heap.get?_update_other _ _ (λh:c.heap.objs.size=b=>l (by rw[h];exact K))).trans e;refine p C D M (by rw[An (Nat.succ_ne_zero n)];exact N) λb o j e=>?_;have r:b≠c.heap.objs.size:=Bu (AI e);exact O b o j r ((Heap.get?_update_other _ _ (Ne.symm r)).trans (i b o j (AR _ e)))
end
end PySem
namespace L2
open PySem PySem.Spec PyProof.Rows
section
variable {X:Cx}
def GR:D'->V
 |[]=>.non
 |n::ns=>.int (ns.foldl min n)
theorem Tn(f:Nat->Int):∀n,f (argBest (λi j=>decide (f i<f j)) n)=((List.range n).map λi=>f (i+1)).foldl min (f 0)
 |0=>rfl
 |n+1=>by
   have a:=Tn f n;rw[List.range_succ,Cb,Po];show f (if _ then _ else _)=min _ (f (n+1));rw[<-a];by_cases h:f (n+1)<f (argBest (λi j=>decide (f i<f j)) n);rw[Ap (B2 h)];omega;rw[An (by simpa using h)];omega
def Wn(n:Int)(a:D'):((List.range a.length).map λi=>(n::a).getD (i+1) 0)=a:=by apply r6;intro i;rw[BP];by_cases h:i<a.length;rw[List.getElem?_range h,Option.map_some,A7,List.getElem?_cons_succ,AQ h];rfl;rw[FZ (by simpa using h),FZ (by omega)];rfl
def Nt (B:TA):TE:=λσ H Q=>B σ H λvs Y=>∃p ns,vs=[.ref p]/\Y p=some (.lst (ns.map V.int))/\Q (GR ns) Y
def Ig{e:Expr}{B:TA}{p G y C:Pos}{j:Nat}(D:X.calm=true)(E:Gl X "min")(F:X.mg "min" = none)(J:PA X [e] B)
 (f:backTo G (starEach [e] X.env)=(false,eval e X.env)::backTo G (starEach [] X.env):=by rfl) (S:(backTo G (starEach [e] X.env)).any (·.1)=false:=by rfl) :
 PE X (.Call (.Name "min" p) [e] [⟨some "default",.Constant .none j y,C⟩] G) (Nt B):=by
 intro U s σ H Q I h;refine wpAny_Call_Name_kw (IT I E F (u:=.builtin "min") (by decide +kernel) (callWith_kw (AG (J G U s σ H _ I h) λZ c⟨vs,Y,k,K,M⟩=>kws_cons (Constant_none (kws_nil ?_))) f S));obtain⟨l,a,rfl,N,q⟩:=M;obtain⟨u,rfl,O⟩:=EL K;cases O;obtain⟨z,g,n,r,e⟩:=(show Ay X.prog X.w Y c.heap l (.lst (a.map V.int)) from k.hok l _ N);have w:=UN r;have x:c.heap.IsList l g.toArray:=⟨_,e,rfl,n,rfl⟩;have W:g.length=a.length:=by have:=r.length;rw[AD] at this;exact this.symm
 refine Wm (wpAny_pyIter_list x ⟨_,[c.heap.objs.size,l],[c.heap.objs.size],_,λi v=>g.toArray[i]?=some v,λi h=>h.IsListIter c.heap.objs.size l i/\h.IsList l g.toArray,λi j=>decide (a.getD i 0<a.getD j 0),rfl,Walks.list (A:=X.A.in1) (k.ok.hd D) c.heap.objs.size l (Bu (AI e)) g.toArray,
  ⟨⟨_,BG _ rfl,rfl,rfl⟩,x.push _⟩,λb f=>?_,CmpOf.ints_lt (λi=>a.getD i 0) (λi v d=>w.int_at i v (by simpa using d)),λv P L d R=>?_⟩)
 show b<(c.heap.push _).objs.size;rw[q9];rcases BL.mp f with rfl|f;exact Lj _;rw[BY.mp f];exact Nat.lt_succ_of_lt (AI e);have T:∀b o,c.heap.get? b=some o->P.get? b=some o:=λb o z=>R b o (by simpa using Bu (AI z)) (AR _ z);refine⟨GR a,Y,k.kept T,?_,q⟩;rw[BR,W] at d;cases a with|nil=>exact d|cons m a=>rw[Ej,An (Nat.succ_ne_zero _),Nat.add_sub_cancel] at d;obtain⟨t,rfl⟩:=w.int_at (argBest (λi j=>decide ((m::a).getD i 0<(m::a).getD j 0)) a.length) v (by rw[<-List.getElem?_toArray];exact d);refine⟨t,?_⟩;rw[Tn λi=>(m::a).getD i 0,Wn];rfl
def GS (acc:List (List A2×V)) (ps:List (List A2×V)):List (List A2×V):=ps.foldl (λa kv=>Bj a kv.1 kv.2) acc
def GU (H:Hp) (xs:R') (ps:List (List A2×V)):Prop:=Paired (λx(p:List A2×V)=>∃t b,x=.ref t/\H t=some (.tup [.ref b,p.2])/\H b=some (.tup (p.1.map kV))) xs ps
def Wo{pins:A'}{σ:St}{A:Around}{R:Result->Shared->Prop}{H:Hp}{p l f:Addr}(hu:A.units+1<cLine)(hh:A.in1.handled=none)(m:H p=none)(J:f≠p) :
 ∀(xs:R')(r:List (List A2×V))(d:R')(acc:List (List A2×V))(s:Shared),GU H xs r->H l=some (.lst (d++xs))->acc.length+xs.length<=sizeLine->Inv X pins σ (upd H p (.dT acc)) s ->
 s.heap.IsListIter f l d.length->CV X pins H f->(∀M,Inv X pins σ (upd H p (.dT (GS acc r))) M->R (.ok (.ret .none)) M)->∀n:Int,
 codeAny (model X.prog X.w) A (.builtin "dict.update.loop" ⟨[.ref p,.ref f,rawInt n,.none],[]⟩) R s:=by
 intro xs r d acc s hx
 induction hx generalizing d acc s with
 |nil=>intro g N I w u y n;have K:upd H p (.dT acc) l=some (.lst (d++[])):=(Ax (AM g m)).trans g;obtain⟨B,C,ae,D,E,F⟩:=u;have L:upd H p (.dT acc) f=none:=(Ax J).trans B;obtain⟨z,Z,c,G,e⟩:=(show Ay X.prog X.w _ s.heap l (.lst (d++[])) from I.hok l _ K);have aq:=G.length;rw[EF] at aq;refine codeAny_builtin PySem.F.entry_upd_loop ?_;rw[u4 PySem.F.plain_upd_loop _];show wpAny _ A.in1 (pyNext (.ref f) >>= _) _ _ s;refine Ac (wpAny_pyNext_list_end hh w ⟨_,e,rfl,c,rfl⟩ (by simp;omega) λj eb=>?_);exact Ac (Al (Al (y _ (I.turned (t':=s.toks) (λb o h e=>eb b o h e) L C D E F))))
 |@cons x q xs r hq k ih=>
  intro g N I w u y n;obtain⟨t,b,rfl,O,h⟩:=hq;have K:upd H p (.dT acc) l=some (.lst (d++.ref t::xs)):=(Ax (AM g m)).trans g;have ah:upd H p (.dT acc) t=some (.tup [.ref b,q.2]):=(Ax (AM O m)).trans O;have aa:upd H p (.dT acc) b=some (.tup (q.1.map kV)):=(Ax (AM h m)).trans h;obtain⟨B,C,ae,D,E,F⟩:=id u;have L:upd H p (.dT acc) f=none:=(Ax J).trans B;obtain⟨z,Z,c,G,e⟩:=(show Ay X.prog X.w _ s.heap l (.lst (d++.ref t::xs)) from I.hok l _ K);obtain⟨ar,ai,ru⟩:=G.get (i:=d.length) (x:=.ref t) (by simp);cases ru;refine codeAny_builtin PySem.F.entry_upd_loop ?_;rw[u4 PySem.F.plain_upd_loop _];show wpAny _ A.in1 (pyNext (.ref f) >>= _) _ _ s;refine Ac (wpAny_pyNext_list_item w (⟨_,e,rfl,c,rfl⟩:s.heap.IsList l Z.toArray) (x:=.ref t) (by simpa using ai) λj aj sb=>?_);have v:Inv X pins σ (upd H p (.dT acc)) {s with heap:=j}:=I.turned (t':=s.toks) (λb o h e=>(sb.2 b h).trans e) L C D E F;obtain⟨_,ts,rt,ot,P,ct,nt,dt⟩:=(show Ay X.prog X.w _ j t (.tup [.ref b,q.2]) from v.hok t _ ah);obtain⟨u1,Q,rfl,r1,r2⟩:=He rt;cases(show u1=Value.ref b from r1);obtain⟨zd,hm,es,ab,dd⟩:=Gw v.hok (Aa (H:=H) (a:=p) (o:=.dT acc));have ak:es.length<=sizeLine:=by rw[<-Paired.length ab];exact zd
  have au:(Bj acc q.1 q.2).length<=acc.length+1:=MP acc q.1 q.2;rw[Ej] at N;refine Ac (C1 (Ac (wpAny_tryCatch ?_)));show wpAny _ A.in1 (Builtin.Dict.pairItems (.ref t)) _ _ _;unfold Builtin.Dict.pairItems;refine Ac (NU (s:={s with heap:=j}) (T:= "tuple") ⟨ot,P,ct⟩ ?_);rw[Ap (by decide)];refine Ac (Fa (s:={s with heap:=j}) P dt (Al ?_));show wpAny _ A.in1 (holding [Value.ref b,Q] (dictSet p (.ref b) Q)) _ _ _;refine C1 (wpAny_dictSet_heap (hsz:=ak) (knd:=tupleKind (Dj X.prog X.w)) (tupleKind_room_in1 hu) (Jd v.hok aa) dd λh2 al S=>?_);obtain⟨U,an,ao,W,af,ag,g4,_,g5⟩:=al;have I2:Inv X pins σ (upd H p (.dT (Bj acc q.1 q.2))) {s with heap:=h2,toks:=s.toks+(tupleKind (Dj X.prog X.w)).draws q.1}:=(by have:=MQ (t':=s.toks+(tupleKind (Dj X.prog X.w)).draws q.1) (ob:=.dT (Bj acc q.1 q.2)) v (by rw[Aa];exact True.intro) S ⟨U,W⟩ ⟨by omega,hm,_,(ab.put q.1 aa r2).keeps λc ys Y=>?_,U,an,ao,W,af,ag,g4,g5⟩;rw[Hw] at this;exact this;rw[Ax (NV Y Aa (λz=>nomatch z))];exact Y);refine Al ⟨plainId_quiet PySem.F.plain_upd_loop _,?_⟩;have:=ih (d++[.ref t]) (Bj acc q.1 q.2) _ (by rw[E5];exact g) (by omega) I2 (by rw[BF];exact aj.at λo e=>(S.2 f J).trans e) u y (n+1);exact this
def Ih:R'->Hp->VK->Prop:=λvs H Q=>∃l xs ps,vs=[.ref l]/\H l=some (.lst xs)/\xs.length<sizeLine/\GU H xs ps/\∀p,H p=none->Q (.ref p) (upd H p (.dT (GS [] ps)))
def Wp(j:X.calm=true)(y:X.A.units+2<cLine):A1 X (.type "dict") Ih:=by
 intro pins s σ H K M Q I r h;obtain⟨l,k,B,rfl,m,N,C,q⟩:=h;obtain⟨u,rfl,D⟩:=EL r;cases D;have n:H s.heap.objs.size=none:=I.hok.fresh (Aw _);refine callType_codes (Q₁:=λw p=>w=.ref s.heap.objs.size/\p={s with heap:=s.heap.push {cls:=.type "dict",data:=.dict #[]}}) PySem.F.kt_called_dict (PySem.F.kt_typeCall_dict_1 _) PySem.F.entry_dict_init (kt_code_dict_new _ ⟨rfl,rfl⟩) ?_;rintro w p ⟨rfl,rfl⟩;have E:=I.laid (a:=s.heap.objs.size) (o:=.dT []) (t':=s.toks) (h':=s.heap.push {cls:=.type "dict",data:=.dict #[]}) (λ_ _ q=>AR _ q) (Aw _) (R7 s.heap I.big);obtain⟨z,R,c,O,e⟩:=(show Ay X.prog X.w _ s.heap l (.lst k) from I.hok l _ m);have f:=AR {cls:=.type "dict",data:=.dict #[]} e;have t:Shared.TypeIs {s with heap:=s.heap.push {cls:=.type "dict",data:=.dict #[]}} (.ref s.heap.objs.size) "dict" :=⟨_,BG _ rfl,rfl⟩;refine⟨t,PySem.F.args_dict_init_2 _ _,?_⟩;unfold Builtin.«dict.__init__»;refine Ac ?_;unfold Builtin.Dict.selfAndRest;refine Ac (wpAny_notOrdered_dict t ?_);show wpAny _ _ (pure (s.heap.objs.size,[Value.ref l])) _ _ _;refine Al ?_;show wpAny _ _ (Builtin.Dict.updateFrom "dict.__init__" s.heap.objs.size (.ref l) [] .none) _ _ _;unfold Builtin.Dict.updateFrom;refine Ac (NU (T:= "list") ⟨_,f,rfl⟩ ?_);rw[Ap (by decide)];refine Ac (Wl f rfl rfl rfl (I.ok.hd j) λd L v=>?_);rw[Ap (show(none:J').isNone=true from rfl)];have g:=E.kept (t':=L) v;refine Ac (D9 (Ac (wpAny_pyIter_list (s:={s with heap:=d,toks:=L}) ⟨_,v _ _ f,rfl,c,rfl⟩ ?_)));have F:=g.kept (t':=L) (h':=d.push {cls:=.type "list_iterator",data:=.fields #[.ref l,.int 0 0]}) λb o e=>AR _ e;obtain⟨i,G⟩:=g.fpOk (Aw d.objs.size) (g.hok.fresh (Aw _));have x:d.objs.size≠s.heap.objs.size:=λz=>by rw[z,Aa] at i;cases i
 refine Al ⟨plainId_quiet PySem.F.plain_upd_loop _,Wo (A:=X.A.in1) (X:=X) (pins:=pins) (σ:=σ) (l:=l) (H:=H) y (I.ok.hd j) n x k B [] [] _ C m (by rw[EG];omega) F ⟨_,BG _ rfl,rfl,rfl⟩ ⟨(Ax x).symm.trans i,G⟩ (λP J=>⟨rfl,.ref _,_,J,rfl,q _ n⟩) 0⟩
end
def EV (xs:P'):Prop:=xs.toList.Pairwise (· < ·)
variable {xs:P'}{a b:Nat}
def EV.lt(h:EV xs)(e:a<b)(c:b<xs.size):xs.getD a 0<xs.getD b 0:=by have d:a<xs.size:=(by omega);have:=(List.pairwise_iff_getElem.mp h) a b (by simpa using d) (by simpa using c) e;rw[q8,q8,Array.getElem?_eq_getElem d,Array.getElem?_eq_getElem c];simpa using this
def EV.le(h:EV xs)(d:a<=b)(c:b<xs.size):xs.getD a 0<=xs.getD b 0:=by rcases Nat.lt_or_eq_of_le d with e|e;exact CZ (h.lt e c);rw[e];exact Aw _
variable {i d:Nat}
def Ii(h:i<xs.size):xs.getD i d=xs.getD i 0:=by rw[q8,q8,Array.getElem?_eq_getElem h];rfl
theorem QE{xs:P'}(b:EV xs)(j:Nat):∀(a lo hi:Nat),hi<=xs.size->lo<=hi->hi-lo<=a->(∀i,i<lo->xs.getD i 0<j)->(∀i,hi<=i->i<xs.size->j<=xs.getD i 0) ->
 SetTable.below.go xs j a lo hi<=xs.size/\(∀i,i<SetTable.below.go xs j a lo hi->xs.getD i 0<j)/\∀i,SetTable.below.go xs j a lo hi<=i->i<xs.size->j<=xs.getD i 0
 |0,lo,hi,e,l,m,f,g=>by have:lo=hi:=(by omega);subst this;exact⟨e,f,g⟩
 |a+1,lo,hi,e,l,m,f,g=>by unfold SetTable.below.go;by_cases c:lo<hi;rw[Ap c];dsimp only;have h:(lo+hi)/2<xs.size:=(by omega);rw[Ii h];by_cases d:xs.getD ((lo+hi)/2) 0<j;rw[Ap d];exact QE b j a _ hi e (by omega) (by omega) (λi k=>Nat.lt_of_le_of_lt (b.le (by omega) h) d) g;rw[An d];exact QE b j a lo _ (by omega) (by omega) (by omega) f (λi k n=>Dm (Nat.le_of_not_lt d) (b.le k n));rw[An c];have:lo=hi:=(by omega);subst this;exact⟨e,f,g⟩
def QF(a:EV xs)(j:Nat):SetTable.below xs j<=xs.size/\(∀i,i<SetTable.below xs j->xs.getD i 0<j)/\∀i,SetTable.below xs j<=i->i<xs.size->j<=xs.getD i 0:=
 QE a j xs.size 0 xs.size (Aw _) (A9 _) (by omega) (λi h=>by omega) (λi b c=>by omega)
def Wq(a:EV xs):SetTable.below xs 0=0:=by
 obtain⟨_,b,_⟩:=QF a 0;cases e:SetTable.below xs 0 with|zero=>rfl|succ n=>have:=b 0 (by omega);omega
variable {j:Nat}
def Wr(a:EV xs)(h:xs[i]?=some j):SetTable.below xs (j+1)=i+1:=by
 obtain⟨f,b,d⟩:=QF a (j+1);have e:i<xs.size:=(Array.getElem?_eq_some_iff.mp h).1;have g:xs.getD i 0=j:=by rw[q8,h];rfl
 rcases v8 (SetTable.below xs (j+1)) (i+1) with c|c|c;have:=d i (by omega) e;omega;exact c;have k:=b (i+1) c;have l:xs.getD i 0<xs.getD (i+1) 0:=a.lt (Lj i) (show i+1<xs.size by omega);omega
def Ws{α:Type}(xs:Array α)(p:Nat)(x:α)(a:p<=xs.size):(SetTable.insertAt xs p x).toList=xs.toList.take p++[x]++xs.toList.drop p:=by unfold SetTable.insertAt;simp[Array.toList_extract];exact List.take_of_length_le (by simp)
def Wt(e:EV xs)(n:xs[SetTable.below xs j]?≠some j):EV (SetTable.insertAt xs (SetTable.below xs j) j):=by
 obtain⟨o,f,q⟩:=QF e j;generalize SetTable.below xs j=p at o f q n;unfold EV;rw[Ws xs p j o]
 have g:∀{i:Nat}(c:i<xs.toList.length),xs.toList[i]=xs.getD i 0:=λ{i}c=>by
  have m:i<xs.size:=(by simpa using c);rw[q8,Array.getElem?_eq_getElem m];simp
 refine List.pairwise_append.mpr ⟨List.pairwise_append.mpr ⟨e.sublist (List.take_sublist _ _),List.pairwise_singleton _ _,λa d b h=>?_⟩,e.sublist (List.drop_sublist _ _),λa d b h=>?_⟩;rw[BY.mp h];obtain⟨i,c,rfl⟩:=List.getElem_of_mem d;rw[CA] at c;rw[List.getElem_take,g (by omega)];exact f i (by omega);obtain⟨i,c,rfl⟩:=List.getElem_of_mem h;rw[Ex] at c;rw[List.getElem_drop,g (by omega)];have m:p+i<xs.size:=by simp at c;omega
 have s:j<xs.getD p 0:=(by have l:p<xs.size:=(by omega);have:=q p (Aw _) l;have ne:xs.getD p 0≠j:=λz=>n (by rw[Array.getElem?_eq_getElem l];rw[q8,Array.getElem?_eq_getElem l] at z;exact De some z);omega);have t:=e.le (show p<=p+i by omega) m;rcases CG.mp d with d|d;obtain⟨k,r,rfl⟩:=List.getElem_of_mem d;rw[CA] at r;rw[List.getElem_take,g (by omega)];have:=f k (by omega);omega;rw[BY.mp d];omega
structure Fj (led:Bool) (t:SetTable):Prop where
 ris:EV t.place
 dum:t.dummies=#[]
 led:t.led=led
theorem To{t:SetTable}{hashAt:Nat->Int}{h:Int}(hd:t.dummies=#[]):∀(a:Nat)(p:SetTable.Probe){j:Nat}{d:Option Nat},p.dummy=none->SetTable.probe.go t hashAt h a p=some (.empty j d)->t.slot j=.empty/\d=none
 |0,p,j,d,_,e=>by cases e
 |a+1,p,j,d,b,e=>by
   unfold SetTable.probe.go at e
   have l:∀q:SetTable.Probe,q.dummy=none->(t.advance q).dummy=none:=λq f=>by
    unfold SetTable.advance;split;exact f;exact f
   cases c:t.slot p.j with
   |empty=>rw[c] at e;cases e;exact⟨c,b⟩
   |dummy=>
    exfalso;have k:SetTable.has t.dummies p.j=false:=by rw[hd];unfold SetTable.has;simp
    unfold SetTable.slot at c;dsimp only at c;rw[k] at c;by_cases g:(t.place[SetTable.below t.place p.j]?==some p.j)=true;rw[Ap g] at c;cases c;rw[An g] at c;cases c
   |live i=>rw[c] at e;dsimp only at e;split at e;cases e;exact To hd a _ (l p b) e
def Wu{t:SetTable}(h:t.slot j=.empty):t.place[SetTable.below t.place j]?≠some j:=λe=>by unfold SetTable.slot at h;simp only[e] at h;simp at h
variable {led:Bool}
def Oz{t:SetTable}(h:Fj led t)(n:Nat):Fj led (t.standIn n):=⟨by
 show EV (Array.range n);unfold EV;rw[Array.toList_range];exact List.pairwise_lt_range,rfl,h.led⟩
def KN{t:SetTable}(h:Fj led t)(a:t.slot j=.empty):Fj led (t.put j).1:=by
 refine⟨Wt h.ris (Wu a),?_,h.led⟩;show(if SetTable.has t.dummies j then SetTable.eraseAt t.dummies (SetTable.below t.dummies j) else t.dummies)=#[];rw[h.dum];have:SetTable.has #[] j=false:=by unfold SetTable.has;simp
 rw[this];rfl
def Wv {t:SetTable} (h:Fj led t) (es:Array (Int × Value)) (k:Int) (x:Value):Fj led (layNew t es k x).2.1:=by
 unfold layNew
 cases e:t.freeSlot k with
 |none=>exact Oz h _
 | some r=>
  obtain⟨i,l⟩:=r;dsimp only
  have b:t.slot i=.empty:=by
   unfold SetTable.freeSlot at e
   cases c:t.probe (λ_=>k+1) k (t.probeStart k) with
   |none=>rw[c] at e;cases e
   |some m=>
    rw[c] at e;cases m with|candidate=>cases e|empty j d=>obtain⟨f,g⟩:=To h.dum _ _ rfl c;subst g;cases e;exact f
  have a:=KN h b;unfold SetTable.orStandIn;split;exact a;exact Oz a _
def Ij{e l k:Nat}{plain:Bool}{f:Array Int}{r:SetTable×Array Nat}(h:SetTable.laid e l k led plain f=some r):Fj led r.1:=by
 unfold SetTable.laid at h
 cases c:SetTable.layClean e f with
 |none=>rw[c] at h;cases h
 |some owner=>
  rw[c] at h;cases h;refine⟨?_,rfl,rfl⟩;unfold EV;dsimp only;have:(List.map (λx=>x.1) (List.filterMap (λj=>Option.map (λx=>(j,x)) (owner.getD j none)) (List.range (e+1)))).Pairwise (· < ·):=(by rw[List.pairwise_map];refine List.Pairwise.filterMap _ (λa b i c g d hd=>?_) (List.pairwise_lt_range (n:=e+1));obtain⟨x,_,rfl⟩:=Dd.mp g;obtain⟨y,_,rfl⟩:=Dd.mp hd;exact i);exact this
def Ww{t:SetTable}(h:Fj led t)(es:Array (Int×Value))(a:Nat):Fj led (relayAll t es a).2.1:=by
 unfold relayAll;cases c:t.relaid (es.map (·.1)) a with|none=>exact Oz h _|some r=>obtain⟨b,order⟩:=r;dsimp only;split;have:=Ij c;rw[h.led] at this;exact this;exact Oz h _
section
variable {prog:Program} {w:World} {α:Type} [DecidableEq α] [BEq α] [LawfulBEq α]
def BD (knd:KeyKind prog w α) (f:Bool) (hp:Heap) (D:Addr) (M:α->Bool) (n:Nat):Prop:=
 ∃(ob:Obj)(es:Array (Int×Value))(ep:Nat)(tb:SetTable),hp.get? D=some ob/\ob.ExactSet/\ob.data=.set es ep tb/\ElemsOf knd es.toList/\(∀y,M y=true↔∃e∈es.toList,knd.is y e.2=true)/\es.size<scanBound/\tb.fits es.size=true/\es.size=n/\Fj f tb
variable {knd:KeyKind prog w α} {f:Bool} {A:Around} {E:B'} {s:Shared} {D:Addr}
variable {M:α->Bool}{n:Nat}
def BD.keep{a b:Heap}(x:BD knd f a D M n)(k:∀ob,a.get? D=some ob->b.get? D=some ob):BD knd f b D M n:=by obtain⟨ob,c,d,e,g,x⟩:=x;exact⟨ob,c,d,e,k _ g,x⟩
def BD.cong{a:Heap}{b:α->Bool}{c:Nat}(x:BD knd f a D M n)(d:∀y,b y=M y)(e:c=n):BD knd f a D b c:=by obtain⟨g,h,i,j,k,l,m,o,p,q,r,s,t⟩:=x;exact⟨g,h,i,j,k,l,m,o,λy=>by rw[d];exact p y,q,r,by rw[e];exact s,t⟩
variable {tb:SetTable}
def KO(x:Fj f tb):Fj f {tb with plain:=false}:=⟨x.ris,x.dum,x.led⟩
def Tp{ob:Obj}{es a:Array (Int×Value)}{ep:Nat}{b:SetTable}(i:s.heap.get? D=some ob)(d:ob.ExactSet)(j:ob.data=.set es ep tb)(k:ElemsOf knd a.toList)(l:∀y,M y=true↔∃e∈a.toList,knd.is y e.2=true)(g:a.size<scanBound)(m:b.fits a.size=true)(o:Fj f b){Q:Unit->Shared->Prop}
 (q:∀c,Heap.SameBut D s.heap c->(∃h,c.get? D=some h/\h.ExactSet/\h.data=.set a (ep+1) b)->BD knd f c D M a.size->Q () {s with heap:=c}):wpAny (model prog w) A (storeSet D a b) Q E s:=by
 obtain⟨n,_⟩:=SetOf_store (knd:=knd) i d j k l g m;exact wpAny_storeSet_of i j (q _ (s0 ..) ⟨_,n,d,rfl⟩ ⟨_,a,ep+1,b,n,d,rfl,k,l,g,m,rfl,o⟩) (fits_of_scanBound g)
def Tq{l:Array (Int×Value)}{m:List (Int×Value)}(p:l.toList.Perm m):l.size=m.length:=by rw[<-Array.length_toList,p.length_eq]
def QG(b:Bool){u:Shared}{Q:Unit->Shared->Prop}(q:Q () u):wpAny (model prog w) A (match b with|true=>rule "set.scan.the-table-gave-way"|false=>pure ()) Q E u:=by cases b;exact Al q;exact D9 q
def Tr{ob:Obj}{es c:Array (Int×Value)}{ep:Nat}{d:SetTable}(t:s.heap.get? D=some ob)(v:ob.ExactSet)(x:ob.data=.set es ep tb)(j:ElemsOf knd c.toList)(k:∀y,M y=true↔∃e∈c.toList,knd.is y e.2=true)(l:c.size<scanBound)(z:d.fits c.size=true)(m:Fj f d){B:Bool}{Q:Option Bool->Shared->Prop}
 {g:Bool->Sem Unit} (C:∀(b:Bool)(u:Shared)(n:Unit->Shared->Prop),n () u->wpAny (model prog w) A (g b) n E u)
 (q:∀h,Heap.SameBut D s.heap h->BD knd f h D M c.size->Q (some true) {s with heap:=h}) :
 wpAny (model prog w) A (storeSet D c d >>= λ_=>if(!B && d.tooFull)=true then g (relayAll d c (SetTable.grown c.size)).2.2 >>= λ_=>storeSet D (relayAll d c (SetTable.grown c.size)).1 (relayAll d c (SetTable.grown c.size)).2.1 >>= λ_=>pure (some true) else pure (some true)) Q E s:=by
 refine Ac (Tp t v x j k l z m λh o⟨T,F,G,H⟩I=>?_);split;have i:=relayAll_perm d c (SetTable.grown c.size);have p:=relayAll_fits d c (SetTable.grown c.size);have L:=Ww m c (SetTable.grown c.size);generalize relayAll d c (SetTable.grown c.size)=J at i p L;obtain⟨K,R,S⟩:=J;have r:K.size=c.size:=(Tq i).trans (Array.length_toList ..);refine Ac (C _ _ _ (Ac ?_));refine Tp (s:={s with heap:=h}) F G H (j.perm i) (λy=>(k y).trans ⟨λ⟨e,a,b⟩=>⟨e,i.mem_iff.mpr a,b⟩,λ⟨e,a,b⟩=>⟨e,i.mem_iff.mp a,b⟩⟩) (by rw[r];exact l) p L λN O _ P=>?_;exact Al (q N (o.trans O) (P.cong (λ_=>rfl) r.symm));exact Al (q h o I)
def Ik{y:α}{x:Value}{Q:Bool->Shared->Prop}(v:knd.is y x=true)(B:x.scannable=true)(T:BD knd f s.heap D M n)(aa:n+1<scanBound)
 (q:∀a,Heap.SameBut D s.heap a->BD knd f a D (λz=>M z || decide (z=y)) (if M y then n else n+1)->Q (!M y) {s with heap:=a}):wpAny (model prog w) A (setAddHashed D x (knd.hash y)) Q E s:=by
 obtain⟨U,d,V,tb,h,C,i,p,r,H,F,I,J⟩:=T;unfold setAddHashed setAddHashedIn;refine C1 (Ac (wpAny_setState_of h i F ?_));dsimp only;rw[byScan_of B H p,Ap rfl];unfold setAddByScan;refine Ac (Ac (D9 (Ac (wpAny_setScan_of v h i F p ?_))))
 cases fd:List.findIdx? (λe=>knd.is y e.2) d.toList with
 |some j=>
  obtain⟨W,X,_⟩:=List.findIdx?_eq_some_iff_getElem.mp fd;have k:M y=true:=(r y).mpr ⟨_,EE W,X⟩;dsimp only;refine Al (Al ?_)
  have R:=q s.heap (Heap.SameBut.refl ..) ⟨U,d,V,tb,h,C,i,p,λz=>by
   rw[<-r z,Bool.or_eq_true,decide_eq_true_eq];refine⟨λc=>?_,.inl⟩;rcases c with c|c;exact c;rw[c];exact k,H,F,by rw[k];exact I,J⟩
  rw[k] at R;exact R
 |none=>
  have k:M y=false:=by
   cases c:M y with|false=>rfl|true=>obtain⟨e,Y,Z⟩:=(r y).mp c;have:=List.findIdx?_eq_none_iff.mp fd e Y;rw[Z] at this;cases this
  dsimp only;have g:=layNew_perm tb d (knd.hash y) x;have l:=layNew_fits tb d (knd.hash y) x;have L:=Wv J d (knd.hash y) x;generalize layNew tb d (knd.hash y) x=ly at g l L;obtain⟨t,t1,wd,gv⟩:=ly;dsimp only at g l L;rw[Array.toList_push] at g;have K:t.size=n+1:=by rw[Tq g,BF,Array.length_toList,I];rfl
  have N:ElemsOf knd t.toList:=(p.push v B).perm g;have O:=mem_push_iff v r g;have P:t.size<scanBound:=by rw[K];exact aa
  have S:∀a,Heap.SameBut D s.heap a->BD knd f a D (λz=>M z || decide (z=y)) t.size->Q true {s with heap:=a}:=λa m o=>by
   have:=q a m;rw[k] at this;exact this (o.cong (λ_=>rfl) K.symm)
  refine Ac (QG _ ?_);split;rw[hashByValue_scannable 8 B];refine Ac (Al ?_);refine Tr h C i N O P (by split;exact l;exact SetTable.fits_plain_off l) (by split;exact L;exact KO L) (λb u Q' G=>QG b G) λa m o=>?_;exact Al (S a m o);refine Ac (Al ?_);rw[Ap rfl];exact Tr h C i N O P l L (λb u Q' G=>QG b G) λa m o=>Al (S a m o)
end
abbrev Bw (w:World):Bool:=!(w.params.followText "set-order")
abbrev GV (b:Bool):Obj:={cls:=.type "set",dict:=none,data:=.set #[] 0 (.fresh 0 0 b)}
section
variable {prog:Program} {w:World} {A:Around} {E:B'} {s:Shared}
theorem Il(x:Value){Q:B'}(q:Q (.ref s.heap.objs.size) {s with heap:=s.heap.push (GV (Bw w))}) :
 codeAny (model prog w) A (.call (.builtin "set.__new__") ⟨[.type "set",x],[]⟩) (wants Q E) s:=by
 refine codeAny_of_tree ?_;show wpAny _ A.in1 (checkBuiltinCall "set.__new__" ⟨[.type "set",x],[]⟩ >>= λ_=>again (.builtin "set.__new__" ⟨[.type "set",x],[]⟩)) _ _ s;refine Ac (wpAny_of_eq (F.newCall_set_1 x) (Al ⟨plainId_quiet F.plain_set_new _,codeAny_builtin F.entry_set_new ?_⟩));rw[u4 F.plain_set_new _];have a:=sub_set_self;unfold Builtin.«set.__new__» Builtin.Frozenset.newClass
 cases s with
 |mk b g d L os=>
  dsimp only at q ⊢
  wp_walk
  refine wpAny_askSetting (Al ?_);dsimp only;simp only[newObj];exact Ac (wpAny_alloc (Al (Al q)))
end
section
variable {prog:Program} {w:World} {A:Around} {R:Result->Shared->Prop} {It:Addr} {fp g:F'} {G:Array GenState->Array GenState->Prop} {n:Nat} {Pn:Nat->Value->Prop} {Sn:Nat->Shared->Prop}
theorem Wx(c:WalksS prog w A.in1 It fp g G n Pn Sn)(D:Addr)(q:D∉fp)(f:Nat->Str)(B:∀i v,Pn i v->∃t,v=.str (f i) t)(T:n+1<scanBound) :
 ∀(k i:Nat)(s:Shared),n-i=k->i<=n->Sn i s->BD (strKind prog w) (Bw w) s.heap D (λy=>(AO f i).any (·==y)) (AO f i).length ->
  (∀h,Moved (D::g) G s h->BD (strKind prog w) (Bw w) h.heap D (λy=>(AO f n).any (·==y)) (AO f n).length->R (.ok (.ret .none)) h) ->
  codeAny (model prog w) A (.builtin "set.update.loop" ⟨[.ref D,.ref It],[]⟩) R s:=by
 have u:D∉g:=λz=>q (c.sub _ z);have sub:∀b∈g,b∈D::g:=λb z=>Dc _ z;intro k
 induction k with
 |zero=>
  intro i s C E j l p;obtain rfl:i=n:=by omega
  refine codeAny_builtin F.entry_set_update_loop ?_;rw[u4 F.plain_set_update_loop _];show wpAny _ A.in1 (pyNext (.ref It) >>= _) _ _ s;refine Ac (c.done s _ _ j λa d=>?_);show wpAny _ A.in1 (ret Value.none) _ _ a;refine Al (p a (d.mono sub) ?_);exact l.keep λH e=>d.heap D _ u e
 |succ k I=>
  intro i s C E j l p;have lt:i<n:=(by omega);refine codeAny_builtin F.entry_set_update_loop ?_;rw[u4 F.plain_set_update_loop _];show wpAny _ A.in1 (pyNext (.ref It) >>= _) _ _ s;refine Ac (c.item i s _ _ lt j λv a pv L d=>?_);obtain⟨t,rfl⟩:=B i v pv;have M:BD (strKind prog w) (Bw w) a.heap D (λy=>(AO f i).any (·==y)) (AO f i).length:=l.keep λH e=>d.heap D _ u e;show wpAny _ A.in1 (holding [Value.str (f i) t] (setAdd D (.str (f i) t)) >>= _) _ _ a;refine Ac (C1 ?_);unfold setAdd;refine C1 ?_;have x:(strKind prog w).is (f i) (.str (f i) t)=true:=strKind_is _ _ _ _;refine Ac ((strKind prog w).pyHash (k:=f i) x ?_);have S:(AO f i).length+1<scanBound:=by have:=N8 f i;omega
  refine Ik (knd:=strKind prog w) (s:={a with toks:=a.toks+1}) x rfl M S λJ r N=>?_
  have O:BD (strKind prog w) (Bw w) J D (λy=>(AO f (i+1)).any (·==y)) (AO f (i+1)).length:=
   N.cong (λy=>by rw[Jf,Qj]) (by rw[Jf,N7])
  refine Al ⟨plainId_quiet F.plain_set_update_loop _,I (i+1) _ (by omega) lt (c.frame _ a _ _ L (Nat.le_succ _) λb m o e=>?_) O λK P Q=>?_⟩;rw[r.2 b λz:b=D=>q (by rw[<-z];exact m)];exact e;refine p K (Moved.trans c.gtrans ((d.mono sub).then_heap (Nat.le_succ _) λb o m e=>?_) P) Q;rw[r.2 b λz:b=D=>m (by rw[z];exact CH)];exact e
end
section
variable {prog:Program} {w:World} {A:Around} {E:B'} {s:Shared}
set_option maxRecDepth 100000 in
set_option maxHeartbeats 3200000 in
theorem Wz {l:Addr} {a:L'} {f:Nat->Str} {Q:B'} (K:A.handled=none) (M:s.heap.IsList l a) (hi:∀ (i:Nat) (v:Value),a[i]? = some v -> ∃ t,v=.str (f i) t) (d:a.size + 1 < scanBound)
 (h:∀(h':Heap)(L:Nat),BD (strKind prog w) (Bw w) h' s.heap.objs.size (λy=>(AO f a.size).any (·==y)) (AO f a.size).length ->
  (∀b o,b<s.heap.objs.size->s.heap.get? b=some o->h'.get? b=some o)->Q (.ref s.heap.objs.size) {s with heap:=h',toks:=L}) :
 wpAny (model prog w) A (call (.type "set") [.ref l]) Q E s:=by
 obtain⟨c,k,aq⟩:=F.called_set.mro;have aw:=F.called_set.made;have ar:=F.called_set.sub;refine wpAny_call (codeAny_of_tree ?_);show wpAny _ _ (callAny (.type "set") _) _ _ _;refine Al ⟨Code.quiet_builtin _ (by decide +kernel),codeAny_builtin F.entry_type_call ?_⟩;rw[Around.under_plain (weight_type_call_type "set" [.ref l] []) rfl];have h1:=F.called_set.notType;have h2:=F.called_set.canCreate;have aj:=F.typeCall_set_1 (.ref l)
 repeat (any_goals (first|assumption|wp_step))
 refine codeAny_mono (Il (.ref l) (E:=E) (Q:=λp q=>p=.ref s.heap.objs.size/\q={s with heap:=s.heap.push (GV (Bw w))}) ⟨rfl,rfl⟩) λr q j=>?_
 cases r with
 |error e=>exact j
 | ok N=>
  cases N with
  | ret p=>
   obtain⟨rfl,rfl⟩:=j;have u:(s.heap.push (GV (Bw w))).get? s.heap.objs.size=some (GV (Bw w)):=BG _ rfl;have O:Shared.TypeIs {s with heap:=s.heap.push (GV (Bw w))} (.ref s.heap.objs.size) "set" :=⟨_,u,rfl⟩;have ak:=F.called_set.init.lookup;have al:=F.called_set.init.bind (.ref s.heap.objs.size)
   repeat (any_goals (first|assumption|wp_step))
   refine codeAny_mono (codeAny_call_builtin (R:=wants (λr x=>r=.none/\∃h' L,x={s with heap:=h',toks:=L}/\BD (strKind prog w) (Bw w) h' s.heap.objs.size (λy=>(AO f a.size).any (·==y)) (AO f a.size).length /\
    (∀b o,b<s.heap.objs.size->s.heap.get? b=some o->h'.get? b=some o)) E) F.called_set.init.plain F.entry_set_init (check_set_init_1 O ?_)) λP x m=>?_
   . obtain⟨⟨oc,S,an,X⟩,D,G,B,H⟩:=M
     simp only at G H;subst G;subst H;have ai:(s.heap.push (GV (Bw w))).get? l=some {cls:=.type "list",dict:=S,data:=.seq a B,slots:=X}:=AR _ D;have au:=F.sub_list_set;have av:=F.sub_list_frozenset;have ao:(Value.type "list" == Value.type "dict")=false:=(by decide);have I:(s.heap.push (GV (Bw w))).IsList l a:=⟨_,ai,rfl,B,rfl⟩;unfold Builtin.«set.__init__» noKeywords Builtin.Frozenset.updateFrom;generalize Y:pyIter=PI
     wp_walk
     subst Y;refine wpAny_pyIter_list I (Ac (wpAny_runValue ?_));have J:l<s.heap.objs.size:=AI D;have Z:A.in1.in1.in1.handled=none:=(by simp[K]);have aa:l≠(s.heap.push (GV (Bw w))).objs.size:=(by rw[q9];exact Bu (Nat.lt_succ_of_lt J));have ab:s.heap.objs.size∉[(s.heap.push (GV (Bw w))).objs.size,l]:=(by rw[q9];intro z;rcases BL.mp z with z|z;exact absurd z (Bu (Lj _));exact absurd (BY.mp z) (Nat.ne_of_gt J));refine Wx ((Walks.list Z _ l aa a).toS) s.heap.objs.size ab f hi d (a.size-0) 0 _ (by omega) (A9 _) ⟨⟨_,BG _ rfl,rfl,rfl⟩,(I.push _)⟩ ?hS0 ?hR
     case hS0 =>
      have T:((s.heap.push (GV (Bw w))).push {cls:=.type "list_iterator",data:=.fields #[.ref l,.int 0 0]}).get? s.heap.objs.size=some (GV (Bw w)):=AR _ u;exact⟨_,#[],0,_,T,⟨rfl,rfl,rfl⟩,rfl,(λe U=>by simp at U),(λy=>by simp[AO]),by decide,rfl,rfl,⟨List.Pairwise.nil,rfl,rfl⟩⟩
     case hR =>
      rintro⟨h',V,W,ae,af⟩ g n;obtain rfl:V=s.gens:=g.gens;obtain rfl:W=s.drawn:=g.drawn;obtain rfl:af=s.os:=g.os;show wpAny _ _ _ _ _ _;refine Al ?_;show wpAny _ _ (ret Value.none) _ _ _;refine Al ⟨rfl,h',ae,rfl,n,λb o d e=>?_⟩;refine g.heap b o (λz=>?_) (AR _ (AR _ e));rcases BL.mp z with z|z;exact absurd z (Bu d);have C:=BY.mp z;rw[q9] at C;exact absurd C (Bu (Nat.lt_succ_of_lt d))
   . cases P with
     |error e=>exact m
     |ok ag=>
      cases ag with
      |ret r=>
       obtain⟨rfl,h',L,rfl,n,ah⟩:=m
       repeat (any_goals (first|assumption|wp_step))
       exact h _ _ n ah
      |_=>exact m.elim
  |_=>exact j.elim
end
def WA:entryFor table "set.__iter__" = some Builtin.«frozenset.__iter__»:=entryFor_alias (id':= "frozenset.__iter__") (by kernel_rfl) rfl (by decide +kernel) (by kernel_rfl)
def Bg:Slot "set_iterator" "__next__" "set_iterator.__next__" :=.of (owner:= "set_iterator") (n:= "__next__") (by rw[typeLookup_type,builtinLookup_eq_fast];kernel_rfl) (by decide +kernel) (by decide +kernel) (by decide +kernel) (by first|exact .inl (by decide +kernel)|exact .inr (by decide +kernel)) (by rw[isSubtype_type];kernel_rfl)
def OA:entryFor table "set_iterator.__next__" = some Builtin.«set_iterator.__next__»:=entryFor_of_tree (by kernel_rfl)
def Ts:Manifest.owners.lookup (String.ofList ['r','o','t','a','r','e','t','i','_','t','e','s'].reverse)=some Manifest.sig_set_iterator:=by kernel_rfl
def OB(a:Value):argsOk "set_iterator.__next__" ⟨[a],[]⟩:=by unfold argsOk;rw[signature?_of (id:= "set_iterator.__next__") (n:=['_','_','t','x','e','n','_','_']) (o:=['r','o','t','a','r','e','t','i','_','t','e','s']) (by kernel_rfl) Ts];kernel_rfl
abbrev Ds (f:Value) (i n ep:Nat) (D:Addr):Obj:={cls:=.type "set_iterator",data:=.fields #[f,rawInt i,.ref D,rawInt n,rawInt ep]}
structure DU (hp:Heap) (D:Addr) (es:Array (Int×Value)) (ep:Nat) (tb:SetTable):Prop where
 ex:∃ob,hp.get? D=some ob/\ob.ExactSet/\ob.data=.set es ep tb
 fit:tb.fits es.size=true
section
variable {prog:Program} {w:World} {A:Around} {E:B'} {s:Shared} {It D:Addr} {es:Array (Int×Value)} {ep:Nat} {tb:SetTable}
def DU.entries(x:DU s.heap D es ep tb){Q:Array (Int×Value)->Shared->Prop}(q:Q es s):wpAny (model prog w) A (setEntries D) Q E s:=by obtain⟨b,a,_,c⟩:=x.ex;exact wpAny_setEntries_of a c x.fit q
def DU.state(x:DU s.heap D es ep tb){Q:(Array (Int×Value)×Nat×SetTable)->Shared->Prop}(q:Q (es,ep,tb) s):wpAny (model prog w) A (setState D) Q E s:=by obtain⟨b,a,_,c⟩:=x.ex;exact wpAny_setState_of a c x.fit q
def DU.keep{c d:Heap}(x:DU c D es ep tb)(k:∀ob,c.get? D=some ob->d.get? D=some ob):DU d D es ep tb:=by obtain⟨ob,a,b⟩:=x.ex;exact⟨⟨ob,k _ a,b⟩,x.fit⟩
variable {v:Value}{Q:J'->Shared->Prop}
def WB{d a:Nat}(b:s.heap.get? It=some (Ds (rawInt d) i es.size ep D))(h:DU s.heap D es ep tb)
 (j:∀(B:Around)(k:B')(e:Option (Value×Nat)->Shared->Prop),e (some (v,a)) s->wpAny (model prog w) B (setNext D d i ep) e k s)
 (q:∀c,c.get? It=some (Ds (rawInt a) (i+1) es.size ep D)->Heap.SameBut It s.heap c->Q (some v) {s with heap:=c}):wpAny (model prog w) A (pyNext (.ref It)) Q E s:=by
 have f:s.TypeIs (.ref It) "set_iterator" :=⟨_,b,rfl⟩;unfold pyNext;refine Ac (wpAny_attempt (wpAny_callSpecial?_slot (name:=Str.ofString "__next__") f Bg (wpAny_call_entry Bg f OA ?_ (OB _))));unfold Builtin.«set_iterator.__next__» slotArgs;simp only[List.isEmpty_nil,Bool.not_true,Dn,↓reduceIte,EG,bne_self_eq_false];refine Ac (Al ?_);refine Ac (wpAny_fieldsOf b rfl ?_);show wpAny _ _ (setEntries D >>= _) _ _ s;refine Ac (h.entries ?_);rw[An (by simp)];refine Ac (j _ _ _ ?_);show wpAny _ _ (setField (Value.ref It) 0 (rawInt a) >>= _) _ _ s;refine Ac (wpAny_setField b rfl (by simp) ?_);have g:(s.heap.update It (Obj.mapFields (·.setIfInBounds 0 (rawInt a)))).get? It=some (Ds (rawInt a) i es.size ep D):=r9 _ b rfl;refine Ac (wpAny_setField g rfl (by simp) ?_);have l:=r9 (Obj.mapFields (·.setIfInBounds 1 (rawInt ((i:Int)+1)))) g rfl;exact Al ⟨_,rfl,Al (q _ l ((s0 ..).trans (s0 ..)))⟩
def Tu{vs:L'}{ob:Obj}(f:A.handled=none)(g:s.heap.get? It=some ob)(hd:ob.data=.fields vs)(hz:2<vs.size)
 (q:∀d,Heap.ExtBut It s.heap d->Q none {s with heap:=d}):wpAny (model prog w) A.in1 (setField (Value.ref It) 2 Value.none >>= λ_=>newExc (Value.type "StopIteration") [] >>= λe=>raiseNew (α:=Fin) e) (λh c=>∃v,h=Fin.done (Flow.ret v)/\wpAny (model prog w) A (pure (some v)) Q E c)
  (λe c=>wpAny (model prog w) A (isInstance e (Value.type "StopIteration") >>= λb=>if b=true then pure none else throw e) Q E c) s:=by
 refine Ac (wpAny_setField g hd hz ?_);refine Ac ?_;simp only[newExc,newTuple];refine Ac (wpAny_newObj_type ?_ (by size_fits));refine Ac (m:=firstArgMember _ _) (wpAny_of_eq (a:=Value.none) (by first|rfl|(simp only[firstArgMember];rfl)) ?_);refine wpAny_newObj_type ?_ (by size_fits);simp only[raiseNew];refine Ac (wpAny_handled ?_);rw[show A.in1.handled=none from f];refine Ac (Al (wpAny_throw ?_));refine Ac (wpAny_isInstance (T:= "StopIteration") (b:=true) ⟨_,BG _ rfl,rfl⟩ isSubtype_stop ?_);exact Al (q _ (((s0 ..).extBut.push _).push _))
def WC{b:Nat}(f:A.handled=none)(a:s.heap.get? It=some (Ds (rawInt b) i es.size ep D))(g:DU s.heap D es ep tb)
 (h:∀(B:Around)(j:B')(c:Option (Value×Nat)->Shared->Prop),c none s->wpAny (model prog w) B (setNext D b i ep) c j s)
 (q:∀d,Heap.ExtBut It s.heap d->Q none {s with heap:=d}):wpAny (model prog w) A (pyNext (.ref It)) Q E s:=by
 have e:s.TypeIs (.ref It) "set_iterator" :=⟨_,a,rfl⟩;unfold pyNext;refine Ac (wpAny_attempt (wpAny_callSpecial?_slot (name:=Str.ofString "__next__") e Bg (wpAny_call_entry Bg e OA ?_ (OB _))));unfold Builtin.«set_iterator.__next__» slotArgs;simp only[List.isEmpty_nil,Bool.not_true,Dn,↓reduceIte,EG,bne_self_eq_false];refine Ac (Al ?_);refine Ac (wpAny_fieldsOf a rfl ?_);show wpAny _ _ (setEntries D >>= _) _ _ s;refine Ac (g.entries ?_);rw[An (by simp)];refine Ac (h _ _ _ ?_);exact Tu f a rfl (by simp) q
def WD{T:Addr}{c:L'}{p:Nat}{t:Tok}{hv:Int}(b:s.heap.get? It=some (Ds (.ref T) i es.size ep D))(d:DU s.heap D es ep tb)(h:s.heap.IsTuple T c)(a:c[i]?=some (.int p t))(hv:es[p]?=some (hv,v))
 (q:∀a,a.get? It=some (Ds (.ref T) (i+1) es.size ep D)->Heap.SameBut It s.heap a->Q (some v) {s with heap:=a}):wpAny (model prog w) A (pyNext (.ref It)) Q E s:=by
 have e:s.TypeIs (.ref It) "set_iterator" :=⟨_,b,rfl⟩;obtain⟨j,f,k,l,dt⟩:=h;unfold pyNext;refine Ac (wpAny_attempt (wpAny_callSpecial?_slot (name:=Str.ofString "__next__") e Bg (wpAny_call_entry Bg e OA ?_ (OB _))));unfold Builtin.«set_iterator.__next__» slotArgs;simp only[List.isEmpty_nil,Bool.not_true,Dn,↓reduceIte,EG,bne_self_eq_false];refine Ac (Al ?_);refine Ac (wpAny_fieldsOf b rfl ?_);show wpAny _ _ (setEntries D >>= _) _ _ s;refine Ac (d.entries ?_);rw[An (by simp)];show wpAny _ _ (seqItems? (.ref T) >>= _) _ _ s;refine Ac (Fa f dt ?_);show wpAny _ _ (match c[i]? with|some (Value.int place tok)=>_|some val=>_|none=>_) _ _ s
 rw[a];show wpAny _ _ (setNextDrawn D p ep >>= _) _ _ s;refine Ac ?_;unfold setNextDrawn;refine Ac (d.state ?_);dsimp only;rw[An (by simp)];rw[hv];refine Al ?_;show wpAny _ _ (setField (Value.ref It) 1 (rawInt ((i:Int)+1)) >>= _) _ _ s;refine Ac (wpAny_setField b rfl (by simp) ?_);have g:=r9 (Obj.mapFields (·.setIfInBounds 1 (rawInt ((i:Int)+1)))) b rfl;exact Al ⟨_,rfl,Al (q _ g (s0 ..))⟩
def WE{T:Addr}{c:L'}(e:A.handled=none)(b:s.heap.get? It=some (Ds (.ref T) i es.size ep D))(f:DU s.heap D es ep tb)(j:s.heap.IsTuple T c)(a:c[i]?=none)
 (q:∀a,Heap.ExtBut It s.heap a->Q none {s with heap:=a}):wpAny (model prog w) A (pyNext (.ref It)) Q E s:=by
 have d:s.TypeIs (.ref It) "set_iterator" :=⟨_,b,rfl⟩;obtain⟨k,g,l,m,dt⟩:=j;unfold pyNext;refine Ac (wpAny_attempt (wpAny_callSpecial?_slot (name:=Str.ofString "__next__") d Bg (wpAny_call_entry Bg d OA ?_ (OB _))));unfold Builtin.«set_iterator.__next__» slotArgs;simp only[List.isEmpty_nil,Bool.not_true,Dn,↓reduceIte,EG,bne_self_eq_false];refine Ac (Al ?_);refine Ac (wpAny_fieldsOf b rfl ?_);show wpAny _ _ (setEntries D >>= _) _ _ s;refine Ac (f.entries ?_);rw[An (by simp)];show wpAny _ _ (seqItems? (.ref T) >>= _) _ _ s;refine Ac (Fa g dt ?_);show wpAny _ _ (match c[i]? with|some (Value.int place tok)=>_|some val=>_|none=>_) _ _ s
 rw[a];show wpAny _ _ (setField (Value.ref It) 0 (rawInt 0) >>= _) _ _ s;refine Ac (wpAny_setField b rfl (by simp) ?_);have h:=r9 (Obj.mapFields (·.setIfInBounds 0 (rawInt 0))) b rfl;exact Tu e h rfl (by simp) λa ex=>q a ((s0 ..).extBut.trans ex)
def Tv{n:Str}(h:(strKind prog w).is n v=true):∃t,v=.str n t:=Value.isStrOf_shape h
theorem QH{α:Type}:∀{l:List α}{i:Nat}(h:i<l.length),(l[i]::l.eraseIdx i).Perm l
 |x::l,0,_=>List.Perm.refl _
 |x::l,i+1,h=>(List.Perm.swap x _ _).trans (List.Perm.cons x (QH (l:=l) (i:=i) (by simpa using h)))
theorem Tx{α:Type}(nx:Nat->Nat):∀(a k:Nat)(left:List α)(out:Array α),left.length=a->(pickOrder.go nx a k left out).toList.Perm (out.toList++left)
 |0,k,left,out,h=>by
   rw[List.length_eq_zero_iff.mp h];unfold pickOrder.go;simp
 |a+1,k,left,out,h=>by have b:nx k%left.length<left.length:=Nat.mod_lt _ (by omega);unfold pickOrder.go;rw[AQ b];dsimp only;refine(Tx nx a (k+1) _ _ (by rw[List.length_eraseIdx,Ap b];omega)).trans ?_;rw[Array.toList_push,E5];refine List.Perm.append_left _ ?_;exact QH b
def WF{c:Source}{n:Nat}{Q:Nat->Shared->Prop}(a:n≠0)(q:∀i b,i<n->Q i {s with drawn:=b}):wpAny (model prog w) A (choose c n) Q E s:=
 λ_ _ _=>⟨a,q _ _ (Nat.mod_lt _ (Nat.pos_of_ne_zero a))⟩
theorem Tz{α:Type}:∀(n:Nat)(xs:List α){A:Around}{E:B'}{s:Shared}{Q:List α->Shared->Prop},xs.length=n->(∀a c,a.Perm xs->Q a {s with drawn:=c})->wpAny (model prog w) A (drawOrder n xs) Q E s
 |0,xs,A,E,s,Q,h,q=>by have e:=List.length_eq_zero_iff.mp h;subst e;unfold drawOrder;exact Al (q [] s.drawn (List.Perm.refl _))
 |n+1,[],A,E,s,Q,h,q=>by cases h
 |n+1,x::xs,A,E,s,Q,h,q=>by unfold drawOrder;refine Ac (WF (by simp) λi c b=>?_);rw[AQ b];dsimp only;refine Ac (Tz n _ (by rw[List.length_eraseIdx,Ap b];omega) λa f d=>?_);exact Al (q _ f ((List.Perm.cons _ d).trans (QH b)))
end
def TB:Slot "set_iterator" "__iter__" "set_iterator.__iter__" :=.of (owner:= "set_iterator") (n:= "__iter__") (by rw[typeLookup_type,builtinLookup_eq_fast];kernel_rfl) (by decide +kernel) (by decide +kernel) (by decide +kernel) (by first|exact .inl (by decide +kernel)|exact .inr (by decide +kernel)) (by rw[isSubtype_type];kernel_rfl)
def WG:entryFor table "set_iterator.__iter__" = some Builtin.«dict_keyiterator.__iter__»:=entryFor_alias (id':= "dict_keyiterator.__iter__") (by kernel_rfl) rfl (by decide +kernel) (by kernel_rfl)
def WH(a:Value):argsOk "set_iterator.__iter__" ⟨[a],[]⟩:=by unfold argsOk;rw[signature?_of (id:= "set_iterator.__iter__") (n:=['_','_','r','e','t','i','_','_']) (o:=['r','o','t','a','r','e','t','i','_','t','e','s']) (by kernel_rfl) Ts];kernel_rfl
section
variable {prog:Program} {w:World} {A:Around} {E:B'} {s:Shared} {It D:Addr} {es:Array (Int×Value)} {ep:Nat} {tb:SetTable}
variable {n:Nat}{Q:B'}
def TC{f:Value}(b:s.heap.get? It=some (Ds f i n ep D))(q:Q (.ref It) s):wpAny (model prog w) A (pyIter (.ref It)) Q E s:=by have a:s.TypeIs (.ref It) "set_iterator" :=⟨_,b,rfl⟩;refine wpAny_pyIter_slot a TB (wpAny_call_entry TB a WG ?_ (WH _));show wpAny _ _ (ret (.ref It)) _ _ s;exact Al ⟨_,rfl, "set_iterator",_,a,Bg.lookup,q⟩
def KP{b:Addr}(h:b∈[It]):b∈[It,D]:=by rw[BY.mp h];exact CH
def TD(p:A.handled=none)(r:It≠D)(f:Nat->Nat)(vs:E')(H:vs.length=es.size)
 (t:∀(i:Nat)(v:Value)(s:Shared)(B:Around)(d:B')(c:Option (Value×Nat)->Shared->Prop),vs[i]?=some v->DU s.heap D es ep tb->c (some (v,f (i+1))) s->wpAny (model prog w) B (setNext D (f i) i ep) c d s)
 (u:∀(s:Shared)(B:Around)(d:B')(c:Option (Value×Nat)->Shared->Prop),DU s.heap D es ep tb->c none s->wpAny (model prog w) B (setNext D (f es.size) es.size ep) c d s) :
 Walks prog w A It [It,D] [It] es.size (λi v=>vs[i]?=some v) (λi h=>h.get? It=some (Ds (rawInt (f i)) i es.size ep D)/\DU h D es ep tb) where
 sub:=λb y=>KP y
 frame:=λi h I⟨a,b⟩k=>⟨k It CH _ a,b.keep λC e=>k D (by simp) _ e⟩
 item:=λi s Q E J⟨a,b⟩q=>by have G:i<vs.length:=(by omega);have m:=AQ G;refine WB (v:=vs[i]) a b (λB d c g=>t i _ s B d c m b g) λj F n=>?_;have:=q vs[i] j s.toks m ⟨F,b.keep λC e=>(n.2 D (Ne.symm r)).trans e⟩ λx o l e=>(n.2 x (λz=>l (by rw[z];exact CH))).trans e;exact this
 done:=λs Q E⟨a,b⟩q=>WC p a b (λB d c g=>u s B d c b g) λj ex=>q j s.toks λx o l e=>ex x o (λz=>l (by rw[z];exact CH)) e
 self:=λi s Q E⟨a,_⟩q=>TC a q
def WI(m:A.handled=none)(n:It≠D){T:Addr}(r:It≠T)(f:O')(vs:E')(H:vs.length=es.size)(hv:∀(i:Nat)(v:Value),vs[i]?=some v->∃(p:Nat)(x:Int),f[i]?=some p/\es[p]?=some (x,v))(d:f.length=es.size) :
 Walks prog w A It [It,D,T] [It] es.size (λi v=>vs[i]?=some v) (λi h=>h.get? It=some (Ds (.ref T) i es.size ep D)/\DU h D es ep tb/\h.IsTuple T (f.map λp:Nat=>rawInt (p:Int)).toArray) where
 sub:=λb u=>by rw[BY.mp u];exact CH
 frame:=λi h I⟨a,b,c⟩k=>⟨k It CH _ a,b.keep λy e=>k D (by simp) _ e,let ⟨o,e,x⟩:=c;⟨o,k T (by simp) _ e,x⟩⟩
 item:=λi s Q E J⟨a,b,c⟩q=>by have G:i<vs.length:=(by omega);have l:=AQ G;obtain⟨p,x,B,C⟩:=hv i _ l;refine WD (v:=vs[i]) (hv:=x) (t:=0) a b c (by simp[B,rawInt]) C λd F g=>?_;exact q vs[i] d s.toks l ⟨F,b.keep λy e=>(g.2 D (Ne.symm n)).trans e,let ⟨o,e,x⟩:=c;⟨o,(g.2 T (Ne.symm r)).trans e,x⟩⟩ λx o j e=>(g.2 x (λz=>j (by rw[z];exact CH))).trans e
 done:=λs Q E⟨a,b,c⟩q=>WE m a b c (by simp[d]) λd ex=>q d s.toks λx o j e=>ex x o (λz=>j (by rw[z];exact CH)) e
 self:=λi s Q E⟨a,_⟩q=>TC a q
structure DV (prog:Program) (w:World) (A:Around) (h0 hp:Heap) (D It:Addr) (ks:G'):Prop where
 walk:∃(fp:F')(St:Nat->Heap->Prop),Walks prog w A It fp [It] ks.length (λi v=>∃t,v=.str (ks.getD i default) t) St/\St 0 hp/\∀b∈fp,b=D\/h0.objs.size<=b
 keep:∀b o,h0.get? b=some o->hp.get? b=some o
 new:h0.objs.size<=It
def Walks.weaker{a g:F'}{P b:Nat->Value->Prop}{St:Nat->Heap->Prop}(W:Walks prog w A It a g n P St)(h:∀i v,P i v->b i v):Walks prog w A It a g n b St where
 sub:=W.sub
 frame:=W.frame
 item:=λi s Q E c d q=>W.item i s Q E c d λv e L pv=>q v e L (h i v pv)
 done:=W.done
 self:=W.self
def QI{M:Str->Bool}{vs:E'}(s:ElemsOf (strKind prog w) es.toList)(u:∀y,M y=true↔∃e∈es.toList,(strKind prog w).is y e.2=true)(f:vs.Perm (es.toList.map (·.2))):∃ks:G',ks.length=vs.length/\(∀(i:Nat)(v:Value),vs[i]?=some v->∃t,v=.str (ks.getD i default) t)/\∀y,M y=true↔y∈ks:=by
 have z:∀v∈vs,∃n t,v=Value.str n t:=λv g=>by
  obtain⟨e,c,rfl⟩:=CU.mp (f.mem_iff.mp g);obtain⟨⟨k,A,_⟩,_⟩:=s e c;obtain⟨t,j⟩:=Tv A;exact⟨k,t,j⟩
 have B:∀l:E',(∀v∈l,∃n t,v=Value.str n t)->∃ks:G',ks.length=l.length/\∀(i:Nat)(v:Value),l[i]?=some v->∃t,v=.str (ks.getD i default) t:=λl=>by
  induction l with
  |nil=>exact λ_=>⟨[],rfl,λi v h=>by cases h⟩
  |cons x l C=>
   intro q;obtain⟨ks,a,b⟩:=C λv g=>q v (Dc _ g);obtain⟨n,t,e⟩:=q x CH;refine⟨n::ks,by simp[a],λi v h=>?_⟩;cases i with|zero=>simp at h;subst h;exact⟨t,e⟩|succ i=>simpa using b i v (by simpa using h)
 obtain⟨ks,a,b⟩:=B vs z;refine⟨ks,a,b,λy=>?_⟩;rw[u y];constructor;rintro⟨e,c,m⟩;obtain⟨t,j⟩:=Tv m;have D:e.2∈vs:=f.mem_iff.mpr (CU.mpr ⟨e,c,rfl⟩);obtain⟨i,o,p⟩:=List.getElem_of_mem D;obtain⟨G,d⟩:=b i _ (AQ o);rw[p,j] at d;have E:y=ks.getD i default:=(by injection d);rw[E,A7,AQ (show i<ks.length by omega)];exact EE _;intro m;obtain⟨i,o,p⟩:=List.getElem_of_mem m;have r:i<vs.length:=(by omega);obtain⟨t,d⟩:=b i _ (AQ r);obtain⟨e,c,F⟩:=CU.mp (f.mem_iff.mp (EE r));refine⟨e,c,?_⟩;rw[F,d,A7,AQ o];show(strKind prog w).is y (.str ks[i] t)=true;rw[p];exact strKind_is _ _ _ _
def DV.of{a c:Heap}{d:F'}{m:Nat}{vs:E'}{St:Nat->Heap->Prop}{ks:G'}(W:Walks prog w A It d [It] m (λi v=>vs[i]?=some v) St)(e:ks.length=m)(k2:∀(i:Nat)(v:Value),vs[i]?=some v->∃t,v=.str (ks.getD i default) t)(st:St 0 c)(lt:∀b∈d,b=D\/a.objs.size<=b)(f:∀b o,a.get? b=some o->c.get? b=some o)(g:a.objs.size<=It):DV prog w A a c D It ks:=
 ⟨⟨d,St,by rw[e];exact Walks.weaker W k2,st,lt⟩,f,g⟩
def QJ{f:Value}(b:DU s.heap D es ep tb)(q:Q (.ref s.heap.objs.size) {s with heap:=s.heap.push (Ds f 0 es.size ep D)}) :
 wpAny (model prog w) A (setEpoch D >>= λe=>newFields "set_iterator" [f,rawInt 0,Value.ref D,rawInt ↑es.size,rawInt ↑e] >>= λv=>ret v) (λh d=>∃v,h=Fin.done (Flow.ret v)/\∃g r,d.TypeIs v g/\typeLookup (Value.type g) (Str.ofString "__next__")=pure (some r)/\Q v d) E s:=by
 obtain⟨i,a,_,c⟩:=b.ex;refine Ac (wpAny_setEpoch_of a c b.fit ?_);refine Ac (wpAny_newObj_type (Al ⟨_,rfl, "set_iterator",_,⟨_,BG _ rfl,rfl⟩,Bg.lookup,?_⟩));exact q
def TF{nx:Nat->Nat}{a:Nat}{v:Option (Value×Nat)}(d:w.params.followText "set-order" = true)(f:w.params.setOrder D ep=nx)(hv:((pickOrder nx es)[i]?).map (λe=>(e.2,a))=v)(b:DU s.heap D es ep tb){Q:Option (Value×Nat)->Shared->Prop}(q:Q v s):wpAny (model prog w) A (setNext D a i ep) Q E s:=by unfold setNext;refine Ac (b.state ?_);dsimp only;unfold setsByText;refine Ac (Ac (wpAny_askSetting (Al ?_)));have c:(model prog w).w.params.followText "set-order" = true:=d;dsimp only;rw[c,Ap rfl];rw[An (by simp)];refine Ac ?_;unfold setWalk setsByText;refine Ac (b.state ?_);dsimp only;refine Ac (Ac (wpAny_askSetting (Al ?_)));dsimp only;rw[c,Ap rfl];refine Ac (wpAny_askSetting ?_);refine Al ?_;have g:(model prog w).w.params.setOrder D ep=nx:=f;dsimp only;rw[g,hv];exact Al q
def TH{a:Nat}{v:Option (Value×Nat)}(c:w.params.followText "set-order" = false)(d:(!tb.plain && decide (es.size > 1))=false)(e:tb.led=true)(hv:(∃h x j,es[SetTable.below tb.place a]?=some (h,x)/\tb.place[SetTable.below tb.place a]?=some j/\v=some (x,j+1))\/(es[SetTable.below tb.place a]?=none/\v=none))(f:DU s.heap D es ep tb){Q:Option (Value×Nat)->Shared->Prop}(q:Q v s):wpAny (model prog w) A (setNext D a i ep) Q E s:=by
 unfold setNext;refine Ac (f.state ?_);dsimp only;unfold setsByText;refine Ac (Ac (wpAny_askSetting (Al ?_)));have k:(model prog w).w.params.followText "set-order" = false:=c;dsimp only;rw[k,An B0];refine wpAny_ite_split (λh=>absurd (show(!tb.plain && decide (es.size > 1))=true from h) (by rw[d];exact B0)) (λ_=>?_);refine Ac ?_;show wpAny _ _ (if(!tb.led && !es.isEmpty)=true then _ else _) _ _ _;rw[e];simp only[Bool.not_true,Bool.false_and,Dn,↓reduceIte];refine Al ?_;rcases hv with⟨h,x,j,b,g,rfl⟩|⟨b,rfl⟩;rw[b,g];exact Al q;rw[b];exact Al q
theorem WJ {M:Str->Bool}(H:A.handled=none) (hS:BD (strKind prog w) (Bw w) s.heap D M n)
 (q:∀(It:Addr)(r:Heap)(I:Drawn)(ks:G'),ks.length=n->(∀y,M y=true↔y∈ks)->DV prog w A s.heap r D It ks->Q (.ref It) {s with heap:=r,drawn:=I}):wpAny (model prog w) A (pyIter (.ref D)) Q E s:=by
 obtain⟨t,es,ep,tb,J,X,x3,K,L,x6,Y,N,O⟩:=hS;have k:DU s.heap D es ep tb:=⟨⟨t,J,X,x3⟩,Y⟩;have Z:s.TypeIs (.ref D) "set" :=⟨t,J,X.1⟩;have aa:D<s.heap.objs.size:=AI J;refine wpAny_pyIter_slot Z F.slot_set_iter (wpAny_call_entry F.slot_set_iter Z WA ?_ (F.args_set_iter_1 _));unfold Builtin.«frozenset.__iter__» Builtin.Frozenset.slot0 slotArgs;simp only[List.isEmpty_nil,Bool.not_true,Dn,↓reduceIte,bind_assoc,EG,bne_self_eq_false];unfold Builtin.Frozenset.addrOf Builtin.Frozenset.sizeOf;refine Ac (Al ?_);dsimp only;refine Ac (Al ?_);refine Ac (Ac (k.entries (Al ?_)));unfold setDrawn setsByText;refine Ac (Ac (k.state ?_));dsimp only;refine Ac (Ac (wpAny_askSetting (Al ?_)));refine Al ?_;dsimp only;have n0:s.heap.objs.size≠D:=Nat.ne_of_gt aa
 have ab:∀{b:Addr},b∈[s.heap.objs.size,D]->b=D\/s.heap.objs.size<=b:=λ{b}a=>by
  rcases BL.mp a with rfl|a;exact .inr (Aw _);exact .inl (BY.mp a)
 cases z:(model prog w).w.params.followText "set-order" with
 |true=>
  simp only[Bool.not_true,Bool.false_and,Dn,↓reduceIte];refine Ac (Al ?_);refine QJ k ?_;have P:((pickOrder (w.params.setOrder D ep) es).toList).Perm es.toList:=(by have:=Tx (w.params.setOrder D ep) es.size 0 es.toList #[] (by simp);show(pickOrder.go (w.params.setOrder D ep) es.size 0 es.toList #[]).toList.Perm es.toList;simpa using this);obtain⟨ks,f,u,x⟩:=QI K L (P.map (·.2));have c:((pickOrder (w.params.setOrder D ep) es).toList.map (·.2)).length=es.size:=by rw[AD,P.length_eq];simp
  have W:=TD (prog:=prog) (w:=w) (A:=A) (It:=s.heap.objs.size) (D:=D) (es:=es) (ep:=ep) (tb:=tb) H n0 (λ_=>0) _ c
   (λi v R B S U g l m=>TF (nx:=w.params.setOrder D ep) z rfl (by
    rw[BP] at g;obtain⟨e,d,rfl⟩:=Dd.mp g;rw[<-Array.getElem?_toList,d];rfl) l m)
   (λR B S U l m=>TF (nx:=w.params.setOrder D ep) z rfl (by
    have hz:(pickOrder (w.params.setOrder D ep) es).toList.length=es.size:=by rw[P.length_eq];simp
    rw[<-Array.getElem?_toList,FZ (by omega)];rfl) l m)
  refine q _ _ s.drawn ks (by rw[f,c,N]) x (DV.of W (f.trans c) u ⟨BG _ rfl,k.keep λt e=>AR _ e⟩ (λb a=>ab a) (λb o e=>AR _ e) (Aw _))
 |false=>
  have ae:tb.led=true:=(by rw[O.led];unfold Bw;have:w.params.followText "set-order" = false:=z;rw[this];rfl);simp only[Bool.not_false,Bool.true_and]
  cases G:(!tb.plain && decide (es.size > 1)) with
  |true=>
   refine wpAny_ite_split (λ_=>?_) (λh=>absurd (show(!tb.plain && decide (es.size > 1))=true from G) h);refine Ac (Tz es.size _ p9 λj I r=>?_);have V:j.length=es.size:=by rw[r.length_eq];exact p9
   refine Ac (wpAny_newObj_type ?_ (by show(List.map (λi:Nat=>rawInt (i:Int)) j).toArray.size<=sizeLine;rw[BR,AD,V];exact fits_of_scanBound x6));have af:DU (s.heap.push {cls:=.type "tuple",data:=.seq (j.map λi:Nat=>rawInt (i:Int)).toArray}) D es ep tb:=k.keep λt e=>AR _ e;refine QJ af ?_;have ai:∀p∈j,p<es.size:=λp h=>List.mem_range.mp (r.mem_iff.mp h)
   have vp:(j.map λp=>(es.getD p (0,.none)).2).Perm (es.toList.map (·.2)):=by
    have d:es.toList.map (·.2)=(List.range es.size).map λp=>(es.getD p (0,.none)).2:=(by refine List.ext_getElem (by simp) λi h1 h2=>?_;simp at h1;simp[h1]);rw[d];exact r.map _
   obtain⟨ks,f,u,x⟩:=QI K L vp;have c:(j.map λp=>(es.getD p (0,.none)).2).length=es.size:=(by rw[AD,V])
   have W:=WI (prog:=prog) (w:=w) (A:=A) (It:=(s.heap.push {cls:=.type "tuple",data:=.seq (j.map λi:Nat=>rawInt (i:Int)).toArray}).objs.size) (D:=D) (T:=s.heap.objs.size) (es:=es) (ep:=ep) (tb:=tb) H (by rw[q9];exact Nat.ne_of_gt (Nat.lt_succ_of_lt aa)) (by rw[q9];exact Nat.succ_ne_self _) j _ c (λi v g=>by
    rw[BP] at g;obtain⟨p,d,rfl⟩:=Dd.mp g;have aj:=ai p (Ei d);refine⟨p,(es.getD p (0,.none)).1,d,?_⟩;simp[aj]) V
   refine q _ _ I ks (by rw[f,c,N]) x (DV.of W (f.trans c) u ⟨BG _ rfl,af.keep λt e=>AR _ e,⟨_,AR _ (BG _ rfl),rfl,_,rfl⟩⟩ (λb a=>?_) (λb o e=>AR _ (AR _ e)) (by rw[q9];exact Nat.le_succ _));rcases BL.mp a with rfl|a;rw[q9];exact .inr (Nat.le_succ _);rcases BL.mp a with rfl|a;exact .inl rfl;rw[BY.mp a];exact .inr (Aw _)
  |false=>
   refine wpAny_ite_split (λh=>absurd (show(!tb.plain && decide (es.size > 1))=true from h) (by rw[G];exact B0)) (λ_=>?_);refine Ac (Al ?_);refine QJ k ?_;obtain⟨ks,f,u,x⟩:=QI K L (List.Perm.refl _);have c:(es.toList.map (·.2)).length=es.size:=by simp
   have lp:tb.place.size=es.size:=(by have:=Y;unfold SetTable.fits at this;simp at this;exact this.1)
   have ag:∀i,i<=tb.place.size->SetTable.below tb.place (if i=0 then 0 else tb.place.getD (i-1) 0+1)=i:=λi C=>by
    cases i with|zero=>exact Wq O.ris|succ i=>have ak:i<tb.place.size:=C;simp only[Nat.add_eq_zero_iff,Nat.one_ne_zero,and_false,↓reduceIte,Nat.add_sub_cancel];refine Wr O.ris ?_;rw[q8,Array.getElem?_eq_getElem ak];rfl
   have W:=TD (prog:=prog) (w:=w) (A:=A) (It:=s.heap.objs.size) (D:=D) (es:=es) (ep:=ep) (tb:=tb) H n0 (λi=>if i=0 then 0 else tb.place.getD (i-1) 0+1) _ c
    (λi v R B S U g l m=>TH z G ae (.inl (by
     rw[BP] at g;obtain⟨⟨h,ah⟩,d,rfl⟩:=Dd.mp g;rw[Array.getElem?_toList] at d;have C:i<tb.place.size:=by rw[lp];exact(Array.getElem?_eq_some_iff.mp d).1
     have a:=ag i (CZ C);refine⟨h,ah,tb.place.getD i 0,by rw[a];exact d,?_,by simp⟩;rw[a,q8,Array.getElem?_eq_getElem C];rfl)) l m)
    (λR B S U l m=>TH z G ae (.inr ⟨by
     rw[ag es.size (Nat.le_of_eq lp.symm)];simp,rfl⟩) l m)
   refine q _ _ s.drawn ks (by rw[f,c,N]) x (DV.of W (f.trans c) u ⟨BG _ rfl,k.keep λt e=>AR _ e⟩ (λb a=>ab a) (λb o e=>AR _ e) (Aw _))
end
section
variable {prog:Program} {w:World} {A:Around} {E:B'} {s:Shared} {D:Addr}
theorem WK(a:s.TypeIs (.ref D) "set"){Q:Bool->Shared->Prop}(q:∀b,Q b s):wpAny (model prog w) A (Builtin.List.listLengthHint (.ref D)) Q E s:=by
 unfold Builtin.List.listLengthHint;refine Ac (wpAny_specialOf a F.slot_set_len.lookup ?_);generalize BC:("set.__len__" : String)=c
 wp_delta
 rw[show splitId c=some ("set", "__len__") by subst BC;decide +kernel];subst BC;refine Ac (wpAny_isInstance (T:= "set") (b:=true) a (by rw[isSubtype_type];kernel_rfl) (wpAny_ite_split (λh=>absurd h (by decide)) λ_=>?_));refine wpAny_ite_split (λ_=>Ac (NU a (Al (q _)))) λh=>absurd (by decide +kernel) h
theorem Im{M:Str->Bool}{n:Nat}{R:Result->Shared->Prop}(Q:A.handled=none)(u:BD (strKind prog w) (Bw w) s.heap D M n){S:Addr}(x:S≠D)(res:Value)(B:s.heap.get? S=some {cls:=.type "list",data:=.seq #[]})(T:n<=sizeLine)
 (q:∀h' j L acc c(ks:G'),(∀b o,b≠S->s.heap.get? b=some o->h'.get? b=some o)->h'.get? S=some {cls:=.type "list",dict:=none,data:=.seq acc c,slots:=#[]}->ItemsOf (λi v=>∃t,v=.str (ks.getD i default) t) acc ks.length->ks.length=n->(∀y,M y=true↔y∈ks)->R (.ok (.ret res)) {s with heap:=h',drawn:=j,toks:=L}) :
 wpAny (model prog w) A.in1 (Builtin.List.listExtendWith (.ref S) (.ref D) res)
  (λab d=>match ab with|.done f=>R (.ok f) d|.again C=>C.quiet=true/\codeAny (model prog w) A C R d) (λe d=>R (.error e) d) s:=by
 have E:s.TypeIs (.ref D) "set" :=by obtain⟨l,_,_,_,a,b,_⟩:=u;exact⟨l,a,b.1⟩
 have DJ:S<s.heap.objs.size:=AI B;unfold Builtin.List.listExtendWith;refine Ac (NU E ?_);rw[An (by simp[Builtin.List.listSameRef,x])];refine Ac (WJ (A:=A.in1) Q u λIt m j ks G U V=>?_);obtain⟨⟨X,St,W,H,ae⟩,k,Y⟩:=V;have p:=k _ _ B;have I:S∉X:=λz=>(ae S z).elim x λy=>absurd DJ (Nat.not_lt_of_le y)
 have O:∀(h:Heap)(r:Nat),St 0 h->(∀b o,b≠S->s.heap.get? b=some o->h.get? b=some o)->h.get? S=some {cls:=.type "list",data:=.seq #[] r} ->
  codeAny (model prog w) A (.builtin "list.extend.loop" ⟨[.ref S,.ref It,res],[]⟩) R {s with heap:=h,drawn:=j}:=λh r af Z hs=>by
  refine codeAny_extend_loopS W.toS (by rw[G];exact T) S I res ks.length 0 _ #[] r rfl (A9 _) af hs (ItemsOf.nil _) λd acc c J e1 ag=>?_;rw[Moved.eq_with J];refine q d.heap j d.toks acc c ks (λb o K e=>J.heap b o (λz=>?_) (Z b o K e)) e1 ag G U;rcases BL.mp z with y|y;exact K y;have:=AI e;rw[BY.mp y] at this;exact absurd this (Nat.not_lt_of_le Y)
 have quiet:(Code.builtin "list.extend.loop" ⟨[.ref S,.ref It,res],[]⟩).quiet=true:=plainId_quiet F.plain_extend_loop _;refine Ac (C1 (WK (s:={s with heap:=m,drawn:=j}) (by obtain⟨l,a,b⟩:=E;exact⟨l,k _ _ a,b⟩) λb=>?_));refine wpAny_ite_split (λ_=>?_) λ_=>Al ⟨quiet,O _ 0 H (λb o _ e=>k b o e) p⟩;refine Ac (D9 (Ac ?_));show wpAny _ _ (updateSeq S (·.push .none) >>= λ_=>updateSeq S (·.pop)) _ _ _;refine Ac (wpAny_updateSeq p rfl ?_);have N:=r9 (Obj.mapSeq (·.push Value.none)) p rfl;refine wpAny_updateSeq (hz:=by seq_fits) N rfl ?_;have aa:=r9 (Obj.mapSeq (·.pop)) N rfl;have P:∀b,b≠S->((m.update S (Obj.mapSeq (·.push Value.none))).update S (Obj.mapSeq (·.pop))).get? b=m.get? b:=λb g=>(Heap.get?_update_other _ _ (Ne.symm g)).trans (Heap.get?_update_other _ _ (Ne.symm g));exact Al ⟨quiet,O _ _ (W.frame 0 _ _ H λb g o e=>(P b λz=>I (z▸g)).trans e) (λb o g e=>(P b g).trans (k b o e)) aa⟩
theorem WL{M:Str->Bool}{n:Nat}{Q:E'->Shared->Prop}(u:A.handled=none)(t:BD (strKind prog w) (Bw w) s.heap D M n)(z:n<=sizeLine)
 (q:∀h' d L acc(ks:G'),(∀b o,s.heap.get? b=some o->h'.get? b=some o)->StrsAre acc ks->ks.length=n->(∀y,M y=true↔y∈ks)->Q acc {s with heap:=h',drawn:=d,toks:=L}):wpAny (model prog w) A (collect (.ref D)) Q E s:=by
 have H:D<s.heap.objs.size:=by obtain⟨B,_,_,_,a,_⟩:=t;exact AI a
 unfold collect;refine Ac (wpAny_runValue (codeAny_builtin entry_proto_collect' ?_));rw[u4 F.plain_proto_collect _];show wpAny _ A.in1 (newList [] >>= λl=>again (.builtin "list.__iadd__" ⟨[l,.ref D],[]⟩)) _ _ s;refine Ac (wpAny_newObj_type (Al ⟨plainId_quiet F.plain_list_iadd _,codeAny_builtin entry_list_iadd' ?_⟩));rw[u4 F.plain_list_iadd _];show wpAny _ A.in1 (Builtin.List.listExtendWith (.ref s.heap.objs.size) (.ref D) (.ref s.heap.objs.size)) _ _ _
 refine Do (Im (A:=A) (s:={s with heap:=s.heap.push {cls:=.type "list",data:=.seq ([]:E').toArray}}) (S:=s.heap.objs.size)
  (R:=λr p=>∃h' d L acc c,∃ks:G',r=.ok (.ret (.ref s.heap.objs.size))/\p={s with heap:=h',drawn:=d,toks:=L}/\(∀b o,s.heap.get? b=some o->h'.get? b=some o)/\h'.get? s.heap.objs.size=some {cls:=.type "list",dict:=none,data:=.seq acc c,slots:=#[]}/\StrsAre acc.toList ks/\ks.length=n/\∀y,M y=true↔y∈ks)
  u (t.keep λB e=>AR _ e) (Nat.ne_of_gt H) _ (BG _ rfl) z λh' d L acc c ks h j g k m=>⟨h',d,L,acc,c,ks,rfl,rfl,λb o e=>h b o (Bu (AI e)) (AR _ e),j,?_,k,m⟩) (λI p x=>?_) λe p x=>?_
 exact Sz (by rw[Array.length_toList,g.1]) λi v C=>g.2 i v (by rw[<-Array.getElem?_toList];exact C)
 . cases I with
   |done f=>obtain⟨h',d,L,acc,c,ks,e,rfl,h,j,g,k,m⟩:=x;cases e;show wpAny _ A (load s.heap.objs.size >>= _) _ _ _;exact Ac (wpAny_load j (Al (q h' d L acc.toList ks h g k m)))
   |again J=>refine⟨x.1,codeAny_mono x.2 λr K y=>?_⟩;obtain⟨h',d,L,acc,c,ks,rfl,rfl,h,j,g,k,m⟩:=y;show wpAny _ A (load s.heap.objs.size >>= _) _ _ _;exact Ac (wpAny_load j (Al (q h' d L acc.toList ks h g k m)))
 obtain⟨_,_,_,_,_,_,G,_⟩:=x;cases G
end
open Ord
def Io{l:G'}:∀{m:G'},l.Nodup->(∀x∈l,x∈m)->m.length<=l.length->m.Nodup:=by
 induction l with
 |nil=>intro m _ _ h;rw[List.length_eq_zero_iff.mp (Nat.le_zero.mp h)];exact List.nodup_nil
 |cons a l g=>
  intro m d f i;obtain⟨j,k⟩:=Hq.mp d;have c:=List.perm_cons_erase (f a CH);have n:(m.erase a).length<=l.length:=(by have:=c.length_eq;simp at this i;omega)
  have sub:∀x∈l,x∈m.erase a:=λx b=>by
   have:=c.mem_iff.mp (f x (Dc _ b));rcases BL.mp this with e|e;exact absurd (e▸b) j;exact e
  refine c.nodup_iff.mpr (Hq.mpr ⟨λo=>?_,g k sub n⟩)
  have:(a::l).length<=(m.erase a).length:=Ord.nodup_sub_length d λx b=>by
   rcases BL.mp b with e|e;rw[e];exact o;exact sub x e
  simp at this;omega
variable {x:Str}
set_option tactic.hygienic true in
def Nu{l:G'}(h:l.Nodup):(step_dedup l x).Nodup:=by unfold step_dedup;split;exact h;rename_i c;refine List.nodup_append.mpr ⟨h,List.pairwise_singleton _ _,λa d b f e=>c ?_⟩;rw[BY.mp f] at e;rw[Jw];exact⟨a,d,by rw[e];simp⟩
theorem TJ(f:Nat->Str):∀i,(AO f i).Nodup
 |0=>List.nodup_nil
 |i+1=>by rw[Jf];exact Nu (TJ f i)
def GW (P:Program) (w:World) (a:Addr) (ns:G'):HO:=.ext λh=>∃ds:G',ds.Nodup/\(∀y,y∈ds↔y∈ns)/\BD (strKind P w) (Bw w) h a (λy=>ds.any (·==y)) ds.length
section
variable {prog:Program} {w:World} {A:Around} {E:B'} {s:Shared} {D:Addr}
def WM{M:Str->Bool}{n:Nat}{Q:B'}(l:A.handled=none)(r:BD (strKind prog w) (Bw w) s.heap D M n)(K:n<64)
 (q:∀(R:Addr)h' d L k(out:E')(ks:G'),(∀b o,s.heap.get? b=some o->h'.get? b=some o)->(∀b o,s.heap.get? b=some o->b≠R)->h'.get? R=some {cls:=.type "list",data:=.seq out.toArray k}->Am (ks.map V.str) out->ks.length=n->(∀y,M y=true↔y∈ks)->sortedS ks=true->Q (.ref R) {s with heap:=h',drawn:=d,toks:=L}) :
 wpAny (model prog w) A (call (.builtin "sorted") [.ref D]) Q E s:=by
 refine Calls.call_function_entry kind_sorted plain_sorted entry_sorted (args_sorted1 _) ?_;unfold Builtin.«sorted»;refine Ac (m:=checkCount "sorted" 1 1 _) (Al ?_);refine Ac (WL (A:=A.in1) l r (CZ (BQ (by omega))) λf d L c ks g a t u=>?_);have H:c.length=ks.length:=(by have:=(Ob a).length;rw[AD] at this;exact this.symm);refine Ac (wpAny_newList ?_ (CZ (BQ (by omega))));have h:(f.push {cls:=.type "list",data:=.seq c.toArray}).get? f.objs.size=some (seqObj "list" c.toArray 0):=BG _ rfl;refine Ac (C1 (wpAny_call_entry slot_list_sort ⟨_,h,rfl⟩ entry_list_sort (list_sort_treeK strKind_oneLt h a.keysOf (λI J p e=>keyKind_strs (by rw[<-e];exact a)) (by omega) λF v x=>⟨_,rfl,?_⟩) (args_list_sort _)));obtain⟨G,z,i,B⟩:=sorted_out_str a v x;obtain⟨k,C⟩:=sortedHeap_at (vs:=c) (out:=(arrOf F).map (·.2)) h;refine Al ⟨_,rfl,q f.objs.size _ d L k _ G (λb o e=>?_) (λb o e=>Bu (AI (g b o e))) (by rw[Array.toArray_toList];exact C) (Ob z) (by rw[i.length_eq,t]) (λy=>by rw[u,i.mem_iff]) B⟩;have j:=AI (g b o e);rw[sortedHeap_old (Bu j) (by rw[q9];exact Nat.lt_succ_of_lt j)];exact AR _ (g b o e)
end
section
variable {X:Cx} {pins:A'} {σ:L2.St} {H:Hp} {s:Shared}
def Inv.drew(I:Inv X pins σ H s)(a:Drawn):Inv X pins σ H {s with drawn:=a}:=
 I.step (h':=s.heap) (H':=H) (g':=s.gens) (t':=s.toks) (d':=a) (ch:=[]) (λ_ z=>nomatch z) (λ_ _ _ _ _ e _=>e) (λ_ o _ _ _ e _=>⟨o.slots,e⟩) (λ_ _ _ _ n=>n) (λ_ o _ e=>⟨o,e⟩) (λ_ _ e=>e) (λ_ _ _ e=>e) (λ_ b e=>⟨#[],by rw[e];simp⟩) (λ_ h=>h) I.hok I.bare
def KQ (P:Program) (w:World) (K:Ah):R'->Hp->VK->Prop:=λvs H Q=>∃(p:Addr)(ns:G'),vs=[.ref p]/\Ag K H p (ns.map V.str)/\ns.length<=4000/\∀q,H q=none->Q (.ref q) (upd H q (GW P w q ns))
def WN(v:X.calm=true):A1 X (.type "set") (KQ X.prog X.w X.K):=by intro pins s σ H N O Q I r h;obtain⟨p,c,rfl,w,P,q⟩:=h;obtain⟨u,rfl,z⟩:=EL r;obtain rfl:u=Value.ref p:=z;obtain⟨g,l,A,_⟩:=I.list w;have m:=l.length;rw[AD] at m;have t:g.toArray.size=c.length:=(by rw[BR,m]);refine Wz (f:=λi=>c.getD i default) (I.ok.hd v) A.isList (Sw l) (by rw[t];unfold scanBound;omega) λB L n k=>?_;have C:∀b u,s.heap.get? b=some u->B.get? b=some u:=λb u e=>k b u (AI e) e;refine⟨.ref s.heap.objs.size,upd H s.heap.objs.size (GW X.prog X.w s.heap.objs.size c),I.laid (t':=L) C (Aw _) ?_,rfl,q _ I.fresh⟩;refine⟨⟨_,TJ _ _,λy=>?_,n⟩,?_,λR S⟨D,E,F,G⟩J=>⟨D,E,F,G.keep λK e=>J K e⟩⟩;have:=N9 (λi=>c.getD i default) g.toArray.size y;rw[Jw] at this;have e:(∃x,x∈AO (λi=>c.getD i default) g.toArray.size/\(x==y)=true)↔y∈AO (λi=>c.getD i default) g.toArray.size:=⟨λ⟨x,a,b⟩=>by rw[<-eq_of_beq b];exact a,λa=>⟨y,a,by simp⟩⟩;rw[<-e,this,t];constructor;rintro⟨j,d,rfl⟩;rw[A7,AQ d];exact EE d;intro M;obtain⟨j,d,e⟩:=List.getElem_of_mem M;exact⟨j,d,by rw[A7,AQ d];exact e⟩;obtain⟨o,_,_,_,e,_⟩:=n;exact⟨o,e⟩
def Ip (P:Program) (w:World):R'->Hp->VK->Prop:=λvs H Q=>∃(d:Addr)(ns:G'),vs=[.ref d]/\H d=some (GW P w d ns)/\ns.length<64/\∀D(ms:G'),ms.Pairwise DJ->(∀y,y∈ms↔y∈ns)->H D=none->Q (.ref D) (upd H D (.lst (ms.map V.str)))
def WO(n:X.calm=true):A1 X (.builtin "sorted") (Ip X.prog X.w):=by
 intro pins s σ H J K Q I r h;obtain⟨d,M,rfl,hd,E,q⟩:=h;obtain⟨u,rfl,o⟩:=EL r;obtain rfl:u=Value.ref d:=o;obtain⟨⟨f,g,i,p⟩,_,_⟩:=I.hok d _ hd;have t:f.length<64:=Nat.lt_of_le_of_lt (Ord.nodup_sub_length g λy e=>(i y).mp e) E;refine WM (I.ok.hd n) p t λR N v L k F c w j z A l B C=>?_
 have m:∀y,y∈c↔y∈f:=λy=>by
  rw[<-B y,Jw];exact⟨λ⟨x,a,b⟩=>by rw[<-eq_of_beq b];exact a,λa=>⟨y,a,by simp⟩⟩
 have D:c.Nodup:=Io g (λy e=>(m y).mpr e) (Nat.le_of_eq l);have G:(c.map V.str).length<=sizeLine:=by rw[AD,l];exact CZ (BQ (by omega))
 exact⟨.ref R,upd H R (.lst (c.map V.str)),(I.drew v).laidN (t':=L) w j ⟨G,F,k,A,z⟩,rfl,q R c (Vy C D) (λy=>(m y).trans (i y)) (I.freshN j)⟩
end
structure EW (K:Ah) (x qual:Str) (st:Stmt) (T:Addr) (f:Addr) (fd:FuncData):Prop where
 ex:∃(oc:Value)(od:Option Addr)(kV doc pm:Value)(an:Option Addr)(cdv ct:Value)(osl:Array (J')),
  fd=PySem.W.fnOf x qual (A8 st) (A0 st) (Ar st) (.ref T) kV doc pm an cdv ct/\K.lookup f=some ⟨oc,od,.func fd,osl⟩/\PySem.W.codeIn K cdv qual=true
section
variable {P:Program} {w:World} {K:Ah} {mg:Str->J'} {base:Heap}
def EW.binds{o:Str}{st:Stmt}{T f:Addr}{j:FuncData}{b:G'}{c:E'}{l:Obj}{m:L'}{n:Nat}(F:EW K x o st T f j)(p:K.lookup T=some l)(q:l.data=.seq m n)
 (h:∀(kV g d:Value)(e:Option Addr)(i ct:Value)(a:E'),(a++c).length=b.length->∃k,bindArgs (PySem.W.fnOf x o (A8 st) (A0 st) (Ar st) (.ref T) kV g d e i ct) ⟨a,[]⟩=seqItems? (.ref T) >>= k/\k (some m)=pure (b.zip (a++c))):Binds K j b c:=by
 obtain⟨v,w,kV,g,d,e,i,ct,z,rfl,y,A⟩:=F.ex;intro s a X r;obtain⟨k,t,u⟩:=h kV g d e i ct a r;exact BindsTo.of_defaults rfl (X _ _ p) q t u
def Iq{b:Str}{st:Stmt}{T f:Addr}{h:Value}{od d:Option Addr}{i:Array (J')}{kV g e a ct:Value}(l:K.lookup f=some ⟨h,od,.func (PySem.W.fnOf x b (A8 st) (A0 st) (Ar st) (.ref T) kV g e d a ct),i⟩)
 (c:PySem.W.codeIn K a b=true):EW K x b st T f (PySem.W.fnOf x b (A8 st) (A0 st) (Ar st) (.ref T) kV g e d a ct):=⟨⟨h,od,kV,g,e,d,a,ct,i,rfl,l,c⟩⟩
end
def WP{bs:List Bool}:(List.range bs.length).any (λi=>bs.getD i false)=bs.any id:=by rw[Bool.eq_iff_iff,Jw,Jw];constructor;rintro⟨i,a,h⟩;have c:=List.mem_range.mp a;rw[A7,AQ c] at h;exact⟨_,EE c,h⟩;rintro⟨b,d,h⟩;obtain⟨i,a,e⟩:=Mp.mp d;refine⟨i,List.mem_range.mpr a,?_⟩;rw[A7,AQ a,e];exact h
def QK (K:Ah):R'->Hp->VK->Prop:=λvs H Q=>∃(a:Addr)(bs:List Bool),vs=[.ref a]/\Ag K H a (bs.map V.bl)/\Q (.bl (bs.any id)) H
variable {X:Cx}
def WQ(g:X.calm=true):A1 X (.builtin "any") (QK X.K):=by
 intro B s σ H t w Q I r h;obtain⟨a,bs,rfl,j,q⟩:=h;obtain⟨u,rfl,k⟩:=EL r;obtain rfl:u=Value.ref a:=k;obtain⟨c,d,p,x⟩:=I.list j;have f:=d.length;rw[AD] at f;have n:a<s.heap.objs.size:=by obtain⟨_,e,_⟩:=p.isList;exact AI e
 refine call_any_walk (wpAny_pyIter_list p.isList ?_);refine⟨s.heap.objs.size,[s.heap.objs.size,a],[s.heap.objs.size],c.toArray.size,(λi v=>c.toArray[i]?=some v),(λi h=>h.IsListIter s.heap.objs.size a i/\h.IsList a c.toArray),(λi=>bs.getD i false),rfl,Walks.list (A:=X.A.in1) (I.ok.hd g) s.heap.objs.size a (Bu n) c.toArray,⟨⟨_,BG _ rfl,rfl,rfl⟩,p.isList.push _⟩,Sb d,λy L l=>?_⟩;refine⟨.bl (bs.any id),H,I.kept λb o e=>l b o (λz=>?_) (AR _ e),?_,q⟩;have m:b=s.heap.objs.size:=(by simpa using z);exact absurd (AI e) (by rw[m];exact D7 _);have e:c.toArray.size=bs.length:=(by rw[BR,f]);show Value.bool _=Value.bool _;rw[e,WP]
def KR{A:Around}{k:Nat}(a:Bc k A):A.units+2<cLine:=Nat.lt_of_le_of_lt (Nat.add_le_add_left (by decide:2<=64) _) a.units
theorem QL{α β:Type}{f:α->β}:∀{l:List β}{m:List α},l.Perm (m.map f)->∃a:List α,a.Perm m/\l=a.map f
 |[],m,h=>by have:=h.length_eq;rw[AD,EG] at this;rw[List.length_eq_zero_iff.mp this.symm];exact⟨[],List.Perm.refl _,rfl⟩
 | x :: l,m,h=>by
   have b:x∈m.map f:=h.mem_iff.mp (by simp);obtain⟨y,c,rfl⟩:=CU.mp b;obtain⟨s,t,rfl⟩:=List.append_of_mem c
   have d:l.Perm ((s++t).map f):=by
    have e:((s++y::t).map f).Perm (f y::(s++t).map f):=(by rw[Cb,D1,Cb];exact List.perm_middle);exact(List.perm_cons _).mp (h.trans e)
   obtain⟨a,g,rfl⟩:=QL d;exact⟨y::a,(List.Perm.cons y g).trans List.perm_middle.symm,rfl⟩
variable {H:Hp}
def Ox.same{Y U:Hp}(s:Ad H Y)(f:Ox H Y U):Ad H U:=λb o e=>by rcases f b with z|⟨z,_⟩;rw[z];exact s _ _ e;rw[e] at z;cases z
def Ir (K:Ah):R'->Hp->VK->Prop:=λxs H Q=>∃p ys,xs=[.ref p]/\(Ag K H p ys\/AB K H p ys)/\∀l,H l=none->Q (.ref l) (upd H l (.lst ys))
def EX (x:Str):Prop:=1<=x.length/\x.length<=8/\∀c∈x.cps.toList,97<=c/\c<=122
structure FL (H:Hp) (ts:F') (ls:List (Str×Str×Nat)):Prop where
 len:ts.length=ls.length
 at_:∀(n:Nat)(t:Addr)(p:Str×Str×Nat),ts[n]?=some t->ls[n]?=some p->H t=some (.tup [.str p.1,.str p.2.1,.str "thing",.int (p.2.2:Int)])
variable {H':Hp}
def FL.same{c:F'}{d:List (Str×Str×Nat)}(e:Ad H H')(h:FL H c d):FL H' c d:=⟨h.len,λn t p a b=>e _ _ (h.at_ n t p a b)⟩
structure BU (H:Hp) (n:Addr) (S:Nat->List (Str×Nat)) (T:Nat->List (Str×Str×Nat)):Prop where
 ex:∃(sc th qu:Addr)(us as bs:F'),H n=some (.tup [.ref sc,.ref th,.ref qu])/\H sc=some (.lst (us.map V.ref))/\us.length=5/\(∀i,i<5->H (us.getD i 0)=some (.tup [.ref (as.getD i 0),.ref (bs.getD i 0)])) /\
  (∀i,i<5->∃ts,H (as.getD i 0)=some (.lst (ts.map V.ref))/\DM H ts (S i))/\(∀i,i<5->∃ts,H (bs.getD i 0)=some (.lst (ts.map V.ref))/\FL H ts (T i))
 le:∀i,i<5->(S i).length<=8/\(∀x∈S i,x.2<5)/\(T i).length<=2
def BU.same{H H':Hp}{n:Addr}{S:Nat->List (Str×Nat)}{T:Nat->List (Str×Str×Nat)}(e:Ad H H')(h:BU H n S T):BU H' n S T:=
 ⟨let ⟨l,m,o,p,as,bs,a,b,c,d,f,g⟩:=h.ex;⟨l,m,o,p,as,bs,e _ _ a,e _ _ b,c,λi j=>e _ _ (d i j),λi j=>let ⟨k,x,y⟩:=f i j;⟨k,e _ _ x,y.same e⟩,λi j=>let ⟨k,x,y⟩:=g i j;⟨k,e _ _ x,y.same e⟩⟩,h.le⟩
structure Ca (K:Ah) (H:Hp) (t:Addr) (la lb:Str):Prop where
 ex:∃a o u g e gt pr,H t=some (.tup [.ref a,.int 0,.ref o])/\H a=some (.lst [.ref u])/\H u=some (.tup [.ref g,.ref e])/\Ag K H g [.ref gt]/\AB K H gt [.str la,.int 0]/\H e=some (.lst [.str lb])/\H o=some (.lst [.ref pr])/\H pr=some (.tup [.str lb,.str la])
def Ca.same{K:Ah}{t:Addr}{b c:Str}(s:Ad H H')(h:Ca K H t b c):Ca K H' t b c:=
 ⟨let ⟨a,o,u,g,e,gt,d,f,i,j,k,l,m,n,p⟩:=h.ex;⟨a,o,u,g,e,gt,d,s _ _ f,s _ _ i,s _ _ j,s.seq k,s.seqT l,s _ _ m,s _ _ n,s _ _ p⟩⟩
abbrev BE:Type:=Int×Str×Int
abbrev Iu (o:BE):HO:=.tup [.int o.1,.str o.2.1,.int o.2.2]
def Wy (H:Hp) (a:Addr) (os:List BE):Prop:=∃ts:F',H a=some (.lst (ts.map V.ref))/\ts.length=os.length/\∀(n:Nat)(t:Addr)(o:BE),ts[n]?=some t->os[n]?=some o->H t=some (Iu o)
variable {os:List BE}
def Wy.same{a:Addr}(e:Ad H H')(h:Wy H a os):Wy H' a os:=let ⟨c,d,f,g⟩:=h;⟨c,e _ _ d,f,λn t o a b=>e _ _ (g n t o a b)⟩
variable {D:Addr}
def Wy.updL{a:Addr}{o:HO}{c:R'}(d:H D=some (.lst c))(n:a≠D)(h:Wy H a os):Wy (upd H D o) a os:=by obtain⟨e,f,g,i⟩:=h;refine⟨e,by rw[Ax n];exact f,g,λn t o a b=>?_⟩;have:=i n t o a b;rw[Ax λz=>by rw[z,d] at this;cases this];exact this
def Wy.dt{K:Ah}{a:Addr}(h:Wy H a os):Av K H (.ref a) ((DK KI).D os):=by obtain⟨j,e,f,g⟩:=h;refine .lst (Ag.of e) (AF.of_get (by simpa using f) λn v d b c=>?_);rw[BP] at b c;obtain⟨t,i,rfl⟩:=Dd.mp b;obtain⟨o,Z,rfl⟩:=Dd.mp c;exact .tup (AB.of (g n t o i Z)) (.cons (.int _) (.cons (.str _) (.cons (.int _) .nil)))
def Mj (S:Nat->List (Str×Nat)) (T:Nat->List (Str×Str×Nat)) (o:BE) (lb:Str):Prop:=∃v i:Nat,v<5/\o.1=(v:Int)/\o.2.2=(i:Int)/\((o.2.1 = "step" /\ ∃p,(S v)[i]?=some p/\p.1=lb)\/(o.2.1 = "told" /\ ∃p,(T v)[i]?=some p/\p.1=lb))
def Iv (S:Nat->List (Str×Nat)) (T:Nat->List (Str×Str×Nat)) (lb:Nat->Str) (os:List BE):Prop:=∀j o,os[j]?=some o->Mj S T o (lb j)
def FM (T:Nat->List (Str×Str×Nat)) (os:List BE) (n:Nat):Prop:=∃(v i:Nat)(p:Str×Str×Nat),v<5/\os.getLast?=some ((v:Int),j',(i:Int))/\(T v)[i]?=some p/\p.2.2=n
def C4 (nm:Str):Nat->List (Str×Str×Nat)->O'
 |_,[]=>[]
 |i,p::r=>if p.2.1=nm then i::C4 nm (i+1) r else C4 nm (i+1) r
theorem TL(nm:Str):∀(l:List (Str×Str×Nat))(i:Nat)(p:Str×Str×Nat),C4 nm i (l++[p])=C4 nm i l++if p.2.1=nm then[i+l.length] else[]
 |[],i,p=>by show(if p.2.1=nm then[i] else[])=_;simp[C4]
 |q::r,i,p=>by
   have a:=TL nm r (i+1) p;show(if q.2.1=nm then i::C4 nm (i+1) (r++[p]) else C4 nm (i+1) (r++[p]))=(if q.2.1=nm then i::C4 nm (i+1) r else C4 nm (i+1) r)++_;rw[a,Ej,show i+(r.length+1)=i+1+r.length by omega]
   split<;>simp
theorem TM(nm:Str):∀(l:List (Str×Str×Nat))(i:Nat),(C4 nm i l).length<=l.length
 |[],_=>Aw _
 |q::r,i=>by
   have:=TM nm r (i+1);show(if q.2.1=nm then i::C4 nm (i+1) r else C4 nm (i+1) r).length<=r.length+1
   split;rw[Ej];omega;omega
abbrev Bs (Tl:Nat->List (Str×Str×Nat)) (nm:Str) (b:B9):List (List BE):=(C4 nm 0 (Tl b.2)).map λi:Nat=>b.1.map Jn++[((b.2:Int),j',(i:Int))]
def Nv (ms:O') (w:Str) (n:Nat):Prop:=(ms=[]/\w = "none" /\ n=0)\/(ms≠[]/\(∀x∈ms,x=n)/\w = "thing")\/((∃x∈ms,∃y∈ms,x≠y)/\w = "torn" /\ n=0)
def BV:O'->Option Nat
 |[]=>none
 |m::r=>if(r.all λx=>decide (x=m))=true then some m else none
variable {ms:O'}{n:Nat}
def Nw(b:ms≠[])(h:∀x∈ms,x=n):BV ms=some n:=by
 cases ms with|nil=>exact absurd rfl b|cons m r=>have a:=h m (CH ..);show(if _ then _ else _)=_;rw[Ap (List.all_eq_true.mpr λx c=>B2 ((h x (Dc _ c)).trans a.symm)),a]
def OC(h:∃x∈ms,∃y∈ms,x≠y):BV ms=none:=by
 cases ms with
 |nil=>rfl
 |cons m r=>
  show(if _ then _ else _)=_;rw[An];intro z
  have b:∀x∈m::r,x=m:=λx a=>by
   rcases BL.mp a with rfl|a;rfl;exact E7 (List.all_eq_true.mp z x a)
  obtain⟨x,a,y,c,d⟩:=h;exact d ((b x a).trans (b y c).symm)
def WR(ms:O'):(ms=[]/\BV ms=none)\/(∃n,ms≠[]/\(∀x∈ms,x=n)/\BV ms=some n)\/((∃x∈ms,∃y∈ms,x≠y)/\BV ms=none):=by
 cases ms with|nil=>exact .inl ⟨rfl,rfl⟩|cons m r=>by_cases h:∀x∈m::r,x=m;exact .inr (.inl ⟨m,(λz=>by cases z),h,Nw (λz=>by cases z) h⟩);obtain⟨x,a,b⟩:∃x∈m::r,x≠m:=q2 λz=>h λx a=>q2 λy=>z ⟨x,a,y⟩;have:∃x∈m::r,∃y∈m::r,x≠y:=⟨x,a,m,CH ..,b⟩;exact .inr (.inr ⟨this,OC this⟩)
def TN{a:O'}(h:ms.Perm a):BV ms=BV a:=by rcases WR a with⟨rfl,e⟩|⟨n,c,d,e⟩|⟨⟨x,b,y,f,g⟩,e⟩;rw[h.eq_nil];rw[e];exact Nw (λz=>c (by rw[z] at h;exact h.symm.eq_nil)) λx b=>d x (h.mem_iff.mp b);rw[e];exact OC ⟨x,h.mem_iff.mpr b,y,h.mem_iff.mpr f,g⟩
def Iw{w:Str}(h:Nv ms w n):(w=("thing":Str)/\BV ms=some n)\/(w≠("thing":Str)/\BV ms=none):=by rcases h with⟨rfl,rfl,_⟩|⟨a,b,rfl⟩|⟨h,rfl,_⟩;exact .inr ⟨by decide +kernel,rfl⟩;exact .inl ⟨rfl,Nw a b⟩;exact .inr ⟨by decide +kernel,OC h⟩
variable {σ:St}
def Du{D:Ends}(h:D.nx σ H):IW D σ H:=h
abbrev Dv (o:BE):List A2:=[.inl o.1,.inr o.2.1,.inl o.2.2]
abbrev dW (H:Hp) (a:Addr) (kvs:List (List A2×V)):Prop:=H a=some (.dT kvs)
abbrev dF (H:Hp) (a:Addr) (kvs:List (List A2×V)):Prop:=∃o,H a=some (.frz o (.dT kvs))
structure DQ (dd:Hp->Addr->List (List A2×V)->Prop) (H:Hp) (ok:Nat->BE->Prop) (lv:Addr->Option Nat) (n:Nat):Prop where
 at_:∀a j,lv a=some j->∃kvs,dd H a kvs/\kvs.length<=n/\∀kv∈kvs,∃(o:BE)(p b:Addr)(m:Int),kv=(Dv o,.ref p)/\ok j o/\H p=some (.tup [.int m,.ref b])/\lv b=some (j+1)
variable {lv:Addr->Option Nat}
def DQ.sameW{ok:Nat->BE->Prop}(s:Ad H H')(h:DQ dW H ok lv n):DQ dW H' ok lv n:=⟨λa j e=>by
 obtain⟨r,c,d,f⟩:=h.at_ a j e;exact⟨r,s _ _ c,d,λg i=>let ⟨o,p,b,m,k,Z,l,q⟩:=f g i;⟨o,p,b,m,k,Z,s _ _ l,q⟩⟩⟩
def DQ.sameF{ok:Nat->BE->Prop}(s:Ad H H')(h:DQ dF H ok lv n):DQ dF H' ok lv n:=⟨λa j e=>by
 obtain⟨r,⟨o,c⟩,d,f⟩:=h.at_ a j e;exact⟨r,⟨o,s _ _ c⟩,d,λg i=>let ⟨o,p,b,m,k,Z,l,q⟩:=f g i;⟨o,p,b,m,k,Z,s _ _ l,q⟩⟩⟩
variable {m:Nat}
def DQ.mono{dd:Hp->Addr->List (List A2×V)->Prop}{ok:Nat->BE->Prop}(b:n<=m)(h:DQ dd H ok lv n):DQ dd H ok lv m:=⟨λa j e=>by
 obtain⟨g,c,d,f⟩:=h.at_ a j e;exact⟨g,c,Dm d b,f⟩⟩
def DQ.frz{H Y U:Hp}{ok:Nat->BE->Prop}{lv:Addr->Option Nat}{n:Nat}(h:DQ dW Y ok lv n)(d:∀a j,lv a=some j->H a=none)(f:Ox H Y U)(g:∀b kvs,H b=none->Y b=some (.dT kvs)->∃o,U b=some (.frz o (.dT kvs))):DQ dF U ok lv n:=⟨λa j e=>by
 obtain⟨kvs,i,k,l⟩:=h.at_ a j e;refine⟨kvs,g a kvs (d a j e) i,k,λq r=>?_⟩;obtain⟨o,p,b,m,s,Z,c,t⟩:=l q r;refine⟨o,p,b,m,s,Z,?_,t⟩;rcases f p with z|⟨_,v,u,z,_⟩;rw[z];exact c;rw[c] at z;cases z⟩
variable {kvs:List (List A2×V)}{v:V}
def DQ.have_{ok:Nat->BE->Prop}{o:BE}(c:∀a∈kvs,∃(o:BE)(p b:Addr)(m:Int),a=(Dv o,.ref p)/\ok j o/\H p=some (.tup [.int m,.ref b])/\lv b=some (j+1))(hv:AZ kvs (Dv o)=some v):∃(p b:Addr)(m:Int),v=.ref p/\H p=some (.tup [.int m,.ref b])/\lv b=some (j+1):=by unfold AZ at hv;obtain⟨a,d,rfl⟩:=Dd.mp hv;obtain⟨g,p,b,m,rfl,_,e,f⟩:=c a (List.mem_of_find?_eq_some d);exact⟨p,b,m,rfl,e,f⟩
def TQ{k:List A2}(h:AZ kvs k=none):Bj kvs k v=kvs++[(k,v)]:=by unfold AZ at h;unfold Bj;rw[An];intro z;obtain⟨a,b,c⟩:=Jw.mp z;have h:=Option.map_eq_none_iff.mp h;rw[List.find?_eq_none] at h;exact h a b c
variable {p:Addr}
def DQ.grow{ok:Nat->BE->Prop}{a e:Addr}{o:BE}{m:Int}(h:DQ dW H ok lv n)(k:lv a=some j)(B:H a=some (.dT kvs))(hv:AZ kvs (Dv o)=none)(K:ok j o)(L:H e=some (.dT []))(M:H p=some (.tup [.int m,.ref e]))(I:lv e=none) :
 DQ dW (upd H a (.dT (Bj kvs (Dv o) (.ref p)))) ok (λx=>if x=e then some (j+1) else lv x) (n+1):=by
 have N:a≠e:=λz=>by rw[z,I] at k;cases k
 have l:∀{x:Addr}{q:R'},H x=some (.tup q)->(upd H a (.dT (Bj kvs (Dv o) (.ref p)))) x=some (.tup q):=λ{x q}e=>by
  rw[Ax λz=>by rw[z,B] at e;cases e];exact e
 refine⟨λx i f=>?_⟩
 have C:∀(b:Addr)(i:Nat),lv b=some i->(if b=e then some (j+1) else lv b)=some i:=λb i r=>by
  rw[An λz=>by rw[z,I] at r;cases r];exact r
 by_cases D:x=e;subst D;rw[Ap rfl] at f;cases f;exact⟨[],by rw[dW,Ax (Ne.symm N)];exact L,A9 _,λg d=>by cases d⟩;have A:lv x=some i:=by rw[An D] at f;exact f
 obtain⟨J,c,E,F⟩:=h.at_ x i A;by_cases G:x=a;subst G;rw[k] at A;cases A;have:J=kvs:=(by have c:H x=_:=c;rw[B] at c;injection c with c;injection c with c;exact c.symm);subst this;refine⟨_,Aa,?_,λg d=>?_⟩;rw[TQ hv,BF];exact Nat.succ_le_succ E;rw[TQ hv] at d;rcases CG.mp d with z|z;obtain⟨s,t,b,u,v,Z,w,y⟩:=F g z;exact⟨s,t,b,u,v,Z,l w,C _ _ y⟩;rw[BY.mp z];exact⟨o,p,e,m,rfl,K,l M,Ap rfl⟩;refine⟨J,by rw[dW,Ax G];exact c,Nat.le_succ_of_le E,λg d=>?_⟩;obtain⟨s,t,b,u,v,Z,w,y⟩:=F g d;exact⟨s,t,b,u,v,Z,l w,C _ _ y⟩
section
variable {prog:Program} {w:World} {A:Around} {E:B'} {s:Shared}
theorem QM{j:Addr}{k:Nat}{vs:L'}{y:Value}{Q:B'}(c:s.heap.IsTupleIter j p k)(d:s.heap.IsTuple p vs)(e:vs[k]?=some y)
 (q:∀g,g.IsTupleIter j p (k+1)->Heap.SameBut j s.heap g->Q y {s with heap:=g}):wpAny (model prog w) A (Builtin.SmallTypes.nextOf (.ref j)) Q E s:=by
 obtain⟨l,b,f,a⟩:=id c;obtain⟨m,h,_,_,i⟩:=d;unfold Builtin.SmallTypes.nextOf;refine Ac (wpAny_callSpecial?_slot (name:=Str.ofString "__next__") c.typeIs F.slot_tuple_iterator_next (wpAny_call_entry F.slot_tuple_iterator_next c.typeIs F.entry_tuple_iterator_next ?_ (F.args_tuple_iterator_next_1 _)));show wpAny _ _ (field (.ref j) 0 >>= _) _ _ s;refine Ac (wpAny_field b a (x:=.ref p) rfl ?_);show wpAny _ _ (if(Value.ref p==Value.none)=true then _ else _) _ _ s;rw[An (show ¬((Value.ref p==Value.none)=true) from B0)];show wpAny _ _ (field (.ref j) 1 >>= _) _ _ s;refine Ac (wpAny_field b a (x:=.int k 0) rfl ?_);show wpAny _ _ (seqItems? (.ref p) >>= _) _ _ s;refine Ac (Fa h i ?_);simp only[E6,e];refine Ac (wpAny_setField b a (by simp) (Al ⟨y,rfl,Al (q _ ⟨_,r9 _ b (Obj.isFreed_of_fields (Obj.data_mapFields a _)),(Obj.cls_mapFields ..).trans f,by rw[Obj.data_mapFields a];simp[rawInt]⟩ (s0 ..))⟩))
theorem TR{j:Addr}{k:Nat}{vs:L'}{Q:B'}(e:A.handled=none)(b:s.heap.IsTupleIter j p k)(f:s.heap.IsTuple p vs)(h:vs[k]?=none)
 (q:∀g x,Heap.ExtBut j s.heap g->(∃o,g.get? x=some o/\o.cls=.type "StopIteration")->E (.ref x) {s with heap:=g}):wpAny (model prog w) A (Builtin.SmallTypes.nextOf (.ref j)) Q E s:=by
 obtain⟨n,c,r,d⟩:=id b;obtain⟨t,i,_,_,l⟩:=f;unfold Builtin.SmallTypes.nextOf;refine Ac (wpAny_callSpecial?_slot (name:=Str.ofString "__next__") b.typeIs F.slot_tuple_iterator_next (wpAny_call_entry F.slot_tuple_iterator_next b.typeIs F.entry_tuple_iterator_next ?_ (F.args_tuple_iterator_next_1 _)));show wpAny _ _ (field (.ref j) 0 >>= _) _ _ s;refine Ac (wpAny_field c d (x:=.ref p) rfl ?_);show wpAny _ _ (if(Value.ref p==Value.none)=true then _ else _) _ _ s;rw[An (show ¬((Value.ref p==Value.none)=true) from B0)];show wpAny _ _ (field (.ref j) 1 >>= _) _ _ s;refine Ac (wpAny_field c d (x:=.int k 0) rfl ?_);show wpAny _ _ (seqItems? (.ref p) >>= _) _ _ s;refine Ac (Fa i l ?_);simp only[E6,h];refine Ac (D9 (Ac (wpAny_setField c d (by simp) ?_)));show wpAny _ _ (newExc (.type "StopIteration") [] >>= _) _ _ _;refine Ac ?_;simp only[newExc,newTuple];refine Ac (wpAny_newObj_type (Ac (m:=firstArgMember _ _) (wpAny_of_eq (a:=Value.none) (by first|rfl|(simp only[firstArgMember];rfl)) (wpAny_newObj_type ?_ (by size_fits)))) (by size_fits));simp only[raiseNew];refine Ac (wpAny_handled ?_)
 first|rw[show A.in1.handled=none from e]|rw[e]
 exact Ac (Al (wpAny_throw (q _ _ (((s0 ..).extBut.push _).push _) ⟨_,BG _ rfl,rfl⟩)))
end
section
variable {prog:Program} {w:World} {A:Around} {E:B'} {s:Shared}
variable {z o q:Addr}{ys:L'}{u:Value}
def WS{a i j:Addr}{k:Nat}{xs:L'}{x y v:Value}{Q:B'}(D:ZipApart z a o i j p q)(B:IsZip s.heap z a o .none)(ea:IsPair s.heap a (.ref i) (.ref j))(eo:IsPair s.heap o u v)
 (ei:s.heap.IsTupleIter i p k) (ej:s.heap.IsTupleIter j q m) (tp:s.heap.IsTuple p xs) (tq:s.heap.IsTuple q ys) (hx:xs[k]?=some x) (hy:ys[m]?=some y)
 (ah:∀g,IsZip g z a o (rawInt s.heap.objs.size)->IsPair g o x y->g.IsTupleIter i p (k+1)->g.IsTupleIter j q (m+1)->IsPair g s.heap.objs.size x y->g.objs.size=s.heap.objs.size+1->(∀c d,c≠z->c≠o->c≠i->c≠j->s.heap.get? c=some d->g.get? c=some d)->Q (.ref s.heap.objs.size) {s with heap:=g}) :
 wpAny (model prog w) A (Builtin.«zip.__next__» ⟨[.ref z],[]⟩) (λf t=>∃v,f=.done (.ret v)/\Q v t) E s:=by
 show wpAny _ _ (field (.ref z) 2 >>= _) _ _ _;refine Ac (wpAny_field B rfl (x:=.bool false) rfl ?_);show wpAny _ _ (field (.ref z) 3 >>= _) _ _ _;refine Ac (wpAny_field B rfl (x:=.ref a) rfl (Ac (Fa ea rfl ?_)));show wpAny _ _ (Builtin.SmallTypes.ownedTupleIsFree (.ref z) >>= _) _ _ _;refine Ac ?_;unfold Builtin.SmallTypes.ownedTupleIsFree;refine Ac (wpAny_field B rfl (x:=.none) rfl (Al ?_));simp only[if_true];refine Ac (D9 (Ac (wpAny_field B rfl (x:=.ref o) rfl (Ac (wpAny_setField_rec B (by simp) λaa M h=>?_)))));replace M:IsZip aa z a o .ellipsis:=M;refine Ac ?_;simp only[List.zipIdx_cons,List.zipIdx_nil,List.forIn_cons,List.forIn_nil];refine Ac (Ac (wpAny_onRaise ?_));show wpAny _ _ (Builtin.SmallTypes.nextOf (.ref i) >>= _) _ _ _;refine Ac (QM (ei.extBut h.extBut D.i1z) (tp.extBut h.extBut D.l1z) hx λab i2 l=>Al ?_);have U:IsPair ab o u v:=l.extBut _ _ D.TOi1 (h.extBut _ _ D.TOz eo);refine Ac (Fa U rfl (Ac (wpAny_updateSeq_pair U λae N r=>Ac (wpAny_letGo (Al ?_)))));replace N:IsPair ae o x v:=N;refine Ac (Ac (wpAny_onRaise ?_));show wpAny _ _ (Builtin.SmallTypes.nextOf (.ref j) >>= _) _ _ _;refine Ac (QM (((ej.extBut h.extBut D.i2z).extBut l.extBut D.i12.symm).extBut r.extBut D.TOi2.symm) (((tq.extBut h.extBut D.l2z).extBut l.extBut D.l2i1).extBut r.extBut D.l2TO) hy λg4 j4 C=>Al ?_);have V:IsPair g4 o x v:=C.extBut _ _ D.TOi2 N;refine Ac (Fa V rfl (Ac (wpAny_updateSeq_pair V λb H F=>Ac (wpAny_letGo (Al (Al ?_))))));replace H:IsPair b o x y:=H;refine Ac (Fa H rfl (Ac (wpAny_newTuple ?_)));have sz:b.objs.size=s.heap.objs.size:=(by rw[F.1,C.1,r.1,l.1,h.1]);have W:IsZip b z a o .ellipsis:=F.extBut _ _ D.TOz.symm (C.extBut _ _ D.i2z.symm (r.extBut _ _ D.TOz.symm (l.extBut _ _ D.i1z.symm M)));have k5:∀c d,c≠z->c≠o->c≠i->c≠j->s.heap.get? c=some d->b.get? c=some d:=λc d I J O P e=>F.extBut _ _ J (C.extBut _ _ P (r.extBut _ _ J (l.extBut _ _ O (h.extBut _ _ I e))));have i5:b.IsTupleIter i p (k+1):=((i2.extBut r.extBut D.TOi1.symm).extBut C.extBut D.i12).extBut F.extBut D.TOi1.symm;have j5:b.IsTupleIter j q (m+1):=j4.extBut F.extBut D.TOi2.symm;have X:z<b.objs.size:=AI W;show wpAny _ _ (Builtin.SmallTypes.ownedTupleHandOut (.ref z) (.ref b.objs.size) >>= _) _ _ _;refine Ac ?_;unfold Builtin.SmallTypes.ownedTupleHandOut;have z6:IsZip (b.push {cls:=.type "tuple",data:=.seq #[x,y]}) z a o .ellipsis:=AR _ W;refine Ac (wpAny_setField_rec z6 (by simp) λg7 R S=>?_);replace R:IsZip g7 z a o (rawInt b.objs.size):=R;refine wpAny_setField_rec R (by simp) λG K T=>?_;replace K:IsZip G z a o (rawInt b.objs.size):=K;have L:∀c d,c≠z->b.get? c=some d->G.get? c=some d:=λc d n e=>T.extBut _ _ n (S.extBut _ _ n (AR _ e));have Y:IsPair G b.objs.size x y:=T.extBut _ _ (Nat.ne_of_gt X) (S.extBut _ _ (Nat.ne_of_gt X) (BG _ rfl));have Z:G.objs.size=b.objs.size+1:=(by rw[T.1,S.1,q9]);rw[sz] at K Y Z;refine Al ⟨_,rfl,?_⟩;show Q (.ref b.objs.size) _;rw[sz];obtain⟨oi,e1,e2⟩:=i5;obtain⟨oj,af,ag⟩:=j5;exact ah G K (L _ _ D.TOz H) ⟨oi,L _ _ D.i1z e1,e2⟩ ⟨oj,L _ _ D.i2z af,ag⟩ Y Z λc d I J O P e=>L c d I (k5 c d I J O P e)
def WT{a i j:Addr}{k:Nat}{xs:L'}{v:Value}{Q:PySem.Fin->Shared->Prop}(J:A.handled=none)(D:ZipApart z a o i j p q)(r:IsZip s.heap z a o .none)(U:IsPair s.heap a (.ref i) (.ref j))(V:IsPair s.heap o u v)
 (K:s.heap.IsTupleIter i p k) (W:s.heap.IsTupleIter j q m) (L:s.heap.IsTuple p xs) (X:s.heap.IsTuple q ys) (aa:xs[k]?=none\/ys[m]?=none)
 (T:∀g e,(∀c d,c≠z->c≠o->c≠i->c≠j->s.heap.get? c=some d->g.get? c=some d)->(∃d,g.get? e=some d/\d.cls=.type "StopIteration")->E (.ref e) {s with heap:=g}) :
 wpAny (model prog w) A (Builtin.«zip.__next__» ⟨[.ref z],[]⟩) Q E s:=by
 show wpAny _ _ (field (.ref z) 2 >>= _) _ _ _;refine Ac (wpAny_field r rfl (x:=.bool false) rfl ?_);show wpAny _ _ (field (.ref z) 3 >>= _) _ _ _;refine Ac (wpAny_field r rfl (x:=.ref a) rfl (Ac (Fa U rfl ?_)));show wpAny _ _ (Builtin.SmallTypes.ownedTupleIsFree (.ref z) >>= _) _ _ _;refine Ac ?_;unfold Builtin.SmallTypes.ownedTupleIsFree;refine Ac (wpAny_field r rfl (x:=.none) rfl (Al ?_));simp only[if_true];refine Ac (D9 (Ac (wpAny_field r rfl (x:=.ref o) rfl (Ac (wpAny_setField_rec r (by simp) λY C b=>?_)))));replace C:IsZip Y z a o .ellipsis:=C;refine Ac ?_;simp only[List.zipIdx_cons,List.zipIdx_nil,List.forIn_cons,List.forIn_nil];refine Ac (Ac (wpAny_onRaise ?_));show wpAny _ _ (Builtin.SmallTypes.nextOf (.ref i) >>= _) _ _ _
 cases F:xs[k]? with
 |none=>
  refine Ac (TR J (K.extBut b.extBut D.i1z) (L.extBut b.extBut D.l1z) F λG e f H=>?_);obtain⟨d,l,y⟩:=H;have M:IsZip G z a o .ellipsis:=f _ _ D.i1z.symm C;have ne:e≠z:=λt=>by subst t;rw[M] at l;cases l;simp at y
  exact wpAny_setField_rec M (by simp) λN _ n=>T N e (λc d B _ I _ t=>n.extBut _ _ B (f _ _ I (b.extBut _ _ B t))) ⟨d,n.extBut _ _ ne l,y⟩
 |some x=>
  have Z:ys[m]?=none:=(by rcases aa with h|h;rw[F] at h;cases h;exact h);refine Ac (QM (K.extBut b.extBut D.i1z) (L.extBut b.extBut D.l1z) F λG i2 f=>Al ?_);have O:IsPair G o u v:=f.extBut _ _ D.TOi1 (b.extBut _ _ D.TOz V);refine Ac (Fa O rfl (Ac (wpAny_updateSeq_pair O λN o3 n=>Ac (wpAny_letGo (Al ?_)))));refine Ac (Ac (wpAny_onRaise ?_));show wpAny _ _ (Builtin.SmallTypes.nextOf (.ref j) >>= _) _ _ _;refine Ac (TR J (((W.extBut b.extBut D.i2z).extBut f.extBut D.i12.symm).extBut n.extBut D.TOi2.symm) (((X.extBut b.extBut D.l2z).extBut f.extBut D.l2i1).extBut n.extBut D.l2TO) Z λg4 e P H=>?_);obtain⟨d,l,y⟩:=H;have R:IsZip g4 z a o .ellipsis:=P _ _ D.i2z.symm (n.extBut _ _ D.TOz.symm (f.extBut _ _ D.i1z.symm C));have ne:e≠z:=λt=>by subst t;rw[R] at l;cases l;simp at y
  exact wpAny_setField_rec R (by simp) λg5 _ S=>T g5 e (λc d B n2 I n4 t=>S.extBut _ _ B (P _ _ n4 (n.extBut _ _ n2 (f.extBut _ _ I (b.extBut _ _ B t))))) ⟨d,S.extBut _ _ ne l,y⟩
theorem WU{a i j:Addr}{k:Nat}{xs:L'}{x y v:Value}{Q:J'->Shared->Prop}(D:ZipApart z a o i j p q)(b:IsZip s.heap z a o .none)(f:IsPair s.heap a (.ref i) (.ref j))(h:IsPair s.heap o u v)
 (l:s.heap.IsTupleIter i p k) (n:s.heap.IsTupleIter j q m) (r:s.heap.IsTuple p xs) (t:s.heap.IsTuple q ys) (B:xs[k]?=some x) (C:ys[m]?=some y)
 (N:∀g,IsZip g z a o (rawInt s.heap.objs.size)->IsPair g o x y->g.IsTupleIter i p (k+1)->g.IsTupleIter j q (m+1)->IsPair g s.heap.objs.size x y->g.objs.size=s.heap.objs.size+1->(∀c d,c≠z->c≠o->c≠i->c≠j->s.heap.get? c=some d->g.get? c=some d)->Q (some (.ref s.heap.objs.size)) {s with heap:=g}):wpAny (model prog w) A (pyNext (.ref z)) Q E s:=by
 have e:s.TypeIs (.ref z) "zip" :=⟨_,b,rfl⟩;unfold pyNext;exact Ac (wpAny_attempt (wpAny_callSpecial?_slot (name:=Str.ofString "__next__") e F.slot_zip_next (wpAny_call_entry F.slot_zip_next e F.entry_zip_next (WS D b f h l n r t B C λg G H I J K L M=>Al (N g G H I J K L M)) (F.args_zip_next_1 _))))
theorem WV{a i j:Addr}{k:Nat}{xs:L'}{v:Value}{Q:J'->Shared->Prop}(l:A.handled=none)(D:ZipApart z a o i j p q)(f:IsZip s.heap z a o .none)(n:IsPair s.heap a (.ref i) (.ref j))(r:IsPair s.heap o u v)
 (t:s.heap.IsTupleIter i p k) (x:s.heap.IsTupleIter j q m) (y:s.heap.IsTuple p xs) (B:s.heap.IsTuple q ys) (K:xs[k]?=none\/ys[m]?=none)
 (J:∀g,(∀c d,c≠z->c≠o->c≠i->c≠j->s.heap.get? c=some d->g.get? c=some d)->Q none {s with heap:=g}):wpAny (model prog w) A (pyNext (.ref z)) Q E s:=by
 have h:s.TypeIs (.ref z) "zip" :=⟨_,f,rfl⟩;unfold pyNext;refine Ac (wpAny_attempt (wpAny_callSpecial?_slot (name:=Str.ofString "__next__") h F.slot_zip_next (wpAny_call_entry F.slot_zip_next h F.entry_zip_next (WT l D f n r t x y B K λg e C G=>?_) (F.args_zip_next_1 _))));obtain⟨d,H,I⟩:=G;exact Ac (wpAny_isInstance (T:= "StopIteration") (b:=true) ⟨d,H,I⟩ isSubtype_stop (Al (J _ C)))
end
abbrev OD (h:Heap) (p:Addr):Heap:=h.push {cls:=.type "tuple_iterator",data:=.fields #[.ref p,.int 0 0]}
abbrev OE (h:Heap) (p q:Addr):Heap:=(OD h p).push {cls:=.type "tuple_iterator",data:=.fields #[.ref q,.int 0 0]}
abbrev OF (h:Heap) (p q:Addr):Heap:=(OE h p q).push {cls:=.type "tuple",data:=.seq #[.ref h.objs.size,.ref (OD h p).objs.size]}
abbrev OG (h:Heap) (p q:Addr):Heap:=(OF h p q).push {cls:=.type "tuple",data:=.seq #[.none,.none]}
abbrev KS (h:Heap) (p q:Addr):Heap:=(OG h p q).push {cls:=.type "zip",data:=.fields #[.none,.bool false,.bool false,.ref (OE h p q).objs.size,.ref (OF h p q).objs.size]}
def WW(p q:Addr)(xs a:L'):Meets (Builtin.«zip.__new__» ⟨[.type "zip",.ref p,.ref q],[]⟩) (λ_ R s=>s.heap.IsTuple p xs/\s.heap.IsTuple q a/\R (.ok (.ret (.ref (OG s.heap p q).objs.size))) {s with heap:=KS s.heap p q}):=
 .of_wp λj w A R s h=>by
  obtain⟨b,g,d,L,os⟩:=s;obtain⟨c,e,h⟩:=h;have k:=sub_zip;have f:Heap.IsTuple (Shared.heap ⟨b,g,d,L,os⟩) p xs:=c;have i:Heap.IsTuple (Shared.heap ⟨b.push {cls:=.type "tuple_iterator",data:=.fields #[.ref p,.int 0 0]},g,d,L,os⟩) q a:=Heap.IsTuple.push e _
  wp_walk using wpAny_pyIter_tuple f,wpAny_pyIter_tuple i
  exact⟨_,rfl,h⟩
variable {w:World}
theorem WX{prog:Program}{A:Around}{E:B'}{s:Shared}{q:Addr}{xs j:L'}{Q:B'}(n:s.heap.IsTuple p xs)(r:s.heap.IsTuple q j)
 (h:∀g,IsZip g (s.heap.objs.size+4) (s.heap.objs.size+2) (s.heap.objs.size+3) .none->IsPair g (s.heap.objs.size+2) (.ref s.heap.objs.size) (.ref (s.heap.objs.size+1))->IsPair g (s.heap.objs.size+3) .none .none->g.IsTupleIter s.heap.objs.size p 0->g.IsTupleIter (s.heap.objs.size+1) q 0->g.objs.size=s.heap.objs.size+5->(∀c o,s.heap.get? c=some o->g.get? c=some o)->Q (.ref (s.heap.objs.size+4)) {s with heap:=g}) :
 wpAny (model prog w) A (call (.type "zip") [.ref p,.ref q]) Q E s:=by
 refine callType_new F.called_zip (by decide) (F.typeCall_zip_2 _ _) (F.newCall_zip_2 _ _) (λv=>F.args_object_init_3 v _ _) F.entry_zip_new (WW p q xs j) ⟨n,r,?_⟩;have a:(OD s.heap p).objs.size=s.heap.objs.size+1:=q9 ..;have b:(OE s.heap p q).objs.size=s.heap.objs.size+2:=(by rw[q9,a]);have d:(OF s.heap p q).objs.size=s.heap.objs.size+3:=(by rw[q9,b]);have f:(OG s.heap p q).objs.size=s.heap.objs.size+4:=(by rw[q9,d]);have t:(KS s.heap p q).objs.size=s.heap.objs.size+5:=(by rw[q9,f]);have i:(KS s.heap p q).get? (OG s.heap p q).objs.size=some _:=BG _ rfl;have k:(KS s.heap p q).get? (OF s.heap p q).objs.size=some _:=AR _ (BG _ rfl);have l:(KS s.heap p q).get? (OE s.heap p q).objs.size=some _:=AR _ (AR _ (BG _ rfl));have m:(KS s.heap p q).get? (OD s.heap p).objs.size=some _:=AR _ (AR _ (AR _ (BG _ rfl)));have u:(KS s.heap p q).get? s.heap.objs.size=some _:=AR _ (AR _ (AR _ (AR _ (BG _ rfl))));show _/\_;rw[b,d,f] at i;rw[a,b] at l;rw[d] at k;rw[a] at m;rw[f];exact⟨⟨_,i,rfl⟩,h _ i l k ⟨_,u,rfl,rfl⟩ ⟨_,m,rfl,rfl⟩ t λc o e=>AR _ (AR _ (AR _ (AR _ (AR _ e))))⟩
def GX (K:Ah) (l1 l2:Addr):It:=
 ⟨λi H=>∃xs ys x y,AB K H l1 xs/\AB K H l2 ys/\xs[i]?=some x/\ys[i]?=some y,
  λi H v H'=>∃T x y,H T=none/\v=.ref T/\H'=upd H T (.tup [x,y])/\(∀xs,AB K H l1 xs->xs[i]?=some x)/\∀ys,AB K H l2 ys->ys[i]?=some y,
  λi H=>∃xs ys,AB K H l1 xs/\AB K H l2 ys/\(xs.length<=i\/ys.length<=i)⟩
def Ny (z TI TO i1 i2 l1 l2:Addr) (i:Nat) (h:Heap):Prop:=IsZip h z TI TO .none/\IsPair h TI (.ref i1) (.ref i2)/\(∃a b,IsPair h TO a b)/\h.IsTupleIter i1 l1 i/\h.IsTupleIter i2 l2 i
variable {P:Program}{es:M'}{G:Pos}
theorem WY{K:Ah}{k:Nat}{z TI TO g h l1 l2:Addr}(D:ZipApart z TI TO g h l1 l2) :
 Ep P w K (.Tuple es k G) (GX K l1 l2) [z,TI,TO,g,h] z (Ny z TI TO g h l1 l2) where
 mem:=by simp
 obj:=λi aa C b d=>by obtain⟨E,F,⟨a,c,L⟩,⟨o1,e1,c1,d1⟩,⟨o2,e2,c2,d2⟩⟩:=C;simp at d;rcases d with rfl|rfl|rfl|rfl|rfl;exact⟨_,E,λv q=>by cases q⟩;exact⟨_,F,λv q=>by cases q⟩;exact⟨_,L,λv q=>by cases q⟩;exact⟨_,e1,λv q=>by rw[d1] at q;cases q⟩;exact⟨_,e2,λv q=>by rw[d2] at q;cases q⟩
 keep:=λi aa h' C S=>by obtain⟨E,F,⟨a,c,L⟩,M,N⟩:=C;exact⟨S z (by simp) _ E,S TI (by simp) _ F,⟨a,c,S TO (by simp) _ L⟩,M.at λo e=>S g (by simp) o e,N.at λo e=>S h (by simp) o e⟩
 item:=by
  intro X hP hw hK A i ai s σ H al I B C hg;subst hP hw hK;obtain⟨xs,ys,x,y,Y,Z,hx,hy⟩:=hg;obtain⟨E,F,⟨a,c,L⟩,M,N⟩:=C;obtain⟨az,ae,p1,an⟩:=I.tuple Y;obtain⟨a0,af,p2,ao⟩:=I.tuple Z;obtain⟨U,aq,ar⟩:=ae.get hx;obtain⟨V,au,av⟩:=af.get hy;refine WU D E F L M N p1 p2 (x:=U) (y:=V) (by simpa using aq) (by simpa using au) λh' a1 a2 a3 a4 a5 a6 J=>?_;refine⟨_,rfl,wpAny_letOwnedTupleGo_zip (s:={s with heap:=h'}) a1 λT a7 R=>?_⟩;have l:=B z (by simp);have t:=B TO (by simp);have p:=B g (by simp);have r:=B h (by simp);have G9:∀b u,H b=some u->b≠z/\b≠TO/\b≠g/\b≠h:=λb u e=>⟨AM e l.1,AM e t.1,AM e p.1,AM e r.1⟩;have keep:∀b o,b≠z->b≠TO->b≠g->b≠h->s.heap.get? b=some o->T.get? b=some o:=λb o W n2 n3 n4 e=>(R.2 b W).trans (J b o W n2 n3 n4 e);have f:∀{b:Addr},b∉[z,TO,g,h]->b≠z/\b≠TO/\b≠g/\b≠h:=λ{b}d=>by simpa using d
  have I1:Inv X ai σ H {s with heap:=T}:=by
   refine I.step (g':=s.gens) (t':=s.toks) (d':=s.drawn) (h':=T) (ch:=[z,TO,g,h]) (λb d=>?_) (λb j _ _ d e _=>keep b j (f d).1 (f d).2.1 (f d).2.2.1 (f d).2.2.2 e) (λb j _ _ d e _=>⟨j.slots,keep b j (f d).1 (f d).2.1 (f d).2.2.1 (f d).2.2.2 e⟩)
    (λ_ _ _ _ n=>n) (λb j d e=>⟨j,keep b j (f d).1 (f d).2.1 (f d).2.2.1 (f d).2.2.2 e⟩) (λ_ _ e=>e) (λ_ _ _ e=>e) (λb ps e=>⟨#[],by rw[e];simp⟩) (λm hm=>?_) (λb u e=>?_) I.bare
   have:b=z\/b=TO\/b=g\/b=h:=(by simpa using d);rcases this with rfl|rfl|rfl|rfl;exact⟨l.2.2.2.1,l.2.1,l.2.2.2.2.1,l.2.2.2.2.2⟩;exact⟨t.2.2.2.1,t.2.1,t.2.2.2.2.1,t.2.2.2.2.2⟩;exact⟨p.2.2.2.1,p.2.1,p.2.2.2.2.1,p.2.2.2.2.2⟩;exact⟨r.2.2.2.1,r.2.1,r.2.2.2.2.1,r.2.2.2.2.2⟩;obtain⟨o,es,ep,ho,ab⟩:=hm;exact⟨o,es,ep,keep _ o (Ne.symm l.2.1) (Ne.symm t.2.1) (Ne.symm p.2.1) (Ne.symm r.2.1) ho,ab⟩;refine(I.hok b u e).stay (λc v A q=>?_) (λ_ q=>q) λ_ _ q=>q;have ag:∃O,H c=some O:=(by rcases A with rfl|A;exact⟨_,e⟩;exact⟨_,A⟩);obtain⟨O,Q⟩:=ag;obtain⟨W,n2,n3,n4⟩:=G9 c O Q;exact keep c v W n2 n3 n4 q
  have aw:s.heap.objs.size≠z:=Nat.ne_of_gt (AI E);have aj:H s.heap.objs.size=none:=I.hok.fresh (Aw _);have ak:T.get? s.heap.objs.size=some {cls:=.type "tuple",data:=.seq #[U,V]}:=(R.2 _ aw).trans a5;have I2:Inv X ai σ (upd H s.heap.objs.size (.tup [x,y])) {s with heap:=T}:=(by refine I1.track (I.fpOk (Aw _) aj) ⟨_,ak⟩ ?_;exact⟨by show 2<=sizeLine;decide,[U,V],.cons ar (.cons av .nil),⟨_,ak,rfl,_,rfl⟩⟩);refine⟨.ref s.heap.objs.size,_,I2,rfl,⟨s.heap.objs.size,x,y,aj,rfl,rfl,λzs ah=>by rw[I.tuple_inj ah Y];exact hx,λzs ah=>by rw[I.tuple_inj ah Z];exact hy⟩,?_,λb d=>?_⟩;refine⟨a7,R.extBut _ _ D.TIz (J _ _ D.TIz D.TITO D.TIi1 D.TIi2 F),⟨U,V,R.extBut _ _ D.TOz a2⟩,a3.extBut R.extBut D.i1z,a4.extBut R.extBut D.i2z⟩;have ax:=(B b d).1;rw[Ax (λq=>?_)];exact ax;have ay:b=z\/b=TI\/b=TO\/b=g\/b=h:=(by simpa using d);obtain⟨o1,e1,_⟩:=M;obtain⟨o2,e2,_⟩:=N;have lt:b<s.heap.objs.size:=(by rcases ay with rfl|rfl|rfl|rfl|rfl;exact AI E;exact AI F;exact AI L;exact AI e1;exact AI e2);rw[q] at lt;exact absurd lt (D7 _)
 done:=by
  intro X hP hw hK A i ai s σ H al I B C hg;subst hP hw hK;obtain⟨xs,ys,Y,Z,aA⟩:=hg;obtain⟨E,F,⟨a,c,L⟩,M,N⟩:=C;obtain⟨az,ae,p1,an⟩:=I.tuple Y;obtain⟨a0,af,p2,ao⟩:=I.tuple Z;have a8:=ae.length;have a9:=af.length;refine WV (I.ok.hd A) D E F L M N p1 p2 (by simp;omega) λh' J=>⟨rfl,?_⟩;have l:=B z (by simp);have t:=B TO (by simp);have p:=B g (by simp);have r:=B h (by simp);have f:∀{b:Addr},b∉[z,TO,g,h]->b≠z/\b≠TO/\b≠g/\b≠h:=λ{b}d=>by simpa using d
  refine I.step (g':=s.gens) (t':=s.toks) (d':=s.drawn) (h':=h') (ch:=[z,TO,g,h]) (λb d=>?_) (λb j _ _ d e _=>J b j (f d).1 (f d).2.1 (f d).2.2.1 (f d).2.2.2 e) (λb j _ _ d e _=>⟨j.slots,J b j (f d).1 (f d).2.1 (f d).2.2.1 (f d).2.2.2 e⟩)
   (λ_ _ _ _ n=>n) (λb j d e=>⟨j,J b j (f d).1 (f d).2.1 (f d).2.2.1 (f d).2.2.2 e⟩) (λ_ _ e=>e) (λ_ _ _ e=>e) (λb ps e=>⟨#[],by rw[e];simp⟩) (λm hm=>?_) (λb u e=>?_) I.bare
  have:b=z\/b=TO\/b=g\/b=h:=(by simpa using d);rcases this with rfl|rfl|rfl|rfl;exact⟨l.2.2.2.1,l.2.1,l.2.2.2.2.1,l.2.2.2.2.2⟩;exact⟨t.2.2.2.1,t.2.1,t.2.2.2.2.1,t.2.2.2.2.2⟩;exact⟨p.2.2.2.1,p.2.1,p.2.2.2.2.1,p.2.2.2.2.2⟩;exact⟨r.2.2.2.1,r.2.1,r.2.2.2.2.1,r.2.2.2.2.2⟩;obtain⟨o,es,ep,ho,ab⟩:=hm;exact⟨o,es,ep,J _ o (Ne.symm l.2.1) (Ne.symm t.2.1) (Ne.symm p.2.1) (Ne.symm r.2.1) ho,ab⟩;refine(I.hok b u e).stay (λc v A q=>?_) (λ_ q=>q) λ_ _ q=>q;have ag:∃O,H c=some O:=(by rcases A with rfl|A;exact⟨_,e⟩;exact⟨_,A⟩);obtain⟨O,Q⟩:=ag;exact J c v (AM Q l.1) (AM Q t.1) (AM Q p.1) (AM Q r.1) q
 self:=λ_ _ _ _ _ C aa=>wpAny_pyIter_zip C.1 aa
def NA (K:Ah) (B:TA):TI:=λσ H R=>B σ H λvs Y=>∃l1 l2,vs=[.ref l1,.ref l2]/\(((∃xs,Ag K Y l1 xs)/\(∃ys,Ag K Y l2 ys)/\R (MV K l1 l2) Y)\/((∃xs,AB K Y l1 xs)/\(∃ys,AB K Y l2 ys)/\R (GX K l1 l2) Y))
def Ix{k:Nat}{c:Pos}{a b:Expr}{B:TA}{p:Pos}(J:Gl X "zip")(K:X.mg "zip" = none)(L:PA X [a,b] B)(M:starEach [a,b] X.env=[(false,eval a X.env),(false,eval b X.env)]:=by rfl)(F:starEach [b] X.env=[(false,eval b X.env)]:=by rfl) :
 PI X (.Tuple es k c) (.Call (.Name "zip" p) [a,b] [] G) (NA X.K B):=by
 intro ae s σ H ah I h;refine Call_ (IT I J K (u:=.type "zip") (by decide +kernel) (PyProof.Rows.callWith_type1 (AG (L G ae s σ H _ I h) λus d⟨vs,Y,f,N,O⟩=>?_) (by rw[M,F]) (by rw[F];rfl)));obtain⟨m,n,rfl,P⟩:=O;obtain⟨Q,R,rfl,T,U⟩:=He N;obtain rfl:Q=Value.ref m:=T;obtain rfl:R=Value.ref n:=U;rcases P with⟨⟨xs,x⟩,⟨S,y⟩,q⟩|⟨⟨xs,x⟩,⟨S,y⟩,q⟩;obtain⟨af,V,g,W⟩:=f.list x;obtain⟨ag,Z,i,aa⟩:=f.list y;have o:m<d.heap.objs.size:=by obtain⟨_,e,_⟩:=g.isList;exact AI e
 have r:n<d.heap.objs.size:=by obtain⟨_,e,_⟩:=i.isList;exact AI e
 refine call_zip_2 g.isList i.isList λt j z A C D ab v=>?_;refine wpAny_pyIter_zip (s:={d with heap:=t}) j ?_;refine⟨_,[d.heap.objs.size+4,d.heap.objs.size+2,d.heap.objs.size+3,d.heap.objs.size,d.heap.objs.size+1],_,_,Y,rfl,f.kept (t':=d.toks) v,U9 (zipApart_new o r),⟨j,z,⟨_,_,A⟩,C,D⟩,λb w=>?_,q⟩;have l:d.heap.objs.size<=b:=(by have E:b=d.heap.objs.size+4\/b=d.heap.objs.size+2\/b=d.heap.objs.size+3\/b=d.heap.objs.size\/b=d.heap.objs.size+1:=(by simpa using w);rcases E with rfl|rfl|rfl|rfl|rfl;exact Nat.le_add_right _ _;exact Nat.le_add_right _ _;exact Nat.le_add_right _ _;exact Aw _;exact Nat.le_add_right _ _);exact f.fpOk l (f.hok.fresh l);obtain⟨af,V,g,W⟩:=f.tuple x;obtain⟨ag,Z,i,aa⟩:=f.tuple y;have o:m<d.heap.objs.size:=by obtain⟨_,e,_⟩:=g;exact AI e
 have r:n<d.heap.objs.size:=by obtain⟨_,e,_⟩:=i;exact AI e
 refine WX g i λt j z A C D ab v=>?_;refine wpAny_pyIter_zip (s:={d with heap:=t}) j ?_;refine⟨_,[d.heap.objs.size+4,d.heap.objs.size+2,d.heap.objs.size+3,d.heap.objs.size,d.heap.objs.size+1],_,_,Y,rfl,f.kept (t':=d.toks) v,WY (zipApart_new o r),⟨j,z,⟨_,_,A⟩,C,D⟩,λb w=>?_,q⟩;have l:d.heap.objs.size<=b:=(by have E:b=d.heap.objs.size+4\/b=d.heap.objs.size+2\/b=d.heap.objs.size+3\/b=d.heap.objs.size\/b=d.heap.objs.size+1:=(by simpa using w);rcases E with rfl|rfl|rfl|rfl|rfl;exact Nat.le_add_right _ _;exact Nat.le_add_right _ _;exact Nat.le_add_right _ _;exact Aw _;exact Nat.le_add_right _ _);exact f.fpOk l (f.hok.fresh l)
variable {N ps:G'}
def EW.okE{K:Ah}{d:Str->J'}{base:Heap}{b:Str}{st:Stmt}{T f:Addr}{e:FuncData}{k:Nat}{sp:Sp}(F:EW K x b st T f e)(S:Ae N ps (Ar st))(i:∀vs H Q E,sp vs H Q E->vs.length=ps.length)
 (m:∀(a:Value)(A:Around)(c:List Env)(s:Shared)(H:Hp)(vs:R')(Q:VK)(E:XK),Bc k (A.deeper (envOfC b (Ar st) s.heap.objs.size f a))->sp vs H Q E ->
  ∃t,DR (Au (Fi P w) P w K d base N b (Ar st) f a A c s H E) (A0 st) t/\t {nx:=λ_ H'=>Q .non H',rt:=Q} (EM N vs) H):Cg P w K d base (Fi P w) (k+1) f e ps sp:=by
 obtain⟨n,o,kV,u,p,q,a,r,v,rfl,g,j⟩:=F.ex;exact Gp g j S i λA c s H vs Q E h l=>m a A c s H vs Q E h l
def OH (P:Program) (w:World) (K:Ah) (mg:Str->J') (base:Heap) (x:Str) (k:Nat) (ps:G') (c:R') (sp:Sp):Prop:=
 ∃f fd ds,Cg P w K mg base (Fi P w) k f fd ps sp/\mg x=some (.ref f)/\PySem.W.keepIn K (.ref f)=true/\Am c ds/\Binds K fd ps ds
section
variable {X:Cx} {x y:Str} {k:Nat} {ps:G'} {c:R'} {sp:Sp} {e:Expr} {es:M'} {t:TA} {p G:Pos} {E:XK}
def Am.cat{xs c:R'}{d e:E'}(h:Am xs d)(k:Am c e):Am (xs++c) (d++e):=by
 induction h with|nil=>exact k|cons a b f=>exact .cons a f
def NB (K:Ah) (g:Addr) (i j:Nat) (sp:Sp) (t:TA) (ts:Addr->TS):TS:=λD σ H=>t σ H λvs Y=>sp vs Y (λv U=>D.nx (σ.set j (some v)) U) λcls dd U=>∃C,cls=.ref C/\GL K C/\subIn K C g=true /\
 ∀a,U a=none->ts a {nx:=λσ' H'=>D.nx (σ'.set i none) H',rt:=D.rt} (σ.set i (some (.ref a))) (upd U a (Ef a C dd))
def WZ{n z:Str}{m:Pos}{O aq l M:Pos}{o:Stmt}{N:List Stmt}{g:Addr}{u:Addr->TS}(C:OH X.prog X.w X.K X.mg X.base y k ps c sp)(P:Bc k X.A)(aa:Gl X y)(R:PA X.nox (e::es) t)
 (ab:X.stack=X.env::X.outer) (ae:X.env.frame=some X.env.locals) (S:GN X.K g) (af:Gl X x) (ag:X.mg x=some (.ref g))
 (w:X.N.Nodup) (hi:X.N[i]?=some n) (ah:X.env.scope.names.lookup n=some .local) (T:X.N[j]?=some z) (L:X.env.scope.names.lookup z=some .local) (V:∀a:Addr,DR (X.held (.ref a)) (o::N) (u a)) (ai:(x==f')=false:=by decide) (aj:(y==f')=false:=by decide)
 (W:starEach (e::es) X.env=(false,eval e X.env)::starEach es X.env:=by rfl) (ak:(backTo l (starEach es X.env)).any (·.1)=false:=by rfl) (al:swapsWith (.Call (.Name y p) (e::es) [] l) (some (.Name z m)) M.line X.env=pure false:=by rfl) :
 PS X (.Try [.Assign [.Name z m] (.Call (.Name y p) (e::es) [] l) M] [.ExceptHandler (some (.Name x O)) (some n) (o::N) aq] [] [] G) (NB X.K g i j (λvs H Q E=>sp (vs++c) H Q E) t u):=by
 intro ar s σ H D I h;obtain⟨av,ax,A,F,hm,hk,hd,hb⟩:=C;refine wpAny_Try_except (wpAny_execs_cons (wpAny_Assign_Name ?_ al));refine wpAny_Call_Name_kw (LY I aa hm ?_ aj);refine PySem.W.callWith_K (h₀:=X.base) I.ok.mod.kin hk (Do (R l ar s σ H _ (I.wish _) h) (λf B⟨vs,Y,b,r,q⟩=>⟨b.kIn,?_⟩) λ_ _ z=>False.elim z) W ak;have b:=b.unwish;have J:=Am.cat r hd;have hl:(f++A).length=ps.length:=by rw[<-J.length];exact F.len _ _ _ _ q
 have an:=hb B f b.kIn hl;refine wpAny_call (codeAny_mono (F.run X.A X.stack B Y ⟨f,[]⟩ (f++A) (vs++c) _ _ P b.env0 an J q) λr s' d=>?_)
 cases r with
 |error ev=>obtain⟨a,C,dd,H',rfl,K,ao,C',hc,kC,au,qs⟩:=d;cases hc;exact V7 b ab ae K ao kC S au af ag ai w hi ah (V a) (qs a K.free)
 |ok fl=>
  cases fl with|ret aw=>obtain⟨v,U,I2,rv,Z⟩:=b.after d;exact LX I2 w T (.inl L) rv (λs3 I3=>wpAny_execs_nil (wpAny_execs_nil ⟨_,U,I3,Z⟩)) (.inr L)|next=>exact False.elim d|brk=>exact False.elim d|cont=>exact False.elim d
end
section
variable {K:Ah} {l1 l2:Addr} {xs ys:R'} {k:Nat} {caps:O'} {g:TG} {te:TE} {σ:St} {Y:Hp} {Q:Addr->Hp->Prop}
def W0(f:Nat->V)(G:xs.length<=sizeLine)(H:xs.length=ys.length)(u:Ag K Y l1 xs)(w:Ag K Y l2 ys)
 (z:∀(i:Nat)(x y:V)(T:Addr)(U:Hp)(R:VK),xs[i]?=some x->ys[i]?=some y->U T=none->Ad Y U->(∀a,Ad (upd U T (.tup [x,y])) a->R (f i) a)->g (.ref T) (Cr k caps σ) (upd U T (.tup [x,y])) λσ4 c=>te σ4 c R)
 (hd:∀(U:Hp)(D:Addr),Ad Y U->Y D=none->U D=some (.lst ((List.range xs.length).map f))->Q D U) :
 ∀D,Y D=none->∃W:Nat->Nat->R'->Hp->Prop,(∃m,W 0 m [] (upd Y D (.lst [])))/\∀i m ys U,W i m ys U ->
  ((MV K l1 l2).stop i U/\Q D U)\/((MV K l1 l2).go i U/\∀x a,(MV K l1 l2).yld i U x a->g x (Cr k caps σ) a λσ4 c=>DO σ4 c λb o =>
   if b=true then te σ4 o λy p=>p D=some (.lst ys)/\ys.length<sizeLine/\∃d,d<m/\W (i+1) d (ys++[y]) (upd p D (.lst (ys++[y]))) else ∃d,d<m/\W (i+1) d ys o):=by
 intro D j;refine⟨λi m l U=>m=xs.length-i/\i<=xs.length/\l=(List.range i).map f/\Ad Y U/\U D=some (.lst l),⟨xs.length,rfl,A9 _,rfl,(Ad.refl _).upd j,Aa⟩,?_⟩;rintro i m l U ⟨rfl,I,rfl,h,q⟩;have n:=h.seq u;have Z:=h.seq w;by_cases s:i<xs.length;have ex:=AQ s;have A:=AQ (show i<ys.length by omega);refine .inr ⟨⟨xs,ys,_,_,n,Z,ex,A⟩,λv a B=>?_⟩;obtain⟨T,x,y,r,rfl,rfl,C,E⟩:=B;refine z i x y T U _ (C xs n) (E ys Z) r h λc F=>?_;have t:Ad U c:=(AJ r).trans F;refine⟨t _ _ q,by rw[AD,p9];omega,xs.length-(i+1),by omega,rfl,s,?_,(h.trans t).upd j,Aa⟩;rw[List.range_succ,Cb];rfl;have e:i=xs.length:=(by omega);subst e;exact .inl ⟨⟨xs,ys,n,Z,.inl (Aw _)⟩,hd U D h j q⟩
def W1(f:Nat->V)(G:xs.length<=sizeLine)(H:xs.length=ys.length)(u:AB K Y l1 xs)(w:AB K Y l2 ys)
 (z:∀(i:Nat)(x y:V)(T:Addr)(U:Hp)(R:VK),xs[i]?=some x->ys[i]?=some y->U T=none->Ad Y U->(∀a,Ad (upd U T (.tup [x,y])) a->R (f i) a)->g (.ref T) (Cr k caps σ) (upd U T (.tup [x,y])) λσ4 c=>te σ4 c R)
 (hd:∀(U:Hp)(D:Addr),Ad Y U->Y D=none->U D=some (.lst ((List.range xs.length).map f))->Q D U) :
 ∀D,Y D=none->∃W:Nat->Nat->R'->Hp->Prop,(∃m,W 0 m [] (upd Y D (.lst [])))/\∀i m ys U,W i m ys U ->
  ((GX K l1 l2).stop i U/\Q D U)\/((GX K l1 l2).go i U/\∀x a,(GX K l1 l2).yld i U x a->g x (Cr k caps σ) a λσ4 c=>DO σ4 c λb o =>
   if b=true then te σ4 o λy p=>p D=some (.lst ys)/\ys.length<sizeLine/\∃d,d<m/\W (i+1) d (ys++[y]) (upd p D (.lst (ys++[y]))) else ∃d,d<m/\W (i+1) d ys o):=by
 intro D j;refine⟨λi m l U=>m=xs.length-i/\i<=xs.length/\l=(List.range i).map f/\Ad Y U/\U D=some (.lst l),⟨xs.length,rfl,A9 _,rfl,(Ad.refl _).upd j,Aa⟩,?_⟩;rintro i m l U ⟨rfl,I,rfl,h,q⟩;have n:=h.seqT u;have Z:=h.seqT w;by_cases s:i<xs.length;have ex:=AQ s;have A:=AQ (show i<ys.length by omega);refine .inr ⟨⟨xs,ys,_,_,n,Z,ex,A⟩,λv a B=>?_⟩;obtain⟨T,x,y,r,rfl,rfl,C,E⟩:=B;refine z i x y T U _ (C xs n) (E ys Z) r h λc F=>?_;have t:Ad U c:=(AJ r).trans F;refine⟨t _ _ q,by rw[AD,p9];omega,xs.length-(i+1),by omega,rfl,s,?_,(h.trans t).upd j,Aa⟩;rw[List.range_succ,Cb];rfl;have e:i=xs.length:=(by omega);subst e;exact .inl ⟨⟨xs,ys,n,Z,.inl (Aw _)⟩,hd U D h j q⟩
end
inductive Es (K:Ah) (H:Hp):Nat->V->V->Bool->Prop
 |str (n:Nat) (x y:Str):Es K H (n+1) (.str x) (.str y) (decide (x=y))
 |int (n:Nat) (i j:Int):Es K H (n+1) (.int i) (.int j) (decide (i=j))
 |tup {n:Nat} {p q:Addr} {xs ys:R'} {f:Nat->Bool} (h1:AB K H p xs) (h2:AB K H q ys) (hl:xs.length=ys.length) (hn:xs.length<=100) (h:∀i x y,xs[i]?=some x->ys[i]?=some y->Es K H n x y (f i)):Es K H (n+1) (.ref p) (.ref q) (((List.range xs.length).map f).all id)
 |lst {n:Nat} {p q:Addr} {xs ys:R'} {f:Nat->Bool} (h1:Ag K H p xs) (h2:Ag K H q ys) (hl:xs.length=ys.length) (hn:xs.length<=100) (h:∀i x y,xs[i]?=some x->ys[i]?=some y->Es K H n x y (f i)):Es K H (n+1) (.ref p) (.ref q) (((List.range xs.length).map f).all id)
 |lstN {n:Nat} {p q:Addr} {xs ys:R'} (h1:Ag K H p xs) (h2:Ag K H q ys) (hl:xs.length≠ys.length):Es K H (n+1) (.ref p) (.ref q) false
def Es.same{K:Ah}(s:Ad H H'){x y:V}{b:Bool}(h:Es K H n x y b):Es K H' n x y b:=by
 induction h with|str n x y=>exact .str n x y|int n i j=>exact .int n i j|tup a c d e _ f=>exact .tup (s.seqT a) (s.seqT c) d e f|lst a c d e _ f=>exact .lst (s.seq a) (s.seq c) d e f|lstN a c d=>exact .lstN (s.seq a) (s.seq c) d
def W6:entryFor table "proto.unchain" = some Builtin.«proto.unchain»:=entryFor_of_fast (by kernel_rfl)
section
variable {prog:Program} {w:World} {A:Around} {E:B'} {s:Shared}
def W7{α:Type}{a e:Addr}{o l:Obj}{vs b:L'}{Q:α->Shared->Prop}(c:A.handled=some (.ref a))(d:s.heap.get? a=some o)(hd:o.data=.fields vs)(f:vs[2]?=some .none)(ne:a≠e)
 (g:s.heap.get? e=some l) (i:l.data=.fields b) (hz:2<b.size) (h:E (.ref e) {s with heap:=s.heap.update e (Obj.mapFields (·.setIfInBounds 2 (.ref a)))}):wpAny (model prog w) A (raiseNew (α:=α) (.ref e)) Q E s:=by
 simp only[raiseNew];refine Ac (wpAny_handled ?_);rw[c];dsimp only;rw[Ap (show(Value.ref a != Value.ref e)=true from by simp[ne])];refine Ac (C1 (wpAny_runValue (codeAny_builtin W6 ?_)));unfold Builtin.«proto.unchain»;dsimp only;refine Ac (wpAny_field d hd f ?_);rw[Ap (by decide)];refine Al ?_;refine Ac ?_;show wpAny (model prog w) A (setField (.ref e) 2 (.ref a)) _ E s;exact wpAny_setField g i hz (wpAny_throw h)
theorem W8{c a:Addr}{x left step:Int}{o:Obj}{vs:L'}{Q:J'->Shared->Prop}(j:A.handled=some (.ref a))(k:s.heap.get? a=some o)(hd:o.data=.fields vs)(l:vs[2]?=some .none)(d:IsRangeIter s.heap c x left step)(q:left<=0)
 (n:∀h',Heap.ExtBut c s.heap h'->Q none {s with heap:=h'}):wpAny (model prog w) A (pyNext (.ref c)) Q E s:=by
 have f:s.TypeIs (.ref c) "range_iterator" :=⟨_,d,rfl⟩;unfold pyNext
 refine Ac (wpAny_attempt (wpAny_callSpecial?_slot (name:=Str.ofString "__next__") f F.slot_range_iterator_next
  (wpAny_call_entry F.slot_range_iterator_next f F.entry_range_iterator_next ?_ (F.args_range_iterator_next_1 _))))
 show wpAny _ _ (field (.ref c) 0 >>= _) _ _ s;refine Ac (wpAny_field d rfl (x:=rawInt x) rfl ?_);show wpAny _ _ (field (.ref c) 1 >>= _) _ _ s;refine Ac (wpAny_field d rfl (x:=rawInt left) rfl ?_);show wpAny _ _ (field (.ref c) 2 >>= _) _ _ s;refine Ac (wpAny_field d rfl (x:=rawInt step) rfl ?_);show wpAny _ _ (if left<=0 then _ else _) _ _ s;rw[Ap q];refine Ac (D9 ?_);refine Ac ?_;show wpAny _ _ (newExc (.type "StopIteration") [] >>= _) _ _ _;refine Ac ?_;simp only[newExc,newTuple];refine Ac (wpAny_newObj_type ?_ (by size_fits));refine Ac (m:=firstArgMember _ _) (wpAny_of_eq (a:=Value.none) (by first|rfl|(simp only[firstArgMember];rfl)) ?_);refine wpAny_newObj_type ?_ (by size_fits);have g:=AR {cls:=.type "tuple",dict:=none,data:=.seq ([]:E').toArray} k;have lt:=AI g;have h:=BG (s.heap.push {cls:=.type "tuple",dict:=none,data:=.seq ([]:E').toArray}) (o:={cls:=.type "StopIteration",dict:=none,data:=.fields (#[.ref s.heap.objs.size,.none,.none,.none,.bool false,.none]++ownMembersOf (.type "StopIteration") [])}) rfl;refine W7 (show A.in1.handled=some (.ref a) from j) (AR _ g) hd l (Bu lt) h rfl (by show 2<6;decide) ?_;have p:=r9 (Obj.mapFields (·.setIfInBounds 2 (Value.ref a))) h (Obj.isFreed_of_fields (Obj.data_mapFields rfl _));refine Ac (wpAny_isInstance (T:= "StopIteration") (b:=true) ⟨_,p,rfl⟩ isSubtype_stop ?_);refine Al (n _ λb r t e=>?_);have i:=AR {cls:=.type "tuple",dict:=none,data:=.seq ([]:E').toArray} e;exact(Heap.get?_update_other _ _ (Ne.symm (Bu (AI i)))).trans (AR _ i)
end
def FN (a:Addr) (lo:Int) (n:Nat):It:=⟨λi _=>i<n,λi H x H'=>H'=H/\x=.int (lo+i),λi H=>n<=i/\∃C dd,H a=some (Ef a C dd)⟩
def W9{K:Ah}{tg:Expr}(a c:Addr)(lo:Int)(n:Nat):Fc (λX=>X.A.handled=some (.ref a)) P w K tg (FN a lo n) [c] c (λi h=>IsRangeIter h c (lo+(i:Nat)*1) ((n:Int)-(i:Nat)) 1) where
 mem:=(MD (P:=P) (w:=w) (K:=K) (tg:=tg) c lo n).mem
 obj:=(MD (P:=P) (w:=w) (K:=K) (tg:=tg) c lo n).obj
 keep:=(MD (P:=P) (w:=w) (K:=K) (tg:=tg) c lo n).keep
 self:=(MD (P:=P) (w:=w) (K:=K) (tg:=tg) c lo n).self
 item:=by
  intro X j k m y i A s σ H E I f p q;subst j k m;obtain⟨r,t,B,u,v,x⟩:=f c (by simp);have D:i<n:=q;refine wpAny_pyNext_range_item p (by omega) λg Q F=>?_;have G:Inv X A σ H {s with heap:=g,toks:=s.toks+1}:=I.turned (λb o d e=>(F.2 b d).trans e) r t u v x;have z:IsRangeIter g c (lo+((i+1:Nat):Int)*1) ((n:Int)-((i+1:Nat):Int)) 1:=(by rw[show lo+((i+1:Nat):Int)*1=lo+(i:Int)*1+1 by omega,show(n:Int)-((i+1:Nat):Int)=(n:Int)-(i:Int)-1 by omega];exact Q);refine⟨_,rfl,MC (s:={s with heap:=g,toks:=s.toks+1}) (n:= "range_iterator") z rfl rfl (by decide) ⟨.int (lo+i),H,G,⟨s.toks,?_⟩,⟨rfl,rfl⟩,z,λb d=>(f b d).1⟩⟩;rw[Int.mul_one]
 done:=by intro X j k m y i A s σ H E I f p q;subst j k m;obtain⟨r,t,B,u,v,x⟩:=f c (by simp);obtain⟨D,C,R,J⟩:=q;obtain⟨⟨l,S,L,_,_,M,N⟩,_,_⟩:=I.hok a _ J;exact W8 y L M N p (by omega) λg O=>⟨rfl,I.turned (t':=s.toks) (λb o d e=>O b o d e) r t u v x⟩
def NC (a:Addr) (B:TA):TI:=λσ H R=>B σ H λvs Y=>∃j:Int,vs=[.int j]/\-(2 ^ 62)<=j/\j<2 ^ 62/\R (FN a 0 j.toNat) Y
section
variable {X:Cx} {tg:Expr}
def Xa{a:Addr}{pins:A'}{s:Shared}{R:It->Hp->Prop}{E:B'}{lo hi:Int}{t u v:Tok}{L:Nat}(I:Inv X pins σ H s)(i:-(2 ^ 62)<=lo)(j:lo<2 ^ 62)(k:-(2 ^ 62)<=hi)(l:hi<2 ^ 62)
 (q:R (FN a lo (hi-lo).toNat) H):wpAny (model X.prog X.w) X.A (pyIter (.ref s.heap.objs.size)) (λr d=>∃(f:Addr)(g:F')(h:Nat->Heap->Prop)(J:It)(H':Hp),r=.ref f/\Inv X pins σ H' d/\Fc (λX=>X.A.handled=some (.ref a)) X.prog X.w X.K tg J g f h/\h 0 d.heap/\(∀b∈g,CV X pins H' b)/\R J H') E
  {s with heap:=s.heap.push {cls:=.type "range",data:=.fields #[.int lo t,.int hi u,.int 1 v]},toks:=L}:=by
 refine wpAny_pyIter_range (IsRange.new ..) (small_one i j k l) ?_;have c:Inv X pins σ H {s with heap:=s.heap.push {cls:=.type "range",data:=.fields #[.int lo t,.int hi u,.int 1 v]},toks:=L}:=I.kept λb o e=>AR _ e
 refine⟨(s.heap.push {cls:=.type "range",data:=.fields #[.int lo t,.int hi u,.int 1 v]}).objs.size,[(s.heap.push {cls:=.type "range",data:=.fields #[.int lo t,.int hi u,.int 1 v]}).objs.size],_,_,H,rfl,
  c.kept (t':=L) λb o e=>AR _ e,W9 a _ lo (hi-lo).toNat,?_,λb m=>?_,q⟩
 have n:lo+((0:Nat):Int)*1=lo:=(by simp);have p:(((hi-lo).toNat:Nat):Int)-((0:Nat):Int)=Builtin.Range.rangeSize lo hi 1:=by rw[rangeSize_one];split<;>omega
 show IsRangeIter _ _ (lo+((0:Nat):Int)*1) ((((hi-lo).toNat:Nat):Int)-((0:Nat):Int)) 1;rw[n,p];exact BG _ rfl;have e:b=(s.heap.push {cls:=.type "range",data:=.fields #[.int lo t,.int hi u,.int 1 v]}).objs.size:=(by simpa using m);subst e;exact c.fpOk (Aw _) (c.hok.fresh (Aw _))
def Xb{a:Addr}{l d:Expr}{f:M'}{scope:Scope}{p v:Pos}{k:Nat}{w:O'}{B:TA}{g:TG}{tc:TT}{te:TE}(F:X.A.handled=some (.ref a))(S:Ai X.env.scope X.N scope N k w)(ab:Gl X "range")(K:X.mg "range" = none)(L:PA X [d] B)
 (M:∀n C s H ex,PG (Dh X N scope n C s H ex) tg g) (O:∀n C s H ex,PF (Dh X N scope n C s H ex) f tc) (P:∀n C s H ex,PE (Dh X N scope n C s H ex) l te)
 (hs:∀x,foldedSetIterable (.Call (.Name "range" p) [d] [] v) X.env x=pure x:=by intro _;rfl) (ae:starEach [d] X.env=[(false,eval d X.env)]:=by rfl):PE X (.ListComp l [⟨tg,.Call (.Name "range" p) [d] [] v,f,0⟩] scope G) (N4 k w (NC a B) g tc te):=by
 intro aj s σ H Q I h;have af:closureFor scope X.env=pure (Er X.env scope.names []):=Qc λx hx ag=>I.ok.has x.1 (S.free x hx ag);rw[eval_ListComp];refine wpAny_comprehension_free (use:=none) rfl hs af S.kind S.loc (Call_ (IT I ab K boot_range (PyProof.Rows.callWith_type1 (AG (L v aj s σ H _ I h) λus s1⟨vs,Y,I1,r1,u⟩=>?_) ae rfl)));obtain⟨j,e,u,Z,q⟩:=u;subst e
 cases r1 with
 |cons r rr=>
  cases rr;obtain⟨t,rfl⟩:=r
  refine call_range_1 (AG (Xa (a:=a) (tg:=tg) (R:=λJ Y=>∀D,Y D=none->∃W:Nat->Nat->R'->Hp->Prop,(∃m,W 0 m [] (upd Y D (.lst [])))/\∀i m c U,W i m c U ->
   (J.stop i U/\Q (.ref D) U)\/(J.go i U/\∀x z,J.yld i U x z->g x (Cr k w σ) z λσ4 H4=>tc σ4 H4 λb A =>
    if b=true then te σ4 A λy E=>E D=some (.lst c)/\c.length<sizeLine/\∃o,o<m/\W (i+1) o (c++[y]) (upd E D (.lst (c++[y]))) else ∃o,o<m/\W (i+1) o c A)) I1 (by omega) (by omega) u Z (by simpa using q)) λak s2 h2=>?_)
  obtain⟨it,fp,tn,J,U,e,I2,T,ah,aa,q⟩:=h2;subst e;refine Qf (Q:=Q) (λ_ _ _ _ _=>F) S I2 T ah aa M O P q ?_;intro D C H' s' m _ _ hn hI _ _ hq;exact⟨m,hn,λh' ai=>⟨.ref D,H',hI h' ai,rfl,hq⟩⟩
end
abbrev QN (CX:FA) (P:Program) (w:World) (K:Ah) (mg:Str->J') (base:Heap) (N:G') (qual:Str) (scope:Scope) (f:Addr) (B:Value) (A:Around) (outer:List Env) (s:Shared) (H:Hp) (E:XK):Cx:={Au CX P w K mg base N qual scope f B A outer s H E with calm:=false}
def GY (P:Program) (w:World) (K:Ah) (mg:Str->J') (base:Heap) (f:Addr) (fd:FuncData) (ps:G') (sp:J'->Sp):Prop:=
 (∀hv vs H Q E,sp hv vs H Q E->vs.length=ps.length) /\
 ∀(A:Around)(outer:List Env)(s:Shared)(H:Hp)(args:Args)(us:E')(vs:R')(Q:VK)(E:XK),A.depth<recursionLimit->Go P w K mg base A outer s H->BindsTo s fd args (ps.zip us)->Am vs us->sp A.handled vs H Q E ->
  codeAny (model P w) A (.call (.ref f) args) (CR EQ outer P w H s Q E) s
def A4.okH{K:Ah}{j:Str->J'}{base:Heap}{k:Str}{st:Stmt}{f:Addr}{B:FuncData}{sp:J'->Sp}(F:A4 K x k st f B)(S:Ae N ps (Ar st))(D:∀hv vs H Q E,sp hv vs H Q E->vs.length=ps.length)
 (ae:∀(h:Value)(A:Around)(d:List Env)(s:Shared)(H:Hp)(vs:R')(Q:VK)(E:XK),sp A.handled vs H Q E ->
  ∃t,DR (QN EQ P w K j base N k (Ar st) f h A d s H E) (A0 st) t/\t {nx:=λ_ H'=>Q .non H',rt:=Q} (EM N vs) H):GY P w K j base f B ps sp:=by
 obtain⟨oc,od,kV,ah,ag,an,h,ct,ai,rfl,M,aa⟩:=F.ex;generalize aj:Ar st=i at *;generalize ak:A0 st=body at *;refine⟨D,λA d s H ao O vs Q E R a T r G=>?_⟩;have U:=D _ _ _ _ _ G;have C:K.In s.heap:=a.mod.kin.keeps λb o e=>(a.bs b o e).1;have ab:s.heap.NoLimit:=a.mod.nolimit.keeps λb o e=>(a.bs b o e).1
 have af:∀y∈ps.zip O,i.names.lookup y.1=some .local\/(i.names.lookup y.1=some .cell/\((cellsFrom (s.heap.objs.size+1) i.names []).lookup y.1).isSome=true):=λ⟨n,v⟩W=>by
  rcases S.par n (List.of_mem_zip W).1 with q|q;exact .inl q;exact .inr ⟨q,PySem.W.cellsFrom_some _ _ _ (.inl q)⟩
 refine codeAny_call_function R (C _ _ M) rfl S.co S.gen rfl (PySem.W.codeRec_of C aa) (T _ _ _ _ ?_);refine wpAny_newFunctionEnv_cells S.kind af λal X l x=>?_;subst X;refine⟨ab.keeps x.toInCall.keep,codeAny_func ?_⟩;obtain⟨t,Y,Z⟩:=ae h A d s H vs Q E G;have c:Inv (Au EQ P w K j base N k i f h {A with handled:=none} d s H E) [] (EM N vs) H l:=RP S rfl ⟨a.frames,a.mod,a.bs,a.bsz,a.funs,a.frf,a.hok,a.bare⟩ U r x;have ok:=c.ok;have I:Inv (QN EQ P w K j base N k i f h A d s H E) [] (EM N vs) H l:=⟨⟨ok.mod,ok.kind,ok.glob,ok.blt,ok.above,ok.inj,ok.has,ok.cab,λz=>(by cases z),Around.frames_deeper a.frames,ok.stk,ok.exf,ok.bs,ok.bsz,ok.noex,ok.exfs,ok.funs,ok.frf⟩,c.os,c.bare,c.base,c.loc,c.cell,c.free,c.freeC,c.pin,c.hok,c.len⟩;refine Do (Y [] l (EM N vs) H _ I Z) (λfl m g=>?_) λe m g=>g
 have L:∀{σ':St}{H':Hp}{v:V}{u:Value},Inv (QN EQ P w K j base N k i f h A d s H E) [] σ' H' m->RelV v u->Q v H'->CE d P w H s Q u m:=
  λ{σ' H' v u}J p q=>⟨v,H',J.os,J.bare,J.base,J.hok,p,q⟩
 cases fl with|ret u=>obtain⟨v,σ',H',J,p,q⟩:=g;exact L J p q|next=>obtain⟨σ',H',J,q⟩:=g;exact L (v:=V.non) (u:=Value.none) J rfl q|brk=>obtain⟨_,_,_,q⟩:=g;exact False.elim q|cont=>obtain⟨_,_,_,q⟩:=g;exact False.elim q
def OI (P:Program) (w:World) (K:Ah) (mg:Str->J') (base:Heap) (x:Str) (ps:G') (sp:J'->Sp):Prop:=
 ∃f fd,GY P w K mg base f fd ps sp/\mg x=some (.ref f)/\PySem.W.keepIn K (.ref f)=true/\Binds K fd ps []
def KU{sp:J'->Sp}{e:Expr}{t:TA}{p:Pos}(C:OI X.prog X.w X.K X.mg X.base x ps sp)(i:PA X (e::es) t){k:Nat}{B:Around}(j:Bc k B)(l:B.depth=X.A.depth:=by rfl)(m:Gl X x:=by rfl)(D:(x==f')=false:=by decide)
 (n:starEach (e::es) X.env=(false,eval e X.env)::starEach es X.env:=by rfl) (E:(backTo G (starEach es X.env)).any (·.1)=false:=by rfl):PE X (.Call (.Name x p) (e::es) [] G) (NY (sp X.A.handled) [] E0 t):=by
 obtain⟨f,K,F,o,v,w⟩:=C;intro J s σ H Q I h;refine wpAny_Call_Name_kw (LY I m o ?_ D);refine PySem.W.callWith_K (h₀:=X.base) I.ok.mod.kin v (AG (i G J s σ H _ I h) λb d⟨y,Y,c,r,q⟩=>⟨c.kIn,?_⟩) n E;dsimp only at q;rw[EF] at q;have z:b.length=ps.length:=by rw[<-r.length];exact F.1 _ _ _ _ _ q
 have g:=w d b c.kIn (by rw[EF];exact z);rw[EF] at g;refine wpAny_call (codeAny_mono (F.2 X.A X.stack d Y ⟨b,[]⟩ b y Q _ (l▸j.depth) c.env0 g r q) λr L a=>?_)
 cases r with
 |error e=>exact False.elim a
 |ok A=>
  cases A with|ret u=>exact c.after a|next=>exact False.elim a|brk=>exact False.elim a|cont=>exact False.elim a
def Xc{a:Addr}{k:Nat}{p:O'}{g:TG}{tc:TT}{te:TE}{Y:Hp}{Q:Addr->Hp->Prop}{lo:Int}(Pv:Addr->Nat->R'->Hp->Prop)
 (s:∀D,Y D=none->Pv D 0 [] (upd Y D (.lst [])))
 (t:∀(D:Addr)(i:Nat)(c:R')(U:Hp)(R:VK)(l:Hp->Prop),Y D=none->i<n->Pv D i c U->(∀y e,e D=some (.lst c)->c.length<sizeLine->Pv D (i+1) (c++[y]) (upd e D (.lst (c++[y])))->R y e)->(∀d,Pv D (i+1) c d->l d)->g (.int (lo+(i:Int))) (Cr k p σ) U λσ4 j=>tc σ4 j λb d=>if b=true then te σ4 d R else l d)
 (hd:∀D c U,Y D=none->Pv D n c U->(∃C dd,U a=some (Ef a C dd))/\Q D U) :
 ∀D,Y D=none->∃W:Nat->Nat->R'->Hp->Prop,(∃m,W 0 m [] (upd Y D (.lst [])))/\∀i m c U,W i m c U ->
  ((FN a lo n).stop i U/\Q D U)\/((FN a lo n).go i U/\∀x o,(FN a lo n).yld i U x o->g x (Cr k p σ) o λσ4 j=>tc σ4 j λb d =>
   if b=true then te σ4 d λy e=>e D=some (.lst c)/\c.length<sizeLine/\∃f,f<m/\W (i+1) f (c++[y]) (upd e D (.lst (c++[y]))) else ∃f,f<m/\W (i+1) f c d):=λD u=>by
 obtain⟨W,M,h⟩:=No (lo:=lo) (Q:=λD U=>(∃C dd,U a=some (Ef a C dd))/\Q D U) Pv s t hd D u;refine⟨W,M,λi m c U w=>?_⟩;rcases h i m c U w with⟨st,x,q⟩|r;exact .inl ⟨⟨st,x⟩,q⟩;exact .inr r
section
variable {β γ:Type}
theorem QO{P:β->Prop}{f:β->List β}{g:γ->List γ}{m:β->γ}{b:β}(a:P b)(c:∀x,P x->∀y∈f x,P y)(h:∀x,P x->(f x).map m=g (m x)):∀k,(AV f b k).map m=AV g (m b) k
 |0=>rfl
 |k+1=>by
   show(AV f b k++_).map m=AV g (m b) k++_;rw[Cb,QO a c h k,<-QO a c h k,BP];cases e:(AV f b k)[k]? with|none=>rfl|some x=>show _++(f x).map m=_++g (m x);rw[h x (Mi a c k x (Ei e))]
theorem GZ{f:β->List β}{b:β}:∀k,(∀j,j<k->j<(AV f b j).length)->AV f b k=b::((AV f b k).take k).flatMap f
 |0,_=>rfl
 |k+1,h=>by
   have a:=h k (Lj k);have c:=GZ k λj d=>h j (Nat.lt_succ_of_lt d);rw[GP a,List.take_append_of_le_length (by omega),List.take_succ_eq_append_getElem a,List.flatMap_append,<-List.cons_append,<-c];simp
def Iy(f:β->List β)(b:β):∃k,C3 f b k:=by
 have l:∀n j,j+n=201->(∀i,i<j->i<(AV f b i).length/\(AV f b i).length<=200)->∃k,C3 f b k:=by
  intro n
  induction n with
  |zero=>intro j d h;have:=h 200 (by omega);omega
  |succ n g=>
   intro j d h;by_cases c:j<(AV f b j).length/\(AV f b j).length<=200
   exact g (j+1) (by omega) λi a=>by
    by_cases e:i=j;rw[e];exact c;exact h i (by omega)
   exact⟨j,Wc h c⟩
 exact l 201 0 rfl λi a=>absurd a (Nat.not_lt_zero _)
end
def Di (r:O') (v:Nat):O':=List.replicate (r.getD v 0) (v+1)
theorem TU(r:O')(v:Nat):∀L:O',(L.flatMap (Di r)).count (v+1)=r.getD v 0*L.count v
 |[]=>by simp
 |x::L=>by rw[List.flatMap_cons,List.count_append,TU r v L,List.count_cons,Nat.mul_add];unfold Di;rw[List.count_replicate];by_cases e:x=v;subst e;simp;omega;rw[An (by simpa using e),An (by simpa using e)];simp
theorem TV(r:O'):∀L:O',(L.flatMap (Di r)).count 0=0
 |[]=>rfl
 |x::L=>by rw[List.flatMap_cons,List.count_append,TV r L];unfold Di;rw[List.count_replicate,An (by simp)]
theorem TW:∀L:O',(∀x∈L,x<5)->L.length=L.count 0+L.count 1+L.count 2+L.count 3+L.count 4
 |[],_=>rfl
 |x::L,h=>by have a:=TW L λy b=>h y (Dc _ b);have c:=h x (CH ..);have:x=0\/x=1\/x=2\/x=3\/x=4:=(by omega);rw[Ej,a];rcases this with rfl|rfl|rfl|rfl|rfl<;>simp[List.count_cons]<;>omega
def Xd{c k:Nat}{N:O'}(m:N=0::(N.take k).flatMap (Di [a,b,c,d]))(n:∀x∈N,x<5):N.length<=1+a+a*b+a*b*c+a*b*c*d/\(N.length<=k->N.length=1+a+a*b+a*b*c+a*b*c*d/\N.count 4=a*b*c*d/\N.count 0=1):=by
 have l:N.count 0=1:=by rw[m,List.count_cons,TV];rfl
 have f:∀v,N.count (v+1)=[a,b,c,d].getD v 0*(N.take k).count v:=λv=>by
  have e:N.count (v+1)=(0::(N.take k).flatMap (Di [a,b,c,d])).count (v+1):=De _ m;rw[e,List.count_cons,TU,An (by simp)];rfl
 have le:∀v,(N.take k).count v<=N.count v:=λv=>(List.take_sublist _ _).count_le _;have r:=TW N n;have g:N.count 1=a*(N.take k).count 0:=f 0;have h:N.count 2=b*(N.take k).count 1:=f 1;have i:N.count 3=c*(N.take k).count 2:=f 2;have j:N.count 4=d*(N.take k).count 3:=f 3;constructor;have o:N.count 1<=a:=by rw[g];exact Dm (Nat.mul_le_mul_left a (le 0)) (by rw[l];simp)
 have Z:N.count 2<=a*b:=by rw[h,Nat.mul_comm a b];exact Nat.mul_le_mul_left b (Dm (le 1) o)
 have p:N.count 3<=a*b*c:=by rw[i,Nat.mul_comm (a*b) c];exact Nat.mul_le_mul_left c (Dm (le 2) Z)
 have s:N.count 4<=a*b*c*d:=by rw[j,Nat.mul_comm (a*b*c) d];exact Nat.mul_le_mul_left d (Dm (le 3) p)
 omega;intro q;rw[List.take_of_length_le q] at g h i j;rw[l,Nat.mul_one] at g;rw[g,Nat.mul_comm] at h;rw[h,Nat.mul_comm] at i;rw[i,Nat.mul_comm] at j;exact⟨by omega,j,l⟩
def AU (lab:Str) (r:O') (v:Nat):List (Str×Nat):=List.replicate (r.getD v 0) (lab,v+1)
def Iz (r:O') (b:B9):Prop:=b.2<=r.length/\∀x∈CF b,x<=b.2
theorem TX(lab:Str)(v:Nat):∀(n i:Nat),Cs lab i (List.replicate n (lab,v))=(List.range n).map λj=>(i+j,v)
 |0,_=>rfl
 |n+1,i=>by
   rw[List.replicate_succ];show(if lab=lab then(i,v)::Cs lab (i+1) (List.replicate n (lab,v)) else _)=_;rw[Ap rfl,TX lab v n (i+1),List.range_succ_eq_map,D1,Dl];congr 1;exact List.map_congr_left λj _=>by simp;omega
variable {lab:Str}{r:O'}
def OJ{b:B9}(h:Iz r b):AA lab (AU lab r) b=(List.range (r.getD b.2 0)).map λj=>(b.1++[(b.2,j)],b.2+1):=by
 unfold AA AU;rw[TX,List.filter_eq_self.mpr,Dl];exact List.map_congr_left λj _=>by simp
 intro x a;obtain⟨j,_,rfl⟩:=CU.mp a;refine B2 λz=>?_;have:b.2+1<=b.2:=h.2 _ z;omega
def QP{b:B9}(h:Iz r b):∀y∈AA lab (AU lab r) b,Iz r y:=by
 intro y d;rw[OJ h] at d;obtain⟨j,e,rfl⟩:=CU.mp d;have f:b.2<r.length:=(by by_cases c:b.2<r.length;exact c;rw[A7,FZ (by omega)] at e;simp at e);refine⟨f,λx a=>?_⟩;simp only[CF,Cb,D1,Mr,E5,CG,BL,List.not_mem_nil,or_false] at a;have:=h.2;simp only[CF,CG,BL,List.not_mem_nil,or_false] at this;show x<=b.2+1;rcases a with a|rfl|rfl;have:=this x (.inl a);omega;omega;omega
def IA{b:B9}(h:Iz r b):(AA lab (AU lab r) b).map (·.2)=Di r b.2:=by rw[OJ h,Dl];unfold Di;rw[List.eq_replicate_iff];refine⟨by simp,λx a=>?_⟩;obtain⟨j,_,rfl⟩:=CU.mp a;rfl
def QQ{v:Nat}(h:v<=r.length):Iz r ([],v):=⟨h,λx a=>by simp[CF] at a;omega⟩
def Xe{c k:Nat}(s:C3 (AA lab (AU lab [a,b,c,d])) ([],0) k) :
 (200<(AV (AA lab (AU lab [a,b,c,d])) ([],0) k).length↔200<1+a+a*b+a*b*c+a*b*c*d) /\
 ((AV (AA lab (AU lab [a,b,c,d])) ([],0) k).length<=200->((AV (AA lab (AU lab [a,b,c,d])) ([],0) k).map (·.2)).count 4=a*b*c*d/\((AV (AA lab (AU lab [a,b,c,d])) ([],0) k).map (·.2)).count 0=1):=by
 have p:Iz [a,b,c,d] ([],0):=QQ (A9 _);have z:=Mi p (λx i=>QP (lab:=lab) i) k;have n:=λk=>QO (m:=(·.2)) (g:=Di [a,b,c,d]) p (λx i=>QP (lab:=lab) i) (λx i=>IA i) k;have r:∀k,(AV (AA lab (AU lab [a,b,c,d])) ([],0) k).length=(AV (Di [a,b,c,d]) 0 k).length:=λk=>by rw[<-n k,AD]
 have t:=GZ (f:=Di [a,b,c,d]) (b:=0) k λj u=>by rw[<-r];exact(s.bef j u).1
 have v:∀x∈AV (Di [a,b,c,d]) 0 k,x<5:=λx i=>by
  rw[<-n k] at i;obtain⟨y,w,rfl⟩:=CU.mp i;exact Nat.lt_succ_of_le (z y w).1
 have q:=Xd t v;have o:=s.at_;rw[r] at o ⊢;rw[n k];refine⟨⟨λh=>D8 h q.1,λh=>?_⟩,λh=>?_⟩;rcases o with⟨e,l⟩|l;have:=(q.2 (by omega)).1;omega;exact l;rcases o with⟨e,l⟩|l;exact(q.2 (by omega)).2;omega
def Dw{c:Nat}:C3 (AA lab (AU lab [a,b,c,d])) ([],4) 1/\AV (AA lab (AU lab [a,b,c,d])) ([],4) 1=[([],4)]:=by
 have e:AV (AA lab (AU lab [a,b,c,d])) ([],4) 1=[([],4)]:=(by show[([],4)]++AA lab (AU lab [a,b,c,d]) ([],4)=_;rw[OJ (QQ (Aw 4))];rfl);exact⟨⟨λj f=>by rw[show j=0 by omega];exact⟨Nat.one_pos,by show 1<=200;decide⟩,.inl (by rw[e];exact⟨rfl,by show 1<=200;decide⟩)⟩,e⟩
def Mk(x:Str):¬DJ x x:=λh=>absurd h (List.lt_irrefl _)
theorem TY(nm:Str):∀(l:List (Str×Str×Nat))(j i:Nat),i∈C4 nm j l->∃p,l[i-j]?=some p/\j<=i/\p.2.1=nm
 |[],_,_,h=>absurd h (by simp[C4])
 |q::r,j,i,h=>by
   have h':i∈(if q.2.1=nm then j::C4 nm (j+1) r else C4 nm (j+1) r):=h
   have k:i∈C4 nm (j+1) r->∃p,(q::r)[i-j]?=some p/\j<=i/\p.2.1=nm:=λa=>by
    obtain⟨p,b,d,c⟩:=TY nm r (j+1) i a;refine⟨p,?_,by omega,c⟩;rw[show i-j=i-(j+1)+1 by omega,List.getElem?_cons_succ];exact b
   split at h';rcases BL.mp h' with rfl|a;exact⟨q,by simp,Aw _,by assumption⟩;exact k a;exact k h'
def AE (l1 M C:Str) (l v:Nat):List (Str×Str×Nat):=if v=4 then[(l1,M,0),(l1,M,1)].take l else if v=0/\0<l then[(l1,C,1)] else[]
variable {l1 M C:Str}{l:Nat}
def TZ{v:Nat}{p:Str×Str×Nat}(h:p∈AE l1 M C l v):p.1=l1:=by unfold AE at h;split at h;have:=List.mem_of_mem_take h;simp only[BL,List.not_mem_nil,or_false] at this;rcases this with rfl|rfl<;>rfl;split at h;rw[BY.mp h];cases h
def Jo (T:Nat->List (Str×Str×Nat)) (w:List BE):Nat:=match w.getLast? with
 |some o=>(((T o.1.toNat)[o.2.2.toNat]?).map (·.2.2)).getD 0
 |none=>0
def OK (r:O') (g:Nat) (b:B9):Prop:=b.1.length+g=b.2/\∀m∈b.1,m.1<4/\m.2<r.getD m.1 0
variable {g:Nat}
def IB{b:B9}(i:r.length=4)(h:Iz r b)(m:OK r g b):∀y∈AA lab (AU lab r) b,OK r g y:=by
 intro y e;rw[OJ h] at e;obtain⟨j,a,rfl⟩:=CU.mp e;have a:=List.mem_range.mp a;have f:b.2<4:=(by by_cases c:b.2<r.length;omega;rw[A7,FZ (by omega)] at a;simp at a);refine⟨by have:=m.1;simp only[BF,Ej,EG];omega,λx d=>?_⟩;rcases CG.mp d with d|d;exact m.2 x d;rw[BY.mp d];exact⟨f,a⟩
def KW{k:Nat}(d:r.length=4)(f:g<=4):∀b∈AV (AA lab (AU lab r)) ([],g) k,Iz r b/\OK r g b:=
 Mi (P:=λb=>Iz r b/\OK r g b) ⟨QQ (by omega),⟨by simp,λm e=>absurd e (by simp)⟩⟩ (λ_ a y c=>⟨QP a.1 y c,IB d a.1 a.2 y c⟩) k
def OL (lab l1 M:Str) (g:Nat) (nm:Str) (j:Nat):Str:=if j=(if nm=M then 4-g else 0) then l1 else lab
def T1{k:Nat}(x:r.length=4)(H:g=0\/g=4)(y:M≠C):∀b∈AV (AA lab (AU lab r)) ([],g) k,∀nm,∀w∈Bs (AE l1 M C l) nm b,
 w.length<=5/\Iv (AU lab r) (AE l1 M C l) (OL lab l1 M g nm) w/\FM (AE l1 M C l) w (Jo (AE l1 M C l) w):=by
 intro b z nm w F;obtain⟨A,n⟩:=KW x (by omega) b z;obtain⟨i,G,rfl⟩:=CU.mp F;obtain⟨p,f,_,q⟩:=TY nm _ _ _ G;rw[Nat.sub_zero] at f;have I:b.2<=4:=by have:=A.1;omega
 have s:=Ei f
 have v:b.1.length=(if nm=M then 4-g else 0):=by
  have d:=s;unfold AE at d;have:=n.1;split at d;have t:=List.mem_of_mem_take d;simp only[BL,List.not_mem_nil,or_false] at t;have h:nm=M:=by rw[<-q];rcases t with rfl|rfl<;>rfl
  rw[Ap h];omega;split at d;have h:nm≠M:=by rw[<-q,BY.mp d];exact Ne.symm y
  rw[An h];omega;cases d
 have u:(b.1.map Jn++[((b.2:Int),j',(i:Int))]).getLast?=some ((b.2:Int),j',(i:Int)):=(by simp);refine⟨by simp only[BF,AD,Ej,EG];rw[v];split<;>omega,λj o a=>?_,b.2,i,p,by omega,u,f,?_⟩;unfold OL;rw[<-v];by_cases c:j<b.1.length;rw[An (by omega)];rw[Ew (by simpa using c),BP] at a;obtain⟨m,B,rfl⟩:=Dd.mp a;obtain⟨J,D⟩:=n.2 m (Ei B);refine⟨m.1,m.2,by omega,rfl,rfl,.inl ⟨rfl,(lab,m.1+1),?_,rfl⟩⟩;unfold AU;rw[List.getElem?_replicate,Ap D];rw[D6 (by simpa using c)] at a;have E:j=b.1.length:=(by by_cases e:j=b.1.length;exact e;rw[FZ (by simp;omega)] at a;cases a);subst E;simp only[AD,Nat.sub_self,List.getElem?_cons_zero,Option.some.injEq] at a;rw[Ap rfl,<-a];exact⟨b.2,i,by omega,rfl,rfl,.inr ⟨rfl,p,f,TZ s⟩⟩;unfold Jo;rw[u];show p.2.2=((((AE l1 M C l) ((b.2:Int)).toNat)[((i:Int)).toNat]?).map (·.2.2)).getD 0;rw[E6,E6,f];rfl
def EY (T:Nat->List (Str×Str×Nat)) (nm:Str) (v:Nat):O':=(C4 nm 0 (T v)).map λi=>(((T v)[i]?).map (·.2.2)).getD 0
def ND{T:Nat->List (Str×Str×Nat)}{nm:Str}(L:List B9):(L.flatMap (Bs T nm)).map (Jo T)=(L.map (·.2)).flatMap (EY T nm):=by
 induction L with|nil=>rfl|cons b L a=>rw[List.flatMap_cons,Cb,a,D1,List.flatMap_cons];congr 1;unfold Bs EY;rw[Dl];refine List.map_congr_left λi _=>?_;show Jo T (b.1.map Jn++[((b.2:Int),j',(i:Int))])=_;unfold Jo;rw[show(b.1.map Jn++[((b.2:Int),j',(i:Int))]).getLast?=some ((b.2:Int),j',(i:Int)) by simp];show((((T ((b.2:Int)).toNat))[((i:Int)).toNat]?).map (·.2.2)).getD 0=_;rw[E6,E6]
section
variable {l1 M C:Str} {l:Nat}
def OM(a:M≠C)(v:Nat):EY (AE l1 M C l) M v=if v=4 then[0,1].take l else[]:=by
 unfold EY AE;by_cases c:v=4;rw[Ap c,Ap c]
 match l with
 |0=>rfl
 |1=>simp[C4]
 |n+2=>simp[C4]
 rw[An c,An c];split;simp[C4,Ne.symm a];rfl
def G0(a:M≠C)(v:Nat):EY (AE l1 M C l) C v=if v=0/\0<l then[1] else[]:=by
 unfold EY AE;by_cases c:v=4;rw[Ap c,An (by omega)]
 match l with
 |0=>rfl
 |1=>simp[C4,a]
 |n+2=>simp[C4,a]
 rw[An c];split;simp[C4];rfl
def KX{N:O'}(b:M≠C)(h:0<l)(c:0∈N):BV (N.flatMap (EY (AE l1 M C l) C))=some 1:=by refine Nw (λz=>?_) λx d=>?_;have:=List.flatMap_eq_nil_iff.mp z 0 c;rw[G0 b,Ap ⟨rfl,h⟩] at this;cases this;obtain⟨v,_,a⟩:=List.mem_flatMap.mp d;rw[G0 b] at a;split at a;exact BY.mp a;cases a
def IC{N:O'}(a:M≠C)(b:0∉N):BV (N.flatMap (EY (AE l1 M C l) C))=none:=by rw[List.flatMap_eq_nil_iff.mpr λv c=>by rw[G0 a,An (show ¬(v=0/\0<l) from λz=>b (z.1▸c))]];rfl
def KY{N:O'}(b:M≠C)(c:4∈N):BV (N.flatMap (EY (AE l1 M C 1) M))=some 0:=by refine Nw (λz=>?_) λx d=>?_;have:=List.flatMap_eq_nil_iff.mp z 4 c;rw[OM b,Ap rfl] at this;cases this;obtain⟨v,_,a⟩:=List.mem_flatMap.mp d;rw[OM b] at a;split at a;exact BY.mp a;cases a
def ID{N:O'}(b:M≠C)(h:4∉N\/l=2):BV (N.flatMap (EY (AE l1 M C l) M))=none:=by
 have c:4∉N->BV (N.flatMap (EY (AE l1 M C l) M))=none:=λa=>by
  rw[List.flatMap_eq_nil_iff.mpr λv d=>by rw[OM b,An (show ¬v=4 from λz=>a (z▸d))]];rfl
 by_cases a:4∈N;rcases h with h|rfl;exact absurd a h;have m:∀x∈[0,1],x∈N.flatMap (EY (AE l1 M C 2) M):=λx e=>List.mem_flatMap.mpr ⟨4,a,by rw[OM b,Ap rfl];exact e⟩;exact OC ⟨0,m 0 (by simp),1,m 1 (by simp),by decide⟩;exact c a
def IE{d:G'}(g:M≠C)(c:d.Pairwise DJ)(h:∀y,y∈d↔y=M\/y=C):(d=[M,C]/\DJ M C)\/(d=[C,M]/\DJ C M):=by
 match d,c,h with
 |[],_,h=>exact absurd ((h M).mpr (.inl rfl)) (by simp)
 |[x],_,h=>have a:=BY.mp ((h M).mpr (.inl rfl));have b:=BY.mp ((h C).mpr (.inr rfl));exact absurd (a.trans b.symm) g
 |[x,y],c,h=>have lt:DJ x y:=(List.pairwise_cons.mp c).1 y (by simp);have ne:x≠y:=λz=>Mk y (z▸lt);rcases(h x).mp (by simp) with rfl|rfl<;>rcases(h y).mp (by simp) with rfl|rfl;exact absurd rfl ne;exact .inl ⟨rfl,lt⟩;exact .inr ⟨rfl,lt⟩;exact absurd rfl ne
 |x::y::z::r,c,h=>
  obtain⟨f,i⟩:=List.pairwise_cons.mp c;obtain⟨j,_⟩:=List.pairwise_cons.mp i;have k:x≠y:=λe=>Mk y (e▸f y (by simp));have l:x≠z:=λe=>Mk z (e▸f z (by simp));have m:y≠z:=λe=>Mk z (e▸j z (by simp));rcases(h x).mp (by simp) with rfl|rfl<;>rcases(h y).mp (by simp) with rfl|rfl<;>rcases(h z).mp (by simp) with rfl|rfl<;>first|exact absurd rfl k|exact absurd rfl l|exact absurd rfl m
def Xf(b:0<l)(y:Str):(∃v,v<5/\∃p∈AE l1 M C l v,p.2.1=y)↔y=M\/y=C:=by
 constructor;rintro⟨v,_,p,a,rfl⟩;unfold AE at a;split at a;have:=List.mem_of_mem_take a;simp only[BL,List.not_mem_nil,or_false] at this;rcases this with rfl|rfl<;>exact .inl rfl;split at a;rw[BY.mp a];exact .inr rfl;cases a;rintro(rfl|rfl);refine⟨4,by decide,(l1,y,0),?_,rfl⟩;unfold AE;rw[Ap rfl]
 cases l with
 |zero=>exact absurd b (D7 _)
 |succ n=>rw[List.take_succ_cons];exact CH ..
 exact⟨0,by decide,(l1,y,1),by unfold AE;rw[An (by decide),Ap ⟨rfl,b⟩];exact CH ..,rfl⟩
def Xg(y:Str):¬∃v,v<5/\∃p∈AE l1 M C 0 v,p.2.1=y:=by rintro⟨v,_,p,a,_⟩;unfold AE at a;split at a;cases a;rw[An (by omega)] at a;cases a
end
structure Et (H:Hp) (D:Addr) (us as bs:F') (S:Nat->List (Str×Nat)):Prop where
 la:as.length=us.length
 lb:bs.length=us.length
 u:∀j,j<us.length->H (us.getD j 0)=some (.tup [.ref (as.getD j 0),.ref (bs.getD j 0)])
 s:∀j,j<us.length->∃ts,H (as.getD j 0)=some (.lst (ts.map V.ref))/\DM H ts (S j)
 t:∀j,j<us.length->H (bs.getD j 0)=some (.lst [])
 ne:∀j,j<us.length->as.getD j 0≠D/\bs.getD j 0≠D
 nd:∀j k,j<us.length->k<us.length->as.getD j 0≠bs.getD k 0
 nb:∀j k,j<us.length->k<us.length->j≠k->bs.getD j 0≠bs.getD k 0
variable {S:Nat->List (Str×Nat)}
def Et.nil:Et H D [] [] [] S:=⟨rfl,rfl,λj h=>absurd h (Nat.not_lt_zero _),λj h=>absurd h (Nat.not_lt_zero _),λj h=>absurd h (Nat.not_lt_zero _),λj h=>absurd h (Nat.not_lt_zero _),λj _ h=>absurd h (Nat.not_lt_zero _),λj _ h=>absurd h (Nat.not_lt_zero _)⟩
def Et.same{H H':Hp}{D:Addr}{d f bs:F'}{S:Nat->List (Str×Nat)}(e:Ad H H')(h:Et H D d f bs S):Et H' D d f bs S:=
 ⟨h.la,h.lb,λj c=>e _ _ (h.u j c),λj c=>let ⟨g,a,b⟩:=h.s j c;⟨g,e _ _ a,b.same e⟩,λj c=>e _ _ (h.t j c),h.ne,h.nd,h.nb⟩
def FY(l:F')(x:Addr)(j:Nat):(l++[x]).getD j 0=if j<l.length then l.getD j 0 else if j=l.length then x else 0:=by rw[A7,A7];by_cases c:j<l.length;rw[Ap c,Ew c];rw[An c,D6 (by omega)];by_cases e:j=l.length;rw[Ap e,e,Nat.sub_self];rfl;rw[An e,FZ (by simp;omega)];rfl
variable {us as:F'}
def Et.snoc{u a b:Addr}{bs r:F'}(e:Ad H H')(h:Et H D us as bs S)(na:H a=none)(nb:H b=none)(ab:a≠b)(w:a≠D)(x:b≠D)(y:H' u=some (.tup [.ref a,.ref b]))(z:H' a=some (.lst (r.map V.ref)))(A:DM H' r (S us.length))(B:H' b=some (.lst [])) :
 Et H' D (us++[u]) (as++[a]) (bs++[b]) S:=by
 have s:=h.same e;have t:(us++[u]).length=us.length+1:=(by simp);have C:∀j,j<us.length->(us++[u]).getD j 0=us.getD j 0:=λj f=>by rw[FY,Ap f]
 have m:∀j,j<us.length->(as++[a]).getD j 0=as.getD j 0:=λj f=>by rw[FY,Ap (by rw[h.la];exact f)]
 have g:∀j,j<us.length->(bs++[b]).getD j 0=bs.getD j 0:=λj f=>by rw[FY,Ap (by rw[h.lb];exact f)]
 have E:(us++[u]).getD us.length 0=u:=(by rw[FY,An (D7 _),Ap rfl]);have o:(as++[a]).getD us.length 0=a:=by rw[FY,An (by rw[h.la];exact D7 _),Ap h.la.symm]
 have l:(bs++[b]).getD us.length 0=b:=by rw[FY,An (by rw[h.lb];exact D7 _),Ap h.lb.symm]
 have i:∀j,j<us.length+1->j<us.length\/j=us.length:=λj f=>by omega
 have p:∀j,j<us.length->as.getD j 0≠a/\as.getD j 0≠b/\bs.getD j 0≠a/\bs.getD j 0≠b:=λj f=>by
  obtain⟨_,q,_⟩:=h.s j f;have Z:=h.t j f;exact⟨AM q na,AM q nb,AM Z na,AM Z nb⟩
 refine⟨by simp[h.la],by simp[h.lb],λj f=>?_,λj f=>?_,λj f=>?_,λj f=>?_,λj k f n=>?_,λj k f n v=>?_⟩<;>rw[t] at f;rcases i j f with c|rfl;rw[C j c,m j c,g j c];exact s.u j c;rw[E,o,l];exact y;rcases i j f with c|rfl;rw[m j c];exact s.s j c;rw[o];exact⟨r,z,A⟩;rcases i j f with c|rfl;rw[g j c];exact s.t j c;rw[l];exact B;rcases i j f with c|rfl;rw[m j c,g j c];exact h.ne j c;rw[o,l];exact⟨w,x⟩;rw[t] at n;rcases i j f with c|rfl<;>rcases i k n with d|rfl;rw[m j c,g k d];exact h.nd j k c d;rw[m j c,l];exact(p j c).2.1;rw[o,g k d];exact Ne.symm (p k d).2.2.1;rw[o,l];exact ab;rw[t] at n;rcases i j f with c|rfl<;>rcases i k n with d|rfl;rw[g j c,g k d];exact h.nb j k c d v;rw[g j c,l];exact(p j c).2.2.2;rw[l,g k d];exact Ne.symm (p k d).2.2.2;exact absurd rfl v
def Et.updD{o:HO}{xs:R'}{bs:F'}(d:H D=some (.lst xs))(h:Et H D us as bs S):Et (upd H D o) D us as bs S:=by refine⟨h.la,h.lb,λj c=>?_,λj c=>?_,λj c=>?_,h.ne,h.nd,h.nb⟩;have q:=h.u j c;rw[Ax λz=>by rw[z,d] at q;cases q];exact q;obtain⟨e,a,b⟩:=h.s j c;exact⟨e,by rw[Ax (h.ne j c).1];exact a,b.updL d⟩;rw[Ax (h.ne j c).2];exact h.t j c
def BC{G:Prop}(h:∀N:Prop,(G->N)->N):G:=h G λz=>z
def ON{g:TG}{σ:L2.St}{t:TS}{D:Ends}(h:let N:=D.nx;let C:=D.ct;g v σ H λσ2 U=>t {D with nx:=N,ct:=C} σ2 U):g v σ H (λσ2 U=>t D σ2 U):=h
def Hm{N:L2.St->Hp->Prop}{σ σ':L2.St}(e:σ=σ')(h:N σ' H):N σ H:=e▸h
variable {u:TS}
def IF{t:TS}{D:Ends}{σ:L2.St}(h:∀N,N=u D->t {D with nx:=N} σ H):Fu t u D σ H:=h _ rfl
def EC{t:TS}{D:Ends}{σ:L2.St}{N:L2.St->Hp->Prop}(e:N=Fu t u D)(h:∀a,a=u D->t {D with nx:=a} σ H):N σ H:=by rw[e];exact h _ rfl
def KZ{N M:L2.St->Hp->Prop}{σ:L2.St}(e:N=M)(h:M σ H):N σ H:=e▸h
def OO{t:TS}{D:Ends}{σ:L2.St}{N:L2.St->Hp->Prop}(e:N=Fu t u D)(P:L2.St->Hp->Prop)(b:∀a,a=u D->∀σ' H',P σ' H'->a σ' H')(c:∀a:L2.St->Hp->Prop,(∀σ' H',P σ' H'->a σ' H')->t {D with nx:=a} σ H):N σ H:=by rw[e];exact c (u D) (b _ rfl)
def K0 (H:Hp) (sc:Addr) (S:Nat->List (Str×Nat)) (T:Nat->List (Str×Str×Nat)):Prop:=∃us as bs:F',H sc=some (.lst (us.map V.ref))/\us.length=5/\(∀i,i<5->H (us.getD i 0)=some (.tup [.ref (as.getD i 0),.ref (bs.getD i 0)])) /\
 (∀i,i<5->∃ts,H (as.getD i 0)=some (.lst (ts.map V.ref))/\DM H ts (S i))/\(∀i,i<5->∃ts,H (bs.getD i 0)=some (.lst (ts.map V.ref))/\FL H ts (T i))
def K0.same{H H':Hp}{k:Addr}{S:Nat->List (Str×Nat)}{T:Nat->List (Str×Str×Nat)}(e:Ad H H')(h:K0 H k S T):K0 H' k S T:=
 let ⟨us,as,bs,b,c,d,f,g⟩:=h;⟨us,as,bs,e _ _ b,c,λi a=>e _ _ (d i a),λi a=>let ⟨j,x,y⟩:=f i a;⟨j,e _ _ x,y.same e⟩,λi a=>let ⟨j,x,y⟩:=g i a;⟨j,e _ _ x,y.same e⟩⟩
def T2{c:Nat}(f:a<=8)(g:b<=8)(h:c<=8)(j:d<=8)(hi:i<5):(AU lab [a,b,c,d] i).length<=8/\∀x∈AU lab [a,b,c,d] i,x.2<5:=by
 unfold AU
 refine⟨by rw[q0];match i,hi with
  |0,_=>exact f
  |1,_=>exact g
  |2,_=>exact h
  |3,_=>exact j
  |4,_=>exact A9 _,λx e=>?_⟩
 match i,hi with
 |4,_=>exact absurd e (by simp)
 |0,_|1,_|2,_|3,_=>rw[(List.mem_replicate.mp e).2];show _+1<5;omega
def IG:(AE l1 M C l i).length<=2:=by unfold AE;split;rw[CA];exact Nat.min_le_right _ _;split;show 1<=2;decide;exact A9 _
def K0.net{e j k n:Addr}{c:Nat}(h:K0 H e (AU lab [a,b,c,d]) (AE l1 M C l))(m:a<=8)(o:b<=8)(p:c<=8)(q:d<=8)(s:H n=some (.tup [.ref e,.ref j,.ref k])):BU H n (AU lab [a,b,c,d]) (AE l1 M C l):=
 let ⟨us,as,bs,b,c,d,f,g⟩:=h
 ⟨⟨e,j,k,us,as,bs,s,b,c,d,f,g⟩,λi r=>⟨(T2 m o p q r).1,(T2 m o p q r).2,IG⟩⟩
def FL.nil:FL H [] []:=⟨rfl,λn t p h=>by simp at h⟩
def Et.whole{b d f:Addr}{bs ts0 ts4:F'}(F:r.length=4)(h:us.length=4)(p:as.length=4)(q:bs.length=4)(s:H D=some (.lst ((us++[b]).map V.ref)))
 (t:∀j,j<4->H (us.getD j 0)=some (.tup [.ref (as.getD j 0),.ref (bs.getD j 0)])) (u:∀j,j<4->∃i,H (as.getD j 0)=some (.lst (i.map V.ref))/\DM H i (AU lab r j))
 (v:H (bs.getD 0 0)=some (.lst (ts0.map V.ref))) (T0:FL H ts0 (AE l1 M C l 0)) (w:∀j,j<4->j≠0->H (bs.getD j 0)=some (.lst []))
 (x:H b=some (.tup [.ref d,.ref f])) (y:H d=some (.lst [])) (z:H f=some (.lst (ts4.map V.ref))) (A:FL H ts4 (AE l1 M C l 4)):K0 H D (AU lab r) (AE l1 M C l):=by
 have B:∀j,j<4->(us++[b]).getD j 0=us.getD j 0:=λj a=>by rw[FY,Ap (by omega)]
 have k:∀j,j<4->(as++[d]).getD j 0=as.getD j 0:=λj a=>by rw[FY,Ap (by omega)]
 have m:∀j,j<4->(bs++[f]).getD j 0=bs.getD j 0:=λj a=>by rw[FY,Ap (by omega)]
 have E:(us++[b]).getD 4 0=b:=(by rw[FY,An (by omega),Ap h.symm]);have n:(as++[d]).getD 4 0=d:=(by rw[FY,An (by omega),Ap p.symm]);have o:(bs++[f]).getD 4 0=f:=(by rw[FY,An (by omega),Ap q.symm]);have g:∀j,j<5->j<4\/j=4:=λj a=>by omega
 refine⟨us++[b],as++[d],bs++[f],s,by simp[h],λj a=>?_,λj a=>?_,λj a=>?_⟩;rcases g j a with c|rfl;rw[B j c,k j c,m j c];exact t j c;rw[E,n,o];exact x;rcases g j a with c|rfl;rw[k j c];exact u j c;rw[n];refine⟨[],y,?_⟩;have:AU lab r 4=[]:=by unfold AU;rw[A7,FZ (by omega)];rfl
 rw[this];exact DM.nil;rcases g j a with c|rfl;rw[m j c];by_cases e:j=0;subst e;exact⟨ts0,v,T0⟩;refine⟨[],w j c e,?_⟩;have:AE l1 M C l j=[]:=by unfold AE;rw[An (by omega),An (by omega)]
 rw[this];exact FL.nil;rw[o];exact⟨ts4,z,A⟩
def Xh{c d:Addr}(e:H c=some (.tup [.str l1,.str M,.str "thing",.int 0]))(f:H d=some (.tup [.str l1,.str M,.str "thing",.int 1])):FL H ([c,d].take l) (AE l1 M C l 4):=by
 unfold AE;rw[Ap rfl];refine⟨by rw[CA,CA];rfl,λn t p a b=>?_⟩;rw[List.getElem?_take] at a b;split at a;rw[Ap (by assumption)] at b
 match n,a,b with
 |0,a,b=>cases a;cases b;exact e
 |1,a,b=>cases a;cases b;exact f
 |n+2,a,_=>simp at a
 cases a
def EZ (K:Ah) (H:Hp) (X:Addr) (ks:I'):Prop:=∃zs:List (V×Str×Int),H X=some (.lst (zs.map (·.1)))/\(∀z∈zs,∃t,z.1=.ref t/\AB K H t [.str z.2.1,.int z.2.2])/\zs.map (·.2)=ks
def EZ.same{K:Ah}{X:Addr}{ks:I'}(s:Ad H H')(h:EZ K H X ks):EZ K H' X ks:=
 let ⟨d,a,b,c⟩:=h;⟨d,s _ _ a,λz f=>let ⟨t,e,q⟩:=b z f;⟨t,e,s.seqT q⟩,c⟩
def EZ.nil{K:Ah}{X:Addr}(h:H X=some (.lst [])):EZ K H X []:=⟨[],h,(λ_ h=>by cases h),rfl⟩
def EZ.one{K:Ah}{X t:Addr}{w:Str}{i:Int}(h:H X=some (.lst [.ref t]))(a:H t=some (.tup [.str w,.int i])):EZ K H X [(w,i)]:=⟨[(.ref t,w,i)],h,λz b=>by rw[BY.mp b];exact⟨t,rfl,AB.of a⟩,rfl⟩
abbrev Eg (rs:List (Str×Nat)):I':=rs.map λp=>(p.1,(p.2:Int))
def Xi{K:Ah}{t u:Addr}{i:Int}(e:AB K H t [.str x,.int i])(g:AB K H u [.str x,.int i]):Es K H 3 (.ref t) (.ref u) true:=by
 have A:=Es.tup (K:=K) (n:=2) (f:=λ_=>true) e g rfl (by show 2<=100;decide) λj a b c d=>?_;exact A
 match j,c,d with
 |0,c,d=>cases c;cases d;have:=Es.str (K:=K) (H:=H) 1 x x;rw[B2 rfl] at this;exact this
 |1,c,d=>cases c;cases d;have:=Es.int (K:=K) (H:=H) 1 i i;rw[B2 rfl] at this;exact this
 |n+2,c,_=>simp at c
abbrev G1 (T:Nat->List (Str×Str×Nat)) (N:O') (nms:G'):List (Str×Nat):=nms.filterMap λnm=>(BV (N.flatMap (EY T nm))).map λn=>(nm,n)
def T4{x y:Str×Int}(h:DJ x.1 y.1):(Br Dp FG).kle x y:=by show(Br Dp FG).blt y x=false;have ne:y.1≠x.1:=λz=>Mk x.1 (by rw[z] at h;exact h);rw[Ky _ _ ne];exact BZ λz=>Mk _ (Sx h z)
def T7{N:O'}{a:G'}(b:M≠C)(m:l<3)(i:a.Pairwise DJ)(e:∀y,y∈a↔∃v,v<5/\∃p∈AE l1 M C l v,p.2.1=y) :
 (G1 (AE l1 M C l) N a).length<=2/\(Eg (G1 (AE l1 M C l) N a)).Pairwise (Br Dp FG).kle/\(Eg (G1 (AE l1 M C l) N a)).Perm ((if l=1/\4∈N then[(M,0)] else[])++if 0<l/\0∈N then[(C,1)] else[]):=by
 by_cases j:l=0;subst j;have:a=[]:=List.eq_nil_iff_forall_not_mem.mpr λy k=>Xg y ((e y).mp k);subst this;exact⟨A9 _,.nil,List.Perm.refl _⟩
 . have f:0<l:=by omega
   have g:BV (N.flatMap (EY (AE l1 M C l) M))=if l=1/\4∈N then some 0 else none:=(by by_cases c:l=1/\4∈N;rw[Ap c];obtain⟨rfl,c⟩:=c;exact KY b c;rw[An c];exact ID b (Classical.byCases (λd:4∈N=>.inr (by have:l≠1:=λz=>c ⟨z,d⟩;omega)) λd=>.inl d));have h:BV (N.flatMap (EY (AE l1 M C l) C))=if 0<l/\0∈N then some 1 else none:=(by by_cases c:0<l/\0∈N;rw[Ap c];exact KX b c.1 c.2;rw[An c];exact IC b λz=>c ⟨f,z⟩);rcases IE b i (λy=>(e y).trans (Xf f y)) with⟨rfl,lt⟩|⟨rfl,lt⟩
   . unfold G1 Eg
     rw[Ga,Ga,g,h];by_cases c:l=1/\4∈N<;>by_cases d:0<l/\0∈N<;>first|rw[Ap c,Ap c,Ap d,Ap d]|rw[Ap c,Ap c,An d,An d]|rw[An c,An c,Ap d,Ap d]|rw[An c,An c,An d,An d]
     all_goals first
      |exact⟨by show 2<=2;decide,List.pairwise_pair.mpr (T4 lt),List.Perm.refl _⟩
      |exact⟨by show 1<=2;decide,List.pairwise_singleton ..,List.Perm.refl _⟩
      |exact⟨A9 _,.nil,List.Perm.refl _⟩
   . unfold G1 Eg
     rw[Ga,Ga,g,h];by_cases c:l=1/\4∈N<;>by_cases d:0<l/\0∈N<;>first|rw[Ap c,Ap c,Ap d,Ap d]|rw[Ap c,Ap c,An d,An d]|rw[An c,An c,Ap d,Ap d]|rw[An c,An c,An d,An d]
     all_goals first
      |exact⟨by show 2<=2;decide,List.pairwise_pair.mpr (T4 lt),List.Perm.swap _ _ _⟩
      |exact⟨by show 1<=2;decide,List.pairwise_singleton ..,List.Perm.refl _⟩
      |exact⟨A9 _,.nil,List.Perm.refl _⟩
def Xj{a b c d:Nat}:0<a*b*c*d↔0∉[a,b,c,d]:=by constructor;intro h z;simp only[BL,List.not_mem_nil,or_false] at z;rcases z with z|z|z|z<;>rw[<-z] at h<;>simp at h;intro h;simp only[BL,List.not_mem_nil,or_false,not_or] at h;exact Nat.mul_pos (Nat.mul_pos (Nat.mul_pos (by omega) (by omega)) (by omega)) (by omega)
def IH:Kd (.int 0) (r.map λn:Nat=>V.int (n:Int))=decide (0∈r):=by
 induction r with|nil=>rfl|cons n r a=>have:Kd (.int 0) ((n::r).map λn:Nat=>V.int (n:Int))=(Hg (.int (n:Int)) (.int 0) || Kd (.int 0) (r.map λn:Nat=>V.int (n:Int))):=rfl;rw[this,a,Bool.eq_iff_iff];have e:Hg (.int (n:Int)) (.int 0)=decide ((n:Int)=0):=rfl;rw[e];simp only[Bool.or_eq_true,decide_eq_true_eq,BL];constructor;rintro(h|h);exact .inl (by omega);exact .inr h;rintro(h|h);exact .inl (by omega);exact .inr h
def Xk:(r.map λn:Nat=>V.int (n:Int)).all HL=true:=by rw[List.all_eq_true];intro x a;obtain⟨n,_,rfl⟩:=CU.mp a;rfl
end L2
abbrev L2.SF (n:List (PySem.Str×PySem.NameKind)):PySem.Scope:={kind:=.function,names:=n,isGenerator:=false,isCoroutine:=false,more:=[]}
def L2.new_at{H:L2.Hp}{a:PySem.Addr}{o:L2.HO}(h:H a=none):∃H':L2.Hp,H'=L2.upd H a o/\L2.Ad H H'/\H' a=some o:=⟨_,rfl,L2.AJ h,L2.Aa⟩
def L2.getm{α β:Type}{f:α->β}{l:List α}{i:Nat}{x:β}(h:(l.map f)[i]?=some x):∃z,l[i]?=some z/\f z=x:=by rw[BP] at h;exact Dd.mp h
namespace K67
open PySem PySem.Spec PyProof.Rows L2 Ord
local macro_rules | `(tactic| trivial) => `(tactic| exact ⟨rfl, rfl, rfl, by decide +kernel, rfl, by decide +kernel, by decide +kernel⟩)
local macro_rules | `(tactic| trivial) => `(tactic| exact ⟨rfl, by decide +kernel, by decide +kernel, by decide +kernel, rfl, by decide +kernel, by decide +kernel⟩)
local macro_rules | `(tactic| rfl') => `(tactic| try dsimp only[Au,Cx.nox,Cx.wish])
def T8:Ae ["_law_cell", "_law_prime", "_law_number"] ["_law_cell", "_law_prime"] (Ar Ll):=by trivial
def FO:Ae ["_law_cell", "_law_many_here", "_law_letters", "_law_number", "_law_size", "_law_at", "_law_by", "_law_words_here", "_law_k", "_law_word", "_law_j", "_law_sign"] ["_law_cell", "_law_many_here"] (Ar Lm):=by trivial
def Xl:Ae ["_law_script", "_law_k"] ["_law_script", "_law_k"] (Ar Ln):=by trivial
def QR:Ae ["states", "pairs", "goes", "ends"] ["states", "pairs"] (Ar Lo):=by trivial
def Xm:Ae ["goes"] ["goes"] (Ar Jz):=by trivial
def BO:Ai (Ar Jz) ["goes"] (SF [ (".0",.local),("label",.local),("number",.local)]) ["label", "number"] 2 []:=by trivial
def Ml:Ae ["states", "pairs", "labels", "goes", "ends", "better", "worse"] ["states", "pairs"] (Ar Lp):=by trivial
def Xn:Ae ["thing"] ["thing"] (Ar JA):=by trivial
def C5:Ai (Ar JA) ["thing"] (SF [(".0",.local),("sign",.local)]) ["sign"] 1 []:=by trivial
def T9:Ae ["states", "pairs", "label"] ["states", "pairs"] (Ar Lq):=by trivial
def Xo:Ae ["thing"] ["thing"] (Ar Lr):=by trivial
def Xp:Ae ["number", "many"] ["number", "many"] (Ar Lu):=by trivial
def NE:Ae ["states", "inner", "goes", "ends", "label", "number"] ["states", "inner"] (Ar Lv):=by trivial
def Xq:Ae ["labels"] ["labels"] (Ar Lw):=by trivial
def QS:Ae ["states", "goes", "ends"] ["states"] (Ar Lx):=by trivial
def OP:Ae ["pairs", "worse_labels", "better", "worse"] ["pairs"] (Ar Ly):=by trivial
def K1:Ae ["worse_labels", "start", "came_from", "layer", "further", "better", "worse"] ["worse_labels", "start"] (Ar Lz):=by trivial
def NF:Ae ["pairs", "worse_labels", "order", "better", "worse"] ["pairs"] (Ar LA):=by trivial
def OQ:Ae ["pairs", "order", "better", "worse"] ["pairs"] (Ar LB):=by trivial
def Xr:Ae ["goes", "ends"] ["goes", "ends"] (Ar JB):=by trivial
def Be:Ai (Ar JB) ["goes", "ends"] (SF [ (".0",.local),("label",.local),("number",.local)]) ["label", "number"] 2 []:=by trivial
def Ua:Ae ["states", "inner", "pairs", "order"] ["states", "inner", "pairs"] (Ar JC):=by trivial
def B5:Ai (Ar JC) ["states", "inner", "pairs", "order"] (SF [ (".0",.local),("goes",.local),("ends",.local),("sorted_state",.globalImplicit)]) ["goes", "ends"] 2 []:=by trivial
def QT:Ae ["_law_cell", "_law_some"] ["_law_cell"] (Ar LC):=by trivial
def Xs:Ae ["_law_script"] ["_law_script"] (Ar JD):=by trivial
def CK:Ai (Ar JD) ["_law_script"] (SF [ (".0",.local),("_law_k",.local),("_law_cell_at",.globalImplicit),("_law_script",.free)]) ["_law_k", "_law_script"] 1 [0]:=by trivial
def OR:Ae ["table", "state", "label", "goes", "known", "number"] ["table", "state", "label"] (Ar LD):=by trivial
def OS:Ae ["net", "answers", "question", "answer", "kind", "number"] ["net", "answers", "question"] (Ar LF):=by trivial
def QU:Ae ["net", "answers", "thing", "kind", "number"] ["net", "answers", "thing"] (Ar LG):=by trivial
def NG:Ae ["net", "answers", "step", "label", "kind", "number", "answer"] ["net", "answers", "step"] (Ar LH):=by trivial
def K2:Ae ["net", "answers", "table", "scope", "state", "gone", "index", "step", "after", "kind", "number"] ["net", "answers", "table", "scope", "state"] (Ar LI):=by trivial
def Hn:Ae ["net", "answers", "table", "beginning", "marks", "last", "then", "come_to", "longer", "mark", "kind", "number", "after"] ["net", "answers", "table", "beginning"] (Ar JE):=by trivial
def Bk:Ai (Ar JE) ["net", "answers", "table", "beginning", "marks", "last", "then", "come_to", "longer", "mark", "kind", "number", "after"] (SF [(".0",.local),("mark",.local)]) ["mark"] 1 []:=by trivial
def OT:Ae ["net", "answers", "table", "scope", "state", "found", "place"] ["net", "answers", "table", "scope", "state"] (Ar JF):=by trivial
def II:Ae ["net", "answers", "table", "begun", "ways", "marks", "last", "then", "mark", "kind", "number", "after"] ["net", "answers", "table", "begun"] (Ar LJ):=by trivial
def OU:Ae ["net", "names", "steps", "tellings"] ["net"] (Ar JG):=by trivial
def AY:Ai (Ar JG) ["net", "names", "steps", "tellings"] (SF [ (".0",.local),("label",.local),("name",.local),("kind",.local),("number",.local)]) ["label", "name", "kind", "number"] 4 []:=by trivial
def Xu:Ae ["table"] ["table"] (Ar JH):=by trivial
def BW:Ai (Ar JH) ["table"] (SF [(".0",.local),("pair",.local)]) ["pair"] 1 []:=by trivial
def K3:Ae ["ways", "tree", "number", "way", "branch", "mark"] ["ways"] (Ar LK):=by trivial
def Mm:Ae ["net", "mark", "scope", "kind", "index", "steps", "tellings"] ["net", "mark"] (Ar LL):=by trivial
def K4:Ae ["net", "better", "tree", "way", "numbers", "branch", "mark", "label", "beside"] ["net", "better", "tree", "way"] (Ar LM):=by trivial
def NH:Ae ["net", "table", "found", "owed", "better", "tree", "way", "question"] ["net", "table", "found", "owed"] (Ar LN):=by trivial
def NI:Ae ["net", "mark", "scope", "kind", "index", "tellings"] ["net", "mark"] (Ar LO):=by trivial
def Mn:Ae ["net", "answers", "seen", "way", "label", "name", "kind", "number"] ["net", "answers", "seen"] (Ar LP):=by trivial
def K5:Ae ["net", "answers", "way", "label", "name", "kind", "number"] ["net", "answers", "way"] (Ar LQ):=by trivial
def IJ:Ae ["net", "answers", "table", "owed", "look", "at", "begun", "found", "seen", "waiting", "way", "question", "meanings"] ["net", "answers", "table", "owed", "look", "at"] (Ar Ht):=by trivial
def Fk:Ai (Ar Ht) ["net", "answers", "table", "owed", "look", "at", "begun", "found", "seen", "waiting", "way", "question", "meanings"] (SF [ (".0",.local),("way",.local),("meaning",.globalImplicit),("answers",.free),("net",.free)]) ["way", "net", "answers"] 1 [0,1]:=by trivial
def Fl:Ai (Ar Ht) ["net", "answers", "table", "owed", "look", "at", "begun", "found", "seen", "waiting", "way", "question", "meanings"] (SF [(".0",.local),("thing",.local)]) ["thing"] 1 []:=by trivial
def Fm:Ai (Ar Ht) ["net", "answers", "table", "owed", "look", "at", "begun", "found", "seen", "waiting", "way", "question", "meanings"] (SF [ (".0",.local),("thing",.local),("meanings",.free)]) ["thing", "meanings"] 1 [12]:=by trivial
def Ub:Ae ["table", "state", "label", "ends"] ["table", "state", "label"] (Ar LR):=by trivial
def K6:Ae ["net", "table", "begun", "name", "ways", "marks", "last", "then", "index", "telling"] ["net", "table", "begun", "name"] (Ar LS):=by trivial
def QV:Ae ["net", "table", "ways", "better", "tree"] ["net", "table", "ways"] (Ar JI):=by trivial
def Cu:Ai (Ar JI) ["net", "table", "ways", "better", "tree"] (SF [ (".0",.local),("way",.local),("first_hider",.globalImplicit),("list",.globalImplicit),("better",.free),("net",.free),("tree",.free)]) ["way", "net", "better", "tree"] 1 [0,3,4]:=by trivial
def Uc:Ae ["net", "table", "begun", "name", "found"] ["net", "table", "begun", "name"] (Ar LU):=by trivial
def K7:Ae ["net", "answers", "table", "scope", "state", "begun", "owed", "standing", "name", "answer", "wait"] ["net", "answers", "table", "scope", "state"] (Ar JJ):=by trivial
def OV:Ae ["_law_e", "_law_some"] ["_law_e"] (Ar IS):=by trivial
def BX:Ai (Ar IS) ["_law_e", "_law_some"] (SF [ (".0",.local),("_law_k",.local),("_law_some",.free)]) ["_law_k", "_law_some"] 1 [1]:=by trivial
def NJ:Ae ["_law_net", "_law_answers", "_law_table", "_law_scope", "_law_some", "_law_rows", "_law_e"] ["_law_net", "_law_answers", "_law_table", "_law_scope"] (Ar LV):=by trivial
def Xv:Ae ["_law_told_here", "_law_due"] ["_law_told_here", "_law_due"] (Ar Hu):=by trivial
def Bx:Ai (Ar Hu) ["_law_told_here", "_law_due"] (SF [ (".0",.local),("_law_one",.local),("_law_other",.local),("_law_alike",.globalImplicit)]) ["_law_one", "_law_other"] 2 []:=by trivial
def Mo:Ae ["_law_row_here", "_law_total", "_law_wide", "_law_one"] ["_law_row_here"] (Ar LW):=by trivial
def Eu:Ae ["_law_script", "_law_words_here", "_law_labels", "_law_table", "_law_row_here", "_law_way", "_law_last", "_law_scopes", "_law_count", "_law_net", "_law_answers", "_law_rows", "_law_told_here"] ["_law_script"] (Ar Fs):=by trivial
def Fn:Ai (Ar Fs) ["_law_script", "_law_words_here", "_law_labels", "_law_table", "_law_row_here", "_law_way", "_law_last", "_law_scopes", "_law_count", "_law_net", "_law_answers", "_law_rows", "_law_told_here"] (SF [ (".0",.local),("_law_k",.cell),("range",.globalImplicit),("_law_labels",.free),("_law_row_here",.free)]) ["_law_k", "_law_labels", "_law_row_here"] 1 [2,4]:=by trivial
def Fo:Ai ((SF [ (".0",.local),("_law_k",.cell),("range",.globalImplicit),("_law_labels",.free),("_law_row_here",.free)])) ["_law_k", "_law_labels", "_law_row_here"] (SF [ (".0",.local),("_law_j",.local),("_law_k",.free),("_law_labels",.free)]) ["_law_j", "_law_labels", "_law_k"] 1 [1,0]:=by trivial
def Fp:Ai (Ar Fs) ["_law_script", "_law_words_here", "_law_labels", "_law_table", "_law_row_here", "_law_way", "_law_last", "_law_scopes", "_law_count", "_law_net", "_law_answers", "_law_rows", "_law_told_here"] (SF [ (".0",.local),("_law_k",.local),("_law_words_here",.free)]) ["_law_k", "_law_words_here"] 1 [1]:=by trivial
def Fq:Ai (Ar Fs) ["_law_script", "_law_words_here", "_law_labels", "_law_table", "_law_row_here", "_law_way", "_law_last", "_law_scopes", "_law_count", "_law_net", "_law_answers", "_law_rows", "_law_told_here"] (SF [ (".0",.local),("_law_k",.local),("_law_way",.free)]) ["_law_k", "_law_way"] 1 [5]:=by trivial
structure Ba (mg:Str->J'):Prop where
 b_ValueError:mg "ValueError" = none
 b_all:mg "all" = none
 b_any:mg "any" = none
 b_bool:mg "bool" = none
 b_dict:mg "dict" = none
 b_enumerate:mg "enumerate" = none
 b_int:mg "int" = none
 b_isinstance:mg "isinstance" = none
 b_len:mg "len" = none
 b_list:mg "list" = none
 b_min:mg "min" = none
 b_range:mg "range" = none
 b_set:mg "set" = none
 b_sorted:mg "sorted" = none
 b_str:mg "str" = none
 b_tuple:mg "tuple" = none
 b_zip:mg "zip" = none
 c_LONGEST_NAME:∃t,mg "LONGEST_NAME" = some (.int 8 t)
 c_MOST_BEGINNINGS:∃t,mg "MOST_BEGINNINGS" = some (.int 200 t)
 c_MOST_ENDS:∃t,mg "MOST_ENDS" = some (.int 8 t)
 c_MOST_GOES:∃t,mg "MOST_GOES" = some (.int 8 t)
 c_MOST_PAIRS:∃t,mg "MOST_PAIRS" = some (.int 40 t)
 c_MOST_STATES:∃t,mg "MOST_STATES" = some (.int 8 t)
structure Bb (K:Ah) (mg:Str->J'):Prop where
 e_Caught:mg "Caught" = some (.ref (Ak K "Caught"))
 e_NoName:mg "NoName" = some (.ref (Ak K "NoName"))
 e_NoPlace:mg "NoPlace" = some (.ref (Ak K "NoPlace"))
 e_NoRow:mg "NoRow" = some (.ref (Ak K "NoRow"))
 e_NoText:mg "NoText" = some (.ref (Ak K "NoText"))
 e_PathError:mg "PathError" = some (.ref (Ak K "PathError"))
 e_Ring:mg "Ring" = some (.ref (Ak K "Ring"))
 e_Tangled:mg "Tangled" = some (.ref (Ak K "Tangled"))
 e_TooGreat:mg "TooGreat" = some (.ref (Ak K "TooGreat"))
 e_Twice:mg "Twice" = some (.ref (Ak K "Twice"))
 k_PathError:Qx K mg "PathError" (Ak K "PathError")
 k_Tangled:Qx K mg "Tangled" (Ak K "Tangled")
 d_Tangled:CJ K (Ak K "Tangled")
 v_Tangled:B4 K (Ak K "Tangled") (.type "ValueError") true
 s_Tangled_PathError:L2.subIn K (Ak K "Tangled") (Ak K "PathError")=true
 a_Tangled_Caught:B4 K (Ak K "Tangled") (.ref (Ak K "Caught")) false
 a_Tangled_NoName:B4 K (Ak K "Tangled") (.ref (Ak K "NoName")) false
 a_Tangled_NoPlace:B4 K (Ak K "Tangled") (.ref (Ak K "NoPlace")) false
 a_Tangled_NoRow:B4 K (Ak K "Tangled") (.ref (Ak K "NoRow")) false
 a_Tangled_NoText:B4 K (Ak K "Tangled") (.ref (Ak K "NoText")) false
 a_Tangled_Ring:B4 K (Ak K "Tangled") (.ref (Ak K "Ring")) false
 a_Tangled_Tangled:B4 K (Ak K "Tangled") (.ref (Ak K "Tangled")) true
 a_Tangled_TooGreat:B4 K (Ak K "Tangled") (.ref (Ak K "TooGreat")) false
 a_Tangled_Twice:B4 K (Ak K "Tangled") (.ref (Ak K "Twice")) false
 n_Tangled_Caught:(Value.ref (Ak K "Tangled")==Value.ref (Ak K "Caught"))=false
 n_Tangled_NoName:(Value.ref (Ak K "Tangled")==Value.ref (Ak K "NoName"))=false
 n_Tangled_NoPlace:(Value.ref (Ak K "Tangled")==Value.ref (Ak K "NoPlace"))=false
 n_Tangled_NoRow:(Value.ref (Ak K "Tangled")==Value.ref (Ak K "NoRow"))=false
 n_Tangled_NoText:(Value.ref (Ak K "Tangled")==Value.ref (Ak K "NoText"))=false
 n_Tangled_Ring:(Value.ref (Ak K "Tangled")==Value.ref (Ak K "Ring"))=false
 n_Tangled_TooGreat:(Value.ref (Ak K "Tangled")==Value.ref (Ak K "TooGreat"))=false
 n_Tangled_Twice:(Value.ref (Ak K "Tangled")==Value.ref (Ak K "Twice"))=false
variable {us:E'}
def OW(h:us.length=1):∃a,us=[a]:=by
 cases us with|nil=>cases h|cons a t=>exact⟨a,by rw[List.length_eq_zero_iff.mp (Nat.succ.inj h)]⟩
def G2(h:us.length=2):∃a b,us=[a,b]:=by
 cases us with|nil=>cases h|cons a t=>obtain⟨b,rfl⟩:=OW (Nat.succ.inj h);exact⟨a,b,rfl⟩
def Jp(h:us.length=3):∃a b c,us=[a,b,c]:=by
 cases us with|nil=>cases h|cons a t=>obtain⟨b,c,rfl⟩:=G2 (Nat.succ.inj h);exact⟨a,b,c,rfl⟩
def G3(h:us.length=4):∃a b c d,us=[a,b,c,d]:=by
 cases us with|nil=>cases h|cons a t=>obtain⟨b,c,d,rfl⟩:=Jp (Nat.succ.inj h);exact⟨a,b,c,d,rfl⟩
def G4(h:us.length=5):∃a b c d e,us=[a,b,c,d,e]:=by
 cases us with|nil=>cases h|cons a t=>obtain⟨b,c,d,e,rfl⟩:=G3 (Nat.succ.inj h);exact⟨a,b,c,d,e,rfl⟩
def Jq(h:us.length=6):∃a b c d e f,us=[a,b,c,d,e,f]:=by
 cases us with|nil=>cases h|cons a t=>obtain⟨b,c,d,e,f,rfl⟩:=G4 (Nat.succ.inj h);exact⟨a,b,c,d,e,f,rfl⟩
open PySem PySem.Spec PyProof.Rows L2 in
def BI{P:Program}{w:World}{K:Ah}{h:Str->J'}{base:Heap}{x g:Str}{st:Stmt}{f:Addr}{j:FuncData}{N b:G'}{k:Nat}{sp:Sp}(F:A4 K x g st f j)(m:h x=some (.ref f))(S:Ae N b (Ar st))(r:∀vs H Q E,sp vs H Q E->vs.length=b.length)
  (v:∀(e:Value)(A:Around)(y:List Env)(s:Shared)(H:Hp)(vs:R')(Q:VK)(E:XK),Bc k (A.deeper (envOfC g (Ar st) s.heap.objs.size f e))->sp vs H Q E -> ∃t,DR (Au EQ P w K h base N g (Ar st) f e A y s H E).nox (A0 st) t/\t {nx:=λ_ H'=>Q .non H',rt:=Q} (EM N vs) H)
  (n:∀(kV u o:Value)(p:Option Addr)(e ct:Value)(us:E'),us.length=b.length->bindArgs (PySem.W.fnOf x g (A8 st) (A0 st) (Ar st) .none kV u o p e ct) ⟨us,[]⟩=pure (b.zip us):=by intro _ _ _ _ _ _ us a;first|(obtain⟨_,rfl⟩:=OW a;rfl)|(obtain⟨_,_,rfl⟩:=G2 a;rfl)|(obtain⟨_,_,_,rfl⟩:=Jp a;rfl)|(obtain⟨_,_,_,_,rfl⟩:=G3 a;rfl)|(obtain⟨_,_,_,_,_,rfl⟩:=G4 a;rfl)|(obtain⟨_,_,_,_,_,_,rfl⟩:=Jq a;rfl)):Bo P w K h base x (k+1) b sp:=⟨f,j,F.ok S r v,m,F.kp,F.binds n⟩
def NK(h:us.length=7):∃a b c d e f g,us=[a,b,c,d,e,f,g]:=by
 cases us with|nil=>cases h|cons a t=>obtain⟨b,c,d,e,f,g,rfl⟩:=Jq (Nat.succ.inj h);exact⟨a,b,c,d,e,f,g,rfl⟩
def Ud(h:us.length=8):∃a b c d e f g i,us=[a,b,c,d,e,f,g,i]:=by
 cases us with|nil=>cases h|cons a t=>obtain⟨b,c,d,e,f,g,i,rfl⟩:=NK (Nat.succ.inj h);exact⟨a,b,c,d,e,f,g,i,rfl⟩
section
set_option maxHeartbeats 4000000
seal L2.PE L2.PA L2.PS L2.DR L2.PT L2.PW L2.PC L2.PG L2.MA L2.PI L2.PF L2.HB L2.CD L2.NX L2.A1 L2.J9 L2.Hf L2.PU L2.PO
variable {P:Program} {w:World} {K:Ah} {mg:Str->J'} {base:Heap} {f:Addr} {fd:FuncData}
inductive Dx (K:Ah) (vs:R') (H:Hp) (Q:VK):Prop where
 |mk (c:Int) (h0:vs=[.int c,.int 2147483647]) (h1:∀n:Int,0<=n->n<2147483647->Q (.int n) H):Dx K vs H Q
def Xw (K:Ah):Sp:=λvs H Q _=>Dx K vs H Q
abbrev QW(P w K mg base):=Bo P w K mg base "_law_mix" 1 ["_law_cell", "_law_prime"] (Xw K)
def Xx(B:Ba mg)(g:Bb K mg)(F:A4 K "_law_mix" "_law_mix" Ll f fd)(a:mg "_law_mix" = some (.ref f)):QW P w K mg base:=by
 refine BI F a T8 (λb H Q E h=>?_) (λk A l s H b Q E j h=>?_);obtain⟨c,rfl,_⟩:=h;rfl;obtain⟨c,rfl,q⟩:=h
 refine⟨_,(Aq (AN (i:=2) T8.nd (BH FR (pv 0) (pv 1)))
  (As (AW (BH FR (BH Hd (BH Hd (BH LZ (pv 2) (pv 2)) (BH LZ Ao (pv 2))) Ao) (pv 1))))),?_⟩
 rfl';refine⟨_,rfl,_,rfl,_,_,rfl,rfl,(by show(0:Int)<2147483647;decide),?_⟩;refine At ?_;cbv;have d:=IQ c (by decide:(2147483647:Int)≠0);have e:=Jx c (by decide:(0:Int)<2147483647);generalize c%2147483647=n at d e ⊢;refine⟨_,rfl,_,rfl,_,_,rfl,rfl,p7 ⟨by omega,by omega⟩,_,rfl,_,_,rfl,rfl,p7 ⟨by decide,by decide⟩,_,_,rfl,rfl,_,_,rfl,rfl,_,rfl,_,_,rfl,rfl,(by show(0:Int)<2147483647;decide),?_⟩;exact q _ (IQ _ (by decide)) (Jx _ (by decide))
def OX(w:Str)(c:Nat):(w++(⟨#[c]⟩:Str)).length=w.length+1:=by
 show(w.cps++#[c]).size=w.cps.size+1;simp
def K8:∀n,n<26->(p6).cps.toList[n]?=some (97+n):=by decide +kernel
def IK(n:Int):EN (p6).cps.toList (n%26)=some (97+(n%26).toNat):=by have a:=IQ n (by decide:(26:Int)≠0);have c:=Jx n (by decide:(0:Int)<26);obtain⟨k,b⟩:=Pp a;rw[b,E6];exact EO (K8 k (by omega))
def Ue(w:Str)(c:Nat):(w++(⟨#[c]⟩:Str)).cps.toList=w.cps.toList++[c]:=by
 show(w.cps++#[c]).toList=_;simp
abbrev K9 (n:Int):Str:=⟨#[97+(n%26).toNat]⟩
def Ho (f:Nat->Int) (a:Nat) (b:Int) (k j:Nat):Int:=if j=a then f j+(k:Int)*b else f j
def Eh (f:Nat->Int) (a:Nat) (b:Int) (k:Nat):Nat->Str
 |0 => ""
 |j+1=>Eh f a b k j++K9 (Ho f a b k j)
theorem Jr(f:Nat->Int)(a:Nat)(b:Int)(k:Nat):∀j,(Eh f a b k j).length=j
 |0=>show("":Str).length=0 by decide +kernel
 |j+1=>by show(Eh f a b k j++K9 (Ho f a b k j)).length=j+1;rw[OX,Jr f a b k j]
theorem OY(f:Nat->Int)(a:Nat)(b:Int)(k:Nat){i:Nat}:∀{j:Nat},i<j->(Eh f a b k j).cps.toList[i]?=some (97+(Ho f a b k i%26).toNat)
 |0,h=>absurd h (Nat.not_lt_zero _)
 |j+1,h=>by
   show(Eh f a b k j++K9 (Ho f a b k j)).cps.toList[i]?=_;rw[Ue];have c:(Eh f a b k j).cps.toList.length=j:=by rw[Array.length_toList];exact Jr f a b k j
   by_cases d:i<j;rw[Ew (by rw[c];exact d)];exact OY f a b k d;have e:i=j:=(by omega);subst e;rw[D6 (by rw[c];exact Aw _),c,Nat.sub_self];rfl
def Uf(f:Nat->Int)(a:Nat)(b:Int)(k:Nat){j:Nat}(g:1<=j)(h:j<=8):EX (Eh f a b k j):=by
 refine⟨by rw[Jr];exact g,by rw[Jr];exact h,λc l=>?_⟩;obtain⟨i,m,e⟩:=Mp.mp l;have n:(Eh f a b k j).cps.toList.length=j:=by rw[Array.length_toList];exact Jr f a b k j
 have d:=OY f a b k (i:=i) (j:=j) (by omega);rw[AQ m,e] at d;have o:=C0 d;have p:=IQ (Ho f a b k i) (by decide:(26:Int)≠0);have q:=Jx (Ho f a b k i) (by decide:(0:Int)<26);omega
def La{f:Nat->Int}{a:Nat}{b:Int}{j:Nat}(d:a<j)(g:1<=b)(i:b<=4):Eh f a b 0 j≠Eh f a b 1 j:=λh=>by have e:=OY f a b 0 d;rw[h,OY f a b 1 d] at e;have c:=C0 e;unfold Ho at c;rw[Ap rfl,Ap rfl] at c;generalize f a=z at c;omega
def NL{w:Str}(h:EX w)(b:w.length<8):EX (w++l'):=by have e:l'=⟨#[98]⟩:=(by decide +kernel);rw[e];refine⟨by rw[OX];exact Nat.succ_le_succ (A9 _),by rw[OX];exact b,λc a=>?_⟩;rw[Ue] at a;rcases CG.mp a with a|a;exact h.2.2 c a;rw[BY.mp a];exact⟨by decide,by decide⟩
inductive CL (K:Ah) (vs:R') (H:Hp) (Q:VK):Prop where
 |mk (c:Int) (h0:vs=[.int c,.int 2]) (h1:∀(L:Addr)(x y:Str)(H':Hp),H L=none->Ad H H'->H' L=some (.lst [.str x,.str y])->EX x->EX y->x≠y->Q (.ref L) H'):CL K vs H Q
def Xy (K:Ah):Sp:=λvs H Q _=>CL K vs H Q
abbrev OZ(P w K mg base):=Bo P w K mg base "_law_words" 2 ["_law_cell", "_law_many_here"] (Xy K)
theorem Xz(B:Ba mg)(ER:Bb K mg)(aa:QW P w K mg base)(F:A4 K "_law_words" "_law_words" Lm f fd)(T:mg "_law_words" = some (.ref f)):OZ P w K mg base:=by
 refine BI F T FO (λW H Q E h=>?_) (λan aj ar ak H W Q E hr h=>?_);obtain⟨c,rfl,_⟩:=h;rfl
 . obtain⟨c,rfl,q⟩:=h
   refine⟨_,(Aq (AN (i:=2) FO.nd BS)
    (Aq (AN (i:=3) FO.nd (A3 aa (Ab (pv 0) (Ab Ao Af))))
    (Aq (AN (i:=4) FO.nd (BH Hd Ao (BH FR (pv 3) Ao)))
    (Aq (AN (i:=5) FO.nd (BH FR (BH L0 (pv 3) Ao) (pv 4)))
    (Aq (AN (i:=6) FO.nd (BH Hd Ao (BH FR (BH L0 (pv 3) Ao) Ao)))
    (Aq (AN (i:=7) FO.nd (Bl Af))
    (Aq (CC CB rfl (JY rfl B.b_range (Ab (pv 1) Af)) (Az (i:=8) FO.nd) (Aq (AN (i:=9) FO.nd BS)
     (Aq (CC CB rfl (JY rfl B.b_range (Ab (pv 4) Af)) (Az (i:=10) FO.nd) (Aq (AN (i:=11) FO.nd (BH Hd (BH L0 (pv 3) Ao) (BH L0 (pv 3) (BH Hd Ao (BH LZ (BH LZ Ao (pv 10)) (pv 10))))))
      (Aq (Bi (Cc DI (pv 10) (pv 5) (B3 _)) (As (AN (i:=11) FO.nd (BH Hd (pv 11) (BH LZ (pv 8) (pv 6))))) Bh)
      (As (AN (i:=9) FO.nd (BH RH (pv 9) (AK AL (pv 2) (BH FR (pv 11) Ao))))))))
     (As (DH (DN Ek E8 E9 Fe (pv 7) (Ab (pv 9) Af)))))))
    (Aq (Bi (PW.pt (JR (Cc DI (BH FR (BH L0 (pv 3) Ao) Ao) Ao (B3 _)) (JQ (Cc MI (pv 4) Ao (B3 _))))) (As (Ey (BH RH (AK AL (pv 7) Ao) BS) (Gh (pv 7) Ao US))) Bh)
    (As (AW (pv 7))))))))))),?_⟩
   rfl';refine MY ?_;cbv;refine⟨_,rfl,c,rfl,λn n0 n1=>?_⟩;refine At ?_;cbv;refine⟨_,rfl,_,_,rfl,rfl,(by show(0:Int)<8;decide),_,_,rfl,rfl,?_⟩;refine At ?_;cbv;have X:1<=1+n%8/\1+n%8<=8:=(by omega);obtain⟨sz,ab⟩:∃sz:Nat,1+n%8=(sz:Int):=⟨(1+n%8).toNat,by omega⟩;rw[ab] at X ⊢;refine⟨_,rfl,_,_,rfl,rfl,⟨by decide,by decide⟩,_,rfl,_,_,rfl,rfl,(by show(0:Int)<(sz:Int);omega),?_⟩;refine At ?_;cbv;have Y:=IQ (n/8) (show(sz:Int)≠0 by omega);have Z:=Jx (n/8) (show(0:Int)<(sz:Int) by omega);obtain⟨a,ea⟩:=Pp Y;rw[ea] at Z ⊢;refine⟨_,rfl,_,_,rfl,rfl,⟨by decide,by decide⟩,_,_,rfl,rfl,(by show(0:Int)<4;decide),_,_,rfl,rfl,?_⟩;refine At ?_;cbv;have G:1<=1+n/64%4/\1+n/64%4<=4:=(by omega);generalize 1+n/64%4=b at G ⊢;refine⟨by decide,λL u=>?_⟩;obtain⟨al,ae,s1,af⟩:=new_at (o:=.lst []) u;rw[<-ae];refine At ?_;cbv;obtain⟨f,ef⟩:∃f:Nat->Int,∀j:Nat,f j=n/512+n/(512+7*(0+(j:Int))*(0+(j:Int))):=⟨λj=>n/512+n/(512+7*(0+(j:Int))*(0+(j:Int))),λ_=>rfl⟩;refine⟨_,rfl,_,rfl,by omega,by omega,RA (lo:=0) (n:=2) (λi σ g=>∃v x l m,σ=[some (.int c),some (.int 2),some (.str "abcdefghijklmnopqrstuvwxyz"),some (.int n),some (.int (sz:Int)),some (.int (a:Int)),some (.int b),some (.ref L),v,x,l,m]/\Ad H g/\g L=some (.lst (((List.range i).map λk=>Eh f a b k sz).map V.str))) ⟨none,none,none,none,rfl,s1,af⟩ ?_ ?_⟩;rotate_left
   . refine λσ U t=>BC λO p=>?_
     obtain⟨v,x,l,m,rfl,s,d⟩:=t;refine p ?_;clear p;cbv;have d:U L=some (.lst [.str (Eh f a b 0 sz),.str (Eh f a b 1 sz)]):=d;have I:=Uf f a b 0 (j:=sz) (by omega) (by omega);have J:=Uf f a b 1 (j:=sz) (by omega) (by omega);have D:=La (f:=f) (a:=a) (b:=b) (j:=sz) (by omega) G.1 G.2;have S:=Jr f a b 0 sz;have ag:=Jr f a b 1 sz;generalize Eh f a b 0 sz=M at d I D S;generalize Eh f a b 1 sz=C at d J D ag;refine N5 (λσ' g=>∃y,σ'=[some (.int c),some (.int 2),some (.str "abcdefghijklmnopqrstuvwxyz"),some (.int n),some (.int (sz:Int)),some (.int (a:Int)),some (.int b),some (.ref L),v,x,l,m]/\Ad H g/\g L=some (.lst [.str M,.str y])/\EX y/\M≠y) ?_ (λN r=>?_)
     case refine_2 =>
      refine⟨_,rfl,_,_,rfl,rfl,⟨by decide,by decide⟩,_,_,rfl,rfl,(by show(0:Int)<3;decide),rfl,_,rfl,Ci (λh1=>?_) (λh1=>AC (r _ _ ⟨C,rfl,s,d,J,D⟩))⟩;refine⟨_,rfl,_,_,rfl,rfl,_,rfl,Ci (λR=>?_) (λR=>r _ _ ⟨C,rfl,s,d,J,D⟩)⟩;have ao:(sz:Int)<8:=E7 R;refine⟨_,rfl,p7 ⟨L,_,_,.str M,rfl,rfl,Ag.of d,rfl,_,_,rfl,rfl,?_,_,rfl,L,_,_,1,rfl,rfl,d,rfl,?_⟩⟩;exact CZ (BQ (by rw[S];show sz+l'.length<=1000;rw[show l'.length=1 by decide +kernel];omega));refine r _ _ ⟨M++l',rfl,λb o e=>?_,by rw[Aa];rfl,NL I (by omega),λz=>?_⟩;rw[Ax (AM e u)];exact s _ _ e;have:=De Str.length z;rw[show l'=⟨#[98]⟩ by decide +kernel,OX] at this;omega
     refine λσ' A t=>BC λO p=>?_;obtain⟨y,rfl,s3,ah,ly,hy⟩:=t;refine p ?_;clear p;exact⟨_,rfl,q L M y A u s3 ah I ly hy⟩
   refine λi σ U hi t=>BC λO p=>?_;obtain⟨v,x,l,m,rfl,s,d⟩:=t;refine p ?_;clear p;refine At ?_;cbv;refine MY ?_;cbv;refine⟨_,rfl,_,rfl,by omega,by omega,RA (lo:=0) (n:=sz) (λj σ g=>∃(l m:U'),σ=[some (.int c),some (.int 2),some (.str "abcdefghijklmnopqrstuvwxyz"),some (.int n),some (.int (sz:Int)),some (.int (a:Int)),some (.int b),some (.ref L),some (.int (0+(i:Int))),some (.str (Eh f a b i j)),l,m]/\g=U) ⟨_,_,rfl,rfl⟩ ?_ ?_⟩;rotate_left;rintro σ A ⟨l,m,rfl,rfl⟩;refine⟨_,rfl,p7 ⟨rfl,_,Ag.of d⟩,_,rfl,L,_,_,rfl,rfl,d,by rw[AD,AD,p9];exact BQ (by omega),?_⟩;refine⟨_,_,_,_,rfl,λb o e=>?_,?_⟩;rw[Ax (AM e u)];exact s _ _ e;rw[Aa,List.range_succ,Cb,Cb];rfl;rintro j σ A hj ⟨l,m,rfl,rfl⟩;refine At ?_;cbv;have ai:j<8:=(by omega);have aq:0<=7*(0+(j:Int))*(0+(j:Int))/\7*(0+(j:Int))*(0+(j:Int))<=400:=(by have:∀j:Nat,j<8->0<=7*(0+(j:Int))*(0+(j:Int))/\7*(0+(j:Int))*(0+(j:Int))<=400:=(by decide);exact this j ai);refine⟨_,rfl,_,_,rfl,rfl,⟨by decide,by decide⟩,_,rfl,_,rfl,_,_,rfl,rfl,p7 ⟨by decide,by decide⟩,_,rfl,_,_,rfl,rfl,p8 ⟨by omega,by omega⟩,_,_,rfl,rfl,_,_,rfl,rfl,⟨by omega,by omega⟩,_,_,rfl,rfl,?_⟩;refine At ?_;cbv;rw[<-ef j];refine N5 (λσ' g=>σ'=[some (.int c),some (.int 2),some (.str "abcdefghijklmnopqrstuvwxyz"),some (.int n),some (.int (sz:Int)),some (.int (a:Int)),some (.int b),some (.ref L),some (.int (0+(i:Int))),some (.str (Eh f a b i j)),some (.int (0+(j:Int))),some (.int (Ho f a b i j))]/\g=A) ?_ (λN r=>?_)
   case refine_2 =>
    refine⟨_,rfl,_,rfl,rfl,_,rfl,Ci (λh=>?_) (λh=>?_)⟩;have e:j=a:=by have:=V.int.inj (E7 h);omega
    refine⟨_,rfl,_,rfl,_,rfl,_,_,rfl,rfl,p7 ⟨by omega,by omega⟩,_,_,rfl,rfl,?_⟩;refine r _ _ ⟨?_,rfl⟩;unfold Ho;rw[Ap e,Int.zero_add (i:Int)];rfl;have e:j≠a:=λz=>h (B2 (by rw[z,Int.zero_add]));refine r _ _ ⟨?_,rfl⟩;unfold Ho;rw[An e];rfl
   rintro σ' H4 ⟨rfl,rfl⟩;refine⟨_,rfl,_,rfl,_,rfl,_,_,rfl,rfl,(by show(0:Int)<26;decide),p8 (p8 ⟨_,_,_,rfl,rfl,by decide +kernel,IK _,Eh f a b i j,_,rfl,rfl,?_,?_⟩)⟩;show(Eh f a b i j).length+1<=sizeLine;rw[Jr];exact CZ (BQ (by omega));exact⟨_,_,rfl,rfl⟩
def XA{a:D'}{k:Int}(c:0<=k)(d:k<a.length):EN (a.map V.int) k=some (V.int (FE a k)):=by obtain⟨n,rfl⟩:=Pp c;have b:n<a.length:=(by omega);refine EO ?_;rw[BP,AQ b];show some (V.int a[n])=some (V.int ((a[((n:Int)).toNat]?).getD 0));rw[E6,AQ b];rfl
def XB{a:D'}{k:Int}(b:0<=k)(c:¬k<a.length):FE a k=0:=by unfold FE;rw[FZ (by omega)];rfl
def XC (K:Ah):Sp:=λvs H Q _=>∃a ns k,vs=[.ref a,.int k]/\0<=k/\Ag K H a (ns.map V.int)/\Q (.int (FE ns k)) H
abbrev NM(P w K mg base):=Bo P w K mg base "_law_cell_at" 1 ["_law_script", "_law_k"] (XC K)
theorem XD(B:Ba mg)(l:Bb K mg)(F:A4 K "_law_cell_at" "_law_cell_at" Ln f fd)(i:mg "_law_cell_at" = some (.ref f)):NM P w K mg base:=by
 refine BI F i Xl (λj H Q E h=>?_) (λn A o s H j Q E m h=>?_);obtain⟨a,d,k,rfl,_⟩:=h;rfl;obtain⟨a,d,k,rfl,e,g,q⟩:=h
 refine⟨_,(Aq (Bi (Cc MI (pv 1) (Bq Fz B.b_len (Ab (pv 0) Af)) (B3 _)) (As (AW (AK AL (pv 0) (pv 1)))) Bh)
  (As (AW Ao))),?_⟩
 rfl';refine⟨_,rfl,_,rfl,_,_,rfl,p7 ⟨_,g,rfl⟩,_,_,rfl,rfl,_,rfl,?_⟩;rw[AD];refine Ci (λb=>?_) (λc=>?_);have b:=E7 b;exact⟨_,rfl,_,rfl,p7 ⟨_,_,_,_,rfl,rfl,g,XA e b,q⟩⟩;have c:¬k<(d.length:Int):=λz=>c (B2 z);show Q (.int 0) H;rw[XB e c] at q;exact q
inductive By (K:Ah) (vs:R') (H:Hp) (Q:VK):Prop where
 |mk (a p:Addr) (l0 l1:Str) (h0:vs=[.ref a,.ref p]) (h1:Ed H a l0 l1) (h2:DP H p l1 l0) (h3:Q .non H):By K vs H Q
def XE (K:Ah):Sp:=λvs H Q _=>By K vs H Q
abbrev QX(P w K mg base):=Bo P w K mg base "refuse_too_great" 1 ["states", "pairs"] (XE K)
theorem XF(B:Ba mg)(t:Bb K mg)(F:A4 K "refuse_too_great" "refuse_too_great" Lo f fd)(c:mg "refuse_too_great" = some (.ref f)):QX P w K mg base:=by
 refine BI F c QR (λd H Q E h=>?_) (λC A D s H d Q E x h=>?_);obtain⟨a,p,j,k,rfl,_⟩:=h;rfl;obtain⟨a,p,j,k,rfl,⟨u,g,e,gt,b,l,m,y,o⟩,⟨z,r,_⟩,q⟩:=h
 refine⟨_,(Aq (Bi (Cc I7 (Bq Fz B.b_len (Ab (pv 0) Af)) (EI (v:=.int 8) rfl (Classical.choose_spec B.c_MOST_STATES) ⟨_,rfl⟩) (B3 _)) (As Gg) Bh)
  (Aq (CC CB rfl (Cf (pv 0)) (B7 (n:=2) rfl (AH (Az (i:=2) QR.nd) (AH (Az (i:=3) QR.nd) B6))) (Aq (Bi (Cc I7 (Bq Fz B.b_len (Ab (pv 2) Af)) (EI (v:=.int 8) rfl (Classical.choose_spec B.c_MOST_GOES) ⟨_,rfl⟩) (B3 _)) (As Gg) Bh)
   (As (Bi (Cc I7 (Bq Fz B.b_len (Ab (pv 3) Af)) (EI (v:=.int 8) rfl (Classical.choose_spec B.c_MOST_ENDS) ⟨_,rfl⟩) (B3 _)) (As Gg) Bh))))
  (As (Bi (Cc I7 (Bq Fz B.b_len (Ab (pv 1) Af)) (EI (v:=.int 40) rfl (Classical.choose_spec B.c_MOST_PAIRS) ⟨_,rfl⟩) (B3 _)) (As Gg) Bh)))),?_⟩
 rfl';refine⟨_,rfl,_,_,rfl,p7 ⟨_,Ag.of b,rfl⟩,_,_,rfl,rfl,_,rfl,AC ?_⟩;refine⟨_,rfl,a,rfl,⟨_,Ag.of b⟩,FI (Ag.of b) ?_⟩;refine⟨u,_,rfl,AB.of l,rfl,_,_,rfl,_,_,rfl,rfl,?_⟩;refine⟨_,rfl,_,_,rfl,p7 ⟨_,Ag.of m,rfl⟩,_,_,rfl,rfl,_,rfl,AC ?_⟩;refine⟨_,rfl,_,_,rfl,p7 ⟨_,Ag.of o,rfl⟩,_,_,rfl,rfl,_,rfl,AC ⟨Ag.of b,?_⟩⟩;exact⟨_,rfl,_,_,rfl,p7 ⟨_,Ag.of r,rfl⟩,_,_,rfl,rfl,_,rfl,AC q⟩
inductive C6 (K:Ah) (vs:R') (H:Hp) (Q:VK):Prop where
 |mk (g gt:Addr) (l:Str) (h0:vs=[.ref g]) (h1:H g=some (.lst [.ref gt])) (h2:H gt=some (.tup [.str l,.int 0])) (h3:∀(p:Addr)(H':Hp),H p=none->Ad H H'->H' p=some (.lst [.str l])->Q (.ref p) H'):C6 K vs H Q
def XG (K:Ah):Sp:=λvs H Q _=>C6 K vs H Q
abbrev O0(P w K mg base):=Bo P w K mg base "labels_of" 1 ["goes"] (XG K)
def XH(B:Ba mg)(p:Bb K mg)(F:A4 K "labels_of" "labels_of" Jz f fd)(e:mg "labels_of" = some (.ref f)):O0 P w K mg base:=by refine BI F e Xm (λj H Q E h=>?_) (λt A u s H j Q E r h=>?_);obtain⟨g,gt,l,rfl,_⟩:=h;rfl;obtain⟨g,gt,l,rfl,a,m,q⟩:=h;refine⟨_,(As (AW (ES (g:=Fx K 2 (Fw (Eb 0) (Fw (Eb 1) Fv))) rfl BO (Cf (pv 0)) (λ_ _ _ _ _=>(B7 (n:=2) rfl (AH (Az (i:=0) BO.nd) (AH (Az (i:=1) BO.nd) B6)))) (λ_ _ _ _ _=>EA) (λ_ _ _ _ _=>(pv 0))))),?_⟩;rfl';refine⟨_,rfl,g,rfl,⟨_,Ag.of a⟩,Qn (Ag.of a) λD R b k=>?_⟩;have c:=AJ (o:=.lst []) b;have d:=Ff (o:=.lst [.str l]) c b;exact⟨gt,_,rfl,AB.of (c _ _ m),rfl,_,_,rfl,_,_,rfl,rfl,_,rfl,k _ _ Aa (Ag.of (d _ _ a)) (q D _ b d Aa)⟩
inductive Cv (K:Ah) (vs:R') (H:Hp) (Q:VK):Prop where
 |mk (a p:Addr) (l0 l1:Str) (h0:vs=[.ref a,.ref p]) (h1:Ed H a l0 l1) (h2:DP H p l1 l0) (h3:∀(l:Addr)(H':Hp),H l=none->Ad H H'->H' l=some (.lst [.str l0,.str l1,.str l1,.str l0])->Q (.ref l) H'):Cv K vs H Q
def XI (K:Ah):Sp:=λvs H Q _=>Cv K vs H Q
abbrev QY(P w K mg base):=Bo P w K mg base "labels_told" 2 ["states", "pairs"] (XI K)
def XJ(B:Ba mg)(V:Bb K mg)(R:O0 P w K mg base)(F:A4 K "labels_told" "labels_told" Lp f fd)(y:mg "labels_told" = some (.ref f)):QY P w K mg base:=by
 refine BI F y Ml (λC H Q E h=>?_) (λZ A aa s H C Q E W h=>?_);obtain⟨a,p,b,c,rfl,_⟩:=h;rfl;obtain⟨a,p,b,c,rfl,⟨u,g,e,gt,l,G,I,J,L⟩,⟨M,m,S⟩,q⟩:=h
 refine⟨_,(Aq (AN (i:=2) Ml.nd (Bl Af))
  (Aq (CC CB rfl (Cf (pv 0)) (B7 (n:=2) rfl (AH (Az (i:=3) Ml.nd) (AH (Az (i:=4) Ml.nd) B6))) (Aq (DH (DN Ek PySem.F.slot_list_extend PySem.F.type_list_extend Oa (pv 2) (Ab (A3 R (Ab (pv 3) Af)) Af)))
   (As (DH (DN Ek PySem.F.slot_list_extend PySem.F.type_list_extend Oa (pv 2) (Ab (pv 4) Af))))))
  (Aq (CC CB rfl (Cf (pv 1)) (B7 (n:=2) rfl (AH (Az (i:=5) Ml.nd) (AH (Az (i:=6) Ml.nd) B6))) (Aq (DH (DN Ek E8 E9 Fe (pv 2) (Ab (pv 5) Af)))
   (As (DH (DN Ek E8 E9 Fe (pv 2) (Ab (pv 6) Af))))))
  (As (AW (pv 2)))))),?_⟩
 rfl';refine⟨by decide,λD d=>?_⟩;obtain⟨Y,T,j,r⟩:=new_at (o:=.lst []) d;rw[<-T];refine⟨_,rfl,a,rfl,⟨_,Ag.of (j _ _ l)⟩,FI (Ag.of (j _ _ l)) ?_⟩;refine⟨u,_,rfl,AB.of (j _ _ G),rfl,_,_,rfl,_,_,rfl,rfl,?_⟩;refine⟨_,rfl,p7 ⟨rfl,_,Ag.of r⟩,_,rfl,g,gt,b,rfl,j _ _ I,j _ _ J,λz U X t N=>?_⟩;refine⟨D,z,_,_,rfl,rfl,t _ _ r,N,by show 1<=sizeLine;decide,?_⟩;have v:=Ff (o:=.lst [.str b]) (j.trans t) d;refine⟨_,rfl,p7 ⟨rfl,_,Ag.of Aa⟩,_,rfl,D,e,_,_,rfl,rfl,Aa,v _ _ L,by show 2<=sizeLine;decide,?_⟩;have k:=Ff (o:=.lst [.str b,.str c]) v d;refine⟨Ag.of (k _ _ l),?_⟩;refine⟨_,rfl,p,rfl,⟨_,Ag.of (k _ _ m)⟩,FI (Ag.of (k _ _ m)) ?_⟩;refine⟨M,_,rfl,AB.of (k _ _ S),rfl,_,_,rfl,_,_,rfl,rfl,?_⟩;refine⟨_,rfl,p7 ⟨rfl,_,Ag.of Aa⟩,_,rfl,D,_,_,rfl,rfl,Aa,BQ (by show 2<=1000;decide),?_⟩;have O:=Ff (o:=.lst [.str b,.str c,.str c]) k d;refine⟨_,rfl,p7 ⟨rfl,_,Ag.of Aa⟩,_,rfl,D,_,_,rfl,rfl,Aa,BQ (by show 3<=1000;decide),?_⟩;have x:=Ff (o:=.lst [.str b,.str c,.str c,.str b]) O d;exact⟨Ag.of (x _ _ m),_,rfl,q D _ d x Aa⟩
def Lb (c:Nat):Bool:=decide (97<=c) && decide (c<=122)
def E1 (x:Str):Bool:=decide (1<=x.length) && (decide (x.length<=8) && x.cps.toList.all Lb)
def Lc(c:Nat):(!decide ((⟨#[c]⟩:Str).cps.toList<o9.cps.toList))=decide (97<=c):=by show(!decide (([c]:O')<o9.cps.toList))=_;have e:o9.cps.toList=[97]:=(by decide +kernel);rw[e,Sk];by_cases h:c<97;rw[B2 h,BZ (by omega)];rfl;rw[BZ h,B2 (by omega)];rfl
def Ld(c:Nat):(!decide (("z":Str).cps.toList<(⟨#[c]⟩:Str).cps.toList))=decide (c<=122):=by show(!decide (("z":Str).cps.toList<([c]:O')))=_;have e:("z":Str).cps.toList=[122]:=(by decide +kernel);rw[e,Sk];by_cases h:122<c;rw[B2 h,BZ (by omega)];rfl;rw[BZ h,B2 (by omega)];rfl
def XM (K:Ah):Sp:=λvs H Q _=>∃v,vs=[v] /\
 ((∃x,v=.str x/\x.length<=1000/\∀H',Ad H H'->Q (.bl (E1 x)) H')\/∃T,Hh K H v T/\T≠.str/\Q (.bl false) H)
abbrev QZ(P w K mg base):=Bo P w K mg base "is_name" 1 ["thing"] (XM K)
theorem XN(B:Ba mg)(y:Bb K mg)(F:A4 K "is_name" "is_name" JA f fd)(n:mg "is_name" = some (.ref f)):QZ P w K mg base:=by
 refine BI F n Xn (λo H Q E h=>?_) (λI A J s H o Q E C h=>?_);obtain⟨v,rfl,_⟩:=h;rfl;obtain⟨v,rfl,h⟩:=h
 refine⟨_,(Aq (Bi (PW.pt (IU (HA (Eo (Bq FS B.b_isinstance (Ab (pv 0) (Ab (FD "str" rfl B.b_str (by decide +kernel)) Af))))) (Ge (HA (UL Gk Gk Ao (Bq Fz B.b_len (Ab (pv 0) Af)) (EI (v:=.int 8) rfl (Classical.choose_spec B.c_LONGEST_NAME) ⟨_,rfl⟩)))))) (As (AW Mv)) Bh)
  (As (AW (Bq (P9 rfl) B.b_all (Ab (ES rfl C5 (Kn (pv 0)) (λ_ _ _ _ _=>(Az (i:=0) C5.nd)) (λ_ _ _ _ _=>EA) (λ_ _ _ _ _=>(RF GA GA BS (pv 0) BS))) Af))))),?_⟩
 rfl';rcases h with⟨x,rfl,p,q⟩|⟨T,ty,r,q⟩;have l:x.length<=sizeLine:=CZ (BQ p);refine⟨_,rfl,_,.str,.str,rfl,.str x,_,rfl,AC ?_⟩;refine⟨_,rfl,_,_,rfl,⟨l,rfl⟩,_,_,rfl,rfl,_,rfl,?_⟩;refine Ci (λg=>?_) (λg=>?_);have g:1<=x.length:=by have:=E7 g;omega
 refine⟨_,_,rfl,rfl,_,rfl,?_⟩;refine Ci (λd=>?_) (λd=>?_)
 have d:¬x.length<=8:=λz=>by
  rw[B2 (show((x.length:Nat):Int)<=8 by omega)] at d;cases d
 have e:E1 x=false:=by unfold E1;rw[BZ d];simp
 have:=q H (Ad.refl _);rw[e] at this;exact this;have d:x.length<=8:=(by refine Nat.le_of_not_lt λz=>d ?_;rw[BZ (show ¬((x.length:Nat):Int)<=8 by omega)];rfl);have e:E1 x=(x.cps.toList.map Lb).all id:=(by unfold E1;rw[B2 g,B2 d,List.all_map];rfl);refine⟨_,rfl,_,rfl,Vf (f:=λc=>V.bl (Lb c)) l (λi c U D R G m t k=>?_) (λU D m t u=>?_)⟩;refine⟨_,rfl,_,_,rfl,rfl,_,rfl,?_⟩;show if(!decide ((⟨#[c]⟩:Str).cps.toList<o9.cps.toList))=true then _ else _;rw[show(!decide ((⟨#[c]⟩:Str).cps.toList<o9.cps.toList))=decide (97<=c) from Lc c];refine Ci (λj=>?_) (λj=>?_);refine⟨_,_,rfl,rfl,?_⟩;rw[show(V.bl ((λa b:Str=>!decide (b.cps.toList<a.cps.toList)) ⟨#[c]⟩ "z"))=V.bl (decide (c<=122)) from De V.bl (Ld c)];have:=k U (Ad.refl _);unfold Lb at this;rw[j] at this;exact this;have:=k U (Ad.refl _);unfold Lb at this;rw[Bool.not_eq_true _ |>.mp j] at this;exact this;refine⟨_,x.cps.toList.map Lb,rfl,Ag.of (by rw[Dl];exact u),?_⟩;rw[<-e];exact q U m;have g:¬1<=x.length:=λz=>g (B2 (by omega));have e:E1 x=false:=by unfold E1;rw[BZ g];rfl
 have:=q H (Ad.refl _);rw[e] at this;exact⟨_,rfl,AS this⟩;refine⟨_,rfl,_,.str,T,rfl,ty,_,rfl,?_⟩;cases T with|str=>exact absurd rfl r|_=>exact AS (AS q)
inductive BJ (K:Ah) (vs:R') (H:Hp) (Q:VK):Prop where
 |mk (a p:Addr) (l0 l1:Str) (h0:vs=[.ref a,.ref p]) (h1:Ed H a l0 l1) (h2:DP H p l1 l0) (h3:E1 l0=true) (h4:E1 l1=true) (h5:∀H',Ad H H'->Q .non H'):BJ K vs H Q
def XO (K:Ah):Sp:=λvs H Q _=>BJ K vs H Q
abbrev Q0(P w K mg base):=Bo P w K mg base "refuse_no_names" 3 ["states", "pairs"] (XO K)
def XQ(B:Ba mg)(J:Bb K mg)(D:QY P w K mg base)(G:QZ P w K mg base)(F:A4 K "refuse_no_names" "refuse_no_names" Lq f fd)(o:mg "refuse_no_names" = some (.ref f)):Q0 P w K mg base:=by
 refine BI F o T9 (λr H Q E h=>?_) (λS A W s H r Q E L h=>?_);obtain⟨a,p,c,d,rfl,_⟩:=h;rfl;obtain⟨a,p,c,d,rfl,t,u,M,N,q⟩:=h;refine⟨_,(As (CC CB rfl (Cf (A3 D (Ab (pv 0) (Ab (pv 1) Af)))) (Az (i:=2) T9.nd) (As (Bi (HA (Eo (A3 G (Ab (pv 2) Af)))) (As Gg) Bh)))),?_⟩;rfl';refine⟨_,rfl,_,rfl,a,p,c,d,rfl,t,u,λl Y O v m=>?_⟩;refine⟨l,rfl,⟨_,Ag.of m⟩,EJ (xs:=[c,d,d,c].map V.str) (λi σ n=>∃j,σ=[some (.ref a),some (.ref p),j]/\Ad Y n) ⟨none,rfl,Ad.refl _⟩ (λi σ n _ I=>by obtain⟨_,_,e⟩:=I;exact Ag.of (e _ _ m)) ?_ ?_⟩;rintro i x σ U y ⟨j,rfl,k⟩;obtain⟨b,z,rfl⟩:=Kr y;have g:E1 b=true:=(by have:=Ei z;simp only[BL,List.not_mem_nil,or_false] at this;rcases this with rfl|rfl|rfl|rfl<;>assumption);have T:b.length<=8:=(by unfold E1 at g;rw[Bool.and_eq_true,Bool.and_eq_true] at g;exact E7 g.2.1);refine⟨_,rfl,_,rfl,p7 ⟨b,rfl,by omega,λR C=>?_⟩⟩;rw[g];exact⟨_,rfl,AC ⟨_,rfl,k.trans C⟩⟩;rintro σ U ⟨j,rfl,k⟩;exact q U (v.trans k)
def Le:Ty->Bool
 |.int=>true
 |_=>false
def XR (K:Ah):Sp:=λvs H Q _=>∃v T,vs=[v]/\Hh K H v T/\Q (.bl (Le T)) H
abbrev Q1(P w K mg base):=Bo P w K mg base "is_whole" 1 ["thing"] (XR K)
theorem XS(B:Ba mg)(c:Bb K mg)(F:A4 K "is_whole" "is_whole" Lr f fd)(a:mg "is_whole" = some (.ref f)):Q1 P w K mg base:=by
 refine BI F a Xo (λb H Q E h=>?_) (λe A g s H b Q E d h=>?_);obtain⟨v,T,rfl,_⟩:=h;rfl;obtain⟨v,T,rfl,ty,q⟩:=h;refine⟨_,(As (AW (IV (Bq FS B.b_isinstance (Ab (pv 0) (Ab (FD "int" rfl B.b_int (by decide +kernel)) Af))) (JS (Gf (Bq FS B.b_isinstance (Ab (pv 0) (Ab (FD "bool" rfl B.b_bool (by decide +kernel)) Af)))))))),?_⟩;rfl';refine⟨_,rfl,_,.int,T,rfl,ty,_,rfl,?_⟩;cases T with|int=>exact AS ⟨_,rfl,_,.bool,.int,rfl,ty,_,rfl,q⟩|bool=>exact AS ⟨_,rfl,_,.bool,.bool,rfl,ty,_,rfl,q⟩|_=>exact AC q
inductive Dy (K:Ah) (vs:R') (H:Hp) (Q:VK):Prop where
 |mk (n m:Int) (h0:vs=[.int n,.int m]) (h1:0<=n) (h2:n<m) (h3:Q (.bl true) H):Dy K vs H Q
def XT (K:Ah):Sp:=λvs H Q _=>Dy K vs H Q
abbrev Q2(P w K mg base):=Bo P w K mg base "is_place" 2 ["number", "many"] (XT K)
def XU(B:Ba mg)(i:Bb K mg)(g:Q1 P w K mg base)(F:A4 K "is_place" "is_place" Lu f fd)(a:mg "is_place" = some (.ref f)):Q2 P w K mg base:=by refine BI F a Xp (λb H Q E h=>?_) (λk A l s H b Q E j h=>?_);obtain⟨n,m,rfl,_⟩:=h;rfl;obtain⟨n,m,rfl,c,d,q⟩:=h;refine⟨_,(As (AW (IV (A3 g (Ab (pv 0) Af)) (JS (RF Gk MI Ao (pv 0) (pv 1)))))),?_⟩;rfl';refine⟨_,rfl,_,.int,rfl,.int n,_,rfl,AS ?_⟩;refine⟨_,rfl,_,_,rfl,rfl,_,rfl,?_⟩;rw[B2 c];refine AS ⟨_,rfl,_,_,rfl,rfl,?_⟩;have e:V.bl true=V.bl (decide (n<m)):=(by rw[B2 d]);rw[e] at q;exact q
inductive Bz (K:Ah) (vs:R') (H:Hp) (Q:VK):Prop where
 |mk (a:Addr) (l0 l1:Str) (h0:vs=[.ref a,.int 0]) (h1:Ed H a l0 l1) (h2:Q .non H):Bz K vs H Q
def XV (K:Ah):Sp:=λvs H Q _=>Bz K vs H Q
abbrev Q3(P w K mg base):=Bo P w K mg base "refuse_no_places" 3 ["states", "inner"] (XV K)
theorem XW(B:Ba mg)(r:Bb K mg)(d:Q2 P w K mg base)(F:A4 K "refuse_no_places" "refuse_no_places" Lv f fd)(j:mg "refuse_no_places" = some (.ref f)):Q3 P w K mg base:=by
 refine BI F j NE (λk H Q E h=>?_) (λx A y s H k Q E t h=>?_);obtain⟨a,l,m,rfl,_⟩:=h;rfl;obtain⟨a,l,m,rfl,⟨u,g,e,gt,b,o,c,p,v⟩,q⟩:=h
 refine⟨_,(Aq (Bi (HA (Ss (pv 0))) (As Gg) Bh)
  (Aq (Bi (HA (Eo (A3 d (Ab (pv 1) (Ab (Bq Fz B.b_len (Ab (pv 0) Af)) Af))))) (As Gg) Bh)
  (As (CC CB rfl (Cf (pv 0)) (B7 (n:=2) rfl (AH (Az (i:=2) NE.nd) (AH (Az (i:=3) NE.nd) B6))) (As (CC CB rfl (Cf (pv 2)) (B7 (n:=2) rfl (AH (Az (i:=4) NE.nd) (AH (Az (i:=5) NE.nd) B6))) (As (Bi (HA (Eo (A3 d (Ab (pv 5) (Ab (Bq Fz B.b_len (Ab (pv 0) Af)) Af))))) (As Gg) Bh)))))))),?_⟩
 rfl';refine⟨_,rfl,a,_,rfl,Ag.of b,AC ?_⟩;refine⟨_,rfl,_,rfl,_,_,rfl,p7 ⟨_,Ag.of b,rfl⟩,0,_,rfl,by decide,by show(0:Int)<1;decide,_,rfl,AC ?_⟩;refine⟨_,rfl,a,rfl,⟨_,Ag.of b⟩,FI (Ag.of b) ?_⟩;refine⟨u,_,rfl,AB.of o,rfl,_,_,rfl,_,_,rfl,rfl,?_⟩;refine⟨_,rfl,g,rfl,⟨_,Ag.of c⟩,FI (Ag.of c) ?_⟩;refine⟨gt,_,rfl,AB.of p,rfl,_,_,rfl,_,_,rfl,rfl,?_⟩;exact⟨_,rfl,_,rfl,_,_,rfl,p7 ⟨_,Ag.of b,rfl⟩,0,_,rfl,by decide,by show(0:Int)<1;decide,_,rfl,AC ⟨Ag.of c,Ag.of b,q⟩⟩
inductive Ck (K:Ah) (vs:R') (H:Hp) (Q:VK):Prop where
 |mk (l:Addr) (ls:G') (h0:vs=[.ref l]) (h1:Ag K H l (ls.map V.str)) (h2:ls.length<=1000) (h3:ls.Nodup) (h4:∀H',Ad H H'->Q (.bl false) H'):Ck K vs H Q
def XX (K:Ah):Sp:=λvs H Q _=>Ck K vs H Q
abbrev Q4(P w K mg base):=Bo P w K mg base "is_one_twice" 1 ["labels"] (XX K)
theorem XY(B:Ba mg)(m:Bb K mg)(F:A4 K "is_one_twice" "is_one_twice" Lw f fd)(i:mg "is_one_twice" = some (.ref f)):Q4 P w K mg base:=by
 refine BI F i Xq (λj H Q E h=>?_) (λr A t s H j Q E p h=>?_);obtain⟨l,a,rfl,_⟩:=h;rfl;obtain⟨l,a,rfl,b,e,g,q⟩:=h;refine⟨_,(As (AW (Ja MI (Bq Vv B.b_len (Ab (MJ (Vu rfl) B.b_set (Ab (pv 0) Af)) Af)) (Bq Fz B.b_len (Ab (pv 0) Af)) (B3 _)))),?_⟩;rfl';refine⟨_,rfl,l,a,rfl,b,e,λs n c d=>?_⟩;refine⟨_,n,rfl,Aa,by rw[c.mpr g];exact e,_,rfl,_,a.length,rfl,p7 ⟨_,(AJ d).seq b,by rw[AD]⟩,_,_,rfl,rfl,?_⟩
 have k:∀o,Q (V.bl (decide ((n:Int)<(a.length:Int)))) (upd H s o):=λo=>by
  have:=q _ (AJ (o:=o) d);rw[show V.bl false=V.bl (decide ((n:Int)<(a.length:Int))) by rw[c.mpr g,BZ (by omega)]] at this;exact this
 exact k _
inductive Cm (K:Ah) (vs:R') (H:Hp) (Q:VK):Prop where
 |mk (a:Addr) (l0 l1:Str) (h0:vs=[.ref a]) (h1:Ed H a l0 l1) (h2:∀H',Ad H H'->Q .non H'):Cm K vs H Q
def XZ (K:Ah):Sp:=λvs H Q _=>Cm K vs H Q
abbrev Q5(P w K mg base):=Bo P w K mg base "refuse_twice" 2 ["states"] (XZ K)
def X4(B:Ba mg)(I:Bb K mg)(m:Q4 P w K mg base)(G:O0 P w K mg base)(F:A4 K "refuse_twice" "refuse_twice" Lx f fd)(o:mg "refuse_twice" = some (.ref f)):Q5 P w K mg base:=by
 refine BI F o QS (λp H Q E h=>?_) (λO A R s H p Q E J h=>?_);obtain⟨a,b,j,rfl,_⟩:=h;rfl;obtain⟨a,b,j,rfl,⟨u,g,e,gt,c,r,t,v,x⟩,q⟩:=h
 refine⟨_,(As (CC CB rfl (Cf (pv 0)) (B7 (n:=2) rfl (AH (Az (i:=1) QS.nd) (AH (Az (i:=2) QS.nd) B6))) (Aq (Bi (Eo (A3 m (Ab (A3 G (Ab (pv 1) Af)) Af))) (As Gg) Bh)
  (As (Bi (Eo (A3 m (Ab (pv 2) Af))) (As Gg) Bh))))),?_⟩
 rfl';refine⟨_,rfl,a,rfl,⟨_,Ag.of c⟩,FI (Ag.of c) ?_⟩;refine⟨u,_,rfl,AB.of r,rfl,_,_,rfl,_,_,rfl,rfl,?_⟩;refine⟨_,rfl,g,gt,b,rfl,t,v,λl L M y z=>?_⟩;refine⟨l,[b],rfl,Ag.of z,Lk rfl,by simp,λN C=>⟨_,rfl,AC ?_⟩⟩;have d:=y.trans C;exact⟨_,rfl,e,[j],rfl,Ag.of (d _ _ x),Lk rfl,by simp,λD k=>⟨_,rfl,AC ⟨Ag.of ((d.trans k) _ _ c),q D (d.trans k)⟩⟩⟩
inductive BK (K:Ah) (vs:R') (H:Hp) (Q:VK):Prop where
 |mk (p:Addr) (b w:Str) (h0:vs=[.ref p]) (h1:DP H p b w) (h2:∀d l H',H d=none->H l=none->Ad H H'->H' d=some (.dK [(Sum.inr b,.ref l)])->H' l=some (.lst [.str w])->Q (.ref d) H'):BK K vs H Q
def X5 (K:Ah):Sp:=λvs H Q _=>BK K vs H Q
abbrev Q6(P w K mg base):=Bo P w K mg base "worse_by_better" 1 ["pairs"] (X5 K)
def X6(B:Ba mg)(I:Bb K mg)(F:A4 K "worse_by_better" "worse_by_better" Ly f fd)(t:mg "worse_by_better" = some (.ref f)):Q6 P w K mg base:=by
 refine BI F t OP (λu H Q E h=>?_) (λL A M s H u Q E J h=>?_);obtain⟨p,b,w,rfl,_⟩:=h;rfl;obtain⟨p,b,w,rfl,⟨x,e,D⟩,q⟩:=h
 refine⟨_,(Aq (AN (i:=1) OP.nd R8)
  (Aq (CC CB rfl (Cf (pv 0)) (B7 (n:=2) rfl (AH (Az (i:=2) OP.nd) (AH (Az (i:=3) OP.nd) B6))) (As (DH (DN Ek E8 E9 Fe (DN PySem.F.plainAttrs_dict PySem.F.slot_dict_setdefault PySem.F.type_dict_setdefault Vm (pv 1) (Ab (pv 2) (Ab (Bl Af) Af))) (Ab (pv 3) Af)))))
  (As (AW (pv 1))))),?_⟩
 rfl';intro d hd;obtain⟨Y,G,c,g⟩:=new_at (o:=.dK []) hd;rw[<-G];refine⟨_,rfl,p,rfl,⟨_,Ag.of (c _ _ e)⟩,FI (Ag.of (c _ _ e)) ?_⟩;refine⟨x,_,rfl,AB.of (c _ _ D),rfl,_,_,rfl,_,_,rfl,rfl,?_⟩;refine⟨_,rfl,p8 (p8 (p7 ⟨rfl,p7 ⟨_,g⟩⟩)),_,rfl,by decide,λa l=>?_⟩;have j:d≠a:=AM g l;have k:H a=none:=c.free l;refine⟨d,[],Sum.inr b,.ref a,rfl,rfl,by rw[Ax j];exact g,BQ (A9 _),(λv y=>by cases y),λ_=>?_⟩;have z:=Ff (o:=.lst []) c k;have C:=Ff (o:=.dK [(Sum.inr b,.ref a)]) z hd;have m:(upd (upd Y a (.lst [])) d (.dK [(Sum.inr b,.ref a)])) a=some (.lst []):=(by rw[Ax j.symm,Aa]);refine⟨p7 ⟨rfl,_,Ag.of m⟩,_,rfl,a,_,_,rfl,rfl,m,BQ (by decide),?_⟩;have r:=Ff (o:=.lst [.str w]) C k;refine⟨Ag.of (r _ _ e),_,rfl,q d a _ hd k r ?_ Aa⟩;rw[Ax j,Aa];rfl
inductive DW (K:Ah) (vs:R') (H:Hp) (Q:VK):Prop where
 |mk (d l:Addr) (b w:Str) (h0:vs=[.ref d,.str b]) (h1:b≠w) (h2:H d=some (.dK [(Sum.inr b,.ref l)])) (h3:H l=some (.lst [.str w])) (h4:∀c H',H c=none->Ad H H'->H' c=some (.dK [(Sum.inr w,.str b)])->Q (.ref c) H'):DW K vs H Q
def X7 (K:Ah):Sp:=λvs H Q _=>DW K vs H Q
abbrev Q7(P w K mg base):=Bo P w K mg base "reached" 1 ["worse_labels", "start"] (X7 K)
def X8(aq:Ba mg)(ER:Bb K mg)(F:A4 K "reached" "reached" Lz f fd)(L:mg "reached" = some (.ref f)):Q7 P w K mg base:=by
 refine BI F L K1 (λvs H ae af h=>?_) (λaw ar az au H vs ae af M h=>?_);obtain⟨d,l,b,w,rfl,_⟩:=h;rfl;obtain⟨d,l,b,w,rfl,aj,E,N,ag⟩:=h;have vb:AZ ([(Sum.inr b,.ref l)]:List (A2×V)) (Sum.inr b)=some (.ref l):=(by simp[AZ]);have vw:AZ ([(Sum.inr b,.ref l)]:List (A2×V)) (Sum.inr w)=none:=(by simp[AZ,aj])
 refine⟨_,(Aq (AN (i:=2) K1.nd R8)
  (Aq (AN (i:=3) K1.nd (Bl (Ab (pv 1) Af)))
  (Aq (Rx CB (Ss (pv 3)) (Aq (AN (i:=4) K1.nd (Bl Af))
   (Aq (CC CB rfl (Cf (pv 3)) (Az (i:=5) K1.nd) (As (CC CB rfl (Cf (DN PySem.F.plainAttrs_dict PySem.F.slot_dict_get PySem.F.type_dict_get (Kq (Km M)) (pv 0) (Ab (pv 5) (Ab (Bl Af) Af)))) (Az (i:=6) K1.nd) (As (Bi (Cc (Vo (Km M)) (pv 6) (pv 2) (by with_unfolding_all rfl)) (Aq (Ey (pv 5) (Gh (pv 2) (pv 6) (Vq (Km M))))
         (As (DH (DN Ek E8 E9 Fe (pv 4) (Ab (pv 6) Af))))) Bh)))))
   (As (AN (i:=3) K1.nd (pv 4))))))
  (As (AW (pv 2)))))),?_⟩
 rfl';intro c G;refine⟨_,rfl,Ks,λg O=>?_⟩;have ak:H g=none:=(AJ G).free O;have al:c≠g:=AM Aa O;refine⟨λm σ e=>∃(S n p:U')(g:Addr)(x:R')(y:List (A2×V)),σ=[some (.ref d),some (.str b),some (.ref c),some (.ref g),S,n,p]/\Ad H e/\H g=none/\e c=some (.dK y)/\e g=some (.lst x)/\((m=2/\x=[.str b]/\y=[])\/(m=1/\x=[.str w]/\y=[(Sum.inr w,.str b)])\/(m=0/\x=[]/\y=[(Sum.inr w,.str b)])),⟨2,none,none,none,g,_,_,rfl,(AJ G).trans (AJ O),ak,by rw[Ax al,Aa],Aa,.inl ⟨rfl,rfl,rfl⟩⟩,?_⟩;refine λm σ Y C=>BC λT s=>?_;obtain⟨S,n,p,g,x,y,rfl,z,ax,A,t,L⟩:=C;refine s ?_;clear s;refine⟨_,rfl,g,_,rfl,Ag.of t,?_⟩;rcases L with⟨rfl,rfl,rfl⟩|⟨rfl,rfl,rfl⟩|⟨rfl,rfl,rfl⟩;refine AS ⟨λσ' e=>∃n p a,σ'=[some (.ref d),some (.str b),some (.ref c),some (.ref a),some (.ref a),n,p]/\Ad H e/\H a=none/\e c=some (.dK [(Sum.inr w,.str b)])/\e a=some (.lst [.str w]),?_,?_⟩;refine λσ' e C=>BC λT s=>?_;obtain⟨n,p,a,rfl,j,r,u,Q⟩:=C;refine s ?_;clear s;exact⟨1,by decide,_,n,p,a,_,_,rfl,j,r,u,Q,.inr (.inl ⟨rfl,rfl,rfl⟩)⟩;refine⟨by decide,λa r=>?_⟩;have D:H a=none:=z.free r;have R:c≠a:=AM A r;have X:g≠a:=AM t r;have an:c≠g:=NV A t (by intro ah;cases ah);have j:=Ff (o:=.lst []) z D;have J:(upd Y a (.lst [])) g=some (.lst [.str b]):=by rw[Ax X];exact t
 have u:(upd Y a (.lst [])) c=some (.dK []):=by rw[Ax R];exact A
 have aa:(upd Y a (.lst [])) a=some (.lst []):=Aa;generalize upd Y a (.lst [])=U at j J u aa ⊢;refine⟨_,rfl,g,rfl,⟨_,Ag.of J⟩,FI (Ag.of J) ?_⟩;refine⟨_,rfl,p8 (p8 (p7 ⟨rfl,p7 ⟨_,j _ _ E⟩⟩)),_,rfl,by decide,λB I=>?_⟩;have ay:H B=none:=j.free I;have q:=AJ (o:=.lst []) I;have v:=j.trans q;refine⟨d,_,_,_,rfl,rfl,Ch.k (k:=Sum.inr b) (v _ _ E),?_⟩;rw[vb];refine⟨l,rfl,⟨_,Ag.of (v _ _ N)⟩,FI (Ag.of (v _ _ N)) ?_⟩;refine⟨_,rfl,_,rfl,c,_,rfl,Ch.k (k:=Sum.inr w) (q _ _ u),_,rfl,AS ?_⟩;refine⟨_,rfl,_,rfl,_,rfl,c,_,rfl,Gx.k (k:=Sum.inr w) (q _ _ u) (BQ (A9 _)),?_⟩;have s4:=Ff (o:=.dK [(Sum.inr w,.str b)]) v G;have ab:(upd (upd U B (.lst [])) c (.dK [(Sum.inr w,.str b)])) a=some (.lst []):=by rw[Ax R.symm];exact q _ _ aa
 have ao:(upd (upd U B (.lst [])) c (.dK [(Sum.inr w,.str b)])) g=some (.lst [.str b]):=by rw[Ax an.symm];exact q _ _ J
 refine⟨_,rfl,p7 ⟨rfl,_,Ag.of ab⟩,_,rfl,a,_,_,rfl,rfl,ab,BQ (A9 _),?_⟩;have W:=Ff (o:=.lst [.str w]) s4 D;refine⟨Ag.of (W _ _ N),Ag.of (by rw[Ax X];exact ao),?_⟩;exact⟨_,rfl,_,_,a,rfl,W,D,by rw[Ax R,Aa];rfl,Aa⟩;refine AS ⟨λσ' e=>∃n p a,σ'=[some (.ref d),some (.str b),some (.ref c),some (.ref a),some (.ref a),n,p]/\Ad H e/\H a=none/\e c=some (.dK [(Sum.inr w,.str b)])/\e a=some (.lst []),?_,?_⟩;refine λσ' e C=>BC λT s=>?_;obtain⟨n,p,a,rfl,j,r,u,Q⟩:=C;refine s ?_;clear s;exact⟨0,by decide,_,n,p,a,_,_,rfl,j,r,u,Q,.inr (.inr ⟨rfl,rfl,rfl⟩)⟩;refine⟨by decide,λa r=>?_⟩;have D:H a=none:=z.free r;have j:=AJ (o:=.lst []) r;have Z:=z.trans j;refine⟨_,rfl,g,rfl,⟨_,Ag.of (j _ _ t)⟩,FI (Ag.of (j _ _ t)) ?_⟩;refine⟨_,rfl,p8 (p8 (p7 ⟨rfl,p7 ⟨_,Z _ _ E⟩⟩)),_,rfl,by decide,λB I=>?_⟩;have q:=AJ (o:=.lst []) I;have v:=Z.trans q;refine⟨d,_,_,_,rfl,rfl,Ch.k (k:=Sum.inr w) (v _ _ E),?_⟩;rw[vw];refine⟨B,rfl,⟨_,Ag.of Aa⟩,EJ (xs:=[]) (λi σ' e=>σ'=_/\e=_) ⟨rfl,rfl⟩ (λi σ' e _ ai=>by rw[ai.2];exact Ag.of Aa) (λi av σ' e hx=>by simp at hx) ?_⟩;rintro σ' e ⟨rfl,rfl⟩;exact⟨Ag.of (q _ _ (j _ _ t)),_,rfl,_,_,a,rfl,v,D,q _ _ (j _ _ A),q _ _ Aa⟩;exact AC ⟨_,rfl,ag c Y G z A⟩
inductive BA (K:Ah) (vs:R') (H:Hp) (Q:VK):Prop where
 |mk (p:Addr) (b w:Str) (h0:vs=[.ref p]) (h1:b≠w) (h2:DP H p b w) (h3:∀(D t:Addr)(H':Hp),H D=none->Ad H H'->H' D=some (.lst [.ref t])->H' t=some (.tup [.str b,.str w])->Q (.ref D) H'):BA K vs H Q
def X9 (K:Ah):Sp:=λvs H Q _=>BA K vs H Q
abbrev Q8(P w K mg base):=Bo P w K mg base "all_that_follows" 2 ["pairs"] (X9 K)
theorem Yb(B:Ba mg)(ER:Bb K mg)(aa:Q6 P w K mg base)(ab:Q7 P w K mg base)(F:A4 K "all_that_follows" "all_that_follows" LA f fd)(R:mg "all_that_follows" = some (.ref f)):Q8 P w K mg base:=by
 refine BI F R NF (λT H Q E h=>?_) (λar ao au aq H T Q E hr h=>?_);obtain⟨p,b,w,rfl,_⟩:=h;rfl;obtain⟨p,b,w,rfl,ae,W,q⟩:=h
 refine⟨_,(Aq (AN (i:=1) NF.nd (A3 aa (Ab (pv 0) Af)))
  (Aq (AN (i:=2) NF.nd (Bl Af))
  (Aq (CC CB rfl (Cf (Bq (SA rfl) B.b_sorted (Ab (pv 1) Af))) (Az (i:=3) NF.nd) (As (CC CB rfl (Cf (Bq (SA rfl) B.b_sorted (Ab (A3 ab (Ab (pv 1) (Ab (pv 3) Af))) Af))) (Az (i:=4) NF.nd) (As (DH (DN Ek E8 E9 Fe (pv 2) (Ab (Bf (Ab (pv 3) (Ab (pv 4) Af))) Af)))))))
  (As (AW (pv 2)))))),?_⟩
 rfl';refine⟨_,rfl,p,b,w,rfl,W,λd l Y hd hl x y X=>?_⟩;refine⟨by decide,λD z=>?_⟩;have L:H D=none:=x.free z;have g:=AJ (o:=.lst []) z;have M:=x.trans g;have r:(upd Y D (.lst [])) D=some (.lst []):=Aa;generalize upd Y D (.lst [])=U at g M r ⊢;refine⟨_,rfl,d,_,[b],rfl,g _ _ y,rfl,Lk rfl,λS j af _ A=>?_⟩;have a:=AJ (o:=.lst (j.map V.str)) A;have k:(upd U S (.lst (j.map V.str))) S=some (.lst (j.map V.str)):=Aa;have ag:S≠D:=Na r A;generalize upd U S (.lst (j.map V.str))=H3 at a k ⊢;obtain rfl:=SI af;have ah:=M.trans a;have N:=g.trans a;refine⟨S,rfl,⟨_,Ag.of k⟩,FI (Ag.of k) ?_⟩;refine⟨_,rfl,_,rfl,d,l,b,w,rfl,ae,N _ _ y,N _ _ X,λc C hc G Z=>?_⟩;refine⟨c,_,[w],rfl,Z,rfl,Lk rfl,λe m ai _ O=>?_⟩;have I:=AJ (o:=.lst (m.map V.str)) O;have s:(upd C e (.lst (m.map V.str))) e=some (.lst (m.map V.str)):=Aa;have an:e≠D:=Na (G _ _ (a _ _ r)) O;generalize upd C e (.lst (m.map V.str))=H6 at I s ⊢;obtain rfl:=SI ai;have u:=G.trans I;refine⟨e,rfl,⟨_,Ag.of s⟩,FI (Ag.of s) ?_⟩;have v:=u _ _ (a _ _ r);refine⟨_,rfl,p7 ⟨rfl,_,Ag.of v⟩,_,rfl,_,rfl,Ct,λt J=>?_⟩;have n:=AJ (o:=.tup [.str b,.str w]) J;have aj:=n _ _ v;have ak:t≠D:=Na v J;refine⟨D,_,_,rfl,rfl,aj,BQ (A9 _),?_⟩;have al:=(ah.trans u).trans n;refine⟨Ag.of (by rw[Ax an];exact n _ _ s),Ag.of (by rw[Ax ag];exact n _ _ (u _ _ k)),?_⟩;exact⟨_,rfl,q D t _ L (Ff al L) Aa (by rw[Ax ak,Aa])⟩
inductive Dz (K:Ah) (vs:R') (H:Hp) (Q:VK):Prop where
 |mk (p:Addr) (b w:Str) (h0:vs=[.ref p]) (h1:b≠w) (h2:DP H p b w) (h3:∀(D t:Addr)(H':Hp),H D=none->Ad H H'->H' D=some (.lst [.ref t])->H' t=some (.tup [.str b,.str w])->Q (.ref D) H'):Dz K vs H Q
def Yc (K:Ah):Sp:=λvs H Q _=>Dz K vs H Q
abbrev Q9(P w K mg base):=Bo P w K mg base "order_of" 3 ["pairs"] (Yc K)
def Yd(B:Ba mg)(o:Bb K mg)(m:Q8 P w K mg base)(F:A4 K "order_of" "order_of" LB f fd)(e:mg "order_of" = some (.ref f)):Q9 P w K mg base:=by
 refine BI F e OQ (λg H Q E h=>?_) (λu A v s H g Q E r h=>?_);obtain⟨p,b,w,rfl,_⟩:=h;rfl;obtain⟨p,b,w,rfl,d,j,q⟩:=h
 refine⟨_,(Aq (AN (i:=1) OQ.nd (A3 m (Ab (pv 0) Af)))
  (Aq (CC CB rfl (Cf (pv 1)) (B7 (n:=2) rfl (AH (Az (i:=2) OQ.nd) (AH (Az (i:=3) OQ.nd) B6))) (As (Bi (Cc DI (pv 2) (pv 3) (B3 _)) (As Gg) Bh)))
  (As (AW (pv 1))))),?_⟩
 try dsimp only[Au,Cx.nox,Cx.wish]
 refine⟨_,rfl,p,b,w,rfl,d,j,λD t Y k l a c=>?_⟩;refine⟨_,rfl,D,rfl,⟨_,Ag.of a⟩,FI (Ag.of a) ?_⟩;refine⟨t,_,rfl,AB.of c,rfl,_,_,rfl,_,_,rfl,rfl,?_⟩;refine⟨_,rfl,_,rfl,rfl,_,rfl,?_⟩;rw[show decide (V.str b=V.str w)=false from BZ λz=>d (V.str.inj z)];exact AC ⟨Ag.of a,_,rfl,q D t _ k l a c⟩
inductive Cn (K:Ah) (vs:R') (H:Hp) (Q:VK):Prop where
 |mk (g e gt:Addr) (l0 l1:Str) (h0:vs=[.ref g,.ref e]) (h1:H g=some (.lst [.ref gt])) (h2:H gt=some (.tup [.str l0,.int 0])) (h3:H e=some (.lst [.str l1])) (h4:∀(t G E gu:Addr)(H':Hp),H t=none->Ad H H'->H' t=some (.tup [.ref G,.ref E])->H' G=some (.lst [.ref gu])->H' gu=some (.tup [.str l0,.int 0])->H' E=some (.lst [.str l1])->Q (.ref t) H'):Cn K vs H Q
def Ye (K:Ah):Sp:=λvs H Q _=>Cn K vs H Q
abbrev Ra(P w K mg base):=Bo P w K mg base "sorted_state" 1 ["goes", "ends"] (Ye K)
theorem Yg(B:Ba mg)(ER:Bb K mg)(F:A4 K "sorted_state" "sorted_state" JB f fd)(I:mg "sorted_state" = some (.ref f)):Ra P w K mg base:=by
 refine BI F I Xr (λJ H Q E h=>?_) (λan ah ao ai H J Q E hr h=>?_);obtain⟨g,e,gt,a,r,rfl,_⟩:=h;rfl;obtain⟨g,e,gt,a,r,rfl,j,b,L,q⟩:=h;refine⟨_,(As (AW (Bf (Ab (Bq (SH M7 M8) B.b_sorted (Ab (ES (g:=Fx K 2 (Fw (Eb 0) (Fw (Eb 1) Fv))) rfl Be (Cf (pv 0)) (λ_ _ _ _ _=>(B7 (n:=2) rfl (AH (Az (i:=0) Be.nd) (AH (Az (i:=1) Be.nd) B6)))) (λ_ _ _ _ _=>EA) (λ_ _ _ _ _=>(Bf (Ab (pv 0) (Ab (pv 1) Af))))) Af)) (Ab (Bq VF B.b_sorted (Ab (pv 1) Af)) Af))))),?_⟩;rfl';refine⟨_,rfl,g,rfl,⟨_,Ag.of j⟩,Qn (Ag.of j) λD aj s k=>?_⟩;obtain⟨ak,Z,u,v⟩:=new_at (o:=.lst []) s;rw[<-Z];refine⟨gt,_,rfl,AB.of (u _ _ b),rfl,_,_,rfl,_,_,rfl,rfl,?_⟩;refine⟨_,rfl,_,rfl,Ct,λz x=>?_⟩;obtain⟨U,aa,y,M⟩:=new_at (o:=.tup [.str a,.int 0]) x;rw[<-aa];have N:z≠D:=Na v x;have c:=Ff (o:=.lst [.ref z]) (u.trans y) s;have A:(upd U D (.lst [.ref z])) D=some (.lst [.ref z]):=Aa;have p:(upd U D (.lst [.ref z])) z=some (.tup [.str a,.int 0]):=by rw[Ax N];exact M
 refine k _ _ (y _ _ v) (Ag.of (c _ _ j)) ?_;generalize upd U D (.lst [.ref z])=H3 at c A p ⊢;refine⟨D,[(.ref z,(a,0))],rfl,Ag.of A,Lk rfl,λal O=>by rw[BY.mp O];exact⟨z,rfl,AB.of p⟩,λG ab R _ S=>?_⟩;obtain⟨H4,ae,l,T⟩:=new_at (o:=.lst (ab.map (·.1))) S;rw[<-ae];obtain rfl:=List.perm_singleton.mp R;refine⟨_,rfl,e,[r],rfl,Ag.of (l _ _ (c _ _ L)),Lk rfl,λE W af _ X=>?_⟩;obtain⟨H5,ag,m,Y⟩:=new_at (o:=.lst (W.map V.str)) X;rw[<-ag];obtain rfl:=List.perm_singleton.mp af;refine⟨Ct,λt b=>?_⟩;have d:=AJ (o:=.tup [.ref G,.ref E]) b;have C:=(c.trans l).trans m;exact q t G E z _ (C.free b) (C.trans d) Aa (d _ _ (m _ _ T)) (d _ _ (m _ _ (l _ _ p))) (d _ _ Y)
inductive DC (K:Ah) (vs:R') (H:Hp) (Q:VK):Prop where
 |mk (a p:Addr) (l0 l1:Str) (h0:vs=[.ref a,.int 0,.ref p]) (h1:l1≠l0) (h2:Ed H a l0 l1) (h3:DP H p l1 l0) (h4:E1 l0=true) (h5:E1 l1=true) (h6:∀(t:Addr)(H':Hp),H t=none->Ad H H'->Ca K H' t l0 l1->Q (.ref t) H'):DC K vs H Q
def Yh (K:Ah):Sp:=λvs H Q _=>DC K vs H Q
abbrev O1(P w K mg base):=Bo P w K mg base "table_of" 4 ["states", "inner", "pairs"] (Yh K)
def Yi(al:Ba mg)(ER:Bb K mg)(aa:QX P w K mg base)(ab:Q0 P w K mg base)(ae:Q3 P w K mg base)(af:Q5 P w K mg base)(ag:Q9 P w K mg base)(ah:Ra P w K mg base)(F:A4 K "table_of" "table_of" JC f fd)(V:mg "table_of" = some (.ref f)):O1 P w K mg base:=by
 refine BI F V Ua (λW H Q E h=>?_) (λav an ax ao H W Q E hr h=>?_);obtain⟨a,p,b,c,rfl,_⟩:=h;rfl;obtain⟨a,p,b,c,rfl,ai,l,x,X,Y,q⟩:=h
 refine⟨_,(Aq (DH (A3 aa (Ab (pv 0) (Ab (pv 2) Af))))
  (Aq (DH (A3 ab (Ab (pv 0) (Ab (pv 2) Af))))
  (Aq (DH (A3 ae (Ab (pv 0) (Ab (pv 1) Af))))
  (Aq (DH (A3 af (Ab (pv 0) Af)))
  (Aq (AN (i:=3) Ua.nd (A3 ag (Ab (pv 2) Af)))
  (As (AW (Bf (Ab (ES (g:=Fx K 2 (Fw (Eb 0) (Fw (Eb 1) Fv))) rfl B5 (Cf (pv 0)) (λ_ _ _ _ _=>(B7 (n:=2) rfl (AH (Az (i:=0) B5.nd) (AH (Az (i:=1) B5.nd) B6)))) (λ_ _ _ _ _=>EA) (λ_ _ _ _ _=>(A3 ah (Ab (pv 0) (Ab (pv 1) Af))))) (Ab (pv 1) (Ab (pv 3) Af))))))))))),?_⟩
 rfl';refine⟨_,rfl,_,rfl,a,p,b,c,rfl,l,x,?_⟩;refine⟨_,rfl,_,rfl,a,p,b,c,rfl,l,x,X,Y,λaq y=>?_⟩;refine⟨_,rfl,_,rfl,a,b,c,rfl,l.same y,?_⟩;refine⟨_,rfl,a,b,c,rfl,l.same y,λar Z=>?_⟩;have T:=y.trans Z;refine⟨_,rfl,p,c,b,rfl,ai,x.same T,λo pr O ho s3 eo ep=>?_⟩;have r:=T.trans s3;refine BC λNz U=>?_;obtain⟨u,g,e,gt,A,hu,hg,m,he⟩:=(l.same r).ex;refine U ?_;clear U;refine⟨_,rfl,a,rfl,⟨_,Ag.of A⟩,Qn (Ag.of A) λD au B k=>?_⟩;have d:=AJ (o:=.lst []) B;have C:(upd O D (.lst [])) D=some (.lst []):=Aa;have aw:=r.free B;generalize upd O D (.lst [])=H4 at d C ⊢;refine⟨u,_,rfl,AB.of (d _ _ hu),rfl,_,_,rfl,_,_,rfl,rfl,?_⟩;refine⟨_,rfl,_,rfl,g,e,gt,b,c,rfl,d _ _ hg,d _ _ m,d _ _ he,λv G E R H5 hv S ev I L J=>?_⟩;have s:=S _ _ C;have aj:=d.trans S;have M:=Ff (o:=.lst [.ref v]) aj B;have nv:v≠D:=Na C hv;have nG:G≠D:=λz=>by rw[z,s] at I;cases I
 have nE:E≠D:=λz=>by rw[z,s] at J;cases J
 have ak:R≠D:=λz=>by rw[z,s] at L;cases L
 refine k _ _ s (Ag.of (M _ _ A)) ?_;refine⟨_,rfl,_,rfl,L8,λt m=>?_⟩;have j:=AJ (o:=.tup [.ref D,.int 0,.ref o]) m;have N:=M.trans j;exact q t _ ((r.trans M).free m) (r.trans N) ⟨D,o,v,G,E,R,pr,Aa,j _ _ Aa,j _ _ (by rw[Ax nv];exact ev),Ag.of (j _ _ (by rw[Ax nG];exact I)),AB.of (j _ _ (by rw[Ax ak];exact L)),j _ _ (by rw[Ax nE];exact J),N _ _ eo,N _ _ ep⟩
inductive C7 (K:Ah) (vs:R') (H:Hp) (Q:VK):Prop where
 |mk (c:Int) (h0:vs=[.int c]) (h1:∀(L:Addr)(a b d e:Nat)(H':Hp),H L=none->Ad H H'->H' L=some (.lst ([a,b,d,e].map λn:Nat=>V.int (n:Int)))->a<=8->b<=8->d<=8->e<=8->Q (.ref L) H'):C7 K vs H Q
def Yj (K:Ah):Sp:=λvs H Q _=>C7 K vs H Q
abbrev Rb(P w K mg base):=Bo P w K mg base "_law_menu" 1 ["_law_cell"] (Yj K)
def Yk(ag:Ba mg)(ER:Bb K mg)(F:A4 K "_law_menu" "_law_menu" LC f fd)(hm:mg "_law_menu" = some (.ref f)):Rb P w K mg base:=by
 refine BI F hm QT (λvs H ah ai h=>?_) (λav ar aw au H vs ah ai hr h=>?_);obtain⟨c,rfl,_⟩:=h;rfl;obtain⟨c,rfl,aj⟩:=h
 refine⟨_,(Aq (AN (i:=1) QT.nd (Bl (Ab (Bl (Ab Ao (Ab Ao (Ab Ao (Ab Ao Af))))) (Ab (Bl (Ab Ao (Ab Ao (Ab Ao (Ab Ao Af))))) (Ab (Bl (Ab Ao (Ab Ao (Ab Ao (Ab Ao Af))))) (Ab (Bl (Ab Ao (Ab Ao (Ab Ao (Ab Ao Af))))) Af))))))
  (Aq (AN (i:=1) QT.nd (BH Jc (pv 1) (Bl (Ab (Bl (Ab Ao (Ab Ao (Ab Ao (Ab Ao Af))))) (Ab (Bl (Ab Ao (Ab Ao (Ab Ao (Ab Ao Af))))) (Ab (Bl (Ab Ao (Ab Ao (Ab Ao (Ab Ao Af))))) (Ab (Bl (Ab Ao (Ab Ao (Ab Ao (Ab Ao Af))))) Af)))))))
  (As (AW (MJ RU ag.b_list (Ab (AK AL (pv 1) (BH FR (pv 0) Ao)) Af)))))),?_⟩
 rfl';refine⟨GO,λk h1=>?_⟩;have x:=AJ (o:=.lst [.int 1,.int 6,.int 8,.int 3]) h1;have y:(upd H k (.lst [.int 1,.int 6,.int 8,.int 3])) k=some (.lst ([1,6,8,3].map λn:Nat=>V.int (n:Int))):=Aa;generalize upd H k (.lst [.int 1,.int 6,.int 8,.int 3])=Y at x y ⊢;refine⟨GO,λl h2=>?_⟩;have A:=AJ (o:=.lst [.int 8,.int 8,.int 1,.int 1]) h2;have B:(upd Y l (.lst [.int 8,.int 8,.int 1,.int 1])) l=some (.lst ([8,8,1,1].map λn:Nat=>V.int (n:Int))):=Aa;generalize upd Y l (.lst [.int 8,.int 8,.int 1,.int 1])=U at A B ⊢;refine⟨GO,λm h3=>?_⟩;have C:=AJ (o:=.lst [.int 6,.int 8,.int 3,.int 0]) h3;have D:(upd U m (.lst [.int 6,.int 8,.int 3,.int 0])) m=some (.lst ([6,8,3,0].map λn:Nat=>V.int (n:Int))):=Aa;generalize upd U m (.lst [.int 6,.int 8,.int 3,.int 0])=E at C D ⊢;refine⟨GO,λp h4=>?_⟩;have G:=AJ (o:=.lst [.int 8,.int 6,.int 3,.int 0]) h4;have I:(upd E p (.lst [.int 8,.int 6,.int 3,.int 0])) p=some (.lst ([8,6,3,0].map λn:Nat=>V.int (n:Int))):=Aa;generalize upd E p (.lst [.int 8,.int 6,.int 3,.int 0])=H4 at G I ⊢;refine⟨GO,λm1 k1=>?_⟩;obtain⟨J,an,u1,ak⟩:=new_at (o:=.lst [.ref k,.ref l,.ref m,.ref p]) k1;rw[<-an];refine At ?_;cbv;refine⟨_,rfl,GO,λq h5=>?_⟩;have L:=AJ (o:=.lst [.int 1,.int 1,.int 8,.int 8]) h5;have M:(upd J q (.lst [.int 1,.int 1,.int 8,.int 8])) q=some (.lst ([1,1,8,8].map λn:Nat=>V.int (n:Int))):=Aa;generalize upd J q (.lst [.int 1,.int 1,.int 8,.int 8])=N at L M ⊢;refine⟨GO,λr h6=>?_⟩;have O:=AJ (o:=.lst [.int 8,.int 4,.int 5,.int 0]) h6;have Q:(upd N r (.lst [.int 8,.int 4,.int 5,.int 0])) r=some (.lst ([8,4,5,0].map λn:Nat=>V.int (n:Int))):=Aa;generalize upd N r (.lst [.int 8,.int 4,.int 5,.int 0])=R at O Q ⊢;refine⟨GO,λs h7=>?_⟩;have S:=AJ (o:=.lst [.int 2,.int 8,.int 5,.int 1]) h7;have T:(upd R s (.lst [.int 2,.int 8,.int 5,.int 1])) s=some (.lst ([2,8,5,1].map λn:Nat=>V.int (n:Int))):=Aa;generalize upd R s (.lst [.int 2,.int 8,.int 5,.int 1])=W at S T ⊢;refine⟨GO,λt h8=>?_⟩;have X:=AJ (o:=.lst [.int 7,.int 7,.int 3,.int 0]) h8;have Z:(upd W t (.lst [.int 7,.int 7,.int 3,.int 0])) t=some (.lst ([7,7,3,0].map λn:Nat=>V.int (n:Int))):=Aa;generalize upd W t (.lst [.int 7,.int 7,.int 3,.int 0])=H9 at X Z ⊢;refine⟨GO,λm2 k2=>?_⟩;obtain⟨af,aq,u2,al⟩:=new_at (o:=.lst [.ref q,.ref r,.ref s,.ref t]) k2;rw[<-aq];have v7:=X.trans u2;have aa:=S.trans v7;have v5:=O.trans aa;have ab:=L.trans v5;have v3:=u1.trans ab;have v2:=G.trans v3;have ae:=C.trans v2;have g:=A.trans ae;have sA:=x.trans g;refine⟨m1,m2,_,_,rfl,rfl,ab _ _ ak,al,show 8<=sizeLine by decide,λv k3=>?_⟩;have j:=AJ (o:=.lst ([.ref k,.ref l,.ref m,.ref p]++[.ref q,.ref r,.ref s,.ref t])) k3;have f3:(upd af v (.lst ([.ref k,.ref l,.ref m,.ref p]++[.ref q,.ref r,.ref s,.ref t]))) v=some (.lst [.ref k,.ref l,.ref m,.ref p,.ref q,.ref r,.ref s,.ref t]):=Aa;generalize upd af v (.lst ([.ref k,.ref l,.ref m,.ref p]++[.ref q,.ref r,.ref s,.ref t]))=ao at j f3 ⊢;refine At ?_;cbv;have y0:=IQ c (by decide:(8:Int)≠0);have y1:=Jx c (by decide:(0:Int)<8)
 obtain⟨u,a,b,d,e,hx,ex,ha,hb,hd,he⟩:∃u a b d e,EN [V.ref k,.ref l,.ref m,.ref p,.ref q,.ref r,.ref s,.ref t] (c%8)=some (.ref u)/\ao u=some (.lst ([a,b,d,e].map λn:Nat=>V.int (n:Int)))/\a<=8/\b<=8/\d<=8/\e<=8:=by
  generalize c%8=z at y0 y1 ⊢;have:z=0\/z=1\/z=2\/z=3\/z=4\/z=5\/z=6\/z=7:=(by omega);rcases this with rfl|rfl|rfl|rfl|rfl|rfl|rfl|rfl;exact⟨k,_,_,_,_,rfl,j _ _ (g _ _ y),by decide,by decide,by decide,by decide⟩;exact⟨l,_,_,_,_,rfl,j _ _ (ae _ _ B),by decide,by decide,by decide,by decide⟩;exact⟨m,_,_,_,_,rfl,j _ _ (v2 _ _ D),by decide,by decide,by decide,by decide⟩;exact⟨p,_,_,_,_,rfl,j _ _ (v3 _ _ I),by decide,by decide,by decide,by decide⟩;exact⟨q,_,_,_,_,rfl,j _ _ (v5 _ _ M),by decide,by decide,by decide,by decide⟩;exact⟨r,_,_,_,_,rfl,j _ _ (aa _ _ Q),by decide,by decide,by decide,by decide⟩;exact⟨s,_,_,_,_,rfl,j _ _ (v7 _ _ T),by decide,by decide,by decide,by decide⟩;exact⟨t,_,_,_,_,rfl,j _ _ (u2 _ _ Z),by decide,by decide,by decide,by decide⟩
 refine⟨_,rfl,_,rfl,_,_,rfl,rfl,(by show(0:Int)<8;decide),p7 ⟨v,_,_,.ref u,rfl,rfl,Ag.of f3,hx,?_⟩⟩;refine⟨u,_,rfl,p7 (Ag.of ex),λl9 h9=>?_⟩;exact aj l9 a b d e _ ((sA.trans j).free h9) ((sA.trans j).trans (AJ h9)) Aa ha hb hd he
inductive DE (K:Ah) (vs:R') (H:Hp) (Q:VK):Prop where
 |mk (A:Addr) (ns:D') (h0:vs=[.ref A]) (h1:Ag K H A (ns.map V.int)) (h2:∀(L:Addr)(a b d e:Nat)(H':Hp),H L=none->Ad H H'->H' L=some (.lst ([a,b,d,e].map λn:Nat=>V.int (n:Int)))->a<=8->b<=8->d<=8->e<=8->Q (.ref L) H'):DE K vs H Q
def Yl (K:Ah):Sp:=λvs H Q _=>DE K vs H Q
abbrev O2(P w K mg base):=Bo P w K mg base "_law_row" 2 ["_law_script"] (Yl K)
theorem Ym(B:Ba mg)(O:Bb K mg)(o:NM P w K mg base)(N:Rb P w K mg base)(F:A4 K "_law_row" "_law_row" JD f fd)(t:mg "_law_row" = some (.ref f)):O2 P w K mg base:=by
 refine BI F t Xs (λu H Q E h=>?_) (λX A Y s H u Q E S h=>?_);obtain⟨A,c,rfl,_⟩:=h;rfl;obtain⟨j,c,rfl,l,q⟩:=h
 refine⟨_,(Aq (Bi (Cc DI (BH FR (A3 o (Ab (pv 0) (Ab Ao Af))) Ao) Ao (B3 _)) (As (AW (A3 N (Ab (BH L0 (A3 o (Ab (pv 0) (Ab Ao Af))) Ao) Af)))) Bh)
  (As (AW (ES rfl CK (JY rfl B.b_range (Ab Ao Af)) (λ_ _ _ _ _=>(Az (i:=0) CK.nd)) (λ_ _ _ _ _=>EA) (λ_ _ _ _ _=>(BH FR (A3 o (Ab (pv 1) (Ab (BH Hd Ao (pv 0)) Af))) Ao)))))),?_⟩
 rfl';refine⟨_,rfl,j,c,0,rfl,by decide,l,_,_,rfl,rfl,(by show(0:Int)<2;decide),rfl,_,rfl,Ci (λ_=>?_) (λ_=>?_)⟩;exact⟨_,rfl,j,c,0,rfl,by decide,l,_,_,rfl,rfl,⟨by decide,by decide⟩,_,rfl,λL a b d e v x y z C G I J=>q L a b d e v x y z C G I J⟩;refine⟨_,rfl,by decide,by decide,Ve (lo:=0) (n:=4) (f:=λi=>V.int (((FE c (3+(0+(i:Int)))%9).toNat:Nat):Int)) (by decide) (λi U D R T m p k=>?_) (λU D m p M=>?_)⟩;refine⟨_,rfl,_,rfl,_,_,rfl,rfl,j,c,_,rfl,by omega,m.seq l,_,_,rfl,rfl,(by show(0:Int)<9;decide),?_⟩;have:=k U (Ad.refl _);have r:=IQ (FE c (3+(0+(i:Int)))) (by decide:(9:Int)≠0);rw[Int.toNat_of_nonneg r] at this;exact this
 have g:∀i:Int,(FE c i%9).toNat<=8:=λi=>by
  have r:=IQ (FE c i) (by decide:(9:Int)≠0);have W:=Jx (FE c i) (by decide:(0:Int)<9);omega
 exact q D _ _ _ _ U p m M (g _) (g _) (g _) (g _)
inductive CM (K:Ah) (vs:R') (H:Hp) (Q:VK):Prop where
 |mk (t:Addr) (lab lbt w:Str) (h0:vs=[.ref t,.int 0,.str w]) (h1:Ca K H t lab lbt) (h2:(lab=w->Q (.int 0) H)) (h3:(lab≠w->Q .non H)):CM K vs H Q
def Yn (K:Ah):Sp:=λvs H Q _=>CM K vs H Q
abbrev Rc(P w K mg base):=Bo P w K mg base "next_state" 1 ["table", "state", "label"] (Yn K)
def Yo(B:Ba mg)(L:Bb K mg)(F:A4 K "next_state" "next_state" LD f fd)(m:mg "next_state" = some (.ref f)):Rc P w K mg base:=by
 refine BI F m OR (λp H Q E h=>?_) (λT A W s H p Q E M h=>?_);obtain⟨t,b,I,w,rfl,_⟩:=h;rfl;obtain⟨t,b,I,w,rfl,⟨a,o,u,g,e,gt,N,q,r,v,j,y,O,R,S⟩,C,D⟩:=h
 refine⟨_,(Aq (AN (i:=3) OR.nd (AK AL (AK AL (AK AL (pv 0) Ao) (pv 1)) Ao))
  (Aq (CC CB rfl (Cf (pv 3)) (B7 (n:=2) rfl (AH (Az (i:=4) OR.nd) (AH (Az (i:=5) OR.nd) B6))) (As (Bi (Cc DI (pv 4) (pv 2) (B3 _)) (As (AW (pv 5))) Bh)))
  (As (AW Hy)))),?_⟩
 rfl';refine⟨_,rfl,p8 (p7 ⟨t,_,_,.ref a,rfl,rfl,AB.of q,rfl,_,rfl,p7 ⟨a,_,_,.ref u,rfl,rfl,Ag.of r,rfl,p8 (p7 ⟨u,_,_,.ref g,rfl,rfl,AB.of v,rfl,?_⟩)⟩⟩)⟩;refine At ?_;cbv;refine⟨_,rfl,g,rfl,⟨_,j⟩,EJ (xs:=[.ref gt]) (λi σ k=>∃c d,σ=[some (.ref t),some (.int 0),some (.str w),some (.ref g),c,d]/\k=H/\(0<i->b≠w)) ⟨none,none,rfl,rfl,λz=>absurd z (D7 _)⟩ (λi σ k _ J=>by obtain⟨_,_,_,e,_⟩:=J;exact by rw[e];exact j) ?_ ?_⟩;rintro i x σ U l ⟨c,d,rfl,rfl,_⟩
 obtain rfl:x=.ref gt:=by
  cases i with|zero=>cases l;rfl|succ i=>simp at l
 refine⟨gt,_,rfl,y,rfl,_,_,rfl,_,_,rfl,rfl,?_⟩;refine⟨_,rfl,_,rfl,rfl,_,rfl,?_⟩;by_cases e:b=w;rw[B2 (show V.str b=V.str w by rw[e])];exact AS ⟨_,rfl,C e⟩;rw[BZ (show ¬V.str b=V.str w from λz=>e (V.str.inj z))];exact AC ⟨_,_,rfl,rfl,λ_=>e⟩;rintro σ U ⟨c,d,rfl,rfl,G⟩;exact D (G Nat.zero_lt_one)
def Yp (_:Ah):Sp:=λvs _ _ _=>vs.length=3/\False
abbrev Re(P w K mg base):=Bo P w K mg base "inside_of_sort" 1 ["net", "answers", "question"] (Yp K)
def Yq(B:Ba mg)(d:Bb K mg)(F:A4 K "inside_of_sort" "inside_of_sort" LF f fd)(a:mg "inside_of_sort" = some (.ref f)):Re P w K mg base:=by
 refine BI F a OS (λb H Q E h=>?_) (λg A j s H b Q E e h=>?_);exact h.1;have c:False:=h.2
 refine⟨_,(Aq (AN (i:=3) OS.nd (AK AL (pv 1) (pv 2)))
  (Aq (Bi (Hb (Ha (pv 3))) (As (AW (Bf (Ab BS (Ab (pv 2) Af))))) Bh)
  (Aq (Bi (Cc DI (AK AL (pv 3) Ao) BS (B3 _)) (Aq (Ey (AK AL (AK AL (pv 0) Ao) (AK AL (pv 3) Ao)) (B7 (n:=2) rfl (AH (Az (i:=4) OS.nd) (AH (Az (i:=5) OS.nd) B6))))
   (As (Bi (Cc DI (pv 4) BS (B3 _)) (As (AW (Bf (Ab BS (Ab (pv 5) Af))))) Bh))) Bh)
  (As (AW (Bf (Ab BS (Ab Ao Af)))))))),?_⟩
 rfl';exact c.elim
def Yr (_:Ah):Sp:=λvs _ _ _=>vs.length=3/\False
abbrev Rf(P w K mg base):=Bo P w K mg base "inside" 2 ["net", "answers", "thing"] (Yr K)
def Ys(B:Ba mg)(e:Bb K mg)(d:Re P w K mg base)(F:A4 K "inside" "inside" LG f fd)(a:mg "inside" = some (.ref f)):Rf P w K mg base:=by
 refine BI F a QU (λb H Q E h=>?_) (λj A k s H b Q E g h=>?_);exact h.1;have c:False:=h.2
 refine⟨_,(Aq (Ey (AK AL (AK AL (pv 0) Ao) (pv 2)) (B7 (n:=2) rfl (AH (Az (i:=3) QU.nd) (AH (Az (i:=4) QU.nd) B6))))
  (Aq (Bi (Cc DI (pv 3) BS (B3 _)) (As (AW (Bf (Ab BS (Ab (pv 4) Af))))) Bh)
  (Aq (Bi (Cc DI (pv 3) BS (B3 _)) (As (AW (A3 d (Ab (pv 0) (Ab (pv 1) (Ab (pv 4) Af)))))) Bh)
  (As (AW (Bf (Ab BS (Ab Ao Af)))))))),?_⟩
 rfl';exact c.elim
inductive G5 (K:Ah) (vs:R') (H:Hp) (Q:VK):Prop where
 |mk (net ans:V) (t:Addr) (w:Str) (k:Int) (h0:vs=[net,ans,.ref t]) (h1:AB K H t [.str w,.str "to",.int k]) (h2:∀(r:Addr)(H':Hp),H r=none->Ad H H'->H' r=some (.tup [.str "to",.int k])->Q (.ref r) H'):G5 K vs H Q
def IL (K:Ah):Sp:=λvs H Q _=>G5 K vs H Q
abbrev Rg(P w K mg base):=Bo P w K mg base "goal" 3 ["net", "answers", "step"] (IL K)
def Yt(B:Ba mg)(j:Bb K mg)(e:Rf P w K mg base)(F:A4 K "goal" "goal" LH f fd)(b:mg "goal" = some (.ref f)):Rg P w K mg base:=by
 refine BI F b NG (λc H Q E h=>?_) (λl A m s H c Q E a h=>?_);obtain⟨net,g,t,w,k,rfl,_⟩:=h;rfl;obtain⟨net,g,t,w,k,rfl,d,q⟩:=h
 refine⟨_,(Aq (Ey (pv 2) (B7 (n:=3) rfl (AH (Az (i:=3) NG.nd) (AH (Az (i:=4) NG.nd) (AH (Az (i:=5) NG.nd) B6)))))
  (Aq (Bi (Cc DI (pv 4) BS (B3 _)) (As (AW (Bf (Ab BS (Ab (pv 5) Af))))) Bh)
  (Aq (AN (i:=6) NG.nd (AK AL (pv 1) (pv 5)))
  (Aq (Bi (Hb (Ha (pv 6))) (As (AW (Bf (Ab BS (Ab (pv 5) Af))))) Bh)
  (Aq (Bi (Cc DI (AK AL (pv 6) Ao) BS (B3 _)) (As (AW (A3 e (Ab (pv 0) (Ab (pv 1) (Ab (AK AL (pv 6) Ao) Af)))))) Bh)
  (As (AW (Bf (Ab BS (Ab Ao Af)))))))))),?_⟩
 rfl';refine⟨_,rfl,t,_,rfl,d,rfl,_,_,rfl,_,_,rfl,_,_,rfl,rfl,?_⟩;refine⟨_,rfl,rfl,_,rfl,AS ?_⟩;exact⟨_,rfl,Ct,λr a=>q r _ a (AJ a) Aa⟩
structure Gn (H:Hp) (v:Nat) (gs:F') (xs:List (Nat×Nat)):Prop where
 len:gs.length=xs.length
 at_:∀(n:Nat)(g:Addr)(x:Nat×Nat),gs[n]?=some g->xs[n]?=some x->∃m,H g=some (.tup [.ref m,.str "to",.int (x.2:Int),.int 0])/\H m=some (.tup [.int (v:Int),.str "step",.int (x.1:Int)])
variable {H:Hp}{v:Nat}
def Gn.nil:Gn H v [] []:=⟨rfl,λn g x h=>by simp at h⟩
variable {gs:F'}{xs:List (Nat×Nat)}
def Gn.same{H':Hp}(e:Ad H H')(h:Gn H v gs xs):Gn H' v gs xs:=⟨h.len,λn g x a b=>let ⟨m,c,d⟩:=h.at_ n g x a b;⟨m,e _ _ c,e _ _ d⟩⟩
variable {D:Addr}
def Gn.updL{o:HO}{f:R'}(e:H D=some (.lst f))(h:Gn H v gs xs):Gn (upd H D o) v gs xs:=⟨h.len,λn g x a b=>by
 obtain⟨m,c,d⟩:=h.at_ n g x a b;exact⟨m,by rw[Ax λz=>by rw[z,e] at c;cases c];exact c,by rw[Ax λz=>by rw[z,e] at d;cases d];exact d⟩⟩
def Gn.snoc{g m:Addr}{x:Nat×Nat}(h:Gn H v gs xs)(d:H g=some (.tup [.ref m,.str "to",.int (x.2:Int),.int 0]))(e:H m=some (.tup [.int (v:Int),.str "step",.int (x.1:Int)])):Gn H v (gs++[g]) (xs++[x]):=by refine⟨by rw[BF,BF,h.len];rfl,λn f q a b=>?_⟩;rcases u0 n gs.length with c|k;rw[Ew c] at a;rw[Ew (by rw[<-h.len];exact c)] at b;exact h.at_ n f q a b;have j:n<(gs++[g]).length:=(Cd.mp a).1;rw[BF,Ju] at j;have i:n=gs.length:=(by omega);subst i;rw[D6 (Aw _),Nat.sub_self] at a;rw[D6 (by rw[h.len];exact Aw _),h.len,Nat.sub_self] at b;cases a;cases b;exact⟨m,d,e⟩
inductive CN (K:Ah) (vs:R') (H:Hp) (Q:VK):Prop where
 |mk (net t:Addr) (ans:V) (v:Nat) (lab lbt:Str) (S:Nat->List (Str×Nat)) (Tl:Nat->List (Str×Str×Nat)) (h0:vs=[.ref net,ans,.ref t,.int (v:Int),.int 0]) (h1:v<5) (h2:BU H net S Tl) (h3:Ca K H t lab lbt) (h4:∀(D:Addr)(gs:F')(H':Hp),H D=none->Ad H H'->H' D=some (.lst (gs.map V.ref))->Gn H' v gs (Cs lab 0 (S v))->Q (.ref D) H'):CN K vs H Q
def Yu (K:Ah):Sp:=λvs H Q _=>CN K vs H Q
abbrev O3(P w K mg base):=Bo P w K mg base "steps_gone" 4 ["net", "answers", "table", "scope", "state"] (Yu K)
def Yv(ah:Ba mg)(ER:Bb K mg)(aw:Rc P w K mg base)(ax:Rg P w K mg base)(F:A4 K "steps_gone" "steps_gone" LI f fd)(r:mg "steps_gone" = some (.ref f)):O3 P w K mg base:=by
 refine BI F r K2 (λvs H ai aj h=>?_) (λaA a8 aD a9 H vs ai aj hr h=>?_);obtain⟨net,t,aa,v,j,ab,S,Tl,rfl,_⟩:=h;rfl;obtain⟨net,t,aa,v,j,ab,S,Tl,rfl,l,N,ak,al⟩:=h;obtain⟨Q,th,qu,us,R,bs,en,a5,ay,a6,a7,aC⟩:=id N.ex;obtain⟨ts,T,W⟩:=a7 v l;have eu:=a6 v l;have h8:=(N.le v l).1;have ae:=W.len
 refine⟨_,(Aq (AN (i:=5) K2.nd (Bl Af))
  (Aq (CC CB rfl (Qv rfl ah.b_enumerate (Ab (AK AL (AK AL (AK AL (pv 0) Ao) (pv 3)) Ao) Af)) (B7 (n:=2) rfl (AH (Az (i:=6) K2.nd) (AH (Az (i:=7) K2.nd) B6))) (Aq (AN (i:=8) K2.nd (A3 aw (Ab (pv 2) (Ab (pv 4) (Ab (AK AL (pv 7) Ao) Af)))))
   (As (Bi (Hb (Pt (pv 8))) (Aq (Ey (A3 ax (Ab (pv 0) (Ab (pv 1) (Ab (pv 7) Af)))) (B7 (n:=2) rfl (AH (Az (i:=9) K2.nd) (AH (Az (i:=10) K2.nd) B6))))
    (As (DH (DN Ek E8 E9 Fe (pv 5) (Ab (Bf (Ab (Bf (Ab (pv 3) (Ab BS (Ab (pv 6) Af)))) (Ab (pv 9) (Ab (pv 10) (Ab (pv 8) Af))))) Af))))) Bh))))
  (As (AW (pv 5))))),?_⟩
 rfl';refine⟨by decide,λD s=>?_⟩;have d:=AJ (o:=.lst []) s;have hu:(us.map V.ref)[v]?=some (.ref (us.getD v 0)):=by rw[BP,Ov (by rw[ay];exact l)];rfl
 refine⟨_,rfl,p8 (p7 ⟨net,_,_,.ref Q,rfl,rfl,AB.of (d _ _ en),rfl,_,rfl,p7 ⟨Q,_,_,.ref (us.getD v 0),rfl,rfl,Ag.of (d _ _ a5),EO hu,p8 (p7 ⟨us.getD v 0,_,_,.ref (R.getD v 0),rfl,rfl,AB.of (d _ _ eu),rfl,R.getD v 0,rfl,⟨_,d _ _ T⟩,Qw (xs:=ts.map V.ref) (λi σ m=>∃u y z A I gs,σ=[some (.ref net),some aa,some (.ref t),some (.int (v:Int)),some (.int 0),some (.ref D),u,y,z,A,I]/\Ad H m/\m D=some (.lst (gs.map V.ref))/\Gn m v gs (Cs j 0 ((S v).take i)))
  ⟨none,none,none,none,none,[],rfl,d,Aa,Gn.nil⟩ (λi σ m az=>by obtain⟨_,_,_,_,_,_,_,e,_⟩:=az;exact Ag.of (e _ _ T)) ?_ ?_⟩)⟩⟩)⟩
 refine λi x X σ U hx B J=>BC λNz k=>?_;obtain⟨u,y,z,A,I,gs,rfl,C,E,g⟩:=J;refine k ?_;clear k;obtain⟨a,af,rfl⟩:=getm hx;have a0:i<(S v).length:=by rw[<-ae];exact(Cd.mp af).1
 have G:=AQ a0;have L:=W.at_ i a _ af G;have a1:(S v).take (i+1)=(S v).take i++[(S v)[i]]:=by rw[E4,G];rfl
 have c:=Tk j ((S v).take i) 0 (S v)[i];rw[<-a1,Nat.zero_add,CA,show min i (S v).length=i by omega] at c;have aB:gs.length<=8:=(by have:=Ow j ((S v).take i) 0;rw[<-g.len,CA] at this;omega);generalize (S v)[i]=p at L c G;have b:=C.trans (AJ (o:=.tup [.int i,.ref a]) B);have q:=AJ (o:=.tup [.int i,.ref a]) B _ _ E;have M:=g.same (AJ (o:=.tup [.int i,.ref a]) B);refine⟨X,_,rfl,AB.of Aa,rfl,_,_,rfl,_,_,rfl,rfl,?_⟩;generalize upd U X (.tup [.int i,.ref a])=H3 at b q M ⊢;refine⟨_,rfl,_,rfl,_,rfl,p8 (p7 ⟨a,_,_,.str p.1,rfl,rfl,AB.of (b _ _ L),rfl,t,j,ab,p.1,rfl,ak.same b,λe=>?_,λe=>?_⟩)⟩;rw[Ap e.symm] at c;refine At ?_;cbv;refine⟨_,rfl,_,rfl,AS ?_⟩;refine⟨_,rfl,_,rfl,_,rfl,_,_,a,p.1,_,rfl,AB.of (b _ _ L),λan H4 hr Y er=>⟨an,_,rfl,AB.of er,rfl,_,_,rfl,_,_,rfl,rfl,?_⟩⟩;refine⟨_,rfl,p7 ⟨rfl,_,Ag.of (Y _ _ q)⟩,_,rfl,_,rfl,L8,λao r=>?_⟩;obtain⟨H5,a2,s5,av⟩:=new_at (o:=.tup [.int (v:Int),.str "step",.int (i:Int)]) r;rw[<-a2];refine⟨_,rfl,_,rfl,_,rfl,GO,λaq a3=>?_⟩;obtain⟨H6,a4,Z,eg⟩:=new_at (o:=.tup [.ref ao,.str "to",.int (p.2:Int),.int 0]) a3;rw[<-a4];have O:=(Y.trans s5).trans Z;have ag:=O _ _ q;refine⟨D,_,_,rfl,rfl,ag,by rw[AD];exact BQ (by omega),?_⟩;refine⟨_,_,_,_,_,gs++[aq],rfl,λar o e=>?_,by rw[Aa,Cb];rfl,?_⟩;rw[Ax (AM e s)];exact O _ _ (b ar o e);rw[c];exact((M.same O).snoc (x:=(i,p.2)) eg (Z _ _ av)).updL ag;rw[An (λau=>e au.symm),EF] at c;refine At ?_;cbv;refine⟨_,rfl,_,rfl,AC ⟨_,_,_,_,_,gs,rfl,b,q,?_⟩⟩;rw[c];exact M;refine λσ U J=>BC λNz k=>?_;obtain⟨u,y,z,A,I,gs,rfl,C,E,g⟩:=J;refine k ?_;clear k;rw[AD,ae,FQ] at g;exact⟨_,rfl,al D gs U s C E g⟩
def Ev (F:Addr->Prop) (H:Hp) (a:Addr) (b:B9):Prop:=∃ml ts,F ml/\H a=some (.tup [.ref ml,.int (b.2:Int),.int 0])/\H ml=some (.lst (ts.map V.ref))/\EB H ts b.1
variable {a:Addr}{b:B9}
def Ev.c{F:Addr->Prop}(h:Ev F H a b):FX H a b:=let ⟨c,d,_,e,f,g⟩:=h;⟨c,d,e,f,g⟩
def Ev.same{F:Addr->Prop}{H H':Hp}{a:Addr}{b:B9}(e:Ad H H')(h:Ev F H a b):Ev F H' a b:=let ⟨c,d,f,g,i,j⟩:=h;⟨c,d,f,e _ _ g,e _ _ i,j.same e⟩
def Ev.mono{F c:Addr->Prop}(e:∀x,F x->c x)(h:Ev F H a b):Ev c H a b:=let ⟨d,f,g,h⟩:=h;⟨d,f,e _ g,h⟩
def Ev.updL{F:Addr->Prop}{H:Hp}{D:Addr}{o:HO}{f:R'}{a:Addr}{b:B9}(d:H D=some (.lst f))(g:∀x,F x->x≠D)(h:Ev F H a b):Ev F (upd H D o) a b:=by obtain⟨i,j,e,c,k,l⟩:=h;exact⟨i,j,e,by rw[Ax λz=>by rw[z,d] at c;cases c];exact c,by rw[Ax (g _ e)];exact k,l.updL d⟩
theorem Ug{K:Ah}{H:Hp}:∀(l:O'),AF K H (l.map λn:Nat=>V.int (n:Int)) (l.map λn:Nat=>Dt.int (n:Int))
 |[]=>.nil
 |_::l=>.cons (.int _) (Ug l)
abbrev NO (F:Addr->Prop) (H:Hp) (zs:List (Addr×B9)):Prop:=∀z∈zs,Ev F H z.1 z.2
inductive BB (K:Ah) (vs:R') (H:Hp) (Q:VK):Prop where
 |mk (net t a:Addr) (ans:V) (b:B9) (lab lbt:Str) (S:Nat->List (Str×Nat)) (Tl:Nat->List (Str×Str×Nat)) (h0:vs=[.ref net,ans,.ref t,.ref a]) (h1:BU H net S Tl) (h2:Ca K H t lab lbt) (h3:FX H a b) (h4:b.2<5) (h5:b.1.length<=5) (h6:∀(D:Addr)(zs:List (Addr×B9))(H':Hp),H D=none->Ad H H'->H' D=some (.lst (zs.map λz=>V.ref z.1))->NO (λx=>H x=none) H' zs->zs.map (·.2)=AA lab S b->Q (.ref D) H'):BB K vs H Q
def Yw (K:Ah):Sp:=λvs H Q _=>BB K vs H Q
abbrev O4(P w K mg base):=Bo P w K mg base "longer_by_a_step" 5 ["net", "answers", "table", "beginning"] (Yw K)
def Yx(aQ:Ba mg)(ER:Bb K mg)(a7:O3 P w K mg base)(F:A4 K "longer_by_a_step" "longer_by_a_step" JE f fd)(J:mg "longer_by_a_step" = some (.ref f)):O4 P w K mg base:=by
 refine BI F J Hn (λvs H a1 a2 h=>?_) (λaU aR aW aS H vs a1 a2 Z h=>?_);obtain⟨net,t,a,aa,b,d,ar,S,Tl,rfl,_⟩:=h;rfl;obtain⟨net,t,a,aa,b,d,ar,S,Tl,rfl,ao,a3,⟨ml,u,h1,y,h3⟩,hb,hl,a4⟩:=h;have au:=h3.len
 refine⟨_,(Aq (Ey (pv 3) (B7 (n:=3) rfl (AH (Az (i:=4) Hn.nd) (AH (Az (i:=5) Hn.nd) (AH (Az (i:=6) Hn.nd) B6)))))
  (Aq (AN (i:=7) Hn.nd (BH Jc (ES (te:=EK (HJ K) (Cq 0) (tC (.int ((0:Nat):Int)))) rfl Bk (Cf (pv 4)) (λ_ _ _ _ _=>(Az (i:=0) Bk.nd)) (λ_ _ _ _ _=>EA) (λ_ _ _ _ _=>(AK AL (pv 0) Ao))) (Bl (Ab (pv 5) Af))))
  (Aq (AN (i:=8) Hn.nd (Bl Af))
  (Aq (CC CB rfl (Cf (A3 a7 (Ab (pv 0) (Ab (pv 1) (Ab (pv 2) (Ab (pv 5) (Ab (pv 6) Af))))))) (B7 (n:=4) rfl (AH (Az (i:=9) Hn.nd) (AH (Az (i:=10) Hn.nd) (AH (Az (i:=11) Hn.nd) (AH (Az (i:=12) Hn.nd) B6))))) (As (Bi (PW.pt (JR (Cc DI (pv 10) BS (B3 _)) (JQ (Cc (Vk Z.units) (pv 11) (pv 7) (by with_unfolding_all rfl))))) (As (DH (DN Ek E8 E9 Fe (pv 8) (Ab (Bf (Ab (BH Jc (pv 4) (Bl (Ab (pv 9) Af))) (Ab (pv 11) (Ab (pv 12) Af)))) Af)))) Bh)))
  (As (AW (pv 8))))))),?_⟩
 rfl';refine⟨_,rfl,a,_,rfl,AB.of h1,rfl,_,_,rfl,_,_,rfl,_,_,rfl,rfl,?_⟩;cbv;refine⟨_,rfl,ml,rfl,⟨_,Ag.of y⟩,M5 (xs:=u.map V.ref) (λC i A g=>Ad H g/\g C=some (.lst A)/\A=(b.1.take i).map λp=>V.int (p.1:Int)) (λC hC=>⟨AJ hC,Aa,rfl⟩) (λC i A g ab=>by obtain⟨s1,_⟩:=ab;exact Ag.of (s1 _ _ y)) (λC i x A a5 aT av r hv k=>?_) (λC A a5 av hv=>?_)⟩;obtain⟨L,M,rfl⟩:=hv;obtain⟨m,J,rfl⟩:=getm r;have ae:i<b.1.length:=by rw[<-au];exact(Cd.mp J).1
 have B:=AQ ae;have N:=L _ _ (h3.at_ i m _ J B);refine⟨_,rfl,p8 (p7 ⟨m,_,_,.int ((b.1[i]).1:Int),rfl,rfl,AB.of N,rfl,?_⟩)⟩;refine k _ _ M (by rw[AD,CA];exact BQ (by omega)) ⟨λx o e=>?_,Aa,?_⟩;rw[Ax (AM e av)];exact L x o e;rw[E4,B,Cb];rfl;obtain⟨L,M,rfl⟩:=hv;rw[AD,au,FQ] at M;refine⟨_,rfl,FW,λc a8=>?_⟩;obtain⟨H3,a9,s3,aA⟩:=new_at (o:=.lst [.int (b.2:Int)]) a8;rw[<-a9];refine⟨C,c,_,_,rfl,rfl,s3 _ _ M,aA,by rw[AD];exact CZ (BQ (show _+1<=1000 by omega)),λO aB=>?_⟩;have ev:(b.1.map λp=>V.int (p.1:Int))++[V.int (b.2:Int)]=(CF b).map λn:Nat=>V.int (n:Int):=(by simp[CF]);rw[ev];obtain⟨H4,aC,s4,af⟩:=new_at (o:=.lst ((CF b).map λn:Nat=>V.int (n:Int))) aB;rw[<-aC];have aw:=(L.trans s3).trans s4;refine At ?_;cbv;refine⟨by decide,λD hD=>?_⟩;obtain⟨H5,aD,s5,eD⟩:=new_at (o:=.lst []) hD;rw[<-aD];have ax:H D=none:=aw.free hD;have ag:=aw.trans s5;refine At ?_;cbv;refine⟨_,rfl,_,rfl,_,rfl,_,rfl,_,rfl,net,t,aa,b.2,d,ar,S,Tl,rfl,hb,ao.same ag,a3.same ag,λG gs H6 hG s6 eG Gs=>?_⟩;have lg:(Cs d 0 (S b.2)).length<=8:=Dm (Ow _ _ _) (ao.le b.2 hb).1;have aE:=ag.trans s6;have aO:=s6 _ _ (s5 _ _ af);have aF:G≠D:=λz=>by rw[z,eD] at hG;cases hG
 have ay:=Gs.len
 refine⟨G,rfl,⟨_,Ag.of eG⟩,EJ (xs:=gs.map V.ref) (λi σ g=>∃(u9 ah ai aj:U')(j:List (Addr×B9)),σ=[some (.ref net),some aa,some (.ref t),some (.ref a),some (.ref ml),some (.int (b.2:Int)),some (.int 0),some (.ref O),some (.ref D),u9,ah,ai,aj]/\Ad H g/\g O=some (.lst ((CF b).map λn:Nat=>V.int (n:Int)))/\g G=some (.lst (gs.map V.ref))/\Gn g b.2 gs (Cs d 0 (S b.2))/\g D=some (.lst (j.map λz=>V.ref z.1))/\NO (λx=>H x=none/\x≠D) g j/\j.map (·.2)=(((Cs d 0 (S b.2)).take i).filter λx=>decide (x.2∉CF b)).map λx=>(b.1++[(b.2,x.1)],x.2))
  ⟨none,none,none,none,[],rfl,aE,aO,eG,Gs,s6 _ _ eD,λz l=>by simp at l,rfl⟩ (λi σ g _ ab=>by obtain⟨_,_,_,_,_,_,_,_,e,_⟩:=ab;exact Ag.of e) ?_ ?_⟩
 refine λi x σ H7 r ak=>BC λNz I=>?_;obtain⟨u9,ah,ai,aj,j,rfl,s,X,al,Q,v,R,E⟩:=ak;refine I ?_;clear I;refine ON ?_;intro Nx Cy;obtain⟨aq,hg,rfl⟩:=getm r;have ae:i<(Cs d 0 (S b.2)).length:=by rw[<-ay];exact(Cd.mp hg).1
 have B:=AQ ae;obtain⟨m,eg,N⟩:=Q.at_ i aq _ hg B;have aG:(Cs d 0 (S b.2)).take (i+1)=(Cs d 0 (S b.2)).take i++[(Cs d 0 (S b.2))[i]]:=by rw[E4,B];rfl
 have lz:j.length<=8:=(by have:=De List.length E;rw[AD,AD] at this;have y:=Rr (λx:Nat×Nat=>decide (x.2∉CF b)) ((Cs d 0 (S b.2)).take i);rw[CA] at y;omega);have T:(((Cs d 0 (S b.2)).take (i+1)).filter λx=>decide (x.2∉CF b)).map (λx=>((b.1++[(b.2,x.1)],x.2):B9))=j.map (·.2)++([(Cs d 0 (S b.2))[i]].filter λx=>decide (x.2∉CF b)).map λx=>((b.1++[(b.2,x.1)],x.2):B9):=(by rw[aG,List.filter_append,Cb,E]);generalize (Cs d 0 (S b.2))[i]=p at eg N T;refine⟨aq,_,rfl,AB.of eg,rfl,_,_,rfl,_,_,rfl,_,_,rfl,_,_,rfl,rfl,?_⟩;refine⟨_,rfl,rfl,_,rfl,AS ?_⟩;refine⟨_,rfl,_,rfl,1,.int (p.2:Int),(CF b).map λn:Nat=>Dt.int (n:Int),O,_,λe he=>?_,by decide,.int _,rfl,Ag.of X,Ug _,_,rfl,?_⟩;obtain⟨n,_,rfl⟩:=CU.mp he;exact .int _ _;have aH:(Dt.int (p.2:Int)∈(CF b).map λn:Nat=>Dt.int (n:Int))↔p.2∈CF b:=(by rw[CU];constructor;rintro⟨n,hn,e⟩;injection e with e;rw[show p.2=n by omega];exact hn;exact λhn=>⟨p.2,hn,rfl⟩);rw[L6 aH]
 have ef:([p].filter λx:Nat×Nat=>decide (x.2∉CF b))=if p.2∈CF b then[] else[p]:=by
  show(match decide (p.2∉CF b) with|true=>p::[]|false=>[])=_
  by_cases h:p.2∈CF b;rw[BZ (λz=>z h),Ap h];rw[B2 h,An h]
 rw[ef] at T;by_cases U:p.2∈CF b;rw[Em U];refine AC ⟨_,_,_,_,j,rfl,s,X,al,Q,v,R,?_⟩;rw[T,Ap U];exact(EF _).symm;rw[FF U];refine AS ⟨_,rfl,p7 ⟨rfl,_,Ag.of v⟩,_,rfl,_,rfl,FW,λL1 aI=>?_⟩;obtain⟨H8,aJ,W,aK⟩:=new_at (o:=.lst [.ref m]) aI;rw[<-aJ];have aL:=(s.trans W) _ _ y;refine⟨ml,L1,_,_,rfl,rfl,aL,aK,by rw[AD];exact CZ (BQ (show _+1<=1000 by omega)),λL2 Y=>?_⟩;have s9:=AJ (o:=.lst (u.map V.ref++[.ref m])) Y;have az:(upd H8 L2 (.lst (u.map V.ref++[.ref m]))) L2=some (.lst ((u++[m]).map V.ref)):=by rw[Aa,Cb];rfl
 generalize upd H8 L2 (.lst (u.map V.ref++[.ref m]))=H9 at s9 az ⊢;refine⟨_,rfl,_,rfl,L8,λa6 Z=>?_⟩;obtain⟨aV,aP,a0,er⟩:=new_at (o:=.tup [.ref L2,.int (p.2:Int),.int 0]) Z;rw[<-aP];have q:=(W.trans s9).trans a0;have an:=q _ _ v;have aM:L2≠D:=λz=>by rw[z,W _ _ v] at Y;cases Y
 have aN:H L2=none:=(s.trans W).free Y;have nC:O≠D:=λz=>by rw[z,hD] at af;cases af
 refine⟨D,_,_,rfl,rfl,an,by rw[AD];exact BQ (by omega),?_⟩;refine⟨_,_,_,_,j++[(a6,(b.1++[(b.2,p.1)],p.2))],rfl,λx o e=>?_,by rw[Ax nC];exact q _ _ X,by rw[Ax aF];exact q _ _ al,(Q.same q).updL an,by rw[Aa,Cb];rfl,λz l=>?_,?_⟩;rw[Ax (AM e ax)];exact q _ _ (s x o e);refine Ev.updL an (λx r=>r.2) ?_;rcases CG.mp l with l|l;exact(R z l).same q;rw[BY.mp l];exact⟨L2,u++[m],⟨aN,aM⟩,er,a0 _ _ az,((h3.same s).same q).snoc (p:=(b.2,p.1)) (q _ _ N)⟩;rw[T,Cb,An U];rfl;refine λσ H7 ak=>BC λNz I=>?_;obtain⟨u9,ah,ai,aj,j,rfl,s,X,al,Q,v,R,E⟩:=ak;refine I ?_;clear I;rw[AD,ay,FQ] at E;exact⟨_,rfl,a4 D j H7 ax s v (λz l=>(R z l).mono λx r=>r.1) E⟩
abbrev E2 (b:B9):Prop:=(CF b).Nodup/\∀x∈CF b,x<5
def Rh(h:E2 b):b.1.length<=5/\b.2<5:=by have:=Ord.nodup_sub_length h.1 (m:=List.range 5) λx a=>List.mem_range.mpr (h.2 x a);rw[p9] at this;simp[CF] at this;exact⟨by omega,h.2 b.2 (by simp[CF])⟩
def Yy{lab:Str}{S:Nat->List (Str×Nat)}(f:∀i,i<5->∀x∈S i,x.2<5){c:B9}(h:E2 b)(g:c∈AA lab S b):E2 c:=by
 obtain⟨x,j,rfl⟩:=CU.mp g;obtain⟨n,o⟩:=Pl.mp j;have k:x.2∉CF b:=E7 o;obtain⟨p,l,e⟩:=QA n;have m:x.2<5:=by rw[e];exact f b.2 (Rh h).2 p l
 have d:CF (b.1++[(b.2,x.1)],x.2)=CF b++[x.2]:=(by simp[CF]);refine⟨?_,λy a=>?_⟩;rw[d];exact Vl h.1 k;rw[d] at a;rcases CG.mp a with a|a;exact h.2 y a;rw[BY.mp a];exact m
def NP (K:Ah):Sp:=λvs H Q E=>∃(net t:Addr)(ans:V)(v:Nat)(lab lbt:Str)(S:Nat->List (Str×Nat))(Tl:Nat->List (Str×Str×Nat))(k:Nat),vs=[.ref net,ans,.ref t,.int (v:Int),.int 0]/\v<5/\BU H net S Tl/\Ca K H t lab lbt/\C3 (AA lab S) ([],v) k /\
 (200<(AV (AA lab S) ([],v) k).length->∀H',Ad H H'->E (.ref (Ak K "Tangled")) none H') /\
 ((AV (AA lab S) ([],v) k).length<=200->∀(D:Addr)(zs:List (Addr×B9))(H':Hp),H D=none->Ad H H'->H' D=some (.lst (zs.map λz=>V.ref z.1))->(∀z∈zs,FX H' z.1 z.2/\E2 z.2)->(zs.map (·.2)).Perm (AV (AA lab S) ([],v) k)->Q (.ref D) H')
theorem Yz(B:Ba mg)(ER:Bb K mg)(au:O4 P w K mg base)(F:A4 K "beginnings" "beginnings" JF f fd):Cg P w K mg base (Fi P w) 6 f fd ["net", "answers", "table", "scope", "state"] (NP K):=by
 refine F.okE OT (λvs H an ao h=>?_) (λaK aF aL aG H vs an ao L h=>?_);obtain⟨net,t,I,v,g,aa,S,X,k,rfl,_⟩:=h;rfl;obtain⟨net,t,I,v,g,aa,S,X,k,rfl,hv,N,aq,ST,qe,ar⟩:=h;have av:E2 (([],v):B9):=⟨by simp[CF],λx q=>by simp[CF] at q;rw[q];exact hv⟩;have ab:=Mi (P:=E2) (f:=AA g S) av (λb hb c hc=>Yy (λi hi=>(N.le i hi).2.1) hb hc)
 refine⟨_,(Aq (AN (i:=5) OT.nd (Bl (Ab (Bf (Ab (Bl Af) (Ab (pv 3) (Ab (pv 4) Af)))) Af)))
  (Aq (AN (i:=6) OT.nd Ao)
  (Aq (Rx PassesOwn.leaving (Cc MI (pv 6) (Bq Fz B.b_len (Ab (pv 5) Af)) (B3 _)) (Aq (DH (DN Ek PySem.F.slot_list_extend PySem.F.type_list_extend Oa (pv 5) (Ab (A3 au (Ab (pv 0) (Ab (pv 1) (Ab (pv 2) (Ab (AK AL (pv 5) (pv 6)) Af))))) Af)))
   (Aq (Bi (Cc I7 (Bq Fz B.b_len (Ab (pv 5) Af)) (EI (v:=.int 200) rfl (Classical.choose_spec B.c_MOST_BEGINNINGS) ⟨_,rfl⟩) (B3 _)) (As (V2 Tg rfl ER.k_Tangled rfl (Ab BS Af))) Bh)
   (As (Ib (i:=6) OT.nd rfl (p7 rfl) Ao HD)))))
  (As (AW (Bq (VW KI ET ET L.units (by decide) (by decide) (by decide)) B.b_sorted (Ab (pv 5) Af))))))),?_⟩
 rfl';refine⟨by decide,λl hl=>?_⟩;obtain⟨aH,aw,s1,Y⟩:=new_at (o:=.lst []) hl;rw[<-aw];refine⟨_,rfl,_,rfl,L8,λr L=>?_⟩;obtain⟨aI,ax,M,er⟩:=new_at (o:=.tup [.ref l,.int (v:Int),.int 0]) L;rw[<-ax];refine⟨FW,λD O=>?_⟩;have ae:=s1.trans M;have ay:H D=none:=ae.free O;have az:l≠D:=AM (M _ _ Y) O;obtain⟨H3,a0,Q,a7⟩:=new_at (o:=.lst [.ref r]) O;rw[<-a0];have a8:=ae.trans Q;have b0:Ev (λx=>x≠D) H3 r ([],v):=⟨l,[],az,Q _ _ er,Q _ _ (M _ _ Y),EB.nil⟩;refine At ?_;cbv;refine MY ?_;cbv
 refine⟨λm σ p=>∃(j:Nat)(a:List (Addr×B9)),m=k-j/\j<=k/\σ=[some (.ref net),some I,some (.ref t),some (.int (v:Int)),some (.int 0),some (.ref D),some (.int (j:Int))]/\Ad H p/\p D=some (.lst (a.map λz=>V.ref z.1))/\NO (λx=>x≠D) p a/\a.map (·.2)=AV (AA g S) ([],v) j/\a.length<=200,
  ⟨k-0,0,[(r,([],v))],rfl,A9 _,rfl,a8,a7,λz n=>by rw[BY.mp n];exact b0,rfl,show 1<=200 by decide⟩,?_⟩
 refine λm σ H4 a9=>BC λNz af=>?_;obtain⟨j,a,rfl,hj,rfl,y,u,E,A,L4⟩:=a9;refine af ?_;clear af;have Z:(AV (AA g S) ([],v) j).length=a.length:=(by rw[<-A,AD]);refine⟨_,rfl,_,rfl,_,_,rfl,p7 ⟨_,Ag.of u,rfl⟩,_,_,rfl,rfl,_,rfl,?_⟩;rw[AD];by_cases ag:j<k;obtain⟨C,c2⟩:=ST.bef j ag;rw[Z] at C;rw[B2 (show(j:Int)<(a.length:Int) by omega)];refine AS ⟨λσ' p=>∃(a:List (Addr×B9)),σ'=[some (.ref net),some I,some (.ref t),some (.int (v:Int)),some (.int 0),some (.ref D),some (.int ((j+1:Nat):Int))]/\Ad H p/\p D=some (.lst (a.map λz=>V.ref z.1))/\NO (λx=>x≠D) p a/\a.map (·.2)=AV (AA g S) ([],v) (j+1)/\a.length<=200,λσ' p⟨ah,a1,a2,a3,a4,a5,a6⟩=>⟨k-(j+1),by omega,j+1,ah,rfl,by omega,a1,a2,a3,a4,a5,a6⟩,?_⟩;have ai:=AQ C;have aA:(a.map λz=>V.ref z.1)[j]?=some (.ref a[j].1):=by rw[BP,ai];rfl
 have aj:a[j].2=(AV (AA g S) ([],v) j)[j]'(by omega):=(by have:=De (λl=>l[j]?) A;simp only[BP,ai] at this;rw[AQ (by omega)] at this;exact C0 this);have aB:E2 a[j].2:=by rw[aj];exact ab j _ (EE _)
 obtain⟨o1,o2⟩:=Rh aB;have Aj:=E _ (EE C);refine⟨_,rfl,p7 ⟨rfl,_,Ag.of u⟩,_,rfl,_,rfl,_,rfl,_,rfl,_,rfl,p7 ⟨D,_,_,.ref a[j].1,rfl,rfl,Ag.of u,EO aA,net,t,a[j].1,I,a[j].2,g,aa,S,X,rfl,N.same y,aq.same y,Aj.c,o2,o1,λR d G U s aC A5 Z5=>?_⟩⟩;have ak:=s _ _ u;have lw:d.length<=8:=(by have:=De List.length Z5;rw[AD] at this;rw[this];exact Wb (N.le _ o2).1);refine⟨D,R,_,_,rfl,rfl,ak,aC,by rw[AD,AD];exact CZ (BQ (by omega)),?_⟩
 have T:Ad H (upd G D (.lst ((a.map λz=>V.ref z.1)++d.map λz=>V.ref z.1))):=λx o e=>by
  rw[Ax (AM e ay)];exact s _ _ (y x o e)
 have W:(upd G D (.lst ((a.map λz=>V.ref z.1)++d.map λz=>V.ref z.1))) D=some (.lst ((a++d).map λz=>V.ref z.1)):=by rw[Aa,Cb]
 have A6:NO (λx=>x≠D) (upd G D (.lst ((a.map λz=>V.ref z.1)++d.map λz=>V.ref z.1))) (a++d):=λz n=>by
  refine Ev.updL ak (λx q=>q) ?_;rcases CG.mp n with n|n;exact(E z n).same s;exact(A5 z n).mono λx q e=>by rw[e,u] at q;cases q
 have Z6:(a++d).map (·.2)=AV (AA g S) ([],v) (j+1):=(by rw[GP (by omega),Cb,A,Z5,aj]);generalize upd G D (.lst ((a.map λz=>V.ref z.1)++d.map λz=>V.ref z.1))=H6 at T W A6 ⊢;have l6:(AV (AA g S) ([],v) (j+1)).length=(a++d).length:=(by rw[<-Z6,AD]);refine⟨_,rfl,_,_,rfl,p7 ⟨_,Ag.of W,rfl⟩,_,_,rfl,rfl,_,rfl,?_⟩;rw[AD];by_cases aD:200<(a++d).length;rw[B2 (show((a++d).length:Int) > 200 by omega)]
 have ek:j+1=k:=by
  rcases Nat.lt_or_eq_of_le (show j+1<=k from ag) with c|c;have:=(ST.bef (j+1) c).2;omega;exact c
 exact AS ⟨FW,qe (by rw[<-ek,l6];exact aD) _ T⟩;rw[BZ (show ¬((a++d).length:Int) > 200 by omega)];refine AC ⟨_,rfl,_,_,rfl,rfl,a++d,?_,T,W,A6,Z6,by omega⟩;rfl;obtain rfl:j=k:=by omega
 have aE:(AV (AA g S) ([],v) j).length<=200:=(by omega);obtain⟨C,c2⟩:=ST.at_.resolve_right (by omega);rw[Z] at C;rw[BZ (show ¬(j:Int)<(a.length:Int) by omega)];refine AC ⟨_,rfl,D,a.map λz=>(V.ref z.1,QB z.2),rfl,?_,by rw[AD];omega,λaJ hy=>?_,λR ah hp hs U=>?_⟩;rw[Dl];exact Ag.of u;obtain⟨z,J,rfl⟩:=CU.mp hy;exact(E z J).c.dt;obtain⟨d,al,rfl⟩:=QL hp;have s:=AJ (o:=.lst ((d.map λz=>((V.ref z.1,QB z.2):FK KJ)).map (·.1))) U;refine ar aE R d _ (y.free U) (y.trans s) (by rw[Aa,Dl];rfl) (λz n=>?_) (by rw[<-A];exact al.map _);have J:=al.mem_iff.mp n;refine⟨(E z J).c.same s,ab j _ ?_⟩;rw[<-A];exact CU.mpr ⟨z,J,rfl⟩
def YA(B:Ba mg)(a:Bb K mg)(d:O4 P w K mg base)(F:A4 K "beginnings" "beginnings" JF f fd)(b:mg "beginnings" = some (.ref f)):Nm P w K mg base "beginnings" 6 ["net", "answers", "table", "scope", "state"] (NP K):=
 ⟨f,fd,Yz B a d F,b,F.kp,F.binds λ_ _ _ _ _ _ us c=>(by obtain⟨e,g,h,i,j,rfl⟩:=G4 c;rfl)⟩
inductive Cw (K:Ah) (vs:R') (H:Hp) (Q:VK):Prop where
 |mk (net t D0:Addr) (ans:V) (lab lbt:Str) (S:Nat->List (Str×Nat)) (Tl:Nat->List (Str×Str×Nat)) (zs:List (Addr×B9)) (h0:vs=[.ref net,ans,.ref t,.ref D0]) (h1:BU H net S Tl) (h2:Ca K H t lab lbt) (h3:H D0=some (.lst (zs.map λz=>V.ref z.1))) (h4:(∀z∈zs,FX H z.1 z.2/\z.2.1.length<=5/\z.2.2<5)) (h5:∀(D:Addr)(H':Hp),H D=none->Ad H H'->H' D=some (.lst [])->Q (.ref D) H'):Cw K vs H Q
def YB (K:Ah):Sp:=λvs H Q _=>Cw K vs H Q
abbrev O5(P w K mg base):=Bo P w K mg base "owed_behind" 5 ["net", "answers", "table", "begun"] (YB K)
theorem YC(B:Ba mg)(ER:Bb K mg)(ae:O3 P w K mg base)(F:A4 K "owed_behind" "owed_behind" LJ f fd)(hm:mg "owed_behind" = some (.ref f)):O5 P w K mg base:=by
 refine BI F hm II (λvs H Q E h=>?_) (λan ah aq ai H vs Q E hr h=>?_);obtain⟨net,t,p,s,C,Y,S,I,J,rfl,_⟩:=h;rfl;obtain⟨net,t,p,s,C,Y,S,I,J,rfl,N,T,L,hz,q⟩:=h
 refine⟨_,(Aq (AN (i:=4) II.nd (Bl Af))
  (Aq (CC CB rfl (Cf (pv 3)) (B7 (n:=3) rfl (AH (Az (i:=5) II.nd) (AH (Az (i:=6) II.nd) (AH (Az (i:=7) II.nd) B6)))) (As (CC CB rfl (Cf (A3 ae (Ab (pv 0) (Ab (pv 1) (Ab (pv 2) (Ab (pv 6) (Ab (pv 7) Af))))))) (B7 (n:=4) rfl (AH (Az (i:=8) II.nd) (AH (Az (i:=9) II.nd) (AH (Az (i:=10) II.nd) (AH (Az (i:=11) II.nd) B6))))) (As (Bi (Cc DI (pv 9) BS (B3 _)) (As (DH (DN Ek E8 E9 Fe (pv 4) (Ab (Bf (Ab (BH Jc (pv 5) (Bl (Ab (pv 8) Af))) (Ab (pv 10) Af))) Af)))) Bh)))))
  (As (AW (Bq (VV KI ET hr.units (by decide) (by decide)) B.b_sorted (Ab (pv 4) Af)))))),?_⟩
 rfl';refine⟨by decide,λD hD=>?_⟩;have M:=AJ (o:=.lst []) hD
 refine⟨_,rfl,p,rfl,⟨_,Ag.of (M _ _ L)⟩,EJ (xs:=J.map λz=>V.ref z.1) (λi σ m=>∃(u v x b c j k:U'),σ=[some (.ref net),some s,some (.ref t),some (.ref p),some (.ref D),u,v,x,b,c,j,k]/\Ad H m/\m D=some (.lst []))
  ⟨none,none,none,none,none,none,none,rfl,M,Aa⟩ (λi σ m _ G=>by obtain⟨_,_,_,_,_,_,_,_,e,_⟩:=G;exact Ag.of (e _ _ L)) ?_ ?_⟩
 refine λi aj σ U hx l=>BC λr a=>?_;obtain⟨u,v,x,b,c,j,k,rfl,d,y⟩:=l;refine a ?_;clear a;obtain⟨z,af,rfl⟩:=getm hx;refine BC λr a=>?_;obtain⟨⟨ml,ts,h1,h2,h3⟩,ao,hv⟩:=hz z (Ei af);refine a ?_;clear a;refine⟨z.1,_,rfl,AB.of (d _ _ h1),rfl,_,_,rfl,_,_,rfl,_,_,rfl,rfl,?_⟩;refine⟨_,rfl,_,rfl,_,rfl,_,rfl,_,rfl,net,t,s,z.2.2,C,Y,S,I,rfl,hv,N.same d,T.same d,λaa gs H3 hG O R W=>?_⟩;refine⟨aa,rfl,⟨_,Ag.of R⟩,EJ (xs:=gs.map V.ref) (λn σ m=>∃(b c j k:U'),σ=[some (.ref net),some s,some (.ref t),some (.ref p),some (.ref D),some (.ref ml),some (.int (z.2.2:Int)),some (.int 0),b,c,j,k]/\m=H3) ⟨_,_,_,_,rfl,rfl⟩ (λn σ m _ G=>by obtain⟨_,_,_,_,_,e⟩:=G;exact by rw[e];exact Ag.of R) ?_ ?_⟩;refine λn ab σ H4 A l=>BC λr a=>?_;obtain⟨b,c,j,k,rfl,rfl⟩:=l;refine a ?_;clear a;obtain⟨g,X,rfl⟩:=getm A;have hn:n<(Cs C 0 (S z.2.2)).length:=by rw[<-W.len];exact(Cd.mp X).1
 obtain⟨ak,eg,al⟩:=W.at_ n g _ X (AQ hn);refine⟨g,_,rfl,AB.of eg,rfl,_,_,rfl,_,_,rfl,_,_,rfl,_,_,rfl,rfl,?_⟩;refine⟨_,rfl,rfl,_,rfl,?_⟩;rw[BZ (show ¬V.str "to" = V.str "open" from λe=>absurd (V.str.inj e) (by decide +kernel))];exact AC ⟨_,_,_,_,rfl,rfl⟩;refine λσ H4 l=>BC λr a=>?_;obtain⟨b,c,j,k,rfl,rfl⟩:=l;refine a ?_;clear a;exact⟨_,_,_,_,_,_,_,rfl,d.trans O,O _ _ y⟩;refine λσ U l=>BC λr a=>?_;obtain⟨u,v,x,b,c,j,k,rfl,d,y⟩:=l;refine a ?_;clear a;refine⟨_,rfl,D,[],rfl,Ag.of y,show 0<=900 by decide,λab A=>by simp at A,λD2 ag hp hs Z=>?_⟩;obtain rfl:ag=[]:=List.length_eq_zero_iff.mp hp.length_eq;exact q D2 _ (d.free Z) (d.trans (AJ Z)) Aa
inductive CO (K:Ah) (vs:R') (H:Hp) (Q:VK):Prop where
 |mk (net:Addr) (S:Nat->List (Str×Nat)) (Tl:Nat->List (Str×Str×Nat)) (h0:vs=[.ref net]) (h1:BU H net S Tl) (h2:∀(D:Addr)(nms:G')(H':Hp),H D=none->Ad H H'->H' D=some (.lst (nms.map V.str))->nms.Pairwise DJ->(∀y,y∈nms↔∃v,v<5/\∃p∈Tl v,p.2.1=y)->Q (.ref D) H'):CO K vs H Q
def YD (K:Ah):Sp:=λvs H Q _=>CO K vs H Q
abbrev O6(P w K mg base):=Bo P w K mg base "names_told" 1 ["net"] (YD K)
theorem YE(B:Ba mg)(ER:Bb K mg)(F:A4 K "names_told" "names_told" JG f fd)(G:mg "names_told" = some (.ref f)):O6 P w K mg base:=by
 refine BI F G OU (λvs H ah ai h=>?_) (λaz av a1 s H vs ah ai hr h=>?_);obtain⟨net,aj,m,rfl,_⟩:=h;rfl;obtain⟨net,aj,m,rfl,N,ak⟩:=h;obtain⟨S,th,qu,us,ay,bs,en,ag,aa,ar,a0,au⟩:=id N.ex
 refine⟨_,(Aq (AN (i:=1) OU.nd (Bl Af))
  (Aq (CC CB rfl (Cf (AK AL (pv 0) Ao)) (B7 (n:=2) rfl (AH (Az (i:=2) OU.nd) (AH (Az (i:=3) OU.nd) B6))) (As (DH (DN Ek PySem.F.slot_list_extend PySem.F.type_list_extend Oa (pv 1) (Ab (ES (g:=Fx K 4 (Fw (Eb 0) (Fw (Eb 1) (Fw (Eb 2) (Fw (Eb 3) Fv))))) rfl AY (Cf (pv 3)) (λ_ _ _ _ _=>(B7 (n:=4) rfl (AH (Az (i:=0) AY.nd) (AH (Az (i:=1) AY.nd) (AH (Az (i:=2) AY.nd) (AH (Az (i:=3) AY.nd) B6)))))) (λ_ _ _ _ _=>EA) (λ_ _ _ _ _=>(pv 1))) Af)))))
  (As (AW (Bq (WO rfl) B.b_sorted (Ab (MJ (WN rfl) B.b_set (Ab (pv 1) Af)) Af)))))),?_⟩
 rfl';refine⟨by decide,λD T=>?_⟩;obtain⟨aw,ao,I,eD⟩:=new_at (o:=.lst []) T;rw[<-ao];refine At ?_;cbv
 refine⟨_,rfl,p8 (p7 ⟨net,_,_,.ref S,rfl,rfl,AB.of (I _ _ en),rfl,S,rfl,⟨_,Ag.of (I _ _ ag)⟩,EJ (xs:=us.map V.ref) (λi σ j=>∃(J L:U')(a:G'),σ=[some (.ref net),some (.ref D),J,L]/\Ad H j/\j D=some (.lst (a.map V.str))/\a=(List.range i).flatMap (λv=>(m v).map (·.2.1))/\a.length<=2*i)
  ⟨none,none,[],rfl,I,eD,rfl,Aw _⟩ (λi σ j _ Q=>by obtain⟨_,_,_,_,s,_⟩:=Q;exact Ag.of (s _ _ ag)) ?_ ?_⟩)⟩
 refine λi ax σ U hx R=>BC λNz x=>?_;obtain⟨J,L,a,rfl,c,A,E,W⟩:=R;refine x ?_;clear x;obtain⟨u,X,rfl⟩:=getm hx;have M:i<5:=by rw[<-aa];exact(Cd.mp X).1
 have eu:us.getD i 0=u:=by rw[A7,X];rfl
 have Y:=c _ _ (ar i M);rw[eu] at Y;obtain⟨ts,Z,ab⟩:=au i M;have lT:=(N.le i M).2.2;have ae:=ab.len;refine⟨u,_,rfl,AB.of Y,rfl,_,_,rfl,_,_,rfl,rfl,?_⟩;refine⟨_,rfl,p7 ⟨rfl,_,Ag.of A⟩,_,rfl,_,rfl,⟨_,Ag.of (c _ _ Z)⟩,M5 (xs:=ts.map V.ref) (λC n q j=>Ad U j/\j C=some (.lst q)/\q=((m i).take n).map λp=>V.str p.2.1) (λC y=>⟨AJ y,Aa,by rw[IP];rfl⟩) (λC n q j Q=>by obtain⟨s,_⟩:=Q;exact Ag.of (s _ _ (c _ _ Z))) (λC n al q H3 RR y O l k=>?_) (λC q H3 y l=>?_)⟩;obtain⟨r,z,rfl⟩:=l;obtain⟨t,ht,rfl⟩:=getm O;have hn:n<(m i).length:=by rw[<-ae];exact(Cd.mp ht).1
 have d:=AQ hn;have et:=r _ _ (c _ _ (ab.at_ n t _ ht d));refine⟨t,_,rfl,AB.of et,rfl,_,_,rfl,_,_,rfl,_,_,rfl,_,_,rfl,rfl,?_⟩;refine⟨_,rfl,?_⟩;refine k _ _ z (by rw[AD,CA];exact BQ (by omega)) ⟨λb o e=>?_,Aa,?_⟩;rw[Ax (AM e y)];exact r _ _ e;rw[E4,d,Cb];rfl;obtain⟨r,z,rfl⟩:=l;rw[AD,ae,FQ] at z;have aq:=r _ _ A;refine⟨D,C,_,_,rfl,rfl,aq,z,by rw[AD,AD];exact CZ (BQ (by omega)),?_⟩;refine⟨_,_,a++(m i).map (·.2.1),rfl,λb o e=>?_,by rw[Aa,Cb,Dl];rfl,?_,by rw[BF,AD];omega⟩;rw[Ax (AM e T)];exact r _ _ (c _ _ e);rw[List.range_succ,List.flatMap_append,<-E];simp;refine λσ U R=>BC λNz x=>?_;obtain⟨J,L,a,rfl,c,A,E,W⟩:=R;refine x ?_;clear x;rw[AD,aa] at E W;refine⟨_,rfl,D,a,rfl,Ag.of A,by omega,λan hZ=>?_⟩;refine⟨an,a,rfl,Aa,by omega,λD2 ms d G af=>?_⟩;refine ak D2 ms _ ((c.trans (AJ hZ)).free af) ((c.trans (AJ hZ)).trans (AJ af)) Aa d λal=>?_;rw[G,E,List.mem_flatMap];constructor;rintro⟨v,l,O⟩;obtain⟨p,d,rfl⟩:=CU.mp O;exact⟨v,List.mem_range.mp l,p,d,rfl⟩;rintro⟨v,l,p,d,rfl⟩;exact⟨v,List.mem_range.mpr l,CU.mpr ⟨p,d,rfl⟩⟩
inductive Co (K:Ah) (vs:R') (H:Hp) (Q:VK):Prop where
 |mk (t:Addr) (la lb:Str) (h0:vs=[.ref t]) (h1:Ca K H t la lb) (h2:∀(p:Addr)(H':Hp),H p=none->Ad H H'->H' p=some (.dT [([.inr lb,.inr la],.bl true)])->Q (.ref p) H'):Co K vs H Q
def YF (K:Ah):Sp:=λvs H Q _=>Co K vs H Q
abbrev O7(P w K mg base):=Bo P w K mg base "better_pairs" 1 ["table"] (YF K)
theorem YG(B:Ba mg)(ER:Bb K mg)(F:A4 K "better_pairs" "better_pairs" JH f fd)(N:mg "better_pairs" = some (.ref f)):O7 P w K mg base:=by
 refine BI F N Xu (λO H Q E h=>?_) (λag ae ah s H O Q E R h=>?_);obtain⟨t,x,A,rfl,_⟩:=h;rfl;obtain⟨t,x,A,rfl,⟨a,o,u,af,e,gt,g,S,h2,h3,h4,h5,h6,C,W⟩,q⟩:=h;refine⟨_,(As (AW (MJ (Wp rfl (KR R)) B.b_dict (Ab (ES rfl BW (Cf (AK AL (pv 0) Ao)) (λ_ _ _ _ _=>(Az (i:=0) BW.nd)) (λ_ _ _ _ _=>EA) (λ_ _ _ _ _=>(Bf (Ab (pv 0) (Ab Mv Af))))) Af)))),?_⟩;rfl'
 refine⟨_,rfl,p8 (p7 ⟨t,_,_,.ref o,rfl,rfl,AB.of S,rfl,o,rfl,⟨_,Ag.of C⟩,M5 (xs:=[V.ref g]) (λP i c j=>Ad H j/\j P=some (.lst c)/\c.length=i/\GU j c (([(A,x)].take i).map λp=>([.inr p.1,.inr p.2],V.bl true)))
  (λP l=>⟨AJ l,Aa,rfl,.nil⟩) (λP i c j Z=>by obtain⟨s,_⟩:=Z;exact Ag.of (s _ _ C)) (λP i y c U RR l D m k=>?_) (λP c U l m=>?_)⟩)⟩
 obtain⟨d,n,r,L⟩:=m
 obtain⟨rfl,rfl⟩:i=0/\y=.ref g:=by
  cases i with|zero=>cases D;exact⟨rfl,rfl⟩|succ i=>simp at D
 obtain rfl:=List.length_eq_zero_iff.mp r;have aa:=d _ _ W;refine⟨_,rfl,Ct,λT X=>?_⟩;obtain⟨G,ab,v,Y⟩:=new_at (o:=.tup [.ref g,.bl true]) X;rw[<-ab];have M:=v _ _ n
 have I:∀b xs,G b=some (.tup xs)->(upd G P (.lst ([]++[.ref T]))) b=some (.tup xs):=λb xs e=>by
  rw[Ax (λz=>by rw[z,M] at e;cases e)];exact e
 refine k _ _ M (by show 0<sizeLine;decide) ⟨λb u e=>?_,Aa,rfl,?_⟩;rw[Ax (AM e l)];exact v _ _ (d _ _ e);exact .cons ⟨T,g,rfl,I _ _ Y,I _ _ (v _ _ aa)⟩ .nil;obtain⟨d,n,r,L⟩:=m;refine⟨P,c,_,rfl,n,by rw[r];show 1<sizeLine;decide,L,λp J=>?_⟩;exact q p _ (d.free J) (d.trans (AJ J)) Aa
inductive DX (K:Ah) (vs:R') (H:Hp) (Q:VK):Prop where
 |mk (D:Addr) (zs:List (Addr×List BE)) (ok:Nat->BE->Prop) (h0:vs=[.ref D]) (h1:H D=some (.lst (zs.map λz=>V.ref z.1))) (h2:(∀z∈zs,Wy H z.1 z.2/\z.2.length<=5/\∀j o,z.2[j]?=some o->ok j o)) (h3:zs.length<=400) (h4:∀(t:Addr)(lv:Addr->Option Nat)(H':Hp),Ad H H'->DQ dW H' ok lv 2000->lv t=some 0->(∀a j,lv a=some j->H a=none)->Q (.ref t) H'):DX K vs H Q
def YH (K:Ah):Sp:=λvs H Q _=>DX K vs H Q
abbrev O8(P w K mg base):=Bo P w K mg base "tree_of" 1 ["ways"] (YH K)
def YI(al:Ba mg)(ER:Bb K mg)(F:A4 K "tree_of" "tree_of" LK f fd)(hm:mg "tree_of" = some (.ref f)):O8 P w K mg base:=by
 refine BI F hm K3 (λvs H an ao h=>?_) (λa6 a3 a9 s H vs an ao hr h=>?_);obtain⟨D,zs,ok,rfl,_⟩:=h;rfl
 . obtain⟨D,zs,ok,rfl,eD,hz,lz,aq⟩:=h
   refine⟨_,(Aq (AN (i:=1) K3.nd P5)
    (Aq (CC CB rfl (Qv rfl al.b_enumerate (Ab (pv 0) Af)) (B7 (n:=2) rfl (AH (Az (i:=2) K3.nd) (AH (Az (i:=3) K3.nd) B6))) (Aq (AN (i:=4) K3.nd (pv 1))
     (As (CC CB rfl (Cf (pv 3)) (Az (i:=5) K3.nd) (As (AN (i:=4) K3.nd (AK AL (DN PySem.F.plainAttrs_dict PySem.F.slot_dict_setdefault PySem.F.type_dict_setdefault (Wi (Km hr)) (pv 4) (Ab (pv 5) (Ab (Bf (Ab (pv 2) (Ab P5 Af))) Af))) Ao)))))))
    (As (AW (pv 1))))),?_⟩
   rfl';refine λt ht=>?_;obtain⟨a4,aw,s1,et⟩:=new_at (o:=.dT []) ht;rw[<-aw];refine At ?_;cbv
   refine⟨_,rfl,D,rfl,⟨_,s1 _ _ eD⟩,Qw (xs:=zs.map λz=>V.ref z.1) (λi σ m=>∃(N O Q l:U')(c:Addr->Option Nat),σ=[some (.ref D),some (.ref t),N,O,Q,l]/\Ad H m/\DQ dW m ok c (5*i)/\c t=some 0/\(∀a j,c a=some j->H a=none))
    ⟨none,none,none,none,λx=>if x=t then some 0 else none,rfl,s1,⟨λa j e=>?_⟩,Ap rfl,λa j e=>?_⟩ (λi σ m X=>by obtain⟨_,_,_,_,_,_,s,_⟩:=X;exact Ag.of (s _ _ eD)) ?_ ?_⟩
   by_cases z:a=t;subst z;exact⟨[],et,Aw _,λkv hk=>by cases hk⟩;have e:(if a=t then some 0 else none)=some j:=e;rw[An z] at e;cases e;by_cases z:a=t;rw[z];exact ht;have e:(if a=t then some 0 else none)=some j:=e;rw[An z] at e;cases e;rotate_left;refine λσ U q=>BC λA d=>?_;obtain⟨N,O,Q,l,c,rfl,R,C,E,S⟩:=q;refine d ?_;clear d;rw[AD] at C;exact⟨_,rfl,aq t c U R (C.mono (by omega)) E S⟩;refine λi y ar σ U T hT q=>BC λA d=>?_;obtain⟨N,O,Q,l,c,rfl,R,C,E,S⟩:=q;refine d ?_;clear d;refine ON ?_;intro Nx Cy;obtain⟨z,ae,rfl⟩:=getm T;have mz:=Ei ae;have a7:=(Cd.mp ae).1;obtain⟨H3,ax,s3,eT⟩:=new_at (o:=.tup [.int (i:Int),.ref z.1]) hT;rw[<-ax];have af:=R.trans s3;refine BC λA d=>?_;obtain⟨⟨ms,aa,f3,f4⟩,a8,ay⟩:=hz z mz;refine d ?_;clear d;refine⟨ar,_,rfl,AB.of eT,rfl,_,_,rfl,_,_,rfl,rfl,?_⟩;refine⟨_,rfl,?_⟩;refine At ?_;cbv
   refine⟨_,rfl,z.1,rfl,⟨_,Ag.of (af _ _ aa)⟩,EJ (xs:=ms.map V.ref) (λj σ m=>∃(l:U')(a:Addr)(c:Addr->Option Nat),σ=[some (.ref D),some (.ref t),some (.int (i:Int)),some (.ref z.1),some (.ref a),l]/\Ad H m/\DQ dW m ok c (5*i+j)/\c t=some 0/\c a=some j/\(∀a j,c a=some j->H a=none))
    ⟨l,t,c,rfl,af,C.sameW s3,E,E,S⟩ (λj σ m _ X=>by obtain⟨_,_,_,_,s,_⟩:=X;exact Ag.of (s _ _ aa)) ?_ ?_⟩
   rotate_left;refine λσ G q=>BC λA d=>?_;obtain⟨l,a,c,rfl,r,p,u,_,B⟩:=q;refine d ?_;clear d;rw[AD,f3] at p;exact⟨_,_,_,_,c,rfl,r,p.mono (by omega),u,B⟩;refine λj y σ G T q=>BC λA d=>?_;obtain⟨l,a,c,rfl,r,p,u,Y,B⟩:=q;refine d ?_;clear d;refine ON ?_;intro Nx Cy;obtain⟨mk,ag,rfl⟩:=getm T;have hj:j<z.2.length:=by rw[<-f3];exact(Cd.mp ag).1
   have Z:=AQ hj;have ab:=r _ _ (f4 j _ _ ag Z);have ah:=ay j _ Z;generalize z.2[j]=o at Z ab ah;obtain⟨ai,I,av,az⟩:=p.at_ a j Y;refine⟨_,rfl,p8 (p8 (p7 ⟨rfl,p8 ⟨_,I⟩⟩)),_,rfl,_,rfl,λe he=>?_⟩;have s5:=AJ (o:=.dT []) he;have ee:(upd G e (.dT [])) e=some (.dT []):=Aa;have aj:=he;generalize upd G e (.dT [])=H5 at s5 ee ⊢;refine⟨Ct,λJ a0=>?_⟩;obtain⟨H6,a1,s6,M⟩:=new_at (o:=.tup [.int (i:Int),.ref e]) a0;rw[<-a1];have g:=s5.trans s6;have ak:c e=none:=(by rcases z:c e with _|k;rfl;exfalso;obtain⟨k',x,_⟩:=p.at_ e k z;have x:G e=_:=x;rw[aj] at x;cases x);refine⟨a,ai,Dv o,mk,.ref J,rfl,rfl,g _ _ I,g _ _ ab,Nat.lt_of_le_of_lt av (Nat.lt_of_le_of_lt (show 5*i+j<=3000 by omega) (by decide)),λv W=>?_,λW=>?_⟩;refine BC λA d=>?_;obtain⟨au,b,a5,rfl,q3,q4⟩:=DQ.have_ az W;refine d ?_;clear d;refine p8 (p7 ⟨au,_,_,.ref b,rfl,rfl,AB.of (g _ _ q3),rfl,?_⟩);exact⟨some (.ref mk),b,c,rfl,r.trans g,(p.sameW g).mono (by omega),u,q4,B⟩;have T6:=(p.sameW g).grow Y (g _ _ I) W ah (s6 _ _ ee) M ak
   have s7:Ad H (upd H6 a (.dT (Bj ai (Dv o) (.ref J)))):=λb o' hb=>by
    rw[Ax (AM hb (B _ _ Y))];exact g _ _ (r _ _ hb)
   have a2:J≠a:=λy=>by rw[y,g _ _ I] at M;cases M
   refine p8 (p7 ⟨J,_,_,.ref e,rfl,rfl,AB.of (by rw[Ax a2];exact M),rfl,?_⟩);refine⟨some (.ref mk),e,_,rfl,s7,T6,?_,Ap rfl,λx k L=>?_⟩;show(if t=e then some (j+1) else c t)=some 0;rw[An λy=>by rw[y,ak] at u;cases u];exact u;by_cases xe:x=e;rw[xe];exact r.free aj;have L:(if x=e then some (j+1) else c x)=some k:=L;rw[An xe] at L;exact B x k L
def YJ:j'≠("step":Str):=by decide +kernel
inductive DF (K:Ah) (vs:R') (H:Hp) (Q:VK):Prop where
 |mk (net m:Addr) (S:Nat->List (Str×Nat)) (Tl:Nat->List (Str×Str×Nat)) (o:BE) (lb:Str) (h0:vs=[.ref net,.ref m]) (h1:BU H net S Tl) (h2:H m=some (Iu o)) (h3:Mj S Tl o lb) (h4:Q (.str lb) H):DF K vs H Q
def YK (K:Ah):Sp:=λvs H Q _=>DF K vs H Q
abbrev Ri(P w K mg base):=Bo P w K mg base "label_at" 1 ["net", "mark"] (YK K)
def YL(B:Ba mg)(U:Bb K mg)(F:A4 K "label_at" "label_at" LL f fd)(l:mg "label_at" = some (.ref f)):Ri P w K mg base:=by
 refine BI F l Mm (λr H Q E h=>?_) (λaa A ab s H r Q E W h=>?_);obtain⟨net,m,S,u,o,x,rfl,_⟩:=h;rfl;obtain⟨net,m,S,u,o,x,rfl,N,y,⟨v,i,d,C,D,G⟩,q⟩:=h;obtain⟨k,X,Y,us,Z,bs,I,M,L,O,R,T⟩:=N.ex;have J:(us.map V.ref)[v]?=some (.ref (us.getD v 0)):=by rw[BP,Ov (by rw[L];exact d)];rfl
 refine⟨_,(Aq (Ey (pv 1) (B7 (n:=3) rfl (AH (Az (i:=2) Mm.nd) (AH (Az (i:=3) Mm.nd) (AH (Az (i:=4) Mm.nd) B6)))))
  (Aq (Ey (AK AL (AK AL (pv 0) Ao) (pv 2)) (B7 (n:=2) rfl (AH (Az (i:=5) Mm.nd) (AH (Az (i:=6) Mm.nd) B6))))
  (Aq (Bi (Cc DI (pv 3) BS (B3 _)) (As (AW (AK AL (AK AL (pv 5) (pv 4)) Ao))) Bh)
  (As (AW (AK AL (AK AL (pv 6) (pv 4)) Ao)))))),?_⟩
 rfl';refine⟨_,rfl,m,_,rfl,AB.of y,rfl,_,_,rfl,_,_,rfl,_,_,rfl,rfl,?_⟩;rw[C,D];refine⟨_,rfl,p8 (p7 ⟨net,_,_,.ref k,rfl,rfl,AB.of I,rfl,_,rfl,p7 ⟨k,_,_,.ref (us.getD v 0),rfl,rfl,Ag.of M,EO J,?_⟩⟩)⟩;refine⟨us.getD v 0,_,rfl,AB.of (O v d),rfl,_,_,rfl,_,_,rfl,rfl,?_⟩;rcases G with⟨e,p,a,rfl⟩|⟨e,p,a,rfl⟩;rw[e];refine⟨_,rfl,rfl,_,rfl,AS ?_⟩;obtain⟨g,j,b⟩:=R v d;obtain⟨t,c⟩:∃t,g[i]?=some t:=⟨_,AQ (by rw[b.len];exact(Cd.mp a).1)⟩;exact⟨_,rfl,_,rfl,p7 ⟨_,_,_,.ref t,rfl,rfl,Ag.of j,EO (by rw[BP,c];rfl),p8 (p7 ⟨t,_,_,.str p.1,rfl,rfl,AB.of (b.at_ i t p c a),rfl,q⟩)⟩⟩;rw[e];refine⟨_,rfl,rfl,_,rfl,?_⟩;rw[BZ (show ¬V.str "told" = V.str "step" from λz=>YJ (V.str.inj z))];refine AC ?_;obtain⟨g,j,b⟩:=T v d;obtain⟨t,c⟩:∃t,g[i]?=some t:=⟨_,AQ (by rw[b.len];exact(Cd.mp a).1)⟩;exact⟨_,rfl,_,rfl,p7 ⟨_,_,_,.ref t,rfl,rfl,Ag.of j,EO (by rw[BP,c];rfl),p8 (p7 ⟨t,_,_,.str p.1,rfl,rfl,AB.of (b.at_ i t p c a),rfl,q⟩)⟩⟩
inductive Cz (K:Ah) (vs:R') (H:Hp) (Q:VK):Prop where
 |mk (net bp tr l:Addr) (S:Nat->List (Str×Nat)) (Tl:Nat->List (Str×Str×Nat)) (la lt:Str) (lb:Nat->Str) (lv:Addr->Option Nat) (n:Nat) (os:List BE) (h0:vs=[.ref net,.ref bp,.ref tr,.ref l]) (h1:BU H net S Tl) (h2:H bp=some (.dT [([.inr lt,.inr la],.bl true)])) (h3:la≠lt) (h4:DQ dF H (λj o=>Mj S Tl o (lb j)) lv n) (h5:lv tr=some 0) (h6:Wy H l os) (h7:Iv S Tl lb os) (h8:∀H',Ad H H'->Q .non H'):Cz K vs H Q
def YM (K:Ah):Sp:=λvs H Q _=>Cz K vs H Q
abbrev O9(P w K mg base):=Bo P w K mg base "first_hider" 2 ["net", "better", "tree", "way"] (YM K)
def YN(a3:Ba mg)(ER:Bb K mg)(au:Ri P w K mg base)(F:A4 K "first_hider" "first_hider" LM f fd)(hm:mg "first_hider" = some (.ref f)):O9 P w K mg base:=by
 refine BI F hm K4 (λvs H a4 a5 h=>?_) (λaP aM aQ aq H vs a4 a5 hr h=>?_);obtain⟨net,G,I,l,S,T,la,lt,g,W,a6,aa,rfl,_⟩:=h;rfl
 . obtain⟨net,G,I,l,S,T,la,lt,g,W,a6,aa,rfl,ar,eb,a8,TT,av,⟨ms,el,rl,rm⟩,ok,a7⟩:=h
   refine⟨_,(Aq (AN (i:=4) K4.nd (Bl Af))
    (Aq (AN (i:=5) K4.nd (pv 2))
    (Aq (CC CB rfl (Cf (pv 3)) (Az (i:=6) K4.nd) (Aq (AN (i:=7) K4.nd (A3 au (Ab (pv 0) (Ab (pv 6) Af))))
     (Aq (CC CB rfl (Ie (pv 5)) (Az (i:=8) K4.nd) (As (Bi (Cc (Vn (Km hr)) (Bf (Ab (A3 au (Ab (pv 0) (Ab (pv 8) Af))) (Ab (pv 7) Af))) (pv 1) (by with_unfolding_all rfl)) (As (DH (DN Ek E8 E9 Fe (pv 4) (Ab (AK AL (HQ (Km hr) (pv 5) (pv 8) (λ_ _=>rfl)) Ao) Af)))) Bh)))
     (As (AN (i:=5) K4.nd (AK AL (U3 (Km hr) (pv 5) (pv 6) (Bf (Ab Ao (Ab P5 Af))) ⟨rfl,rfl,rfl,rfl⟩) Ao))))))
    (As (AW (Ig rfl (by rfl) a3.b_min (Ab (pv 4) Af))))))),?_⟩
   rfl';refine⟨by decide,λn hN=>?_⟩;obtain⟨aN,a9,s1,aA⟩:=new_at (o:=.lst []) hN;rw[<-a9];refine At ?_;cbv;refine⟨_,rfl,?_⟩;refine At ?_;cbv
   have a0:∀a j,W a=some j->a≠n:=λa j h=>by
    obtain⟨c,⟨o,x⟩,_⟩:=TT.at_ a j h;exact AM x hN
   refine⟨_,rfl,l,rfl,⟨_,Ag.of (s1 _ _ el)⟩,EJ (xs:=ms.map V.ref) (λj σ d=>∃(a:Addr)(u6 u7 t:U'),σ=[some (.ref net),some (.ref G),some (.ref I),some (.ref l),some (.ref n),some (.ref a),u6,u7,t]/\Ad H d/\d n=some (.lst [])/\a≠n/\(W a=some j\/(H a=none/\Rd d a (.dT []))))
    ⟨I,none,none,none,rfl,s1,aA,a0 _ _ av,.inl av⟩ (λj σ d _ ae=>by obtain⟨_,_,_,_,_,aq,_⟩:=ae;exact Ag.of (aq _ _ el)) ?_ ?_⟩
   rotate_left;refine λσ U af=>BC λNz q=>?_;obtain⟨a,u6,u7,t,rfl,r,ag,_⟩:=af;refine q ?_;clear q;exact⟨_,rfl,n,[],rfl,ag,a7 U r⟩;refine λj y σ U hy af=>BC λNz q=>?_;obtain⟨a,u6,u7,t,rfl,r,ag,aB,ah⟩:=af;refine q ?_;clear q;refine ON ?_;intro Nx Cy;obtain⟨mk,aw,rfl⟩:=getm hy;have hj:j<aa.length:=by rw[<-rl];exact(Cd.mp aw).1
   have ai:=AQ hj;have ab:=rm j _ _ aw ai;have ax:=ok j _ ai;generalize aa[j]=m at ai ab ax;refine⟨_,rfl,_,rfl,net,mk,S,T,m,g j,rfl,ar.same r,r _ _ ab,ax,?_⟩;refine At ?_;cbv
   obtain⟨c,aj,aC⟩:∃c,Rd U a (.dT c)/\∀B∈c,∃(o:BE)(p b:Addr)(m:Int),B=(Dv o,.ref p)/\Mj S T o (g j)/\U p=some (.tup [.int m,.ref b])/\W b=some (j+1):=by
    rcases ah with J|⟨_,L⟩;obtain⟨c,⟨o,x⟩,_,M⟩:=TT.at_ a j J;exact⟨c,.inr ⟨o,r _ _ x⟩,λB s=>let ⟨o,p,b,m,q1,Z,q3,X⟩:=M B s;⟨o,p,b,m,q1,Z,r _ _ q3,X⟩⟩;exact⟨[],L,λB s=>by cases s⟩
   refine N5 (λσ' d=>∃(t:U'),σ'=[some (.ref net),some (.ref G),some (.ref I),some (.ref l),some (.ref n),some (.ref a),some (.ref mk),some (.str (g j)),t]/\Ad H d/\d n=some (.lst [])/\Rd d a (.dT c)) ?_ (λN' aD=>?_)
   case refine_2 =>
    refine⟨_,rfl,a,_,rfl,aj,λo u=>?_⟩
    have N:Ad H (upd U a (.frz o (.dT c))):=λb aO e=>by
     by_cases ay:b=a;subst ay;rw[Aa];rcases ah with J|⟨L,_⟩;obtain⟨a1,⟨o',x⟩,_⟩:=TT.at_ b j J;have O:=r _ _ x;rcases u with u|u;rw[O] at u;cases u;rw[O] at u;cases u;rw[x] at e;exact e;rw[e] at L;cases L;rw[Ax ay];exact r _ _ e
    have E:(upd U a (.frz o (.dT c))) n=_:=(Ax (Ne.symm aB)).trans ag;have az:(upd U a (.frz o (.dT c))) a=some (.frz o (.dT c)):=Aa;generalize upd U a (.frz o (.dT c))=H3 at N E az ⊢
    refine Wk (λi σ d=>∃(t:U'),σ=[some (.ref net),some (.ref G),some (.ref I),some (.ref l),some (.ref n),some (.ref a),some (.ref mk),some (.str (g j)),t]/\Ad H d/\d n=some (.lst [])/\d a=some (.frz o (.dT c)))
     ⟨_,rfl,N,E,az⟩ (λi σ d _ ae=>by obtain⟨_,_,_,_,e⟩:=ae;exact e) ?_ ?_
    rotate_left;rintro σ H4 ⟨ak,rfl,C,al,an⟩;exact aD _ _ ⟨ak,rfl,C,al,.inr ⟨o,an⟩⟩;rintro i k v b σ H4 hi aE ⟨ak,rfl,C,al,an⟩;refine BC λNz q=>?_;obtain⟨x,p,b2,m2,e1,aF,_,_⟩:=aC _ (Ei hi);refine q ?_;clear q;cases e1;refine⟨_,rfl,_,rfl,net,b,S,T,x,g j,rfl,ar.same C,aE,aF,?_⟩;refine⟨_,rfl,Ct,λp hp=>?_⟩;obtain⟨H5,ao,D,ep⟩:=new_at (o:=.tup [.str (g j),.str (g j)]) hp;rw[<-ao];have A:=C.trans D;refine⟨_,rfl,G,_,rfl,Ch.t (k:=[.inr (g j),.inr (g j)]) (A _ _ eb) ep,_,rfl,?_⟩;have aG:AZ [(([.inr lt,.inr la]:List A2),V.bl true)] [.inr (g j),.inr (g j)]=none:=(by unfold AZ;rw[List.find?_cons_of_neg];rfl;intro z;have z:=E7 z;injection z with z1 Q;injection Q with Q _;injection z1 with z1;injection Q with Q;exact a8 (Q.trans z1.symm));rw[aG];exact AC ⟨_,rfl,A,D _ _ al,D _ _ an⟩
   rintro σ' H3 ⟨ak,rfl,N,E,a2⟩;refine⟨_,rfl,a,rfl,.inr ⟨_,a2⟩,_,rfl,λe Y=>?_⟩;obtain⟨H4,aH,C,ee⟩:=new_at (o:=.dT []) Y;rw[<-aH];refine⟨Ct,λT5 aI=>?_⟩;obtain⟨H5,ao,D,aJ⟩:=new_at (o:=.tup [.int 0,.ref e]) aI;rw[<-ao];have R:=C.trans D;have A:=N.trans R;have aL:Rd H5 a (.dT c):=a2.elim (λz=>.inl (R _ _ z)) λ⟨o,z⟩=>.inr ⟨o,R _ _ z⟩;have aK:e≠n:=λz=>by rw[z,E] at Y;cases Y
   refine⟨_,.inr ⟨_,Dv m,mk,aL,rfl,A _ _ ab,rfl⟩,?_⟩
   cases hv:AZ c (Dv m) with
   |some v=>
    unfold AZ at hv;obtain⟨B,s,rfl⟩:=Dd.mp hv;rcases ah with J|⟨L,M⟩;obtain⟨a1,⟨o',x⟩,_,M⟩:=TT.at_ a j J;have:a1=c:=(by have O:=r _ _ x;rcases aj with y|⟨o2,y⟩;rw[O] at y;cases y;rw[O] at y;cases y;rfl);subst this;refine BC λNz q=>?_;obtain⟨o2,p,b,m2,rfl,_,q3,X⟩:=M B (List.mem_of_find?_eq_some s);refine q ?_;clear q;refine p8 (p7 ⟨p,_,_,.ref b,rfl,rfl,AB.of (A _ _ q3),rfl,?_⟩);exact⟨_,_,_,_,rfl,A,R _ _ E,a0 _ _ X,.inl X⟩;exfalso;have s:=List.mem_of_find?_eq_some s;have:c=[]:=(by rcases aj with y|⟨o3,y⟩<;>rcases M with y2|⟨o4,y2⟩<;>rw[y] at y2<;>cases y2<;>rfl);rw[this] at s;cases s
   |none=>refine p8 (p7 ⟨T5,_,_,.ref e,rfl,rfl,AB.of aJ,rfl,?_⟩);exact⟨_,_,_,_,rfl,A,R _ _ E,aK,.inr ⟨N.free Y,.inl (D _ _ ee)⟩⟩
inductive CP (K:Ah) (vs:R') (H:Hp) (Q:VK):Prop where
 |mk (net t D O:Addr) (la lt:Str) (ok:Nat->BE->Prop) (zs:List (Addr×List BE)) (h0:vs=[.ref net,.ref t,.ref D,.ref O]) (h1:Ca K H t la lt) (h2:H D=some (.lst (zs.map λz=>V.ref z.1))) (h3:(∀z∈zs,Wy H z.1 z.2/\z.2.length<=5/\∀j o,z.2[j]?=some o->ok j o)) (h4:zs.length<=400) (h5:H O=some (.lst [])) (h6:∀H',Ad H H'->Q .non H'):CP K vs H Q
def YO (K:Ah):Sp:=λvs H Q _=>CP K vs H Q
abbrev Rj(P w K mg base):=Bo P w K mg base "first_owed" 3 ["net", "table", "found", "owed"] (YO K)
def YQ(B:Ba mg)(ER:Bb K mg)(S:O7 P w K mg base)(V:O8 P w K mg base)(W:O9 P w K mg base)(F:A4 K "first_owed" "first_owed" LN f fd)(p:mg "first_owed" = some (.ref f)):Rj P w K mg base:=by
 refine BI F p NH (λr H Q E h=>?_) (λaa A ae s H r Q E hr h=>?_);obtain⟨net,t,D,O,b,lt,ok,c,rfl,_⟩:=h;rfl;obtain⟨net,t,D,O,b,lt,ok,c,rfl,T,u,d,v,e,q⟩:=h
 refine⟨_,(Aq (AN (i:=4) NH.nd (A3 S (Ab (pv 1) Af)))
  (Aq (AN (i:=5) NH.nd (GQ (A3 V (Ab (pv 2) Af))))
  (Aq (CC CB rfl (Cf (pv 3)) (B7 (n:=2) rfl (AH (Az (i:=6) NH.nd) (AH (Az (i:=7) NH.nd) B6))) (As (Bi (Hb (Ha (A3 W (Ab (pv 0) (Ab (pv 4) (Ab (pv 5) (Ab (pv 6) Af))))))) (As (AW (Bf (Ab (pv 6) (Ab (pv 7) Af))))) Bh)))
  (As (AW Hy))))),?_⟩
 rfl';refine⟨_,rfl,t,b,lt,rfl,T,λy Y ab a C=>?_⟩;refine At ?_;cbv;refine⟨_,rfl,D,c,ok,rfl,a _ _ u,λz h=>⟨(d z h).1.same a,(d z h).2⟩,v,λG lv U g I l2 X H3 j J=>?_⟩;have L:=j.same g;clear I X j J g C;have o:=a.trans L;refine At ?_;cbv;refine⟨_,rfl,O,rfl,⟨_,Ag.of (o _ _ e)⟩,EJ (xs:=[]) (λi σ k=>∃l m,σ=[some (.ref net),some (.ref t),some (.ref D),some (.ref O),some (.ref y),some (.ref G),l,m]/\Ad H k) ⟨none,none,rfl,o⟩ (λi σ k _ Z=>by obtain⟨_,_,_,s⟩:=Z;exact Ag.of (s _ _ e)) ?_ ?_⟩;rintro i x σ M N;simp at N;rintro σ M ⟨l,m,rfl,R⟩;exact q _ R
inductive CQ (K:Ah) (vs:R') (H:Hp) (Q:VK):Prop where
 |mk (net m:Addr) (S:Nat->List (Str×Nat)) (Tl:Nat->List (Str×Str×Nat)) (v i:Nat) (p:Str×Str×Nat) (h0:vs=[.ref net,.ref m]) (h1:BU H net S Tl) (h2:v<5) (h3:H m=some (.tup [.int (v:Int),.str "told",.int (i:Int)])) (h4:(Tl v)[i]?=some p) (h5:∀t,H t=some (.tup [.str p.1,.str p.2.1,.str "thing",.int (p.2.2:Int)])->Q (.ref t) H):CQ K vs H Q
def YR (K:Ah):Sp:=λvs H Q _=>CQ K vs H Q
abbrev Pa(P w K mg base):=Bo P w K mg base "telling_at" 1 ["net", "mark"] (YR K)
def YS(B:Ba mg)(G:Bb K mg)(F:A4 K "telling_at" "telling_at" LO f fd)(g:mg "telling_at" = some (.ref f)):Pa P w K mg base:=by
 refine BI F g NI (λj H Q E h=>?_) (λO A T s H j Q E I h=>?_);obtain⟨net,m,S,k,v,i,p,rfl,_⟩:=h;rfl;obtain⟨net,m,S,k,v,i,p,rfl,N,a,l,b,q⟩:=h;obtain⟨c,J,L,us,M,bs,o,z,y,C,R,D⟩:=N.ex;have r:(us.map V.ref)[v]?=some (.ref (us.getD v 0)):=by rw[BP,Ov (by rw[y];exact a)];rfl
 refine⟨_,(Aq (Ey (pv 1) (B7 (n:=3) rfl (AH (Az (i:=2) NI.nd) (AH (Az (i:=3) NI.nd) (AH (Az (i:=4) NI.nd) B6)))))
  (Aq (AN (i:=5) NI.nd (AK AL (AK AL (AK AL (pv 0) Ao) (pv 2)) Ao))
  (As (AW (AK AL (pv 5) (pv 4)))))),?_⟩
 rfl';refine⟨_,rfl,m,_,rfl,AB.of l,rfl,_,_,rfl,_,_,rfl,_,_,rfl,rfl,?_⟩;refine⟨_,rfl,p8 (p7 ⟨net,_,_,.ref c,rfl,rfl,AB.of o,rfl,_,rfl,p7 ⟨c,_,_,.ref (us.getD v 0),rfl,rfl,Ag.of z,EO r,p8 (p7 ⟨us.getD v 0,_,_,.ref (bs.getD v 0),rfl,rfl,AB.of (C v a),rfl,?_⟩)⟩⟩)⟩;refine At ?_;cbv;obtain⟨u,x,d⟩:=D v a;obtain⟨t,e⟩:∃t,u[i]?=some t:=⟨_,AQ (by rw[d.len];exact(Cd.mp b).1)⟩;exact⟨_,rfl,_,rfl,p7 ⟨_,_,_,.ref t,rfl,rfl,Ag.of x,EO (by rw[BP,e];rfl),q t (d.at_ i t p e b)⟩⟩
def YT{b:List BE}{o:BE}(h:Wy H a b)(d:b.getLast?=some o):∃(c:F')(t:Addr),H a=some (.lst (c.map V.ref))/\EN (c.map V.ref) (-1)=some (.ref t)/\H t=some (Iu o):=by
 obtain⟨c,g,k,i⟩:=h;have j:b≠[]:=λz=>by rw[z] at d;cases d
 have l:0<b.length:=List.length_pos_iff.mpr j;rw[List.getLast?_eq_getElem?] at d;have f:=AQ (show b.length-1<c.length by omega);refine⟨c,_,g,?_,i _ _ _ f d⟩;unfold EN;have e:Gq (c.map V.ref).length (-1)=some (b.length-1):=(by unfold Gq;rw[AD,An (by decide),Ap (by omega)];congr 1;omega);rw[e];show(c.map V.ref)[b.length-1]?=_;rw[BP,f];rfl
inductive CS (K:Ah) (vs:R') (H:Hp) (Q:VK):Prop where
 |mk (net P:Addr) (A:V) (S:Nat->List (Str×Nat)) (Tl:Nat->List (Str×Str×Nat)) (ys:List (Addr×List BE)) (h0:vs=[.ref net,A,.ref P]) (h1:BU H net S Tl) (h2:H P=some (.lst (ys.map λz=>V.ref z.1))) (h3:(∀z∈ys,Wy H z.1 z.2/\∃n,FM Tl z.2 n)) (h4:Q .non H):CS K vs H Q
def YU (K:Ah):Sp:=λvs H Q _=>CS K vs H Q
abbrev Rk(P w K mg base):=Bo P w K mg base "first_open" 2 ["net", "answers", "seen"] (YU K)
def YV(B:Ba mg)(ER:Bb K mg)(W:Pa P w K mg base)(F:A4 K "first_open" "first_open" LP f fd)(u:mg "first_open" = some (.ref f)):Rk P w K mg base:=by
 refine BI F u Mn (λx H Q E h=>?_) (λab A ae s H x Q E hr h=>?_);obtain⟨net,P,A,S,l,m,rfl,_⟩:=h;rfl
 . obtain⟨net,P,A,S,l,m,rfl,N,o,y,q⟩:=h
   refine⟨_,(Aq (CC CB rfl (Cf (pv 2)) (Az (i:=3) Mn.nd) (Aq (Ey (A3 W (Ab (pv 0) (Ab (AK AL (pv 3) (IZ Gi Ao)) Af))) (B7 (n:=4) rfl (AH (Az (i:=4) Mn.nd) (AH (Az (i:=5) Mn.nd) (AH (Az (i:=6) Mn.nd) (AH (Az (i:=7) Mn.nd) B6))))))
    (As (Bi (PW.pt (JR (Cc DI (pv 6) BS (B3 _)) (JQ (Hb (Ha (AK AL (pv 1) (pv 7))))))) (As (AW (Bf (Ab (pv 3) (Ab (pv 7) Af))))) Bh))))
    (As (AW Hy))),?_⟩
   try dsimp only[Au,Cx.nox,Cx.wish]
   refine⟨_,rfl,P,rfl,⟨_,Ag.of o⟩,EJ (xs:=m.map λz=>V.ref z.1) (λi σ r=>∃b c d g j,σ=[some (.ref net),some A,some (.ref P),b,c,d,g,j]/\r=H)
    ⟨none,none,none,none,none,rfl,rfl⟩ (λi σ r _ X=>by obtain⟨_,_,_,_,_,_,e⟩:=X;exact by rw[e];exact Ag.of o) ?_ ?_⟩
   rotate_left;refine λσ C k=>BC λt a=>?_;obtain⟨b,c,d,g,j,rfl,rfl⟩:=k;refine a ?_;clear a;exact q;refine λi aa σ C D k=>BC λt a=>?_;obtain⟨b,c,d,g,j,rfl,rfl⟩:=k;refine a ?_;clear a;obtain⟨z,Y,rfl⟩:=getm D;refine BC λt a=>?_;obtain⟨G,n,v,I,p,J,L,M,hn⟩:=y z (Ei Y);refine a ?_;clear a;obtain⟨ts,mk,O,R,T⟩:=YT G L;refine At ?_;cbv;refine⟨_,rfl,_,rfl,_,rfl,p7 ⟨z.1,_,_,.ref mk,rfl,rfl,Ag.of O,R,net,mk,S,l,v,I,p,rfl,N,J,T,M,λU Z=>?_⟩⟩;refine⟨U,_,rfl,AB.of Z,rfl,_,_,rfl,_,_,rfl,_,_,rfl,_,_,rfl,rfl,?_⟩;refine⟨_,rfl,rfl,_,rfl,?_⟩;rw[BZ (show ¬V.str "thing" = V.str "by" from λe=>absurd (V.str.inj e) (by decide +kernel))];exact AC (AC ⟨_,_,_,_,_,rfl,rfl⟩)
def YW{b:List BE}{o:BE}(h:Wy H a b)(d:b.getLast?=some o):∃(c:F')(t:Addr),H a=some (.lst (c.map V.ref))/\EN (c.map V.ref) (-1)=some (.ref t)/\H t=some (Iu o):=by
 obtain⟨c,g,k,i⟩:=h;have j:b≠[]:=λz=>by rw[z] at d;cases d
 have l:0<b.length:=List.length_pos_iff.mpr j;rw[List.getLast?_eq_getElem?] at d;have f:=AQ (show b.length-1<c.length by omega);refine⟨c,_,g,?_,i _ _ _ f d⟩;unfold EN;have e:Gq (c.map V.ref).length (-1)=some (b.length-1):=(by unfold Gq;rw[AD,An (by decide),Ap (by omega)];congr 1;omega);rw[e];show(c.map V.ref)[b.length-1]?=_;rw[BP,f];rfl
inductive DY (K:Ah) (vs:R') (H:Hp) (Q:VK):Prop where
 |mk (net l:Addr) (A:V) (S:Nat->List (Str×Nat)) (Tl:Nat->List (Str×Str×Nat)) (os:List BE) (n:Nat) (h0:vs=[.ref net,A,.ref l]) (h1:BU H net S Tl) (h2:Wy H l os) (h3:FM Tl os n) (h4:Q (.int (n:Int)) H):DY K vs H Q
def YX (K:Ah):Sp:=λvs H Q _=>DY K vs H Q
abbrev Rl(P w K mg base):=Bo P w K mg base "meaning" 2 ["net", "answers", "way"] (YX K)
def YY(B:Ba mg)(y:Bb K mg)(u:Pa P w K mg base)(F:A4 K "meaning" "meaning" LQ f fd)(b:mg "meaning" = some (.ref f)):Rl P w K mg base:=by
 refine BI F b K5 (λc H Q E h=>?_) (λD A G s H c Q E z h=>?_);obtain⟨net,l,A,S,a,d,n,rfl,_⟩:=h;rfl;obtain⟨net,l,A,S,a,d,n,rfl,N,e,⟨v,i,p,g,j,k,rfl⟩,q⟩:=h;obtain⟨C,mk,m,o,r⟩:=YW e j
 refine⟨_,(Aq (Ey (A3 u (Ab (pv 0) (Ab (AK AL (pv 2) (IZ Gi Ao)) Af))) (B7 (n:=4) rfl (AH (Az (i:=3) K5.nd) (AH (Az (i:=4) K5.nd) (AH (Az (i:=5) K5.nd) (AH (Az (i:=6) K5.nd) B6))))))
  (Aq (Bi (Cc DI (pv 5) BS (B3 _)) (As (AW (pv 6))) Bh)
  (Aq (Ey (AK AL (pv 1) (pv 6)) (B7 (n:=2) rfl (AH (Az (i:=5) K5.nd) (AH (Az (i:=6) K5.nd) B6))))
  (Aq (Bi (Cc DI (pv 5) BS (B3 _)) (As (AW (pv 6))) Bh)
  (As (AW Hy)))))),?_⟩
 rfl';refine⟨_,rfl,_,rfl,_,rfl,p7 ⟨l,_,_,.ref mk,rfl,rfl,Ag.of m,o,net,mk,S,a,v,i,p,rfl,N,g,r,k,λt x=>?_⟩⟩;refine⟨t,_,rfl,AB.of x,rfl,_,_,rfl,_,_,rfl,_,_,rfl,_,_,rfl,rfl,?_⟩;exact⟨_,rfl,rfl,_,rfl,AS ⟨_,rfl,q⟩⟩
inductive Js (K:Ah) (vs:R') (H:Hp) (Q:VK):Prop where
 |mk (net t O r B D P:Addr) (A:V) (la lt:Str) (S:Nat->List (Str×Nat)) (Tl:Nat->List (Str×Str×Nat)) (lb:Nat->Str) (ws ys:List (Addr×List BE)) (mn:List BE->Nat) (h0:vs=[.ref net,A,.ref t,.ref O,.ref r,.int 0]) (h1:BU H net S Tl) (h2:Ca K H t la lt) (h3:H O=some (.lst [])) (h4:H r=some (.tup [.ref B,.ref D,.ref P])) (h5:H D=some (.lst (ws.map λw=>V.ref w.1))) (h6:(∀w∈ws,Wy H w.1 w.2/\w.2.length<=5/\Iv S Tl lb w.2)) (h7:ws.length<=400) (h8:H P=some (.lst (ys.map λz=>V.ref z.1))) (h9:(∀z∈ys,Wy H z.1 z.2/\FM Tl z.2 (mn z.2))) (h10:ys.length<=400) (h11:∀(v p:Addr)(w:Str)(n:Nat)(H':Hp),Ad H H'->H' v=some (.tup [.ref p,.non])->H' p=some (.tup [.str w,.int (n:Int)])->Nv (ys.map λz=>mn z.2) w n->Q (.ref v) H'):Js K vs H Q
def Lf (K:Ah):Sp:=λvs H Q _=>Js K vs H Q
abbrev Pb(P w K mg base):=Bo P w K mg base "met" 4 ["net", "answers", "table", "owed", "look", "at"] (Lf K)
def YZ(ae:Ba mg)(ER:Bb K mg)(au:Rj P w K mg base)(av:Rk P w K mg base)(aw:Rl P w K mg base)(F:A4 K "met" "met" Ht f fd)(hm:mg "met" = some (.ref f)):Pb P w K mg base:=by
 refine BI F hm IJ (λg H an ao h=>?_) (λa7 a5 a9 af H g an ao hr h=>?_);obtain⟨net,t,O,r,B1,D,P,I,la,lt,S,J,lb,ws,l,m,rfl,_⟩:=h;rfl
 . obtain⟨net,t,O,r,B1,D,P,I,la,lt,S,J,lb,ws,l,m,rfl,ag,aq,eO,er,eD,hw,lw,X,L,ly,q⟩:=h
   refine⟨_,(Aq (Ey (pv 4) (B7 (n:=3) rfl (AH (Az (i:=6) IJ.nd) (AH (Az (i:=7) IJ.nd) (AH (Az (i:=8) IJ.nd) B6)))))
    (Aq (AN (i:=9) IJ.nd (A3 au (Ab (pv 0) (Ab (pv 2) (Ab (pv 7) (Ab (pv 3) Af))))))
    (Aq (Bi (Hb (Ha (pv 9))) (As (AN (i:=9) IJ.nd (A3 av (Ab (pv 0) (Ab (pv 1) (Ab (pv 8) Af)))))) Bh)
    (Aq (Bi (Hb (Pt (pv 9))) (Aq (Ey (pv 9) (B7 (n:=2) rfl (AH (Az (i:=10) IJ.nd) (AH (Az (i:=11) IJ.nd) B6))))
     (As (AW (Bf (Ab Hy (Ab (Bf (Ab (pv 5) (Ab (pv 10) (Ab (pv 11) Af)))) Af)))))) Bh)
    (Aq (AN (i:=12) IJ.nd (ES rfl Fk (Cf (pv 8)) (λ_ _ _ _ _=>(Az (i:=0) Fk.nd)) (λ_ _ _ _ _=>EA) (λ_ _ _ _ _=>(A3 aw (Ab (pv 1) (Ab (pv 2) (Ab (pv 0) Af)))))))
    (Aq (Bi (Eo (Bq (P9 rfl) ae.b_all (Ab (ES rfl Fl (Cf (pv 12)) (λ_ _ _ _ _=>(Az (i:=0) Fl.nd)) (λ_ _ _ _ _=>EA) (λ_ _ _ _ _=>(Pu (Ha (pv 0))))) Af))) (As (AW (Bf (Ab (Bf (Ab BS (Ab (pv 5) Af))) (Ab Hy Af))))) Bh)
    (Aq (Bi (Eo (Bq (WQ rfl) ae.b_any (Ab (ES (te:=EK RB (Cq 0) (EK (HJ K) (Cq 1) (tC (.int ((0:Nat):Int))))) rfl Fm (Cf (pv 12)) (λ_ _ _ _ _=>(Az (i:=0) Fm.nd)) (λ_ _ _ _ _=>EA) (λ_ _ _ _ _=>(Ja I0 (pv 0) (AK AL (pv 1) Ao) (B3 _)))) Af))) (As (AW (Bf (Ab (Bf (Ab BS (Ab (pv 5) Af))) (Ab Hy Af))))) Bh)
    (As (AW (Bf (Ab (Bf (Ab BS (Ab (AK AL (pv 12) Ao) Af))) (Ab Hy Af)))))))))))),?_⟩
   rfl';refine⟨_,rfl,r,_,rfl,AB.of er,rfl,_,_,rfl,_,_,rfl,_,_,rfl,rfl,?_⟩;refine⟨_,rfl,_,rfl,_,rfl,_,rfl,net,t,D,O,la,lt,(λj o=>Mj S J o (lb j)),ws,rfl,aq,eD,hw,lw,eO,λa6 N=>?_⟩;refine At ?_;cbv;refine N5 (λσ' A=>σ'=[some (.ref net),some I,some (.ref t),some (.ref O),some (.ref r),some (.int 0),some (.ref B1),some (.ref D),some (.ref P),some .non,none,none,none]/\Ad H A) ?_ (λNN ax=>?_)
   case refine_2 =>
    refine⟨_,rfl,_,rfl,Ci (λ_=>?_) (λh=>absurd (B2 rfl) h)⟩;refine⟨_,rfl,_,rfl,_,rfl,net,P,I,S,J,l,rfl,ag.same N,N _ _ X,λz h=>⟨(L z h).1.same N,_,(L z h).2⟩,?_⟩;exact ax _ _ ⟨rfl,N⟩
   rintro σ' ar ⟨rfl,Q⟩;refine⟨_,rfl,_,rfl,Ci (λh=>absurd h (by decide)) (λ_=>?_)⟩;refine Du ?_;cbv
   refine⟨_,rfl,P,rfl,⟨_,Ag.of (Q _ _ X)⟩,M5 (xs:=l.map λz=>V.ref z.1) (λM i g A=>Ad ar A/\A M=some (.lst g)/\g=((l.take i).map λz=>V.int ((m z.2:Nat):Int)))
    (λM R=>⟨AJ R,Aa,by rw[IP];rfl⟩) (λM i g A ay=>by obtain⟨af,_⟩:=ay;exact Ag.of (af _ _ (Q _ _ X))) (λM i y g H3 RR R az Y k=>?_) (λM g H3 R Y=>?_)⟩
   obtain⟨T,c,rfl⟩:=Y;obtain⟨z,ai,rfl⟩:=getm az;have mz:=Ei ai;have U:=Q.trans T;refine⟨_,rfl,_,rfl,_,rfl,net,z.1,I,S,J,z.2,m z.2,rfl,ag.same U,(L z mz).1.same U,(L z mz).2,?_⟩;refine k _ _ c ?_ ⟨λb o ah=>?_,Aa,?_⟩;rw[AD,CA];exact BQ (by omega);rw[Ax (AM ah R)];exact T _ _ ah;rw[E4,ai,Cb];rfl;obtain⟨T,c,rfl⟩:=Y;rw[AD,FQ] at c;have c:H3 M=some (.lst ((l.map λz=>m z.2).map λn:Nat=>V.int (n:Int))):=by rw[c,Dl];rfl
   have lm:(l.map λz=>m z.2).length<=400:=by rw[AD];exact ly
   generalize (l.map λz=>m z.2)=Z at q c lm;have U:=Q.trans T;refine At ?_;cbv;refine⟨_,rfl,M,rfl,⟨_,Ag.of c⟩,Sj (xs:=Z.map λn:Nat=>V.int (n:Int)) (λv=>V.bl (decide (v=V.non))) (by rw[AD];exact CZ (BQ (by omega))) (Ag.of c) (λj y H4 D4 R4 a8 s4 a0 k4=>⟨_,rfl,k4 _ (Ad.refl _)⟩) (λH4 D4 s4 a0 e4=>?_)⟩;refine⟨D4,(Z.map λn:Nat=>V.int (n:Int)).map λv=>decide (v=V.non),rfl,Ag.of (by rw[e4,Dl (f:=λv=>decide (v=V.non))];rfl),_,rfl,?_⟩;have aj:=U.trans s4
   cases Z with
   |nil=>refine AS ⟨_,rfl,Ct,λd E=>?_⟩;obtain⟨H5,a1,p,e5⟩:=new_at (o:=.tup [.str "none",.int 0]) E;rw[<-a1];refine⟨Ct,λB G=>?_⟩;have s:=AJ (o:=.tup [.ref d,.non]) G;exact q B d "none" 0 _ ((aj.trans p).trans s) Aa (s _ _ e5) (.inl ⟨rfl,rfl,rfl⟩)
   |cons a e=>
    rw[show(((a::e).map λn:Nat=>V.int (n:Int)).map λv=>decide (v=V.non)).all id=false from rfl];refine AC ?_;refine Du ?_;cbv;have W:=s4 _ _ c;have h0:EN ((a::e).map λn:Nat=>V.int (n:Int)) ((0:Nat):Int)=some (.int (a:Int)):=EO rfl;refine⟨_,rfl,M,rfl,⟨_,Ag.of W⟩,Sj (xs:=(a::e).map λn:Nat=>V.int (n:Int)) (λv=>V.bl (!decide (v=V.int (a:Int)))) (by rw[AD];exact CZ (BQ (by omega))) (Ag.of W) (λj y H5 D5 R5 a2 p a3 k5=>?_) (λH5 D5 p a3 e5=>?_)⟩;obtain⟨w,_,rfl⟩:=getm a2;exact⟨_,rfl,_,rfl,p7 ⟨M,_,_,_,rfl,rfl,Ag.of (p _ _ W),h0,rfl,k5 _ (Ad.refl _)⟩⟩;refine⟨D5,((a::e).map λn:Nat=>V.int (n:Int)).map λv=>!decide (v=V.int (a:Int)),rfl,Ag.of (by rw[e5,Dl (f:=λv=>!decide (v=V.int (a:Int)))];rfl),_,rfl,?_⟩;have ak:=aj.trans p;by_cases ab:∀x∈a::e,x=a
    rw[show((((a::e).map λn:Nat=>V.int (n:Int)).map λv=>!decide (v=V.int (a:Int))).any id)=false from by
     rw[Dl,List.any_map,List.any_eq_false];intro x u;rw[ab x u];simp]
    refine AC ?_;refine Du ?_;cbv;have a4:=p _ _ W;refine⟨_,rfl,p7 ⟨M,_,_,.int (a:Int),rfl,rfl,Ag.of a4,h0,Ct,λd E=>?_⟩⟩;obtain⟨H6,aa,s,e6⟩:=new_at (o:=.tup [.str "thing",.int (a:Int)]) E;rw[<-aa];refine⟨Ct,λB G=>?_⟩;have C:=AJ (o:=.tup [.ref d,.non]) G;exact q B d "thing" a _ ((ak.trans s).trans C) Aa (C _ _ e6) (.inr (.inl ⟨(λz=>by cases z),ab,rfl⟩));obtain⟨x,u,al⟩:∃x∈a::e,x≠a:=q2 λz=>ab λx u=>q2 λy=>z ⟨x,u,y⟩
    rw[show((((a::e).map λn:Nat=>V.int (n:Int)).map λv=>!decide (v=V.int (a:Int))).any id)=true from by
     rw[Dl,List.any_map,Jw];refine⟨x,u,?_⟩;show(!decide (V.int (x:Int)=V.int (a:Int)))=true;rw[BZ λz=>al (by have:=V.int.inj z;omega)];rfl]
    refine AS ⟨_,rfl,Ct,λd E=>?_⟩;obtain⟨H6,aa,s,e6⟩:=new_at (o:=.tup [.str "torn",.int 0]) E;rw[<-aa];refine⟨Ct,λB G=>?_⟩;have C:=AJ (o:=.tup [.ref d,.non]) G;exact q B d "torn" 0 _ ((ak.trans s).trans C) Aa (C _ _ e6) (.inr (.inr ⟨⟨x,u,a,CH ..,al⟩,rfl,rfl⟩))
inductive DZ (K:Ah) (vs:R') (H:Hp) (Q:VK):Prop where
 |mk (t:Addr) (la lab:Str) (h0:vs=[.ref t,.int 0,.str lab]) (h1:Ca K H t la lab) (h2:Q (.bl true) H):DZ K vs H Q
def Y0 (K:Ah):Sp:=λvs H Q _=>DZ K vs H Q
abbrev Rm(P w K mg base):=Bo P w K mg base "has_end" 1 ["table", "state", "label"] (Y0 K)
def Y1(B:Ba mg)(r:Bb K mg)(F:A4 K "has_end" "has_end" LR f fd)(c:mg "has_end" = some (.ref f)):Rm P w K mg base:=by
 refine BI F c Ub (λd H Q E h=>?_) (λG A I s H d Q E v h=>?_);obtain⟨t,j,b,rfl,_⟩:=h;rfl;obtain⟨t,j,b,rfl,⟨a,o,u,g,e,gt,x,k,l,m,y,z,n,C,D⟩,q⟩:=h
 refine⟨_,(Aq (AN (i:=3) Ub.nd (AK AL (AK AL (AK AL (pv 0) Ao) (pv 1)) Ao))
  (As (AW (Ja RT (pv 2) (pv 3) (by with_unfolding_all rfl))))),?_⟩
 rfl';refine⟨_,rfl,p8 (p7 ⟨t,_,_,.ref a,rfl,rfl,AB.of k,rfl,_,rfl,p7 ⟨a,_,_,.ref u,rfl,rfl,Ag.of l,rfl,p8 (p7 ⟨u,_,_,.ref e,rfl,rfl,AB.of m,rfl,?_⟩)⟩⟩)⟩;refine At ?_;cbv;refine⟨_,rfl,_,rfl,e,_,rfl,p7 (Ag.of n),rfl,rfl,?_⟩
 have p:Kd (.str b) [.str b]=true:=by
  unfold Kd;show((b==b) || false)=true;simp
 rw[An B0,p];exact q
inductive Cp (K:Ah) (vs:R') (H:Hp) (Q:VK):Prop where
 |mk (net t D0:Addr) (lab lbt nm:Str) (S:Nat->List (Str×Nat)) (Tl:Nat->List (Str×Str×Nat)) (zs:List (Addr×B9)) (h0:vs=[.ref net,.ref t,.ref D0,.str nm]) (h1:BU H net S Tl) (h2:(∀v,v<5->∀p∈Tl v,p.1=lbt)) (h3:Ca K H t lab lbt) (h4:H D0=some (.lst (zs.map λz=>V.ref z.1))) (h5:(∀z∈zs,FX H z.1 z.2/\z.2.1.length<=5/\z.2.2<5)) (h6:zs.length<=200) (h7:∀(D:Addr)(ws:List (Addr×List BE))(H':Hp),H D=none->Ad H H'->H' D=some (.lst (ws.map λw=>V.ref w.1))->(∀w∈ws,Wy H' w.1 w.2)->(ws.map (·.2)).Perm (zs.flatMap λz=>Bs Tl nm z.2)->Q (.ref D) H'):Cp K vs H Q
def Y2 (K:Ah):Sp:=λvs H Q _=>Cp K vs H Q
abbrev Rn(P w K mg base):=Bo P w K mg base "found_behind" 2 ["net", "table", "begun", "name"] (Y2 K)
def Y3(an:Ba mg)(ER:Bb K mg)(aC:Rm P w K mg base)(F:A4 K "found_behind" "found_behind" LS f fd)(T:mg "found_behind" = some (.ref f)):Rn P w K mg base:=by
 refine BI F T K6 (λvs H a4 a5 h=>?_) (λaU aR aZ aS H vs a4 a5 hr h=>?_);obtain⟨net,t,L,ar,aa,j,a6,g,s,rfl,_⟩:=h;rfl
 . obtain⟨net,t,L,ar,aa,j,a6,g,s,rfl,ao,aD,a7,e0,hz,l2,a8⟩:=h
   obtain⟨sc,th,qu,us,aT,bs,en,aO,aE,aP,aY,aQ⟩:=id ao.ex
   refine⟨_,(Aq (AN (i:=4) K6.nd (Bl Af))
    (Aq (CC CB rfl (Cf (pv 2)) (B7 (n:=3) rfl (AH (Az (i:=5) K6.nd) (AH (Az (i:=6) K6.nd) (AH (Az (i:=7) K6.nd) B6)))) (As (CC CB rfl (Qv rfl an.b_enumerate (Ab (AK AL (AK AL (AK AL (pv 0) Ao) (pv 6)) Ao) Af)) (B7 (n:=2) rfl (AH (Az (i:=8) K6.nd) (AH (Az (i:=9) K6.nd) B6))) (As (Bi (PW.pt (JR (Cc DI (AK AL (pv 9) Ao) (pv 3) (B3 _)) (JQ (Eo (A3 aC (Ab (pv 1) (Ab (pv 7) (Ab (AK AL (pv 9) Ao) Af)))))))) (As (DH (DN Ek E8 E9 Fe (pv 4) (Ab (BH Jc (pv 5) (Bl (Ab (Bf (Ab (pv 6) (Ab BS (Ab (pv 8) Af)))) Af))) Af)))) Bh)))))
    (As (AW (Bq (VU KI hr.units (by decide)) an.b_sorted (Ab (pv 4) Af)))))),?_⟩
   rfl';refine⟨by decide,λD hD=>?_⟩;have s1:=AJ (o:=.lst []) hD
   refine⟨_,rfl,L,rfl,⟨_,Ag.of (s1 _ _ e0)⟩,EJ (xs:=s.map λz=>V.ref z.1) (λi σ l=>∃(U W X u v:U')(a:List (Addr×List BE)),σ=[some (.ref net),some (.ref t),some (.ref L),some (.str j),some (.ref D),U,W,X,u,v]/\Ad H l/\l D=some (.lst (a.map λw=>V.ref w.1))/\(∀w∈a,Wy l w.1 w.2/\w.1≠D)/\a.map (·.2)=(s.take i).flatMap (λz=>Bs g j z.2)/\a.length<=2*i)
    ⟨none,none,none,none,none,[],rfl,s1,Aa,(λw b=>by simp at b),rfl,Aw _⟩ (λi σ l _ ab=>by obtain⟨_,_,_,_,_,_,_,e,_⟩:=ab;exact Ag.of (e _ _ e0)) ?_ ?_⟩
   . refine λi aq σ a9 hx A=>BC λM d=>?_
     obtain⟨U,W,X,u,v,a,rfl,q,Y,b,N,lw⟩:=A;refine d ?_;clear d;obtain⟨z,ae,rfl⟩:=getm hx;have aV:i<s.length:=(Cd.mp ae).1;have aF:s.take (i+1)=s.take i++[z]:=by rw[E4,ae];rfl
     refine BC λM d=>?_;obtain⟨⟨ml,r,h1,h2,B⟩,aW,C⟩:=hz z (Ei ae);refine d ?_;clear d;refine⟨z.1,_,rfl,AB.of (q _ _ h1),rfl,_,_,rfl,_,_,rfl,_,_,rfl,rfl,?_⟩;have hu:(us.map V.ref)[z.2.2]?=some (.ref (us.getD z.2.2 0)):=by rw[BP,Ov (by rw[aE];exact C)];rfl
     obtain⟨tt,au,av⟩:=aQ z.2.2 C;have lT:=(ao.le z.2.2 C).2.2;have aw:=av.len
     refine⟨_,rfl,p8 (p7 ⟨net,_,_,.ref sc,rfl,rfl,AB.of (q _ _ en),rfl,_,rfl,p7 ⟨sc,_,_,.ref (us.getD z.2.2 0),rfl,rfl,Ag.of (q _ _ aO),EO hu,p8 (p7 ⟨us.getD z.2.2 0,_,_,.ref (bs.getD z.2.2 0),rfl,rfl,AB.of (q _ _ (aP _ C)),rfl,bs.getD z.2.2 0,rfl,⟨_,q _ _ au⟩,Qw (xs:=tt.map V.ref) (λn σ l=>∃(u v:U')(a:List (Addr×List BE)),σ=[some (.ref net),some (.ref t),some (.ref L),some (.str j),some (.ref D),some (.ref ml),some (.int (z.2.2:Int)),some (.int 0),u,v]/\Ad H l/\l D=some (.lst (a.map λw=>V.ref w.1))/\(∀w∈a,Wy l w.1 w.2/\w.1≠D)/\a.map (·.2)=(s.take i).flatMap (λz=>Bs g j z.2)++(C4 j 0 ((g z.2.2).take n)).map (λi:Nat=>z.2.1.map Jn++[((z.2.2:Int),j',(i:Int))])/\a.length<=2*i+n)
      ⟨_,_,a,rfl,q,Y,b,by rw[IP];exact N.trans (EF _).symm,lw⟩ (λn σ l ab=>by obtain⟨_,_,_,_,e,_⟩:=ab;exact Ag.of (e _ _ au)) ?_ ?_⟩)⟩⟩)⟩
     . refine λn aA Tt σ H3 hy hT A=>BC λM d=>?_
       obtain⟨u,v,a,rfl,s3,af,O,G,ax⟩:=A;refine d ?_;clear d;obtain⟨k,ay,rfl⟩:=getm hy;have hn:n<(g z.2.2).length:=by rw[<-aw];exact(Cd.mp ay).1
       have x:=AQ hn;have az:=av.at_ n k _ ay x;have a0:=aD z.2.2 C _ (EE hn);have aG:(g z.2.2).take (n+1)=(g z.2.2).take n++[(g z.2.2)[n]]:=by rw[E4,x];rfl
       have Q:=TL j ((g z.2.2).take n) 0 (g z.2.2)[n];rw[<-aG,Nat.zero_add,CA,show min n (g z.2.2).length=n by omega] at Q;generalize (g z.2.2)[n]=p at az Q x a0;have y:=s3.trans (AJ (o:=.tup [.int (n:Int),.ref k]) hT);have I:=AJ (o:=.tup [.int (n:Int),.ref k]) hT _ _ af;have J:∀w∈a,Wy (upd H3 Tt (.tup [.int (n:Int),.ref k])) w.1 w.2/\w.1≠D:=λw b=>⟨(O w b).1.same (AJ hT),(O w b).2⟩;refine⟨Tt,_,rfl,AB.of Aa,rfl,_,_,rfl,_,_,rfl,rfl,?_⟩;generalize upd H3 Tt (.tup [.int (n:Int),.ref k])=H4 at y I J ⊢;have ag:=y _ _ az;refine⟨_,rfl,p8 (p7 ⟨k,_,_,.str p.2.1,rfl,rfl,AB.of ag,rfl,_,rfl,rfl,_,rfl,?_⟩)⟩;by_cases R:p.2.1=j;rotate_left;rw[BZ (show ¬V.str p.2.1=V.str j from λz=>R (V.str.inj z))];refine AC (AC ⟨_,_,a,rfl,y,I,J,?_,by omega⟩);rw[Q,An R,EF];exact G;rw[B2 (show V.str p.2.1=V.str j by rw[R])];rw[a0] at ag;refine AS ⟨_,rfl,_,rfl,_,rfl,p8 (p7 ⟨k,_,_,.str aa,rfl,rfl,AB.of ag,rfl,t,ar,aa,rfl,a7.same y,_,rfl,AS ?_⟩)⟩;refine⟨_,rfl,p7 ⟨rfl,_,Ag.of I⟩,_,rfl,_,rfl,_,rfl,L8,λm T=>?_⟩;obtain⟨H5,aH,s5,aB⟩:=new_at (o:=.tup [.int (z.2.2:Int),.str "told",.int (n:Int)]) T;rw[<-aH];refine⟨FW,λL1 aI=>?_⟩;obtain⟨H6,aJ,s6,aK⟩:=new_at (o:=.lst [.ref m]) aI;rw[<-aJ];have ah:=s5.trans s6;have aL:=y.trans ah;refine⟨ml,L1,_,_,rfl,rfl,aL _ _ h2,aK,by rw[AD,B.len];exact CZ (BQ (show _+1<=1000 by omega)),λL2 ai=>?_⟩;have s7:=AJ (o:=.lst (r.map V.ref++[.ref m])) ai;have a1:(upd H6 L2 (.lst (r.map V.ref++[.ref m]))) L2=some (.lst ((r++[m]).map V.ref)):=by rw[Aa,Cb];rfl
       generalize upd H6 L2 (.lst (r.map V.ref++[.ref m]))=H7 at s7 a1 ⊢;have S:=ah.trans s7;have aj:=S _ _ I;have a2:L2≠D:=λe=>by rw[e,ah _ _ I] at ai;cases ai
       refine⟨D,_,_,rfl,rfl,aj,by rw[AD];exact BQ (by omega),?_⟩;refine⟨_,_,a++[(L2,z.2.1.map Jn++[((z.2.2:Int),j',(n:Int))])],rfl,λaq o e=>?_,by rw[Aa,Cb];rfl,λw b=>?_,?_,by rw[BF];show a.length+1<=_;omega⟩;rw[Ax (AM e hD)];exact S _ _ (y aq o e);rcases CG.mp b with b|b;exact⟨((J w b).1.same S).updL aj (J w b).2,(J w b).2⟩;rw[BY.mp b];refine⟨Wy.updL aj a2 ⟨r++[m],a1,by simp[B.len],λn tt o E Z=>?_⟩,a2⟩;rcases u0 n r.length with c|c;rw[Ew c] at E;rw[Ew (by rw[AD,<-B.len];exact c),BP] at Z;obtain⟨p,x,rfl⟩:=Dd.mp Z;exact S _ _ (y _ _ (B.at_ n tt p E x));have aM:n<(r++[m]).length:=(Cd.mp E).1;rw[BF,Ju] at aM;have e':n=r.length:=(by omega);subst e';rw[D6 (Aw _),Nat.sub_self] at E;rw[D6 (by rw[AD,B.len];exact Aw _),AD,B.len,Nat.sub_self] at Z;cases E;cases Z;exact s7 _ _ (s6 _ _ aB);rw[Q,Ap R,Cb,Cb,<-E5,<-G];rfl
     refine λσ H3 A=>BC λM d=>?_;obtain⟨u,v,a,rfl,s3,af,O,G,ax⟩:=A;refine d ?_;clear d;rw[AD,aw,FQ] at G;refine⟨_,_,_,_,_,a,rfl,s3,af,O,?_,by rw[AD] at ax;omega⟩;rw[aF,List.flatMap_append,G];simp
   refine λσ a9 A=>BC λM d=>?_;obtain⟨U,W,X,u,v,a,rfl,q,Y,b,N,lw⟩:=A;refine d ?_;clear d;rw[AD] at lw;rw[AD,FQ] at N;refine⟨_,rfl,D,a.map λw=>(V.ref w.1,w.2),rfl,?_,by rw[AD];omega,λaA hy=>?_,λD2 aX x hs ak=>?_⟩;rw[Dl];exact Ag.of Y;obtain⟨w,al,rfl⟩:=CU.mp hy;exact(b w al).1.dt;obtain⟨aN,a3,rfl⟩:=QL x;refine a8 D2 aN _ (q.free ak) (q.trans (AJ ak)) (by rw[Aa,Dl];rfl) (λw al=>((b w (a3.mem_iff.mp al)).1.same (AJ ak))) ?_;rw[<-N];exact a3.map _
inductive C8 (K:Ah) (vs:R') (H:Hp) (Q:VK):Prop where
 |mk (net t D:Addr) (S:Nat->List (Str×Nat)) (Tl:Nat->List (Str×Str×Nat)) (la lt:Str) (lb:Nat->Str) (zs:List (Addr×List BE)) (h0:vs=[.ref net,.ref t,.ref D]) (h1:BU H net S Tl) (h2:Ca K H t la lt) (h3:la≠lt) (h4:H D=some (.lst (zs.map λz=>V.ref z.1))) (h5:(∀z∈zs,Wy H z.1 z.2/\z.2.length<=5/\Iv S Tl lb z.2)) (h6:zs.length<=400) (h7:∀(P:Addr)(ys:List (Addr×List BE))(H':Hp),H P=none->Ad H H'->H' P=some (.lst (ys.map λz=>V.ref z.1))->(∀z∈ys,Wy H' z.1 z.2)->ys.map (·.2)=zs.map (·.2)->Q (.ref P) H'):C8 K vs H Q
def Y4 (K:Ah):Sp:=λvs H Q _=>C8 K vs H Q
abbrev Ro(P w K mg base):=Bo P w K mg base "seen_ways" 3 ["net", "table", "ways"] (Y4 K)
def Y5(ah:Ba mg)(ER:Bb K mg)(au:O7 P w K mg base)(av:O8 P w K mg base)(aw:O9 P w K mg base)(F:A4 K "seen_ways" "seen_ways" JI f fd)(hm:mg "seen_ways" = some (.ref f)):Ro P w K mg base:=by
 refine BI F hm QV (λc H ai aj h=>?_) (λa8 a5 aB s H c ai aj hr h=>?_);obtain⟨net,t,D,S,C,E,lt,G,g,rfl,_⟩:=h;rfl;obtain⟨net,t,D,S,C,E,lt,G,g,rfl,ak,al,ax,I,d,lz,an⟩:=h
 refine⟨_,(Aq (AN (i:=3) QV.nd (A3 au (Ab (pv 1) Af)))
  (Aq (AN (i:=4) QV.nd (GQ (A3 av (Ab (pv 2) Af))))
  (As (AW (ES (te:=PR (Ir K) (Dk (Cq 0) CW)) rfl Cu (Cf (pv 2)) (λ_ _ _ _ _=>(Az (i:=0) Cu.nd)) (λ_ _ _ _ _=>(GB (Hb (Ha (A3 aw (Ab (pv 1) (Ab (pv 2) (Ab (pv 3) (Ab (pv 0) Af))))))))) (λ_ _ _ _ _=>(MJ RU ah.b_list (Ab (pv 0) Af)))))))),?_⟩
 rfl';refine⟨_,rfl,t,E,lt,rfl,al,λbp a6 a9 J U=>?_⟩;refine At ?_;cbv;refine⟨_,rfl,D,g,(λao o=>Mj S C o (G ao)),rfl,J _ _ I,λz h=>⟨(d z h).1.same J,(d z h).2⟩,lz,λtr lv a7 W X l2 aa H3 n v=>?_⟩;have Y:=n.same W;have T3:=X.frz aa n v;have ay:=Y _ _ U;clear X aa n v W U;have m:=J.trans Y;refine At ?_;cbv
 refine⟨_,rfl,D,rfl,⟨_,Ag.of (m _ _ I)⟩,VH (xs:=g.map λz=>V.ref z.1) (λP i p x=>∃c:List (Addr×List BE),p=(c.map λz=>V.ref z.1)/\Ad H3 x/\x P=some (.lst p)/\(∀z∈c,Wy x z.1 z.2/\z.1≠P)/\c.map (·.2)=(g.map (·.2)).take i/\c.length<=i)
  (λP q=>⟨[],rfl,AJ q,Aa,(λz d=>by simp at d),by rw[IP];rfl,Aw _⟩) (λP i p x az=>by obtain⟨_,_,s,_⟩:=az;exact Ag.of (s _ _ (m _ _ I))) (λP i y p Z RR R0 q hy L k k0=>?_) (λP p Z q L=>?_)⟩
 refine BC λNz r=>?_;obtain⟨c,rfl,j,M,u,B,a0⟩:=L;refine r ?_;clear r;obtain⟨z,R,rfl⟩:=getm hy;have aA:i<g.length:=(Cd.mp R).1;have N:=Ei R;have a1:(g.map (·.2))[i]?=some z.2:=by rw[BP,R];rfl
 have ab:=m.trans j;refine⟨_,rfl,_,rfl,_,rfl,_,rfl,net,bp,tr,z.1,S,C,E,lt,G,lv,2000,z.2,rfl,ak.same ab,j _ _ ay,ax,T3.sameF j,l2,(d z N).1.same ab,(d z N).2.2,λH5 O=>?_⟩;have ae:=j.trans O;have a2:=m.trans ae;have af:=O _ _ M;refine⟨_,rfl,AS ?_⟩;obtain⟨ms,ar,n,v⟩:=(d z N).1.same a2;refine⟨_,rfl,z.1,_,rfl,p7 (Ag.of ar),λl Q=>?_⟩;obtain⟨H6,a3,A,el⟩:=new_at (o:=.lst (ms.map V.ref)) Q;rw[<-a3];have T:=A _ _ af;have ag:l≠P:=λy=>by rw[y,af] at Q;cases Q
 refine k _ _ T (by rw[AD];exact BQ (by omega)) ⟨c++[(l,z.2)],by rw[Cb];rfl,λb o e=>?_,Aa,λw a4=>?_,?_,by rw[BF,Ju];omega⟩;rw[Ax (AM e q)];exact A _ _ (ae _ _ e);rcases CG.mp a4 with h|h;exact⟨((u w h).1.same (O.trans A)).updL T (u w h).2,(u w h).2⟩;rw[BY.mp h];exact⟨Wy.updL T ag ⟨ms,el,n,λaq t o a b=>A _ _ (v aq t o a b)⟩,ag⟩;rw[E4,a1,Cb,B];rfl;refine BC λNz r=>?_;obtain⟨c,rfl,j,M,u,B,a0⟩:=L;refine r ?_;clear r;rw[AD,<-AD (f:=(·.2)),FQ] at B;exact an P c Z ((m).free q) (m.trans j) M (λz h=>(u z h).1) B
inductive DG (K:Ah) (vs:R') (H:Hp) (Q:VK):Prop where
 |mk (net t D0:Addr) (la lt nm:Str) (S:Nat->List (Str×Nat)) (Tl:Nat->List (Str×Str×Nat)) (lb:Nat->Str) (zs:List (Addr×B9)) (h0:vs=[.ref net,.ref t,.ref D0,.str nm]) (h1:BU H net S Tl) (h2:(∀v,v<5->∀p∈Tl v,p.1=lt)) (h3:Ca K H t la lt) (h4:la≠lt) (h5:H D0=some (.lst (zs.map λz=>V.ref z.1))) (h6:(∀z∈zs,FX H z.1 z.2/\z.2.1.length<=5/\z.2.2<5)) (h7:zs.length<=200) (h8:(∀z∈zs,∀w∈Bs Tl nm z.2,w.length<=5/\Iv S Tl lb w)) (h9:∀(r D P:Addr)(ws ys:List (Addr×List BE))(H':Hp),Ad H H'->H' r=some (.tup [.ref D0,.ref D,.ref P])->H' D=some (.lst (ws.map λw=>V.ref w.1))->(∀w∈ws,Wy H' w.1 w.2/\w.2.length<=5/\Iv S Tl lb w.2)->ws.length<=400->H' P=some (.lst (ys.map λz=>V.ref z.1))->(∀z∈ys,Wy H' z.1 z.2)->(ys.map (·.2)).Perm (zs.flatMap λz=>Bs Tl nm z.2)->ys.length<=400->Q (.ref r) H'):DG K vs H Q
def Y6 (K:Ah):Sp:=λvs H Q _=>DG K vs H Q
abbrev Pc(P w K mg base):=Bo P w K mg base "look_for" 4 ["net", "table", "begun", "name"] (Y6 K)
def Y7(ai:Ba mg)(ER:Bb K mg)(Z:Rn P w K mg base)(aa:Ro P w K mg base)(F:A4 K "look_for" "look_for" LU f fd)(G:mg "look_for" = some (.ref f)):Pc P w K mg base:=by
 refine BI F G Uc (λI H Q E h=>?_) (λan aj ao ak H I Q E v h=>?_);obtain⟨net,t,j,k,lt,d,S,a,l,m,rfl,_⟩:=h;rfl;obtain⟨net,t,j,k,lt,d,S,a,l,m,rfl,N,ab,T,ae,J,e,L,M,q⟩:=h
 have O:∀xs:List (Addr×B9),(∀z∈xs,z.2.2<5)->(xs.flatMap λz=>Bs a d z.2).length<=2*xs.length:=by
  intro xs
  induction xs with|nil=>intro _;exact Aw _|cons x r R=>intro h;have g:=R λz e=>h z (Dc _ e);have U:=TM d (a x.2.2) 0;have h3:=(N.le x.2.2 (h x (CH ..))).2.2;rw[List.flatMap_cons,BF,AD,Ej];omega
 refine⟨_,(Aq (AN (i:=4) Uc.nd (A3 Z (Ab (pv 0) (Ab (pv 1) (Ab (pv 2) (Ab (pv 3) Af))))))
  (As (AW (Bf (Ab (pv 2) (Ab (pv 4) (Ab (A3 aa (Ab (pv 0) (Ab (pv 1) (Ab (pv 4) Af)))) Af))))))),?_⟩
 rfl';refine⟨_,rfl,_,rfl,_,rfl,_,rfl,net,t,j,k,lt,d,S,a,m,rfl,N,ab,T,J,e,L,λD b Y hD n y V p=>?_⟩;refine At ?_;cbv
 have u:∀w∈b,Wy Y w.1 w.2/\w.2.length<=5/\Iv S a l w.2:=λw h=>by
  have g:=p.mem_iff.mp (CU.mpr ⟨w,h,rfl⟩);obtain⟨z,af,ag⟩:=List.mem_flatMap.mp g;exact⟨V w h,M z af _ ag⟩
 have A:b.length<=400:=(by have g:=p.length_eq;have U:=O m λz ah=>(e z ah).2.2;rw[AD] at g;omega);refine⟨_,rfl,_,rfl,_,rfl,_,rfl,_,rfl,net,t,D,S,a,k,lt,l,b,rfl,N.same n,T.same n,ae,y,u,A,λP B al hP s W X C=>?_⟩;refine⟨L8,λr v=>?_⟩;have c:=AJ (o:=.tup [.ref j,.ref D,.ref P]) v
 have ly:B.length=b.length:=by
  have:=De List.length C
  rwa [AD,AD] at this
 exact q r D P b B _ ((n.trans s).trans c) Aa (c _ _ (s _ _ y)) (λw h=>⟨((u w h).1.same s).same c,(u w h).2⟩) A (c _ _ W) (λz h=>(X z h).same c) (by rw[C];exact p) (by omega)
structure E3 (H:Hp) (ts:F') (rs:List (Str×Nat)):Prop where
 len:ts.length=rs.length
 at_:∀(n:Nat)(t:Addr)(p:Str×Nat),ts[n]?=some t->rs[n]?=some p->H t=some (.tup [.str p.1,.int (p.2:Int)])
variable {ts:F'}{rs:List (Str×Nat)}
def E3.same{H':Hp}(e:Ad H H')(h:E3 H ts rs):E3 H' ts rs:=⟨h.len,λn t p a b=>e _ _ (h.at_ n t p a b)⟩
def E3.updL{o:HO}{xs:R'}(c:H D=some (.lst xs))(h:E3 H ts rs):E3 (upd H D o) ts rs:=⟨h.len,λn t p a b=>by
 have:=h.at_ n t p a b;rw[Ax λz=>by rw[z,c] at this;cases this];exact this⟩
def E3.snoc{t:Addr}{p:Str×Nat}(h:E3 H ts rs)(e:H t=some (.tup [.str p.1,.int (p.2:Int)])):E3 H (ts++[t]) (rs++[p]):=by refine⟨by rw[BF,BF,h.len];rfl,λn v q a b=>?_⟩;rcases u0 n ts.length with c|g;rw[Ew c] at a;rw[Ew (by rw[<-h.len];exact c)] at b;exact h.at_ n v q a b;have f:n<(ts++[t]).length:=(Cd.mp a).1;rw[BF,Ju] at f;have d:n=ts.length:=(by omega);subst d;rw[D6 (Aw _),Nat.sub_self] at a;rw[D6 (by rw[h.len];exact Aw _),h.len,Nat.sub_self] at b;cases a;cases b;exact e
abbrev FP (ms:Str->O') (nms:G'):List (Str×Nat):=nms.filterMap λnm=>(BV (ms nm)).map λn=>(nm,n)
def Pd (K:Ah):Sp:=λvs H Q E=>∃(net t:Addr)(ans:V)(v:Nat)(lab lbt:Str)(S:Nat->List (Str×Nat))(Tl:Nat->List (Str×Str×Nat))(k:Nat)(lb:Str->Nat->Str)(mn:List BE->Nat),vs=[.ref net,ans,.ref t,.int (v:Int),.int 0]/\v<5/\BU H net S Tl/\(∀v,v<5->∀p∈Tl v,p.1=lbt)/\Ca K H t lab lbt/\lab≠lbt/\C3 (AA lab S) ([],v) k/\(∀b∈AV (AA lab S) ([],v) k,∀nm,∀w∈Bs Tl nm b,w.length<=5/\Iv S Tl (lb nm) w/\FM Tl w (mn w)) /\
 (200<(AV (AA lab S) ([],v) k).length->∀H',Ad H H'->E (.ref (Ak K "Tangled")) none H') /\
 ((AV (AA lab S) ([],v) k).length<=200->∀(D:Addr)(nms:G')(ts:F')(H':Hp),H D=none->Ad H H'->nms.Pairwise DJ->(∀y,y∈nms↔∃v,v<5/\∃p∈Tl v,p.2.1=y)->H' D=some (.lst (ts.map V.ref))->E3 H' ts (FP (λnm=>((AV (AA lab S) ([],v) k).flatMap (Bs Tl nm)).map mn) nms)->Q (.ref D) H')
theorem Y8{T:Addr}(aQ:Ba mg)(ER:Bb K mg)(a4:Nm P w K mg base "beginnings" 6 ["net", "answers", "table", "scope", "state"] (NP K))(a5:O5 P w K mg base)(a6:O6 P w K mg base)(a7:Pb P w K mg base)(a8:Pc P w K mg base)(F:EW K "may_stand" "may_stand" JJ T f fd):Cg P w K mg base (Fi P w) 7 f fd ["net", "answers", "table", "scope", "state"] (Pd K):=by
 refine F.okE K7 (λvs H az a0 h=>?_) (λaU aR aY aS H vs az a0 hr h=>?_);obtain⟨net,t,Q,v,g,R,S,c,k,lb,d,rfl,_⟩:=h;rfl;obtain⟨net,t,Q,v,g,R,S,c,k,lb,d,rfl,hv,N,a9,T,aA,ST,hf,qe,q⟩:=h
 refine⟨_,(Aq (AN (i:=5) K7.nd (KG a4 Tg (hr.mono (by decide)) rfl (Ab (pv 0) (Ab (pv 1) (Ab (pv 2) (Ab (pv 3) (Ab (pv 4) Af)))))))
  (Aq (AN (i:=6) K7.nd (A3 a5 (Ab (pv 0) (Ab (pv 1) (Ab (pv 2) (Ab (pv 5) Af))))))
  (Aq (AN (i:=7) K7.nd (Bl Af))
  (Aq (CC PassesOwn.leaving rfl (Cf (A3 a6 (Ab (pv 0) Af))) (Az (i:=8) K7.nd) (Aq (Ey (A3 a7 (Ab (pv 0) (Ab (pv 1) (Ab (pv 2) (Ab (pv 6) (Ab (A3 a8 (Ab (pv 0) (Ab (pv 2) (Ab (pv 5) (Ab (pv 8) Af))))) (Ab Ao Af))))))) (B7 (n:=2) rfl (AH (Az (i:=9) K7.nd) (AH (Az (i:=10) K7.nd) B6))))
   (As (Bi (PW.pt (JR (Hb (Pt (pv 9))) (JQ (Cc DI (AK AL (pv 9) Ao) BS (B3 _))))) (As (DH (DN Ek E8 E9 Fe (pv 7) (Ab (Bf (Ab (pv 8) (Ab (AK AL (pv 9) Ao) Af))) Af)))) Bh))))
  (As (AW (pv 7))))))),?_⟩
 rfl';refine⟨_,rfl,_,rfl,_,rfl,_,rfl,_,rfl,net,t,Q,v,g,R,S,c,k,rfl,hv,N,T,ST,qe,λaB E l ak aV s1 Y hz G=>?_⟩;have q:=q aB;have lz:l.length<=200:=by have:=G.length_eq;rw[AD] at this;omega
 have al:∀z∈l,FX ak z.1 z.2/\z.2.1.length<=5/\z.2.2<5:=λz h=>⟨(hz z h).1,Rh (hz z h).2⟩;refine At ?_;cbv;refine⟨_,rfl,_,rfl,_,rfl,_,rfl,net,t,E,Q,g,R,S,c,l,rfl,N.same s1,T.same s1,Y,al,λO aT hO I eO=>?_⟩;refine At ?_;cbv;refine⟨by decide,λD s=>?_⟩;obtain⟨H3,aC,X,eD⟩:=new_at (o:=.lst []) s;rw[<-aC];have an:=s1.trans I;have ao:=an.trans X;have aq:H D=none:=an.free s;refine At ?_;cbv;refine⟨_,rfl,net,S,c,rfl,N.same ao,λL j H4 hL J eL hs hm=>?_⟩;have aD:=ao.trans J;have e0:=(I.trans (X.trans J)) _ _ Y;have aE:=(X.trans J) _ _ eO
 have aF:∀z∈l,Ev (λx=>x≠D) ak z.1 z.2:=λz h=>by
  obtain⟨ml,tm,a2,aa,a3⟩:=(hz z h).1;exact⟨ml,tm,(λy=>by rw[y] at aa;rw[I _ _ aa] at s;cases s),a2,aa,a3⟩
 have aG:D≠L:=λz=>by rw[<-z,eD] at hL;cases hL
 refine⟨L,rfl,⟨_,Ag.of eL⟩,EJ (xs:=j.map V.str) (λi σ u=>∃(u8 u9 ae:U')(ts:F'),σ=[some (.ref net),some Q,some (.ref t),some (.int (v:Int)),some (.int 0),some (.ref E),some (.ref O),some (.ref D),u8,u9,ae]/\Ad H u/\u L=some (.lst (j.map V.str))/\u E=some (.lst (l.map λz=>V.ref z.1))/\u O=some (.lst [])/\(∀z∈l,Ev (λx=>x≠D) u z.1 z.2)/\u D=some (.lst (ts.map V.ref))/\E3 u ts (FP (λa=>((AV (AA g S) ([],v) k).flatMap (Bs c a)).map d) (j.take i))/\ts.length<=i)
  ⟨none,none,none,[],rfl,aD,eL,e0,aE,(λz h=>(aF z h).same (I.trans (X.trans J))),J _ _ eD,⟨rfl,λn t p h=>by simp at h⟩,Aw _⟩ (λi σ u _ aH=>by obtain⟨_,_,_,_,_,_,e,_⟩:=aH;exact Ag.of e) ?_ ?_⟩
 refine λi x σ H5 hx af=>BC λNz U=>?_;obtain⟨u8,u9,ae,ts,rfl,A,ar,ag,ah,ai,W,M,aI⟩:=af;refine U ?_;clear U;obtain⟨a,au,rfl⟩:=getm hx;have aW:i<j.length:=(Cd.mp au).1;have aJ:j.take (i+1)=j.take i++[a]:=by rw[E4,au];rfl
 have aX:j.length<=10:=by
  have aK:j.Nodup:=hs.imp λh z=>by rw[z] at h;exact Vw _ h
  have:=Ord.nodup_sub_length aK (m:=(List.range 5).flatMap λv=>(c v).map (·.2.1)) λy hy=>by
   obtain⟨v,hv,p,G,e⟩:=(hm y).mp hy;exact List.mem_flatMap.mpr ⟨v,List.mem_range.mpr hv,CU.mpr ⟨p,G,e⟩⟩
  have h5:((List.range 5).flatMap λv=>(c v).map (·.2.1)).length<=10:=(by show([0,1,2,3,4].flatMap λv=>(c v).map (·.2.1)).length<=10;have h0:=(N.le 0 (by decide)).2.2;have h1:=(N.le 1 (by decide)).2.2;have h2:=(N.le 2 (by decide)).2.2;have h3:=(N.le 3 (by decide)).2.2;have h4:=(N.le 4 (by decide)).2.2;simp only[List.flatMap_cons,List.flatMap_nil,BF,AD,EG];omega);omega
 refine At ?_;cbv;refine⟨_,rfl,_,rfl,_,rfl,_,rfl,_,rfl,_,rfl,_,rfl,_,rfl,net,t,E,g,R,a,S,c,lb a,l,rfl,N.same A,a9,T.same A,aA,ag,λz h=>⟨(ai z h).c,(al z h).2⟩,lz,λz h w hw=>?_,λa1 Df P ws B H6 s6 er aL hw lw eP hy av ly=>?_⟩;have:=hf z.2 (G.mem_iff.mp (CU.mpr ⟨z,h,rfl⟩)) a w hw;exact⟨this.1,this.2.1⟩;have aw:(l.flatMap λz=>Bs c a z.2).Perm ((AV (AA g S) ([],v) k).flatMap (Bs c a)):=(by have e:(l.flatMap λz=>Bs c a z.2)=(l.map (·.2)).flatMap (Bs c a):=(by rw[List.flatMap_map]);rw[e];exact G.flatMap_right _);have ax:=A.trans s6;refine⟨net,t,O,a1,E,Df,P,Q,g,R,S,c,lb a,ws,B,d,rfl,N.same ax,T.same ax,s6 _ _ ah,er,aL,hw,lw,eP,λz h=>⟨hy z h,?_⟩,ly,λvv p w n H7 s7 ev ep ha=>?_⟩;obtain⟨b,hb,aM⟩:=List.mem_flatMap.mp ((av.trans aw).mem_iff.mp (CU.mpr ⟨z,h,rfl⟩));exact(hf b hb a _ aM).2.2
 have ay:(B.map λz=>d z.2).Perm (((AV (AA g S) ([],v) k).flatMap (Bs c a)).map d):=by
  have e:(B.map λz=>d z.2)=(B.map (·.2)).map d:=by rw[Dl];rfl
  rw[e];exact(av.trans aw).map d
 have r:=s6.trans s7;refine⟨vv,_,rfl,AB.of ev,rfl,_,_,rfl,_,_,rfl,rfl,?_⟩;refine⟨_,rfl,_,rfl,Ci (λ_=>?_) (λh=>absurd rfl h)⟩;refine⟨_,rfl,p8 (p7 ⟨p,_,_,.str w,rfl,rfl,AB.of ep,rfl,rfl,_,rfl,?_⟩)⟩
 have Z:FP (λa=>((AV (AA g S) ([],v) k).flatMap (Bs c a)).map d) (j.take (i+1))=FP (λa=>((AV (AA g S) ([],v) k).flatMap (Bs c a)).map d) (j.take i)++(match BV (((AV (AA g S) ([],v) k).flatMap (Bs c a)).map d) with
  |some n=>[(a,n)]
  |none=>[]):=by
  rw[aJ];show List.filterMap _ _=_;rw[List.filterMap_append];congr 1;show List.filterMap _ [a]=_;rw[Ga];cases BV (((AV (AA g S) ([],v) k).flatMap (Bs c a)).map d)<;>rfl
 rcases Iw ha with⟨rfl,e⟩|⟨aN,e⟩;rw[TN ay] at e;rw[e] at Z;refine AS ⟨_,rfl,p7 ⟨rfl,_,Ag.of (r _ _ W)⟩,_,rfl,_,rfl,p8 (p7 ⟨p,_,_,.int (n:Int),rfl,rfl,AB.of ep,rfl,Ct,λtt aO=>?_⟩)⟩;obtain⟨H8,aP,s8,e8⟩:=new_at (o:=.tup [.str a,.int (n:Int)]) aO;rw[<-aP];have C:=r.trans s8;have aj:=C _ _ W;have ab:∀{x:Addr}{B:R'},x≠D->H8 x=some (.lst B)->(upd H8 D (.lst (ts.map V.ref++[.ref tt]))) x=some (.lst B):=λh e=>by rw[Ax h];exact e
 have n0:E≠D:=λz=>by rw[z] at Y;rw[I _ _ Y] at s;cases s
 have nO:O≠D:=λz=>by rw[z] at eO;rw[eO] at s;cases s
 refine⟨D,_,_,rfl,rfl,aj,by rw[AD];exact BQ (by omega),?_⟩;refine⟨_,_,_,ts++[tt],rfl,λb o e=>?_,ab (Ne.symm aG) (C _ _ ar),ab n0 (C _ _ ag),ab nO (C _ _ ah),λz h=>?_,by rw[Aa,Cb];rfl,?_,by rw[BF];exact Nat.succ_le_succ aI⟩;rw[Ax (AM e aq)];exact C _ _ (A _ _ e);exact((ai z h).same C).updL aj λx hx=>hx;rw[Z];exact((M.same C).snoc (p:=(a,n)) e8).updL aj;rw[TN ay] at e;rw[e] at Z;rw[BZ (show ¬V.str w=V.str "thing" from λz=>aN (V.str.inj z))];refine AC ⟨_,_,_,ts,rfl,A.trans r,r _ _ ar,r _ _ ag,r _ _ ah,λz h=>(ai z h).same r,r _ _ W,?_,by omega⟩;rw[Z,EF];exact M.same r;refine λσ H5 af=>BC λNz U=>?_;obtain⟨u8,u9,ae,ts,rfl,A,_,_,_,_,W,M,_⟩:=af;refine U ?_;clear U;rw[AD,FQ] at M;exact⟨_,rfl,q D j ts H5 aq A hs hm W M⟩
def Y9{T:Addr}{a:Obj}{c:Nat}{L:Tok}(d:K.lookup T=some a)(e:a.data=.seq #[.int 0 L] c)(B:Ba mg)(g:Bb K mg)(j:Nm P w K mg base "beginnings" 6 ["net", "answers", "table", "scope", "state"] (NP K))(k:O5 P w K mg base)(l:O6 P w K mg base)(m:Pb P w K mg base)(n:Pc P w K mg base)(F:EW K "may_stand" "may_stand" JJ T f fd)(h:mg "may_stand" = some (.ref f))(i:PySem.W.keepIn K (.ref f)=true):OH P w K mg base "may_stand" 7 ["net", "answers", "table", "scope", "state"] [V.int 0] (Pd K):=
 ⟨f,fd,[.int 0 L],Y8 B g j k l m n F,h,i,.cons ⟨_,rfl⟩ .nil,F.binds d e λ_ _ _ _ _ _ us b=>(by rw[BF] at b;obtain⟨o,p,q,r,rfl⟩:=G3 (Nat.succ.inj b);exact⟨_,rfl,rfl⟩)⟩
def CY (K:Ah) (C c:Addr) (b:Bool):Prop:=B4 K C (.ref c) b/\((Value.ref C==Value.ref c)=true->b=true)
def CY.no{C c:Addr}(a:B4 K C (.ref c) false)(h:(Value.ref C==Value.ref c)=false):CY K C c false:=⟨a,λz=>by rw[h] at z;cases z⟩
def CY.yes{C c:Addr}(a:B4 K C (.ref c) true):CY K C c true:=⟨a,λ_=>rfl⟩
structure Rp (K:Ah) (C:Addr):Prop where
 d:CJ K C
 v:B4 K C (.type "ValueError") true
 a0:CY K C (Ak K "TooGreat") false
 a1:CY K C (Ak K "NoName") false
 a2:CY K C (Ak K "NoPlace") false
 a3:CY K C (Ak K "Twice") false
 a4:CY K C (Ak K "Tangled") true
 a5:CY K C (Ak K "NoText") false
 a6:CY K C (Ak K "NoRow") false
 a7:CY K C (Ak K "Ring") false
 a8:CY K C (Ak K "Caught") false
abbrev CT:List Bool:=[false,false,false,false,true,false,false,false,false,true]
def Za:∀i,i<10->((List.range (i+1)).filter λk=>CT.getD k false)=((List.range i).filter λk=>CT.getD k false)++(if CT.getD i false=true then[i] else[]):=by decide
def Lg:∀i,i<10->(CT.map V.bl)[i]?=some (.bl (CT.getD i false)):=by intro i a;have:∀i,i<10->CT[i]?=some (CT.getD i false):=(by decide);rw[BP,this i a];rfl
def Pe (K:Ah):J'->Sp:=λhv vs H Q _=>∃(ea:Addr),hv=some (.ref ea)/\vs=[.ref ea]/\H ea=some (Ef ea (Ak K "Tangled") none)/\∀(D:Addr)(H':Hp),H D=none->Ad H H'->H' D=some (.lst [.int 4,.int 9])->Q (.ref D) H'
theorem Zb(B:Ba mg)(a:Bb K mg)(F:A4 K "_law_classes" "_law_classes" IS f fd):GY P w K mg base f fd ["_law_e"] (Pe K):=by
 refine F.okH OV (λr X H Q E h=>?_) (λav ao aw aq H X Q E h=>?_);obtain⟨d,_,rfl,_⟩:=h;rfl;obtain⟨d,Z,rfl,c,q⟩:=h
 refine⟨_,(Aq (AN (i:=1) OV.nd (Bl (Ab (Bq Hk B.b_isinstance (Ab (pv 0) (Ab (EI (v:=.ref (Ak K "TooGreat")) rfl a.e_TooGreat rfl) Af))) (Ab (Bq Hk B.b_isinstance (Ab (pv 0) (Ab (EI (v:=.ref (Ak K "NoName")) rfl a.e_NoName rfl) Af))) (Ab (Bq Hk B.b_isinstance (Ab (pv 0) (Ab (EI (v:=.ref (Ak K "NoPlace")) rfl a.e_NoPlace rfl) Af))) (Ab (Bq Hk B.b_isinstance (Ab (pv 0) (Ab (EI (v:=.ref (Ak K "Twice")) rfl a.e_Twice rfl) Af))) Af))))))
  (Aq (AN (i:=1) OV.nd (BH Jc (pv 1) (Bl (Ab (Bq Hk B.b_isinstance (Ab (pv 0) (Ab (EI (v:=.ref (Ak K "Tangled")) rfl a.e_Tangled rfl) Af))) (Ab (Bq Hk B.b_isinstance (Ab (pv 0) (Ab (EI (v:=.ref (Ak K "NoText")) rfl a.e_NoText rfl) Af))) (Ab (Bq Hk B.b_isinstance (Ab (pv 0) (Ab (EI (v:=.ref (Ak K "NoRow")) rfl a.e_NoRow rfl) Af))) (Ab (Bq Hk B.b_isinstance (Ab (pv 0) (Ab (EI (v:=.ref (Ak K "Ring")) rfl a.e_Ring rfl) Af))) Af)))))))
  (Aq (AN (i:=1) OV.nd (BH Jc (pv 1) (Bl (Ab (Bq Hk B.b_isinstance (Ab (pv 0) (Ab (EI (v:=.ref (Ak K "Caught")) rfl a.e_Caught rfl) Af))) (Ab (Bq Hk B.b_isinstance (Ab (pv 0) (Ab (FD "ValueError" rfl B.b_ValueError (by decide +kernel)) Af))) Af)))))
  (As (AW (Xb (tc:=tB (EK (HJ K) (Cq 1) (Cq 0))) Z BX rfl B.b_range (Ab Ao Af) (λ_ _ _ _ _=>(Az (i:=0) BX.nd)) (λ_ _ _ _ _=>(GB (Eo (AK AL (pv 1) (pv 0))))) (λ_ _ _ _ _=>(pv 0)))))))),?_⟩
 rfl';have F:Rp K (Ak K "Tangled"):=⟨a.d_Tangled,a.v_Tangled,.no a.a_Tangled_TooGreat a.n_Tangled_TooGreat,.no a.a_Tangled_NoName a.n_Tangled_NoName,.no a.a_Tangled_NoPlace a.n_Tangled_NoPlace,.no a.a_Tangled_Twice a.n_Tangled_Twice,.yes a.a_Tangled_Tangled,.no a.a_Tangled_NoText a.n_Tangled_NoText,.no a.a_Tangled_NoRow a.n_Tangled_NoRow,.no a.a_Tangled_Ring a.n_Tangled_Ring,.no a.a_Tangled_Caught a.n_Tangled_Caught⟩;obtain⟨C,eC⟩:∃C,C=Ak K "Tangled" :=⟨_,rfl⟩;rw[<-eC] at F c;have I:=F.a4;have hd:∀(Y:Hp)(y:Addr),none=some y->∃o,Y y=some o:=λ_ y e=>by cases e
 refine⟨_,rfl,d,C,none,_,_,false,rfl,(λ_ h=>h),c,hd _,F.d,F.a0.1,F.a0.2,_,rfl,d,C,none,_,_,false,rfl,(λ_ h=>h),c,hd _,F.d,F.a1.1,F.a1.2,_,rfl,d,C,none,_,_,false,rfl,(λ_ h=>h),c,hd _,F.d,F.a2.1,F.a2.2,_,rfl,d,C,none,_,_,false,rfl,(λ_ h=>h),c,hd _,F.d,F.a3.1,F.a3.2,show 4<=sizeLine by decide,λl1 aa=>?_⟩;obtain⟨ar,ab,T,ae⟩:=new_at (o:=.lst [.bl false,.bl false,.bl false,.bl false]) aa;rw[<-ab];have c:=T _ _ c;refine At ?_;cbv;refine⟨_,rfl,_,rfl,d,C,none,_,_,true,rfl,(λ_ h=>h),c,hd _,F.d,I.1,I.2,_,rfl,d,C,none,_,_,false,rfl,(λ_ h=>h),c,hd _,F.d,F.a5.1,F.a5.2,_,rfl,d,C,none,_,_,false,rfl,(λ_ h=>h),c,hd _,F.d,F.a6.1,F.a6.2,_,rfl,d,C,none,_,_,false,rfl,(λ_ h=>h),c,hd _,F.d,F.a7.1,F.a7.2,show 4<=sizeLine by decide,λl2 af=>?_⟩;obtain⟨J,ag,z,ah⟩:=new_at (o:=.lst [.bl true,.bl false,.bl false,.bl false]) af;rw[<-ag];have c:=z _ _ c;refine⟨l1,l2,_,_,rfl,rfl,z _ _ ae,ah,show 8<=sizeLine by decide,λs ai=>?_⟩;have A:=AJ (o:=.lst ([.bl false,.bl false,.bl false,.bl false]++[.bl true,.bl false,.bl false,.bl false])) ai;have U:(upd J s (.lst ([.bl false,.bl false,.bl false,.bl false]++[.bl true,.bl false,.bl false,.bl false]))) s=some (.lst [.bl false,.bl false,.bl false,.bl false,.bl true,.bl false,.bl false,.bl false]):=Aa;generalize upd J s (.lst ([.bl false,.bl false,.bl false,.bl false]++[.bl true,.bl false,.bl false,.bl false]))=H4 at A U ⊢;have c:=A _ _ c;refine At ?_;cbv;refine⟨_,rfl,_,rfl,d,C,none,_,_,false,rfl,(λ_ h=>h),c,hd _,F.d,F.a8.1,F.a8.2,_,rfl,d,C,none,_,_,true,rfl,(λ_ h=>h),c,hd _,F.d,F.v,(λ_=>rfl),show 2<=sizeLine by decide,λl4 aj=>?_⟩;obtain⟨L,ak,D,al⟩:=new_at (o:=.lst [.bl false,.bl true]) aj;rw[<-ak];refine⟨s,l4,_,_,rfl,rfl,D _ _ U,al,show 10<=sizeLine by decide,λt an=>?_⟩;have G:=AJ (o:=.lst (CT.map V.bl)) an;have W:(upd L t (.lst (CT.map V.bl))) t=some (.lst (CT.map V.bl)):=Aa;rw[show([V.bl false,.bl false,.bl false,.bl false,.bl true,.bl false,.bl false,.bl false]++[.bl false,.bl true])=CT.map V.bl from rfl];generalize upd L t (.lst (CT.map V.bl))=H6 at G W ⊢;have M:=(((T.trans z).trans A).trans D).trans G;refine At ?_;cbv;refine⟨_,rfl,by decide,by decide,Xc (lo:=0) (n:=10) (λj i l N=>Ad H6 N/\N j=some (.lst l)/\l=((List.range i).filter λk=>CT.getD k false).map (λk:Nat=>V.int (0+(k:Int)))/\l.length<=i) (λj m=>⟨AJ m,Aa,rfl,Aw _⟩) (λj i l O au R0 m R r k k0=>?_) (λj l O m r=>?_)⟩;obtain⟨g,p,u,ly⟩:=r;have x:=Za i R;refine⟨_,rfl,_,rfl,p7 ⟨t,_,_,_,rfl,rfl,Ag.of (g _ _ W),by rw[Int.zero_add];exact EO (Lg i R),_,rfl,?_⟩⟩
 cases S:CT.getD i false with
 |false=>rw[S] at x;exact AC (k0 _ ⟨g,p,by rw[x,u];simp,by omega⟩)
 |true=>rw[S] at x;refine AS ⟨_,rfl,k _ _ p (BQ (by omega)) ⟨λb o e=>?_,Aa,by rw[x,u];simp,by rw[BF];exact Nat.succ_le_succ ly⟩⟩;rw[Ax (AM e m)];exact g _ _ e
 obtain⟨g,p,u,_⟩:=r;rw[u] at p;exact⟨⟨C,none,g _ _ (G _ _ (D _ _ c))⟩,q j O (M.free m) (M.trans g) p⟩
def Zc(B:Ba mg)(a:Bb K mg)(F:A4 K "_law_classes" "_law_classes" IS f fd)(b:mg "_law_classes" = some (.ref f)):OI P w K mg base "_law_classes" ["_law_e"] (Pe K):=
 ⟨f,fd,Zb B a F,b,F.kp,F.binds λ_ _ _ _ _ _ us c=>(by obtain⟨d,rfl⟩:=OW c;rfl)⟩
inductive C9 (K:Ah) (vs:R') (H:Hp) (Q:VK):Prop where
 |mk (net t:Addr) (ans:V) (v:Nat) (lab lbt:Str) (S:Nat->List (Str×Nat)) (Tl:Nat->List (Str×Str×Nat)) (k:Nat) (lb:Str->Nat->Str) (mn:List BE->Nat) (h0:vs=[.ref net,ans,.ref t,.int (v:Int)]) (h1:v<5) (h2:BU H net S Tl) (h3:(∀v,v<5->∀p∈Tl v,p.1=lbt)) (h4:Ca K H t lab lbt) (h5:lab≠lbt) (h6:C3 (AA lab S) ([],v) k) (h7:(∀b∈AV (AA lab S) ([],v) k,∀nm,∀w∈Bs Tl nm b,w.length<=5/\Iv S Tl (lb nm) w/\FM Tl w (mn w))) (h8:(200<(AV (AA lab S) ([],v) k).length->∀(r l:Addr)(H':Hp),Ad H H'->H' r=some (.tup [.non,.ref l])->H' l=some (.lst [.int 4,.int 9])->Q (.ref r) H')) (h9:((AV (AA lab S) ([],v) k).length<=200->∀(r l D:Addr)(nms:G')(ts:F')(H':Hp),Ad H H'->H' r=some (.tup [.ref D,.ref l])->H' l=some (.lst [])->nms.Pairwise DJ->(∀y,y∈nms↔∃v,v<5/\∃p∈Tl v,p.2.1=y)->H' D=some (.lst (ts.map V.ref))->E3 H' ts (FP (λnm=>((AV (AA lab S) ([],v) k).flatMap (Bs Tl nm)).map mn) nms)->Q (.ref r) H')):C9 K vs H Q
def Zd (K:Ah):Sp:=λvs H Q _=>C9 K vs H Q
abbrev Pf(P w K mg base):=Bo P w K mg base "_law_told" 8 ["_law_net", "_law_answers", "_law_table", "_law_scope"] (Zd K)
def Ze(aj:Ba mg)(c:Bb K mg)(Y:OH P w K mg base "may_stand" 7 ["net", "answers", "table", "scope", "state"] [V.int 0] (Pd K))(Z:OI P w K mg base "_law_classes" ["_law_e"] (Pe K))(F:A4 K "_law_told" "_law_told" LV f fd)(g:mg "_law_told" = some (.ref f)):Pf P w K mg base:=by
 refine BI F g NJ (λB H Q E h=>?_) (λao ak aq al H B Q E a h=>?_);obtain⟨net,t,y,v,z,A,S,n,k,p,s,rfl,_⟩:=h;rfl;obtain⟨net,t,y,v,z,A,S,n,k,p,s,rfl,C,N,aa,T,ab,ST,G,I,q⟩:=h
 refine⟨_,(Aq (AN (i:=4) NJ.nd (Bl Af))
  (Aq (AN (i:=5) NJ.nd Hy)
  (Aq (WZ (i:=6) (j:=5) Y (a.mono (by decide)) rfl (Ab (pv 0) (Ab (pv 1) (Ab (pv 2) (Ab (pv 3) Af)))) rfl rfl (V6 c.k_PathError.ok) rfl c.e_PathError NJ.nd rfl rfl rfl rfl (λ_=>(As (AN (i:=4) NJ.nd (KU Z (Ab (pv 6) Af) a)))))
  (As (AW (Bf (Ab (pv 5) (Ab (pv 4) Af)))))))),?_⟩
 rfl';refine⟨by decide,λl J=>?_⟩;obtain⟨an,ae,d,L⟩:=new_at (o:=.lst []) J;rw[<-ae];refine At ?_;cbv;refine At ?_;cbv;refine⟨_,rfl,_,rfl,_,rfl,_,rfl,net,t,y,v,z,A,S,n,k,p,s,rfl,C,N.same d,aa,T.same d,ab,ST,G,λM U e=>?_,λaf D ag ts U O e R g m R2=>?_⟩;refine⟨Ak K "Tangled",rfl,V5 c.k_Tangled.ok,c.s_Tangled_PathError,λu ah=>?_⟩;obtain⟨H3,ai,b,W⟩:=new_at (o:=Ef u (Ak K "Tangled") none) ah;rw[<-ai];refine⟨_,rfl,u,rfl,rfl,W,λD H4 O X m=>?_⟩;refine⟨_,rfl,_,rfl,Ct,λr a=>?_⟩;have x:=AJ (o:=.tup [.non,.ref D]) a;exact I M r D _ ((((d.trans e).trans b).trans X).trans x) Aa (x _ _ m);refine⟨_,rfl,_,rfl,Ct,λr a=>?_⟩;have b:=AJ (o:=.tup [.ref D,.ref l]) a;exact q af r l D ag ts _ ((d.trans e).trans b) Aa (b _ _ (e _ _ L)) R g (b _ _ m) (R2.same b)
def Pg (K:Ah) (n:Nat):Sp:=λvs H Q _=>∃(x y:V)(b:Bool),vs=[x,y]/\Es K H n x y b/\∀H',Ad H H'->Q (.bl b) H'
abbrev Zf (K:Ah):Sp:=Pg K 4
theorem Zg(B:Ba mg)(S:Bb K mg)(n:Nat)(O:Bo P w K mg base "_law_alike" (0+n) ["_law_told_here", "_law_due"] (Pg K n))(F:A4 K "_law_alike" "_law_alike" Hu f fd):Cg P w K mg base EQ (0+n+1) f fd ["_law_told_here", "_law_due"] (Pg K (n+1)):=by
 refine F.ok Xv (λL H Q E h=>?_) (λW A X s H L Q E M h=>?_);obtain⟨x,y,b,rfl,_⟩:=h;rfl;obtain⟨x,y,b,rfl,l,q⟩:=h
 refine⟨_,(Aq (Bi (Hb (Ha (pv 1))) (As (AW (Pu (Ha (pv 0))))) Bh)
  (Aq (Bi (Eo (Bq FS B.b_isinstance (Ab (pv 1) (Ab (FD "str" rfl B.b_str (by decide +kernel)) Af)))) (As (AW (IV (Bq FS B.b_isinstance (Ab (pv 0) (Ab (FD "str" rfl B.b_str (by decide +kernel)) Af))) (JS (Ja DI (pv 0) (pv 1) (B3 _)))))) Bh)
  (Aq (Bi (Eo (Bq FS B.b_isinstance (Ab (pv 1) (Ab (FD "int" rfl B.b_int (by decide +kernel)) Af)))) (As (AW (IV (Bq FS B.b_isinstance (Ab (pv 0) (Ab (FD "int" rfl B.b_int (by decide +kernel)) Af))) (IV (Gf (Bq FS B.b_isinstance (Ab (pv 0) (Ab (FD "bool" rfl B.b_bool (by decide +kernel)) Af)))) (JS (Ja DI (pv 0) (pv 1) (B3 _))))))) Bh)
  (Aq (Bi (PW.pt (JR (Eo (Bq FS B.b_isinstance (Ab (pv 1) (Ab (FD "list" rfl B.b_list (by decide +kernel)) Af)))) (JQ (HA (Eo (Bq FS B.b_isinstance (Ab (pv 0) (Ab (FD "list" rfl B.b_list (by decide +kernel)) Af)))))))) (As (AW Mv)) Bh)
  (Aq (Bi (PW.pt (JR (Eo (Bq FS B.b_isinstance (Ab (pv 1) (Ab (FD "tuple" rfl B.b_tuple (by decide +kernel)) Af)))) (JQ (HA (Eo (Bq FS B.b_isinstance (Ab (pv 0) (Ab (FD "tuple" rfl B.b_tuple (by decide +kernel)) Af)))))))) (As (AW Mv)) Bh)
  (As (AW (IV (Ja DI (Bq Fz B.b_len (Ab (pv 0) Af)) (Bq Fz B.b_len (Ab (pv 1) Af)) (B3 _)) (JS (Bq (P9 rfl) B.b_all (Ab (ES (g:=Fx K 2 (Fw (Eb 0) (Fw (Eb 1) Fv))) rfl Bx (Ix rfl B.b_zip (Ab (pv 0) (Ab (pv 1) Af))) (λ_ _ _ _ _=>(B7 (n:=2) rfl (AH (Az (i:=0) Bx.nd) (AH (Az (i:=1) Bx.nd) B6)))) (λ_ _ _ _ _=>EA) (λ_ _ _ _ _=>(A3 O (Ab (pv 0) (Ab (pv 1) Af)) (M.mono (by omega))))) Af))))))))))),?_⟩
 try dsimp only[Au,Cx.nox,Cx.wish]
 cases l with
 |str _ x y=>refine⟨_,rfl,_,rfl,AC ?_⟩;refine Du ?_;cbv;refine⟨_,rfl,_,.str,.str,rfl,.str y,_,rfl,AS ?_⟩;refine⟨_,rfl,_,.str,.str,rfl,.str x,_,rfl,AS ?_⟩;refine⟨_,rfl,_,rfl,rfl,?_⟩;have:=q H (Ad.refl _);rw[show decide (V.str x=V.str y)=decide (x=y) by rw[Bool.eq_iff_iff,decide_eq_true_eq,decide_eq_true_eq];exact⟨λh=>V.str.inj h,λh=>by rw[h]⟩];exact this
 |int _ i j=>refine⟨_,rfl,_,rfl,AC ?_⟩;refine Du ?_;cbv;refine⟨_,rfl,_,.str,.int,rfl,.int j,_,rfl,AC ?_⟩;refine Du ?_;cbv;refine⟨_,rfl,_,.int,.int,rfl,.int j,_,rfl,AS ?_⟩;refine⟨_,rfl,_,.int,.int,rfl,.int i,_,rfl,AS ?_⟩;refine⟨_,rfl,_,.bool,.int,rfl,.int i,_,rfl,_,rfl,AS ?_⟩;refine⟨_,rfl,_,rfl,rfl,?_⟩;have:=q H (Ad.refl _);rw[show decide (V.int i=V.int j)=decide (i=j) by rw[Bool.eq_iff_iff,decide_eq_true_eq,decide_eq_true_eq];exact⟨λh=>V.int.inj h,λh=>by rw[h]⟩];exact this
 |@tup _ p r xs m f c a d t l=>refine⟨_,rfl,_,rfl,AC ?_⟩;refine Du ?_;cbv;refine⟨_,rfl,_,.str,.tup,rfl,.tup a,_,rfl,AC ?_⟩;refine Du ?_;cbv;refine⟨_,rfl,_,.int,.tup,rfl,.tup a,_,rfl,AC ?_⟩;refine Du ?_;cbv;refine⟨_,rfl,_,.lst,.tup,rfl,.tup a,_,rfl,AC (AC ?_)⟩;refine Du ?_;cbv;refine⟨_,rfl,_,.tup,.tup,rfl,.tup a,_,rfl,AS ?_⟩;refine⟨_,rfl,_,.tup,.tup,rfl,.tup c,_,rfl,AC ?_⟩;refine Du ?_;cbv;refine⟨_,rfl,_,_,rfl,p8 ⟨_,c,rfl⟩,_,rfl,_,_,rfl,p8 ⟨_,a,rfl⟩,rfl,_,rfl,?_⟩;rw[B2 (show V.int ((xs.length:Nat):Int)=V.int ((m.length:Nat):Int) by rw[d])];refine AS ⟨_,rfl,_,rfl,p,r,rfl,p8 ⟨⟨_,c⟩,⟨_,a⟩,W1 (f:=λi=>V.bl (f i)) (Dm t (by decide)) d c a (λi x y T U R u v C e k=>?_) (λU D e N G=>?_)⟩⟩;have I:=AJ (o:=.tup [x,y]) C;refine⟨T,_,rfl,AB.of Aa,rfl,_,_,rfl,_,_,rfl,rfl,?_⟩;exact⟨_,rfl,_,rfl,x,y,f i,rfl,(l i x y u v).same (e.trans I),λJ s=>k J s⟩;refine⟨D,(List.range xs.length).map f,rfl,Ag.of (by rw[Dl];exact G),?_⟩;exact q U e
 |@lst _ p r xs m f c a d t l=>refine⟨_,rfl,_,rfl,AC ?_⟩;refine Du ?_;cbv;refine⟨_,rfl,_,.str,.lst,rfl,.lst a,_,rfl,AC ?_⟩;refine Du ?_;cbv;refine⟨_,rfl,_,.int,.lst,rfl,.lst a,_,rfl,AC ?_⟩;refine Du ?_;cbv;refine⟨_,rfl,_,.lst,.lst,rfl,.lst a,_,rfl,AS ?_⟩;refine⟨_,rfl,_,.lst,.lst,rfl,.lst c,_,rfl,AC ?_⟩;refine Du ?_;cbv;refine⟨_,rfl,_,.tup,.lst,rfl,.lst a,_,rfl,AC (AC ?_)⟩;refine Du ?_;cbv;refine⟨_,rfl,_,_,rfl,p7 ⟨_,c,rfl⟩,_,rfl,_,_,rfl,p7 ⟨_,a,rfl⟩,rfl,_,rfl,?_⟩;rw[B2 (show V.int ((xs.length:Nat):Int)=V.int ((m.length:Nat):Int) by rw[d])];refine AS ⟨_,rfl,_,rfl,p,r,rfl,p7 ⟨⟨_,c⟩,⟨_,a⟩,W0 (f:=λi=>V.bl (f i)) (Dm t (by decide)) d c a (λi x y T U R u v C e k=>?_) (λU D e N G=>?_)⟩⟩;have I:=AJ (o:=.tup [x,y]) C;refine⟨T,_,rfl,AB.of Aa,rfl,_,_,rfl,_,_,rfl,rfl,?_⟩;exact⟨_,rfl,_,rfl,x,y,f i,rfl,(l i x y u v).same (e.trans I),λJ s=>k J s⟩;refine⟨D,(List.range xs.length).map f,rfl,Ag.of (by rw[Dl];exact G),?_⟩;exact q U e
 |@lstN _ p r xs m c a d=>
  refine⟨_,rfl,_,rfl,AC ?_⟩;refine Du ?_;cbv;refine⟨_,rfl,_,.str,.lst,rfl,.lst a,_,rfl,AC ?_⟩;refine Du ?_;cbv;refine⟨_,rfl,_,.int,.lst,rfl,.lst a,_,rfl,AC ?_⟩;refine Du ?_;cbv;refine⟨_,rfl,_,.lst,.lst,rfl,.lst a,_,rfl,AS ?_⟩;refine⟨_,rfl,_,.lst,.lst,rfl,.lst c,_,rfl,AC ?_⟩;refine Du ?_;cbv;refine⟨_,rfl,_,.tup,.lst,rfl,.lst a,_,rfl,AC (AC ?_)⟩;refine Du ?_;cbv;refine⟨_,rfl,_,_,rfl,p7 ⟨_,c,rfl⟩,_,rfl,_,_,rfl,p7 ⟨_,a,rfl⟩,rfl,_,rfl,?_⟩;rw[BZ (show ¬V.int ((xs.length:Nat):Int)=V.int ((m.length:Nat):Int) from λz=>d (by have:=V.int.inj z;omega))];exact AC (q H (Ad.refl _))
def Zh(B:Ba mg)(c:Bb K mg)(F:A4 K "_law_alike" "_law_alike" Hu f fd)(a:mg "_law_alike" = some (.ref f))(n:Nat):Bo P w K mg base "_law_alike" (0+n) ["_law_told_here", "_law_due"] (Pg K n):=by
 have b:Binds K fd ["_law_told_here", "_law_due"] []:=F.binds λ_ _ _ _ _ _ us d=>(by obtain⟨i,j,rfl⟩:=G2 d;rfl)
 induction n with|zero=>exact⟨f,fd,⟨λe H Q E h=>(by obtain⟨_,_,_,_,h,_⟩:=h;cases h),λA l s H k us e Q E _ _ _ _ h=>(by obtain⟨_,_,_,_,h,_⟩:=h;cases h)⟩,a,F.kp,b⟩|succ n g=>exact⟨f,fd,Zg B c n g F,a,F.kp,b⟩
abbrev Ph(P w K mg base):=Bo P w K mg base "_law_alike" 4 ["_law_told_here", "_law_due"] (Zf K)
def Zi(B:Ba mg)(a:Bb K mg)(F:A4 K "_law_alike" "_law_alike" Hu f fd)(b:mg "_law_alike" = some (.ref f)):Ph P w K mg base:=
 Zh B a F b 4
def G6 (r:O'):Nat×Nat:=r.foldl (λx n=>(x.1+x.2*n,x.2*n)) (1,1)
def Uh{r:O'}{i n:Nat}(h:r[i]?=some n):G6 (r.take (i+1))=((G6 (r.take i)).1+(G6 (r.take i)).2*n,(G6 (r.take i)).2*n):=by unfold G6;rw[E4,h,Po];rfl
inductive Db (K:Ah) (vs:R') (H:Hp) (Q:VK):Prop where
 |mk (R:Addr) (r:O') (h0:vs=[.ref R]) (h1:H R=some (.lst (r.map λn:Nat=>V.int (n:Int)))) (h2:r.length<=4) (h3:(∀x∈r,x<=8)) (h4:Q (.int ((G6 r).1:Int)) H):Db K vs H Q
def Zj (K:Ah):Sp:=λvs H Q _=>Db K vs H Q
abbrev Pj(P w K mg base):=Bo P w K mg base "_law_many" 1 ["_law_row_here"] (Zj K)
def Zk(B:Ba mg)(v:Bb K mg)(F:A4 K "_law_many" "_law_many" LW f fd)(l:mg "_law_many" = some (.ref f)):Pj P w K mg base:=by
 refine BI F l Mo (λm H Q E h=>?_) (λI A J s H m Q E y h=>?_);obtain⟨R,r,rfl,_⟩:=h;rfl;obtain⟨R,r,rfl,g,z,j,q⟩:=h
 have t:∀i,i<=4->(G6 (r.take i)).2<=8 ^ i:=by
  intro i
  induction i with
  |zero=>intro _;rw[IP];exact Aw _
  |succ i a=>intro o;have a:=a (by omega);rcases b:r[i]? with _|n;rw[show r.take (i+1)=r.take i by rw[E4,b];exact EF _];exact Dm a (Nat.pow_le_pow_right (by decide) (Nat.le_succ i));rw[Uh b];exact Nat.mul_le_mul a (j n (Ei b))
 refine⟨_,(Aq (AN (i:=1) Mo.nd Ao)
  (Aq (AN (i:=2) Mo.nd Ao)
  (Aq (CC CB rfl (Cf (pv 0)) (Az (i:=3) Mo.nd) (Aq (AN (i:=2) Mo.nd (BH LZ (pv 2) (pv 3)))
   (As (AN (i:=1) Mo.nd (BH Hd (pv 1) (pv 2))))))
  (As (AW (pv 1)))))),?_⟩
 rfl';refine MY ?_;cbv;refine MY ?_;cbv;refine⟨_,rfl,R,rfl,⟨_,Ag.of g⟩,EJ (xs:=r.map λn:Nat=>V.int (n:Int)) (λi σ k=>∃c,σ=[some (.ref R),some (.int ((G6 (r.take i)).1:Int)),some (.int ((G6 (r.take i)).2:Int)),c]/\k=H) ⟨none,by rw[IP];rfl,rfl⟩ (λi σ k _ u=>by obtain⟨_,_,e⟩:=u;exact by rw[e];exact Ag.of g) ?_ ?_⟩;rintro i x σ U p ⟨c,rfl,rfl⟩;obtain⟨n,d,rfl⟩:=getm p;have o:i<r.length:=(Cd.mp d).1;have C:=t i (by omega);have D:(8:Nat) ^ i<=8 ^ 4:=Nat.pow_le_pow_right (by decide) (by omega);have G:=j n (Ei d);have e:=Uh d;refine At ?_;cbv;refine⟨_,rfl,_,rfl,_,_,rfl,rfl,p8 ⟨by omega,by omega⟩,?_⟩;refine At ?_;cbv;refine⟨_,rfl,_,rfl,_,_,rfl,rfl,?_⟩;refine⟨some (.int (n:Int)),?_,rfl⟩;rw[e];simp only[Int.natCast_add,Int.natCast_mul];rfl;rintro σ U ⟨c,rfl,rfl⟩;rw[AD,FQ];exact⟨_,rfl,q⟩
def Ui{x:Str}(h:EX x):E1 x=true:=by obtain⟨d,e,a⟩:=h;unfold E1;rw[B2 d,B2 e,Bool.true_and,Bool.true_and,List.all_eq_true];intro c b;unfold Lb;rw[B2 (a c b).1,B2 (a c b).2];rfl
def Rq{l:F'}(h:l.length=4):∃a b c d,l=[a,b,c,d]:=by
 match l,h with
 |[a,b,c,d],_=>exact⟨a,b,c,d,rfl⟩
def Uj{T:Nat->List (Str×Str×Nat)}{L:List B9}{a:G'}:FP (λnm=>(L.flatMap (Bs T nm)).map (Jo T)) a=G1 T (L.map (·.2)) a:=by show List.filterMap _ a=List.filterMap _ a;congr 1;funext nm;dsimp only;rw[ND]
def Uk{X:Addr}(j:H D=some (.lst (ts.map V.ref)))(R:E3 H ts rs)(v:rs.length<=2)(h:EZ K H X (Eg rs)):Es K H 4 (.ref D) (.ref X) true:=by
 obtain⟨k,m,o,a⟩:=h;have p:k.length=rs.length:=by have:=De List.length a;simpa using this
 have A:=Es.lst (K:=K) (n:=3) (f:=λ_=>true) (Ag.of j) (Ag.of m) (by simp[R.len,p]) (by rw[AD,R.len];omega) λi x y b c=>?_;have e:(((List.range (ts.map V.ref).length).map λ_=>true).all id)=true:=(by simp);rw[e] at A;exact A;rw[BP] at b c;obtain⟨t,q,rfl⟩:=Dd.mp b;obtain⟨z,Z,rfl⟩:=Dd.mp c;obtain⟨u,e,d⟩:=o z (Ei Z);have r:i<rs.length:=by have:=(Cd.mp Z).1;omega
 have g:rs[i]?=some rs[i]:=AQ r;have s:z.2=(rs[i].1,(rs[i].2:Int)):=(by have:=De (λl=>l[i]?) a;rw[BP,BP,Z,g] at this;exact C0 this);rw[s] at d;rw[e];exact Xi (AB.of (R.at_ i t _ q g)) d
def IM:(!dec (Dt.lst []=Dt.lst []))=false:=by rw[Em rfl];rfl
def Ul(a b c d:Nat):(G6 [a,b,c,d]).1=1+a+a*b+a*b*c+a*b*c*d:=by simp[G6]
def Pk{σ:L2.St}{Q:Bool->Hp->Prop}(h:Q true H):DO σ H Q:=h
inductive Jt (K:Ah) (vs:R') (H:Hp) (Q:VK):Prop where
 |mk (a:Addr) (ns:D') (h0:vs=[.ref a]) (h1:Ag K H a (ns.map V.int)) (h2:ns.length<=63) (h3:∀H',Q (.bl true) H'):Jt K vs H Q
def NQ (K:Ah):Sp:=λvs H Q _=>Jt K vs H Q
theorem G7(a1:Ba mg)(ER:Bb K mg)(bm:OZ P w K mg base)(aF:NM P w K mg base)(bV:O1 P w K mg base)(bW:O2 P w K mg base)(bn:Pf P w K mg base)(bo:Ph P w K mg base)(bX:Pj P w K mg base)(F:A4 K "law" "law" Fs f fd):Cg P w K mg base EQ 9 f fd ["_law_script"] (NQ K):=by
 refine F.ok Eu (λvs H bT bU h=>?_) (λdF dB dV dC H vs bT bU hr h=>?_);obtain⟨a,Z,rfl,_⟩:=h;rfl;obtain⟨a,Z,rfl,hS,_,kq⟩:=h
 refine⟨_,(Aq (AN (i:=1) Eu.nd (A3 bm (Ab (A3 aF (Ab (pv 0) (Ab Ao Af))) (Ab Ao Af))))
  (Aq (AN (i:=2) Eu.nd (A3 bm (Ab (A3 aF (Ab (pv 0) (Ab Ao Af))) (Ab Ao Af))))
  (Aq (AN (i:=3) Eu.nd (A3 bV (Ab (Bl (Ab (Bf (Ab (Bl (Ab (Bf (Ab (AK AL (pv 2) Ao) (Ab Ao Af))) Af)) (Ab (Bl (Ab (AK AL (pv 2) Ao) Af)) Af))) Af)) (Ab Ao (Ab (Bl (Ab (Bf (Ab (AK AL (pv 2) Ao) (Ab (AK AL (pv 2) Ao) Af))) Af)) Af)))))
  (Aq (AN (i:=4) Eu.nd (A3 bW (Ab (pv 0) Af)))
  (Aq (AN (i:=5) Eu.nd (BH FR (A3 aF (Ab (pv 0) (Ab Ao Af))) Ao))
  (Aq (AN (i:=6) Eu.nd (Bl (Ab (Bf (Ab (AK AL (pv 2) Ao) (Ab (AK AL (pv 1) Ao) (Ab BS (Ab Ao Af))))) (Ab (Bf (Ab (AK AL (pv 2) Ao) (Ab (AK AL (pv 1) Ao) (Ab BS (Ab Ao Af))))) Af))))
  (Aq (Si (i:=7) Eu.nd rfl (p7 rfl) (te:=Ec (Dk (N4 1 [1,0] (IX (Dk (EK (HJ K) (Cq 2) (Cq 0)) CW)) (Eb 0) DO (Ec (Dk (EK (HJ K) (Cq 1) (tC (.int 0))) (Dk (tC (.str "to")) (Dk (EK M4 (Cq 2) (tC (.int 1))) CW))))) (Dk (J7 CW) CW))) rfl Fn (JY rfl a1.b_range (Ab Ao Af)) (λ_ _ _ _ _=>(Az (i:=0) Fn.nd)) (λ_ _ _ _ _=>EA) (λ_ _ _ _ _=>(Bf (Ab (ES (te:=Ec (Dk (EK (HJ K) (Cq 1) (tC (.int 0))) (Dk (tC (.str "to")) (Dk (EK M4 (Cq 2) (tC (.int 1))) CW)))) rfl (Fo.re _) (JY rfl a1.b_range (Ab (AK AL (pv 2) (pv 0)) Af)) (λ_ _ _ _ _=>(Az (i:=0) Fo.nd)) (λ_ _ _ _ _=>EA) (λ_ _ _ _ _=>(Bf (Ab (AK AL (pv 1) Ao) (Ab BS (Ab (BH Hd (pv 2) Ao) Af)))))) (Ab (Bl Af) Af)))))
  (Aq (DH (DN Ek E8 E9 Fe (pv 7) (Ab (Bf (Ab (Bl Af) (Ab (UP HK (pv 6) HF (HG (pv 5))) Af))) Af)))
  (Aq (Bi (Cc I7 (pv 5) Ao (B3 _)) (As (DH (DN Ek E8 E9 Fe (AK AL (AK AL (pv 7) Ao) Ao) (Ab (Bf (Ab (AK AL (pv 2) Ao) (Ab (AK AL (pv 1) Ao) (Ab BS (Ab Ao Af))))) Af)))) Bh)
  (Aq (AN (i:=8) Eu.nd (AK AL (Bl (Ab Ao (Ab Ao (Ab Ao Af)))) (BH FR (A3 aF (Ab (pv 0) (Ab Ao Af))) Ao)))
  (Aq (AN (i:=9) Eu.nd (Bf (Ab (pv 7) (Ab (Bl (Ab (Bf (Ab BS (Ab Ao Af))) (Ab (Bf (Ab BS (Ab Ao Af))) Af))) (Ab (ES (te:=Ec (Dk (tC (.int 4)) (Dk (tC (.int 0)) (Dk (Ec (Dk (EK (HJ K) (Cq 1) (tC (.int 0))) CW)) CW)))) rfl Fp (JY rfl a1.b_range (Ab (pv 8) Af)) (λ_ _ _ _ _=>(Az (i:=0) Fp.nd)) (λ_ _ _ _ _=>EA) (λ_ _ _ _ _=>(Bf (Ab Ao (Ab Ao (Ab (Bf (Ab (AK AL (pv 1) Ao) Af)) Af)))))) Af)))))
  (Aq (Si (i:=10) Eu.nd rfl (p7 rfl) (te:=EK (HJ K) (J7 (Dk (Ec (Dk (tC (.str "none")) (Dk (tC (.int 0)) CW))) (Dk (Ec (Dk (tC (.str "thing")) (Dk (tC (.int 0)) CW))) (Dk (Ec (Dk (tC (.str "torn")) (Dk (tC (.int 0)) CW))) CW)))) (Cq 1)) rfl Fq (JY rfl a1.b_range (Ab (pv 8) Af)) (λ_ _ _ _ _=>(Az (i:=0) Fq.nd)) (λ_ _ _ _ _=>EA) (λ_ _ _ _ _=>(AK AL (Bl (Ab (Bf (Ab BS (Ab Ao Af))) (Ab (Bf (Ab BS (Ab Ao Af))) (Ab (Bf (Ab BS (Ab Ao Af))) Af)))) (pv 1))))
  (Aq (AN (i:=11) Eu.nd (Bl (Ab (Bf (Ab (AK AL (pv 1) Ao) (Ab Ao Af))) Af)))
  (Aq (Bi (Cc I0 (pv 5) Ao (B3 _)) (As (AN (i:=11) Eu.nd (Bl Af))) Bh)
  (Aq (AN (i:=12) Eu.nd (A3 bn (Ab (pv 9) (Ab (pv 10) (Ab (pv 3) (Ab Ao Af))))))
  (Aq (Bi (PW.pt (IU (Cc (Kp hr.units) (AK AL (pv 12) Ao) (Bl Af) (B3 _)) (Ge (HA (Eo (A3 bo (Ab (AK AL (pv 12) Ao) (Ab (pv 11) Af)))))))) (As (AW Mv)) Bh)
  (Aq (AN (i:=12) Eu.nd (A3 bn (Ab (pv 9) (Ab (pv 10) (Ab (pv 3) (Ab Ao Af))))))
  (Aq (Bi (Cc I7 (A3 bX (Ab (pv 4) Af)) Ao (B3 _)) (As (AW (IV (Pu (Ha (AK AL (pv 12) Ao))) (JS (Ja (GC hr.units) (AK AL (pv 12) Ao) (Bl (Ab Ao (Ab Ao Af))) (B3 _)))))) Bh)
  (Aq (Bi (Cc RT Ao (pv 4) (by with_unfolding_all rfl)) (As (AN (i:=11) Eu.nd (Bl Af))) Bh)
  (Aq (Bi (Cc I7 (pv 5) Ao (B3 _)) (As (AN (i:=11) Eu.nd (Bq (SH M7 M8) a1.b_sorted (Ab (BH Jc (pv 11) (Bl (Ab (Bf (Ab (AK AL (pv 1) Ao) (Ab Ao Af))) Af))) Af)))) Bh)
  (As (AW (IV (Ja (GC hr.units) (AK AL (pv 12) Ao) (Bl Af) (B3 _)) (JS (A3 bo (Ab (AK AL (pv 12) Ao) (Ab (pv 11) Af))))))))))))))))))))))))))),?_⟩
 rfl';refine IF λy d=>?_;refine⟨_,rfl,a,Z,1,rfl,by decide,hS,_,rfl,λW M C dD hW s1 eW dG dH hw=>?_⟩;refine At ?_;cbv;refine Hm (σ':=[some (.ref a),some (.ref W),none,none,none,none,none,none,none,none,none,none,none]) rfl ?_;refine EC d λy d=>?_;refine⟨_,rfl,a,Z,2,rfl,by decide,s1.seq hS,_,rfl,λL m A dE hL s2 eL bY bZ hl=>?_⟩;refine At ?_;cbv;refine Hm (σ':=[some (.ref a),some (.ref W),some (.ref L),none,none,none,none,none,none,none,none,none,none]) rfl ?_;refine EC d λy d=>?_;refine⟨_,rfl,p7 ⟨L,_,_,_,rfl,rfl,Ag.of (eL),rfl,Ct,λgt ca=>?_⟩⟩;obtain⟨H3,cb,t3,dh⟩:=new_at (o:=.tup [.str m,.int 0]) ca;rw[<-cb];refine⟨FW,λbl hg=>?_⟩;obtain⟨H4,cc,t4,cd⟩:=new_at (o:=.lst [.ref gt]) hg;rw[<-cc];refine⟨_,rfl,p7 ⟨L,_,_,_,rfl,rfl,Ag.of ((t4 _ _ (t3 _ _ (eL)))),rfl,FW,λe he=>?_⟩⟩;obtain⟨H5,cf,t5,cg⟩:=new_at (o:=.lst [.str A]) he;rw[<-cf];refine⟨Ct,λaB hu=>?_⟩;obtain⟨H6,ch,t6,cj⟩:=new_at (o:=.tup [.ref bl,.ref e]) hu;rw[<-ch];refine⟨FW,λaa ck=>?_⟩;obtain⟨H7,cl,t7,di⟩:=new_at (o:=.lst [.ref aB]) ck;rw[<-cl];refine⟨_,rfl,p7 ⟨L,_,_,_,rfl,rfl,Ag.of ((t7 _ _ (t6 _ _ (t5 _ _ (t4 _ _ (t3 _ _ (eL))))))),rfl,⟨_,rfl,p7 ⟨L,_,_,_,rfl,rfl,Ag.of ((t7 _ _ (t6 _ _ (t5 _ _ (t4 _ _ (t3 _ _ (eL))))))),rfl,Ct,λpr cm=>?_⟩⟩⟩⟩;obtain⟨H8,cn,t8,dj⟩:=new_at (o:=.tup [.str A,.str m]) cm;rw[<-cn];refine⟨FW,λoo cp=>?_⟩;obtain⟨H9,cq,t9,dk⟩:=new_at (o:=.lst [.ref pr]) cp;rw[<-cq];refine⟨aa,oo,m,A,rfl,Ne.symm hl,⟨aB,bl,e,gt,t9 _ _ (t8 _ _ di),t9 _ _ (t8 _ _ (t7 _ _ cj)),t9 _ _ (t8 _ _ (t7 _ _ (t6 _ _ (t5 _ _ cd)))),t9 _ _ (t8 _ _ (t7 _ _ (t6 _ _ (t5 _ _ (t4 _ _ dh))))),t9 _ _ (t8 _ _ (t7 _ _ (t6 _ _ cg)))⟩,⟨pr,dk,t9 _ _ dj⟩,Ui bY,Ui bZ,λt cs ht aG TK=>?_⟩;refine At ?_;cbv;refine Hm (σ':=[some (.ref a),some (.ref W),some (.ref L),some (.ref t),none,none,none,none,none,none,none,none,none]) rfl ?_;refine EC d λy d=>?_;refine⟨_,rfl,a,Z,rfl,aG.seq (t9.seq (t8.seq (t7.seq (t6.seq (t5.seq (t4.seq (t3.seq (s2.seq (s1.seq hS))))))))),λR g r s u dI hR aH eR b0 b1 b2 b3=>?_⟩;have bp:=aH.seq (aG.seq (t9.seq (t8.seq (t7.seq (t6.seq (t5.seq (t4.seq (t3.seq (s2.seq (s1.seq hS))))))))));refine At ?_;cbv;refine Hm (σ':=[some (.ref a),some (.ref W),some (.ref L),some (.ref t),some (.ref R),none,none,none,none,none,none,none,none]) rfl ?_;refine EC d λy d=>?_;refine⟨_,rfl,a,Z,7,rfl,by decide,bp,_,_,rfl,rfl,(by show(0:Int)<3;decide),?_⟩;refine At ?_;cbv;refine EC d λy d=>?_;have bd:=aH _ _ (aG _ _ (t9 _ _ (t8 _ _ (t7 _ _ (t6 _ _ (t5 _ _ (t4 _ _ (t3 _ _ (eL)))))))));have a0:=aH _ _ (aG _ _ (t9 _ _ (t8 _ _ (t7 _ _ (t6 _ _ (t5 _ _ (t4 _ _ (t3 _ _ (s2 _ _ (eW))))))))));obtain⟨l,dm,be⟩:∃n:Nat,FE Z 7%3=(n:Int)/\n<3:=⟨(FE Z 7%3).toNat,by omega,by omega⟩;rw[dm];refine Hm (σ':=[some (.ref a),some (.ref W),some (.ref L),some (.ref t),some (.ref R),some (.int (l:Int)),none,none,none,none,none,none,none]) rfl ?_;refine⟨_,rfl,p7 ⟨L,_,_,_,rfl,rfl,Ag.of (bd),rfl,⟨_,rfl,p7 ⟨W,_,_,_,rfl,rfl,Ag.of (a0),rfl,(by show 4<=sizeLine;decide),λp0 ct=>?_⟩⟩⟩⟩;obtain⟨dJ,dn,ab,dp⟩:=new_at (o:=.tup [.str A,.str M,.str "thing",.int 0]) ct;rw[<-dn];refine⟨_,rfl,p7 ⟨L,_,_,_,rfl,rfl,Ag.of (ab _ _ bd),rfl,⟨_,rfl,p7 ⟨W,_,_,_,rfl,rfl,Ag.of (ab _ _ a0),rfl,(by show 4<=sizeLine;decide),λp1 cu=>?_⟩⟩⟩⟩;obtain⟨dK,dq,ai,dr⟩:=new_at (o:=.tup [.str A,.str M,.str "thing",.int 1]) cu;rw[<-dq];refine⟨Ct,λla cv=>?_⟩;obtain⟨a3,ds,ae,dt⟩:=new_at (o:=.lst [.ref p0,.ref p1]) cv;rw[<-ds];refine At ?_;cbv;refine Hm (σ':=[some (.ref a),some (.ref W),some (.ref L),some (.ref t),some (.ref R),some (.int (l:Int)),some (.ref la),none,none,none,none,none,none]) rfl ?_;refine EC d λy d=>?_;have bP:=ae _ _ (ai _ _ (ab _ _ eR));have bQ:=ae _ _ (ai _ _ (ab _ _ bd));refine⟨_,rfl,by decide,by decide,No (lo:=0) (n:=4) (λD i ys x=>Ad a3 x/\x D=some (.lst ys)/\∃us aC bs:F',ys=us.map V.ref/\us.length=i/\Et x D us aC bs (AU m [g,r,s,u])/\∀b∈bs,a3 b=none) (λD hD=>⟨AJ hD,Aa,[],[],[],rfl,rfl,Et.nil,λ_ h=>by cases h⟩) (λD i ys a4 R1 R0 hD hi hv k k0=>?_) (λD ys a4 hD hv=>?_)⟩;refine BC λNz a6=>?_;obtain⟨au,af,us,aC,bs,rfl,lu,sc,fb⟩:=hv;refine a6 ?_;clear a6;have bq:([g,r,s,u].map λn:Nat=>V.int (n:Int))[i]?=some (.int (([g,r,s,u].getD i 0:Nat):Int)):=by rw[BP,A7,AQ (show i < [g,r,s,u].length from hi)];rfl
 have cw:[g,r,s,u].getD i 0<=8:=by
  match i,hi with
  |0,_=>exact b0
  |1,_=>exact b1
  |2,_=>exact b2
  |3,_=>exact b3
 have eS:AU m [g,r,s,u] i=List.replicate ([g,r,s,u].getD i 0) (m,i+1):=rfl;obtain⟨n,hn⟩:∃n,n=[g,r,s,u].getD i 0:=⟨_,rfl⟩;rw[<-hn] at bq cw eS;refine At (Pk ?_);cbv;rw[Ap rfl];refine⟨_,rfl,_,rfl,p7 ⟨R,_,_,_,rfl,rfl,Ag.of (au _ _ bP),(by rw[Int.zero_add];exact EO bq),_,rfl,by omega,by omega,?_⟩⟩;rw[E6];refine No (lo:=0) (n:=n) (λG ag B x=>Ad a4 x/\x G=some (.lst B)/\∃ts:F',B=ts.map V.ref/\DM x ts (List.replicate ag (m,i+1))) (λG S=>⟨AJ S,Aa,[],rfl,DM.nil⟩) (λG ag B aI R2 br al hm Y k2 bt=>?_) (λG B aI al Y=>?_);obtain⟨av,aJ,ts,rfl,aD⟩:=Y;refine At (Pk ?_);cbv;rw[Ap rfl];refine⟨_,rfl,p7 ⟨L,_,_,_,rfl,rfl,Ag.of (av _ _ (au _ _ bQ)),rfl,_,rfl,_,_,rfl,rfl,(by show 3<=sizeLine;decide),λp hp=>?_⟩⟩;cbv;rw[show(0+(i:Int)+1)=((i+1:Nat):Int) by omega];obtain⟨bu,bf,Q,ep⟩:=new_at (o:=.tup [.str m,.str "to",.int ((i+1:Nat):Int)]) hp;rw[<-bf];have bv:=Q _ _ aJ;have ll:(ts.map V.ref).length=ag:=(by rw[AD,aD.len,q0]);refine k2 _ _ bv (BQ (by omega)) ⟨λb o e=>?_,Aa,ts++[p],by simp,?_⟩;rw[Ax (AM e al)];exact Q _ _ (av _ _ e);rw[List.replicate_succ'];exact((aD.same Q).snoc (p:=(m,i+1)) ep).updL bv;obtain⟨av,aJ,ts,rfl,aD⟩:=Y;refine⟨A9 _,λb hb=>⟨Ct,λaB hu=>?_⟩⟩;have Q:=AJ (o:=.lst []) hb;have eb:(upd aI b (.lst [])) b=some (.lst []):=Aa;generalize upd aI b (.lst [])=bu at Q eb hu ⊢;obtain⟨aj,bg,ao,eu⟩:=new_at (o:=.tup [.ref G,.ref b]) hu;rw[<-bg];have sX:Ad a4 aj:=(av.trans Q).trans ao;have cx:=Et.snoc sX sc al (av.free hb) (AM aJ hb) (AM af al).symm (AM (av _ _ af) hb).symm eu (ao _ _ (Q _ _ aJ)) (by rw[lu,eS];exact(aD.same Q).same ao) (ao _ _ eb);have a7:=sX _ _ af;refine k _ _ a7 (BQ (by rw[AD];omega)) ⟨λb' o e=>?_,Aa,us++[aB],aC++[G],bs++[b],by simp,by simp[lu],cx.updD a7,λah hx=>(CG.mp hx).elim (fb ah) λh=>by rw[BY.mp h];exact au.free (av.free hb)⟩;rw[Ax (AM e hD)];exact sX _ _ (au _ _ e);refine BC λNz a6=>?_;obtain⟨au,af,us,aC,bs,rfl,lu,sc,fb⟩:=hv;refine a6 ?_;clear a6;refine At ?_;cbv;refine Hm (σ':=[some (.ref a),some (.ref W),some (.ref L),some (.ref t),some (.ref R),some (.int (l:Int)),some (.ref la),some (.ref D),none,none,none,none,none]) rfl ?_;refine EC d λy d=>?_;refine⟨_,rfl,p7 ⟨rfl,_,Ag.of af⟩,A9 _,λa5 aT=>?_⟩;obtain⟨aI,du,a8,cy⟩:=new_at (o:=.lst []) aT;rw[<-du];refine⟨_,rfl,_,rfl,_,rfl,la,_,rfl,Ag.of (a8 _ _ (au _ _ dt)),λb5 aU=>?_⟩;rw[Vg];obtain⟨bu,bf,Q,cz⟩:=new_at (o:=.lst ([V.ref p0,V.ref p1].take l)) aU;rw[<-bf];refine⟨Ct,λu5 bw=>?_⟩;obtain⟨aj,bg,ao,c1⟩:=new_at (o:=.tup [.ref a5,.ref b5]) bw;rw[<-bg];have bh:Ad a4 aj:=(a8.trans Q).trans ao;have dv:Ad a3 aj:=au.trans bh;have a7:=bh _ _ af;refine⟨D,_,_,rfl,rfl,a7,by rw[AD];exact BQ (by omega),?_⟩;have J:=(sc.same bh).updD (o:=.lst (us.map V.ref++[V.ref u5])) a7;have nD:∀{ah:Addr}{o:HO},a4 ah=none->(upd aj D (.lst (us.map V.ref++[V.ref u5]))) ah=aj ah:=λ{ah o}e=>Ax (AM af e).symm;have bi:=(Ax (o:=.lst (us.map V.ref++[V.ref u5])) (AM af aT).symm).trans (ao _ _ (Q _ _ cy));have bj:=(Ax (o:=.lst (us.map V.ref++[V.ref u5])) (AM (a8 _ _ af) aU).symm).trans (ao _ _ cz);have aS:=(Ax (o:=.lst (us.map V.ref++[V.ref u5])) (AM (Q _ _ (a8 _ _ af)) bw).symm).trans c1;have ax:Ad a3 (upd aj D (.lst (us.map V.ref++[V.ref u5]))):=λb o e=>by rw[Ax (AM e hD)];exact dv _ _ e
 have aK:(upd aj D (.lst (us.map V.ref++[V.ref u5]))) D=some (.lst ((us++[u5]).map V.ref)):=by rw[Aa,Cb];rfl
 generalize upd aj D (.lst (us.map V.ref++[V.ref u5]))=aL at J bi bj aS ax aK ⊢;clear nD;have bx:=sc.la.trans lu;have bz:=sc.lb.trans lu;have b4:=ax _ _ (ae _ _ (ai _ _ dp));have b6:=ax _ _ (ae _ _ dr);cbv;refine OO d (λσ x=>σ=[some (.ref a),some (.ref W),some (.ref L),some (.ref t),some (.ref R),some (.int (l:Int)),some (.ref la),some (.ref D),none,none,none,none,none]/\Ad a3 x/\K0 x D (AU m [g,r,s,u]) (AE A M C l)) (λy d=>?_) (λN hN=>?_);rintro σ aV ⟨rfl,ay,dw⟩;refine EC d λy d=>?_;have c2:=ay.seq (ae.seq (ai.seq (ab.seq bp)));refine⟨(by show 3<=sizeLine;decide),λc3 c5=>?_⟩;obtain⟨dL,dx,aW,c6⟩:=new_at (o:=.lst [.int 0,.int 1,.int 60]) c5;rw[<-dx];obtain⟨c8,c7,c9⟩:∃n:Nat,FE Z 8%3=(n:Int)/\n<3:=⟨(FE Z 8%3).toNat,by omega,by omega⟩
 obtain⟨aq,dy,dU⟩:∃n:Nat,[V.int 0,V.int 1,V.int 60][c8]?=some (.int (n:Int))/\n<=60:=by
  match c8,c9 with
  |0,_=>exact⟨0,rfl,by decide⟩
  |1,_=>exact⟨1,rfl,by decide⟩
  |2,_=>exact⟨60,rfl,by decide⟩
 refine⟨_,rfl,a,Z,8,rfl,by decide,aW.seq c2,_,_,rfl,rfl,(by show(0:Int)<3;decide),?_⟩;cbv;rw[c7];refine p7 ⟨c3,_,_,_,rfl,rfl,Ag.of c6,EO dy,?_⟩;refine At ?_;cbv;refine Hm (σ':=[some (.ref a),some (.ref W),some (.ref L),some (.ref t),some (.ref R),some (.int (l:Int)),some (.ref la),some (.ref D),some (.int (aq:Int)),none,none,none,none]) rfl ?_;refine EC d λy d=>?_;have cA:=aW _ _ (ay _ _ (ae _ _ (ai _ _ (ab _ _ a0))));refine⟨_,rfl,Ct,λaE cB=>?_⟩;obtain⟨cC,dz,b7,dM⟩:=new_at (o:=.tup [.str "plain",.int 0]) cB;rw[<-dz];refine⟨Ct,λa2 cD=>?_⟩;have aX:=AJ (o:=.tup [.str "plain",.int 0]) cD;generalize upd cC a2 (.tup [.str "plain",.int 0])=cE at aX ⊢;refine⟨Ct,λth cF=>?_⟩;have aY:=AJ (o:=.lst [.ref aE,.ref a2]) cF;generalize upd cE th (.lst [.ref aE,.ref a2])=b8 at aY ⊢;have T:Ad aV b8:=((aW.trans b7).trans aX).trans aY;have cG:=aY _ _ (aX _ _ (b7 _ _ cA));refine⟨_,rfl,_,rfl,by omega,by omega,?_⟩;rw[E6];refine No (lo:=0) (n:=aq) (λG ag B x=>Ad b8 x/\x G=some (.lst B)/\B.length<=ag) (λG S=>⟨AJ S,Aa,Aw _⟩) (λG ag B cH R2 br al hm Y k2 bt=>?_) (λqu B cH dN Y=>?_);obtain⟨aM,b9,lz⟩:=Y;refine At (Pk ?_);cbv;rw[Ap rfl];refine⟨_,rfl,p7 ⟨W,_,_,_,rfl,rfl,Ag.of (aM _ _ cG),rfl,FW,λq hq=>⟨(by show 3<=sizeLine;decide),λp hp=>?_⟩⟩⟩;have aN:=(AJ (o:=.tup [.str M]) hq).trans (AJ (o:=.tup [.int 4,.int 0,.ref q]) hp);have cI:=aN _ _ b9;refine k2 _ _ cI (BQ (by omega)) ⟨λb o e=>?_,Aa,by rw[BF];exact Nat.succ_le_succ lz⟩;rw[Ax (AM e al)];exact aN _ _ (aM _ _ e);obtain⟨aM,b9,lz⟩:=Y;refine⟨(by show 3<=sizeLine;decide),λnet d0=>?_⟩;obtain⟨cJ,d1,aN,d2⟩:=new_at (o:=.tup [.ref D,.ref th,.ref qu]) d0;rw[<-d1];have T:=T.trans (aM.trans aN);refine At ?_;cbv;refine Hm (σ':=[some (.ref a),some (.ref W),some (.ref L),some (.ref t),some (.ref R),some (.int (l:Int)),some (.ref la),some (.ref D),some (.int (aq:Int)),some (.ref net),none,none,none]) rfl ?_;refine EC d λy d=>?_;refine⟨_,rfl,_,rfl,by omega,by omega,?_⟩;rw[E6];refine No (lo:=0) (n:=aq) (λG ag B x=>Ad cJ x/\x G=some (.lst B)/\B.length<=ag) (λG S=>⟨AJ S,Aa,Aw _⟩) (λG ag B cK R2 br al hm Y k2 bt=>?_) (λan B cK dO Y=>?_);obtain⟨aO,bA,lz⟩:=Y;refine At (Pk ?_);cbv;rw[Ap rfl];refine⟨Ct,λq1 E=>⟨Ct,λar S=>⟨Ct,λI h3=>⟨(by show 3<=sizeLine;decide),λq4 h4=>?_⟩⟩⟩⟩;have a9:=(((AJ E).trans (AJ S)).trans (AJ h3)).trans (AJ (o:=.lst [.ref q1,.ref ar,.ref I]) h4);obtain⟨v,hv⟩:∃v,[V.ref q1,V.ref ar,V.ref I][l]?=some v:=⟨_,AQ (by show l<3;exact be)⟩;refine⟨_,rfl,p7 ⟨q4,_,_,v,rfl,rfl,Ag.of Aa,EO hv,?_⟩⟩;have cL:=a9 _ _ bA;refine k2 _ _ cL (BQ (by omega)) ⟨λb o e=>?_,Aa,by rw[BF];exact Nat.succ_le_succ lz⟩;rw[Ax (AM e al)];exact a9 _ _ (aO _ _ e);obtain⟨aO,bA,dP⟩:=Y;have T:=T.trans aO;refine At ?_;cbv;refine Hm (σ':=[some (.ref a),some (.ref W),some (.ref L),some (.ref t),some (.ref R),some (.int (l:Int)),some (.ref la),some (.ref D),some (.int (aq:Int)),some (.ref net),some (.ref an),none,none]) rfl ?_;refine EC d λy d=>?_;have cM:=T _ _ (ay _ _ (ae _ _ (ai _ _ (ab _ _ a0))));refine⟨_,rfl,p7 ⟨W,_,_,_,rfl,rfl,Ag.of cM,rfl,Ct,λq hq=>?_⟩⟩;obtain⟨dQ,d3,a9,eq⟩:=new_at (o:=.tup [.str M,.int 0]) hq;rw[<-d3];refine⟨FW,λX0 cN=>?_⟩;obtain⟨cO,d4,aZ,cP⟩:=new_at (o:=.lst [.ref q]) cN;rw[<-d4];refine At ?_;cbv;refine OO d (λσ x=>∃X1,σ=[some (.ref a),some (.ref W),some (.ref L),some (.ref t),some (.ref R),some (.int (l:Int)),some (.ref la),some (.ref D),some (.int (aq:Int)),some (.ref net),some (.ref an),some (.ref X1),none]/\Ad cO x/\EZ K x X1 (if l=1 then[(M,0)] else[])) (λy d=>?_) (λN hN=>?_);rintro σ bB ⟨X1,rfl,bC,bR⟩;have T:=T.trans ((a9.trans aZ).trans bC);have NR:=(dw.same T).net b0 b1 b2 b3 (bC _ _ (aZ _ _ (a9 _ _ (aO _ _ d2))));have sA:Ad cs bB:=aH.trans (ab.trans (ai.trans (ae.trans (ay.trans T))));have ba:=T _ _ (ay _ _ bP);have cQ:=T _ _ (ay _ _ (ae _ _ (ai _ _ (ab _ _ a0))));refine EC d λy d=>?_;have bD:∀v,v<5->∀p∈AE A M C l v,p.1=A:=λv _ p hp=>TZ hp;refine⟨_,rfl,_,rfl,_,rfl,net,t,.ref an,4,m,A,_,_,1,OL m A M 4,Jo (AE A M C l),rfl,by decide,NR,bD,TK.same sA,hl,Dw.1,T1 rfl (.inr rfl) hw,λhg=>absurd hg (by rw[Dw.2];decide),λ_ rr ll DD az ts bE bF er el hs hm eD U=>?_⟩;rw[Uj,Dw.2] at U;obtain⟨q1,ar,I⟩:=T7 (N:=[4]) hw be hs hm;have U:E3 bE ts (G1 (AE A M C l) [4] az):=U
 have bG:EZ K bE X1 (Eg (G1 (AE A M C l) [4] az)):=by
  have e:(if l=1/\4∈[4] then[(M,(0:Int))] else[])++(if 0<l/\0∈[4] then[(C,(1:Int))] else[])=if l=1 then[(M,0)] else[]:=by
   rw[An (show ¬(0<l/\0∈[4]) from λz=>absurd z.2 (by decide)),EF];by_cases c:l=1;rw[Ap c,Ap ⟨c,by decide⟩];rw[An c,An λz=>c z.1]
  rw[e] at I
  have:Eg (G1 (AE A M C l) [4] az)=if l=1 then[(M,0)] else[]:=by
   split at I;rw[Ap (by assumption)];exact List.perm_singleton.mp I;rw[An (by assumption)];exact I.eq_nil
  rw[this];exact bR.same bF
 refine At ?_;cbv;refine EC d λy d=>?_;refine⟨_,rfl,p8 (p7 ⟨rr,_,_,_,rfl,rfl,AB.of er,rfl,A9 _,λl0 aA=>?_⟩)⟩;have aP:=AJ (o:=.lst []) aA;refine⟨1,.lst [],.lst [],.lst (.nil _),by decide,.lst (Ag.of (aP _ _ el)) .nil,.lst (Ag.of Aa) .nil,_,rfl,?_⟩;rw[IM];refine AC ⟨_,rfl,p8 (p7 ⟨rr,_,_,_,rfl,rfl,AB.of (aP _ _ er),rfl,_,rfl,.ref DD,.ref X1,true,rfl,(Uk eD U q1 bG).same aP,λcR cS=>⟨true,rfl,AC ?_⟩⟩)⟩;have sB:Ad bB cR:=(bF.trans aP).trans cS;clear ar I U bG eD el er hm hs q1;refine Du ?_;cbv;refine EC d λy d=>?_;obtain⟨k,SK⟩:=Iy (AA m (AU m [g,r,s,u])) ([],0);have RS:=Xe SK
 have h8:∀ah∈[g,r,s,u],ah<=8:=λah hx=>by
  simp only[BL,List.not_mem_nil,or_false] at hx;rcases hx with rfl|rfl|rfl|rfl<;>assumption
 refine⟨_,rfl,_,rfl,_,rfl,net,t,.ref an,0,m,A,_,_,k,OL m A M 0,Jo (AE A M C l),rfl,by decide,NR.same sB,bD,TK.same (sA.trans sB),hl,SK,T1 rfl (.inl rfl) hw,λhg rr ll bb aQ er el=>?_,λcT rr ll DD az ts bb aQ er el hs hm eD U=>?_⟩;refine At ?_;cbv;refine EC d λy d=>?_;refine⟨_,rfl,R,[g,r,s,u],rfl,aQ _ _ (sB _ _ ba),by show 4<=4;decide,h8,_,_,rfl,rfl,_,rfl,Ci (λ_=>?_) (λh=>absurd (RS.1.mp hg) λz=>h (B2 (by rw[Ul];omega)))⟩;refine⟨_,rfl,p8 (p7 ⟨rr,_,_,_,rfl,rfl,AB.of er,rfl,true,rfl,AS ?_⟩)⟩;refine⟨_,rfl,p8 (p7 ⟨rr,_,_,_,rfl,rfl,AB.of er,rfl,Ct,λl0 aA=>?_⟩)⟩;have cU:=AJ (o:=.lst [.int 4,.int 9]) aA;refine⟨1,.lst [.int 4,.int 9],.lst [.int 4,.int 9],.lst (.cons (.int _ _) (.cons (.int _ _) (.nil _))),by decide,.lst (Ag.of (cU _ _ el)) (.cons (.int _) (.cons (.int _) .nil)),.lst (Ag.of Aa) (.cons (.int _) (.cons (.int _) .nil)),?_⟩;rw[Em rfl];exact kq _;rw[Uj] at U;have U:E3 bb ts (G1 (AE A M C l) ((AV (AA m (AU m [g,r,s,u])) ([],0) k).map (·.2)) az):=U;obtain⟨c4,c0⟩:=RS.2 cT;have i4:4∈(AV (AA m (AU m [g,r,s,u])) ([],0) k).map (·.2)↔0∉[g,r,s,u]:=(by rw[<-Xj,<-c4,List.count_pos_iff]);have i0:0∈(AV (AA m (AU m [g,r,s,u])) ([],0) k).map (·.2):=List.count_pos_iff.mp (by rw[c0];decide);obtain⟨q1,ar,I⟩:=T7 (N:=(AV (AA m (AU m [g,r,s,u])) ([],0) k).map (·.2)) hw be hs hm;generalize G1 (AE A M C l) ((AV (AA m (AU m [g,r,s,u])) ([],0) k).map (·.2)) az=rs at U q1 ar I;have cV:¬200<1+g+g*r+g*r*s+g*r*s*u:=λz=>absurd (RS.1.mpr z) (by omega);generalize (AV (AA m (AU m [g,r,s,u])) ([],0) k).map (·.2)=N at i4 i0 I;refine At ?_;cbv;refine EC d λy d=>?_;refine⟨_,rfl,R,[g,r,s,u],rfl,aQ _ _ (sB _ _ ba),by show 4<=4;decide,h8,_,_,rfl,rfl,_,rfl,Ci (λh=>absurd (E7 h) λz=>cV (by rw[Ul] at z;omega)) (λ_=>?_)⟩;refine Du ?_;cbv;have sC:=sB.trans aQ;refine OO d (λσ x=>∃X2,σ=[some (.ref a),some (.ref W),some (.ref L),some (.ref t),some (.ref R),some (.int (l:Int)),some (.ref la),some (.ref D),some (.int (aq:Int)),some (.ref net),some (.ref an),some (.ref X2),some (.ref rr)]/\Ad bb x/\EZ K x X2 (if l=1/\0∉[g,r,s,u] then[(M,0)] else[])) (λy d=>?_) (λN' bH=>?_);rintro σ cW ⟨X2,rfl,bI,bk⟩;refine OO d (λσ x=>∃X3,σ=[some (.ref a),some (.ref W),some (.ref L),some (.ref t),some (.ref R),some (.int (l:Int)),some (.ref la),some (.ref D),some (.int (aq:Int)),some (.ref net),some (.ref an),some (.ref X3),some (.ref rr)]/\Ad cW x/\EZ K x X3 (Eg rs)) (λy d=>?_) (λdR bS=>?_);rintro σ cX ⟨X3,rfl,cY,d5⟩;have sD:=bI.trans cY;refine KZ d ?_;refine⟨_,rfl,p8 (p7 ⟨rr,_,_,_,rfl,rfl,AB.of (sD _ _ er),rfl,A9 _,λl0 aA=>?_⟩)⟩;have aw:=AJ (o:=.lst []) aA;refine⟨1,.lst [],.lst [],.lst (.nil _),by decide,.lst (Ag.of (aw _ _ (sD _ _ el))) .nil,.lst (Ag.of Aa) .nil,_,rfl,?_⟩;rw[Em rfl];exact AS ⟨_,rfl,p8 (p7 ⟨rr,_,_,_,rfl,rfl,AB.of (aw _ _ (sD _ _ er)),rfl,_,rfl,.ref DD,.ref X3,true,rfl,(Uk (sD _ _ eD) (U.same sD) q1 d5).same aw,λbJ dS=>kq _⟩)⟩;refine⟨_,rfl,_,_,rfl,rfl,_,rfl,Ci (λh=>?_) (λh=>?_)⟩;have ak:0<l:=by have:=E7 h;omega
 obtain⟨B,z1,z2,z3⟩:=bk;have lz:B.length<=1:=(by have:=De List.length z3;rw[AD] at this;rw[this];split;exact Aw _;exact A9 _);refine⟨_,rfl,_,rfl,p7 ⟨W,_,_,_,rfl,rfl,Ag.of (bI _ _ (sC _ _ cQ)),rfl,Ct,λq hq=>?_⟩⟩;obtain⟨cX,d6,bK,cZ⟩:=new_at (o:=.tup [.str C,.int 1]) hq;rw[<-d6];refine⟨FW,λl2 da=>?_⟩;obtain⟨dT,d7,aw,db⟩:=new_at (o:=.lst [.ref q]) da;rw[<-d7];refine⟨X2,l2,_,_,rfl,rfl,aw _ _ (bK _ _ z1),db,by rw[AD];exact Dm (Nat.add_le_add_right lz 1) (by decide),λp hp=>?_⟩;obtain⟨bJ,d8,bL,ep⟩:=new_at (o:=.lst (B.map (·.1)++[V.ref q])) hp;rw[<-d8];have sE:=(bK.trans aw).trans bL
 have hz:∀z∈B++[(V.ref q,C,(1:Int))],∃t,z.1=.ref t/\AB K bJ t [.str z.2.1,.int z.2.2]:=λz hz=>by
  rcases CG.mp hz with hz|hz;obtain⟨t,e,sq⟩:=z2 z hz;exact⟨t,e,sE.seqT sq⟩;rw[BY.mp hz];exact⟨q,rfl,AB.of (bL _ _ (aw _ _ cZ))⟩
 refine⟨p,B++[(V.ref q,C,(1:Int))],rfl,Ag.of (by rw[Cb];exact ep),by rw[BF];exact Nat.lt_of_le_of_lt (Nat.add_le_add_right lz 1) (by decide),hz,λD3 bM bN d9 dc=>?_⟩;have bO:=AJ (o:=.lst (bM.map (·.1))) dc;refine At (bS _ _ ⟨D3,rfl,sE.trans bO,bM,Aa,λz dd=>?_,?_⟩);obtain⟨t,e,sq⟩:=hz z (bN.mem_iff.mp dd);exact⟨t,e,bO.seqT sq⟩;refine VG (O:=Br Dp FG) (((bN.map (·.2)).trans ?_).trans I.symm) d9 ar;rw[Cb,z3,Ap (show 0<l/\0∈N from⟨ak,i0⟩)];have e:(if l=1/\0∉[g,r,s,u] then[(M,(0:Int))] else[])=if l=1/\4∈N then[(M,0)] else[]:=(by by_cases c:l=1/\4∈N;rw[Ap c,Ap ⟨c.1,i4.mp c.2⟩];rw[An c,An λz=>c ⟨z.1,i4.mpr z.2⟩]);rw[e];exact List.Perm.refl _;have h0:l=0:=by have:=of_decide_eq_false (Bool.eq_false_iff.mpr h);omega
 refine bS _ _ ⟨X2,rfl,Ad.refl _,?_⟩;rw[An (show ¬(l=1/\4∈N) by omega),An (show ¬(0<l/\0∈N) by omega)] at I;rw[show Eg rs=[] from I.eq_nil];rw[An (show ¬(l=1/\0∉[g,r,s,u]) by omega)] at bk;exact bk;refine⟨_,rfl,R,_,rfl,p7 (Ag.of (sC _ _ ba)),rfl,Xk,_,rfl,?_⟩;cbv;rw[IH];refine Ci (λh=>?_) (λh=>?_);refine⟨A9 _,λX2 de=>?_⟩;refine At (bH _ _ ⟨X2,rfl,AJ de,?_⟩);rw[An λz=>z.2 (E7 h)];exact EZ.nil Aa;refine bH _ _ ⟨X1,rfl,Ad.refl _,?_⟩;have e:(if l=1/\0∉[g,r,s,u] then[(M,(0:Int))] else[])=if l=1 then[(M,0)] else[]:=(by by_cases c:l=1;rw[Ap c,Ap ⟨c,λz=>h (B2 z)⟩];rw[An c,An λz=>c z.1]);rw[e];exact bR.same sC;refine⟨_,rfl,rfl,_,rfl,Ci (λE=>?_) (λE=>?_)⟩;have E:¬l=1:=λz=>by rw[z] at E;revert E;decide
 refine⟨A9 _,λX1 df=>?_⟩;refine At ?_;refine hN _ _ ⟨X1,rfl,AJ df,?_⟩;rw[An E];exact EZ.nil Aa;have E:l=1:=q2 λz=>E (by rw[BZ λe=>z (by have:=V.int.inj e;omega)];rfl);refine hN _ _ ⟨X0,rfl,Ad.refl _,?_⟩;rw[Ap E];exact EZ.one cP (aZ _ _ eq);refine⟨_,rfl,_,_,rfl,rfl,_,rfl,Ci (λak=>?_) (λak=>?_)⟩;have ak:0<l:=by have:=E7 ak; omega
 obtain⟨x0,x1,x2,x3,rfl⟩:=Rq lu;obtain⟨y0,y1,y2,y3,rfl⟩:=Rq bx;obtain⟨z0,z1,z2,z3,rfl⟩:=Rq bz;have dg:aL x0=some (.tup [.ref y0,.ref z0]):=J.u 0 (IR _);have bc:aL z0=some (.lst []):=J.t 0 (IR _);refine⟨_,rfl,p7 ⟨D,_,_,_,rfl,rfl,Ag.of aK,rfl,p8 (p7 ⟨x0,_,_,_,rfl,rfl,AB.of dg,rfl,p7 ⟨rfl,_,Ag.of bc⟩,?_⟩)⟩⟩;refine⟨_,rfl,p7 ⟨L,_,_,_,rfl,rfl,Ag.of (ax _ _ bQ),rfl,⟨_,rfl,p7 ⟨W,_,_,_,rfl,rfl,Ag.of (ax _ _ (ae _ _ (ai _ _ (ab _ _ a0)))),rfl,(by show 4<=sizeLine;decide),λq hq=>?_⟩⟩⟩⟩;obtain⟨aV,dA,aR,eq⟩:=new_at (o:=.tup [.str A,.str C,.str "thing",.int 1]) hq;rw[<-dA];have ez:=aR _ _ bc;refine⟨z0,_,_,rfl,rfl,ez,(by show 0<sizeLine;decide),?_⟩;have nz:∀{b:Addr},b≠z0->∀{o:HO},aL b=some o->(upd aV z0 (.lst ([]++[V.ref q]))) b=some o:=λ{b}h{o}e=>by rw[Ax h];exact aR _ _ e
 have nt:∀{b:Addr}{vs:R'},aL b=some (.tup vs)->b≠z0:=λe z=>by rw[z,bc] at e;cases e
 refine hN _ _ ⟨rfl,λb o e=>?_,?_⟩;rw[Ax λz=>by rw[z,fb z0 (by simp)] at e;cases e];exact aR _ _ (ax _ _ e);have uj:=J.u;refine Et.whole (ts0:=[q]) (ts4:=[p0,p1].take l) rfl rfl rfl rfl (nz (Ne.symm (J.ne 0 (IR _)).2) aK) (λj X=>nz (nt (uj j X)) (uj j X)) (λj X=>?_) Aa ?_ (λj X h0=>nz (J.nb j 0 X (IR _) h0) (J.t j X)) (nz (nt aS) aS) (nz ?_ bi) (nz ?_ (by rw[List.map_take];exact bj)) (Xh (nz (nt b4) b4) (nz (nt b6) b6));obtain⟨ts,aE,a2⟩:=J.s j X;exact⟨ts,nz (J.nd j 0 X (IR _)) aE,(a2.same aR).updL ez⟩;unfold AE;rw[An (by decide),Ap ⟨rfl,ak⟩]
 exact⟨rfl,λn t p E S=>by
  match n,E,S with
  |0,E,S=>cases E;cases S;rw[Ax λz=>by rw[z,ez] at eq;cases eq];exact eq
  |n+1,E,_=>simp at E⟩
 exact Ne.symm (AM (sc.t 0 (by rw[lu];exact IR _)) aT);exact Ne.symm (AM (a8 _ _ (sc.t 0 (by rw[lu];exact IR _))) aU);have ak:l=0:=by have:=of_decide_eq_false (Bool.eq_false_iff.mpr ak);omega
 subst ak;refine hN _ _ ⟨rfl,ax,?_⟩;exact Et.whole (ts0:=[]) (ts4:=[]) rfl lu bx bz aK (λj X=>J.u j (by omega)) (λj X=>J.s j (by omega)) (J.t 0 (by omega)) (by unfold AE;rw[An (by decide),An (by decide)];exact FL.nil) (λj X _=>J.t j (by omega)) aS bi bj FL.nil
abbrev NS(P w K mg base):=Bo P w K mg base "law" 9 ["_law_script"] (NQ K)
def NT(B:Ba mg)(a:Bb K mg)(d:OZ P w K mg base)(e:NM P w K mg base)(g:O1 P w K mg base)(h:O2 P w K mg base)(i:Pf P w K mg base)(j:Ph P w K mg base)(k:Pj P w K mg base)(F:A4 K "law" "law" Fs f fd)(b:mg "law" = some (.ref f)):NS P w K mg base:=
 ⟨f,fd,G7 B a d e g h i j k F,b,F.kp,F.binds λ_ _ _ _ _ _ us c=>(by obtain⟨l,rfl⟩:=OW c;rfl)⟩
end
def all_mk{l:PySem.W.OpenLaw}{w:World}{K:Ah}{h:Heap}{a:Str->J'}{t:Addr}(X:K.In h)(G:h.Ns mainGlobals a)(aa:a "law" = some (.ref t))(q:Fb K)
 : ∃u:FuncData,(∀(s:Shared)(v:Value),BindsTo s u ⟨[v],[]⟩ [("_law_script",v)])/\∀base:Heap,K.In base->base.Ns mainGlobals a->Cg l.prog w K a base EQ 9 t u ["_law_script"] (NQ K):=by
 obtain @⟨f0,fV,fW,fX,fY,fZ,ga,gb,gc,gd,fT,gf,gg,gh,gi,gj,gk,gl,gm,gn,fU,gp,gq,gr,gs,gu,gv,gw,gx,gy,f3,gz,g0,g4,g5,g6,g7,g8,g9,gA,f4,gB,gC,gD,gE,gF,gG,gH,gI,gJ,f5,gK,gL,gM,gN,gO,gP,gQ,gR,gS,f6,gT,gU,gV,gW,gX,gY,gZ,ha,hb,f7,hc,he,hf,hg,hh,hi,hj,hk,hl,f8,hm,hn,ho,hp,hq,hr,hs,ht,hu,f9,hv,hw,hx,hy,hz,h0,h1,h2,h3,h4,il,im,ip,iq,ir,it,iu,iv,iw,h5,ix,iy,iz,i0,i1,i2,i3,i4,i5,h6,i6,i7,i8,i9,iA,iB,iC,iD,iE,h7,iF,iG,iH,iI,iJ,iK,iL,iM,iN,h8,iO,iP,iQ,iR,iS,iT,iU,iV,iW,h9,iX,iY,iZ,ja,jb,jc,jd,je,jf,hA,jg,jh,ji,jj,jk,jl,jm,jn,jo,hB,jq,jr,js,jt,ju,jv,jw,jx,jy,hC,jz,j0,j1,j2,j3,j4,j5,j6,j7,hD,j8,j9,jA,jB,jC,jD,jE,jF,jG,hE,jH,jI,jJ,jK,jL,jM,jN,jO,jP,hF,jQ,jR,jS,jT,jU,jV,jW,jX,jY,hG,jZ,ka,kb,kc,kd,ke,kf,kg,kh,hH,ki,kj,kk,kl,km,kn,ko,kp,kq,hI,kr,ks,kt,ku,kv,kw,kx,ky,kz,hJ,k0,k1,kA,kB,kC,kD,kE,kF,kG,hK,kH,kI,kJ,kK,kL,kM,kN,kO,kP,hL,kQ,kR,kS,kT,kU,kV,kW,kX,kY,hM,kZ,la,lb,lc,lg,lh,li,lj,ll,hN,lm,ln,lp,lq,lr,ls,lu,lv,lw,hO,lx,ly,lz,l0,l1,lA,lB,lC,lD,hP,lE,lF,lG,lH,lI,lJ,lK,lL,lM,hQ,lN,lO,lP,lQ,lR,lS,lT,lU,lV,hR,lW,lX,lY,lZ,ma,mb,mc,md,me,hS,mf,mg,mh,mi,mj,ml,mm,mn,mo,hT,mq,mr,ms,mu,mv,mw,mx,my,mz,hU,m0,m1,m2,m3,m4,m5,m6,m7,m8,hV,m9,mA,mB,mC,mD,mE,mF,mG,mH,hW,mI,mJ,mK,mL,mM,mN,mO,mP,mQ,hX,mR,mS,mT,mU,mV,mW,mX,mY,mZ,hY,na,nb,nc,nd,nf,ng,nh,ni,nj,hZ,nk,nm,nn,nq,nr,ns,nt,nu,nv,ia,nw,nx,ny,nz,n0,n1,n2,n3,n4,ib,n5,n6,n7,n8,n9,nA,nB,nC,nD,ic,nE,nF,nG,nH,nI,nJ,nK,nL,nM,ie,nN,nO,nP,nQ,nR,nS,nT,nU,nV,ig,nW,nX,nY,nZ,oa,ob,oc,od,oe,ih,og,oh,oi,oj,om,oo,oq,ot,ou,ij,ov,dH,ow,ox,dI,dJ,dK,dL,dM,o7,o8,o3,o4,o5,o6,eO,eP,eY,eG,eQ,fq,eA,eZ,fk,eH,P,Q,R,S,T,U,W,Y,Z,l2,c2,k2,a3,l3,c3,k3,a4,l4,c4,k4,a5,l5,c5,k5,a6,l6,c6,k6,a7,l7,c7,k7,a8,l8,c8,k8,a9,l9,c9,k9,ab,ae,af,ag,ah,ai,aj,ak,al,an,ao,aq,ar,au,av,aw,ax,ay,az,a0,a1,a2,aA,aB,aC,aD,aE,aF,aG,aH,aI,aJ,aK,aL,aM,aN,aO,aP,aQ,aR,aS,aT,aU,aV,aW,aX,aY,aZ,ba,bb,bc,bd,be,bf,bg,bh,bi,bj,bk,bl,bm,bn,bo,bp,bq,br,bs,bt,bu,bv,bw,bx,bz,b0,b1,b2,b3,b4,b5,b6,b7,b8,b9,bA,bB,bC,bD,bE,bF,bG,bH,bI,bJ,bK,bL,bM,bN,bO,bP,bQ,bR,bS,bT,bU,bV,bW,bX,bY,bZ,ca,cb,cc,cd,cf,cg,ch,cj,ck,cl,cm,cn,cp,cq,cs,ct,cu,cv,cw,cx,cy,cz,c0,ik,oy,oz,o0,o1,o2,c1,cA,cB,cC,cD,cE,cF,cG,cH,cI,cJ,cK,cL,cM,cN,cO,cP,cQ,cR,cS,cT,cU,cV,cW,cX,fv,e2,e3,eB,eC,fr,e4,fw,e5,eD,e6,eI,e7,eR,e8,eJ,e9,fz,fM,fs,ft,fx,fy,J,L,N,H,M,p,F,m,O,I,fu,fa,cY,cZ,fb,fl,fm,fc,fe,ff,fS,fG,fH,fN,fC,fI,fA,fO,fQ,fD,fJ,fK,fP,fE,fL,fB,fR,fF,eS,eT,eU,eV,fg,fh,eK,eL,eW,eX,eE,eF,fi,fj,fo,fp,eM,eN⟩:=q;have e:=aa.symm.trans (PySem.W.mg_of X G cU);cases e;have B:Ba a:=⟨En X G fv,En X G e2,En X G e3,En X G eB,En X G eC,En X G fr,En X G e4,En X G fw,En X G e5,En X G eD,En X G e6,En X G eI,En X G e7,En X G eR,En X G e8,En X G eJ,En X G e9,⟨_,PySem.W.mg_of X G fz⟩,⟨_,PySem.W.mg_of X G fM⟩,⟨_,PySem.W.mg_of X G fs⟩,⟨_,PySem.W.mg_of X G ft⟩,⟨_,PySem.W.mg_of X G fx⟩,⟨_,PySem.W.mg_of X G fy⟩⟩;have i:Ak K "Caught" = eO:=Hl J;have j:Ak K "NoName" = eP:=Hl L;have n:Ak K "NoPlace" = eY:=Hl N;have f:Ak K "NoRow" = eG:=Hl H;have k:Ak K "NoText" = eQ:=Hl M;have r:Ak K "PathError" = fq:=Hl p;have d:Ak K "Ring" = eA:=Hl F;have c:Ak K "Tangled" = eZ:=Hl m;have o:Ak K "TooGreat" = fk:=Hl O;have g:Ak K "Twice" = eH:=Hl I;have b:Bb K a:=⟨by rw[i];exact PySem.W.mg_of X G J,by rw[j];exact PySem.W.mg_of X G L,by rw[n];exact PySem.W.mg_of X G N,by rw[f];exact PySem.W.mg_of X G H,by rw[k];exact PySem.W.mg_of X G M,by rw[r];exact PySem.W.mg_of X G p,by rw[d];exact PySem.W.mg_of X G F,by rw[c];exact PySem.W.mg_of X G m,by rw[o];exact PySem.W.mg_of X G O,by rw[g];exact PySem.W.mg_of X G I,by rw[r];exact⟨PySem.W.mg_of X G p,fu⟩,by rw[c];exact⟨PySem.W.mg_of X G m,fa⟩,by rw[c];exact V9 fb fl fm fc cY cZ fe,by rw[c];exact KH ff,by rw[c,r];exact Wa fS,by rw[c,i];exact H2 (Ia eS eT fG),by rw[c,j];exact H2 (Ia eU eV fH),by rw[c,n];exact H2 (Ia fg fh fN),by rw[c,f];exact H2 (Ia eK eL fC),by rw[c,k];exact H2 (Ia eW eX fI),by rw[c,d];exact H2 (Ia eE eF fA),by rw[c];exact H2 (Ia fi fj fO),by rw[c,o];exact H2 (Ia fo fp fQ),by rw[c,g];exact H2 (Ia eM eN fD),by rw[c,i];exact fJ,by rw[c,j];exact fK,by rw[c,n];exact fP,by rw[c,f];exact fE,by rw[c,k];exact fL,by rw[c,d];exact fB,by rw[c,o];exact fR,by rw[c,g];exact fF⟩;have F0:=Bt (st:=Ll) Q R S;have F1:=Bt (st:=Lm) U W Y;have F2:=Bt (st:=Ln) l2 c2 k2;have F3:=Bt (st:=Lo) l3 c3 k3;have F4:=Bt (st:=Jz) l4 c4 k4;have F5:=Bt (st:=Lp) l5 c5 k5;have F6:=Bt (st:=JA) l6 c6 k6;have F7:=Bt (st:=Lq) l7 c7 k7;have F8:=Bt (st:=Lr) l8 c8 k8;have F9:=Bt (st:=Lu) l9 c9 k9;have da:=Bt (st:=Lv) ae af ag;have db:=Bt (st:=Lw) ai aj ak;have dc:=Bt (st:=Lx) an ao aq;have dd:=Bt (st:=Ly) au av aw;have de:=Bt (st:=Lz) ay az a0;have df:=Bt (st:=LA) a2 aA aB;have dg:=Bt (st:=LB) aD aE aF;have dh:=Bt (st:=JB) aH aI aJ;have di:=Bt (st:=JC) aL aM aN;have dj:=Bt (st:=LC) aP aQ aR;have dk:=Bt (st:=JD) aT aU aV;have dm:=Bt (st:=LD) aX aY aZ;have dn:=Bt (st:=LF) bb bc bd;have dp:=Bt (st:=LG) bf bg bh;have dq:=Bt (st:=LH) bj bk bl;have dr:=Bt (st:=LI) bn bo bp;have ds:=Bt (st:=JE) br bs bt;have dt:=Bt (st:=JF) bv bw bx;have du:=Bt (st:=LJ) b0 b1 b2;have dv:=Bt (st:=JG) b4 b5 b6;have dw:=Bt (st:=JH) b8 b9 bA;have dx:=Bt (st:=LK) bC bD bE;have dy:=Bt (st:=LL) bG bH bI;have dz:=Bt (st:=LM) bK bL bM;have d0:=Bt (st:=LN) bO bP bQ;have d1:=Bt (st:=LO) bS bT bU;have d2:=Bt (st:=LP) bW bX bY;have d3:=Bt (st:=LQ) ca cb cc;have d4:=Bt (st:=Ht) cf cg ch;have d5:=Bt (st:=LR) ck cl cm;have d6:=Bt (st:=LS) cp cq cs;have d7:=Bt (st:=JI) cu cv cw;have d8:=Bt (st:=LU) cy cz c0;have d9:=Iq (st:=JJ) cA cB;have dA:=Bt (st:=IS) cF cG cH;have dB:=Bt (st:=LV) cJ cK cL;have dC:=Bt (st:=Hu) cN cO cP;have dD:=Bt (st:=LW) cR cS cT;have dE:=Bt (st:=Fs) cV cW cX;refine⟨PySem.W.fnOf "law" "law" (A8 Fs) (A0 Fs) (Ar Fs) .none dI dJ dK dH dL dM,λs v=>.of_eq rfl,λbase _ _=>?_⟩;have dF:QW l.prog w K a base:=Xx B b F0 (PySem.W.mg_of X G P);have dG:OZ l.prog w K a base:=Xz B b dF F1 (PySem.W.mg_of X G T);have x:NM l.prog w K a base:=XD B b F2 (PySem.W.mg_of X G Z);have dN:QX l.prog w K a base:=XF B b F3 (PySem.W.mg_of X G a3);have y:O0 l.prog w K a base:=XH B b F4 (PySem.W.mg_of X G a4);have dO:QY l.prog w K a base:=XJ B b y F5 (PySem.W.mg_of X G a5);have dP:QZ l.prog w K a base:=XN B b F6 (PySem.W.mg_of X G a6);have dQ:Q0 l.prog w K a base:=XQ B b dO dP F7 (PySem.W.mg_of X G a7);have dR:Q1 l.prog w K a base:=XS B b F8 (PySem.W.mg_of X G a8);have dS:Q2 l.prog w K a base:=XU B b dR F9 (PySem.W.mg_of X G a9);have dT:Q3 l.prog w K a base:=XW B b dS da (PySem.W.mg_of X G ab);have dU:Q4 l.prog w K a base:=XY B b db (PySem.W.mg_of X G ah);have dV:Q5 l.prog w K a base:=X4 B b dU y dc (PySem.W.mg_of X G al);have dW:Q6 l.prog w K a base:=X6 B b dd (PySem.W.mg_of X G ar);have dX:Q7 l.prog w K a base:=X8 B b de (PySem.W.mg_of X G ax);have dY:Q8 l.prog w K a base:=Yb B b dW dX df (PySem.W.mg_of X G a1);have dZ:Q9 l.prog w K a base:=Yd B b dY dg (PySem.W.mg_of X G aC);have ea:Ra l.prog w K a base:=Yg B b dh (PySem.W.mg_of X G aG);have eb:O1 l.prog w K a base:=Yi B b dN dQ dT dV dZ ea di (PySem.W.mg_of X G aK);have ec:Rb l.prog w K a base:=Yk B b dj (PySem.W.mg_of X G aO);have ed:O2 l.prog w K a base:=Ym B b x ec dk (PySem.W.mg_of X G aS);have ee:Rc l.prog w K a base:=Yo B b dm (PySem.W.mg_of X G aW);have ef:Re l.prog w K a base:=Yq B b dn (PySem.W.mg_of X G ba);have eg:Rf l.prog w K a base:=Ys B b ef dp (PySem.W.mg_of X G be);have eh:Rg l.prog w K a base:=Yt B b eg dq (PySem.W.mg_of X G bi);have z:O3 l.prog w K a base:=Yv B b ee eh dr (PySem.W.mg_of X G bm);have ei:O4 l.prog w K a base:=Yx B b z ds (PySem.W.mg_of X G bq);have ej:Nm l.prog w K a base "beginnings" 6 ["net", "answers", "table", "scope", "state"] (NP K):=YA B b ei dt (PySem.W.mg_of X G bu);have ek:O5 l.prog w K a base:=YC B b z du (PySem.W.mg_of X G bz);have el:O6 l.prog w K a base:=YE B b dv (PySem.W.mg_of X G b3);have A:O7 l.prog w K a base:=YG B b dw (PySem.W.mg_of X G b7);have C:O8 l.prog w K a base:=YI B b dx (PySem.W.mg_of X G bB);have en:Ri l.prog w K a base:=YL B b dy (PySem.W.mg_of X G bF);have D:O9 l.prog w K a base:=YN B b en dz (PySem.W.mg_of X G bJ);have eo:Rj l.prog w K a base:=YQ B b A C D d0 (PySem.W.mg_of X G bN);have E:Pa l.prog w K a base:=YS B b d1 (PySem.W.mg_of X G bR);have ep:Rk l.prog w K a base:=YV B b E d2 (PySem.W.mg_of X G bV);have er:Rl l.prog w K a base:=YY B b E d3 (PySem.W.mg_of X G bZ);have es:Pb l.prog w K a base:=YZ B b eo ep er d4 (PySem.W.mg_of X G cd);have et:Rm l.prog w K a base:=Y1 B b d5 (PySem.W.mg_of X G cj);have eu:Rn l.prog w K a base:=Y3 B b et d6 (PySem.W.mg_of X G cn);have ev:Ro l.prog w K a base:=Y5 B b A C D d7 (PySem.W.mg_of X G ct);have ew:Pc l.prog w K a base:=Y7 B b eu ev d8 (PySem.W.mg_of X G cx);have ex:OH l.prog w K a base "may_stand" 7 ["net", "answers", "table", "scope", "state"] [V.int 0] (Pd K):=Y9 cD rfl B b ej ek el es ew d9 (PySem.W.mg_of X G c1) cC;have ey:OI l.prog w K a base "_law_classes" ["_law_e"] (Pe K):=Zc B b dA (PySem.W.mg_of X G cE);have ez:Pf l.prog w K a base:=Ze B b ex ey dB (PySem.W.mg_of X G cI);have e0:Ph l.prog w K a base:=Zi B b dC (PySem.W.mg_of X G cM);have e1:Pj l.prog w K a base:=Zk B b dD (PySem.W.mg_of X G cQ);exact G7 B b dG x eb ed ez e0 e1 dE
def walk{l:PySem.W.OpenLaw}{q:Program}{loose:G'}{XP:(Str->J')->Heap->Prop}{YP:World->Heap->Prop}{d:DefRec}{K:Params->Ah}(g:l.most=some 63)(p:d.params.defaults=[])
 (i:∀(w:World)(h:Heap),YP w h->(K w.params).In h)
 (F:∀(w:World)(b:Str->J')(c:Addr)(h:Heap),(K w.params).In h->h.Ns mainGlobals b->b d.name=some (.ref c) ->
  ∃e:FuncData,(∀(s:Shared)(u:Value),BindsTo s e ⟨[u],[]⟩ [("_law_script",u)])/\∀base:Heap,(K w.params).In base->base.Ns mainGlobals b->Cg l.prog w (K w.params) b base EQ 9 c e ["_law_script"] (NQ (K w.params))) :
 PySem.W.WalkO q loose XP YP l.row.toRowW d [] (λf vs=>PySem.call f vs):=
 L2.HS (n:=63) (k:=9) (x:= "_law_script") (CX:=λ_=>EQ) (sp:=λw=>NQ (K w.params)) g (by decide) p ⟨rfl,by decide,by decide,rfl⟩ i F (λ_ _ a j m _ o=>⟨a,j,rfl,o,m,λ_=>rfl⟩) λ_ _ _ _ _ z=>z
end K67
open PySem PySem.W PyProof.Rows in
theorem PySem.Challenge.cw_namepaths_k67_tangled_gaps_holds : PySem.Challenge.rw_namepaths_k67_tangled_gaps.Holds :=
 K67.hd λK q YP d h1 h2 hY=>K67.walk (l:=PySem.Challenge.rw_namepaths_k67_tangled_gaps) rfl h1 hY λw mg fa h X G hm=>K67.all_mk X G (h2▸hm) (q w)
