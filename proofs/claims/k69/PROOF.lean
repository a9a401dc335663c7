import PyProof.Rows.All
import Wide.All
import OpenK.AllK
import Wide.FinOn
import Lean
import PyProof.EqAt
import PyProof.EqKinds
import PyProof.TupleCall
import PySem.Challenge.RW_namepaths_k69_named_anew_along_a_row
set_option Elab.async false
set_option linter.all false
set_option maxRecDepth 100000
set_option compiler.extract_closed false
set_option maxHeartbeats 1000000
noncomputable section
local macro_rules|`(def $n $s:optDeclSig $v:declVal)=>`(noncomputable def $n $s:optDeclSig $v:declVal)
abbrev Ah:=PySem.W.Frag
def Al:=@List.length_map
def AQ:=@List.getElem?_eq_getElem
def BC:=@List.length_append
def By:=@List.map_append
def AS:=@List.getElem?_eq_some_iff
def EJ:=@List.mem_append
def AV:=@List.getElem?_map
def CB:=@List.mem_of_getElem?
def Bo:=@List.mem_map
def D7:=@List.mem_singleton
def BX:=@List.size_toArray
def Ea:=@List.mem_cons_self
def Cj:=@List.mem_cons
def Eb:=@List.mem_append_right
def Ec:=@List.map_cons
def DL:=@List.mem_cons_of_mem
def BZ:=@List.getD_eq_getElem?_getD
def FK:=@List.take_succ
def Jz:=@List.take_length
def DH:=@List.getElem?_append_left
def Ff:=@List.length_singleton
def Di:=@List.getElem_mem
def DM:=@List.length_take
def DI:=@List.map_map
def DJ:=@List.getElem?_append_right
def IW:=@List.take_zero
def Ht:=@List.mem_append_left
def EU:=@List.length_cons
def DN:=@List.nodup_cons
def Dj:=@List.length_set
def JA:=@List.append_assoc
def IX:=@List.length_drop
def MN:=@List.mem_iff_getElem
def Ft:=@List.append_nil
def LK:=@List.lookup_cons
def Gg:=@List.getElem?_eq_none
def PL:=@List.drop_eq_getElem_cons
def Hu:=@List.length_nil
def LL:=@List.map_nil
def PM:=@List.map_take
def Oj:=@List.any_eq_true
def LM:=@List.find?_cons
def CD:=@Option.map_eq_some_iff
def AB:=@Nat.le_refl
def EV:=@Nat.lt_irrefl
def Dk:=@Nat.le_of_lt
def CF:=@Nat.ne_of_lt
def Ol:=@Nat.lt_succ_self
def B8:=@Nat.zero_le
def Hf:=@Int.emod_lt_of_pos
def Hg:=@Int.emod_nonneg
def PP:=@Int.eq_ofNat_of_zero_le
def Ex:=@Int.toNat_natCast
def Ca:=@decide_eq_true
def BM:=@decide_eq_false
def FL:=@of_decide_eq_true
def DC:=@PySem.F.plainAttrs_list
def Ej:=@PySem.F.slot_list_append
def Ek:=@PySem.F.type_list_append
def CP:=@Bool.false_ne_true
def Hv:=@Nat.le_of_ble_eq_true
def Ce:=@Option.some.inj
def AA:=@if_neg
def AC:=@if_pos
def EK:=@Nat.lt_of_lt_of_le
def Fg:=@Nat.le_trans
def Gh:=@Bool.false_eq_true
def PQ:=@List.filterMap_cons
def DK:=@congrArg
section
open PySem PySem.Spec PyProof.Rows
def w4:=@List.getElem?_set_self
def v':=@Around.under_plainId
def v9:=@Nat.lt_or_ge
def v8:=@Heap.SameBut.update
def v7:=@Heap.get?_update_self
def v5:=@List.ext_getElem?
def u8:=@List.getElem?_set_ne
def u4:=@Heap.size_push
def u0:=@Array.getD_eq_getD_getElem?
def t0:=@Classical.byContradiction
def s':=@List.getElem?_range
def s0:=@List.length_replicate
def r9:=@List.length_range
def r6:=@Or.inr
def r4:=@Or.inl
def Ag:=@wpAny_bind
def AH:=@wpAny_pure
def EL:=@wpAny_holding
def Ey:=@wpAny_truthy_bool
def Bb:=@Heap.get?_push_of_some
def AY:=@Heap.lt_size
def Cf:=@Heap.get?_push_size
def Bl:=@PassesOwn.never
def E4:=@PySem.W.mg_none_of
def Fh:=@PySem.mem_of_lookup
def MO:=@wpAny_typeOf
def E5:=@wpAny_mono
def FM:=@wpAny_seqItems
def IY:=@wpAny_rule
end
noncomputable section
noncomputable def PySem.W.Fast.tw15875536754708299755:PySem.Program:=PySem.Challenge.pw_namepaths_k69_named_anew_along_a_row
theorem PySem.W.Fast.te15875536754708299755:PySem.Challenge.pw_namepaths_k69_named_anew_along_a_row=PySem.W.Fast.tw15875536754708299755:=rfl
namespace L2
open PySem PySem.Spec PyProof.Rows
noncomputable def A4 (s:Stmt):Arguments:=match s with
 |.FunctionDef _ a _ _ _ _ _ _ _ _=>a
 |_=>{posonlyargs:=[],args:=[],vararg:=none,kwonlyargs:=[],kw_defaults:=[],kwarg:=none,defaults:=[]}
noncomputable def A2 (s:Stmt):List Stmt:=match s with
 |.FunctionDef _ _ b _ _ _ _ _ _ _=>b
 |_=>[]
noncomputable def As (s:Stmt):Scope:=match s with
 |.FunctionDef _ _ _ _ _ _ sc _ _ _=>sc
 |_=>{kind:=.function,names:=[],isGenerator:=false,isCoroutine:=false}
section
open PySem.W PySem.W.Fast
noncomputable def Hw (p:Program) (w:World) (m₀:Nat) (ann:Option Value):Nat->SharedT->Thread->Option SharedT
 |0,_,_=>none
 | n + 1,s,t=>match through t with
   |true=>some s
   |false=>match tw6613529449190102663 m₀ ann t with
     |false=>none
     |true=>match tw10156331382660048174 (tw11892475500146522536 tw14364793385576792824) p w s t with
       |some (Z,t')=>Hw p w m₀ ann n Z t'
       |none=>none
theorem RY{p:Program}{w:World}{a:Nat}{c:Option Value}:∀{n:Nat}{s:SharedT}{t:Thread}{r:SharedT},Hw p w a c n s t=some r->topRun treeTable p w a c n s.abs t=some r.abs
 |0,_,_,_,h=>by cases h
 | n + 1,s,t,r,h=>by
   unfold Hw at h;unfold topRun;rw[<-te6613529449190102663,<-te10156331382660048174,<-te11892475500146522536,<-te14364793385576792824] at h
   cases d:through t with
   |true=>rw[d] at h;cases h;rfl
   |false=>
    rw[d] at h
    cases e:stepOk a c t with
    |false=>rw[e] at h;cases h
    |true=>
     rw[e] at h;cases b:stepT (denote treeTable) p w s t with|none=>rw[b] at h;cases h|some x=>obtain⟨f,g⟩:=x;rw[b] at h;rw[stepT_spec b];exact RY h
noncomputable def Gi:List Obj->Nat->BT->BT
 |[],_,t=>t
 |o::l,n,t=>Gi l (n+1) (t.ins n o)
noncomputable def RZ (w:World) (os:OsState):SharedT:=⟨Gi (boot_heap w.params).objs.toList 0 .nil,11,(boot_heap w.params).life,Array.mk [],boot_drawn,boot_toks,os⟩
def Um(w:World)(a:OsState):(RZ w a).abs=⟨boot_heap w.params,Array.mk [],boot_drawn,boot_toks,a⟩:=by kernel_rfl
def Hx(w:World):((boot_heap w.params).isNs mainGlobals && (Array.mk ([]:List GenState)).size==0,(boot_heap w.params).objs.size,(boot_heap w.params).nsMap mainGlobals "__annotations__")=(true,11,some (Value.ref 6)):=by kernel_rfl
noncomputable def runC (p:Program) (w:World) (os:OsState):Option Shared:=(Hw p w 11 (some (Value.ref 6)) 40000 (RZ w os) (topStub p)).bind λr=>match staticsOk (tw5923862056798008813 p.main.body) (boot_heap w.params) r.abs.heap && namesBound p r.abs.heap && gensDone r.abs && laidKept (boot_heap w.params) r.abs.heap with
 |true=>some r.abs
 |false=>none
def Uo{p q:Program}{loose:List Str}{Xt:Shared->Bool}{α:Type}{Yf:Shared->α}{Ya:World->α}(e:opening p=plainProg p.main.scope.names)(f:∀s,fenceModules? p s=some s)
 (A:∀(w:World)(c:OsState),Option.map (λs=>tw4187177175401517315 q loose (tw5923862056798008813 p.main.body) Xt true s) (runC p w c)=some (openGood q loose))
 (B:∀(w:World)(c:OsState),Option.map Yf (runC p w c)=some (Ya w)):LeftO p q loose Xt Yf Ya 40000:=by
 intro w;obtain⟨⟨h,j,d,k,c⟩,l,m⟩:=CD.mp (boot_open (N:=40000) e (Eq.refl true) f w);obtain⟨rfl,rfl,rfl,rfl⟩:h=boot_heap w.params/\j=Array.mk []/\d=boot_drawn/\k=boot_toks:=by simpa using m
 obtain⟨n,o,u⟩:_/\_/\_:=by simpa only[Prod.mk.injEq] using Hx w
 have a:=A w c;have b:=B w c;obtain⟨v,g,i⟩:=CD.mp a;rw[g] at b;have x:=Ce b;unfold runC at g;rw[<-te5923862056798008813] at g;rw[<-te4187177175401517315,<-te5923862056798008813] at i;obtain⟨C,y,z⟩:=Option.bind_eq_some_iff.mp g;have r:=RY y;rw[Um w c] at r;have t:topFrom treeTable p w 40000 ⟨boot_heap w.params,Array.mk [],boot_drawn,boot_toks,c⟩=some v:=(by unfold topFrom;dsimp only;rw[n,o,u,r];exact z);unfold openEnds;rw[l];show(topFrom treeTable p w 40000 _).map _=_;rw[t];exact DK some (Prod.ext i x)
end
end L2
namespace K69
open PySem PySem.Spec PyProof.Rows PySem.W L2
noncomputable def top (i:Nat):Stmt:=PySem.Challenge.pw_namepaths_k69_named_anew_along_a_row.main.body.getD i (.Pass ⟨0,0,0,0⟩)
abbrev LN:Stmt:=top 104
abbrev LO:Stmt:=top 105
abbrev LP:Stmt:=top 107
abbrev JB:Stmt:=top 53
abbrev JC:Stmt:=top 58
abbrev LQ:Stmt:=top 57
abbrev JD:Stmt:=top 18
abbrev JE:Stmt:=top 55
abbrev LR:Stmt:=top 17
abbrev LS:Stmt:=top 19
abbrev JF:Stmt:=top 59
abbrev LU:Stmt:=top 62
abbrev LV:Stmt:=top 61
abbrev LW:Stmt:=top 43
abbrev LX:Stmt:=top 44
abbrev LY:Stmt:=top 42
abbrev LZ:Stmt:=top 40
abbrev JG:Stmt:=top 63
abbrev JH:Stmt:=top 50
abbrev L0:Stmt:=top 109
abbrev JI:Stmt:=top 108
abbrev L3:Stmt:=top 110
abbrev L4:Stmt:=top 99
abbrev L5:Stmt:=top 51
abbrev L6:Stmt:=top 13
abbrev L7:Stmt:=top 70
abbrev JJ:Stmt:=top 69
abbrev L8:Stmt:=top 66
abbrev L9:Stmt:=top 52
abbrev Ma:Stmt:=top 67
abbrev JK:Stmt:=top 73
abbrev Mb:Stmt:=top 74
abbrev Mc:Stmt:=top 28
abbrev Md:Stmt:=top 75
abbrev JL:Stmt:=top 72
abbrev Me:Stmt:=top 78
abbrev Mf:Stmt:=top 80
abbrev Mg:Stmt:=top 29
abbrev Mh:Stmt:=top 81
abbrev Mi:Stmt:=top 82
abbrev Hy:Stmt:=top 79
abbrev Mj:Stmt:=top 68
abbrev Mk:Stmt:=top 12
abbrev Ml:Stmt:=top 77
abbrev Mm:Stmt:=top 94
abbrev Mn:Stmt:=top 96
abbrev Hz:Stmt:=top 93
abbrev Mo:Stmt:=top 92
abbrev JM:Stmt:=top 84
abbrev JN:Stmt:=top 100
abbrev JO:Stmt:=top 102
abbrev Mp:Stmt:=top 32
abbrev JP:Stmt:=top 30
abbrev Mq:Stmt:=top 35
abbrev JQ:Stmt:=top 33
abbrev Mr:Stmt:=top 38
abbrev JR:Stmt:=top 36
abbrev JS:Stmt:=top 27
abbrev IZ:Stmt:=top 101
abbrev Ms:Stmt:=top 98
abbrev HA:Stmt:=top 106
abbrev Gj:Stmt:=top 111
noncomputable def own:List Nat:=[1,3,4,5,6,7,8,9,10,12,13,14,16,17,18,19,21,22,23,24,25,26,27,28,29,31,32,34,35,37,38,40,41,42,43,44,46,47,48,49,50,51,52,53,54,55,56,57,58,59,60,61,62,63,65,66,67,68,69,70,72,73,74,75,77,78,79,80,81,82,84,86,87,88,89,90,92,93,94,95,96,98,99,100,101,102,104,105,106,107,108,109,110,111]
noncomputable def view:Program:=PySem.W.view PySem.Challenge.pw_namepaths_k69_named_anew_along_a_row own
noncomputable abbrev loose:List Str:=["refuse_too_great_nets", "refuse_no_names_nets", "refuse_no_places_nets", "refuse_too_great_tables", "refuse_no_names_tables", "refuse_no_places_tables"]
theorem Gk:opening PySem.Challenge.pw_namepaths_k69_named_anew_along_a_row=plainProg (PySem.Challenge.pw_namepaths_k69_named_anew_along_a_row).main.scope.names:=by kernel_rfl
theorem FN(s:Shared):fenceModules? PySem.Challenge.pw_namepaths_k69_named_anew_along_a_row s=some s:=by kernel_rfl
inductive Fu (K:Ah):Prop where
 |mk
   {f0:Addr} {od0 an0:Option Addr} {sl0:Array (Option Value)} {oc0 kV0 dc0 pm0 cd0 ct0:Value}
   {f1:Addr} {od1 an1:Option Addr} {sl1:Array (Option Value)} {oc1 kV1 dc1 pm1 cd1 ct1:Value}
   {f2:Addr} {od2 an2:Option Addr} {sl2:Array (Option Value)} {oc2 kV2 dc2 pm2 cd2 ct2:Value}
   {f3:Addr} {od3 an3:Option Addr} {sl3:Array (Option Value)} {oc3 kV3 dc3 pm3 cd3 ct3:Value}
   {f4:Addr} {od4 an4:Option Addr} {sl4:Array (Option Value)} {oc4 kV4 dc4 pm4 cd4 ct4:Value}
   {f5:Addr} {od5 an5:Option Addr} {sl5:Array (Option Value)} {oc5 kV5 dc5 pm5 cd5 ct5:Value}
   {f6:Addr} {od6 an6:Option Addr} {sl6:Array (Option Value)} {oc6 kV6 dc6 pm6 cd6 ct6:Value}
   {f7:Addr} {od7 an7:Option Addr} {sl7:Array (Option Value)} {oc7 kV7 dc7 pm7 cd7 ct7:Value}
   {f8:Addr} {od8 an8:Option Addr} {sl8:Array (Option Value)} {oc8 kV8 dc8 pm8 cd8 ct8:Value}
   {f9:Addr} {od9 an9:Option Addr} {sl9:Array (Option Value)} {oc9 kV9 dc9 pm9 cd9 ct9:Value}
   {f10:Addr} {od10 an10:Option Addr} {sl10:Array (Option Value)} {oc10 kV10 dc10 pm10 cd10 ct10:Value}
   {f11:Addr} {od11 an11:Option Addr} {sl11:Array (Option Value)} {oc11 kV11 dc11 pm11 cd11 ct11:Value}
   {f12:Addr} {od12 an12:Option Addr} {sl12:Array (Option Value)} {oc12 kV12 dc12 pm12 cd12 ct12:Value}
   {f13:Addr} {od13 an13:Option Addr} {sl13:Array (Option Value)} {oc13 kV13 dc13 pm13 cd13 ct13:Value}
   {f14:Addr} {od14 an14:Option Addr} {sl14:Array (Option Value)} {oc14 kV14 dc14 pm14 cd14 ct14:Value}
   {f15:Addr} {od15 an15:Option Addr} {sl15:Array (Option Value)} {oc15 kV15 dc15 pm15 cd15 ct15:Value}
   {f16:Addr} {od16 an16:Option Addr} {sl16:Array (Option Value)} {oc16 kV16 dc16 pm16 cd16 ct16:Value}
   {f17:Addr} {od17 an17:Option Addr} {sl17:Array (Option Value)} {oc17 kV17 dc17 pm17 cd17 ct17:Value}
   {f18:Addr} {od18 an18:Option Addr} {sl18:Array (Option Value)} {oc18 kV18 dc18 pm18 cd18 ct18:Value}
   {f19:Addr} {od19 an19:Option Addr} {sl19:Array (Option Value)} {oc19 kV19 dc19 pm19 cd19 ct19:Value}
   {f20:Addr} {od20 an20:Option Addr} {sl20:Array (Option Value)} {oc20 kV20 dc20 pm20 cd20 ct20:Value}
   {f21:Addr} {od21 an21:Option Addr} {sl21:Array (Option Value)} {oc21 kV21 dc21 pm21 cd21 ct21:Value}
   {f22:Addr} {od22 an22:Option Addr} {sl22:Array (Option Value)} {oc22 kV22 dc22 pm22 cd22 ct22:Value}
   {f23:Addr} {od23 an23:Option Addr} {sl23:Array (Option Value)} {oc23 kV23 dc23 pm23 cd23 ct23:Value}
   {f24:Addr} {od24 an24:Option Addr} {sl24:Array (Option Value)} {oc24 kV24 dc24 pm24 cd24 ct24:Value}
   {f25:Addr} {od25 an25:Option Addr} {sl25:Array (Option Value)} {oc25 kV25 dc25 pm25 cd25 ct25:Value}
   {f26:Addr} {od26 an26:Option Addr} {sl26:Array (Option Value)} {oc26 kV26 dc26 pm26 cd26 ct26:Value}
   {f27:Addr} {od27 an27:Option Addr} {sl27:Array (Option Value)} {oc27 kV27 dc27 pm27 cd27 ct27:Value}
   {f28:Addr} {od28 an28:Option Addr} {sl28:Array (Option Value)} {oc28 kV28 dc28 pm28 cd28 ct28:Value}
   {f29:Addr} {od29 an29:Option Addr} {sl29:Array (Option Value)} {oc29 kV29 dc29 pm29 cd29 ct29:Value}
   {f30:Addr} {od30 an30:Option Addr} {sl30:Array (Option Value)} {oc30 kV30 dc30 pm30 cd30 ct30:Value}
   {f31:Addr} {od31 an31:Option Addr} {sl31:Array (Option Value)} {oc31 kV31 dc31 pm31 cd31 ct31:Value}
   {f32:Addr} {od32 an32:Option Addr} {sl32:Array (Option Value)} {oc32 kV32 dc32 pm32 cd32 ct32:Value}
   {f33:Addr} {od33 an33:Option Addr} {sl33:Array (Option Value)} {oc33 kV33 dc33 pm33 cd33 ct33:Value}
   {f34:Addr} {od34 an34:Option Addr} {sl34:Array (Option Value)} {oc34 kV34 dc34 pm34 cd34 ct34:Value}
   {f35:Addr} {od35 an35:Option Addr} {sl35:Array (Option Value)} {oc35 kV35 dc35 pm35 cd35 ct35:Value}
   {f36:Addr} {od36 an36:Option Addr} {sl36:Array (Option Value)} {oc36 kV36 dc36 pm36 cd36 ct36:Value}
   {f37:Addr} {od37 an37:Option Addr} {sl37:Array (Option Value)} {oc37 kV37 dc37 pm37 cd37 ct37:Value}
   {f38:Addr} {od38 an38:Option Addr} {sl38:Array (Option Value)} {oc38 kV38 dc38 pm38 cd38 ct38:Value}
   {f39:Addr} {od39 an39:Option Addr} {sl39:Array (Option Value)} {oc39 kV39 dc39 pm39 cd39 ct39:Value}
   {f40:Addr} {od40 an40:Option Addr} {sl40:Array (Option Value)} {oc40 kV40 dc40 pm40 cd40 ct40:Value}
   {f41:Addr} {od41 an41:Option Addr} {sl41:Array (Option Value)} {oc41 kV41 dc41 pm41 cd41 ct41:Value}
   {f42:Addr} {od42 an42:Option Addr} {sl42:Array (Option Value)} {oc42 kV42 dc42 pm42 cd42 ct42:Value}
   {f43:Addr} {od43 an43:Option Addr} {sl43:Array (Option Value)} {oc43 kV43 dc43 pm43 cd43 ct43:Value}
   {f44:Addr} {od44 an44:Option Addr} {sl44:Array (Option Value)} {oc44 kV44 dc44 pm44 cd44 ct44:Value}
   {f45:Addr} {od45 an45:Option Addr} {sl45:Array (Option Value)} {oc45 kV45 dc45 pm45 cd45 ct45:Value}
   {f46:Addr} {od46 an46:Option Addr} {sl46:Array (Option Value)} {oc46 kV46 dc46 pm46 cd46 ct46:Value}
   {f47:Addr} {od47 an47:Option Addr} {sl47:Array (Option Value)} {oc47 kV47 dc47 pm47 cd47 ct47:Value}
   {f48:Addr} {od48 an48:Option Addr} {sl48:Array (Option Value)} {oc48 kV48 dc48 pm48 cd48 ct48:Value}
   {f49:Addr} {od49 an49:Option Addr} {sl49:Array (Option Value)} {oc49 kV49 dc49 pm49 cd49 ct49:Value}
   {f50:Addr} {od50 an50:Option Addr} {sl50:Array (Option Value)} {oc50 kV50 dc50 pm50 cd50 ct50:Value}
   {f51:Addr} {od51 an51:Option Addr} {sl51:Array (Option Value)} {oc51 kV51 dc51 pm51 cd51 ct51:Value}
   {f52:Addr} {od52 an52:Option Addr} {sl52:Array (Option Value)} {oc52 kV52 dc52 pm52 cd52 ct52:Value}
   {f53:Addr} {od53 an53:Option Addr} {sl53:Array (Option Value)} {oc53 kV53 dc53 pm53 cd53 ct53:Value}
   {f54:Addr} {od54 an54:Option Addr} {sl54:Array (Option Value)} {oc54 kV54 dc54 pm54 cd54 ct54:Value}
   {f55:Addr} {od55 an55:Option Addr} {sl55:Array (Option Value)} {oc55 kV55 dc55 pm55 cd55 ct55:Value}
   {f56:Addr} {od56 an56:Option Addr} {sl56:Array (Option Value)} {oc56 kV56 dc56 pm56 cd56 ct56:Value}
   {f57:Addr} {od57 an57:Option Addr} {sl57:Array (Option Value)} {oc57 kV57 dc57 pm57 cd57 ct57:Value}
   {f58:Addr} {od58 an58:Option Addr} {sl58:Array (Option Value)} {oc58 kV58 dc58 pm58 cd58 ct58:Value}
   {f59:Addr} {od59 an59:Option Addr} {sl59:Array (Option Value)} {oc59 kV59 dc59 pm59 cd59 ct59:Value}
   {f60:Addr} {od60 an60:Option Addr} {sl60:Array (Option Value)} {oc60 kV60 dc60 pm60 cd60 ct60:Value}
   {f61:Addr} {od61 an61:Option Addr} {sl61:Array (Option Value)} {oc61 kV61 dc61 pm61 cd61 ct61:Value}
   {tc_LONGEST_NAME:Tok}
   {tc_LONGEST_PATH:Tok}
   {tc_MOST_BEGINNINGS:Tok}
   {tc_MOST_ENDS:Tok}
   {tc_MOST_GOES:Tok}
   {tc_MOST_PAIRS:Tok}
   {tc_MOST_QUESTIONS:Tok}
   {tc_MOST_SCOPES:Tok}
   {tc_MOST_STATES:Tok}
   {tc_MOST_STEPS:Tok}
   {tc_MOST_TELLINGS:Tok}
   {tc_MOST_THINGS:Tok}
   (a0:PySem.W.nsIn K mainGlobals "_law_cell_at" = some (some (.ref f0))) (l0:K.lookup f0=some ⟨oc0,od0,.func (PySem.W.fnOf "_law_cell_at" "_law_cell_at" (A4 LN) (A2 LN) (As LN) .none kV0 dc0 pm0 an0 cd0 ct0),sl0⟩) (c0:PySem.W.codeIn K cd0 "_law_cell_at" = true) (k0:PySem.W.keepIn K (.ref f0)=true)
   (a1:PySem.W.nsIn K mainGlobals "_law_mix" = some (some (.ref f1))) (l1:K.lookup f1=some ⟨oc1,od1,.func (PySem.W.fnOf "_law_mix" "_law_mix" (A4 LO) (A2 LO) (As LO) .none kV1 dc1 pm1 an1 cd1 ct1),sl1⟩) (c1:PySem.W.codeIn K cd1 "_law_mix" = true) (k1:PySem.W.keepIn K (.ref f1)=true)
   (a2:PySem.W.nsIn K mainGlobals "_law_words" = some (some (.ref f2))) (l2:K.lookup f2=some ⟨oc2,od2,.func (PySem.W.fnOf "_law_words" "_law_words" (A4 LP) (A2 LP) (As LP) .none kV2 dc2 pm2 an2 cd2 ct2),sl2⟩) (c2:PySem.W.codeIn K cd2 "_law_words" = true) (k2:PySem.W.keepIn K (.ref f2)=true)
   (a3:PySem.W.nsIn K mainGlobals "refuse_too_great_tables" = some (some (.ref f3))) (l3:K.lookup f3=some ⟨oc3,od3,.func (PySem.W.fnOf "refuse_too_great" "refuse_too_great" (A4 JB) (A2 JB) (As JB) .none kV3 dc3 pm3 an3 cd3 ct3),sl3⟩) (c3:PySem.W.codeIn K cd3 "refuse_too_great" = true) (k3:PySem.W.keepIn K (.ref f3)=true)
   (a4:PySem.W.nsIn K mainGlobals "labels_of" = some (some (.ref f4))) (l4:K.lookup f4=some ⟨oc4,od4,.func (PySem.W.fnOf "labels_of" "labels_of" (A4 JC) (A2 JC) (As JC) .none kV4 dc4 pm4 an4 cd4 ct4),sl4⟩) (c4:PySem.W.codeIn K cd4 "labels_of" = true) (k4:PySem.W.keepIn K (.ref f4)=true)
   (a5:PySem.W.nsIn K mainGlobals "labels_told" = some (some (.ref f5))) (l5:K.lookup f5=some ⟨oc5,od5,.func (PySem.W.fnOf "labels_told" "labels_told" (A4 LQ) (A2 LQ) (As LQ) .none kV5 dc5 pm5 an5 cd5 ct5),sl5⟩) (c5:PySem.W.codeIn K cd5 "labels_told" = true) (k5:PySem.W.keepIn K (.ref f5)=true)
   (a6:PySem.W.nsIn K mainGlobals "is_name" = some (some (.ref f6))) (l6:K.lookup f6=some ⟨oc6,od6,.func (PySem.W.fnOf "is_name" "is_name" (A4 JD) (A2 JD) (As JD) .none kV6 dc6 pm6 an6 cd6 ct6),sl6⟩) (c6:PySem.W.codeIn K cd6 "is_name" = true) (k6:PySem.W.keepIn K (.ref f6)=true)
   (a7:PySem.W.nsIn K mainGlobals "refuse_no_names_tables" = some (some (.ref f7))) (l7:K.lookup f7=some ⟨oc7,od7,.func (PySem.W.fnOf "refuse_no_names" "refuse_no_names" (A4 JE) (A2 JE) (As JE) .none kV7 dc7 pm7 an7 cd7 ct7),sl7⟩) (c7:PySem.W.codeIn K cd7 "refuse_no_names" = true) (k7:PySem.W.keepIn K (.ref f7)=true)
   (a8:PySem.W.nsIn K mainGlobals "is_whole" = some (some (.ref f8))) (l8:K.lookup f8=some ⟨oc8,od8,.func (PySem.W.fnOf "is_whole" "is_whole" (A4 LR) (A2 LR) (As LR) .none kV8 dc8 pm8 an8 cd8 ct8),sl8⟩) (c8:PySem.W.codeIn K cd8 "is_whole" = true) (k8:PySem.W.keepIn K (.ref f8)=true)
   (a9:PySem.W.nsIn K mainGlobals "is_place" = some (some (.ref f9))) (l9:K.lookup f9=some ⟨oc9,od9,.func (PySem.W.fnOf "is_place" "is_place" (A4 LS) (A2 LS) (As LS) .none kV9 dc9 pm9 an9 cd9 ct9),sl9⟩) (c9:PySem.W.codeIn K cd9 "is_place" = true) (k9:PySem.W.keepIn K (.ref f9)=true)
   (a10:PySem.W.nsIn K mainGlobals "refuse_no_places_tables" = some (some (.ref f10))) (l10:K.lookup f10=some ⟨oc10,od10,.func (PySem.W.fnOf "refuse_no_places" "refuse_no_places" (A4 JF) (A2 JF) (As JF) .none kV10 dc10 pm10 an10 cd10 ct10),sl10⟩) (c10:PySem.W.codeIn K cd10 "refuse_no_places" = true) (k10:PySem.W.keepIn K (.ref f10)=true)
   (a11:PySem.W.nsIn K mainGlobals "is_one_twice" = some (some (.ref f11))) (l11:K.lookup f11=some ⟨oc11,od11,.func (PySem.W.fnOf "is_one_twice" "is_one_twice" (A4 LU) (A2 LU) (As LU) .none kV11 dc11 pm11 an11 cd11 ct11),sl11⟩) (c11:PySem.W.codeIn K cd11 "is_one_twice" = true) (k11:PySem.W.keepIn K (.ref f11)=true)
   (a12:PySem.W.nsIn K mainGlobals "refuse_twice" = some (some (.ref f12))) (l12:K.lookup f12=some ⟨oc12,od12,.func (PySem.W.fnOf "refuse_twice" "refuse_twice" (A4 LV) (A2 LV) (As LV) .none kV12 dc12 pm12 an12 cd12 ct12),sl12⟩) (c12:PySem.W.codeIn K cd12 "refuse_twice" = true) (k12:PySem.W.keepIn K (.ref f12)=true)
   (a13:PySem.W.nsIn K mainGlobals "worse_by_better" = some (some (.ref f13))) (l13:K.lookup f13=some ⟨oc13,od13,.func (PySem.W.fnOf "worse_by_better" "worse_by_better" (A4 LW) (A2 LW) (As LW) .none kV13 dc13 pm13 an13 cd13 ct13),sl13⟩) (c13:PySem.W.codeIn K cd13 "worse_by_better" = true) (k13:PySem.W.keepIn K (.ref f13)=true)
   (a14:PySem.W.nsIn K mainGlobals "reached" = some (some (.ref f14))) (l14:K.lookup f14=some ⟨oc14,od14,.func (PySem.W.fnOf "reached" "reached" (A4 LX) (A2 LX) (As LX) .none kV14 dc14 pm14 an14 cd14 ct14),sl14⟩) (c14:PySem.W.codeIn K cd14 "reached" = true) (k14:PySem.W.keepIn K (.ref f14)=true)
   (a15:PySem.W.nsIn K mainGlobals "all_that_follows" = some (some (.ref f15))) (l15:K.lookup f15=some ⟨oc15,od15,.func (PySem.W.fnOf "all_that_follows" "all_that_follows" (A4 LY) (A2 LY) (As LY) .none kV15 dc15 pm15 an15 cd15 ct15),sl15⟩) (c15:PySem.W.codeIn K cd15 "all_that_follows" = true) (k15:PySem.W.keepIn K (.ref f15)=true)
   (a16:PySem.W.nsIn K mainGlobals "order_of" = some (some (.ref f16))) (l16:K.lookup f16=some ⟨oc16,od16,.func (PySem.W.fnOf "order_of" "order_of" (A4 LZ) (A2 LZ) (As LZ) .none kV16 dc16 pm16 an16 cd16 ct16),sl16⟩) (c16:PySem.W.codeIn K cd16 "order_of" = true) (k16:PySem.W.keepIn K (.ref f16)=true)
   (a17:PySem.W.nsIn K mainGlobals "sorted_state" = some (some (.ref f17))) (l17:K.lookup f17=some ⟨oc17,od17,.func (PySem.W.fnOf "sorted_state" "sorted_state" (A4 JG) (A2 JG) (As JG) .none kV17 dc17 pm17 an17 cd17 ct17),sl17⟩) (c17:PySem.W.codeIn K cd17 "sorted_state" = true) (k17:PySem.W.keepIn K (.ref f17)=true)
   (a18:PySem.W.nsIn K mainGlobals "table_of" = some (some (.ref f18))) (l18:K.lookup f18=some ⟨oc18,od18,.func (PySem.W.fnOf "table_of" "table_of" (A4 JH) (A2 JH) (As JH) .none kV18 dc18 pm18 an18 cd18 ct18),sl18⟩) (c18:PySem.W.codeIn K cd18 "table_of" = true) (k18:PySem.W.keepIn K (.ref f18)=true)
   (a19:PySem.W.nsIn K mainGlobals "_law_path" = some (some (.ref f19))) (l19:K.lookup f19=some ⟨oc19,od19,.func (PySem.W.fnOf "_law_path" "_law_path" (A4 L0) (A2 L0) (As L0) .none kV19 dc19 pm19 an19 cd19 ct19),sl19⟩) (c19:PySem.W.codeIn K cd19 "_law_path" = true) (k19:PySem.W.keepIn K (.ref f19)=true)
   (a20:PySem.W.nsIn K mainGlobals "_law_copy" = some (some (.ref f20))) (l20:K.lookup f20=some ⟨oc20,od20,.func (PySem.W.fnOf "_law_copy" "_law_copy" (A4 JI) (A2 JI) (As JI) .none kV20 dc20 pm20 an20 cd20 ct20),sl20⟩) (c20:PySem.W.codeIn K cd20 "_law_copy" = true) (k20:PySem.W.keepIn K (.ref f20)=true)
   (a21:PySem.W.nsIn K mainGlobals "_law_named" = some (some (.ref f21))) (l21:K.lookup f21=some ⟨oc21,od21,.func (PySem.W.fnOf "_law_named" "_law_named" (A4 L3) (A2 L3) (As L3) .none kV21 dc21 pm21 an21 cd21 ct21),sl21⟩) (c21:PySem.W.codeIn K cd21 "_law_named" = true) (k21:PySem.W.keepIn K (.ref f21)=true)
   (a22:PySem.W.nsIn K mainGlobals "refuse_no_telling" = some (some (.ref f22))) (l22:K.lookup f22=some ⟨oc22,od22,.func (PySem.W.fnOf "refuse_no_telling" "refuse_no_telling" (A4 L4) (A2 L4) (As L4) .none kV22 dc22 pm22 an22 cd22 ct22),sl22⟩) (c22:PySem.W.codeIn K cd22 "refuse_no_telling" = true) (k22:PySem.W.keepIn K (.ref f22)=true)
   (a23:PySem.W.nsIn K mainGlobals "next_state" = some (some (.ref f23))) (l23:K.lookup f23=some ⟨oc23,od23,.func (PySem.W.fnOf "next_state" "next_state" (A4 L5) (A2 L5) (As L5) .none kV23 dc23 pm23 an23 cd23 ct23),sl23⟩) (c23:PySem.W.codeIn K cd23 "next_state" = true) (k23:PySem.W.keepIn K (.ref f23)=true)
   (a24:PySem.W.nsIn K mainGlobals "goal" = some (some (.ref f24))) (l24:K.lookup f24=some ⟨oc24,od24,.func (PySem.W.fnOf "goal" "goal" (A4 L6) (A2 L6) (As L6) .none kV24 dc24 pm24 an24 cd24 ct24),sl24⟩) (c24:PySem.W.codeIn K cd24 "goal" = true) (k24:PySem.W.keepIn K (.ref f24)=true)
   (a25:PySem.W.nsIn K mainGlobals "steps_gone" = some (some (.ref f25))) (l25:K.lookup f25=some ⟨oc25,od25,.func (PySem.W.fnOf "steps_gone" "steps_gone" (A4 L7) (A2 L7) (As L7) .none kV25 dc25 pm25 an25 cd25 ct25),sl25⟩) (c25:PySem.W.codeIn K cd25 "steps_gone" = true) (k25:PySem.W.keepIn K (.ref f25)=true)
   (a26:PySem.W.nsIn K mainGlobals "longer_by_a_step" = some (some (.ref f26))) (l26:K.lookup f26=some ⟨oc26,od26,.func (PySem.W.fnOf "longer_by_a_step" "longer_by_a_step" (A4 JJ) (A2 JJ) (As JJ) .none kV26 dc26 pm26 an26 cd26 ct26),sl26⟩) (c26:PySem.W.codeIn K cd26 "longer_by_a_step" = true) (k26:PySem.W.keepIn K (.ref f26)=true)
   (a27:PySem.W.nsIn K mainGlobals "beginnings" = some (some (.ref f27))) (l27:K.lookup f27=some ⟨oc27,od27,.func (PySem.W.fnOf "beginnings" "beginnings" (A4 L8) (A2 L8) (As L8) .none kV27 dc27 pm27 an27 cd27 ct27),sl27⟩) (c27:PySem.W.codeIn K cd27 "beginnings" = true) (k27:PySem.W.keepIn K (.ref f27)=true)
   (a28:PySem.W.nsIn K mainGlobals "has_end" = some (some (.ref f28))) (l28:K.lookup f28=some ⟨oc28,od28,.func (PySem.W.fnOf "has_end" "has_end" (A4 L9) (A2 L9) (As L9) .none kV28 dc28 pm28 an28 cd28 ct28),sl28⟩) (c28:PySem.W.codeIn K cd28 "has_end" = true) (k28:PySem.W.keepIn K (.ref f28)=true)
   (a29:PySem.W.nsIn K mainGlobals "found_behind" = some (some (.ref f29))) (l29:K.lookup f29=some ⟨oc29,od29,.func (PySem.W.fnOf "found_behind" "found_behind" (A4 Ma) (A2 Ma) (As Ma) .none kV29 dc29 pm29 an29 cd29 ct29),sl29⟩) (c29:PySem.W.codeIn K cd29 "found_behind" = true) (k29:PySem.W.keepIn K (.ref f29)=true)
   (a30:PySem.W.nsIn K mainGlobals "better_pairs" = some (some (.ref f30))) (l30:K.lookup f30=some ⟨oc30,od30,.func (PySem.W.fnOf "better_pairs" "better_pairs" (A4 JK) (A2 JK) (As JK) .none kV30 dc30 pm30 an30 cd30 ct30),sl30⟩) (c30:PySem.W.codeIn K cd30 "better_pairs" = true) (k30:PySem.W.keepIn K (.ref f30)=true)
   (a31:PySem.W.nsIn K mainGlobals "tree_of" = some (some (.ref f31))) (l31:K.lookup f31=some ⟨oc31,od31,.func (PySem.W.fnOf "tree_of" "tree_of" (A4 Mb) (A2 Mb) (As Mb) .none kV31 dc31 pm31 an31 cd31 ct31),sl31⟩) (c31:PySem.W.codeIn K cd31 "tree_of" = true) (k31:PySem.W.keepIn K (.ref f31)=true)
   (a32:PySem.W.nsIn K mainGlobals "label_at" = some (some (.ref f32))) (l32:K.lookup f32=some ⟨oc32,od32,.func (PySem.W.fnOf "label_at" "label_at" (A4 Mc) (A2 Mc) (As Mc) .none kV32 dc32 pm32 an32 cd32 ct32),sl32⟩) (c32:PySem.W.codeIn K cd32 "label_at" = true) (k32:PySem.W.keepIn K (.ref f32)=true)
   (a33:PySem.W.nsIn K mainGlobals "first_hider" = some (some (.ref f33))) (l33:K.lookup f33=some ⟨oc33,od33,.func (PySem.W.fnOf "first_hider" "first_hider" (A4 Md) (A2 Md) (As Md) .none kV33 dc33 pm33 an33 cd33 ct33),sl33⟩) (c33:PySem.W.codeIn K cd33 "first_hider" = true) (k33:PySem.W.keepIn K (.ref f33)=true)
   (a34:PySem.W.nsIn K mainGlobals "seen_ways" = some (some (.ref f34))) (l34:K.lookup f34=some ⟨oc34,od34,.func (PySem.W.fnOf "seen_ways" "seen_ways" (A4 JL) (A2 JL) (As JL) .none kV34 dc34 pm34 an34 cd34 ct34),sl34⟩) (c34:PySem.W.codeIn K cd34 "seen_ways" = true) (k34:PySem.W.keepIn K (.ref f34)=true)
   (a35:PySem.W.nsIn K mainGlobals "look_for" = some (some (.ref f35))) (l35:K.lookup f35=some ⟨oc35,od35,.func (PySem.W.fnOf "look_for" "look_for" (A4 Me) (A2 Me) (As Me) .none kV35 dc35 pm35 an35 cd35 ct35),sl35⟩) (c35:PySem.W.codeIn K cd35 "look_for" = true) (k35:PySem.W.keepIn K (.ref f35)=true)
   (a36:PySem.W.nsIn K mainGlobals "first_owed" = some (some (.ref f36))) (l36:K.lookup f36=some ⟨oc36,od36,.func (PySem.W.fnOf "first_owed" "first_owed" (A4 Mf) (A2 Mf) (As Mf) .none kV36 dc36 pm36 an36 cd36 ct36),sl36⟩) (c36:PySem.W.codeIn K cd36 "first_owed" = true) (k36:PySem.W.keepIn K (.ref f36)=true)
   (a37:PySem.W.nsIn K mainGlobals "telling_at" = some (some (.ref f37))) (l37:K.lookup f37=some ⟨oc37,od37,.func (PySem.W.fnOf "telling_at" "telling_at" (A4 Mg) (A2 Mg) (As Mg) .none kV37 dc37 pm37 an37 cd37 ct37),sl37⟩) (c37:PySem.W.codeIn K cd37 "telling_at" = true) (k37:PySem.W.keepIn K (.ref f37)=true)
   (a38:PySem.W.nsIn K mainGlobals "first_open" = some (some (.ref f38))) (l38:K.lookup f38=some ⟨oc38,od38,.func (PySem.W.fnOf "first_open" "first_open" (A4 Mh) (A2 Mh) (As Mh) .none kV38 dc38 pm38 an38 cd38 ct38),sl38⟩) (c38:PySem.W.codeIn K cd38 "first_open" = true) (k38:PySem.W.keepIn K (.ref f38)=true)
   (a39:PySem.W.nsIn K mainGlobals "meaning" = some (some (.ref f39))) (l39:K.lookup f39=some ⟨oc39,od39,.func (PySem.W.fnOf "meaning" "meaning" (A4 Mi) (A2 Mi) (As Mi) .none kV39 dc39 pm39 an39 cd39 ct39),sl39⟩) (c39:PySem.W.codeIn K cd39 "meaning" = true) (k39:PySem.W.keepIn K (.ref f39)=true)
   (a40:PySem.W.nsIn K mainGlobals "met" = some (some (.ref f40))) (l40:K.lookup f40=some ⟨oc40,od40,.func (PySem.W.fnOf "met" "met" (A4 Hy) (A2 Hy) (As Hy) .none kV40 dc40 pm40 an40 cd40 ct40),sl40⟩) (c40:PySem.W.codeIn K cd40 "met" = true) (k40:PySem.W.keepIn K (.ref f40)=true)
   (a41:PySem.W.nsIn K mainGlobals "owed_behind" = some (some (.ref f41))) (l41:K.lookup f41=some ⟨oc41,od41,.func (PySem.W.fnOf "owed_behind" "owed_behind" (A4 Mj) (A2 Mj) (As Mj) .none kV41 dc41 pm41 an41 cd41 ct41),sl41⟩) (c41:PySem.W.codeIn K cd41 "owed_behind" = true) (k41:PySem.W.keepIn K (.ref f41)=true)
   (a42:PySem.W.nsIn K mainGlobals "inside" = some (some (.ref f42))) (l42:K.lookup f42=some ⟨oc42,od42,.func (PySem.W.fnOf "inside" "inside" (A4 Mk) (A2 Mk) (As Mk) .none kV42 dc42 pm42 an42 cd42 ct42),sl42⟩) (c42:PySem.W.codeIn K cd42 "inside" = true) (k42:PySem.W.keepIn K (.ref f42)=true)
   (a43:PySem.W.nsIn K mainGlobals "look_up" = some (some (.ref f43))) (l43:K.lookup f43=some ⟨oc43,od43,.func (PySem.W.fnOf "look_up" "look_up" (A4 Ml) (A2 Ml) (As Ml) .none kV43 dc43 pm43 an43 cd43 ct43),sl43⟩) (c43:PySem.W.codeIn K cd43 "look_up" = true) (k43:PySem.W.keepIn K (.ref f43)=true)
   (a44:PySem.W.nsIn K mainGlobals "found_in_turn" = some (some (.ref f44))) (l44:K.lookup f44=some ⟨oc44,od44,.func (PySem.W.fnOf "found_in_turn" "found_in_turn" (A4 Mm) (A2 Mm) (As Mm) .none kV44 dc44 pm44 an44 cd44 ct44),sl44⟩) (c44:PySem.W.codeIn K cd44 "found_in_turn" = true) (k44:PySem.W.keepIn K (.ref f44)=true)
   (a45:PySem.W.nsIn K mainGlobals "refuse_tangled" = some (some (.ref f45))) (l45:K.lookup f45=some ⟨oc45,od45,.func (PySem.W.fnOf "refuse_tangled" "refuse_tangled" (A4 Mn) (A2 Mn) (As Mn) .none kV45 dc45 pm45 an45 cd45 ct45),sl45⟩) (c45:PySem.W.codeIn K cd45 "refuse_tangled" = true) (k45:PySem.W.keepIn K (.ref f45)=true)
   (a46:PySem.W.nsIn K mainGlobals "settled" = some (some (.ref f46))) (l46:K.lookup f46=some ⟨oc46,od46,.func (PySem.W.fnOf "settled" "settled" (A4 Hz) (A2 Hz) (As Hz) .none kV46 dc46 pm46 an46 cd46 ct46),sl46⟩) (c46:PySem.W.codeIn K cd46 "settled" = true) (k46:PySem.W.keepIn K (.ref f46)=true)
   (a47:PySem.W.nsIn K mainGlobals "still" = some (some (.ref f47))) (l47:K.lookup f47=some ⟨oc47,od47,.func (PySem.W.fnOf "still" "still" (A4 Mo) (A2 Mo) (As Mo) .none kV47 dc47 pm47 an47 cd47 ct47),sl47⟩) (c47:PySem.W.codeIn K cd47 "still" = true) (k47:PySem.W.keepIn K (.ref f47)=true)
   (a48:PySem.W.nsIn K mainGlobals "trail" = some (some (.ref f48))) (l48:K.lookup f48=some ⟨oc48,od48,.func (PySem.W.fnOf "trail" "trail" (A4 JM) (A2 JM) (As JM) .none kV48 dc48 pm48 an48 cd48 ct48),sl48⟩) (c48:PySem.W.codeIn K cd48 "trail" = true) (k48:PySem.W.keepIn K (.ref f48)=true)
   (a49:PySem.W.nsIn K mainGlobals "all_trails" = some (some (.ref f49))) (l49:K.lookup f49=some ⟨oc49,od49,.func (PySem.W.fnOf "all_trails" "all_trails" (A4 JN) (A2 JN) (As JN) .none kV49 dc49 pm49 an49 cd49 ct49),sl49⟩) (c49:PySem.W.codeIn K cd49 "all_trails" = true) (k49:PySem.W.keepIn K (.ref f49)=true)
   (a50:PySem.W.nsIn K mainGlobals "path_anew" = some (some (.ref f50))) (l50:K.lookup f50=some ⟨oc50,od50,.func (PySem.W.fnOf "path_anew" "path_anew" (A4 JO) (A2 JO) (As JO) .none kV50 dc50 pm50 an50 cd50 ct50),sl50⟩) (c50:PySem.W.codeIn K cd50 "path_anew" = true) (k50:PySem.W.keepIn K (.ref f50)=true)
   (a51:PySem.W.nsIn K mainGlobals "refuse_more" = some (some (.ref f51))) (l51:K.lookup f51=some ⟨oc51,od51,.func (PySem.W.fnOf "refuse_more" "refuse_more" (A4 Mp) (A2 Mp) (As Mp) .none kV51 dc51 pm51 an51 cd51 ct51),sl51⟩) (c51:PySem.W.codeIn K cd51 "refuse_more" = true) (k51:PySem.W.keepIn K (.ref f51)=true)
   (a52:PySem.W.nsIn K mainGlobals "refuse_too_great_nets" = some (some (.ref f52))) (l52:K.lookup f52=some ⟨oc52,od52,.func (PySem.W.fnOf "refuse_too_great" "refuse_too_great" (A4 JP) (A2 JP) (As JP) .none kV52 dc52 pm52 an52 cd52 ct52),sl52⟩) (c52:PySem.W.codeIn K cd52 "refuse_too_great" = true) (k52:PySem.W.keepIn K (.ref f52)=true)
   (a53:PySem.W.nsIn K mainGlobals "words_told" = some (some (.ref f53))) (l53:K.lookup f53=some ⟨oc53,od53,.func (PySem.W.fnOf "words_told" "words_told" (A4 Mq) (A2 Mq) (As Mq) .none kV53 dc53 pm53 an53 cd53 ct53),sl53⟩) (c53:PySem.W.codeIn K cd53 "words_told" = true) (k53:PySem.W.keepIn K (.ref f53)=true)
   (a54:PySem.W.nsIn K mainGlobals "refuse_no_names_nets" = some (some (.ref f54))) (l54:K.lookup f54=some ⟨oc54,od54,.func (PySem.W.fnOf "refuse_no_names" "refuse_no_names" (A4 JQ) (A2 JQ) (As JQ) .none kV54 dc54 pm54 an54 cd54 ct54),sl54⟩) (c54:PySem.W.codeIn K cd54 "refuse_no_names" = true) (k54:PySem.W.keepIn K (.ref f54)=true)
   (a55:PySem.W.nsIn K mainGlobals "refuse_no_place" = some (some (.ref f55))) (l55:K.lookup f55=some ⟨oc55,od55,.func (PySem.W.fnOf "refuse_no_place" "refuse_no_place" (A4 Mr) (A2 Mr) (As Mr) .none kV55 dc55 pm55 an55 cd55 ct55),sl55⟩) (c55:PySem.W.codeIn K cd55 "refuse_no_place" = true) (k55:PySem.W.keepIn K (.ref f55)=true)
   (a56:PySem.W.nsIn K mainGlobals "refuse_no_places_nets" = some (some (.ref f56))) (l56:K.lookup f56=some ⟨oc56,od56,.func (PySem.W.fnOf "refuse_no_places" "refuse_no_places" (A4 JR) (A2 JR) (As JR) .none kV56 dc56 pm56 an56 cd56 ct56),sl56⟩) (c56:PySem.W.codeIn K cd56 "refuse_no_places" = true) (k56:PySem.W.keepIn K (.ref f56)=true)
   (a57:PySem.W.nsIn K mainGlobals "net_of" = some (some (.ref f57))) (l57:K.lookup f57=some ⟨oc57,od57,.func (PySem.W.fnOf "net_of" "net_of" (A4 JS) (A2 JS) (As JS) .none kV57 dc57 pm57 an57 cd57 ct57),sl57⟩) (c57:PySem.W.codeIn K cd57 "net_of" = true) (k57:PySem.W.keepIn K (.ref f57)=true)
   (a58:PySem.W.nsIn K mainGlobals "named_anew" = some (some (.ref f58))) (l58:K.lookup f58=some ⟨oc58,od58,.func (PySem.W.fnOf "named_anew" "named_anew" (A4 IZ) (A2 IZ) (As IZ) .none kV58 dc58 pm58 an58 cd58 ct58),sl58⟩) (c58:PySem.W.codeIn K cd58 "named_anew" = true) (k58:PySem.W.keepIn K (.ref f58)=true)
   (a59:PySem.W.nsIn K mainGlobals "renamed" = some (some (.ref f59))) (l59:K.lookup f59=some ⟨oc59,od59,.func (PySem.W.fnOf "renamed" "renamed" (A4 Ms) (A2 Ms) (As Ms) .none kV59 dc59 pm59 an59 cd59 ct59),sl59⟩) (c59:PySem.W.codeIn K cd59 "renamed" = true) (k59:PySem.W.keepIn K (.ref f59)=true)
   (a60:PySem.W.nsIn K mainGlobals "_law_alike" = some (some (.ref f60))) (l60:K.lookup f60=some ⟨oc60,od60,.func (PySem.W.fnOf "_law_alike" "_law_alike" (A4 HA) (A2 HA) (As HA) .none kV60 dc60 pm60 an60 cd60 ct60),sl60⟩) (c60:PySem.W.codeIn K cd60 "_law_alike" = true) (k60:PySem.W.keepIn K (.ref f60)=true)
   (a61:PySem.W.nsIn K mainGlobals "law" = some (some (.ref f61))) (l61:K.lookup f61=some ⟨oc61,od61,.func (PySem.W.fnOf "law" "law" (A4 Gj) (A2 Gj) (As Gj) .none kV61 dc61 pm61 an61 cd61 ct61),sl61⟩) (c61:PySem.W.codeIn K cd61 "law" = true) (k61:PySem.W.keepIn K (.ref f61)=true)
   (z_all:PySem.W.nsIn K mainGlobals "all" = some none)
   (z_any:PySem.W.nsIn K mainGlobals "any" = some none)
   (z_bool:PySem.W.nsIn K mainGlobals "bool" = some none)
   (z_dict:PySem.W.nsIn K mainGlobals "dict" = some none)
   (z_enumerate:PySem.W.nsIn K mainGlobals "enumerate" = some none)
   (z_int:PySem.W.nsIn K mainGlobals "int" = some none)
   (z_isinstance:PySem.W.nsIn K mainGlobals "isinstance" = some none)
   (z_len:PySem.W.nsIn K mainGlobals "len" = some none)
   (z_list:PySem.W.nsIn K mainGlobals "list" = some none)
   (z_min:PySem.W.nsIn K mainGlobals "min" = some none)
   (z_range:PySem.W.nsIn K mainGlobals "range" = some none)
   (z_set:PySem.W.nsIn K mainGlobals "set" = some none)
   (z_sorted:PySem.W.nsIn K mainGlobals "sorted" = some none)
   (z_str:PySem.W.nsIn K mainGlobals "str" = some none)
   (z_tuple:PySem.W.nsIn K mainGlobals "tuple" = some none)
   (z_zip:PySem.W.nsIn K mainGlobals "zip" = some none)
   (y_LONGEST_NAME:PySem.W.nsIn K mainGlobals "LONGEST_NAME" = some (some (.int 8 tc_LONGEST_NAME)))
   (y_LONGEST_PATH:PySem.W.nsIn K mainGlobals "LONGEST_PATH" = some (some (.int 6 tc_LONGEST_PATH)))
   (y_MOST_BEGINNINGS:PySem.W.nsIn K mainGlobals "MOST_BEGINNINGS" = some (some (.int 200 tc_MOST_BEGINNINGS)))
   (y_MOST_ENDS:PySem.W.nsIn K mainGlobals "MOST_ENDS" = some (some (.int 8 tc_MOST_ENDS)))
   (y_MOST_GOES:PySem.W.nsIn K mainGlobals "MOST_GOES" = some (some (.int 8 tc_MOST_GOES)))
   (y_MOST_PAIRS:PySem.W.nsIn K mainGlobals "MOST_PAIRS" = some (some (.int 40 tc_MOST_PAIRS)))
   (y_MOST_QUESTIONS:PySem.W.nsIn K mainGlobals "MOST_QUESTIONS" = some (some (.int 60 tc_MOST_QUESTIONS)))
   (y_MOST_SCOPES:PySem.W.nsIn K mainGlobals "MOST_SCOPES" = some (some (.int 40 tc_MOST_SCOPES)))
   (y_MOST_STATES:PySem.W.nsIn K mainGlobals "MOST_STATES" = some (some (.int 8 tc_MOST_STATES)))
   (y_MOST_STEPS:PySem.W.nsIn K mainGlobals "MOST_STEPS" = some (some (.int 8 tc_MOST_STEPS)))
   (y_MOST_TELLINGS:PySem.W.nsIn K mainGlobals "MOST_TELLINGS" = some (some (.int 12 tc_MOST_TELLINGS)))
   (y_MOST_THINGS:PySem.W.nsIn K mainGlobals "MOST_THINGS" = some (some (.int 80 tc_MOST_THINGS)))
   (hn0:PySem.W.specialIn K (.builtin "object.__class__") "__get__" = some (some (.builtin "getset_descriptor.__get__"))) (ht0:PySem.W.takesIn K (.builtin "object.__class__")=some true)
   : Fu K
theorem Up(w:World)(a:OsState):Option.map (λs=>(Fast.tw4187177175401517315 view loose (Fast.tw5923862056798008813 PySem.Challenge.pw_namepaths_k69_named_anew_along_a_row.main.body) (λs=>xlAt view [] s && recOk [] s) true s).1) (runC PySem.Challenge.pw_namepaths_k69_named_anew_along_a_row w a)=some (expectedOf view):=by kernel_rfl
theorem Uq(w:World)(a:OsState):Option.map (λs=>((Fast.tw4187177175401517315 view loose (Fast.tw5923862056798008813 PySem.Challenge.pw_namepaths_k69_named_anew_along_a_row.main.body) (λs=>xlAt view [] s && recOk [] s) true s).2.1,(Fast.tw4187177175401517315 view loose (Fast.tw5923862056798008813 PySem.Challenge.pw_namepaths_k69_named_anew_along_a_row.main.body) (λs=>xlAt view [] s && recOk [] s) true s).2.2.2.1)) (runC PySem.Challenge.pw_namepaths_k69_named_anew_along_a_row w a)=some (bltViewBooted,true):=by kernel_rfl
theorem Ur(w:World)(a:OsState):Option.map (λs=>(Fast.tw4187177175401517315 view loose (Fast.tw5923862056798008813 PySem.Challenge.pw_namepaths_k69_named_anew_along_a_row.main.body) (λs=>xlAt view [] s && recOk [] s) true s).2.2.1) (runC PySem.Challenge.pw_namepaths_k69_named_anew_along_a_row w a)=some true:=by kernel_rfl
theorem Us(w:World)(a:OsState):Option.map (λs=>(Fast.tw4187177175401517315 view loose (Fast.tw5923862056798008813 PySem.Challenge.pw_namepaths_k69_named_anew_along_a_row.main.body) (λs=>xlAt view [] s && recOk [] s) true s).2.2.2.2.1) (runC PySem.Challenge.pw_namepaths_k69_named_anew_along_a_row w a)=some (pinGoodD (drecsOf view)):=by kernel_rfl
theorem Ut(w:World)(a:OsState):Option.map (λs=>(Fast.tw4187177175401517315 view loose (Fast.tw5923862056798008813 PySem.Challenge.pw_namepaths_k69_named_anew_along_a_row.main.body) (λs=>xlAt view [] s && recOk [] s) true s).2.2.2.2.2.1) (runC PySem.Challenge.pw_namepaths_k69_named_anew_along_a_row w a)=some (plainGoodE view (looseW view loose)):=by kernel_rfl
theorem Uu(w:World)(a:OsState):Option.map (λs=>(Fast.tw4187177175401517315 view loose (Fast.tw5923862056798008813 PySem.Challenge.pw_namepaths_k69_named_anew_along_a_row.main.body) (λs=>xlAt view [] s && recOk [] s) true s).2.2.2.2.2.2.1) (runC PySem.Challenge.pw_namepaths_k69_named_anew_along_a_row w a)=some (plainGoodD view loose):=by kernel_rfl
theorem Uv(w:World)(a:OsState):Option.map (λs=>(Fast.tw4187177175401517315 view loose (Fast.tw5923862056798008813 PySem.Challenge.pw_namepaths_k69_named_anew_along_a_row.main.body) (λs=>xlAt view [] s && recOk [] s) true s).2.2.2.2.2.2.2.1) (runC PySem.Challenge.pw_namepaths_k69_named_anew_along_a_row w a)=some (wideGood view):=by kernel_rfl
theorem Uw(w:World)(a:OsState):Option.map (λs=>(Fast.tw4187177175401517315 view loose (Fast.tw5923862056798008813 PySem.Challenge.pw_namepaths_k69_named_anew_along_a_row.main.body) (λs=>xlAt view [] s && recOk [] s) true s).2.2.2.2.2.2.2.2) (runC PySem.Challenge.pw_namepaths_k69_named_anew_along_a_row w a)=some (clsGoodW view loose):=by kernel_rfl
def MP{α β γ δ ε ζ η θ ι S:Type}{f:S->α×β×γ×δ×ε×ζ×η×θ×ι}{g:α×β×γ×δ×ε×ζ×η×θ×ι}{o:Option S}(a:o.map (λs=>(f s).1)=some g.1)(b:o.map (λs=>((f s).2.1,(f s).2.2.2.1))=some (g.2.1,g.2.2.2.1))(c:o.map (λs=>(f s).2.2.1)=some g.2.2.1)(d:o.map (λs=>(f s).2.2.2.2.1)=some g.2.2.2.2.1)(e:o.map (λs=>(f s).2.2.2.2.2.1)=some g.2.2.2.2.2.1)(h:o.map (λs=>(f s).2.2.2.2.2.2.1)=some g.2.2.2.2.2.2.1)(i:o.map (λs=>(f s).2.2.2.2.2.2.2.1)=some g.2.2.2.2.2.2.2.1)(j:o.map (λs=>(f s).2.2.2.2.2.2.2.2)=some g.2.2.2.2.2.2.2.2):o.map f=some g:=by
 cases o with|none=>cases a|some s=>have a:=Ce a;have b:=Ce b;have c:=Ce c;have d:=Ce d;have e:=Ce e;have h:=Ce h;have i:=Ce i;have j:=Ce j;exact DK some (Prod.ext a (Prod.ext (DK (·.1) b) (Prod.ext c (Prod.ext (DK (·.2) b) (Prod.ext d (Prod.ext e (Prod.ext h (Prod.ext i (j)))))))))
theorem Gm(w:World)(a:OsState):Option.map (λs=>(Fast.tw4187177175401517315 view loose (Fast.tw5923862056798008813 PySem.Challenge.pw_namepaths_k69_named_anew_along_a_row.main.body) (λs=>xlAt view [] s && recOk [] s) true s)) (runC PySem.Challenge.pw_namepaths_k69_named_anew_along_a_row w a)=some (openGood view loose):=MP (f:=λs=>(Fast.tw4187177175401517315 view loose (Fast.tw5923862056798008813 PySem.Challenge.pw_namepaths_k69_named_anew_along_a_row.main.body) (λs=>xlAt view [] s && recOk [] s) true s)) (Up w a) (Uq w a) (Ur w a) (Us w a) (Ut w a) (Uu w a) (Uv w a) (Uw w a)
end K69
abbrev A' := List (PySem.Addr × PySem.Obj)
abbrev B' := PySem.Value → PySem.Shared → Prop
local macro_rules | `(tactic| lia) => `(tactic| omega)
local macro_rules | `(tactic| cbv) => `(tactic| try dsimp only)
abbrev a':PySem.Str:="part"
abbrev b':PySem.Str:="__debug__"
abbrev i':PySem.Str:="told"
abbrev j':PySem.Str:="b"
abbrev l':PySem.Str:="a"
abbrev n':PySem.Str:="by"
abbrev r0:PySem.Str:="abcdefghijklmnopqrstuvwxyz"
abbrev C':=List Int
abbrev D':=List PySem.Value
abbrev E':=List PySem.Addr
abbrev F':=List PySem.Str
abbrev G':=List (PySem.Str × Int)
abbrev I':=Option PySem.Value
abbrev J':=Option Int
abbrev K':=Array PySem.Value
abbrev L':=List PySem.Expr
abbrev M':=List Nat
abbrev O':=Array Nat
set_option tactic.hygienic false
section
open PySem PySem.W PyProof.Rows
local macro_rules | `(tactic| o_head $H:term) => `(tactic| refine holds_open (q := K69.view) (loose := K69.loose) (Xt := fun s => xlAt K69.view [] s && recOk [] s) (XP := XL K69.view []) (Yf := Hook.obs $H) (Ya := Hook.val $H) (YP := Hook.says $H) (N := 40000) ?hl (Hook.of $H) (Hook.keeps $H) (fun s e => xl_of s (Bool.and_eq_true_iff.mp e).1) XL.keeps (by rfl) (by rfl) (by rfl) (fun s e => recFacts_of (Bool.and_eq_true_iff.mp e).2) (by rfl) (by first | assumption | decide +kernel) (by decide +kernel) ⟨rfl, rfl, rfl, rfl, rfl, by decide +kernel⟩ ?hw ?hc)
set_option maxHeartbeats 0 in
theorem K69.hd(a:∀K:Params->Frag,(∀w:World,K69.Fu (K w.params))->∀(YP:World->Heap->Prop)(d:DefRec),d.params.defaults=[]->d.name = "law" -> (∀(w:World)(h:Heap),YP w h->(K w.params).In h)->WalkO K69.view K69.loose (XL K69.view []) YP PySem.Challenge.rw_namepaths_k69_named_anew_along_a_row.row.toRowW d [] (λf vs=>PySem.call f vs)):PySem.Challenge.rw_namepaths_k69_named_anew_along_a_row.Holds:=by
 w_on;o_law;k_head
 case hl =>
  refine L2.Uo K69.Gk K69.FN K69.Gm λw b=>?_
  kernel_rfl
 case hw=>w_witness2
 k_fill
 refine a _ (λw=>?fx) _ _ rfl rfl (λw h Y=>PySem.W.kIn_of Y)
 case fx =>
  refine' K69.Fu.mk ?a0 ?l0 ?c0 ?k0 ?a1 ?l1 ?c1 ?k1 ?a2 ?l2 ?c2 ?k2 ?a3 ?l3 ?c3 ?k3 ?a4 ?l4 ?c4 ?k4 ?a5 ?l5 ?c5 ?k5 ?a6 ?l6 ?c6 ?k6 ?a7 ?l7 ?c7 ?k7 ?a8 ?l8 ?c8 ?k8 ?a9 ?l9 ?c9 ?k9 ?a10 ?l10 ?c10 ?k10 ?a11 ?l11 ?c11 ?k11 ?a12 ?l12 ?c12 ?k12 ?a13 ?l13 ?c13 ?k13 ?a14 ?l14 ?c14 ?k14 ?a15 ?l15 ?c15 ?k15 ?a16 ?l16 ?c16 ?k16 ?a17 ?l17 ?c17 ?k17 ?a18 ?l18 ?c18 ?k18 ?a19 ?l19 ?c19 ?k19 ?a20 ?l20 ?c20 ?k20 ?a21 ?l21 ?c21 ?k21 ?a22 ?l22 ?c22 ?k22 ?a23 ?l23 ?c23 ?k23 ?a24 ?l24 ?c24 ?k24 ?a25 ?l25 ?c25 ?k25 ?a26 ?l26 ?c26 ?k26 ?a27 ?l27 ?c27 ?k27 ?a28 ?l28 ?c28 ?k28 ?a29 ?l29 ?c29 ?k29 ?a30 ?l30 ?c30 ?k30 ?a31 ?l31 ?c31 ?k31 ?a32 ?l32 ?c32 ?k32 ?a33 ?l33 ?c33 ?k33 ?a34 ?l34 ?c34 ?k34 ?a35 ?l35 ?c35 ?k35 ?a36 ?l36 ?c36 ?k36 ?a37 ?l37 ?c37 ?k37 ?a38 ?l38 ?c38 ?k38 ?a39 ?l39 ?c39 ?k39 ?a40 ?l40 ?c40 ?k40 ?a41 ?l41 ?c41 ?k41 ?a42 ?l42 ?c42 ?k42 ?a43 ?l43 ?c43 ?k43 ?a44 ?l44 ?c44 ?k44 ?a45 ?l45 ?c45 ?k45 ?a46 ?l46 ?c46 ?k46 ?a47 ?l47 ?c47 ?k47 ?a48 ?l48 ?c48 ?k48 ?a49 ?l49 ?c49 ?k49 ?a50 ?l50 ?c50 ?k50 ?a51 ?l51 ?c51 ?k51 ?a52 ?l52 ?c52 ?k52 ?a53 ?l53 ?c53 ?k53 ?a54 ?l54 ?c54 ?k54 ?a55 ?l55 ?c55 ?k55 ?a56 ?l56 ?c56 ?k56 ?a57 ?l57 ?c57 ?k57 ?a58 ?l58 ?c58 ?k58 ?a59 ?l59 ?c59 ?k59 ?a60 ?l60 ?c60 ?k60 ?a61 ?l61 ?c61 ?k61 ?z_all ?z_any ?z_bool ?z_dict ?z_enumerate ?z_int ?z_isinstance ?z_len ?z_list ?z_min ?z_range ?z_set ?z_sorted ?z_str ?z_tuple ?z_zip ?y_LONGEST_NAME ?y_LONGEST_PATH ?y_MOST_BEGINNINGS ?y_MOST_ENDS ?y_MOST_GOES ?y_MOST_PAIRS ?y_MOST_QUESTIONS ?y_MOST_SCOPES ?y_MOST_STATES ?y_MOST_STEPS ?y_MOST_TELLINGS ?y_MOST_THINGS ?hn0 ?ht0
  (case a0=>k_is)
  (case l0=>k_is)
  (case c0=>k_is)
  (case k0=>k_is)
  (case a1=>k_is)
  (case l1=>k_is)
  (case c1=>k_is)
  (case k1=>k_is)
  (case a2=>k_is)
  (case l2=>k_is)
  (case c2=>k_is)
  (case k2=>k_is)
  (case a3=>k_is)
  (case l3=>k_is)
  (case c3=>k_is)
  (case k3=>k_is)
  (case a4=>k_is)
  (case l4=>k_is)
  (case c4=>k_is)
  (case k4=>k_is)
  (case a5=>k_is)
  (case l5=>k_is)
  (case c5=>k_is)
  (case k5=>k_is)
  (case a6=>k_is)
  (case l6=>k_is)
  (case c6=>k_is)
  (case k6=>k_is)
  (case a7=>k_is)
  (case l7=>k_is)
  (case c7=>k_is)
  (case k7=>k_is)
  (case a8=>k_is)
  (case l8=>k_is)
  (case c8=>k_is)
  (case k8=>k_is)
  (case a9=>k_is)
  (case l9=>k_is)
  (case c9=>k_is)
  (case k9=>k_is)
  (case a10=>k_is)
  (case l10=>k_is)
  (case c10=>k_is)
  (case k10=>k_is)
  (case a11=>k_is)
  (case l11=>k_is)
  (case c11=>k_is)
  (case k11=>k_is)
  (case a12=>k_is)
  (case l12=>k_is)
  (case c12=>k_is)
  (case k12=>k_is)
  (case a13=>k_is)
  (case l13=>k_is)
  (case c13=>k_is)
  (case k13=>k_is)
  (case a14=>k_is)
  (case l14=>k_is)
  (case c14=>k_is)
  (case k14=>k_is)
  (case a15=>k_is)
  (case l15=>k_is)
  (case c15=>k_is)
  (case k15=>k_is)
  (case a16=>k_is)
  (case l16=>k_is)
  (case c16=>k_is)
  (case k16=>k_is)
  (case a17=>k_is)
  (case l17=>k_is)
  (case c17=>k_is)
  (case k17=>k_is)
  (case a18=>k_is)
  (case l18=>k_is)
  (case c18=>k_is)
  (case k18=>k_is)
  (case a19=>k_is)
  (case l19=>k_is)
  (case c19=>k_is)
  (case k19=>k_is)
  (case a20=>k_is)
  (case l20=>k_is)
  (case c20=>k_is)
  (case k20=>k_is)
  (case a21=>k_is)
  (case l21=>k_is)
  (case c21=>k_is)
  (case k21=>k_is)
  (case a22=>k_is)
  (case l22=>k_is)
  (case c22=>k_is)
  (case k22=>k_is)
  (case a23=>k_is)
  (case l23=>k_is)
  (case c23=>k_is)
  (case k23=>k_is)
  (case a24=>k_is)
  (case l24=>k_is)
  (case c24=>k_is)
  (case k24=>k_is)
  (case a25=>k_is)
  (case l25=>k_is)
  (case c25=>k_is)
  (case k25=>k_is)
  (case a26=>k_is)
  (case l26=>k_is)
  (case c26=>k_is)
  (case k26=>k_is)
  (case a27=>k_is)
  (case l27=>k_is)
  (case c27=>k_is)
  (case k27=>k_is)
  (case a28=>k_is)
  (case l28=>k_is)
  (case c28=>k_is)
  (case k28=>k_is)
  (case a29=>k_is)
  (case l29=>k_is)
  (case c29=>k_is)
  (case k29=>k_is)
  (case a30=>k_is)
  (case l30=>k_is)
  (case c30=>k_is)
  (case k30=>k_is)
  (case a31=>k_is)
  (case l31=>k_is)
  (case c31=>k_is)
  (case k31=>k_is)
  (case a32=>k_is)
  (case l32=>k_is)
  (case c32=>k_is)
  (case k32=>k_is)
  (case a33=>k_is)
  (case l33=>k_is)
  (case c33=>k_is)
  (case k33=>k_is)
  (case a34=>k_is)
  (case l34=>k_is)
  (case c34=>k_is)
  (case k34=>k_is)
  (case a35=>k_is)
  (case l35=>k_is)
  (case c35=>k_is)
  (case k35=>k_is)
  (case a36=>k_is)
  (case l36=>k_is)
  (case c36=>k_is)
  (case k36=>k_is)
  (case a37=>k_is)
  (case l37=>k_is)
  (case c37=>k_is)
  (case k37=>k_is)
  (case a38=>k_is)
  (case l38=>k_is)
  (case c38=>k_is)
  (case k38=>k_is)
  (case a39=>k_is)
  (case l39=>k_is)
  (case c39=>k_is)
  (case k39=>k_is)
  (case a40=>k_is)
  (case l40=>k_is)
  (case c40=>k_is)
  (case k40=>k_is)
  (case a41=>k_is)
  (case l41=>k_is)
  (case c41=>k_is)
  (case k41=>k_is)
  (case a42=>k_is)
  (case l42=>k_is)
  (case c42=>k_is)
  (case k42=>k_is)
  (case a43=>k_is)
  (case l43=>k_is)
  (case c43=>k_is)
  (case k43=>k_is)
  (case a44=>k_is)
  (case l44=>k_is)
  (case c44=>k_is)
  (case k44=>k_is)
  (case a45=>k_is)
  (case l45=>k_is)
  (case c45=>k_is)
  (case k45=>k_is)
  (case a46=>k_is)
  (case l46=>k_is)
  (case c46=>k_is)
  (case k46=>k_is)
  (case a47=>k_is)
  (case l47=>k_is)
  (case c47=>k_is)
  (case k47=>k_is)
  (case a48=>k_is)
  (case l48=>k_is)
  (case c48=>k_is)
  (case k48=>k_is)
  (case a49=>k_is)
  (case l49=>k_is)
  (case c49=>k_is)
  (case k49=>k_is)
  (case a50=>k_is)
  (case l50=>k_is)
  (case c50=>k_is)
  (case k50=>k_is)
  (case a51=>k_is)
  (case l51=>k_is)
  (case c51=>k_is)
  (case k51=>k_is)
  (case a52=>k_is)
  (case l52=>k_is)
  (case c52=>k_is)
  (case k52=>k_is)
  (case a53=>k_is)
  (case l53=>k_is)
  (case c53=>k_is)
  (case k53=>k_is)
  (case a54=>k_is)
  (case l54=>k_is)
  (case c54=>k_is)
  (case k54=>k_is)
  (case a55=>k_is)
  (case l55=>k_is)
  (case c55=>k_is)
  (case k55=>k_is)
  (case a56=>k_is)
  (case l56=>k_is)
  (case c56=>k_is)
  (case k56=>k_is)
  (case a57=>k_is)
  (case l57=>k_is)
  (case c57=>k_is)
  (case k57=>k_is)
  (case a58=>k_is)
  (case l58=>k_is)
  (case c58=>k_is)
  (case k58=>k_is)
  (case a59=>k_is)
  (case l59=>k_is)
  (case c59=>k_is)
  (case k59=>k_is)
  (case a60=>k_is)
  (case l60=>k_is)
  (case c60=>k_is)
  (case k60=>k_is)
  (case a61=>k_is)
  (case l61=>k_is)
  (case c61=>k_is)
  (case k61=>k_is)
  (case z_all=>k_is)
  (case z_any=>k_is)
  (case z_bool=>k_is)
  (case z_dict=>k_is)
  (case z_enumerate=>k_is)
  (case z_int=>k_is)
  (case z_isinstance=>k_is)
  (case z_len=>k_is)
  (case z_list=>k_is)
  (case z_min=>k_is)
  (case z_range=>k_is)
  (case z_set=>k_is)
  (case z_sorted=>k_is)
  (case z_str=>k_is)
  (case z_tuple=>k_is)
  (case z_zip=>k_is)
  (case y_LONGEST_NAME=>k_is)
  (case y_LONGEST_PATH=>k_is)
  (case y_MOST_BEGINNINGS=>k_is)
  (case y_MOST_ENDS=>k_is)
  (case y_MOST_GOES=>k_is)
  (case y_MOST_PAIRS=>k_is)
  (case y_MOST_QUESTIONS=>k_is)
  (case y_MOST_SCOPES=>k_is)
  (case y_MOST_STATES=>k_is)
  (case y_MOST_STEPS=>k_is)
  (case y_MOST_TELLINGS=>k_is)
  (case y_MOST_THINGS=>k_is)
  (case hn0=>k_is)
  (case ht0=>k_is)
end
set_option Elab.async false
set_option linter.all false
set_option maxRecDepth 100000
namespace L2
open PySem PySem.Spec PyProof.Rows
abbrev AL:=Sum Int Str
abbrev V':=List AL
def JT:AL->Value->Bool
 |.inl k,v=>Value.isInt k v
 |.inr x,v=>Value.isStrOf x v
def PR (w:World):AL->Int
 |.inl k=>hashInt k
 |.inr x=>hashStr w x
theorem HB:∀{k:AL}{v:Value},JT k v=true->(∃i t,k=Sum.inl i/\v=Value.int i t)\/(∃x t,k=Sum.inr x/\v=Value.str x t)
 |.inl i,v,h=>by obtain⟨t,e⟩:=Value.isInt_shape (k:=i) (v:=v) h;exact .inl ⟨i,t,rfl,e⟩
 |.inr x,v,h=>by obtain⟨t,e⟩:=Value.isStrOf_shape (x:=x) (v:=v) h;exact .inr ⟨x,t,rfl,e⟩
def Ux(i:Int)(t:Tok):JT (.inl i) (.int i t)=true:=by simp[JT,Value.isInt]
def Uy(x:Str)(t:Tok):JT (.inr x) (.str x t)=true:=by simp[JT,Value.isStrOf]
def JU(a b:Int):decide ((Sum.inl a:AL)=Sum.inl b)=(a==b):=by by_cases e:a=b;subst e;simp;have h:¬(Sum.inl a:AL)=Sum.inl b:=λq=>e (Sum.inl.inj q);rw[BM h];exact(beq_eq_false_iff_ne.mpr e).symm
def JV(a b:Str):decide ((Sum.inr a:AL)=Sum.inr b)=decide (a=b):=by by_cases e:a=b;subst e;simp;have h:¬(Sum.inr a:AL)=Sum.inr b:=λq=>e (Sum.inr.inj q);rw[BM h,BM e]
def JW(a:Int)(b:Str):decide ((Sum.inl a:AL)=Sum.inr b)=false:=BM (λq=>nomatch q)
def JX(a:Str)(b:Int):decide ((Sum.inr a:AL)=Sum.inl b)=false:=BM (λq=>nomatch q)
def Dp (prog:Program) (w:World):PySem.KeyKind prog w AL where
 is:=JT
 hash:=PR w
 inj:=λv a b ha hb=>by rcases HB ha with⟨i,t,rfl,rfl⟩|⟨x,t,rfl,rfl⟩;rcases HB hb with⟨j,u,rfl,e⟩|⟨y,u,rfl,e⟩;injection e with e1 _;rw[e1];exact nomatch e;rcases HB hb with⟨j,u,rfl,e⟩|⟨y,u,rfl,e⟩;exact nomatch e;injection e with e1 _;rw[e1]
 byValue:=λk v h=>by rcases HB h with⟨i,t,rfl,rfl⟩|⟨x,t,rfl,rfl⟩<;>rfl
 pyHash:=λhv h=>by rcases HB hv with⟨i,t,rfl,rfl⟩|⟨x,t,rfl,rfl⟩;exact wpAny_pyHash_int h;exact wpAny_pyHash_str h
 eqBool:=λhu hv h=>by rcases HB hu with⟨i,t,rfl,rfl⟩|⟨x,t,rfl,rfl⟩;rcases HB hv with⟨j,u,rfl,rfl⟩|⟨y,u,rfl,rfl⟩;rw[JU] at h;exact wpAny_eqBool_int h;rw[JW] at h;exact SeqAt.EqAt.int_str i t y u _ _ _ _ h;rcases HB hv with⟨j,u,rfl,rfl⟩|⟨y,u,rfl,rfl⟩;rw[JX] at h;exact SeqAt.EqAt.str_int x t j u _ _ _ _ h;rw[JV] at h;exact wpAny_eqBool_str h
 «strs»:=λk x t v h=>by rcases HB h with⟨i,u,rfl,e⟩|⟨y,u,rfl,e⟩;exact nomatch e;injection e with e1 _;subst e1;cases v<;>rfl
def Uz(prog:Program)(w:World)(i:Int)(t:Tok):(Dp prog w).is (.inl i) (.int i t)=true:=Ux i t
def UA(prog:Program)(w:World)(x:Str)(t:Tok):(Dp prog w).is (.inr x) (.str x t)=true:=Uy x t
inductive V where
 |non|bl (b:Bool)|int (i:Int)|str (x:Str)|byt (b:Array UInt8)|flt (b:UInt64)|ref (a:Addr)|ty (n:String)
 deriving DecidableEq
abbrev S':=Option V
abbrev R':=List V
def RelV:V->Value->Prop
 |.non,u=>u=Value.none
 |.bl b,u=>u=Value.bool b
 |.int i,u=>∃t,u=Value.int i t
 |.str x,u=>∃t,u=Value.str x t
 |.byt b,u=>∃t,u=Value.bytes b t
 |.flt b,u=>∃t,u=Value.float b t
 |.ref a,u=>u=Value.ref a
 |.ty n,u=>u=Value.type n
abbrev Aq:R'->D'->Prop:=Paired RelV
def Aq.length{xs:R'}{us:D'}(r:Aq xs us):xs.length=us.length:=Paired.length r
theorem Aq.get:∀{xs:R'}{us:D'}{i:Nat}{x:V},Aq xs us->xs[i]?=some x->∃u,us[i]?=some u/\RelV x u
 |_,_,_,_,.nil,e=>by simp at e
 |_,_,0,_,.cons r _,e=>by simp at e;subst e;exact⟨_,rfl,r⟩
 |_,_,i+1,x,.cons _ t,e=>by obtain⟨u,a,b⟩:=Aq.get (i:=i) (x:=x) t (by simpa using e);exact⟨u,by simpa using a,b⟩
theorem Aq.set{x:V}{u:Value}(r:RelV x u):∀{xs:R'}{us:D'}(i:Nat),Aq xs us->Aq (xs.set i x) (us.set i u)
 |_,_,_,.nil=>.nil
 |_,_,0,.cons _ t=>.cons r t
 |_,_,i+1,.cons q t=>.cons q (Aq.set r i t)
theorem Aq.append:∀{xs ys:R'}{us a:D'},Aq xs us->Aq ys a->Aq (xs++ys) (us++a)
 |_,_,_,_,.nil,s=>s
 |_,_,_,_,.cons r t,s=>.cons r (Aq.append t s)
theorem Aq.take:∀{xs:R'}{us:D'}(n:Nat),Aq xs us->Aq (xs.take n) (us.take n)
 |_,_,0,_=>.nil
 |_,_,_+1,.nil=>.nil
 |_,_,n+1,.cons r t=>.cons r (Aq.take n t)
theorem Aq.drop:∀{xs:R'}{us:D'}(n:Nat),Aq xs us->Aq (xs.drop n) (us.drop n)
 |_,_,0,r=>r
 |_,_,_+1,.nil=>.nil
 |_,_,n+1,.cons _ t=>Aq.drop n t
def DD:S'->I'->Prop
 |some v,some u=>RelV v u
 |none,none=>True
 |_,_=>False
def KV {κ:Type}:List (κ×V)->List (κ×Value)->Prop:=Paired λ(p:κ×V)(q:κ×Value)=>p.1=q.1/\RelV p.2 q.2
def kV:AL->V
 |.inl i=>.int i
 |.inr x=>.str x
inductive HO where
 |lst (xs:R')
 |tup (xs:R')
 |dK (kvs:List (AL×V))|dT (kvs:List (List AL×V))
 |set (S:Int->Bool) (n:Nat)
 |ins (C dx:Addr) (fs:List (Str×V))
 |own (x:Addr)
 |xd (fs:List (Str×V))
 |met (f x:Addr)
 |rng (lo hi:Int)
 |frz (o:Obj) (u:HO)
 |tbl (ps:K')
 |ext (φ:Heap->Prop)
abbrev Hp:=Addr->Option HO
def upd (H:Hp) (a:Addr) (o:HO):Hp:=λb=>if b=a then some o else H b
variable {H:Hp}{a:Addr}{o:HO}
def Aa:upd H a o a=some o:=by unfold upd;rw[AC rfl]
variable {b:Addr}
def Ax(h:b≠a):upd H a o b=H b:=by unfold upd;rw[AA h]
variable {u:HO}
def R6:upd (upd H a o) a u=upd H a u:=by
 funext b;unfold upd;split<;>rfl
def Om(h:H a=some o)(h':H b=some u)(d:o≠u):a≠b:=by intro e;subst e;rw[h] at h';exact d (Ce h')
def AN(h:H a=some o)(h':H b=none):a≠b:=by intro e;subst e;rw[h] at h';cases h'
section
variable (P:Program) (w:World)
def Az (H:Hp) (h:Heap) (a:Addr):HO->Prop
 |.lst xs=>xs.length<=sizeLine/\∃(its:D')(n:Nat),Aq xs its/\h.get? a=some {cls:=.type "list",data:=.seq its.toArray n}
 |.tup xs=>xs.length<=sizeLine/\∃its:D',Aq xs its/\IsTup h a its.toArray
 |.dK kvs=>kvs.length<=sizeLine/\(a==sysModules)=false/\∃vs,KV kvs vs/\h.DictOf (Dp P w) a vs
 |.dT kvs=>kvs.length<=sizeLine/\(a==sysModules)=false/\∃xs:List (List AL×Addr×Value),
  Paired (λ(p:List AL×V)(q:List AL×Addr×Value)=>p.1=q.1/\H q.2.1=some (.tup (p.1.map kV))/\RelV p.2 q.2.2) kvs xs /\
  ∃o es ep,h.get? a=some o/\o.ExactDict/\o.data=.dict es ep/\es.toList=xs.map (entryOfKey (tupleKind (Dp P w)))/\(xs.map (·.1)).Nodup
 |.set S n=>h.SetOf (intKind P w) a S n
 |.ins C dx fs=>H dx=some (.own a)/\fs.length<=1000/\dx≠a/\h.get? a=some (PySem.W.instObj C dx) /\
  ∃i,h.Ns1 dx i/\(∀f,DD (fs.lookup f) (i f))/\PySem.Within i (fs.map (·.1))
 |.own _=>∃o,h.get? a=some o
 |.xd fs=>∃i,h.Ns1 a i/\∀f,DD (fs.lookup f) (i f)
 |.rng lo hi=>∃t u v,h.get? a=some {cls:=.type "range",data:=.fields #[.int lo t,.int hi u,.int 1 v]}
 |.frz o u=>h.get? a=some o/\Az H h a u
 |.tbl ps=>h.get? a=some {cls:=.none,data:=.fields ps}
 |.met f x=>h.get? a=some (PySem.W.methodObj (.ref f) (.ref x))
 |.ext φ=>φ h/\(∃o,h.get? a=some o)/\∀h1 h2:Heap,φ h1->(∀o,h1.get? a=some o->h2.get? a=some o)->φ h2
def CG (H:Hp) (h:Heap):Prop:=∀a o,H a=some o->Az P w H h a o
end
section
variable {P:Program} {w:World} {H H':Hp} {h h':Heap} {a:Addr} {o:HO}
def Az.lt(x:Az P w H h a o):a<h.objs.size:=by
 cases o with|lst b=>obtain⟨_,_,_,_,e⟩:=x;exact AY e|tup b=>obtain⟨_,_,_,p⟩:=x;exact p.lt|dK c=>obtain⟨_,_,_,_,o,_,_,e,_⟩:=x;exact AY e|dT c=>obtain⟨_,_,_,_,o,_,_,e,_⟩:=x;exact AY e|set S n=>obtain⟨o,_,_,_,e,_⟩:=x;exact AY e|ins C d fs=>obtain⟨_,_,_,e,_⟩:=x;exact AY e|own y=>obtain⟨_,e⟩:=x;exact AY e|xd fs=>obtain⟨_,⟨_,_,_,e,_⟩,_⟩:=x;exact AY e|rng lo g=>obtain⟨_,_,_,e⟩:=x;exact AY e|frz i u=>obtain⟨e,_⟩:=x;exact AY e|tbl j=>exact AY (show h.get? a=some _ from x)|met f y=>exact AY (show h.get? a=some _ from x)|ext φ=>obtain⟨_,⟨_,e⟩,_⟩:=x;exact AY e
theorem Paired.mapP{α β:Type}{F G:α->β->Prop}:∀{l₁:List α}{l₂:List β},Paired F l₁ l₂->(∀a b,F a b->G a b)->Paired G l₁ l₂
 |_,_,.nil,_=>.nil
 |_,_,.cons r t,f=>.cons (f _ _ r) (Paired.mapP t f)
def Az.stay(x:Az P w H h a o)(k:∀b u,(b=a\/H b=some (.own a))->h.get? b=some u->h'.get? b=some u)
 (D:∀b,H b=some (.own a)->H' b=some (.own a)) (E:∀b xs,H b=some (.tup xs)->H' b=some (.tup xs)):Az P w H' h' a o:=by
 induction o with|lst xs=>obtain⟨z,s,n,r,e⟩:=x;exact⟨z,s,n,r,k _ _ (.inl rfl) e⟩|tup xs=>obtain⟨z,s,r,g,e,c⟩:=x;exact⟨z,s,r,g,k _ _ (.inl rfl) e,c⟩|dK J=>obtain⟨z,y,F,r,g,j,l,e,c⟩:=x;exact⟨z,y,F,r,g,j,l,k _ _ (.inl rfl) e,c⟩|dT J=>obtain⟨z,y,xs,r,g,j,l,e,c⟩:=x;exact⟨z,y,xs,Paired.mapP r λp q z=>⟨z.1,E _ _ z.2.1,z.2.2⟩,g,j,l,k _ _ (.inl rfl) e,c⟩|set S n=>obtain⟨g,j,l,t,e,c⟩:=x;exact⟨g,j,l,t,k _ _ (.inl rfl) e,c⟩|ins C K fs=>obtain⟨d,z,ne,e,i,⟨m,j,l,G,c⟩,r⟩:=x;exact⟨D _ d,z,ne,k _ _ (.inl rfl) e,i,⟨m,j,l,k _ _ (.inr d) G,c⟩,r⟩|own y=>obtain⟨g,e⟩:=x;exact⟨g,k _ _ (.inl rfl) e⟩|xd fs=>obtain⟨i,⟨m,j,l,e,c⟩,r⟩:=x;exact⟨i,⟨m,j,l,k _ _ (.inl rfl) e,c⟩,r⟩|rng lo L=>obtain⟨t,u,v,e⟩:=x;exact⟨t,u,v,k _ _ (.inl rfl) e⟩|frz g u I=>obtain⟨e,q⟩:=x;exact⟨k _ _ (.inl rfl) e,I q⟩|tbl A=>have e:h.get? a=some {cls:=.none,data:=.fields A}:=x;show h'.get? a=some {cls:=.none,data:=.fields A};exact k a _ (.inl rfl) e|met f y=>have e:h.get? a=some (PySem.W.methodObj (.ref f) (.ref y)):=x;show h'.get? a=some (PySem.W.methodObj (.ref f) (.ref y));exact k a _ (.inl rfl) e|ext φ=>obtain⟨p,⟨o,e⟩,B⟩:=x;exact⟨B _ _ p λo q=>k _ _ (.inl rfl) q,⟨o,k _ _ (.inl rfl) e⟩,B⟩
def CG.lt(x:CG P w H h)(e:H a=some o):a<h.objs.size:=(x a o e).lt
def CG.fresh(x:CG P w H h)(e:h.objs.size<=a):H a=none:=by
 cases q:H a with|none=>rfl|some u=>exact absurd (EK (x.lt q) e) (EV _)
def CG.kept(x:CG P w H h)(k:∀b u,h.get? b=some u->h'.get? b=some u):CG P w H h':=λa o e =>
 (x a o e).stay (λb u _ q=>k b u q) (λ_ q=>q) λ_ _ q=>q
def CG.laid(x:CG P w H h)(k:∀b u,h.get? b=some u->h'.get? b=some u)(g:h.objs.size<=a)(i:Az P w (upd H a o) h' a o):CG P w (upd H a o) h':=λb u e=>by have d:=x.fresh g;by_cases f:b=a;subst f;rw[Aa] at e;cases e;exact i;rw[Ax f] at e;exact(x b u e).stay (λc v _ q=>k c v q) (λc q=>by rw[Ax (AN q d)];exact q) λc j q=>by rw[Ax (AN q d)];exact q
end
def Rd (H:Hp) (a:Addr) (u:HO):Prop:=H a=some u\/∃o,H a=some (.frz o u)
variable {P:Program}{w:World}{h:Heap}
def Rd.ok(r:Rd H a u)(x:CG P w H h):Az P w H h a u:=by rcases r with r|⟨o,r⟩;exact x a u r;obtain⟨_,q⟩:=x a _ r;exact q
def MQ:Option HO->Prop
 |some (.lst _)=>True
 |some (.dK _)=>True
 |some (.dT _)=>True
 |some (.set _ _)=>True
 |some (.ins _ _ _)=>True
 |some (.ext _)=>True
 |_=>False
section
variable {P:Program} {w:World} {H:Hp} {h h':Heap} {x e:Addr} {o':HO}
def CG.write(ok:CG P w H h)(a:MQ (H x))(j:e=x\/H e=some (.own x))(k:∀b u,b≠e->h.get? b=some u->h'.get? b=some u)(o:∃u,h'.get? e=some u)
 (p:Az P w (upd H x o') h' x o'):CG P w (upd H x o') h':=λb u q=>by
 have m:∀c y,H c=some (.own y)->c≠x:=λc y r z=>by subst z;rw[r] at a;exact a
 have s:∀c d,H c=some (.tup d)->c≠x:=λc d r z=>by subst z;rw[r] at a;exact a
 by_cases f:b=x;subst f;rw[Aa] at q;cases q;exact p;rw[Ax f] at q;by_cases i:b=e;have l:H b=some (.own x):=(by rcases j with z|z;exact absurd (i.trans z) f;rw[i];exact z);rw[q] at l;cases l;obtain⟨v,n⟩:=o;exact⟨v,by rw[i];exact n⟩;refine(ok b u q).stay (λc v g r=>k c v ?_ r) (λc r=>by rw[Ax (m c b r)];exact r) λc d r=>by rw[Ax (s c d r)];exact r
 rcases g with rfl|g;exact i;rintro rfl;rcases j with z|z;exact m c b g z;rw[g] at z;cases z;exact f rfl
end
structure Un (fs ex:E') (H H':Hp) (h h':Heap):Prop where
 keep:∀b o,h.get? b=some o->H b=none->b∉fs->b∉ex->h'.get? b=some o
 slot:∀b o,h.get? b=some o->H b=none->b∈fs->b∉ex->∃sl,h'.get? b=some {o with slots:=sl}
 free:∀b o,h.get? b=some o->H b=none->b∉ex->H' b=none
 there:∀b o,h.get? b=some o->b∉ex->∃o',h'.get? b=some o'
 tups:∀b xs,H b=some (.tup xs)->H' b=some (.tup xs)
 frzs:∀b o u,H b=some (.frz o u)->H' b=some (.frz o u)
 tbls:∀b ps,H b=some (.tbl ps)->∃more,H' b=some (.tbl (ps++more))
section
variable {fs fs' ex ex':E'} {H H1 H2:Hp} {h h1 h2 h':Heap} {a x e:Addr} {o:HO}
def Un.any(u:Un fs ex H H1 h h1){ob:Obj}(q:h.get? b=some ob)(n:H b=none)(a:b∉ex):∃d,h1.get? b=some {ob with slots:=d}:=by by_cases c:b∈fs;exact u.slot b ob q n c a;exact⟨ob.slots,u.keep b ob q n c a⟩
def Un.kept(k:∀b u,h.get? b=some u->h'.get? b=some u):Un fs ex H H h h':=
 ⟨λb a q _ _ _=>k b a q,λb a q _ _ _=>⟨a.slots,k b a q⟩,λ_ _ _ n _=>n,λb a q _=>⟨a,k b a q⟩,λ_ _ q=>q,λ_ _ _ q=>q,λ_ c q=>⟨#[],by rw[q];simp⟩⟩
def Un.refl:Un fs ex H H h h:=Un.kept λ_ _ q=>q
def Un.laid(k:∀b u,h.get? b=some u->h'.get? b=some u)(d:h.objs.size<=a)(c:H a=none):Un fs ex H (upd H a o) h h' where
 keep:=λb u q _ _ _=>k b u q
 slot:=λb u q _ _ _=>⟨u.slots,k b u q⟩
 free:=λb u q n _=>by rw[Ax (CF (EK (AY q) d))];exact n
 there:=λb u q _=>⟨u,k b u q⟩
 tups:=λb e q=>by rw[Ax (AN q c)];exact q
 frzs:=λb u e q=>by rw[Ax (AN q c)];exact q
 tbls:=λb f q=>⟨#[],by rw[Ax (AN q c),q];simp⟩
def Un.write(a:MQ (H x))(i:e=x\/H e=some (.own x))(k:∀b u,b≠e->h.get? b=some u->h'.get? b=some u)(m:∃u,h'.get? e=some u):Un fs ex H (upd H x o) h h':=by
 have d:∀b,H b=none->b≠x:=λb n z=>by subst z;rw[n] at a;exact a
 have f:∀b,H b=none->b≠e:=λb n z=>by
  subst z;rcases i with r|r;exact d b n r;rw[n] at r;cases r
 have c:∀b u,H b=some u->¬MQ (some u)->b≠x:=λb u q j z=>by subst z;rw[q] at a;exact j a
 refine⟨λb u q n _ _=>k b u (f b n) q,λb u q n _ _=>⟨u.slots,k b u (f b n) q⟩,λb u q n _=>by rw[Ax (d b n)];exact n,λb u q _=>?_,
  λb l q=>by rw[Ax (c b _ q λz=>z)];exact q,λb u l q=>by rw[Ax (c b _ q λz=>z)];exact q,λb p q=>⟨#[],by rw[Ax (c b _ q λz=>z),q];simp⟩⟩
 by_cases g:b=e;subst g;exact m;exact⟨u,k b u g q⟩
end
def FX (h:Heap) (H:Hp):E':=(List.range h.objs.size).filter λa=>(H a).isSome
def Ez (h:Heap) (H:Hp):Heap:=PySem.W.hideAll h (FX h H)
def UB(h:Heap)(H:Hp):(Ez h H).objs.size=h.objs.size:=PySem.W.hideAll_size _ _
def UC{o:Obj}(e:h.get? b=some o)(n:H b=none):(Ez h H).get? b=some o:=
 PySem.W.hideAll_get _ e λa=>by have q:(H b).isSome=true:=(List.mem_filter.mp a).2;rw[n] at q;simp at q
def HC{o:Obj}(e:(Ez h H).get? b=some o):h.get? b=some o/\H b=none:=by
 have a:h.get? b=some o:=PySem.W.of_hideAll (FX h H) e;refine⟨a,?_⟩;cases q:H b with|none=>rfl|some x=>have c:b∈FX h H:=List.mem_filter.mpr ⟨List.mem_range.mpr (AY a),by simp[q]⟩;have z:(Ez h H).get? b=none:=PySem.W.hideAll_none (FX h H) c;rw[z] at e;cases e
structure Mod (K:Ah) (mg:Str->I') (base:Heap):Prop where
 kin:K.In base
 glob:base.Ns mainGlobals mg
 blt:∃mb,base.Ns builtinsNs mb/\∀x:Str,x ≠ "__name__" -> mb x=bootBuiltins x
 nolimit:base.NoLimit
structure Cx where
 prog:Program
 w:World
 K:Ah
 mg:Str->I'
 base:Heap
 A:Around
 N:F'
 s₀:Shared
 H₀:Hp
 env:Env
 outer:List Env
 stack:List Env
 ex:E'
 fn:Str->Bool
 calm:Bool
 pn:A'
 xe:Value->Shared->Prop
def EM (l:List Env):E':=l.filterMap (·.frame)
abbrev Cx.fs (X:Cx):E':=EM X.outer
def Oo (sc:Scope) (x:Str):Prop:=sc.names.lookup x=some .local\/sc.names.lookup x=some .cell\/sc.names.lookup x=some .free
def Loc (sc:Scope) (x:Str):Prop:=sc.names.lookup x=some .local\/sc.names.lookup x=some .cell
def Look (env:Env) (h:Heap) (m:Str->I') (x:Str) (u:Value):Prop:=
 (env.kindOf x=some .local/\m x=some u)\/((env.kindOf x=some .cell\/env.kindOf x=some .free)/\∃c,env.cells.lookup x=some c/\h.IsCell c (some u))
structure Cx.Ok (X:Cx):Prop where
 mod:Mod X.K X.mg X.base
 kind:X.env.scope.kind=.function
 glob:X.env.globals=mainGlobals
 blt:X.env.builtins=builtinsNs
 above:X.s₀.heap.objs.size<=X.env.locals
 inj:∀x y c,X.env.cells.lookup x=some c->X.env.cells.lookup y=some c->x=y
 has:∀x,(X.env.kindOf x=some .cell\/X.env.kindOf x=some .free)->∃c,X.env.cells.lookup x=some c
 cab:∀x c,X.fn x=true->X.env.cells.lookup x=some c->X.s₀.heap.objs.size<=c
 hd:X.calm=true->X.A.handled=none
 frames:X.A.frames=some X.stack
 stk:X.stack=X.outer\/(X.stack=X.env::X.outer/\X.env.frame=some X.env.locals)
 exf:∀b∈X.ex,b≠X.env.locals/\∀x c,X.env.cells.lookup x=some c->c≠b
 bs:∀b o,X.base.get? b=some o->X.s₀.heap.get? b=some o/\X.H₀ b=none
 bsz:X.base.objs.size<=X.s₀.heap.objs.size
 noex:∀b o,X.base.get? b=some o->b∉X.ex
 exfs:∀b∈X.ex,b∉X.fs
 funs:X.s₀.heap.FunFrames X.base X.outer
 frf:∀b∈X.fs,X.H₀ b=none
structure Inv (X:Cx) (pins:A') (σ:List (S')) (H:Hp) (s:Shared):Prop where
 ok:X.Ok
 os:s.os=X.s₀.os
 bare:AllBare s.gens
 base:Un X.fs X.ex X.H₀ H X.s₀.heap s.heap
 loc:∃m,s.heap.Ns X.env.locals m/\∀(i:Nat)(x:Str)(v:V),X.N[i]?=some x->σ[i]?=some (some v)->Oo X.env.scope x->∃u,RelV v u/\Look X.env s.heap m x u
 cell:∀x c,X.env.cells.lookup x=some c->∃v,s.heap.IsCell c v
 free:H X.env.locals=none
 freeC:∀x c,X.env.cells.lookup x=some c->H c=none
 pin:∀p∈X.pn++pins,s.heap.get? p.1=some p.2/\H p.1=none/\p.1≠X.env.locals/\p.1∉X.fs/\∀v,p.2.data≠.cell v
 hok:CG X.prog X.w H s.heap
 len:σ.length=X.N.length
section
variable {X:Cx} {pins:A'} {σ:List (S')} {H H':Hp} {s:Shared} {h':Heap}
def Cx.Ok.nofr(ok:X.Ok){o:Obj}(e:X.base.get? b=some o):b∉X.fs:=λa=>by have:=(ok.funs.mem a).1;rw[e] at this;cases this
def Inv.bs(I:Inv X pins σ H s):∀b o,X.base.get? b=some o->s.heap.get? b=some o/\H b=none:=λb o e =>
 ⟨I.base.keep b o (I.ok.bs b o e).1 (I.ok.bs b o e).2 (I.ok.nofr e) (I.ok.noex b o e),I.base.free b o (I.ok.bs b o e).1 (I.ok.bs b o e).2 (I.ok.noex b o e)⟩
def Inv.bk(I:Inv X pins σ H s):∀b o,X.base.get? b=some o->s.heap.get? b=some o:=λb o e=>(I.bs b o e).1
def Inv.mod(I:Inv X pins σ H s):Mod X.K X.mg X.base:=I.ok.mod
def Inv.kIn(I:Inv X pins σ H s):X.K.In s.heap:=I.ok.mod.kin.keeps I.bk
def Inv.lt(I:Inv X pins σ H s):X.env.locals<s.heap.objs.size:=let ⟨_,a,_⟩:=I.loc;a.lt
def Inv.sz(I:Inv X pins σ H s):X.s₀.heap.objs.size<=s.heap.objs.size:=Fg I.ok.above (Dk I.lt)
def Inv.nofs(I:Inv X pins σ H s)(h:s.heap.objs.size<=a):a∉X.fs:=λb=>by obtain⟨_,o,c,_⟩:=I.ok.funs.mem b;exact absurd (EK (AY c) (Fg I.sz h)) (EV _)
def Inv.cne(I:Inv X pins σ H s):∀x c,X.env.cells.lookup x=some c->c≠X.env.locals:=λx c e z=>by obtain⟨v,o,a,hd⟩:=I.cell x c e;obtain⟨m,⟨f,g,h,b,d,_⟩,_⟩:=I.loc;rw[z,b] at a;cases a;rw[d] at hd;cases hd
def Inv.funs(I:Inv X pins σ H s):s.heap.FunFrames X.base X.outer:=by
 have all:∀(l:List Env),(∀b∈EM l,b∈X.fs)->X.s₀.heap.FunFrames X.base l->s.heap.FunFrames X.base l:=by
  intro l
  induction l with|nil=>intro _ _;trivial|cons p r g=>intro f h;obtain⟨i,⟨L,o,a,j,k,hd⟩,m⟩:=h;have c:L∈X.fs:=f L (by unfold EM;rw[PQ,a];exact Ea);obtain⟨n,e⟩:=I.base.slot L o k (I.ok.frf L c) c λz=>I.ok.exfs L z c;exact⟨i,⟨L,_,a,j,e,hd⟩,g (λb d=>f b (by unfold EM;rw[PQ,a];exact DL _ d)) m⟩
 exact all X.outer (λ_ d=>d) I.ok.funs
def Inv.stack(I:Inv X pins σ H s):s.heap.FunFrames X.base X.stack:=by rcases I.ok.stk with e|⟨e,a⟩;rw[e];exact I.funs;rw[e];obtain⟨m,b,_⟩:=I.loc;refine .cons (by rw[I.ok.kind];decide) a b ?_ I.funs;exact Heap.get?_none_of_le (Fg I.ok.bsz I.ok.above)
def Inv.stkSub(I:Inv X pins σ H s):∀b∈EM X.stack,b∈X.env.locals::X.fs:=λb a=>by rcases I.ok.stk with e|⟨e,c⟩;rw[e] at a;exact DL _ a;rw[e] at a;unfold EM at a;rw[PQ,c] at a;exact a
def Inv.stkFree(I:Inv X pins σ H s):∀b∈EM X.stack,H b=none:=λb a=>by rcases Cj.mp (I.stkSub b a) with e|a;rw[e];exact I.free;obtain⟨_,o,c,_⟩:=I.ok.funs.mem a;exact I.base.free b o c (I.ok.frf b a) λz=>I.ok.exfs b z a
variable {t':Nat}{ch:E'}
def Inv.step{g':Array GenState}{d':Drawn}(I:Inv X pins σ H s)
 (w:∀b∈ch,(b∈X.ex\/X.s₀.heap.objs.size<=b)/\b≠X.env.locals/\(∀x c,X.env.cells.lookup x=some c->c≠b)/\∀p∈X.pn++pins,p.1≠b)
 (C:∀b o,b≠X.env.locals->b∉X.fs->b∉ch->s.heap.get? b=some o->H b=none->h'.get? b=some o)
 (J:∀b o,b≠X.env.locals->b∈X.fs->b∉ch->s.heap.get? b=some o->H b=none->∃B,h'.get? b=some {o with slots:=B}) (free:∀b o,b∉ch->s.heap.get? b=some o->H b=none->H' b=none)
 (there:∀b o,b∉ch->s.heap.get? b=some o->∃j,h'.get? b=some j)
 (T:∀b xs,H b=some (.tup xs)->H' b=some (.tup xs)) (U:∀b o u,H b=some (.frz o u)->H' b=some (.frz o u)) (V:∀b ps,H b=some (.tbl ps)->∃more,H' b=some (.tbl (ps++more)))
 (ns:∀m,s.heap.Ns X.env.locals m->h'.Ns X.env.locals m) (R:CG X.prog X.w H' h') (L:AllBare g') :
 Inv X pins σ H' {s with heap:=h',gens:=g',drawn:=d',toks:=t'}:=by
 have G:∀b o,X.s₀.heap.get? b=some o->b≠X.env.locals:=λb o e=>CF (EK (AY e) I.ok.above)
 have A:∀b o,X.s₀.heap.get? b=some o->b∉X.ex->b∉ch:=λb o e a g=>by
  rcases(w b g).1 with z|z;exact a z;exact absurd (EK (AY e) z) (EV _)
 have K:∀x c,X.env.cells.lookup x=some c->∀v,s.heap.IsCell c v->h'.IsCell c v:=λx c e v⟨o,h,hd⟩=>by
  have y:c∉ch:=λz=>(w c z).2.2.1 x c e rfl;by_cases D:c∈X.fs;obtain⟨B,q⟩:=J c o (I.cne x c e) D y h (I.freeC x c e);exact⟨_,q,hd⟩;exact⟨o,C c o (I.cne x c e) D y h (I.freeC x c e),hd⟩
 refine⟨I.ok,I.os,L,⟨λb o e n g a=>?_,λb o e n g a=>?_,λb o e n a=>?_,λb o e a=>?_,λb xs e=>T b xs (I.base.tups b xs e),λb o xs e=>U b o xs (I.base.frzs b o xs e),λb ps e=>?_⟩,?_,λx c e=>?_,?_,λx c e=>?_,λp E=>?_,R,I.len⟩;exact C b o (G b o e) g (A b o e a) (I.base.keep b o e n g a) (I.base.free b o e n a);obtain⟨B,f⟩:=I.base.slot b o e n g a;obtain⟨S,t⟩:=J b _ (G b o e) g (A b o e a) f (I.base.free b o e n a);exact⟨S,t⟩;obtain⟨j,f⟩:=I.base.there b o e a;exact free b j (A b o e a) f (I.base.free b o e n a);obtain⟨j,f⟩:=I.base.there b o e a;exact there b j (A b o e a) f;obtain⟨M,f⟩:=I.base.tbls b ps e;obtain⟨N,t⟩:=V b _ f;exact⟨M++N,by rw[t,Array.append_assoc]⟩;obtain⟨m,O,P⟩:=I.loc;refine⟨m,ns m O,λi x v f t Q=>?_⟩;obtain⟨u,r,l⟩:=P i x v f t Q;refine⟨u,r,?_⟩;rcases l with l|⟨k,c,e,z⟩;exact .inl l;exact .inr ⟨k,c,e,K x c e _ z⟩;obtain⟨v,z⟩:=I.cell x c e;exact⟨v,K x c e v z⟩;obtain⟨m,⟨o,_,_,h,_⟩,_⟩:=I.loc;exact free _ o (λz=>(w _ z).2.1 rfl) h I.free;obtain⟨v,o,h,hd⟩:=I.cell x c e;exact free c o (λz=>(w c z).2.2.1 x c e rfl) h (I.freeC x c e);obtain⟨e,n,ne,F,d⟩:=I.pin p E;have y:p.1∉ch:=λz=>(w p.1 z).2.2.2 p E rfl;exact⟨C p.1 p.2 ne F y e n,free p.1 p.2 y e n,ne,F,d⟩
def Inv.un(I:Inv X pins σ H s)(u:Un X.fs [] H H' s.heap h')(i:CG X.prog X.w H' h'):Inv X pins σ H' {s with heap:=h',toks:=t'}:=by
 obtain⟨m,⟨o,l,p,c,r⟩,_⟩:=id I.loc;obtain⟨q,f⟩:=u.any c I.free (by simp)
 exact I.step (g':=s.gens) (d':=s.drawn) (ch:=[]) (λ_ z=>nomatch z) (λb o _ a _ e n=>u.keep b o e n a (by simp)) (λb o _ a _ e n=>u.slot b o e n a (by simp)) (λb o _ e n=>u.free b o e n (by simp)) (λb o _ e=>u.there b o e (by simp)) u.tups u.frzs u.tbls (λt g=>by
  obtain⟨v,j,k,d,h⟩:=g;rw[c] at d;cases d;exact⟨_,j,k,f,h⟩) i I.bare
def Inv.call{g':Array GenState}{d':Drawn}(I:Inv X pins σ H s)(u:Un (EM X.stack) ch H H' s.heap h')(q:CG X.prog X.w H' h')(i:AllBare g')
 (g:∀b∈ch,(b∈X.ex\/X.s₀.heap.objs.size<=b)/\b≠X.env.locals/\(∀x c,X.env.cells.lookup x=some c->c≠b)/\∀p∈X.pn++pins,p.1≠b) :
 Inv X pins σ H' {s with heap:=h',gens:=g',drawn:=d',toks:=t'}:=by
 obtain⟨m,⟨o,w,y,f,r⟩,_⟩:=id I.loc;obtain⟨A,d⟩:=u.any f I.free λz=>(g _ z).2.1 rfl
 exact I.step (ch:=ch) g (λb o d j a e n=>u.keep b o e n (λz=>(Cj.mp (I.stkSub b z)).elim d j) a) (λb o _ _ a e n=>u.any e n a) (λb o a e n=>u.free b o e n a) (λb o a e=>u.there b o e a) u.tups u.frzs u.tbls (λB k=>by
  obtain⟨C,t,v,h,l⟩:=k;rw[f] at h;cases h;exact⟨_,t,v,d,l⟩) q i
def Inv.turned{a:Addr}(I:Inv X pins σ H s)(k:∀b o,b≠a->s.heap.get? b=some o->h'.get? b=some o)(h:H a=none)(f:a≠X.env.locals)
 (i:a∈X.ex\/X.s₀.heap.objs.size<=a) (j:∀x c,X.env.cells.lookup x=some c->c≠a) (l:∀p∈X.pn++pins,p.1≠a):Inv X pins σ H {s with heap:=h',toks:=t'}:=by
 have g:∀b u,H b=some u->b≠a:=λb u e z=>by rw[z,h] at e;cases e
 refine I.step (g':=s.gens) (d':=s.drawn) (ch:=[a]) (λb t=>?_) (λb o _ _ d e _=>k b o (λz=>d (by simp[z])) e) (λb o _ _ d e _=>⟨o.slots,k b o (λz=>d (by simp[z])) e⟩) (λ_ _ _ _ n=>n)
  (λb o d e=>⟨o,k b o (λz=>d (by simp[z])) e⟩) (λ_ _ e=>e) (λ_ _ _ e=>e) (λb C e=>⟨#[],by rw[e];simp⟩) (λm w=>?_) (λb u e=>?_) I.bare
 have e:b=a:=(by simpa using t);subst e;exact⟨i,f,j,l⟩;obtain⟨o,y,A,B,r⟩:=w;exact⟨o,y,A,k _ o (Ne.symm f) B,r⟩;refine(I.hok b u e).stay (λc v d q=>k c v ?_ q) (λ_ q=>q) λ_ _ q=>q;rcases d with z|z;rw[z];exact g b u e;exact g c _ z
def Inv.tok(I:Inv X pins σ H s)(t:Nat):Inv X pins σ H {s with toks:=t}:=I.un (h':=s.heap) (t':=t) Un.refl I.hok
def Inv.kept{t':Nat}(I:Inv X pins σ H s)(k:∀b u,s.heap.get? b=some u->h'.get? b=some u):Inv X pins σ H {s with heap:=h',toks:=t'}:=I.un (Un.kept k) (I.hok.kept k)
def Inv.laid{a:Addr}{o:HO}{t':Nat}(I:Inv X pins σ H s)(k:∀b u,s.heap.get? b=some u->h'.get? b=some u)(c:s.heap.objs.size<=a)(d:Az X.prog X.w (upd H a o) h' a o) :
 Inv X pins σ (upd H a o) {s with heap:=h',toks:=t'}:=I.un (Un.laid k c (I.hok.fresh c)) (I.hok.laid k c d)
def Inv.write{x e:Addr}{o:HO}{t':Nat}(I:Inv X pins σ H s)(a:MQ (H x))(c:e=x\/H e=some (.own x))(k:∀b u,b≠e->s.heap.get? b=some u->h'.get? b=some u)(d:∃u,h'.get? e=some u)
 (f:Az X.prog X.w (upd H x o) h' x o):Inv X pins σ (upd H x o) {s with heap:=h',toks:=t'}:=I.un (Un.write a c k d) (I.hok.write a c k d f)
def Inv.pins_of{a:A'}(I:Inv X pins σ H s)(h:∀p∈a,s.heap.get? p.1=some p.2/\H p.1=none/\p.1≠X.env.locals/\p.1∉X.fs/\∀v,p.2.data≠.cell v):Inv X a σ H s:=
 ⟨I.ok,I.os,I.bare,I.base,I.loc,I.cell,I.free,I.freeC,λp b=>(EJ.mp b).elim (λz=>I.pin p (Ht _ z)) (h p),I.hok,I.len⟩
variable {i:Nat}{x:Str}
def R7{N:F'}(c:N.Nodup){j:Nat}(a:N[i]?=some x)(b:N[j]?=some x):i=j:=by obtain⟨f,d⟩:=AS.mp a;obtain⟨g,e⟩:=AS.mp b;exact(List.getElem_inj c).mp (d.trans e.symm)
def Sa{ai:Model}{A:Around}{E:B'}{v:V}{u:Value}{Q:Unit->Shared->Prop}(I:Inv X pins σ H s)(U:X.N.Nodup)(D:X.N[i]?=some x)(m:Loc X.env.scope x)(r:RelV v u)
 (h:∀Z,Inv X pins (σ.set i (some v)) H Z->(∃a,Heap.SameBut a s.heap Z.heap/\(a=X.env.locals\/X.env.cells.lookup x=some a))->Q () Z) (hf:X.fn x=true\/X.env.scope.names.lookup x=some .local:=by first|exact .inl rfl|exact .inr rfl|assumption):wpAny ai A (storeName X.env x u) Q E s:=by
 obtain⟨aj,J,W⟩:=id I.loc;have an:(X.env.scope.kind==.class || (X.env.scope.kind==.module && X.env.locals != X.env.globals))=false:=by rw[I.ok.kind];rfl
 have aa:i<σ.length:=by rw[I.len];exact(AS.mp D).1
 have cne:=I.cne
 have ah:∀{a:Addr}{h':Heap},(∃o,s.heap.get? a=some o/\H a=none)->Heap.SameBut a s.heap h'->CG X.prog X.w H h':=λ{a h'}ha f b ob e=>by
  obtain⟨_,_,ag⟩:=ha;refine(I.hok b ob e).stay (λc F l q=>(f.2 c ?_).trans q) (λ_ q=>q) λ_ _ q=>q;rintro rfl;rcases l with rfl|l;rw[ag] at e;cases e;rw[ag] at l;cases l
 rcases m with w|w;refine wpAny_storeName_local w J (λh' ak f=>?_) an;obtain⟨oL,_,_,al,_⟩:=id J;refine h _ ⟨I.ok,I.os,I.bare,⟨λb o e n B m=>?_,λb o e n B m=>?_,I.base.free,λb o e m=>?_,I.base.tups,I.base.frzs,I.base.tbls⟩,⟨_,ak,λj y K g t L=>?_⟩,λy c e=>?_,I.free,I.freeC,λp M=>?_,ah ⟨oL,al,I.free⟩ f,by simpa using I.len⟩ ⟨_,f,.inl rfl⟩;exact(f.2 b (CF (EK (AY e) I.ok.above))).trans (I.base.keep b o e n B m);obtain⟨N,g⟩:=I.base.slot b o e n B m;exact⟨N,(f.2 b (CF (EK (AY e) I.ok.above))).trans g⟩;obtain⟨O,g⟩:=I.base.there b o e m;exact⟨O,(f.2 b (CF (EK (AY e) I.ok.above))).trans g⟩;by_cases C:j=i;subst C;rw[D] at g;cases g;rw[w4 aa] at t;cases t;exact⟨u,r,.inl ⟨w,by simp⟩⟩;rw[u8 (Ne.symm C)] at t;obtain⟨P,R,q⟩:=W j y K g t L;refine⟨P,R,?_⟩;rcases q with⟨k,e⟩|⟨k,c,e,z⟩;refine .inl ⟨k,?_⟩;have:y≠x:=λe=>C (R7 U g (e▸D));simp[this,e];exact .inr ⟨k,c,e,z.sameBut f (cne y c e)⟩;obtain⟨F,z⟩:=I.cell y c e;exact⟨F,z.sameBut f (cne y c e)⟩;obtain⟨e,n,ne,S,d⟩:=I.pin p M;exact⟨(f.2 p.1 ne).trans e,n,ne,S,d⟩;have T:X.fn x=true:=(by rcases hf with z|z;exact z;rw[z] at w;cases w);obtain⟨c,l⟩:=I.ok.has x (.inl w);obtain⟨F,z⟩:=I.cell x c l;refine wpAny_storeName_cell I.ok.kind w l z (λh' ab f=>?_);obtain⟨Y,ae,ao⟩:=id z;refine h {s with heap:=h'} ⟨I.ok,I.os,I.bare,⟨λb o e n B m=>?_,λb o e n B m=>?_,I.base.free,λb o e m=>?_,I.base.tups,I.base.frzs,I.base.tbls⟩,⟨aj,J.sameBut f (Ne.symm (cne x c l)),λj y K g t L=>?_⟩,λy G e=>?_,I.free,I.freeC,λp M=>?_,ah ⟨Y,ae,I.freeC x c l⟩ f,by simpa using I.len⟩ ⟨c,f,.inr l⟩;exact(f.2 b (CF (EK (AY e) (I.ok.cab x c T l)))).trans (I.base.keep b o e n B m);obtain⟨N,g⟩:=I.base.slot b o e n B m;exact⟨N,(f.2 b (CF (EK (AY e) (I.ok.cab x c T l)))).trans g⟩;obtain⟨O,g⟩:=I.base.there b o e m;exact⟨O,(f.2 b (CF (EK (AY e) (I.ok.cab x c T l)))).trans g⟩;by_cases C:j=i;subst C;rw[D] at g;cases g;rw[w4 aa] at t;cases t;exact⟨u,r,.inr ⟨.inl w,c,l,ab⟩⟩;rw[u8 (Ne.symm C)] at t;obtain⟨P,R,q⟩:=W j y K g t L;refine⟨P,R,?_⟩;rcases q with q|⟨k,G,e,z'⟩;exact .inl q;refine .inr ⟨k,G,e,z'.sameBut f ?_⟩;rintro rfl;exact C (R7 U g (I.ok.inj _ _ _ e l▸D));by_cases af:G=c;subst af;exact⟨_,ab⟩;obtain⟨w2,z2⟩:=I.cell y G e;exact⟨w2,z2.sameBut f af⟩;obtain⟨e,n,ne,S,d⟩:=I.pin p M;refine⟨(f.2 p.1 ?_).trans e,n,ne,S,d⟩;intro q;rw[q,ae] at e;have q':Y=p.2:=Ce e;exact d F (by rw[<-q'];exact ao)
def PU{M:Model}{A:Around}{E:B'}{v:V}{u:Value}{Q:Unit->Shared->Prop}(I:Inv X pins σ H s)(a:X.N.Nodup)(b:X.N[i]?=some x)(c:Loc X.env.scope x)(r:RelV v u)
 (h:∀Z,Inv X pins (σ.set i (some v)) H Z->Q () Z) (d:X.fn x=true\/X.env.scope.names.lookup x=some .local:=by first|exact .inl rfl|exact .inr rfl|assumption):wpAny M A (storeName X.env x u) Q E s:=
 Sa I a b c r (λZ e _=>h Z e) d
def Inv.call'{Z:Shared}(I:Inv X pins σ H s)(a:Z.os=s.os)(u:Un (EM X.stack) ch H H' s.heap Z.heap)(g:CG X.prog X.w H' Z.heap)(d:AllBare Z.gens)
 (h:∀b∈ch,(b∈X.ex\/X.s₀.heap.objs.size<=b)/\b≠X.env.locals/\(∀x c,X.env.cells.lookup x=some c->c≠b)/\∀p∈X.pn++pins,p.1≠b):Inv X pins σ H' Z:=by
 obtain⟨h',g',d',t',f⟩:=Z;have e:f=s.os:=a;subst e;exact I.call (g':=g') (t':=t') (d':=d') u g d h
end
abbrev XK:=Value->Option Addr->Hp->Prop
abbrev St:=List (Option V)
abbrev VK:=V->Hp->Prop
abbrev TE:=St->Hp->VK->Prop
abbrev TT:=St->Hp->(Bool->Hp->Prop)->Prop
abbrev TA:=St->Hp->(R'->Hp->Prop)->Prop
structure Ends where
 nx:St->Hp->Prop
 rt:VK
 bk:St->Hp->Prop:=λ_ _=>False
 ct:St->Hp->Prop:=λ_ _=>False
abbrev TS:=Ends->St->Hp->Prop
def EP (X:Cx) (pins:A') (σ:St) (Q:VK) (u:Value) (Z:Shared):Prop:=∃v H',Inv X pins σ H' Z/\RelV v u/\Q v H'
def TP (X:Cx) (pins:A') (σ:St) (Q:Bool->Hp->Prop) (b:Bool) (Z:Shared):Prop:=∃H',Inv X pins σ H' Z/\Q b H'
def AP (X:Cx) (pins:A') (σ:St) (Q:R'->Hp->Prop) (us:D') (Z:Shared):Prop:=∃vs H',Inv X pins σ H' Z/\Aq vs us/\Q vs H'
def SP (X:Cx) (pins:A') (D:Ends) (f:Flow) (Z:Shared):Prop:=
 match f with
 |.next=>∃σ' H',Inv X pins σ' H' Z/\D.nx σ' H'
 |.brk=>∃σ' H',Inv X pins σ' H' Z/\D.bk σ' H'
 |.cont=>∃σ' H',Inv X pins σ' H' Z/\D.ct σ' H'
 |.ret u=>∃v σ' H',Inv X pins σ' H' Z/\RelV v u/\D.rt v H'
def PE (X:Cx) (e:Expr) (t:TE):Prop:=
 ∀(pins:A')(s:Shared)(σ:St)(H:Hp)(Q:VK),Inv X pins σ H s->t σ H Q->wpAny (model X.prog X.w) X.A (eval e X.env) (EP X pins σ Q) X.xe s
def PT (X:Cx) (e:Expr) (t:TT):Prop:=
 ∀(pins:A')(s:Shared)(σ:St)(H:Hp)(Q:Bool->Hp->Prop),Inv X pins σ H s->t σ H Q->wpAny (model X.prog X.w) X.A (isTrue e X.env (eval e X.env)) (TP X pins σ Q) X.xe s
def PW (X:Cx) (e:Expr) (t:TT):Prop:=
 ∀(whole:Sem Value)(pins:A')(s:Shared)(σ:St)(H:Hp)(Q:Bool->Hp->Prop),Inv X pins σ H s->t σ H Q->wpAny (model X.prog X.w) X.A (isTrue e X.env whole) (TP X pins σ Q) X.xe s
variable {X:Cx}{e:Expr}
def PW.pt{t:TT}(h:PW X e t):PT X e t:=h _
def PA (X:Cx) (es:L') (t:TA):Prop:=
 ∀(L:Pos)(pins:A')(s:Shared)(σ:St)(H:Hp)(Q:R'->Hp->Prop),Inv X pins σ H s->t σ H Q->wpAny (model X.prog X.w) X.A (spliced (backTo L (starEach es X.env))) (AP X pins σ Q) X.xe s
def PS (X:Cx) (st:Stmt) (t:TS):Prop:=
 ∀(pins:A')(s:Shared)(σ:St)(H:Hp)(D:Ends),Inv X pins σ H s->t D σ H->wpAny (model X.prog X.w) X.A (exec st X.env) (SP X pins D) X.xe s
def Fi (X:Cx) (st:List Stmt) (t:TS):Prop:=
 ∀(pins:A')(s:Shared)(σ:St)(H:Hp)(D:Ends),Inv X pins σ H s->t D σ H->wpAny (model X.prog X.w) X.A (execs st X.env) (SP X pins D) X.xe s
variable {A:Around}{E:B'}{s:Shared}
def AJ{α:Type}{t:Sem α}{Q b:α->Shared->Prop}{M:Model}(h:wpAny M A t Q E s)(c:∀a s,Q a s->b a s):wpAny M A t b E s:=E5 h c λ_ _ x=>x
section
variable {X:Cx}
def Bg (i:Nat):TE:=λσ H Q=>∃v,σ[i]?=some (some v)/\Q v H
def tC (v:V):TE:=λ_ H Q=>Q v H
variable {x:Str}{L:Pos}
def JY{i:Nat}(g:X.N[i]?=some x)(j:Oo X.env.scope x)(hd:(x==b')=false:=by decide)(p:(x==("__classdict__":Str))=false:=by decide):PE X (.Name x L) (Bg i):=by intro q s σ H Q I h;obtain⟨v,e,h⟩:=h;obtain⟨m,k,n⟩:=I.loc;obtain⟨u,r,l⟩:=n i x v g e j;have b:EP X q σ Q u s:=⟨v,H,I,r,h⟩;rcases l with⟨a,o⟩|⟨a,c,d,f⟩;exact wpAny_Name (wpAny_loadName_local I.ok.kind a k o b) hd;rcases a with a|a;exact wpAny_Name (wpAny_loadName_cell I.ok.kind a d f b) hd;exact wpAny_Name (wpAny_loadName_free I.ok.kind a d f b p) hd
def At{i j L}:PE X (.Constant (.int i) j L) (tC (.int i)):=λ_ _ _ H _ I h=>wpAny_Constant_int ⟨.int i,H,I.tok _,⟨_,rfl⟩,h⟩
def MR{b j L}:PE X (.Constant (.bool b) j L) (tC (.bl b)):=λ_ _ _ H _ I h=>Constant_bool ⟨.bl b,H,I,rfl,h⟩
def I0{j L}:PE X (.Constant .none j L) (tC .non):=λ_ _ _ H _ I h=>Constant_none ⟨.non,H,I,rfl,h⟩
def B0{x j L}:PE X (.Constant (.str x) j L) (tC (.str x)):=λ_ _ _ H _ I h=>Calls.Constant_str ⟨.str x,H,I.tok _,⟨_,rfl⟩,h⟩
def Gl (X:Cx) (x:Str):Prop:=X.env.kindOf x=some .globalImplicit
def Sb{pins:A'}{σ:St}{u:Value}{Q:B'}(I:Inv X pins σ H s)(a:Gl X x)(b:X.mg x=some u)(h:Q u s)
 (hd:(x==b')=false:=by decide):wpAny (model X.prog X.w) X.A (eval (.Name x L) X.env) Q E s:=
 Calls.Name_function_global I.ok.kind a (Calls.loadGlobal_global (by rw[I.ok.glob];exact I.mod.glob.keeps I.bk) b h) hd
def HD{pins:A'}{σ:St}{u:Value}{Q:B'}(I:Inv X pins σ H s)(a:Gl X x)(b:X.mg x=none)(c:bootBuiltins x=some u)(h:Q u s)
 (d:x ≠ "__name__" :=by decide) (hd:(x==b')=false:=by decide):wpAny (model X.prog X.w) X.A (eval (.Name x L) X.env) Q E s:=by
 obtain⟨g,e,f⟩:=I.mod.blt;exact Calls.Name_function_global I.ok.kind a (Calls.loadGlobal_builtin (by rw[I.ok.glob];exact I.mod.glob.keeps I.bk) b (by rw[I.ok.blt];exact e.keeps I.bk) ((f x d).trans c) h) hd
def FY{v:V}{u:Value}(a:Gl X x)(b:X.mg x=some u)(r:RelV v u)(hd:(x==b')=false:=by decide):PE X (.Name x L) (tC v):=
 λ_ _ _ H _ I h=>Sb I a b ⟨v,H,I,r,h⟩ hd
def HE{v:V}{u:Value}(a:Gl X x)(b:X.mg x=none)(c:bootBuiltins x=some u)(r:RelV v u)(d:x ≠ "__name__" :=by decide)(hd:(x==b')=false:=by decide):PE X (.Name x L) (tC v):=
 λ_ _ _ H _ I h=>HD I a b c ⟨v,H,I,r,h⟩ d hd
variable {a b:Expr} {F j:TE} {L:Pos}
def PC (X:Cx) (op:CmpOp) (a b:Expr) (t:TE):Prop:=
 ∀(pins:A')(s:Shared)(σ:St)(H:Hp)(Q:VK),Inv X pins σ H s->t σ H Q ->
  wpAny (model X.prog X.w) X.A (eval a X.env) (λv s₁=>wpAny (model X.prog X.w) X.A (eval b X.env) (λu s₂=>wpAny (model X.prog X.w) X.A (compareOp op v u) (EP X pins σ Q) X.xe s₂) X.xe s₁) X.xe s
variable {op:CmpOp}
def Sc(b:Expr)(h:op≠.In)(a:op≠.NotIn):behindInMarks op b=false:=by
 have c:(op==CmpOp.In)=false:=by cases op<;>first|rfl|exact absurd rfl h
 have d:(op==CmpOp.NotIn)=false:=by cases op<;>first|rfl|exact absurd rfl a
 cases b<;>simp[behindInMarks,c,d]
def MS (F:TE):TE:=λσ H Q=>F σ H λx H1=>Q (.bl (decide (x=.non))) H1
def I7 (F:TE):TE:=λσ H Q=>F σ H λx H1=>Q (.bl (!decide (x=.non))) H1
def RelV.none_iff{x:V}{v:Value}(r:RelV x v):(v==Value.none)=decide (x=.non):=by
 cases x with|non=>cases r;rfl|bl _=>cases r;rfl|int _=>obtain⟨t,rfl⟩:=r;rfl|str _=>obtain⟨t,rfl⟩:=r;rfl|byt _=>obtain⟨t,rfl⟩:=r;rfl|flt _=>obtain⟨t,rfl⟩:=r;rfl|ref _=>cases r;rfl|ty _=>cases r;rfl
def HF{j t}(b:PE X a F):PC X .Is a (.Constant .none j t) (MS F):=by intro g s σ H Q I h;refine AJ (b g s σ H _ I h) λv i⟨x,c,d,e,f⟩=>?_;exact Constant_none (is_none_gen ⟨.bl _,c,d,by rw[e.none_iff];rfl,f⟩)
def PV{j t}(b:PE X a F):PC X .IsNot a (.Constant .none j t) (I7 F):=by intro g s σ H Q I h;refine AJ (b g s σ H _ I h) λv i⟨x,c,d,e,f⟩=>?_;exact Constant_none (isnot_none_gen ⟨.bl _,c,d,by rw[e.none_iff];rfl,f⟩)
def tB (t:TE):TT:=λσ H Q=>t σ H λx H1=>∃c,x=.bl c/\Q c H1
def Gn{t:TE}(h:PC X op a b t)(c:behindInMarks op b=false:=by first|exact Sc _ (by decide) (by decide)|rfl):PE X (.Compare a [op] [b] L) t:=λe s σ H Q I d=>wpAny_Compare1 (h e s σ H Q I d) c
def Hh{t:TE}(h:PC X op a b t)(e:behindInMarks op b=false:=by first|exact Sc _ (by decide) (by decide)|rfl):PT X (.Compare a [op] [b] L) (tB t):=by intro m s σ H Q I f;refine wpAny_isTrue_Compare1 (AJ (h m s σ H _ I f) λv n e=>AJ e λu o g=>AJ g λc p⟨x,i,j,k,l⟩=>?_) e;obtain⟨d,rfl,q⟩:=l;cases k;exact Ey ⟨i,j,q⟩
def Dq{t:TE}(h:PE X e t)(a:∀whole,isTrue e X.env whole=(do let v <-whole;standAt e.pos;holding [v] (truthy v)):=by intro _;rfl):PT X e (tB t):=by intro j s σ H Q I b;refine isTrue_plain (AJ (h j s σ H _ I b) λv k⟨x,c,f,g,i⟩=>?_) (a _);obtain⟨d,rfl,q⟩:=i;cases g;exact Ey ⟨c,f,q⟩
variable {f tB':TT} {rest:L'}
def MT (t u:TT):TT:=λσ H Q=>t σ H λc H1=>if c=true then u σ H1 Q else Q false H1
def UD (t u:TT):TT:=λσ H Q=>t σ H λc H1=>if c=true then Q true H1 else u σ H1 Q
def PX (t:TT):TT:=λσ H Q=>t σ H λc H1=>Q (!c) H1
def HG(b:PT X a f):PW X (.BoolOp .And [a] L) f:=by
 intro g d s σ H Q I h;refine isTrue_and (AJ (b d s σ H Q I h) λc i e=>?_);cases c with|true=>exact isTrue_and_nil e|false=>exact e
def Mt(b:PT X a f):PW X (.BoolOp .Or [a] L) f:=by
 intro g d s σ H Q I h;refine isTrue_or (AJ (b d s σ H Q I h) λc i e=>?_);cases c with|false=>exact isTrue_or_nil e|true=>exact e
def HH(j:PT X a f)(k:PW X (.BoolOp .And (b::rest) L) tB'):PW X (.BoolOp .And (a::b::rest) L) (MT f tB'):=by
 intro l i s σ H Q I h;refine isTrue_and (AJ (j i s σ H _ I h) λc m⟨d,e,g⟩=>?_);cases c with|true=>exact k l i m σ d Q e g|false=>exact⟨d,e,g⟩
def Ja(j:PT X a f)(k:PW X (.BoolOp .Or (b::rest) L) tB'):PW X (.BoolOp .Or (a::b::rest) L) (UD f tB'):=by
 intro l i s σ H Q I h;refine isTrue_or (AJ (j i s σ H _ I h) λc m⟨d,e,g⟩=>?_);cases c with|true=>exact⟨d,e,g⟩|false=>exact k l i m σ d Q e g
def E6(b:PT X a f):PT X (.UnaryOp .Not a L) (PX f):=by intro e s σ H Q I h;exact isTrue_not (b e s σ H (λc d=>Q (!c) d) I h)
def MU (F j:TE):TE:=λσ H Q=>F σ H λx H1=>∃c,x=.bl c/\if c=true then j σ H1 Q else Q (.bl false) H1
def PY (F j:TE):TE:=λσ H Q=>F σ H λx H1=>∃c,x=.bl c/\if c=true then Q (.bl true) H1 else j σ H1 Q
def MV (F:TE):TE:=λσ H Q=>F σ H λx H1=>∃c,x=.bl c/\Q (.bl (!c)) H1
def JZ{op}{t:TE}(h:PE X a t):PE X (.BoolOp op [a] L) t:=λc s σ H Q I b=>BoolOp_one (h c s σ H Q I b)
def J5(i:PE X a F)(k:PE X (.BoolOp .And (b::rest) L) j):PE X (.BoolOp .And (a::b::rest) L) (MU F j):=by
 intro g s σ H Q I h;refine BoolOp_and (AJ (i g s σ H _ I h) λv l⟨x,e,f,m,d⟩=>?_);obtain⟨c,rfl,d⟩:=d;cases m;refine Ey ?_;cases c with|true=>exact k g l σ e Q f d|false=>exact⟨.bl false,e,f,rfl,d⟩
def MW(i:PE X a F)(k:PE X (.BoolOp .Or (b::rest) L) j):PE X (.BoolOp .Or (a::b::rest) L) (PY F j):=by
 intro g s σ H Q I h;refine BoolOp_or (AJ (i g s σ H _ I h) λv l⟨x,e,f,m,d⟩=>?_);obtain⟨c,rfl,d⟩:=d;cases m;refine Ey ?_;cases c with|false=>exact k g l σ e Q f d|true=>exact⟨.bl true,e,f,rfl,d⟩
def Go(d:PE X a F):PE X (.UnaryOp .Not a L) (MV F):=by intro i s σ H Q I h;refine UnaryOp_ (AJ (d i s σ H _ I h) λv j⟨x,e,f,g,b⟩=>?_);obtain⟨c,rfl,b⟩:=b;cases g;exact not_of (Ey ⟨.bl (!c),e,f,rfl,b⟩)
def Sd (t:TT) (F j:TE):TE:=λσ H Q=>t σ H λc H1=>if c=true then F σ H1 Q else j σ H1 Q
def UE{c:Expr}(m:PT X c f)(n:PE X a F)(o:PE X b j):PE X (.IfExp c a b L) (Sd f F j):=by
 intro e s σ H Q I h;refine wpAny_IfExp (AJ (m e s σ H _ I h) λd g⟨i,k,l⟩=>?_);cases d with|true=>exact n e g σ i Q k l|false=>exact o e g σ i Q k l
end
def Ad (K:Ah) (H:Hp) (a:Addr) (xs:R'):Prop:=
 Rd H a (.lst xs) \/
  ∃(o:Obj)(its:K')(n:Nat),K.lookup a=some o/\o.cls=.type "list" /\ o.dict=none/\o.data=.seq its n/\its.size<=sizeLine/\Aq xs its.toList
def Am (K:Ah) (H:Hp) (a:Addr) (xs:R'):Prop:=
 Rd H a (.tup xs) \/
  ∃(o:Obj)(its:K')(n:Nat),K.lookup a=some o/\o.cls=.type "tuple" /\ o.data=.seq its n/\its.size<=sizeLine/\Aq xs its.toList
def PZ:Value->S'
 |.none=>some .non
 |.bool b=>some (.bl b)
 |.int i _=>some (.int i)
 |.str x _=>some (.str x)
 |.bytes b _=>some (.byt b)
 |.float b _=>some (.flt b)
 |.ref a=>some (.ref a)
 |.type n=>some (.ty n)
 |_=>none
variable {x:V}
def RelV.abs{u:Value}(r:RelV x u):PZ u=some x:=by
 cases x with|non=>cases r;rfl|bl _=>cases r;rfl|int _=>obtain⟨t,rfl⟩:=r;rfl|str _=>obtain⟨t,rfl⟩:=r;rfl|byt _=>obtain⟨t,rfl⟩:=r;rfl|flt _=>obtain⟨t,rfl⟩:=r;rfl|ref _=>cases r;rfl|ty _=>cases r;rfl
def RelV.inj{y:V}{u:Value}(r:RelV x u)(q:RelV y u):x=y:=Ce (r.abs.symm.trans q.abs)
theorem Aq.inj:∀{xs ys:R'}{us:D'},Aq xs us->Aq ys us->xs=ys
 |_,_,_,.nil,.nil=>rfl
 |_,_,_,.cons r t,.cons a t'=>by rw[r.inj a,Aq.inj t t']
section
variable {X:Cx} {pins:A'} {σ:St} {H:Hp} {s:Shared} {a:Addr} {xs ys:R'}
def Ad.of{K:Ah}(h:H a=some (.lst xs)):Ad K H a xs:=.inl (.inl h)
def Am.of{K:Ah}(h:H a=some (.tup xs)):Am K H a xs:=.inl (.inl h)
def Inv.list(I:Inv X pins σ H s)(h:Ad X.K H a xs):∃b:D',Aq xs b/\PlainL s.heap a b.toArray/\xs.length<=sizeLine:=by rcases h with h|⟨o,b,n,c,d,hd,f,g,r⟩;obtain⟨z,b,n,r,e⟩:=h.ok I.hok;exact⟨b,r,⟨_,n,e,rfl,rfl,rfl⟩,z⟩;refine⟨b.toList,r,⟨o,n,I.kIn a o c,d,hd,by simpa using f⟩,?_⟩;have e:=r.length;simp only[Array.length_toList] at e;lia
def Inv.tuple(I:Inv X pins σ H s)(h:Am X.K H a xs):∃b:D',Aq xs b/\IsTup s.heap a b.toArray/\xs.length<=sizeLine:=by rcases h with h|⟨o,b,n,c,d,f,g,r⟩;obtain⟨z,b,r,p⟩:=h.ok I.hok;exact⟨b,r,p,z⟩;refine⟨b.toList,r,⟨o,I.kIn a o c,d,n,by simpa using f⟩,?_⟩;have e:=r.length;simp only[Array.length_toList] at e;lia
def Inv.list_inj(I:Inv X pins σ H s)(h:Ad X.K H a xs)(h':Ad X.K H a ys):xs=ys:=by obtain⟨i,r,⟨o,n,e,_,_,d⟩,_⟩:=I.list h;obtain⟨j,f,⟨k,l,b,_,_,c⟩,_⟩:=I.list h';rw[e] at b;cases b;rw[d] at c;injection c with g _;have:i=j:=(by simpa using DK Array.toList g);subst this;exact r.inj f
def Inv.tuple_inj(I:Inv X pins σ H s)(h:Am X.K H a xs)(h':Am X.K H a ys):xs=ys:=by obtain⟨i,r,⟨o,e,_,n,d⟩,_⟩:=I.tuple h;obtain⟨j,f,⟨k,b,_,l,c⟩,_⟩:=I.tuple h';rw[e] at b;cases b;rw[d] at c;injection c with g _;have:i=j:=(by simpa using DK Array.toList g);subst this;exact r.inj f
end
abbrev Cx.wish (X:Cx) (E:B'):Cx:={X with xe:=E}
abbrev Cx.nox (X:Cx):Cx:=X.wish λ_ _=>False
def Cx.Ok.wish{X:Cx}(ok:X.Ok)(E:B'):(X.wish E).Ok:=
 ⟨ok.mod,ok.kind,ok.glob,ok.blt,ok.above,ok.inj,ok.has,ok.cab,ok.hd,ok.frames,ok.stk,ok.exf,ok.bs,ok.bsz,ok.noex,ok.exfs,ok.funs,ok.frf⟩
def Cx.Ok.unwish(ok:(X.wish E).Ok):X.Ok:=
 ⟨ok.mod,ok.kind,ok.glob,ok.blt,ok.above,ok.inj,ok.has,ok.cab,ok.hd,ok.frames,ok.stk,ok.exf,ok.bs,ok.bsz,ok.noex,ok.exfs,ok.funs,ok.frf⟩
section
variable {X:Cx} {pins:A'} {σ:St} {H:Hp} {s:Shared} {E:B'}
def Inv.wish(I:Inv X pins σ H s)(E:B'):Inv (X.wish E) pins σ H s:=⟨I.ok.wish E,I.os,I.bare,I.base,I.loc,I.cell,I.free,I.freeC,I.pin,I.hok,I.len⟩
def Inv.unwish(I:Inv (X.wish E) pins σ H s):Inv X pins σ H s:=⟨I.ok.unwish,I.os,I.bare,I.base,I.loc,I.cell,I.free,I.freeC,I.pin,I.hok,I.len⟩
def SP.unwish{D:Ends}{f:Flow}{Z:Shared}(h:SP (X.wish E) pins D f Z):SP X pins D f Z:=by
 cases f with|next=>obtain⟨σ',a,I,q⟩:=h;exact⟨σ',a,I.unwish,q⟩|brk=>obtain⟨σ',a,I,q⟩:=h;exact⟨σ',a,I.unwish,q⟩|cont=>obtain⟨σ',a,I,q⟩:=h;exact⟨σ',a,I.unwish,q⟩|ret u=>obtain⟨v,σ',a,I,r,q⟩:=h;exact⟨v,σ',a,I.unwish,r,q⟩
def Fi.nox{st:List Stmt}{t:TS}(h:Fi X.nox st t):Fi X st t:=λpins s σ H D I a =>
 E5 (h pins s σ H D (I.wish _) a) (λ_ _ q=>q.unwish) λ_ _ z=>False.elim z
end
section
variable {X:Cx} {st:Stmt} {rest:List Stmt} {t u:TS} {e:Expr} {te:TE} {L:Pos}
def Jb:TS:=λD σ H=>D.nx σ H
def FO (t u:TS):TS:=λD σ H=>t {D with nx:=u D} σ H
def Bj:Fi X [] Jb:=λ_ _ σ H _ I h=>wpAny_execs_nil ⟨σ,H,I,h⟩
def Ai(b:PS X st t)(c:Fi X rest u):Fi X (st::rest) (FO t u):=by
 intro a s σ H D I h;refine wpAny_execs_cons (AJ (b a s σ H {D with nx:=u D} I h) λf d q=>?_);cases f with|next=>obtain⟨σ',e,g,q⟩:=q;exact c a d σ' e D g q|ret v=>exact q|brk=>exact q|cont=>exact q
def Ao(a:PS X st t):Fi X [st] t:=by
 intro b s σ H D I h;refine wpAny_execs_cons (AJ (a b s σ H D I h) λf c q=>?_);cases f with|next=>exact wpAny_execs_nil q|ret v=>exact q|brk=>exact q|cont=>exact q
def Inv.quiet{pins:A'}{σ:St}(I:Inv X pins σ H s):interactive X.env=false:=by simp[interactive,I.ok.kind]
def MX (te:TE):TS:=λD σ H=>te σ H λ_ H1=>D.nx σ H1
def BN(a:PE X e te)(b:swapsWith e none L.line X.env=pure false:=by rfl):PS X (.Expr e L) (MX te):=by intro g s σ H D I h;exact wpAny_Expr_any (AJ (a g s σ H _ I h) λv i⟨x,c,d,j,f⟩=>⟨σ,c,d,f⟩) I.quiet b
def P0 (te:TE):TS:=λD σ H=>te σ H D.rt
def Ba(a:PE X e te):PS X (.Return (some e) L) (P0 te):=by intro g s σ H D I h;exact wpAny_Return_some (AJ (a g s σ H _ I h) λv i⟨x,b,c,d,f⟩=>⟨x,σ,b,c,d,f⟩)
def P1 (c:TT) (t u:TS):TS:=λD σ H=>c σ H λb H1=>if b=true then t D σ H1 else u D σ H1
def Bi{c:Expr}{a b:List Stmt}{tc:TT}(k:PT X c tc)(l:Fi X a t)(m:Fi X b u):PS X (.If c a b L) (P1 tc t u):=by
 intro e s σ H D I h;refine wpAny_If (AJ (k e s σ H _ I h) λd f⟨g,i,j⟩=>?_);cases d with|true=>exact l e f σ g D i j|false=>exact m e f σ g D i j
def J6:TS:=λ_ _ _=>False
def Cg:PS X st J6:=λ_ _ _ _ _ _ h=>h.elim
end
abbrev TG:=V->St->Hp->(St->Hp->Prop)->Prop
abbrev J7:=List V->St->Hp->(St->Hp->Prop)->Prop
def PG (X:Cx) (target:Expr) (t:TG):Prop:=
 ∀(pins:A')(s:Shared)(σ:St)(H:Hp)(v:V)(u:Value)(Q:St->Hp->Prop),Inv X pins σ H s->RelV v u->t v σ H Q ->
  wpAny (model X.prog X.w) X.A (assign target X.env u) (λ_ Z=>∃σ' H',Inv X pins σ' H' Z/\Q σ' H') X.xe s
def MY (X:Cx) (ts:L') (t:J7):Prop:=
 ∀(pins:A')(s:Shared)(σ:St)(H:Hp)(vs:R')(us:D')(Q:St->Hp->Prop),Inv X pins σ H s->Aq vs us->t vs σ H Q ->
  wpAny (model X.prog X.w) X.A (assignInOrder ((assignEach ts X.env).map (·.2)) us) (λ_ Z=>∃σ' H',Inv X pins σ' H' Z/\Q σ' H') X.xe s
abbrev J8:=V->V->V->Hp->(Hp->Prop)->Prop
def HI (X:Cx) (t:J8):Prop:=
 ∀(pins:A')(s:Shared)(σ:St)(H:Hp)(o i v:V)(ov iv u:Value)(Q:Hp->Prop),Inv X pins σ H s->RelV o ov->RelV i iv->RelV v u->t o i v H Q ->
  wpAny (model X.prog X.w) X.A (setItem ov iv u) (λ_ Z=>∃H',Inv X pins σ H' Z/\Q H') X.xe s
abbrev P2:=V->V->Hp->VK->Prop
def UF (X:Cx) (op:Operator) (t:P2):Prop:=
 ∀(pins:A')(s:Shared)(σ:St)(H:Hp)(x y:V)(v u:Value)(Q:VK),Inv X pins σ H s->RelV x v->RelV y u->t x y H Q ->
  wpAny (model X.prog X.w) X.A (inplaceOp op v u) (EP X pins σ Q) X.xe s
section
variable {X:Cx} {L:Pos}
def Dl (i:Nat):TG:=λv σ H Q=>Q (σ.set i (some v)) H
variable {i:Nat}
def An{x:Str}(a:X.N.Nodup)(b:X.N[i]?=some x:=by rfl)(c:Loc X.env.scope x:=by first|exact .inl rfl|exact .inr rfl)(d:X.fn x=true\/X.env.scope.names.lookup x=some .local:=by first|exact .inl rfl|exact .inr rfl|assumption):PG X (.Name x L) (Dl i):=by intro f s σ H v u Q I r h;exact wpAny_assign_Name (PU I a b c r (λZ e=>⟨_,H,e,h⟩) d)
def DO:J7:=λvs σ H Q=>vs=[]/\Q σ H
def D8 (t:TG) (u:J7):J7:=λvs σ H Q=>∃v r,vs=v::r/\t v σ H λσ' H'=>u r σ' H' Q
def Be:MY X [] DO:=by intro c s σ H a b Q I r h;obtain⟨e,h⟩:=h;subst e;cases r;exact assignInOrder_nil ⟨σ,H,I,h⟩
def Av{a:L'}{t:TG}{u:J7}(c:PG X e t)(d:MY X a u)
 (f:(assignEach (e::a) X.env).map (·.2)=assign e X.env::(assignEach a X.env).map (·.2):=by rfl):MY X (e::a) (D8 t u):=by
 intro b s σ H n o Q I r h;obtain⟨v,p,g,h⟩:=h;subst g;cases r with|cons r i=>rw[f];refine assignInOrder_cons (AJ (c b s σ H _ _ _ I r h) λ_ j⟨σ1,k,l,m⟩=>?_);exact d b j σ1 k _ _ Q l i m
def DP (K:Ah) (n:Nat) (t:J7):TG:=λv σ H Q=>∃a xs,v=.ref a/\Am K H a xs/\xs.length=n/\t xs σ H Q
def Bf{c:L'}{k:Nat}{t:J7}{n:Nat}(i:X.calm=true)(h:MY X c t)
 (j:(assignEach c X.env).length=n:=by rfl) (A:(assignEach c X.env).findIdx? (·.1)=none:=by rfl):PG X (.Tuple c k L) (DP X.K n t):=by
 intro g s σ H v u Q I r d;obtain⟨a,l,m,p,q,d⟩:=d;subst m;cases r;obtain⟨C,f,w,B⟩:=I.tuple p;refine assign_Tuple_tuple (I.ok.hd i) w (by simp[j,<-q,f.length]) A λx y=>?_;have z:Inv X g σ H {s with heap:=x}:=I.kept (t':=s.toks) λb o e=>y b o (CF (AY e)) e;exact h g _ σ H l _ Q z (by simpa using f) d
def P4 (c ti:TE) (t:J8):TG:=λv σ H Q=>c σ H λo H1=>ti σ H1 λi H2=>t o i v H2 λH3=>Q σ H3
def HJ{o i:Expr}{c e:TE}{t:J8}(f:PE X o c)(g:PE X i e)(j:HI X t)
 (k:∀v,assign (.Subscript o i L) X.env v=(do
  let a <-holding [v] (eval o X.env)
  let b <-holding [v,a] (eval i X.env)
  standAt L
  holding [v,a,b] (setItem a b v)
  release [v,a,b] []):=by intro _;rfl):PG X (.Subscript o i L) (P4 c e t):=by
 intro d s σ H v u Q I r h;rw[k];refine Ag (EL (AJ (f d s σ H _ I h) λa l⟨x,m,n,p,q⟩=>?_));refine Ag (EL (AJ (g d l σ m _ n q) λb w⟨y,z,A,B,C⟩=>?_));refine Ag (wpAny_standAt (Ag (EL (AJ (j d w σ z x y v a b u _ A p B r C) λ_ G⟨D,E,F⟩=>?_))));exact wpAny_release ⟨σ,D,E,F⟩
def HK (te:TE) (g:TG):TS:=λD σ H=>te σ H λx H1=>g x σ H1 D.nx
variable {te:TE}
def Dm{a:Expr}{g:TG}(c:PE X e te)(d:PG X a g)(f:swapsWithSole [a] e L.line X.env=pure false:=by rfl)(i:swappedStores [a] e X.env=pure none:=by rfl)
 (j:(assignEach [a] X.env).map (·.2)=[assign a X.env]:=by rfl):PS X (.Assign [a] e L) (HK te g):=by
 intro b s σ H D I h;refine wpAny_Assign_stores (AJ (c b s σ H _ I h) λv k⟨x,l,m,n,o⟩=>?_) f i;rw[j];exact AJ (d b k σ l x v _ m n o) λ_ p q=>q
def AM{x:Str}{t:Pos}(a:X.N.Nodup)(b:PE X e te)(c:X.N[i]?=some x:=by rfl)(d:Loc X.env.scope x:=by first|exact .inl rfl|exact .inr rfl)(f:swapsWith e (some (.Name x t)) L.line X.env=pure false:=by rfl)(g:X.fn x=true\/X.env.scope.names.lookup x=some .local:=by first|exact .inl rfl|exact .inr rfl|assumption) :
 PS X (.Assign [.Name x t] e L) (HK te (Dl i)):=by
 intro o s σ H D I h;refine wpAny_Assign_Name (AJ (b o s σ H _ I h) λv p⟨y,j,k,l,m⟩=>?_) f;exact PU k a c d l (λq n=>⟨_,j,n,m⟩) g
def MZ (i:Nat) (te:TE) (ti:P2):TS:=λD σ H=>∃x,σ[i]?=some (some x)/\te σ H λy H1=>ti x y H1 λz H2=>D.nx (σ.set i (some z)) H2
def J9{x:Str}{op:Operator}{f:P2}{t:Pos}(n:X.N.Nodup)(g:X.N[i]?=some x)(b:Loc X.env.scope x)(o:PE X e te)(p:UF X op f)(q:X.fn x=true\/X.env.scope.names.lookup x=some .local:=by first|exact .inl rfl|exact .inr rfl|assumption) :
 PS X (.AugAssign (.Name x t) op e L) (MZ i te f):=by
 intro d s σ H D I h;obtain⟨v,A,h⟩:=h;obtain⟨m,B,C⟩:=I.loc;have V:Oo X.env.scope x:=by rcases b with k|k;exact .inl k;exact .inr (.inl k)
 obtain⟨u,r,l⟩:=C i x v g A V;refine wpAny_AugAssign_Name ?_;have j:wpAny (model X.prog X.w) X.A (eval e X.env) (λw E=>wpAny (model X.prog X.w) X.A (inplaceOp op u w) (λr F=>wpAny (model X.prog X.w) X.A (storeName X.env x r) (λ_=>SP X d D .next) X.xe F) X.xe E) X.xe s:=(by refine AJ (o d s σ H _ I h) λw G⟨y,J,K,M,N⟩=>?_;refine AJ (p d G σ J v y u w _ K r M N) λz Y⟨Z,O,P,Q,R⟩=>?_;exact PU P n g b Q (λs3 S=>⟨_,O,S,R⟩) q);rcases l with⟨a,T⟩|⟨a,c,U,W⟩;exact wpAny_loadName_local I.ok.kind a B T j;rcases a with a|a;exact wpAny_loadName_cell I.ok.kind a U W j;rcases b with k|k;have:X.env.scope.names.lookup x=some .free:=a;rw[k] at this;cases this;have:X.env.scope.names.lookup x=some .free:=a;rw[k] at this;cases this
end
section
variable {X:Cx} {L:Pos}
def Ka (c:TT) (j:TS):TS:=λD σ H=>∃W:Nat->St->Hp->Prop,(∃m,W m σ H)/\∀m σ H,W m σ H ->
 c σ H λb H1=>if b=true then ∃N:St->Hp->Prop,(∀σ' H',N σ' H'->∃m',m'<m/\W m' σ' H')/\j {D with nx:=N,ct:=N,bk:=D.nx} σ H1 else D.nx σ H1
def P5{c:Expr}{x:List Stmt}{tc:TT}{j:TS}(p:PassesOwn (model X.prog X.w) X.A X.env X.xe)(y:PT X c tc)(z:Fi X x j):PS X (.While c x [] L) (Ka tc j):=by
 intro o s σ H D I h;obtain⟨W,⟨A,B⟩,J⟩:=h;refine wpAny_While (codeAny_whileLoop (λn Z=>∃σ' q,Inv X o σ' q Z/\W n σ' q) ?_ A ⟨σ,H,I,B⟩);rintro n C ⟨σ1,r,E,F⟩;refine wpAny_passesOwn p (AJ (y o C σ1 r _ E (J n σ1 r F)) λb G⟨t,u,d⟩=>?_)
 cases b with
 |true=>
  obtain⟨N,w,d⟩:=d;rw[AC rfl];refine wpAny_passesOwn p (AJ (z o G σ1 t _ u d) λf K e=>?_);cases f with|next=>obtain⟨σ3,a,g,i⟩:=e;obtain⟨k,l,m⟩:=w σ3 a i;exact⟨k,l,σ3,a,g,m⟩|cont=>obtain⟨σ3,a,g,i⟩:=e;obtain⟨k,l,m⟩:=w σ3 a i;exact⟨k,l,σ3,a,g,m⟩|brk=>exact e|ret v=>exact e
 |false=>rw[AA CP];exact wpAny_execs_nil ⟨σ1,t,u,d⟩
end
structure It where
 go:Nat->Hp->Prop
 yld:Nat->Hp->V->Hp->Prop
 stop:Nat->Hp->Prop
def Dn (X:Cx) (pins:A') (H:Hp) (b:Addr):Prop:=
 H b=none/\b≠X.env.locals/\b∉X.fs/\(b∈X.ex\/X.s₀.heap.objs.size<=b)/\(∀x c,X.env.cells.lookup x=some c->c≠b)/\∀p∈X.pn++pins,p.1≠b
variable {pins:A'}{σ:St}
def Inv.fpOk{d:Hp}(I:Inv X pins σ H s)(a:s.heap.objs.size<=b)(f:d b=none):Dn X pins d b:=by refine⟨f,Nat.ne_of_gt (EK I.lt a),I.nofs a,.inr (Fg I.sz a),λx c e z=>?_,λp g z=>?_⟩;obtain⟨v,q⟩:=I.cell x c e;exact absurd (EK q.lt (by rw[z];exact a)) (EV _);exact absurd (EK (AY (I.pin p g).1) (by rw[z];exact a)) (EV _)
structure Jc (cm:Cx->Prop) (P:Program) (w:World) (K:Ah) (tg:Expr) (J:It) (fp:E') (it:Addr) (tn:Nat->Heap->Prop):Prop where
 mem:it∈fp
 obj:∀i h,tn i h->∀b∈fp,∃o,h.get? b=some o/\∀v,o.data≠.cell v
 keep:∀i h h',tn i h->(∀b∈fp,∀o,h.get? b=some o->h'.get? b=some o)->tn i h'
 item:∀(X:Cx),X.prog=P->X.w=w->X.K=K->cm X->∀(i:Nat)(pins:A')(s:Shared)(σ:St)(H:Hp)(E:B'),Inv X pins σ H s->(∀b∈fp,Dn X pins H b)->tn i s.heap->J.go i H ->
  wpAny (model P w) X.A (pyNext (.ref it)) (λr s1=>∃u,r=some u /\
   wpAny (model P w) X.A (letOwnedTupleGo tg (.ref it) u) (λ_ s2=>∃x H',Inv X pins σ H' s2/\RelV x u/\J.yld i H x H'/\tn (i+1) s2.heap/\∀b∈fp,H' b=none) E s1) E s
 done:∀(X:Cx),X.prog=P->X.w=w->X.K=K->cm X->∀(i:Nat)(pins:A')(s:Shared)(σ:St)(H:Hp)(E:B'),Inv X pins σ H s->(∀b∈fp,Dn X pins H b)->tn i s.heap->J.stop i H ->
  wpAny (model P w) X.A (pyNext (.ref it)) (λr s1=>r=none/\Inv X pins σ H s1) E s
 self:∀(A:Around)(i:Nat)(s:Shared)(Q:B')(E:B'),tn i s.heap->Q (.ref it) s->wpAny (model P w) A (pyIter (.ref it)) Q E s
abbrev EA:=Jc λX=>X.calm=true
abbrev TI:=St->Hp->(It->Hp->Prop)->Prop
def Se (X:Cx) (pins:A') (σ:St) (tg:Expr) (R:It->Hp->Prop) (itv:Value) (s2:Shared):Prop:=
 ∃(it:Addr)(fp:E')(tn:Nat->Heap->Prop)(J:It)(H':Hp),itv=.ref it/\Inv X pins σ H' s2/\EA X.prog X.w X.K tg J fp it tn/\tn 0 s2.heap/\(∀b∈fp,Dn X pins H' b)/\R J H'
def PI (X:Cx) (tg l:Expr) (wi:TI):Prop:=
 ∀(pins:A')(s:Shared)(σ:St)(H:Hp)(R:It->Hp->Prop),Inv X pins σ H s->wi σ H R ->
  wpAny (model X.prog X.w) X.A (eval l X.env) (λv s1=>wpAny (model X.prog X.w) X.A (pyIter v) (Se X pins σ tg R) X.xe s1) X.xe s
variable {tg:Expr}
def Op{M:Model}{b:Addr}{u:Value}{o:Obj}{n:String}{vs:K'}{Q:Unit->Shared->Prop}(c:s.heap.get? b=some o)(d:o.cls=.type n)(hd:o.data=.fields vs)
 (e:["enumerate", "zip", "dict_itemiterator", "dict_reverseitemiterator", "odict_iterator", "itertools.zip_longest", "itertools.pairwise"].contains n=false) (a:Q () s):wpAny M A (letOwnedTupleGo tg (.ref b) u) Q E s:=by
 unfold letOwnedTupleGo
 cases tg<;>first
  |exact AH a
  |(cases u<;>first
   |exact AH a
   | (refine Ag (wpAny_load c ?_)
      rw[d,hd];show wpAny M A (if(["enumerate", "zip", "dict_itemiterator", "dict_reverseitemiterator", "odict_iterator", "itertools.zip_longest", "itertools.pairwise"].contains n && vs[0]?==some (rawInt _))=true then _ else _) Q E s;rw[AA (by intro h;rw[e,Bool.false_and] at h;cases h)];exact AH a))
def E7 (K:Ah) (a:Addr):It:=
 ⟨λi H=>∃xs x,Ad K H a xs/\xs[i]?=some x,λi H x H'=>H'=H/\∀xs,Ad K H a xs->xs[i]?=some x,λi H=>∃xs,Ad K H a xs/\xs.length<=i⟩
def Kb (lo:Int) (n:Nat):It:=⟨λi _=>i<n,λi H x H'=>H'=H/\x=.int (lo+i),λi _=>n<=i⟩
theorem UG{K:Ah}(a g:Addr):EA P w K tg (E7 K a) [g] g (λi h=>h.IsListIter g a i) where
 mem:=by simp
 obj:=λi h f b j=>by have e:b=g:=(by simpa using j);subst e;obtain⟨o,e,c,d⟩:=f;exact⟨o,e,λv z=>by rw[d] at z;cases z⟩
 keep:=λi h l f k=>f.at λo e=>k g (by simp) o e
 item:=by intro X q r t L i pins s σ H E I m f y;subst q r t;obtain⟨N,x,n,A⟩:=y;obtain⟨Y,B,p,O⟩:=I.list n;obtain⟨u,Q,R⟩:=B.get A;obtain⟨C,D,S,F,G,J⟩:=m g (by simp);refine wpAny_pyNext_list_item f p.isList (x:=u) (by simpa using Q) λl M T=>?_;have U:Inv X pins σ H {s with heap:=l}:=I.turned (t':=s.toks) (λb o j e=>(T.2 b j).trans e) C D F G J;obtain⟨o,e,c,d⟩:=id M;exact⟨u,rfl,Op (s:={s with heap:=l}) e c d (by decide) ⟨x,H,U,R,⟨rfl,λZ V=>by rw[I.list_inj V n];exact A⟩,M,λb j=>(m b j).1⟩⟩
 done:=by intro X q r t L i pins s σ H E I m f y;subst q r t;obtain⟨N,n,A⟩:=y;obtain⟨Y,B,p,O⟩:=I.list n;obtain⟨C,D,S,F,G,J⟩:=m g (by simp);have hl:=B.length;exact wpAny_pyNext_list_end (I.ok.hd L) f p.isList (by simp;lia) λl W=>⟨rfl,I.turned (t':=s.toks) (λb o j e=>W b o j e) C D F G J⟩
 self:=λ_ _ _ _ _ f h=>wpAny_pyIter_listiter f h
def UH{K:Ah}(c:Addr)(lo:Int)(n:Nat):EA P w K tg (Kb lo n) [c] c (λi h=>IsRangeIter h c (lo+(i:Nat)*1) ((n:Int)-(i:Nat)) 1) where
 mem:=by simp
 obj:=λi h a b d=>by
  have e:b=c:=(by simpa using d);subst e
  exact⟨_,a,λv z=>by
   have C:Data.fields _=Data.cell v:=z;cases C⟩
 keep:=λi h f a k=>k c (by simp) _ a
 item:=by intro X j l m p i pins s σ H E I g a q;subst j l m;obtain⟨r,u,D,x,y,A⟩:=g c (by simp);have W:=Walks.range (prog:=X.prog) (w:=X.w) (I.ok.hd p) c lo 1 n;refine W.item i s _ _ q a λv f O F B G=>?_;obtain⟨t,rfl⟩:=F;have J:Inv X pins σ H {s with heap:=f,toks:=O}:=I.turned (λb o d e=>G b o (by simpa using d) e) r u x y A;refine⟨_,rfl,Op (s:={s with heap:=f,toks:=O}) (n:= "range_iterator") B rfl rfl (by decide) ⟨.int (lo+i),H,J,⟨t,?_⟩,⟨rfl,rfl⟩,B,λb d=>(g b d).1⟩⟩;rw[Int.mul_one]
 done:=by intro X j l m p i pins s σ H E I g a q;subst j l m;obtain⟨r,u,D,x,y,A⟩:=g c (by simp);exact wpAny_pyNext_range_end (I.ok.hd p) a (by have:n<=i:=q;lia) λf L=>⟨rfl,I.turned (t':=s.toks) (λb o d e=>L b o d e) r u x y A⟩
 self:=λ_ _ _ _ _ a h=>wpAny_pyIter_rangeiter a h
section
variable {X:Cx} {tg:Expr}
def M0 (K:Ah) (tl:TE):TI:=λσ H R=>tl σ H λx H1=>∃a,x=.ref a/\(∃xs,Ad K H1 a xs)/\R (E7 K a) H1
def Bm{l:Expr}{tl:TE}(f:PE X l tl):PI X tg l (M0 X.K tl):=by intro pins s σ H R I h;refine AJ (f pins s σ H _ I h) λv c⟨x,g,d,i,j⟩=>?_;obtain⟨a,e,⟨n,k⟩,q⟩:=j;subst e;cases i;obtain⟨u,r,p,t⟩:=d.list k;refine wpAny_pyIter_list p.isList ?_;refine⟨c.heap.objs.size,[c.heap.objs.size],_,_,g,rfl,d.kept (t':=c.toks) λb o e=>Bb _ e,UG a _,⟨_,Cf _ rfl,rfl,rfl⟩,λb m=>?_,q⟩;have e:b=c.heap.objs.size:=(by simpa using m);subst e;exact d.fpOk (AB _) (d.hok.fresh (AB _))
def UI{R:It->Hp->Prop}{lo a:Int}{t u v:Tok}{O:Nat}(I:Inv X pins σ H s)(d:-(2 ^ 62)<=lo)(f:lo<2 ^ 62)(g:-(2 ^ 62)<=a)(h:a<2 ^ 62)
 (q:R (Kb lo (a-lo).toNat) H):wpAny (model X.prog X.w) X.A (pyIter (.ref s.heap.objs.size)) (Se X pins σ tg R) E {s with heap:=s.heap.push {cls:=.type "range",data:=.fields #[.int lo t,.int a u,.int 1 v]},toks:=O}:=by
 refine wpAny_pyIter_range (IsRange.new ..) (small_one d f g h) ?_;have c:Inv X pins σ H {s with heap:=s.heap.push {cls:=.type "range",data:=.fields #[.int lo t,.int a u,.int 1 v]},toks:=O}:=I.kept λb o e=>Bb _ e
 refine⟨(s.heap.push {cls:=.type "range",data:=.fields #[.int lo t,.int a u,.int 1 v]}).objs.size,[(s.heap.push {cls:=.type "range",data:=.fields #[.int lo t,.int a u,.int 1 v]}).objs.size],_,_,H,rfl,
  c.kept (t':=O) λb o e=>Bb _ e,UH _ lo (a-lo).toNat,?_,λb i=>?_,q⟩
 have j:lo+((0:Nat):Int)*1=lo:=(by simp);have k:(((a-lo).toNat:Nat):Int)-((0:Nat):Int)=Builtin.Range.rangeSize lo a 1:=by rw[rangeSize_one];split<;>lia
 show IsRangeIter _ _ (lo+((0:Nat):Int)*1) ((((a-lo).toNat:Nat):Int)-((0:Nat):Int)) 1;rw[j,k];exact Cf _ rfl;have e:b=(s.heap.push {cls:=.type "range",data:=.fields #[.int lo t,.int a u,.int 1 v]}).objs.size:=(by simpa using i);subst e;exact c.fpOk (AB _) (c.hok.fresh (AB _))
def M1 (F:TA):TI:=λσ H R=>F σ H λvs H1=>∃j:Int,vs=[.int j]/\-(2 ^ 62)<=j/\j<2 ^ 62/\R (Kb 0 j.toNat) H1
def Jd{a:Expr}{F:TA}{p L:Pos}(c:Gl X "range")(d:X.mg "range" = none)(f:PA X [a] F)(g:starEach [a] X.env=[(false,eval a X.env)]:=by rfl):PI X tg (.Call (.Name "range" p) [a] [] L) (M1 F):=by
 intro pins s σ H R I h;refine Call_ (HD I c d boot_range (PyProof.Rows.callWith_type1 (AJ (f L pins s σ H _ I h) λn o⟨u,v,i,k,b⟩=>?_) g rfl));obtain⟨j,e,b,l,q⟩:=b;subst e;cases k with|cons r m=>cases m;obtain⟨t,rfl⟩:=r;exact call_range_1 (UI i (by lia) (by lia) b l (by simpa using q))
def FP (J:It) (g:TG) (j:TS) (D:Ends) (σ:St) (H1:Hp):Prop:=∃W:Nat->Nat->St->Hp->Prop,(∃m,W 0 m σ H1)/\∀i m σ H,W i m σ H ->
 (J.stop i H/\D.nx σ H)\/(J.go i H/\∃N:St->Hp->Prop,(∀σ' H',N σ' H'->∃m',m'<m/\W (i+1) m' σ' H')/\∀x H',J.yld i H x H'->g x σ H' λσ2 H2=>j {D with nx:=N,ct:=N,bk:=D.nx} σ2 H2)
def P6 (wi:TI) (g:TG) (j:TS):TS:=λD σ H=>wi σ H λJ H1=>FP J g j D σ H1
def M3 (fp:E') (h:Heap):A':=fp.filterMap λb=>(h.get? b).map λo=>(b,o)
variable {fp:E'}
def Oq{o:Obj}(a:b∈fp)(e:h.get? b=some o):(b,o)∈M3 fp h:=List.mem_filterMap.mpr ⟨b,a,by rw[e];rfl⟩
def UJ{p:Addr×Obj}(a:p∈M3 fp h):p.1∈fp/\h.get? p.1=some p.2:=by
 obtain⟨b,c,e⟩:=List.mem_filterMap.mp a;cases q:h.get? b with|none=>rw[q] at e;cases e|some o=>rw[q] at e;have d:(b,o)=p:=Ce e;subst d;exact⟨c,q⟩
theorem Inv.pinned(I:Inv X pins σ H s)(f:∀b∈fp,Dn X pins H b)(g:∀b∈fp,∃o,s.heap.get? b=some o/\∀v,o.data≠.cell v):Inv X (pins++M3 fp s.heap) σ H s:=
 I.pins_of λp h=>(EJ.mp h).elim (λz=>I.pin p (Eb _ z)) λz=>by obtain⟨a,e⟩:=UJ z;obtain⟨i,j,k,_⟩:=f p.1 a;obtain⟨o,c,d⟩:=g p.1 a;rw[e] at c;cases c;exact⟨e,i,j,k,d⟩
theorem Inv.unpinned{a:A'}(I:Inv X (pins++a) σ H s):Inv X pins σ H s:=I.pins_of λp b=>I.pin p (Eb _ (Ht _ b))
def Bt{l:Expr}{Q:List Stmt}{C:TI}{g:TG}{j:TS}{L:Pos}(q:PassesOwn (model X.prog X.w) X.A X.env X.xe)(D:X.calm=true)(R:PI X tg l C)(S:PG X tg g)(a:Fi X Q j)
 (U:∀x,foldedSetIterable l X.env x=pure x:=by intro _;rfl):PS X (.For tg l Q [] L) (P6 C g j):=by
 intro pins s σ H ag I h;refine wpAny_For (AJ (R pins s σ H _ I h) λv s1 V=>AJ V λaj s2 Y=>?_) U;obtain⟨it,fp,E,ah,H2,e,I2,T,aa,F,W,⟨m0,w0⟩,af⟩:=Y;subst e;have B:∀{k:Hp},(∀b∈fp,k b=none)->∀b∈fp,Dn X pins k b:=λhn b a=>⟨hn b a,(F b a).2⟩;refine codeAny_forLoop_any (λn Z=>∃i σ' k,Inv X pins σ' k Z/\E i Z.heap/\(∀b∈fp,k b=none)/\W i n σ' k) ?_ m0 ⟨0,σ,H2,I2,aa,λb a=>(F b a).1,w0⟩;rintro n G ⟨i,σ3,w,J,O,P,w3⟩;rcases af i n σ3 w w3 with⟨stop,qn⟩|⟨go,N,hN,step⟩
 . refine wpAny_passesOwn q (AJ (T.done X rfl rfl rfl D i pins G σ3 w X.xe J (B P) O stop) λr s4⟨y,I4⟩=>?_)
   subst y;exact wpAny_execs_nil ⟨σ3,w,I4,qn⟩
 . refine wpAny_passesOwn q (AJ (T.item X rfl rfl rfl D i pins G σ3 w X.xe J (B P) O go) λr s4⟨u,y,h4⟩=>?_)
   subst y;refine wpAny_passesOwn q (AJ h4 λ_ K⟨x,M,I5,r5,y5,A,ab⟩=>?_);have ae:=I5.pinned (B ab) (T.obj _ _ A);refine wpAny_passesOwn q (AJ (S _ K σ3 M x u _ ae r5 (step x M y5)) λ_ s6⟨σ6,H6,I6,q6⟩=>?_);refine wpAny_passesOwn q (AJ (a _ s6 σ6 H6 _ I6 q6) λf z p=>?_)
   have again:∀{σ7:St}{c:Hp},Inv X (pins++M3 fp K.heap) σ7 c z->N σ7 c->∃m,m<n/\∃i σ' k,Inv X pins σ' k z/\E i z.heap/\(∀b∈fp,k b=none)/\W i m σ' k:=λ{σ7 c}d t=>by
    obtain⟨m',hm,w7⟩:=hN σ7 c t;refine⟨m',hm,i+1,σ7,c,d.unpinned,T.keep _ _ _ A λb a o e=>(d.pin (b,o) (Eb _ (Eb _ (Oq a e)))).1,λb a=>?_,w7⟩;obtain⟨o,e,ai⟩:=T.obj _ _ A b a;exact(d.pin (b,o) (Eb _ (Eb _ (Oq a e)))).2.1
   cases f with|next=>obtain⟨σ7,c,d,t⟩:=p;exact again d t|cont=>obtain⟨σ7,c,d,t⟩:=p;exact again d t|brk=>obtain⟨σ7,c,d,p⟩:=p;exact⟨σ7,c,d.unpinned,p⟩|ret v=>obtain⟨x7,σ7,c,d,r7,p⟩:=p;exact⟨x7,σ7,c,d.unpinned,r7,p⟩
end
variable {g:TG}{j:TS}{D:Ends}
def Sf{J:It}(n:Nat)(Pv:Nat->St->Hp->Prop)(c:Pv 0 σ H)(d:∀i σ H,Pv i σ H->i<n->J.go i H)(k:∀σ H,Pv n σ H->J.stop n H)
 (e:∀i v σ H a,Pv i σ H->i<n->J.yld i H v a->g v σ a λσ2 f=>j {D with nx:=Pv (i+1),ct:=Pv (i+1),bk:=D.nx} σ2 f) (hd:∀σ H,Pv n σ H->D.nx σ H):FP J g j D σ H:=by
 unfold FP;refine⟨λi m σ H=>m=n-i/\i<=n/\Pv i σ H,⟨_,rfl,B8 _,c⟩,?_⟩;rintro i m σ H ⟨rfl,l,p⟩;by_cases b:i<n;exact .inr ⟨d i σ H p b,Pv (i+1),λσ' a h=>⟨n-(i+1),by lia,rfl,b,h⟩,λv a y=>e i v σ H a p b y⟩
 . obtain rfl:i=n:=by lia
   exact .inl ⟨k σ H p,hd σ H p⟩
def CQ{K:Ah}{xs:R'}(Pv:Nat->St->Hp->Prop)(d:Pv 0 σ H)(c:∀i σ H,i<=xs.length->Pv i σ H->Ad K H a xs)
 (e:∀i x σ H,xs[i]?=some x->Pv i σ H->g x σ H λσ2 f=>j {D with nx:=Pv (i+1),ct:=Pv (i+1),bk:=D.nx} σ2 f) (hd:∀σ H,Pv xs.length σ H->D.nx σ H):FP (E7 K a) g j D σ H:=Sf xs.length Pv d (λi σ H p b=>⟨xs,xs[i],c i σ H (Dk b) p,by simp[b]⟩) (λσ H p=>⟨xs,c _ σ H (AB _) p,AB _⟩) (λi v σ H h p b y=>by obtain⟨rfl,y⟩:=y;exact e i v σ _ (y xs (c i σ _ (Dk b) p)) p) hd
def Mu{lo:Int}{n:Nat}(Pv:Nat->St->Hp->Prop)(b:Pv 0 σ H)
 (c:∀i σ H,i<n->Pv i σ H->g (.int (lo+i)) σ H λσ2 d=>j {D with nx:=Pv (i+1),ct:=Pv (i+1),bk:=D.nx} σ2 d) (hd:∀σ H,Pv n σ H->D.nx σ H):FP (Kb lo n) g j D σ H:=Sf n Pv b (λi σ H p a=>a) (λσ H p=>AB _) (λi v σ H e p a y=>by obtain⟨rfl,rfl⟩:=y;exact c i σ _ a p) hd
abbrev R2:=V->V->Hp->VK->Prop
def CC (X:Cx) (f:Value->Value->Sem Value) (r:R2):Prop:=
 ∀(pins:A')(s:Shared)(σ:St)(H:Hp)(x y:V)(v u:Value)(Q:VK),Inv X pins σ H s->RelV x v->RelV y u->r x y H Q ->
  wpAny (model X.prog X.w) X.A (f v u) (EP X pins σ Q) X.xe s
def Ot (X:Cx) (f:Value->Sem Value) (r:V->Hp->VK->Prop):Prop:=
 ∀(pins:A')(s:Shared)(σ:St)(H:Hp)(x:V)(v:Value)(Q:VK),Inv X pins σ H s->RelV x v->r x H Q ->
  wpAny (model X.prog X.w) X.A (f v) (EP X pins σ Q) X.xe s
def A8 (X:Cx) (f:Value) (r:R'->Hp->VK->Prop):Prop:=
 ∀(pins:A')(s:Shared)(σ:St)(H:Hp)(xs:R')(us:D')(Q:VK),Inv X pins σ H s->Aq xs us->r xs H Q ->
  wpAny (model X.prog X.w) X.A (call f us) (EP X pins σ Q) X.xe s
def P7 (X:Cx) (r:V->Hp->(Bool->Hp->Prop)->Prop):Prop:=
 ∀(pins:A')(s:Shared)(σ:St)(H:Hp)(x:V)(v:Value)(Q:Bool->Hp->Prop),Inv X pins σ H s->RelV x v->r x H Q ->
  wpAny (model X.prog X.w) X.A (truthy v) (TP X pins σ Q) X.xe s
def EN (r:R2) (F j:TE):TE:=λσ H Q=>F σ H λx H1=>j σ H1 λy H2=>r x y H2 Q
def Sg (r:V->Hp->VK->Prop) (F:TE):TE:=λσ H Q=>F σ H λx H1=>r x H1 Q
def rI (C:Int->Int->Prop) (g:Int->Int->V):R2:=λx y H Q=>∃i j,x=.int i/\y=.int j/\C i j/\Q (g i j) H
def HL (g:Int->Int->V):R2:=λx y H Q=>∃i j,x=.int i/\y=.int j/\Q (g i j) H
def rU (g:Int->V):V->Hp->VK->Prop:=λx H Q=>∃i,x=.int i/\Q (g i) H
section
variable {X:Cx} {a b c:Expr} {F j tc:TE} {L:Pos}
variable {f:Value->Value->Sem Value}
def Kc(g:PE X a F)(i:PE X b j){R:V->V->Hp->Prop}(I:Inv X pins σ H s)
 (h:F σ H λx e=>j σ e λy c=>R x y c) {Q:B'} (k:∀v u d x y c,Inv X pins σ c d->RelV x v->RelV y u->R x y c->wpAny (model X.prog X.w) X.A (f v u) Q X.xe d) :
 wpAny (model X.prog X.w) X.A (eval a X.env) (λv l=>wpAny (model X.prog X.w) X.A (eval b X.env) (λu m=>wpAny (model X.prog X.w) X.A (f v u) Q X.xe m) X.xe l) X.xe s:=by
 refine AJ (g pins s σ H _ I h) λv n⟨x,e,o,p,q⟩=>?_;refine AJ (i pins n σ e _ o q) λu d⟨y,c,r,t,w⟩=>?_;exact k v u d x y c r p t w
def A9{op:Operator}{r:R2}(c:CC X (binaryOp op) r)(d:PE X a F)(e:PE X b j):PE X (.BinOp a op b L) (EN r F j):=by intro pins s σ H Q I h;exact wpAny_BinOp (Kc d e I h λv u f x y g i k l q=>c pins f σ g x y v u Q i k l q)
def Ou{op:UnaryOp}{r:V->Hp->VK->Prop}(b:Ot X (unaryOp op) r)(c:PE X a F):PE X (.UnaryOp op a L) (Sg r F):=by intro pins s σ H Q I h;exact UnaryOp_ (AJ (c pins s σ H _ I h) λv d⟨x,e,f,g,i⟩=>b pins d σ e x v Q f g i)
def P8{C:Int->Int->Prop}{g:Int->Int->Int}
 (e:∀(i j:Int)(t u:Tok)(s:Shared)(Q:B')(E:B'),C i j->Q (.int (g i j) s.toks) {s with toks:=s.toks+1}->wpAny (model X.prog X.w) X.A (f (.int i t) (.int j u)) Q E s) :
 CC X f (rI C λi j=>.int (g i j)):=by
 intro pins s σ H x y v u Q I a b h;obtain⟨i,j,rfl,rfl,c,q⟩:=h;obtain⟨t,rfl⟩:=a;obtain⟨d,rfl⟩:=b;exact e i j t d s _ _ c ⟨.int (g i j),H,I.tok _,⟨_,rfl⟩,q⟩
def Kd{g:Int->Int->Int}
 (d:∀(i j:Int)(t u:Tok)(s:Shared)(Q:B')(E:B'),Q (.int (g i j) s.toks) {s with toks:=s.toks+1}->wpAny (model X.prog X.w) X.A (f (.int i t) (.int j u)) Q E s) :
 CC X f (HL λi j=>.int (g i j)):=by
 intro pins s σ H x y v u Q I a b h;obtain⟨i,j,rfl,rfl,q⟩:=h;obtain⟨t,rfl⟩:=a;obtain⟨c,rfl⟩:=b;exact d i j t c s _ _ ⟨.int (g i j),H,I.tok _,⟨_,rfl⟩,q⟩
def Ke{g:Int->Int->Bool}
 (d:∀(i j:Int)(t u:Tok)(s:Shared)(Q:B')(E:B'),Q (.bool (g i j)) s->wpAny (model X.prog X.w) X.A (f (.int i t) (.int j u)) Q E s) :
 CC X f (HL λi j=>.bl (g i j)):=by
 intro pins s σ H x y v u Q I a b h;obtain⟨i,j,rfl,rfl,q⟩:=h;obtain⟨t,rfl⟩:=a;obtain⟨c,rfl⟩:=b;exact d i j t c s _ _ ⟨.bl (g i j),H,I,rfl,q⟩
def P9 (i j:Int):Prop:=0<j/\j<1073741824
def Kf (i j:Int):Prop:=(-(2 ^ 64)<i/\i<2 ^ 64)\/(-(2 ^ 64)<j/\j<2 ^ 64)
def Kf.ok{i j:Int}(h:Kf i j):IntMulOk i j:=by rcases h with⟨a,b⟩|⟨a,b⟩;exact .of_left (intBits_le_64 a b);exact .of_right (intBits_le_64 a b)
def Fj:CC X (binaryOp .Add) (HL λi j=>.int (i+j)):=Kd λ_ _ _ _ _ _ _ q=>add_int q
def Qa:CC X (binaryOp .Sub) (HL λi j=>.int (i-j)):=Kd λ_ _ _ _ _ _ _ q=>sub_int q
def Kg:CC X (binaryOp .Mult) (rI Kf λi j=>.int (i*j)):=P8 λ_ _ _ _ _ _ _ a q=>mul_int q a.ok
def Gp:CC X (binaryOp .FloorDiv) (rI P9 λi j=>.int (i/j)):=P8 λi j _ _ _ _ _ a q=>by have b:(0:Int)<j:=a.1;have c:j<1073741824:=a.2;exact floordiv_int (by lia) (by rw[Int.fdiv_eq_ediv_of_nonneg i (by lia)];exact q) (.inl (PyProof.noPylong_small (by lia)))
def EB:CC X (binaryOp .Mod) (rI (λ_ j=>0<j) λi j=>.int (i%j)):=P8 λi j _ _ _ _ _ a q=>by have b:(0:Int)<j:=a;exact mod_int' (by lia) (by rw[Int.fmod_eq_emod_of_nonneg i (by lia)];exact q)
def Sh:CC X (inplaceOp .Add) (HL λi j=>.int (i+j)):=Kd λ_ _ _ _ _ _ _ q=>iadd_int q
def UK{f:Value->Sem Value}{g:Int->Int}
 (b:∀(i:Int)(t:Tok)(s:Shared)(Q:B')(E:B'),Q (.int (g i) s.toks) {s with toks:=s.toks+1}->wpAny (model X.prog X.w) X.A (f (.int i t)) Q E s) :
 Ot X f (rU λi=>.int (g i)):=by
 intro pins s σ H x v Q I a h;obtain⟨i,rfl,q⟩:=h;obtain⟨t,rfl⟩:=a;exact b i t s _ _ ⟨.int (g i),H,I.tok _,⟨_,rfl⟩,q⟩
def Ov:Ot X (unaryOp .USub) (rU λi=>.int (-i)):=UK λ_ _ _ _ _ q=>neg_int q
end
def M4:V->V->Bool
 |.non,.non=>true|.non,.int _=>true|.int _,.non=>true|.non,.bl _=>true|.bl _,.non=>true|.non,.str _=>true|.str _,.non=>true
 |.int _,.int _=>true|.bl _,.bl _=>true|.str _,.str _=>true|.byt _,.byt _=>true
 |.int _,.str _=>true|.str _,.int _=>true|.bl _,.str _=>true|.str _,.bl _=>true
 |_,_=>false
def UL:R2:=λx y H Q=>M4 x y=true/\Q (.bl (decide (x=y))) H
def Si:R2:=λx y H Q=>M4 x y=true/\Q (.bl (!decide (x=y))) H
def Sj{i j:Int}:decide (V.int i=V.int j)=(i==j):=by
 rw[Bool.eq_iff_iff];simp
def Gq{i j:Bool}:decide (V.bl i=V.bl j)=(i==j):=by
 rw[Bool.eq_iff_iff];simp
def Sk{i j:Str}:decide (V.str i=V.str j)=(i==j):=by
 rw[Bool.eq_iff_iff];simp
def Sl{i j:Array UInt8}:decide (V.byt i=V.byt j)=(i.toList==j.toList):=by
 rw[Bool.eq_iff_iff];cases i;cases j;simp
section
variable {X:Cx} {a b c:Expr} {F j tc:TE} {L:Pos}
def CY{Q:VK}{k a:Bool}(I:Inv X pins σ H s)(q:Q (.bl k) H)(e:k=a):EP X pins σ Q (.bool a) s:=by subst e;exact⟨.bl k,H,I,rfl,q⟩
def DE:CC X (compareOp .Eq) UL:=by
 intro pins s σ H x y v u Q I d a h;obtain⟨c,q⟩:=h
 cases x with
 |non=>
  cases d;cases y with|non=>cases a;exact PySem.EqNone.eq_none_none (CY I q (by simp))|bl j=>cases a;exact PySem.EqNone.eq_none_bool (CY I q (by simp))|int j=>obtain⟨b,rfl⟩:=a;exact PySem.EqNone.eq_none_int (CY I q (by simp))|str j=>obtain⟨b,rfl⟩:=a;exact PySem.EqNone.eq_none_str (CY I q (by simp))|_=>exact absurd (show false=true from c) CP
 |bl i=>
  cases d;cases y with|non=>cases a;exact PySem.EqNone.eq_bool_none (CY I q (by simp))|bl j=>cases a;exact eq_bool (CY I q Gq)|str j=>obtain⟨b,rfl⟩:=a;exact PySem.EqMixed.eq_bool_str (CY I q (by simp))|_=>exact absurd (show false=true from c) CP
 |int i=>
  obtain⟨t,rfl⟩:=d;cases y with|non=>cases a;exact PySem.EqNone.eq_int_none (CY I q (by simp))|int j=>obtain⟨b,rfl⟩:=a;exact eq_int (CY I q Sj)|str j=>obtain⟨b,rfl⟩:=a;exact PySem.EqMixed.eq_int_str (CY I q (by simp))|_=>exact absurd (show false=true from c) CP
 |str i=>
  obtain⟨t,rfl⟩:=d;cases y with|non=>cases a;exact PySem.EqNone.eq_str_none (CY I q (by simp))|bl j=>cases a;exact PySem.EqMixed.eq_str_bool (CY I q (by simp))|int j=>obtain⟨b,rfl⟩:=a;exact PySem.EqMixed.eq_str_int (CY I q (by simp))|str j=>obtain⟨b,rfl⟩:=a;exact eq_str (CY I q Sk)|_=>exact absurd (show false=true from c) CP
 |byt i=>
  obtain⟨t,rfl⟩:=d;cases y with|byt j=>obtain⟨b,rfl⟩:=a;exact PySem.W.eq_bytes (CY I q Sl)|_=>exact absurd (show false=true from c) CP
 |_=>cases y<;>exact absurd (show false=true from c) CP
def Je:CC X (compareOp .NotEq) Si:=by
 intro pins s σ H x y v u Q I d a h;obtain⟨c,q⟩:=h
 cases x with
 |non=>
  cases d;cases y with|non=>cases a;exact PySem.EqNone.ne_none_none (CY I q (by simp))|bl j=>cases a;exact PySem.EqNone.ne_none_bool (CY I q (by simp))|int j=>obtain⟨b,rfl⟩:=a;exact PySem.EqNone.ne_none_int (CY I q (by simp))|str j=>obtain⟨b,rfl⟩:=a;exact PySem.EqNone.ne_none_str (CY I q (by simp))|_=>exact absurd (show false=true from c) CP
 |bl i=>
  cases d;cases y with|non=>cases a;exact PySem.EqNone.ne_bool_none (CY I q (by simp))|bl j=>cases a;exact ne_bool (CY I q (DK not Gq))|str j=>obtain⟨b,rfl⟩:=a;exact PySem.EqMixed.ne_bool_str (CY I q (by simp))|_=>exact absurd (show false=true from c) CP
 |int i=>
  obtain⟨t,rfl⟩:=d;cases y with|non=>cases a;exact PySem.EqNone.ne_int_none (CY I q (by simp))|int j=>obtain⟨b,rfl⟩:=a;exact ne_int (CY I q (DK not Sj))|str j=>obtain⟨b,rfl⟩:=a;exact PySem.EqMixed.ne_int_str (CY I q (by simp))|_=>exact absurd (show false=true from c) CP
 |str i=>
  obtain⟨t,rfl⟩:=d;cases y with|non=>cases a;exact PySem.EqNone.ne_str_none (CY I q (by simp))|bl j=>cases a;exact PySem.EqMixed.ne_str_bool (CY I q (by simp))|int j=>obtain⟨b,rfl⟩:=a;exact PySem.EqMixed.ne_str_int (CY I q (by simp))|str j=>obtain⟨b,rfl⟩:=a;exact ne_str (CY I q (DK not Sk))|_=>exact absurd (show false=true from c) CP
 |byt i=>
  obtain⟨t,rfl⟩:=d;cases y with|byt j=>obtain⟨b,rfl⟩:=a;exact PySem.W.ne_bytes (CY I q (DK not Sl))|_=>exact absurd (show false=true from c) CP
 |_=>cases y<;>exact absurd (show false=true from c) CP
def Mv:CC X (compareOp .Lt) (HL λi j=>.bl (decide (i<j))):=Ke λ_ _ _ _ _ _ _ q=>lt_int q
def Gr:CC X (compareOp .LtE) (HL λi j=>.bl (decide (i<=j))):=Ke λ_ _ _ _ _ _ _ q=>le_int q
def Mw:CC X (compareOp .Gt) (HL λi j=>.bl (decide (j<i))):=Ke λ_ _ _ _ _ _ _ q=>gt_int q
variable {op:CmpOp}
def BY(b:Expr)(h:op≠.In:=by decide)(a:op≠.NotIn:=by decide):behindInMarks op b=false:=by
 have c:(op==CmpOp.In)=false:=by cases op<;>first|rfl|exact absurd rfl h
 have d:(op==CmpOp.NotIn)=false:=by cases op<;>first|rfl|exact absurd rfl a
 cases b<;>simp[behindInMarks,c,d]
variable {r:R2}
def Hi(c:CC X (compareOp op) r)(d:PE X a F)(e:PE X b j)(f:behindInMarks op b=false):PE X (.Compare a [op] [b] L) (EN r F j):=by intro pins s σ H Q I h;exact wpAny_Compare1 (Kc d e I h λv u g x y i k l m q=>c pins g σ i x y v u Q k l m q) f
def Jf (t:TE):TT:=λσ H Q=>t σ H λx H'=>∃k,x=.bl k/\Q k H'
def Cc(d:CC X (compareOp op) r)(f:PE X a F)(g:PE X b j)(i:behindInMarks op b=false):PT X (.Compare a [op] [b] L) (Jf (EN r F j)):=by
 intro pins s σ H Q I h
 refine wpAny_isTrue_Compare1 (AJ (f pins s σ H _ I h) λv l⟨x,m,n,o,p⟩=>AJ (g pins l σ m _ n p) λu q⟨y,t,w,A,B⟩ =>
  AJ (d pins q σ t x y v u _ w o A B) λc J⟨z,C,D,E,k,e,G⟩=>?_) i
 subst e;cases E;exact Ey ⟨C,D,G⟩
def Gu (r r':R2) (F j tc:TE):TE:=λσ H Q=>F σ H λx H1=>j σ H1 λy H2=>r x y H2 λz H3=>∃k,z=.bl k /\
 (if k=true then tc σ H3 λw' H4=>r' y w' H4 Q else Q (.bl false) H3)
def Sm{f:CmpOp}{g:R2}(o:CC X (compareOp op) r)(Y:CC X (compareOp f) g)(p:PE X a F)(q:PE X b j)(t:PE X c tc)
 (w:lastMarks [op,f] [b,c]=false:=by with_unfolding_all rfl):PE X (.Compare a [op,f] [b,c] L) (Gu r g F j tc):=by
 intro pins s σ H Q I h
 refine Compare_chain (AJ (p pins s σ H _ I h) λv A⟨x,B,C,D,E⟩=>chain_link (AJ (q pins A σ B _ C E) λu G⟨y,J,K,i,M⟩ =>
  AJ (o pins G σ J x y v u _ K D i M) λd N⟨z,l,m,O,k,e,n⟩=>?_)) w
 subst e;cases O;refine Ey ?_;cases k with|false=>exact ite_ff ⟨.bl false,l,m,rfl,n⟩|true=>exact ite_tt (chain_last (AJ (t pins N σ l _ m n) λP R⟨S,T,U,V,W⟩=>Y pins R σ T y S u P Q U i V W))
def UM{d:CmpOp}{f:R2}(n:CC X (compareOp op) r)(aa:CC X (compareOp d) f)(o:PE X a F)(p:PE X b j)(q:PE X c tc)
 (t:lastMarks [op,d] [b,c]=false:=by with_unfolding_all rfl):PT X (.Compare a [op,d] [b,c] L) (Jf (Gu r f F j tc)):=by
 intro pins s σ H ab I h
 refine isTrue_chain (AJ (o pins s σ H _ I h) λv w⟨x,z,A,B,C⟩=>test_link (AJ (p pins w σ z _ A C) λu D⟨y,E,G,g,J⟩ =>
  AJ (n pins D σ E x y v u _ G B g J) λae K⟨af,i,l,M,k,e,m⟩=>?_)) t
 subst e;cases M;refine Ey ?_;cases k with|false=>obtain⟨k',N,O⟩:=m;cases N;exact ite_ff ⟨i,l,O⟩|true=>refine ite_tt (test_last (AJ (q pins K σ i _ l m) λP Q⟨R,S,T,U,V⟩=>AJ (aa pins Q σ S y R u P _ T g U V) λd' s5⟨z2,W,Y,Z,k2,e2,q5⟩=>?_));subst e2;cases Z;exact Ey ⟨W,Y,q5⟩
def Qb (K:Ah) (x:V) (H:Hp) (k:Bool):Prop:=
 match x with
 |.non=>k=false
 |.bl b=>k=b
 |.int i=>k=(i != 0)
 |.str y=>y.length<=sizeLine/\k=((y.length:Int) != 0)
 |.byt y=>y.size<=sizeLine/\k=((y.size:Int) != 0)
 |.ref p=>(∃xs,Ad K H p xs/\k=!xs.isEmpty)\/(∃xs,Am K H p xs/\k=!xs.isEmpty)\/∃kvs,H p=some (.dK kvs)/\k=!kvs.isEmpty
 |_=>False
def UN{κ:Type}{kvs:List (κ×V)}{vs:List (κ×Value)}(r:KV kvs vs):(!vs.isEmpty)=!kvs.isEmpty:=by cases r<;>rfl
def So{xs:R'}{a:D'}(r:Aq xs a):(!a.toArray.isEmpty)=!xs.isEmpty:=by cases r<;>simp
def Mx:(sizeLine:Nat)<2 ^ 63:=by rw[sizeLine_eq];decide
def Kh:P7 X (λx H Q=>∃k,Qb X.K x H k/\Q k H):=by
 intro pins s σ H x v Q I d h;obtain⟨k,e,q⟩:=h;have A:=Mx;have B:sizeLine=16777216:=sizeLine_eq
 cases x with
 |non=>cases d;have a:k=false:=e;subst a;exact truthy_none ⟨H,I,q⟩
 |bl b=>cases d;have a:k=b:=e;subst a;exact Ey ⟨H,I,q⟩
 |int i=>obtain⟨t,rfl⟩:=d;have a:k=(i != 0):=e;subst a;exact PySem.P.truthy_int ⟨H,I,q⟩
 |str y=>obtain⟨t,rfl⟩:=d;obtain⟨u,a⟩:y.length<=sizeLine/\k=((y.length:Int) != 0):=e;subst a;exact PySem.P.truthy_str (by lia) ⟨H,I.tok _,q⟩
 |byt y=>obtain⟨t,rfl⟩:=d;obtain⟨u,a⟩:y.size<=sizeLine/\k=((y.size:Int) != 0):=e;subst a;exact PySem.W.truthy_bytes (by lia) ⟨H,I.tok _,q⟩
 |ref p=>cases d;have a:(∃c,Ad X.K H p c/\k=!c.isEmpty)\/(∃c,Am X.K H p c/\k=!c.isEmpty)\/∃f,H p=some (.dK f)/\k=!f.isEmpty:=e;rcases a with⟨c,g,a⟩|⟨c,g,a⟩|⟨f,g,a⟩;subst a;obtain⟨z,r,l,n⟩:=I.list g;have o:=r.length;exact wpAny_truthy_list l.isList (by simp only[BX];lia) ⟨H,I.tok _,by rw[So r];exact q⟩;subst a;obtain⟨z,r,l,n⟩:=I.tuple g;have o:=r.length;exact truthy_tuple l (by simp only[BX];lia) ⟨H,I.tok _,by rw[So r];exact q⟩;subst a;obtain⟨n,w,j,r,m⟩:f.length<=sizeLine/\(p==sysModules)=false/\∃j,KV f j/\s.heap.DictOf (Dp X.prog X.w) p j:=I.hok p _ g;have o:f.length=j.length:=Paired.length r;exact wpAny_truthy_dict w m (by lia) ⟨H,I.tok _,by rw[UN r];exact q⟩
 |_=>exact(show False from e).elim
def Sq:CC X (binaryOp .Add) (λx y H Q=>∃i j,x=.str i/\y=.str j/\i.length+j.length<=sizeLine/\Q (.str (i++j)) H):=by intro pins s σ H x y v u Q I a b h;obtain⟨i,j,rfl,rfl,c,q⟩:=h;obtain⟨t,rfl⟩:=a;obtain⟨d,rfl⟩:=b;exact add_str (λd O=>⟨.str (i++j),H,I.tok _,⟨_,rfl⟩,q⟩) c
def El{us:D'}(r:Aq [x] us):∃u,us=[u]/\RelV x u:=by
 cases r with|cons a b=>cases b;exact⟨_,rfl,a⟩
def Gv{y:V}{us:D'}(r:Aq [x,y] us):∃u a,us=[u,a]/\RelV x u/\RelV y a:=by
 cases r with
 |cons b c=>
  cases c with|cons d e=>cases e;exact⟨_,_,rfl,b,d⟩
def M5 (K:Ah) (x:V) (H:Hp) (n:Nat):Prop:=
 match x with
 |.str y=>y.length<=sizeLine/\n=y.length
 |.byt y=>y.size<=sizeLine/\n=y.size
 |.ref p=>(∃xs,Ad K H p xs/\n=xs.length)\/∃xs,Am K H p xs/\n=xs.length
 |_=>False
def CH:A8 X (.builtin "len") (λxs H Q=>∃x n,xs=[x]/\M5 X.K x H n/\Q (.int n) H):=by
 intro pins s σ H xs l Q I r h;obtain⟨x,n,rfl,e,q⟩:=h;obtain⟨u,rfl,b⟩:=El r;have m:=Mx;have o:sizeLine=16777216:=sizeLine_eq
 cases x with
 |str y=>obtain⟨t,rfl⟩:=b;obtain⟨i,a⟩:y.length<=sizeLine/\n=y.length:=e;subst a;exact len_str (by lia) ⟨.int _,H,I.tok _,⟨_,rfl⟩,q⟩
 |byt y=>obtain⟨t,rfl⟩:=b;obtain⟨i,a⟩:y.size<=sizeLine/\n=y.size:=e;subst a;exact PySem.W.len_bytes (by lia) ⟨.int _,H,I.tok _,⟨_,rfl⟩,q⟩
 |ref p=>cases b;have a:(∃xs,Ad X.K H p xs/\n=xs.length)\/∃xs,Am X.K H p xs/\n=xs.length:=e;rcases a with⟨xs,c,a⟩|⟨xs,c,a⟩;subst a;obtain⟨k,d,f,j⟩:=I.list c;have g:=d.length;exact Calls.call_len_list f.isList (by simp only[BX];lia) ⟨.int xs.length,H,I.tok _,⟨_,by simp only[BX];rw[g]⟩,q⟩;subst a;obtain⟨k,d,f,j⟩:=I.tuple c;have g:=d.length;exact len_tuple f (by simp only[BX];lia) ⟨.int xs.length,H,I.tok _,⟨_,by simp only[BX];rw[g]⟩,q⟩
 |_=>exact(show False from e).elim
end
section
variable {prog:Program} {w:World} {A:Around} {E:B'} {s:Shared} {K:Ah} {x dx C f:Addr} {i:Str->I'} {name:Str} {v:Value}
end
def DD.some_of{v:V}{o:I'}(r:DD (some v) o):∃u,o=some u/\RelV v u:=by
 cases o with|none=>exact(show False from r).elim|some u=>exact⟨u,rfl,r⟩
section
variable {P:Program} {w:World} {H H':Hp} {h h':Heap} {a C dx:Addr} {fs fs':List (Str×V)}
end
section
variable {X:Cx} {pins:A'} {σ:St} {H:Hp} {s:Shared} {a C dx:Addr} {fs:List (Str×V)} {f:Str} {v:V} {A:Around} {E:B'}
end
section
variable {X:Cx} {o e d:Expr} {f:Str} {L t c:Pos} {F z:TE}
end
section
variable {X:Cx} {pins:A'} {σ:St} {H:Hp} {s:Shared} {A:Around} {E:B'} {Q:B'} {c:Value} {b:Bool}
end
structure BK (k:Nat) (A:Around):Prop where
 hd:A.handled=none
 dp:A.depth+3*k+5<recursionLimit
 un:A.units+16*k+200<cLine
 gd:A.guards=some []
def BK.mono{j k:Nat}(r:BK k A)(h:j<=k):BK j A:=⟨r.hd,by have:=r.dp;lia,by have:=r.un;lia,r.gd⟩
def BK.deeper{k:Nat}{A:Around}(r:BK (k+1) A)(env:Env):BK k (A.deeper env):=
 ⟨r.hd,by have:=r.dp;show A.depth+1+3*k+5<_;lia,by have:=r.un;show A.units+3+16*k+200<_;lia,by first|exact r.gd|(simpa [Around.deeper] using r.gd)⟩
def BK.depth{k:Nat}{A:Around}(r:BK k A):A.depth<recursionLimit:=by have:=r.dp;lia
def BK.units{k:Nat}{A:Around}(r:BK k A):A.units+64<cLine:=by have:=r.un;lia
def CZ:TA:=λ_ H Q=>Q [] H
def DQ (F:TE) (tr:TA):TA:=λσ H Q=>F σ H λx H1=>tr σ H1 λxs H2=>Q (x::xs) H2
section
variable {X:Cx} {e:Expr} {es:L'} {te:TE} {t:TA} {L:Pos}
def Af:PA X [] CZ:=λ_ _ _ _ H Q I h=>Calls.spliced_nil ⟨[],H,I,.nil,h⟩
def Ab(a:PE X e te)(b:PA X es t)(c:starEach (e::es) X.env=(false,eval e X.env)::starEach es X.env:=by rfl):PA X (e::es) (DQ te t):=by intro L pins s σ H Q I h;rw[c];show wpAny _ _ (spliced ((false,eval e X.env)::backTo L (starEach es X.env))) _ _ s;refine Calls.spliced_cons (AJ (a pins s σ H _ I h) λu d⟨x,f,g,i,j⟩=>?_);exact AJ (b L pins d σ f _ g j) λp q⟨k,l,m,n,o⟩=>⟨x::k,l,m,.cons i n,o⟩
def FQ (t:TA):TE:=λσ H Q=>t σ H λxs H1=>xs.length<=sizeLine/\∀p,H1 p=none->Q (.ref p) (upd H1 p (.tup xs))
def Ki (t:TA):TE:=λσ H Q=>t σ H λxs H1=>xs.length<=sizeLine/\∀p,H1 p=none->Q (.ref p) (upd H1 p (.lst xs))
def BR{f}(h:PA X es t):PE X (.Tuple es f L) (FQ t):=by intro pins s σ H Q I g;refine wpAny_Tuple_spliced (AJ (h L pins s σ H _ I g) λi a⟨j,c,d,r,z,q⟩=>⟨by rw[<-r.length];exact z,?_⟩);have k:c a.heap.objs.size=none:=d.hok.fresh (AB _);refine⟨.ref a.heap.objs.size,upd c a.heap.objs.size (.tup j),d.laid (t':=a.toks) (λb u e=>Bb _ e) (AB _) ?_,rfl,q _ k⟩;exact⟨z,i,r,⟨_,Cf _ rfl,rfl,_,rfl⟩⟩
def Ch(h:PA X es t):PE X (.List es L) (Ki t):=by intro pins s σ H Q I f;refine wpAny_List_spliced (AJ (h L pins s σ H _ I f) λg a⟨i,c,d,r,z,q⟩=>⟨by rw[<-r.length];exact z,?_⟩);have j:c a.heap.objs.size=none:=d.hok.fresh (AB _);refine⟨.ref a.heap.objs.size,upd c a.heap.objs.size (.lst i),d.laid (t':=a.toks) (λb u e=>Bb _ e) (AB _) ?_,rfl,q _ j⟩;exact⟨z,g,0,r,Cf _ rfl⟩
end
abbrev Sp:=List V->Hp->VK->XK->Prop
abbrev Gw:=List Env->Hp->Shared->XK->Value->Shared->Prop
structure HM (P:Program) (w:World) (K:Ah) (mg:Str->I') (base:Heap) (A:Around) (outer:List Env) (s:Shared) (H:Hp):Prop where
 frames:A.frames=some outer
 mod:Mod K mg base
 bs:∀b o,base.get? b=some o->s.heap.get? b=some o/\H b=none
 bsz:base.objs.size<=s.heap.objs.size
 funs:s.heap.FunFrames base outer
 frf:∀b∈EM outer,H b=none
 hok:CG P w H s.heap
 bare:AllBare s.gens
def CE (outer:List Env) (P:Program) (w:World) (H:Hp) (s:Shared) (Q:VK) (u:Value) (Z:Shared):Prop:=
 ∃v H',Z.os=s.os/\AllBare Z.gens/\Un (EM outer) [] H H' s.heap Z.heap/\CG P w H' Z.heap/\RelV v u/\Q v H'
def CR (CX:Gw) (outer:List Env) (P:Program) (w:World) (H:Hp) (s:Shared) (Q:VK) (E:XK) (r:Result) (Z:Shared):Prop:=
 match r with
 |.ok (.ret u)=>CE outer P w H s Q u Z
 |.ok _=>False
 |.error e=>CX outer H s E e Z
structure Cm (P:Program) (w:World) (K:Ah) (mg:Str->I') (base:Heap) (CX:Gw) (k:Nat) (f:Addr) (fd:FuncData) (ps:F') (sp:Sp):Prop where
 len:∀vs H Q E,sp vs H Q E->vs.length=ps.length
 run:∀(A:Around)(outer:List Env)(s:Shared)(H:Hp)(args:Args)(us:D')(vs:R')(Q:VK)(E:XK),BK k A->HM P w K mg base A outer s H->BindsTo s fd args (ps.zip us)->Aq vs us->sp vs H Q E ->
  codeAny (model P w) A (.call (.ref f) args) (CR CX outer P w H s Q E) s
section
variable {X:Cx} {pins:A'} {σ:St} {H:Hp} {s Z:Shared}
def Inv.env0(I:Inv X pins σ H s):HM X.prog X.w X.K X.mg X.base X.A X.stack s H:=
 ⟨I.ok.frames,I.ok.mod,I.bs,Fg I.ok.bsz I.sz,I.stack,I.stkFree,I.hok,I.bare⟩
def Inv.after{Q:VK}{u:Value}(I:Inv X pins σ H s)(h:CE X.stack X.prog X.w H s Q u Z):EP X pins σ Q u Z:=by obtain⟨v,a,c,j,un,f,r,q⟩:=h;obtain⟨e,g,d,t,i⟩:=Z;obtain rfl:i=s.os:=c;exact⟨v,a,I.call (h':=e) (g':=g) (d':=d) (t':=t) (ch:=[]) un f j (λb z=>absurd z (by simp)),r,q⟩
end
def Gx (sp:Sp) (c:R') (E:XK) (t:TA):TE:=λσ H Q=>t σ H λvs H1=>sp (vs++c) H1 Q E
def Binds (K:Ah) (fd:FuncData) (ps:F') (ds:D'):Prop:=
 ∀(s:Shared)(us:D'),K.In s.heap->(us++ds).length=ps.length->BindsTo s fd ⟨us,[]⟩ (ps.zip (us++ds))
variable {ps:F'}
def Binds.all{K:Ah}{a:FuncData}(h:∀us:D',us.length=ps.length->bindArgs a ⟨us,[]⟩=pure (ps.zip us)):Binds K a ps []:=λs us _ b=>by rw[Ft] at b ⊢;exact .of_eq (h us b)
def Qc (CX:Gw) (X:Cx) (E:XK):Prop:=∀(pins:A')(σ:St)(H:Hp)(s:Shared)(e:Value)(Z:Shared),Inv X pins σ H s->CX X.stack H s E e Z->X.xe e Z
section
variable {X:Cx} {CX:Gw} {k:Nat} {f C:Addr} {fd:FuncData} {ps:F'} {sp:Sp} {c:R'} {ds:D'} {E:XK} {x m:Str} {p L apos:Pos} {e o:Expr} {es:L'} {F:TE} {t:TA}
def Kj{Q:VK}{us:D'}{vs:R'}(F:Cm X.prog X.w X.K X.mg X.base CX k f fd ps sp)(d:BK k X.A)(g:Binds X.K fd ps ds)(hd:Aq c ds)(i:Qc CX X E)
 (I:Inv X pins σ H s) (r:Aq vs us) (h:sp (vs++c) H Q E):wpAny (model X.prog X.w) X.A (call (.ref f) us) (EP X pins σ Q) X.xe s:=by
 have b:Aq (vs++c) (us++ds):=r.append hd;have j:(us++ds).length=ps.length:=by rw[<-b.length];exact F.len _ _ _ _ h
 refine wpAny_call (codeAny_mono (F.run X.A X.stack s H ⟨us,[]⟩ (us++ds) (vs++c) Q E d I.env0 (g s us I.kIn j) b h) λr Z a=>?_)
 cases r with
 |error e=>exact i pins σ H s e Z I a
 |ok l=>
  cases l with|ret u=>exact I.after a|next=>exact False.elim a|brk=>exact False.elim a|cont=>exact False.elim a
def HN(F:Cm X.prog X.w X.K X.mg X.base CX k f fd ps sp)(b:BK k X.A)(d:Gl X x)(g:X.mg x=some (.ref f))(i:PySem.W.keepIn X.K (.ref f)=true)(j:Binds X.K fd ps ds)(hd:Aq c ds)(l:Qc CX X E)
 (m:PA X (e::es) t) (o:(x==b')=false:=by decide) (n:starEach (e::es) X.env=(false,eval e X.env)::starEach es X.env:=by rfl) (u:(backTo L (starEach es X.env)).any (·.1)=false:=by rfl) :
 PE X (.Call (.Name x p) (e::es) [] L) (Gx sp c E t):=by
 intro pins s σ H Q I h;refine wpAny_Call_Name_kw (Sb I d g ?_ o);refine PySem.W.callWith_K (h₀:=X.base) I.ok.mod.kin i (AJ (m L pins s σ H _ I h) λv w⟨y,z,a,r,q⟩=>⟨a.kIn,?_⟩) n u;exact Kj F b j hd l a r q
end
section
variable {X:Cx} {CX:Gw} {k:Nat} {f C:Addr} {fd:FuncData} {ps ks:F'} {sp:Sp} {E:XK} {x m:Str} {p L apos kpos:Pos} {e o:Expr} {es:L'} {kws:List Keyword} {te F:TE} {t O:TA} {nm:Option Str}
variable {g:D'->D'->D'} {gV:R'->R'->R'}
end
structure Ae (N P:F') (sc:Scope):Prop where
 kind:sc.kind=.function
 co:sc.isCoroutine=false
 gen:sc.isGenerator=false
 nd:N.Nodup
 pre:N.take P.length=P
 par:∀x∈P,sc.names.lookup x=some .local\/sc.names.lookup x=some .cell
 nofree:∀y∈sc.names,y.2≠.free
theorem Sr{kindOf:Str->Option NameKind}{x:Str}:∀{binds:List (Str×Value)}{m:Str->I'},(∀v,(x,v)∉binds)->bindL kindOf binds m x=m x
 |[],_,_=>rfl
 |(n,v)::r,m,h=>by
   unfold bindL;rw[Sr λw a=>h w (DL _ a)];split;have:x≠n:=by rintro rfl;exact h v Ea
   simp[this];rfl
theorem Ss{kindOf:Str->Option NameKind}{x:Str}:∀{binds:List (Str×Value)}{m:Str->I'},(∀v,(x,v)∉binds)->bindC kindOf binds m x=m x
 |[],_,_=>rfl
 |(n,v)::r,m,h=>by
   unfold bindC;rw[Ss λw a=>h w (DL _ a)];split;rfl;have:x≠n:=by rintro rfl;exact h v Ea
   simp[this]
theorem Su{kindOf:Str->Option NameKind}{x:Str}{v:Value}:∀{P:F'}{vs:D'}{i:Nat}{m:Str->I'},P.Nodup->P[i]?=some x->vs[i]?=some v->kindOf x=some .local ->
 bindL kindOf (P.zip vs) m x=some v
 |[],_,_,_,_,h,_,_=>by simp at h
 |_::_,[],_,_,_,_,h,_=>by simp at h
 |p::P,w::vs,0,m,c,a,b,d=>by
   simp at a b;subst a;subst b;show bindL kindOf ((p,w)::P.zip vs) m p=_;unfold bindL;rw[Sr λv e=>(DN.mp c).1 (List.of_mem_zip e).1,AC d];simp
 |p::P,w::vs,i+1,m,c,a,b,d=>by show bindL kindOf ((p,w)::P.zip vs) m x=_;unfold bindL;exact Su (i:=i) (DN.mp c).2 (by simpa using a) (by simpa using b) d
theorem Sv{kindOf:Str->Option NameKind}{x:Str}{v:Value}:∀{P:F'}{vs:D'}{i:Nat}{m:Str->I'},P.Nodup->P[i]?=some x->vs[i]?=some v->kindOf x≠some .local ->
 bindC kindOf (P.zip vs) m x=some v
 |[],_,_,_,_,h,_,_=>by simp at h
 |_::_,[],_,_,_,_,h,_=>by simp at h
 |p::P,w::vs,0,m,c,a,b,d=>by
   simp at a b;subst a;subst b;show bindC kindOf ((p,w)::P.zip vs) m p=_;unfold bindC;rw[Ss λv e=>(DN.mp c).1 (List.of_mem_zip e).1,AA d];simp
 |p::P,w::vs,i+1,m,c,a,b,d=>by show bindC kindOf ((p,w)::P.zip vs) m x=_;unfold bindC;exact Sv (i:=i) (DN.mp c).2 (by simpa using a) (by simpa using b) d
def HP (N:F') (vs:R'):St:=vs.map some++List.replicate (N.length-vs.length) none
def Ay (CX:Gw) (P:Program) (w:World) (K:Ah) (mg:Str->I') (base:Heap) (N:F') (qual:Str) (scope:Scope) (f:Addr) (cd:Value) (A:Around) (outer:List Env) (s:Shared) (H:Hp) (E:XK):Cx where
 prog:=P
 w:=w
 K:=K
 mg:=mg
 base:=base
 A:=A.deeper (envOfC qual scope s.heap.objs.size f cd)
 N:=N
 s₀:=s
 H₀:=H
 env:=envOfC qual scope s.heap.objs.size f cd
 outer:=outer
 stack:=envOfC qual scope s.heap.objs.size f cd::outer
 ex:=[]
 calm:=true
 fn:=λ_=>true
 pn:=[]
 xe:=λe Z=>wpAny (model P w) (A.deeper (envOfC qual scope s.heap.objs.size f cd)) (leaving (envOfC qual scope s.heap.objs.size f cd) e) (λ_ s''=>CX outer H s E e s'') (λe' s''=>CX outer H s E e' s'') Z
def Sw{a:Scope}{n:Nat}{x:Str}(h:a.names.lookup x=some .cell):∃c,(cellsFrom n a.names []).lookup x=some c:=by have q:=PySem.W.cellsFrom_some a.names n [] (.inl h);exact Option.isSome_iff_exists.mp q
def UO{CX:Gw}{K:Ah}{C:Str->I'}{F:Heap}{N:F'}{B:Str}{scope:Scope}{f:Addr}{m:Value}{G:List Env}{I:Shared}{E:XK}{us:D'}{vs:R'}
 (S:Ae N ps scope) (hd:A.handled=none) (g:HM P w K C F A G s H) (T:vs.length=ps.length) (r:Aq vs us)
 (x:InCallC s s.heap.objs.size (bindL (envOfC B scope s.heap.objs.size f m).kindOf (ps.zip us) λ_=>none) (cellsFrom (s.heap.objs.size+1) scope.names []) (bindC (envOfC B scope s.heap.objs.size f m).kindOf (ps.zip us) λ_=>none) I) :
 Inv (Ay CX P w K C F N B scope f m A G s H E) [] (HP N vs) H I:=by
 have W:ps.length<=N.length:=by have:=DK List.length S.pre;rw[DM] at this;lia
 obtain⟨o,O,rfl,J⟩:=x.done;have D:∀b:Addr,b∉(Ay CX P w K C F N B scope f m A G s H E).ex:=λb z=>absurd (show b∈([]:E') from z) (by simp)
 refine⟨⟨g.mod,S.kind,rfl,rfl,AB _,λy z c o d=>?_,λy j=>?_,λy c _ h=>?_,λ_=>hd,Around.frames_deeper g.frames,.inr ⟨rfl,rfl⟩,λb z=>absurd z (D b),g.bs,g.bsz,λb _ _=>D b,λb z=>absurd z (D b),g.funs,g.frf⟩,
  rfl,g.bare,Un.kept J,⟨_,x.toInCall.ns,λi y v o d U=>?_⟩,λy c h=>⟨_,x.cell y c h⟩,g.hok.fresh (AB _),λy c h=>?_,λp l=>absurd (show p∈([]:A') from l) (by simp),g.hok.kept J,?_⟩
 exact name_of_addr x.apart (Fh o) (Fh d);have j:scope.names.lookup y=some .cell\/scope.names.lookup y=some .free:=j;rcases j with j|j;exact Sw j;exact absurd rfl (S.nofree _ (Fh j));exact Dk (x.above y c (Fh h));have t:i<vs.length:=(by unfold HP at d;by_cases t:i<vs.length;exact t;rw[DJ (by simpa using t)] at d;rw[List.getElem?_replicate] at d;split at d<;>cases d)
 have Q:vs[i]?=some v:=by
  unfold HP at d;rw[DH (by simpa using t),AV] at d;cases e:vs[i]? with|none=>rw[e] at d;cases d|some a=>rw[e] at d;cases d;rfl
 obtain⟨u,L,R⟩:=r.get Q;have l:ps[i]?=some y:=(by rw[<-S.pre,List.getElem?_take_of_lt (by lia)];exact o);have M:ps.Nodup:=by rw[<-S.pre];exact S.nd.sublist (List.take_sublist _ _)
 refine⟨u,R,?_⟩;rcases S.par y (CB l) with k|k;exact .inl ⟨k,Su M l L k⟩;obtain⟨c,e⟩:=Sw (n:=s.heap.objs.size+1) k;refine .inr ⟨.inl k,c,e,?_⟩;have q:=x.cell y c e;rw[Sv M l L (by show scope.names.lookup y≠_;rw[k];decide)] at q;exact q;exact g.hok.fresh (Dk (x.above y c (Fh h)));unfold HP;show _=N.length;rw[BC,Al,s0];lia
def M6{CX:Gw}{K:Ah}{j:Str->I'}{l:Heap}{k:Nat}{f:Addr}{name d:Str}{T:Arguments}{z:List Stmt}{scope:Scope}{B kV L C c ct U:Value}{D W:Option Addr}
 {aa:Array (I')} {N:F'} {sp:Sp} (X:K.lookup f=some ⟨U,W,.func (PySem.W.fnOf name d T z scope B kV L C D c ct),aa⟩) (ab:PySem.W.codeIn K c d=true) (S:Ae N ps scope)
 (M:∀vs H Q E,sp vs H Q E->vs.length=ps.length)
 (af:∀(A:Around)(h:List Env)(s:Shared)(H:Hp)(vs:R')(Q:VK)(E:XK),BK k (A.deeper (envOfC d scope s.heap.objs.size f c))->sp vs H Q E ->
  ∃t,Fi (Ay CX P w K j l N d scope f c A h s H E) z t/\t {nx:=λ_ a=>Q .non a,rt:=Q} (HP N vs) H) :
 Cm P w K j l CX (k+1) f (PySem.W.fnOf name d T z scope B kV L C D c ct) ps sp:=by
 refine⟨M,λA h s H ai Y vs Q E m i hb r O=>?_⟩;have hl:=M _ _ _ _ O;have F:K.In s.heap:=i.mod.kin.keeps λb o e=>(i.bs b o e).1;have ae:s.heap.NoLimit:=i.mod.nolimit.keeps λb o e=>(i.bs b o e).1
 have ag:∀y∈ps.zip Y,scope.names.lookup y.1=some .local\/(scope.names.lookup y.1=some .cell/\((cellsFrom (s.heap.objs.size+1) scope.names []).lookup y.1).isSome=true):=λ⟨n,v⟩hy=>by
  rcases S.par n (List.of_mem_zip hy).1 with q|q;exact .inl q;exact .inr ⟨q,PySem.W.cellsFrom_some _ _ _ (.inl q)⟩
 refine codeAny_call_function m.depth (F _ _ X) rfl S.co S.gen rfl (PySem.W.codeRec_of F ab) (hb _ _ _ _ ?_);refine wpAny_newFunctionEnv_cells S.kind ag λah he G x=>?_;subst he;refine⟨ae.keeps x.toInCall.keep,codeAny_func ?_⟩;obtain⟨t,ht,hq⟩:=af A h s H vs Q E (m.deeper _) O;have I:Inv (Ay CX P w K j l N d scope f c A h s H E) [] (HP N vs) H G:=UO S m.hd i hl r x;refine E5 (ht [] G (HP N vs) H _ I hq) (λfl Z g=>?_) λe Z g=>g
 have R:∀{σ':St}{a:Hp}{v:V}{u:Value},Inv (Ay CX P w K j l N d scope f c A h s H E) [] σ' a Z->RelV v u->Q v a->CE h P w H s Q u Z:=
  λ{σ' a v u}J p q=>⟨v,a,J.os,J.bare,J.base,J.hok,p,q⟩
 cases fl with|ret u=>obtain⟨v,σ',a,J,p,q⟩:=g;exact R J p q|next=>obtain⟨σ',a,J,q⟩:=g;exact R (v:=V.non) (u:=Value.none) J rfl q|brk=>obtain⟨_,_,_,q⟩:=g;exact False.elim q|cont=>obtain⟨_,_,_,q⟩:=g;exact False.elim q
section
variable {X:Cx} {x:Str} {p L:Pos} {e:Expr} {es:L'} {t:TA} {id T:String} {r:R'->Hp->VK->Prop}
def Kk (r:R'->Hp->VK->Prop) (t:TA):TE:=λσ H Q=>t σ H λvs H1=>r vs H1 Q
def Bh(a:A8 X (.builtin id) r)(b:X.mg x=none)(c:PA X (e::es) t)(d:Gl X x:=by rfl)(f:bootBuiltins x=some (.builtin id):=by decide +kernel)(g:x ≠ "__name__" :=by decide)(u:(x==b')=false:=by decide)
 (i:starEach (e::es) X.env=(false,eval e X.env)::starEach es X.env:=by rfl) (v:(backTo L (starEach es X.env)).any (·.1)=false:=by rfl):PE X (.Call (.Name x p) (e::es) [] L) (Kk r t):=by
 intro pins s σ H Q I h;refine wpAny_Call_Name_kw (HD I d b f ?_ g u);exact PyProof.Rows.callWith_builtin1 (AJ (c L pins s σ H _ I h) λj k⟨l,m,n,o,q⟩=>a pins k σ m l j Q n o q) i v
def EO(a:A8 X (.type T) r)(b:X.mg x=none)(c:PA X (e::es) t)(d:Gl X x:=by rfl)(f:bootBuiltins x=some (.type T):=by decide +kernel)(g:x ≠ "__name__" :=by decide)(u:(x==b')=false:=by decide)
 (i:starEach (e::es) X.env=(false,eval e X.env)::starEach es X.env:=by rfl) (v:(backTo L (starEach es X.env)).any (·.1)=false:=by rfl):PE X (.Call (.Name x p) (e::es) [] L) (Kk r t):=by
 intro pins s σ H Q I h;refine wpAny_Call_Name_kw (HD I d b f ?_ g u);exact PyProof.Rows.callWith_type1 (AJ (c L pins s σ H _ I h) λj k⟨l,m,n,o,q⟩=>a pins k σ m l j Q n o q) i v
end
end L2
namespace HT
open PySem PyProof.Rows
section
open PySem.SeqAt
open PySem.AutoSeq1 (wpAny_loadPart')
open PySem.MeetsSeq PySem.MeetsSeq2 PySem.MeetsSeq3
end
section
variable {prog:Program} {w:World} {A:Around} {E:B'} {s:Shared}
def sIx (n d:Nat):J'->Nat
 |none=>d
 |some v=>if v<0 then(v+(n:Int)).toNat else min v.toNat n
def sIx_none(n d:Nat):sIx n d none=d:=rfl
def sIx_nat(n d k:Nat):sIx n d (some (k:Int))=min k n:=by show(if(k:Int)<0 then((k:Int)+(n:Int)).toNat else min (k:Int).toNat n)=min k n;rw[AA (by lia),Ex]
def Kl(n d:Nat)(hd:d<=n)(o:J'):sIx n d o<=n:=by
 cases o with
 |none=>exact hd
 |some v=>
  show(if v<0 then(v+(n:Int)).toNat else min v.toNat n)<=n;by_cases a:v<0;rw[AC a];lia;rw[AA a];exact Nat.min_le_right _ _
def Sx(v:Int)(n d:Nat):(if v<0 then max (v+(n:Int)) 0 else min v (n:Int))=((sIx n d (some v):Nat):Int):=by
 show(if v<0 then max (v+(n:Int)) 0 else min v (n:Int))=(((if v<0 then(v+(n:Int)).toNat else min v.toNat n):Nat):Int);by_cases a:v<0;simp only[AC a];lia;simp only[AA a];lia
def UP(lo a:J')(n:Nat):Builtin.Slice.sliceAdjust lo a 1 (n:Int)=(((sIx n 0 lo:Nat):Int),((sIx n n a:Nat):Int)):=by
 have b:¬((1:Int)<0):=(by lia);unfold Builtin.Slice.sliceAdjust;simp only[b,if_false];refine Prod.ext ?_ ?_
 cases lo with
 |none=>rfl
 |some v=>exact Sx v n 0
 cases a with|none=>rfl|some v=>exact Sx v n n
def UQ(i j:Nat):Builtin.Slice.slicePlaces (i:Int) (j:Int) 1=j-i:=by unfold Builtin.Slice.slicePlaces;have a:(1:Int) > 0:=(by lia);simp only[a,if_true,Int.ediv_one];split<;>lia
def Sy{v:Value}{o:J'}{Q:J'->Shared->Prop}(p:IsPart v o)(h:Q o s):wpAny (model prog w) A (Builtin.Slice.slicePartIndex v) Q E s:=by
 cases p with|none=>exact slicePart_none h|int i t=>exact slicePart_int h
def UR{f:Addr}{b c:Value}{lo a:J'}{n:Nat}{Q:Int×Int×Nat->Shared->Prop}(g:s.heap.IsSliceOf f b c .none)(i:IsPart b lo)(j:IsPart c a)
 (h:Q (((sIx n 0 lo:Nat):Int),1,sIx n n a-sIx n 0 lo) s):wpAny (model prog w) A (Builtin.Slice.sliceApplied (.ref f) (pure (n:Int))) Q E s:=by
 obtain⟨k,d,l,e⟩:=id g;unfold Builtin.Slice.sliceApplied Builtin.Slice.sliceFields;refine Ag (Ag (wpAny_field d e (x:=b) rfl (Ag (wpAny_field d e (x:=c) rfl (Ag (wpAny_field d e (x:=.none) rfl (AH ?_)))))));refine Ag (slicePart_none ?_);show wpAny _ _ (if((1:Int)==0)=true then _ else _) _ _ s;rw[AA (by decide)];refine Ag (Sy i (Ag (Sy j (Ag (AH ?_)))));show wpAny _ _ (match Builtin.Slice.sliceAdjust lo a 1 (n:Int) with|(lo,a)=>pure (lo,(1:Int),Builtin.Slice.slicePlaces lo a 1)) _ _ s
 rw[UP lo a n];show wpAny _ _ (pure (((sIx n 0 lo:Nat):Int),(1:Int),Builtin.Slice.slicePlaces ((sIx n 0 lo:Nat):Int) ((sIx n n a:Nat):Int) 1)) _ _ s;rw[UQ];exact AH h
def US(xs:K')(i k:Nat):((List.range k).filterMap λ(m:Nat)=>xs[((i:Int)+(m:Int)*1).toNat]?).toArray=((xs.toList.drop i).take k).toArray:=by
 have e:(λ(m:Nat)=>xs[((i:Int)+(m:Int)*1).toNat]?)=λm=>xs[i+m]?:=by
  funext m;have:((i:Int)+(m:Int)*1).toNat=i+m:=(by lia);rw[this]
 rw[e];have:=pick_run xs i k;rw[List.filterMap_map] at this;have a:((λx=>xs[x]?) ∘ λx=>i+x)=λm=>xs[i+m]?:=rfl;rw[a] at this;rw[this]
def getItem_tuple_cut{t d:Addr}{e:K'}{f g:Value}{lo a:J'}{Q:B'}(b:IsTup s.heap t e)(i:s.heap.IsSliceOf d f g .none)(j:IsPart f lo)(k:IsPart g a)
 (l:¬(sIx e.size 0 lo=0/\sIx e.size e.size a=e.size))
 (h:Q (.ref s.heap.objs.size) {s with heap:=s.heap.push {cls:=.type "tuple",data:=.seq ((e.toList.drop (sIx e.size 0 lo)).take (sIx e.size e.size a-sIx e.size 0 lo)).toArray}})
 (hsz:e.size<=sizeLine):wpAny (model prog w) A (getItem (.ref t) (.ref d)) Q E s:=by
 have c:sizeOk (.seq ((e.toList.drop (sIx e.size 0 lo)).take (sIx e.size e.size a-sIx e.size 0 lo)).toArray):=(by show((e.toList.drop (sIx e.size 0 lo)).take (sIx e.size e.size a-sIx e.size 0 lo)).toArray.size<=sizeLine;rw[BX,DM,IX,Array.length_toList];lia);have v:sIx e.size e.size a<=e.size:=Kl _ _ (AB _) a;obtain⟨n,o,p,z⟩:=id i;have r:s.TypeIs (.ref d) "slice" :=⟨n,o,p⟩;unfold getItem
 try with_reducible refine EL ?_
 first|refine Ag (AH ?_)|skip
 refine Ag (wpAny_sequenceKey b.typeIs (by decide) ?_)
 refine Ag (wpAny_callSpecial?_slot (name:=Str.ofString "__getitem__") b.typeIs PyProof.Rows.slot_tuple_getitem
  (wpAny_call_entry PyProof.Rows.slot_tuple_getitem b.typeIs entry_tuple_getitem ?_ (args_tuple_getitem _ _)))
 show wpAny _ _ (Builtin.Tuple.tupleItemsOf (.ref t) >>= _) _ _ s;refine Ag (tupleItemsOf_ b ?_);refine Ag (MO r ?_);rw[AC (by decide)];refine Ag (UR i j k ?_);have u:¬((((sIx e.size 0 lo:Nat):Int)==0 && (1:Int)==1 && (sIx e.size e.size a-sIx e.size 0 lo)==e.size)=true):=(by intro q;rw[Bool.and_eq_true,Bool.and_eq_true] at q;have x:((sIx e.size 0 lo:Nat):Int)=0:=eq_of_beq q.1.1;have y:sIx e.size e.size a-sIx e.size 0 lo=e.size:=eq_of_beq q.2;exact l ⟨by lia,by lia⟩);show wpAny _ _ (if(((sIx e.size 0 lo:Nat):Int)==0 && (1:Int)==1 && (sIx e.size e.size a-sIx e.size 0 lo)==e.size)=true then _ else _) _ _ s;rw[AA u,US]
 first
  |exact Ag (m:=Builtin.Tuple.tupleExact _) (wpAny_newObj_type (AH ⟨_,rfl,AH h⟩) c)
  |exact Ag (m:=Builtin.Tuple.tupleExact _) (wpAny_newObj_type (Ag (AH (AH ⟨_,rfl,AH h⟩))) c)
  |exact Ag (Ag (m:=Builtin.Tuple.tupleExact _) (wpAny_newObj_type (AH (AH ⟨_,rfl,AH h⟩)) c))
  |exact Ag (Ag (m:=Builtin.Tuple.tupleExact _) (wpAny_newObj_type (AH ⟨_,rfl,AH h⟩) c))
end
end HT
namespace L2
open PySem PySem.Spec PyProof.Rows
abbrev TO:=St->Hp->(J'->Hp->Prop)->Prop
def PO (X:Cx) (e:Option Expr) (t:TO):Prop:=
 ∀(pins:A')(s:Shared)(σ:St)(H:Hp)(Q:J'->Hp->Prop),Inv X pins σ H s->t σ H Q ->
  wpAny (model X.prog X.w) X.A (evalPart e X.env) (λu Z=>∃o H',Inv X pins σ H' Z/\IsPart u o/\Q o H') X.xe s
def HQ:TO:=λ_ H Q=>Q none H
def M7 (t:TE):TO:=λσ H Q=>t σ H λx H1=>∃i,x=.int i/\Q (some i) H1
def UT{ns:C'}:∀{us:D'},Aq (ns.map V.int) us->IntsAre us ns:=by
 induction ns with
 |nil=>intro us r;rw[LL] at r;cases r;exact .nil
 |cons n ns a=>
  intro us r;rw[Ec] at r;cases r with|cons b c=>obtain⟨t,e⟩:=b;subst e;exact .cons n t (a c)
section
variable {X:Cx} {e:Expr} {te:TE} {lo hi:Option Expr} {tl th:TO} {L J:Pos}
def My:PO X none HQ:=by intro a s σ H Q I h;rw[evalPart_none];exact AH ⟨none,H,I,.none,h⟩
def Jg(h:PE X e te):PO X (some e) (M7 te):=by intro g s σ H Q I a;rw[evalPart_some];refine AJ (h g s σ H _ I a) λu j⟨x,b,c,d,f⟩=>?_;obtain⟨i,rfl,q⟩:=f;obtain⟨t,rfl⟩:=d;exact⟨some i,b,c,.int i t,q⟩
def Ow (X:Cx) (r:V->J'->J'->Hp->VK->Prop):Prop:=
 ∀(pins:A')(s:Shared)(σ:St)(H:Hp)(x:V)(v vl vu:Value)(lo hi:J')(sl:Addr)(Q:VK),Inv X pins σ H s->RelV x v->s.heap.IsSliceOf sl vl vu .none->IsPart vl lo->IsPart vu hi->r x lo hi H Q ->
  ∃T id,typeLookup (.type T) "__getitem__" = pure (some (.builtin id))/\s.TypeIs v T/\wpAny (model X.prog X.w) X.A (getItem v (.ref sl)) (EP X pins σ Q) X.xe s
def UU (r:V->J'->J'->Hp->VK->Prop) (te:TE) (tl th:TO):TE:=λσ H Q=>te σ H λx H1=>tl σ H1 λl H2=>th σ H2 λu H3=>r x l u H3 Q
def Km{r:V->J'->J'->Hp->VK->Prop}(i:Ow X r)(j:PE X e te)(k:PO X lo tl)(m:PO X hi th):PE X (.Subscript e (.Slice lo hi none J) L) (UU r te tl th):=by intro c s σ H Q I h;refine Subscript_ (AJ (j c s σ H _ I h) λv n⟨x,o,p,t,w⟩=>?_);refine wpAny_Slice (AJ (k c n σ o _ p w) λd y⟨l,z,A,B,C⟩=>AJ (m c y σ z _ A C) λf a⟨u,g,D,E,F⟩=>?_);rw[evalPart_none];refine AH ?_;have G:Inv X c σ g {a with heap:=a.heap.push {cls:=.type "slice",data:=.fields #[d,f,.none]}}:=D.kept (t':=a.toks) λb O q=>Bb _ q;obtain⟨T,id,K,M,N⟩:=i c {a with heap:=a.heap.push {cls:=.type "slice",data:=.fields #[d,f,.none]}} σ g x v d f l u a.heap.objs.size Q G t (Heap.IsSliceOf.new ..) B E F;show wpAny (model X.prog X.w) X.A (subscriptTail e (.Slice lo hi none J) v (.ref a.heap.objs.size)) (EP X c σ Q) X.xe {a with heap:=a.heap.push {cls:=.type "slice",data:=.fields #[d,f,.none]}};exact tail_any (ops:=[.ref a.heap.objs.size,v]) M K N (by with_unfolding_all rfl)
def Cn (xs:R') (lo hi:J'):R':=(xs.drop (HT.sIx xs.length 0 lo)).take (HT.sIx xs.length xs.length hi-HT.sIx xs.length 0 lo)
def Sz(xs:R')(lo hi:J'):(Cn xs lo hi).length<=xs.length:=by unfold Cn;rw[DM,IX];lia
end
def FR (n:Nat) (i:Int):Option Nat:=if 0<=i then(if i<n then some i.toNat else none) else if -(n:Int)<=i then some (i+n).toNat else none
def Fv {α:Type} (xs:List α) (i:Int):Option α:=(FR xs.length i).bind λj=>xs[j]?
variable {n:Nat}
def SA{i:Int}{j:Nat}(h:FR n i=some j):seqIndex? i n=some j/\j<n/\-(n:Int)<=i/\i<n:=by unfold FR at h;by_cases b:0<=i;rw[AC b] at h;by_cases a:i<n;rw[AC a] at h;have e:i.toNat=j:=Ce h;exact⟨by rw[seqIndex_of b a,e],by lia,by lia,a⟩;rw[AA a] at h;cases h;rw[AA b] at h;by_cases a:-(n:Int)<=i;rw[AC a] at h;have e:(i+n).toNat=j:=Ce h;exact⟨by rw[seqIndex_neg (by lia) a,e],by lia,a,by lia⟩;rw[AA a] at h;cases h
def Qd{α:Type}{xs:List α}{i:Int}{v:α}(h:Fv xs i=some v):∃j,seqIndex? i xs.length=some j/\xs[j]?=some v/\j<xs.length/\-(xs.length:Int)<=i/\i<xs.length:=by
 unfold Fv at h;cases e:FR xs.length i with|none=>rw[e] at h;cases h|some j=>rw[e] at h;obtain⟨a,b,c,d⟩:=SA e;exact⟨j,a,h,b,c,d⟩
def Ck{α:Type}{xs:List α}{j:Nat}{v:α}(h:xs[j]?=some v):Fv xs (j:Int)=some v:=by
 have a:j<xs.length:=(AS.mp h).1;have e:FR xs.length (j:Int)=some j:=(by unfold FR;rw[AC (by lia),AC (by lia)];simp);unfold Fv;rw[e];exact h
def HS (b:Expr):Prop:=∀o i,subscripted b false o i=operate [o,i] (getItem o i)
def Hj (X:Cx) (r:R2):Prop:=
 ∀(d slice:Expr)(pins:A')(s:Shared)(σ:St)(H:Hp)(x y:V)(v u:Value)(Q:VK),Inv X pins σ H s->RelV x v->RelV y u->r x y H Q ->
  subscripted slice false v u=operate [v,u] (getItem v u)->wpAny (model X.prog X.w) X.A (subscriptTail d slice v u) (EP X pins σ Q) X.xe s
def FZ (X:Cx) (id:String) (r:V->R'->Hp->VK->Prop):Prop:=
 ∀(pins:A')(s:Shared)(σ:St)(H:Hp)(x:V)(xs:R')(v:Value)(us:D')(Q:VK),Inv X pins σ H s->RelV x v->Aq xs us->r x xs H Q ->
  wpAny (model X.prog X.w) X.A (call (.builtin id) (v::us)) (EP X pins σ Q) X.xe s
section
variable {X:Cx} {a b:Expr} {F j:TE} {L:Pos}
def Hj.or{r a:R2}(h:Hj X r)(h':Hj X a):Hj X (λx y H Q=>r x y H Q\/a x y H Q):=by intro d slice f s σ H x y v u Q I b c q e;rcases q with q|q;exact h d slice f s σ H x y v u Q I b c q e;exact h' d slice f s σ H x y v u Q I b c q e
def AF{r:R2}(c:Hj X r)(d:PE X a F)(e:PE X b j)(f:HS b:=by exact λ_ _=>rfl):PE X (.Subscript a b L) (EN r F j):=by intro n s σ H Q I h;exact Subscript_ (Kc d e I h λv u g x y i k l m q=>c a b n g σ i x y v u Q k l m q (f _ _))
def M8 (K:Ah):R2:=λx y H Q=>∃p xs i v,x=.ref p/\y=.int i/\Ad K H p xs/\Fv xs i=some v/\Q v H
def M9 (K:Ah):R2:=λx y H Q=>∃p xs i v,x=.ref p/\y=.int i/\Am K H p xs/\Fv xs i=some v/\Q v H
def Na:R2:=λx y H Q=>∃z i c,x=.str z/\y=.int i/\z.length<=sizeLine/\Fv z.cps.toList i=some c/\Q (.str ⟨#[c]⟩) H
def HU:Hj X (M8 X.K):=by
 intro d slice l s σ H x y v u Q I m n h e;obtain⟨p,J,i,z,rfl,rfl,o,A,q⟩:=h;cases m;obtain⟨t,rfl⟩:=n;obtain⟨F,r,b,K⟩:=I.list o;obtain⟨j,a,B,L,C,D⟩:=Qd A;obtain⟨w,f,G⟩:=r.get B;have E:=r.length;have M:=Mx;have k:EP X l σ Q w s:=⟨z,H,I,G,q⟩;by_cases g:0<=i;have c:i.toNat=j:=(by rw[seqIndex_of g D] at a;exact Ce a);exact item_listR b.isList g (by lia) (by rw[c];simpa using f) k e;have c:(i+(F.toArray.size:Int)).toNat=j:=(by rw[seqIndex_neg (by lia) C] at a;rw[BX,<-E];exact Ce a)
 exact subscriptTail_builtinR (x:=w) b.isList.typeIs slot_list_getitem.lookup
  (wpAny_getItem_list_neg (Q:=λr Z=>r=w/\EP X l σ Q r Z) b.isList (by lia) (by rw[BX]<;>lia) (by lia) (by rw[c];simpa using f) ⟨rfl,k⟩) e
def Ko:Hj X (M9 X.K):=by
 intro d slice b s σ H x y v u Q I c e h f;obtain⟨p,C,i,z,rfl,rfl,g,k,q⟩:=h;cases c;obtain⟨t,rfl⟩:=e;obtain⟨K,r,a,D⟩:=I.tuple g;obtain⟨j,l,m,E,F,G⟩:=Qd k;obtain⟨w,n,A⟩:=r.get m;have o:=r.length;have J:=Mx;have B:EP X b σ Q w s:=⟨z,H,I,A,q⟩
 exact subscriptTail_builtinR (x:=w) a.typeIs slot_tuple_getitem.lookup
  (getItem_tuple (j:=j) (Q:=λr Z=>r=w/\EP X b σ Q r Z) a (by lia) (by lia) (by rw[BX,<-o];exact l) (by simpa using n) ⟨rfl,B⟩) f
def Kp:Hj X Na:=by
 intro d slice C s σ H x y v u Q I b e h f;obtain⟨z,i,c,rfl,rfl,r,g,q⟩:=h;obtain⟨t,rfl⟩:=b;obtain⟨w,rfl⟩:=e;obtain⟨j,a,k,A,l,m⟩:=Qd g;have n:z.cps.toList.length=z.length:=(by simp[Str.length]);rw[n] at a l m;have B:=Mx
 exact tail_any (typeIs_str s z t) slot_str_getitem.lookup (getItem_str (c:=c) (by
  have o:decide (i < -(2 ^ 63:Int))=false:=BM (by lia);have p:decide (i ≥ 2 ^ 63)=false:=BM (by lia);rw[o,p,Bool.or_false]) (by rw[a];simpa using k) ⟨.str ⟨#[c]⟩,H,I.tok _,⟨_,rfl⟩,q⟩) f
def Hk (K:Ah):R2:=λx y H Q=>M8 K x y H Q\/M9 K x y H Q\/Na x y H Q
def AG:Hj X (Hk X.K):=HU.or (Ko.or Kp)
def UV(a:D')(n j:Nat)(u:Value):Obj.mapSeq (·.setIfInBounds j u) {cls:=.type "list",data:=.seq a.toArray n}={cls:=.type "list",data:=.seq (a.set j u).toArray n}:=by simp[Obj.mapSeq]
def Inv.lst{pins:A'}{σ:St}{H:Hp}{s:Shared}{p:Addr}{xs:R'}(I:Inv X pins σ H s)(h:H p=some (.lst xs)) :
 ∃(a:D')(n:Nat),Aq xs a/\s.heap.get? p=some {cls:=.type "list",data:=.seq a.toArray n}/\xs.length<=sizeLine:=by
 obtain⟨z,a,n,r,e⟩:=I.hok p _ h;exact⟨a,n,r,e,z⟩
variable {s:Shared}
def Inv.lstUpd{pins:A'}{σ:St}{H:Hp}{p:Addr}{xs ys:R'}{d its':D'}{a:Nat}{f:Obj->Obj}(I:Inv X pins σ H s)(h:H p=some (.lst xs))
 (g:s.heap.get? p=some {cls:=.type "list",data:=.seq d.toArray n}) (c:f {cls:=.type "list",data:=.seq d.toArray n}={cls:=.type "list",data:=.seq its'.toArray a}) (r:Aq ys its') (hz:ys.length<=sizeLine) (t:Nat) :
 Inv X pins σ (upd H p (.lst ys)) {s with heap:=s.heap.update p f,toks:=t}:=by
 have e:(s.heap.update p f).get? p=some {cls:=.type "list",data:=.seq its'.toArray a}:=(by rw[v7 f g (by rw[c]<;>rfl),c]);refine I.write (x:=p) (e:=p) (by rw[h];trivial) (.inl rfl) (λb u i q=>(Heap.get?_update_other _ _ (Ne.symm i)).trans q) ⟨_,e⟩ ?_;exact⟨hz,its',a,r,e⟩
def Nb:V->V->V->Hp->(Hp->Prop)->Prop:=λo i v H Q=>∃p xs k j,o=.ref p/\i=.int k/\H p=some (.lst xs)/\FR xs.length k=some j/\Q (upd H p (.lst (xs.set j v)))
def Jh:HI X Nb:=by
 intro D s σ H o i v E F u Q I x y z h;obtain⟨p,A,k,j,rfl,rfl,e,B,q⟩:=h;cases x;obtain⟨t,rfl⟩:=y;obtain⟨w,n,r,b,C⟩:=I.lst e;obtain⟨a,G,f,g⟩:=SA B;have c:=r.length;have J:=Mx
 have l:Inv X D σ (upd H p (.lst (A.set j v))) {s with heap:=s.heap.update p (Obj.mapSeq (·.setIfInBounds j u))}:=
  I.lstUpd e b (UV w n j u) (r.set z j) (by rw[Dj];exact C) s.toks
 by_cases m:0<=k;have d:k.toNat=j:=(by rw[seqIndex_of m g] at a;exact Ce a);exact PySem.W.ki_setAt b m (by lia) (by rw[BX,<-c];exact g) (by rw[d];exact⟨_,l,q⟩);have d:(k+(w.toArray.size:Int)).toNat=j:=(by rw[seqIndex_neg (by lia) f] at a;rw[BX,<-c];exact Ce a);exact PySem.W.ki_setBack b (by lia) (by rw[BX,<-c];exact f) (by lia) (by rw[d];exact⟨_,l,q⟩)
def UW(lo a:J')(n:Nat):(sliceBounds lo a none n).1=((HT.sIx n 0 lo:Nat):Int)/\(sliceBounds lo a none n).2.1=((HT.sIx n n a:Nat):Int)/\(sliceBounds lo a none n).2.2=1:=by
 refine⟨?_,?_,rfl⟩
 cases lo with
 |none=>simp[sliceBounds,HT.sIx]
 |some i=>simp only[sliceBounds,HT.sIx,Option.getD_none,show(1:Int) > 0 by decide,if_true];by_cases h:i<0;simp only[h,if_true]<;>lia;simp only[h,if_false]<;>lia
 cases a with|none=>simp[sliceBounds,HT.sIx]|some i=>simp only[sliceBounds,HT.sIx,Option.getD_none,show(1:Int) > 0 by decide,if_true];by_cases h:i<0;simp only[h,if_true]<;>lia;simp only[h,if_false]<;>lia
def UX(a:D')(lo b:J'):slicePick a.toArray lo b none=((a.drop (HT.sIx a.length 0 lo)).take (HT.sIx a.length a.length b-HT.sIx a.length 0 lo)).toArray:=by obtain⟨c,d,e⟩:=UW lo b a.toArray.size;unfold slicePick;rw[c,d,e];simp only[sliceRange_one,pick_run,BX]<;>rfl
def Qe (K:Ah):V->J'->J'->Hp->VK->Prop:=λx lo hi H Q=>∃a xs,x=.ref a/\Ad K H a xs/\∀p,H p=none->Q (.ref p) (upd H p (.lst (Cn xs lo hi)))
def Nc:Ow X (Qe X.K):=by intro z s σ H x v p t d e u Q I g i j k h;obtain⟨a,c,rfl,l,q⟩:=h;cases g;obtain⟨y,r,f,m⟩:=I.list l;have n:=r.length;refine⟨"list",_,slot_list_getitem.lookup,f.isList.typeIs,?_⟩;refine wpAny_getItem_list_slice f.isList i j k .none (by simp) ?_ (by rw[BX]<;>lia);rw[UX,<-n];refine⟨.ref s.heap.objs.size,_,I.laid (t':=s.toks) (o:=.lst (Cn c d e)) (λb w q=>Bb _ q) (AB _) ?_,rfl,q _ (I.hok.fresh (AB _))⟩;exact⟨Fg (Sz c d e) m,_,0,(r.drop (HT.sIx c.length 0 d)).take (HT.sIx c.length c.length e-HT.sIx c.length 0 d),Cf _ rfl⟩
def HV:V->Bool
 |.non=>true
 |.bl _=>true
 |.int _=>true
 |.str _=>true
 |_=>false
def HW:V->V->Bool
 |.non,.non=>true
 |.bl a,.bl b=>a==b
 |.bl a,.int b=>(if a then 1 else 0)==b
 |.int a,.bl b=>a==(if b then 1 else 0)
 |.int a,.int b=>a==b
 |.str a,.str b=>a==b
 |_,_=>false
variable {x:V}
def Kq{A:Around}{y:V}{u v:Value}(e:RelV y u)(c:RelV x v)(g:HV y=true)(f:HV x=true):SeqAt.EqAt A s u v (HW y x):=by
 cases y with
 |non=>
  cases e;cases x with|non=>cases c;exact SeqAt.EqAt.same _|bl b=>cases c;exact SeqAt.EqAt.none_bool b|int b=>obtain⟨t,rfl⟩:=c;exact SeqAt.EqAt.none_int b t|str b=>obtain⟨t,rfl⟩:=c;exact SeqAt.EqAt.none_str b t|_=>exact absurd (show false=true from f) CP
 |bl a=>
  cases e;cases x with|non=>cases c;exact SeqAt.EqAt.bool_none a|bl b=>cases c;exact SeqAt.EqAt.bool_bool a b|int b=>obtain⟨t,rfl⟩:=c;exact SeqAt.EqAt.bool_int a b t|str b=>obtain⟨t,rfl⟩:=c;exact SeqAt.EqAt.bool_str a b t|_=>exact absurd (show false=true from f) CP
 |int a=>
  obtain⟨d,rfl⟩:=e;cases x with|non=>cases c;exact SeqAt.EqAt.int_none a d|bl b=>cases c;exact SeqAt.EqAt.int_bool a d b|int b=>obtain⟨t,rfl⟩:=c;exact SeqAt.EqAt.int_int a d b t|str b=>obtain⟨t,rfl⟩:=c;exact SeqAt.EqAt.int_str a d b t|_=>exact absurd (show false=true from f) CP
 |str a=>
  obtain⟨d,rfl⟩:=e;cases x with|non=>cases c;exact SeqAt.EqAt.str_none a d|bl b=>cases c;exact SeqAt.EqAt.str_bool a d b|int b=>obtain⟨t,rfl⟩:=c;exact SeqAt.EqAt.str_int a d b t|str b=>obtain⟨t,rfl⟩:=c;exact SeqAt.EqAt.str_str a d b t|_=>exact absurd (show false=true from f) CP
 |_=>exact absurd (show false=true from g) CP
def HX (x:V) (u:Value):Bool:=match u with
 |.none=>HW .non x
 |.bool b=>HW (.bl b) x
 |.int i _=>HW (.int i) x
 |.str z _=>HW (.str z) x
 |_=>false
def Gy{y:V}{u:Value}(r:RelV y u)(f:HV y=true):HX x u=HW y x:=by
 cases y with|non=>cases r;rfl|bl b=>cases r;rfl|int i=>obtain⟨t,rfl⟩:=r;rfl|str z=>obtain⟨t,rfl⟩:=r;rfl|_=>exact absurd (show false=true from f) CP
theorem Qf{x:V}:∀{xs:R'}{us:D'},Aq xs us->xs.all HV=true->us.any (HX x)=xs.any λy=>HW y x
 |_,_,.nil,_=>rfl
 |y::xs,u::us,.cons r t,f=>by rw[List.all_cons,Bool.and_eq_true] at f;rw[List.any_cons,List.any_cons,Gy r f.1,Qf t f.2]
theorem Qg{A:Around}{s:Shared}{x:V}{v:Value}(b:RelV x v)(c:HV x=true):∀{xs:R'}{us:D'},Aq xs us->xs.all HV=true->∀u∈us,SeqAt.EqAt A s u v (HX x u)
 |_,_,.nil,_=>λu a=>by cases a
 |y::xs,u::us,.cons r t,f=>λd a=>by rw[List.all_cons,Bool.and_eq_true] at f;rcases Cj.mp a with rfl|a;rw[Gy r f.1];exact Kq r b f.1 c;exact Qg b c t f.2 d a
def Mz (x:V) (xs:R'):Bool:=xs.any λy=>HW y x
def SD (K:Ah) (neg:Bool):R2:=λx y H Q=>∃p xs,y=.ref p/\(Ad K H p xs\/Am K H p xs)/\HV x=true/\xs.all HV=true/\Q (.bl (if neg then !Mz x xs else Mz x xs)) H
def SE:CC X (compareOp .In) (SD X.K false):=by intro k s σ H x y v u Q I e g h;obtain⟨p,j,rfl,a,f,fs,q⟩:=h;cases g;rcases a with a|a;obtain⟨b,r,c,i⟩:=I.list a;refine SeqAt.in_listAt (HX x) c.isList (λw d=>Qg e f r fs w (by simpa using d)) ⟨.bl _,H,I,rfl,?_⟩;rw[show b.toArray.any (HX x)=b.any (HX x) by simp,Qf r fs];exact q;obtain⟨b,r,c,i⟩:=I.tuple a;refine SeqAt.in_tupleAt (HX x) c (λw d=>Qg e f r fs w (by simpa using d)) ⟨.bl _,H,I,rfl,?_⟩;rw[show b.toArray.any (HX x)=b.any (HX x) by simp,Qf r fs];exact q
def Hl:A8 X (.type "list") (λxs H Q=>∃p ys,xs=[.ref p]/\(Ad X.K H p ys\/Am X.K H p ys)/\∀l,H l=none->Q (.ref l) (upd H l (.lst ys))):=by
 intro y s σ H xs A Q I r h;obtain⟨p,ys,rfl,g,q⟩:=h;obtain⟨u,rfl,x⟩:=El r;cases x
 have w:∀(c:D'),Aq ys c->ys.length<=sizeLine->∀(a:Heap)(d:Nat),(∀b v,s.heap.get? b=some v->a.get? b=some v) ->
  a.get? s.heap.objs.size=some {cls:=.type "list",dict:=none,data:=.seq c.toArray d,slots:=#[]}->EP X y σ Q (.ref s.heap.objs.size) {s with heap:=a}:=λc f i a d j e =>
  ⟨.ref s.heap.objs.size,_,I.laid (t':=s.toks) j (AB _) (show Az X.prog X.w _ a _ (.lst ys) from⟨i,c,d,f,e⟩),rfl,q _ (I.hok.fresh (AB _))⟩
 rcases g with g|g;obtain⟨c,f,k,i⟩:=I.list g;have z:=f.length;obtain⟨o,m,t,n,hd⟩:=k.isList;exact call_list_seq p (.inl rfl) m t hd (λa d j e=>w c f i a d j e) (by simp only[BX]<;>lia);obtain⟨c,f,k,i⟩:=I.tuple g;have z:=f.length;obtain⟨o,m,t,n,hd⟩:=k;exact call_list_seq p (.inr rfl) m t hd (λa d j e=>w c f i a d j e) (by simp only[BX]<;>lia)
def Qh:A8 X (.type "tuple") (λxs H Q=>∃p ys,xs=[.ref p]/\((Ad X.K H p ys/\∀l,H l=none->Q (.ref l) (upd H l (.tup ys)))\/(Am X.K H p ys/\Q (.ref p) H))):=by
 intro k s σ H xs v Q I r h;obtain⟨p,ys,rfl,h⟩:=h;obtain⟨u,rfl,m⟩:=El r;cases m;rcases h with⟨c,q⟩|⟨c,q⟩;obtain⟨g,d,f,i⟩:=I.list c;have w:=d.length;refine call_tuple_list f.isList (λa n=>?_) (by simp only[BX]<;>lia);have j:Inv X k σ H {s with heap:=a}:=I.kept (t':=s.toks) n
 have t:Inv X k σ (upd H a.objs.size (.tup ys)) {s with heap:=a.push {cls:=.type "tuple",data:=.seq g.toArray}}:=
  j.laid (t':=s.toks) (λb o e=>Bb _ e) (AB _) (show Az X.prog X.w _ _ _ (.tup ys) from⟨i,g,d,IsTup.new _ _⟩)
 exact⟨.ref a.objs.size,_,t,rfl,q _ (j.hok.fresh (AB _))⟩;obtain⟨g,d,f,i⟩:=I.tuple c;exact call_tuple_same f ⟨.ref p,H,I,rfl,q⟩
def Qi (K:Ah) (T:String) (x:V) (H:Hp):Prop:=match x with
 |.str _=>T = "str"
 |.int _=>T = "int"
 |.ref p=>(T = "list" /\ ∃xs,Ad K H p xs)\/(T = "tuple" /\ ∃o,K.lookup p=some o/\o.cls=.type "tuple" /\ o.dict=none) \/
  (T = "dict" /\ ((∃kvs,H p=some (.dK kvs))\/∃kvs,H p=some (.dT kvs)))\/(T = "set" /\ ∃S n,H p=some (.set S n))
 |_=>False
def Gz{pins:List (Addr × Obj)}{σ:St}{H:Hp}{T:String}{v:Value}(I:Inv X pins σ H s)(r:RelV x v)(ty:Qi X.K T x H) :
 s.TypeIs v T/\∀a,v=.ref a->∃ob,s.heap.get? a=some ob/\ob.dict=none:=by
 cases x with
 |str z=>
  obtain⟨t,rfl⟩:=r;cases(show T = "str" from ty);exact⟨typeIs_str s z t,λ_ e=>nomatch e⟩
 |int i=>
  obtain⟨t,rfl⟩:=r;cases(show T = "int" from ty);exact⟨typeIs_int s i t,λ_ e=>nomatch e⟩
 |ref p=>
  cases r;rcases ty with⟨rfl,k,g⟩|⟨rfl,o,b,h,hd⟩|⟨rfl,b⟩|⟨rfl,S,n,b⟩;obtain⟨l,_,f,_⟩:=I.list g;refine⟨f.isList.typeIs,λa e=>?_⟩;cases e;obtain⟨o,n,e,c,hd,_⟩:=f;exact⟨o,e,hd⟩;refine⟨⟨o,I.kIn p o b,h⟩,λa e=>?_⟩;cases e;exact⟨o,I.kIn _ o b,hd⟩;have z:∃o,s.heap.get? p=some o/\o.ExactDict:=(by rcases b with⟨j,b⟩|⟨j,b⟩;obtain⟨_,_,_,_,o,_,_,e,ex,_⟩:=I.hok p _ b;exact⟨o,e,ex⟩;obtain⟨_,_,_,_,o,_,_,e,ex,_⟩:=I.hok p _ b;exact⟨o,e,ex⟩);obtain⟨o,e,ex⟩:=z;refine⟨⟨o,e,ex.1⟩,λa d=>?_⟩;cases d;exact⟨o,e,ex.2.1⟩;obtain⟨o,_,_,_,e,ex,_⟩:=I.hok p _ b;refine⟨⟨o,e,ex.1⟩,λa d=>?_⟩;cases d;exact⟨o,e,ex.2.1⟩
 |_=>exact False.elim ty
def Qj (K:Ah) (T:String) (r:V->R'->Hp->VK->Prop) (c:TE):TE:=λσ H Q=>c σ H λx H1=>Qi K T x H1/\r x [] H1 Q
def UY (K:Ah) (T:String) (r:V->R'->Hp->VK->Prop) (c:TE) (t:TA):TE:=λσ H Q=>c σ H λx H1=>Qi K T x H1/\t σ H1 λxs H2=>r x xs H2 Q
variable {o e:Expr} {es:L'} {c:TE} {t:TA} {name:Str} {apos cpos:Pos} {T id:String} {r:V->R'->Hp->VK->Prop}
def Kr(e:PlainAttrs T)(p:Slot T name id)(n:typeOf (.builtin id)=pure (.type "method_descriptor"))(f:FZ X id r)(g:PE X o c)
 (q:attributeBase o name X.env (eval o X.env)=eval o X.env:=by rfl) (t:(apos.endLine==cpos.line)=true:=by rfl):PE X (.Call (.Attribute o name apos) [] [] cpos) (Qj X.K T r c):=by
 intro d s σ H Q I h;refine wpAny_Call_method0_late q t (AJ (g d s σ H _ I h) λv i⟨x,j,a,b,ty,k⟩=>?_);obtain⟨l,m⟩:=Gz a b ty;exact⟨T,id,e,p,n,l,m,Calls.callWith_builtin rfl (PySem.evalArgs_none (f d i σ j x [] v [] Q a b .nil k))⟩
def Do(g:PlainAttrs T)(F:Slot T name id)(E:typeOf (.builtin id)=pure (.type "method_descriptor"))(i:FZ X id r)(j:PE X o c)(k:PA X (e::es) t)
 (J:attributeBase o name X.env (eval o X.env)=eval o X.env:=by rfl)
 (G:((backTo cpos (starEach (e::es) X.env)).all (λx=>!x.1) && (backToKw cpos (keywordEach [] X.env)).all (λx=>x.1.isSome)
  && decide ((e::es).length+([]:List Keyword).length+(if([]:List Keyword).isEmpty then 0 else 1)<30))=true:=by rfl)
 (K:(apos.endLine==cpos.line)=true:=by rfl) (l:starEach (e::es) X.env=(false,eval e X.env)::starEach es X.env:=by rfl) (L:(backTo cpos (starEach es X.env)).any (·.1)=false:=by rfl) :
 PE X (.Call (.Attribute o name apos) (e::es) [] cpos) (UY X.K T r c t):=by
 intro a s σ H Q I h;refine wpAny_Call_method_late J G K rfl (AJ (j a s σ H _ I h) λv m⟨x,n,b,d,ty,p⟩=>?_);obtain⟨q,u⟩:=Gz b d ty;refine⟨T,id,g,F,E,q,u,?_⟩;have f:=k cpos a m σ n _ b p;rw[l] at f ⊢;refine Calls.callWith_builtin (by show(false || (backTo cpos (starEach es X.env)).any (·.1))=false;rw[L]<;>rfl) (Calls.evalArgs_plain ?_);exact AJ f λw y⟨z,A,B,C,D⟩=>i a y σ A x z v w Q B d C D
end
def Qk (X:Cx) (id:String) (r:V->R'->Hp->VK->Prop):Prop:=
 ∀(pins:A')(s:Shared)(σ:St)(H:Hp)(x:V)(xs:R')(v:Value)(us:D')(Q:VK),Inv X pins σ H s->RelV x v->Aq xs us->r x xs H Q ->
  wpAny (model X.prog X.w) X.A (call (.builtin id) (v::us)) (EP X pins σ Q) X.xe s
theorem Aq.one:∀{x:V}{us:D'},Aq [x] us->∃u,us=[u]/\RelV x u
 |_,_,.cons r .nil=>⟨_,rfl,r⟩
theorem Aq.zero:∀{us:D'},Aq [] us->us=[]
 |_,.nil=>rfl
section
variable {X:Cx} {pins:A'} {σ:St} {H:Hp} {s:Shared} {l b:Addr} {xs ys zs:R'}
def Inv.lset{a its':D'}{f:K'->K'}{t':Nat}(I:Inv X pins σ H s)(b:H l=some (.lst xs))
 (e:s.heap.get? l=some {cls:=.type "list",data:=.seq a.toArray n}) (c:f a.toArray=its'.toArray) (d:Aq ys its') (hz:ys.length<=sizeLine) :
 Inv X pins σ (upd H l (.lst ys)) {s with heap:=s.heap.update l (Obj.mapSeq f),toks:=t'}:=by
 have q:=PySem.IsL.update e f;rw[c] at q;refine I.write (x:=l) (e:=l) (by rw[b];exact trivial) (.inl rfl) (λi u g h=>(Heap.get?_update_other s.heap (Obj.mapSeq f) (Ne.symm g)).trans h) ⟨_,q⟩ ?_;exact⟨hz,its',_,d,q⟩
def Inv.lnew{a:D'}{t':Nat}(I:Inv X pins σ H s)(b:Aq ys a)(hz:ys.length<=sizeLine) :
 Inv X pins σ (upd H s.heap.objs.size (.lst ys)) {s with heap:=s.heap.push {cls:=.type "list",data:=.seq a.toArray},toks:=t'}:=
 I.laid (λ_ _ q=>Bb _ q) (AB _) ⟨hz,a,0,b,Cf _ rfl⟩
def Inv.fresh(I:Inv X pins σ H s):H s.heap.objs.size=none:=I.hok.fresh (AB _)
def Inv.lstM(I:Inv X pins σ H s)(b:H l=some (.lst xs)):xs.length<=sizeLine/\∃(a:D')(n:Nat),Aq xs a/\xs.length=a.length/\s.heap.get? l=some {cls:=.type "list",data:=.seq a.toArray n}:=by obtain⟨z,a,n,r,e⟩:=I.hok l _ b;exact⟨z,a,n,r,r.length,e⟩
def SG(h:n<=sizeLine):Builtin.List.listTooLong n=false:=by unfold Builtin.List.listTooLong;exact BM (by lia)
end
section
variable {X:Cx}
def SH:V->R'->Hp->VK->Prop:=λx vs H Q=>∃l xs y,x=.ref l/\vs=[y]/\H l=some (.lst xs)/\xs.length<sizeLine/\Q .non (upd H l (.lst (xs++[y])))
theorem SI:Qk X "list.append" SH:=by intro o s σ H x g v i Q I c d h;obtain⟨l,j,y,rfl,rfl,a,k,q⟩:=h;cases c;obtain⟨u,rfl,f⟩:=d.one;obtain⟨z,b,n,r,m,e⟩:=I.lstM a;refine call_meets F.slot_list_append ⟨_,e,rfl⟩ F.entry_list_append (F.args_list_append_2 _ _) (PySem.list_append l b.toArray n u (by rw[BX];lia)) ⟨e,?_⟩;refine⟨.non,_,I.lset (its':=b++[u]) a e (by simp) (r.append (.cons f .nil)) ?_,rfl,q⟩;rw[BC,Ff];lia
def SJ:V->R'->Hp->VK->Prop:=λx vs H Q=>∃l b xs zs,x=.ref l/\vs=[.ref b]/\H l=some (.lst xs)/\H b=some (.lst zs)/\xs.length+zs.length<=sizeLine/\Q .non (upd H l (.lst (xs++zs)))
theorem UZ:Qk X "list.extend" SJ:=by
 intro J s σ H x w v y Q I f g h;obtain⟨l,b,A,B,rfl,rfl,d,i,C,q⟩:=h;cases f;obtain⟨u,rfl,j⟩:=g.one;cases j;obtain⟨z,a,n,r,D,e⟩:=I.lstM d;obtain⟨E,c,k,m,G,o⟩:=I.lstM i;have p:a.toArray.size+c.toArray.size<=sizeLine:=by rw[BX,BX];lia
 have t:¬(!a.toArray.isEmpty && Builtin.List.listTooLong (a.toArray.size+c.toArray.size))=true:=(by rw[SG p,Bool.and_false];exact CP)
 refine call_meets F.slot_list_extend ⟨_,e,rfl⟩ F.entry_list_extend (F.args_list_extend_2 _ _)
  (AutoSeq1.list_extend_list_list_0 l a.toArray n b c.toArray k t (by rw[BX];lia) (by lia)) ⟨e,o,?_⟩
 refine⟨.non,_,I.lset (its':=a++c) d e (by simp) (r.append m) ?_,rfl,q⟩;rw[BC];lia
def GA:V->R'->Hp->VK->Prop:=λx vs H Q=>∃l xs,x=.ref l/\vs=[]/\H l=some (.lst xs)/\Q .non (upd H l (.lst []))
theorem U0:Qk X "list.clear" GA:=by intro m s σ H x g v i Q I b c h;obtain⟨l,j,rfl,rfl,a,q⟩:=h;cases b;have d:=c.zero;subst d;obtain⟨z,f,n,r,k,e⟩:=I.lstM a;refine call_meets F.slot_list_clear ⟨_,e,rfl⟩ F.entry_list_clear (F.args_list_clear_1 _) (AutoSeq1.list_clear_list_0 l f.toArray n (by rw[BX];lia)) ⟨e,?_⟩;exact⟨.non,_,I.lset (its':=[]) (ys:=[]) a e rfl .nil (B8 _),rfl,q⟩
def Ql:R2:=λx y H Q=>∃l b xs zs,x=.ref l/\y=.ref b/\H l=some (.lst xs)/\H b=some (.lst zs)/\xs.length+zs.length<=sizeLine/\∀p,H p=none->Q (.ref p) (upd H p (.lst (xs++zs)))
def Ji:CC X (binaryOp .Add) Ql:=by intro D s σ H x y v u Q I d f h;obtain⟨l,b,o,p,rfl,rfl,g,i,t,q⟩:=h;cases d;cases f;obtain⟨z,a,n,r,w,e⟩:=I.lstM g;obtain⟨A,c,B,j,C,k⟩:=I.lstM i;refine PySem.P.add_list e k ?_ (by rw[BX,BX];lia);have m:a.toArray++c.toArray=(a++c).toArray:=(by simp);rw[m];exact⟨.ref _,_,I.lnew (t':=s.toks) (r.append j) (by rw[BC];lia),rfl,q _ I.fresh⟩
end
section
variable {prog:Program} {w:World} {A:Around} {E:B'} {s:Shared}
end
section
variable {X:Cx}
end
section
variable {κ:Type} [DecidableEq κ]
def AE (kvs:List (κ×V)) (k:κ):S':=(kvs.find? λkv=>decide (kv.1=k)).map (·.2)
def AI (kvs:List (κ×V)) (k:κ) (v:V):List (κ×V):=
 if(kvs.any λkv=>decide (kv.1=k))=true then kvs.map (λkv=>if kv.1=k then(kv.1,v) else kv) else kvs++[(k,v)]
def GB{p:κ×V}{r:List (κ×V)}{k:κ}(e:p.1=k):AE (p::r) k=some p.2:=by simp[AE,LM,e]
def GC{p:κ×V}{r:List (κ×V)}{k:κ}(e:¬p.1=k):AE (p::r) k=AE r k:=by simp[AE,LM,e]
theorem Ox(k:κ):∀kvs:List (κ×V),(kvs.any λa=>decide (a.1=k))=(AE kvs k).isSome
 |[]=>rfl
 |p::r=>by rw[List.any_cons];by_cases e:p.1=k;simp only[GB e,Ca e,Bool.true_or,Option.isSome_some];rw[GC e,BM e,Bool.false_or];exact Ox k r
theorem SK(k j:κ)(y:V):∀kvs:List (κ×V),AE (kvs.map λa=>if a.1=k then(a.1,y) else a) j=(AE kvs j).map λx=>if j=k then y else x
 |[]=>rfl
 |p::r=>by have b:=SK k j y r;rw[Ec];by_cases h:p.1=k;rw[AC h];by_cases e:p.1=j;rw[GB (p:=(p.1,y)) e,GB e,Option.map_some,AC (e.symm.trans h)];rw[GC (p:=(p.1,y)) e,GC e,b];rw[AA h];by_cases e:p.1=j;rw[GB (p:=p) e,GB e,Option.map_some,AA (λz=>h (e.trans z))];rw[GC (p:=p) e,GC e,b]
theorem SM(k j:κ)(y:V):∀kvs:List (κ×V),AE kvs k=none->AE (kvs++[(k,y)]) j=if j=k then some y else AE kvs j
 |[],_=>by by_cases e:k=j;rw[AC e.symm];exact GB (p:=(k,y)) e;rw[AA (λz=>e z.symm)];exact GC (p:=(k,y)) e
 |p::r,a=>by
   rw[List.cons_append];have b:¬p.1=k:=λz=>by rw[GB z] at a;cases a
   rw[GC b] at a;have c:=SM k j y r a;by_cases e:p.1=j;rw[GB e,GB e,AA (λz=>b (e.trans z))];rw[GC e,GC e,c]
def U1(kvs:List (κ×V))(k j:κ)(y:V):AE (AI kvs k y) j=if j=k then some y else AE kvs j:=by
 unfold AI;by_cases a:(kvs.any λb=>decide (b.1=k))=true;rw[AC a,SK];rw[Ox] at a;by_cases e:j=k;obtain⟨x,c⟩:=Option.isSome_iff_exists.mp a;rw[AC e,e,c,Option.map_some,AC rfl];rw[AA e]
 cases AE kvs j with
 |none=>rfl
 |some x=>rw[Option.map_some,AA e]
 rw[AA a];refine SM k j y kvs ?_;rw[Ox] at a;cases q:AE kvs k with|none=>rfl|some x=>rw[q] at a;exact(a rfl).elim
def Ks(kvs:List (κ×V))(k:κ)(v:V):(AI kvs k v).length<=kvs.length+1:=by unfold AI;split;rw[Al];lia;rw[BC,EU,Hu];lia
def DD.isSome_eq{o:S'}{u:I'}(r:DD o u):o.isSome=u.isSome:=by
 cases o with
 |none=>cases u with
   |none=>rfl
   |some _=>exact(show False from r).elim
 |some _=>cases u with
   |none=>exact(show False from r).elim
   |some _=>rfl
def DD.getD{o:S'}{u:I'}{d:V}{d':Value}(r:DD o u)(a:RelV d d'):RelV (o.getD d) (u.getD d'):=by
 cases o with
 |none=>cases u with
   |none=>exact a
   |some _=>exact(show False from r).elim
 |some _=>cases u with
   |none=>exact(show False from r).elim
   |some _=>exact r
variable {kvs:List (κ×V)}{vs:List (κ×Value)}
def KV.val(r:KV kvs vs)(k:κ):DD (AE kvs k) (valueAt vs k):=by
 unfold KV at r
 induction r with|nil=>exact True.intro|@cons p q i a h t f=>obtain⟨d,g⟩:=h;by_cases e:p.1=k;have c:q.1=k:=d.symm.trans e;have b:valueAt (q::a) k=some q.2:=(by simp[valueAt,LM,c]);rw[GB e,b];exact g;have c:¬q.1=k:=λz=>e (d.trans z);have b:valueAt (q::a) k=valueAt a k:=(by simp[valueAt,LM,c]);rw[GC e,b];exact f
def KV.any{kvs:List (κ×V)}{vs:List (κ×Value)}(r:KV kvs vs)(k:κ):(kvs.any λa=>decide (a.1=k))=vs.any λa=>decide (a.1=k):=by
 unfold KV at r
 induction r with|nil=>rfl|cons h t b=>rw[List.any_cons,List.any_cons,b,h.1]
def KV.repl(r:KV kvs vs)(k:κ){y:V}{u:Value}(c:RelV y u) :
 KV (kvs.map λa=>if a.1=k then(a.1,y) else a) (vs.map λa=>if a.1=k then(a.1,u) else a):=by
 unfold KV at r ⊢
 induction r with|nil=>exact .nil|@cons p q g i h t d=>rw[Ec,Ec];refine .cons ?_ d;obtain⟨b,f⟩:=h;by_cases e:p.1=k;rw[AC e,AC (b.symm.trans e)];exact⟨b,c⟩;rw[AA e,AA (λz=>e (b.trans z))];exact⟨b,f⟩
def KV.put(r:KV kvs vs)(k:κ){y:V}{u:Value}(a:RelV y u):KV (AI kvs k y) (stored vs k u):=by unfold AI stored;rw[r.any k];by_cases e:(vs.any λb=>decide (b.1=k))=true;rw[AC e,AC e];exact r.repl k a;rw[AA e,AA e];exact Paired.snoc r ⟨rfl,a⟩
def KV.keys(r:KV kvs vs):kvs.map (·.1)=vs.map (·.1):=by
 unfold KV at r
 induction r with|nil=>rfl|cons h t a=>rw[Ec,Ec,a,h.1]
def KV.length{kvs:List (κ×V)}{vs:List (κ×Value)}(r:KV kvs vs):kvs.length=vs.length:=Paired.length r
end
variable {P:Program}{w:World}{u:Value}
def HY{k:AL}(r:RelV (kV k) u):(Dp P w).is k u=true:=by
 cases k with|inl i=>obtain⟨t,e⟩:=(show ∃t,u=Value.int i t from r);subst e;exact Uz P w i t|inr x=>obtain⟨t,e⟩:=(show ∃t,u=Value.str x t from r);subst e;exact UA P w x t
theorem SN{P:Program}{w:World}:∀{ks:V'}{us:D'},Aq (ks.map kV) us->ItemsAre (Dp P w) ks us
 |[],_,r=>by rw[LL] at r;cases r;exact .nil
 |k::ks,_,r=>by
   rw[Ec] at r;cases r with|cons h t=>exact .cons (HY h) (SN t)
abbrev KT (H:Hp):List (List AL×V)->List (List AL×Addr×Value)->Prop:=Paired λp q=>p.1=q.1/\H q.2.1=some (.tup (p.1.map kV))/\RelV p.2 q.2.2
variable {H:Hp}{kvs:List (List AL×V)}{xs:List (List AL×Addr×Value)}
def KT.val(r:KT H kvs xs)(k:V'):DD (AE kvs k) ((atKey xs k).map (·.2)):=by
 induction r with|nil=>exact True.intro|@cons p q i a h t f=>obtain⟨d,_,g⟩:=h;by_cases e:p.1=k;have c:q.1=k:=d.symm.trans e;have b:atKey (q::a) k=some q.2:=(by simp[atKey,LM,c]);rw[GB e,b];exact g;have c:¬q.1=k:=λz=>e (d.trans z);have b:atKey (q::a) k=atKey a k:=(by simp[atKey,LM,c]);rw[GC e,b];exact f
variable {y:V}
def KT.repl(r:KT H kvs xs)(k:V')(d:RelV y u) :
 KT H (kvs.map λb=>if b.1=k then(b.1,y) else b) (xs.map (putAt k u)):=by
 induction r with|nil=>exact .nil|@cons p q i j h t f=>rw[Ec,Ec];refine .cons ?_ f;obtain⟨a,c,g⟩:=h;unfold putAt;by_cases e:p.1=k;rw[AC e,AC (a.symm.trans e)];exact⟨a,c,d⟩;rw[AA e,AA (λz=>e (a.trans z))];exact⟨a,c,g⟩
def KT.put(r:KT H kvs xs)(k:V'){b:Addr}(c:H b=some (.tup (k.map kV)))(a:RelV y u) :
 KT H (AI kvs k y) (storedH xs k b u):=by
 have e:(kvs.any λd=>decide (d.1=k))=(atKey xs k).isSome:=(by rw[Ox,(r.val k).isSome_eq,Option.isSome_map]);unfold AI storedH;rw[e];by_cases q:(atKey xs k).isSome=true;rw[AC q,AC q];exact r.repl k a;rw[AA q,AA q];exact Paired.snoc r ⟨rfl,c,a⟩
variable {H':Hp}
def KT.keeps(r:KT H kvs xs)(a:∀b ys,H b=some (.tup ys)->H' b=some (.tup ys)):KT H' kvs xs:=
 Paired.mapP r λ_ _ z=>⟨z.1,a _ _ z.2.1,z.2.2⟩
section
variable {P:Program} {w:World} {H:Hp} {h:Heap} {a:Addr}
def GD{u:HO}(ok:CG P w H h)(e:Rd H a u):Az P w H h a u:=e.ok ok
def Kt{kvs:List (AL×V)}(ok:CG P w H h)(e:Rd H a (.dK kvs)):kvs.length<=sizeLine/\(a==sysModules)=false/\∃vs,KV kvs vs/\h.DictOf (Dp P w) a vs:=
 show Az P w H h a (.dK kvs) from GD ok e
def Nd{kvs:List (AL×V)}(ok:CG P w H h)(e:H a=some (.dK kvs)):kvs.length<=sizeLine/\(a==sysModules)=false/\∃vs,KV kvs vs/\h.DictOf (Dp P w) a vs:=Kt ok (.inl e)
def Jj{ks:V'}(ok:CG P w H h)(e:H a=some (.tup (ks.map kV))):(tupleKind (Dp P w)).is h ks a:=by obtain⟨_,f,r,o,b,c,n,d⟩:=(show Az P w H h a (.tup (ks.map kV)) from ok a _ e);exact⟨o,f.toArray,n,b,c,d,by simpa using SN r⟩
def Ku(ok:CG P w H h)(e:Rd H a (.dT kvs)):kvs.length<=sizeLine/\(a==sysModules)=false /\
 ∃xs,KT H kvs xs/\h.DictOfH (tupleKind (Dp P w)) a xs:=by
 obtain⟨z,y,xs,r,o,d,f,g,i,j,k,n⟩:=(show Az P w H h a (.dT kvs) from GD ok e);refine⟨z,y,xs,r,o,d,f,g,i,j,k,λx b=>?_,n⟩
 have all:∀{l:List (V' × V)}{m:List (V' × Addr × Value)},KT H l m -> ∀x∈m,(tupleKind (Dp P w)).is h x.1 x.2.1:=by
  intro l m q
  induction q with
  |nil=>intro x b;exact nomatch b
  |@cons p q u v c t s=>intro x b;rcases Cj.mp b with e|b;subst e;exact Jj ok (by rw[<-c.1];exact c.2.1);exact s x b
 exact all r x b
def GF(ok:CG P w H h)(e:H a=some (.dT kvs)):kvs.length<=sizeLine/\(a==sysModules)=false /\
 ∃xs,KT H kvs xs/\h.DictOfH (tupleKind (Dp P w)) a xs:=Ku ok (.inl e)
end
def B2 (H:Hp) (a:Addr) (y:V) (r:S'):Prop:=
 (∃kvs k,Rd H a (.dK kvs)/\y=kV k/\r=AE kvs k)\/∃kvs k b,Rd H a (.dT kvs)/\y=.ref b/\H b=some (.tup (k.map kV))/\r=AE kvs k
def GG (H:Hp) (a:Addr) (y v:V) (H':Hp):Prop:=
 (∃kvs k,H a=some (.dK kvs)/\y=kV k/\kvs.length<sizeLine/\H'=upd H a (.dK (AI kvs k v))) \/
 ∃kvs k b,H a=some (.dT kvs)/\y=.ref b/\H b=some (.tup (k.map kV))/\kvs.length<sizeLine/\H'=upd H a (.dT (AI kvs k v))
def B2.k{H:Hp}{a:Addr}{kvs:List (AL×V)}{k:AL}(e:H a=some (.dK kvs)):B2 H a (kV k) (AE kvs k):=.inl ⟨kvs,k,.inl e,rfl,rfl⟩
variable {a:Addr}
def B2.t{b:Addr}{k:V'}(e:H a=some (.dT kvs))(c:H b=some (.tup (k.map kV))):B2 H a (.ref b) (AE kvs k):=.inr ⟨kvs,k,b,.inl e,rfl,c,rfl⟩
def GG.k{H:Hp}{a:Addr}{kvs:List (AL×V)}{k:AL}{v:V}(e:H a=some (.dK kvs))(b:kvs.length<sizeLine):GG H a (kV k) v (upd H a (.dK (AI kvs k v))):=.inl ⟨kvs,k,e,rfl,b,rfl⟩
section
variable {X:Cx} {pins:A'} {σ:St} {H:Hp} {s:Shared} {a:Addr} {y v:V} {u r:Value} {o:S'} {A:Around} {E:B'}
def Inv.big(I:Inv X pins σ H s):sysModules<s.heap.objs.size:=by have h:mainGlobals<s.heap.objs.size:=(I.mod.glob.keeps I.bk).lt;exact Nat.lt_trans (by decide) h
variable {Q:B'}
def U2(q:A.units+1<cLine)(I:Inv X pins σ H s)(g:B2 H a y (some v))(n:RelV y u)(h:∀c Z,Inv X pins σ H Z->RelV v c->Q c Z) :
 wpAny (model X.prog X.w) A (getItem (.ref a) u) Q E s:=by
 rcases g with⟨kvs,k,e,d,l⟩|⟨kvs,k,b,e,d,r,l⟩;subst d;obtain⟨z,hd,t,j,f⟩:=Kt I.hok e;obtain⟨c,i,m⟩:=DD.some_of (v:=v) (o:=valueAt t k) (by rw[l];exact j.val k);exact wpAny_getItem_of (HY n) f.mapOf i (h c _ (I.tok _) m);subst d;cases(show u=Value.ref b from n);obtain⟨z,hd,xs,j,f⟩:=Ku I.hok e;obtain⟨c,i,m⟩:=DD.some_of (v:=v) (o:=(atKey xs k).map (·.2)) (by rw[l];exact j.val k);obtain⟨p,w,x⟩:=CD.mp i;refine wpAny_getItem_heap (tupleKind_room_in1 q) (Jj I.hok r) f w ?_;rw[x];exact h c _ (I.tok _) m
def Qm(j:A.units+1<cLine)(I:Inv X pins σ H s)(g:B2 H a y o)(i:RelV y u)(h:∀Z,Inv X pins σ H Z->Q (.bool o.isSome) Z) :
 wpAny (model X.prog X.w) A (compareOp .In u (.ref a)) Q E s:=by
 rcases g with⟨kvs,k,e,c,l⟩|⟨kvs,k,b,e,c,m,l⟩;subst c;obtain⟨z,hd,n,f,d⟩:=Kt I.hok e;refine wpAny_in_of (HY i) hd d.mapOf ?_;rw[<-(f.val k).isSome_eq,<-l];exact h _ (I.tok _);subst c;cases(show u=Value.ref b from i);obtain⟨z,hd,xs,f,d⟩:=Ku I.hok e;refine wpAny_in_heap (tupleKind_room_in1 j) (Jj I.hok m) hd d ?_;have q:=(f.val k).isSome_eq;rw[Option.isSome_map] at q;rw[<-q,<-l];exact h _ (I.tok _)
def HZ(j:A.units+1<cLine)(I:Inv X pins σ H s)(g:B2 H a y o)(i:RelV y u)(h:∀Z,Inv X pins σ H Z->Q (.bool (!o.isSome)) Z) :
 wpAny (model X.prog X.w) A (compareOp .NotIn u (.ref a)) Q E s:=by
 rcases g with⟨kvs,k,e,c,l⟩|⟨kvs,k,b,e,c,m,l⟩;subst c;obtain⟨z,hd,n,f,d⟩:=Kt I.hok e;refine wpAny_notIn_of (HY i) hd d.mapOf ?_;rw[<-(f.val k).isSome_eq,<-l];exact h _ (I.tok _);subst c;cases(show u=Value.ref b from i);obtain⟨z,hd,xs,f,d⟩:=Ku I.hok e;refine wpAny_notIn_heap (tupleKind_room_in1 j) (Jj I.hok m) hd d ?_;have q:=(f.val k).isSome_eq;rw[Option.isSome_map] at q;rw[<-q,<-l];exact h _ (I.tok _)
def Kv{h':Heap}{t':Nat}{ob:HO}(I:Inv X pins σ H s)(c:MQ (H a))(d:Heap.SameBut a s.heap h')(f:∃q,h'.get? a=some q)(h:Az X.prog X.w (upd H a ob) h' a ob) :
 Inv X pins σ (upd H a ob) {s with heap:=h',toks:=t'}:=
 I.write (x:=a) (e:=a) c (.inl rfl) (λb q g z=>(d.2 b g).trans z) f h
def Oy{h':Heap}{kvs:List (AL×V)}{vs:List (AL×Value)}(z:kvs.length<=sizeLine)(hd:(a==sysModules)=false)(c:KV kvs vs)(b:h'.DictOf (Dp P w) a vs) :
 Az P w H' h' a (.dK kvs):=⟨z,hd,vs,c,b⟩
def U3{Q:Unit->Shared->Prop}(F:A.units+1<cLine)(I:Inv X pins σ H s)(g:GG H a y v H')(w:RelV y u)(x:RelV v r)(h:∀Z,Inv X pins σ H' Z->Q () Z) :
 wpAny (model X.prog X.w) A (setItem (.ref a) u r) Q E s:=by
 rcases g with⟨kvs,k,e,j,l,m⟩|⟨kvs,k,b,e,j,B,l,m⟩;subst j m;obtain⟨z,hd,G,d,n⟩:=Nd I.hok e;have o:G.length<=sizeLine:=by rw[<-d.length];exact z
 have p:(AI kvs k v).length<=sizeLine:=by have:=Ks kvs k v;lia
 refine wpAny_setItem_pairs (hsz:=o) (HY w) n λC i t=>h _ ?_;have J:∃q,C.get? a=some q:=let ⟨q,_,_,f,_⟩:=i;⟨q,f⟩;exact Kv I (by rw[e];exact True.intro) t J (Oy p hd (d.put k x) i);subst j m;cases(show u=Value.ref b from w);obtain⟨z,hd,xs,d,n⟩:=GF I.hok e;have o:xs.length<=sizeLine:=by rw[<-Paired.length d];exact z
 have p:(AI kvs k v).length<=sizeLine:=by have:=Ks kvs k v;lia
 refine wpAny_setItem_heap (hsz:=o) (tupleKind_room_in1 F) (Jj I.hok B) n λC i t=>h _ ?_;obtain⟨q,K,L,f,M,N,O,_,P⟩:=i;refine Kv I (by rw[e];exact True.intro) t ⟨q,f⟩ ⟨p,hd,_,(d.put k B x).keeps λc R D=>?_,q,K,L,f,M,N,O,P⟩;rw[Ax (Om D e (λz=>nomatch z))];exact D
end
section
variable {X:Cx} {pins:A'} {σ:St} {H:Hp} {s:Shared} {a:Addr} {kvs:List (AL×V)} {k:AL} {u:Value} {A:Around} {E:B'}
end
def Nf (i:Expr):Prop:=∀ov iv,subscripted i false ov iv=operate [ov,iv] (getItem ov iv)
variable {s:Shared}{L:Pos}
def Ia{prog:Program}{A:Around}{E:B'}{env:Env}{d slice:Expr}{T id:String}{Q:B'}
 (j:typeLookup (.type T) "__getitem__" = pure (some (.builtin id))) (k:Nf slice)
 (h:wpAny (model prog w) A (eval d env) (λo e=>wpAny (model prog w) A (eval slice env) (λi a=>a.TypeIs o T/\wpAny (model prog w) A (getItem o i) Q E a) E e) E s) :
 wpAny (model prog w) A (eval (.Subscript d slice L) env) Q E s:=by
 refine Subscript_ (E5 h (λo e l=>E5 l (λi a b=>?_) λ_ _ x=>x) λ_ _ x=>x);obtain⟨f,b⟩:=b;unfold subscriptTail;refine Ag ?_;rw[getitemInPython_of_ne f.not_modules];refine Ag (wpAny_specialOf f j ?_);have c:wpAny (model prog w) A (subscripted slice false o i) (λr g=>wpAny (model prog w) A (letTemporaryGo d o r >>= λ_=>pure r) Q E g) E a:=(by rw[k o i];exact wpAny_operating (E5 b (λr g m=>Ag (wpAny_letTemporaryGo (AH m))) λ_ _ x=>x))
 first
  |exact AH (Ag c)
  |exact Ag (AH (Ag c))
  |exact Ag c
variable {X:Cx}
def U4{pins:A'}{σ:St}{o:S'}(I:Inv X pins σ H s)(g:B2 H a y o):s.TypeIs (.ref a) "dict" :=by rcases g with⟨kvs,k,e,_,_⟩|⟨kvs,k,b,e,_,_,_⟩;obtain⟨_,_,d,_,c⟩:=Kt I.hok e;exact c.typeIs;obtain⟨_,_,xs,_,c⟩:=Ku I.hok e;exact c.typeIs
def Ng (k ty:TE):TE:=λσ H Q=>k σ H λx H1=>ty σ H1 λy H2=>∃a v,x=.ref a/\B2 H2 a y (some v)/\Q v H2
section
variable {X:Cx} {o i e d:Expr} {L t c:Pos} {k ty z:TE}
def SO(d:X.A.units+1<cLine)(e:PE X o k)(f:PE X i ty)(j:Nf i):PE X (.Subscript o i L) (Ng k ty):=by intro c s σ H Q I h;refine Ia PySem.F.slot_dict_getitem.lookup j (AJ (e c s σ H _ I h) λu l⟨x,m,n,p,q⟩=>AJ (f c l σ m _ n q) λB C⟨y,r,b,t,a,v,ex,g,w⟩=>?_);subst ex;obtain rfl:u=Value.ref a:=p;exact⟨U4 b g,U2 d b g t λD E z A=>⟨v,r,z,A,w⟩⟩
end
def Qn(h:Heap)(a:sysModules<h.objs.size):Az P w H (h.push {cls:=.type "dict",data:=.dict #[]}) h.objs.size (.dK []):=
 ⟨B8 _,beq_eq_false_iff_ne.mpr (Ne.symm (CF a)),[],.nil,Heap.DictOf.new h⟩
def SQ(h:Heap)(a:sysModules<h.objs.size):Az P w H (h.push {cls:=.type "dict",data:=.dict #[]}) h.objs.size (.dT []):=
 ⟨B8 _,beq_eq_false_iff_ne.mpr (Ne.symm (CF a)),[],.nil,_,#[],0,Cf _ rfl,⟨rfl,rfl,rfl⟩,rfl,rfl,List.nodup_nil⟩
def Kw:TE:=λ_ H Q=>∀p,H p=none->Q (.ref p) (upd H p (.dK []))
def Kx:TE:=λ_ H Q=>∀p,H p=none->Q (.ref p) (upd H p (.dT []))
section
variable {X:Cx} {L:Pos}
def Qo:PE X (.Dict [] [] L) Kw:=λb s σ H Q I h =>
 wpAny_Dict_empty ⟨.ref s.heap.objs.size,_,I.laid (a:=s.heap.objs.size) (o:=.dK []) (t':=s.toks) (λ_ _ q=>Bb _ q) (AB _) (Qn s.heap I.big),rfl,h _ (I.hok.fresh (AB _))⟩
def Qp:PE X (.Dict [] [] L) Kx:=λb s σ H Q I h =>
 wpAny_Dict_empty ⟨.ref s.heap.objs.size,_,I.laid (a:=s.heap.objs.size) (o:=.dT []) (t':=s.toks) (λ_ _ q=>Bb _ q) (AB _) (SQ s.heap I.big),rfl,h _ (I.hok.fresh (AB _))⟩
end
def Qq:List (TE×TE)->St->Hp->(List (V×V)->Hp->Prop)->Prop
 |[],_,H,Q=>Q [] H
 |(O,z)::r,σ,H,Q=>O σ H λx H1=>z σ H1 λy H2=>Qq r σ H2 λps H3=>Q ((x,y)::ps) H3
abbrev VV:List (V×V)->List (Value×Value)->Prop:=Paired λp q=>RelV p.1 q.1/\RelV p.2 q.2
def Oz (X:Cx) (L:Pos) (keys:List (Option Expr)) (values:L') (trs:List (TE×TE)):Prop:=
 ∀(pins:A')(s:Shared)(σ:St)(H:Hp)(Q:List (V×V)->Hp->Prop),Inv X pins σ H s->Qq trs σ H Q ->
  wpAny (model X.prog X.w) X.A (evalPairs (pairTrees keys values X.env L)) (λvs Z=>∃ps H',Inv X pins σ H' Z/\VV ps vs/\Q ps H') X.xe s
def Qr:Oz X L [] [] []:=λa s σ H Q I h=>pairTrees_nil_walk ⟨[],H,I,.nil,h⟩
def Ky{k v:Expr}{ks:List (Option Expr)}{vs:L'}{O z:TE}{b:List (TE×TE)}(c:PE X k O)(d:PE X v z)(e:Oz X L ks vs b) :
 Oz X L (some k::ks) (v::vs) ((O,z)::b):=λa s σ H Q I h =>
 pairTrees_cons_walk (AJ (c a s σ H _ I h) λu f⟨x,g,i,j,l⟩=>AJ (d a f σ g _ i l) λC m⟨y,n,o,p,q⟩ =>
  AJ (e a m σ n _ o q) λD E⟨r,t,w,B,A⟩=>⟨(x,y)::r,t,w,.cons ⟨j,p⟩ B,A⟩)
def EW (kvs more:List (AL×V)):List (AL×V):=more.foldl (λacc kv=>AI acc kv.1 kv.2) kvs
def KV.merge:∀{more:List (AL×V)}{a:List (AL×Value)}{kvs:List (AL×V)}{vs:List (AL×Value)},KV more a->KV kvs vs->KV (EW kvs more) (merged vs a):=by
 intro more a kvs vs r;unfold KV at r
 induction r generalizing kvs vs with
 |nil=>intro q;exact q
 |@cons p q d f h t b=>
  intro c;have e:KV (AI kvs p.1 p.2) (stored vs q.1 q.2):=(by have:=c.put p.1 h.2;rw[<-h.1];exact this);exact b e
theorem SR:∀(more kvs:List (AL×V)),(EW kvs more).length<=kvs.length+more.length
 |[],kvs=>by show kvs.length<=kvs.length+0;lia
 |p::r,kvs=>by have a:=SR r (AI kvs p.1 p.2);have b:=Ks kvs p.1 p.2;show(EW (AI kvs p.1 p.2) r).length<=_;rw[EU];lia
theorem SS{P:Program}{w:World}:∀{kvs:List (AL×V)}{e:List (Value×Value)},VV (kvs.map λf=>(kV f.1,f.2)) e->∃d,Carries (Dp P w) e d/\KV kvs d
 |[],_,r=>by rw[LL] at r;cases r;exact⟨[],True.intro,.nil⟩
 | p :: kvs,_,r=>by
   rw[Ec] at r;cases r with|@cons a b as bs h t=>obtain⟨d,c,q⟩:=SS (P:=P) (w:=w) t;obtain⟨i,g⟩:=b;exact⟨(p.1,g)::d,⟨HY h.1,rfl,c⟩,.cons ⟨rfl,h.2⟩ q⟩
def Nh (trs:List (TE×TE)):TE:=λσ H Q=>∀p,H p=none->Qq trs σ (upd H p (.dK [])) λps H2=>H2 p=some (.dK [])/\∃kvs:List (AL×V),ps=kvs.map (λkv=>(kV kv.1,kv.2))/\kvs.length<=15/\Q (.ref p) (upd H2 p (.dK (EW [] kvs)))
def Qs{keys:List (Option Expr)}{values:L'}{d:List (TE×TE)}(h:Oz X L keys values d)(D:keys.all (·.isSome)=true)(g:keys.length=values.length)(i:keys≠[])
 (B:keys.length<=15):PE X (.Dict keys values L) (Nh d):=by
 intro E s σ H Q I q;have j:=I.hok.fresh (AB s.heap.objs.size);have k:=I.laid (a:=s.heap.objs.size) (o:=.dK []) (h':=s.heap.push {cls:=.type "dict",data:=.dict #[]}) (t':=s.toks) (λ_ _ q=>Bb _ q) (AB _) (Qn s.heap I.big);refine wpAny_Dict_walk (knd:=Dp X.prog X.w) D g i B (AJ (h E _ σ _ _ k (q _ j)) λF G⟨J,K,b,C,e,kvs,l,M,m⟩=>?_);subst l;obtain⟨n,c,p⟩:=SS (P:=X.prog) (w:=X.w) C;obtain⟨z,hd,N,r,t⟩:=Nd b.hok e;cases r;refine⟨n,c,t,λh' f u=>⟨.ref s.heap.objs.size,_,?_,rfl,m⟩⟩;have v:(EW [] kvs).length<=sizeLine:=(by have x:=SR kvs [];rw[Hu] at x;rw[sizeLine_eq];lia);have y:∃q,h'.get? s.heap.objs.size=some q:=let ⟨q,_,_,A,_⟩:=f;⟨q,A⟩;exact Kv b (by rw[e];exact True.intro) u y (Oy v hd (p.merge .nil) f)
structure M2 (X:Cx) (o:Expr) (m:Str) (apos:Pos) (e f:Expr) (cpos:Pos):Prop where
 base:attributeBase o m X.env (eval o X.env)=eval o X.env
 few:((backTo cpos (starEach [e,f] X.env)).all (λx=>!x.1) && (backToKw cpos (keywordEach [] X.env)).all (λx=>x.1.isSome)
  && decide (([e,f]:L').length+([]:List Keyword).length+(if([]:List Keyword).isEmpty then 0 else 1)<30))=true
 line:(apos.endLine==cpos.line)=true
 trees:backTo cpos (starEach [e,f] X.env)=[(false,eval e X.env),(false,eval f X.env)]
def SU (H:Hp) (a:Addr):Prop:=(∃kvs,Rd H a (.dK kvs))\/∃kvs,Rd H a (.dT kvs)
def Kz{pins:A'}{σ:St}(I:Inv X pins σ H s)(d:SU H a) :
 s.TypeIs (.ref a) "dict" /\ (∀b,Value.ref a=.ref b->∃ob,s.heap.get? b=some ob/\ob.dict=none)/\(a==sysModules)=false:=by
 rcases d with⟨kvs,e⟩|⟨kvs,e⟩;obtain⟨_,hd,h,_,c⟩:=Kt I.hok e;refine⟨c.typeIs,λb q=>?_,hd⟩;cases q;obtain⟨ob,_,_,f,g,_⟩:=c;exact⟨ob,f,g.2.1⟩;obtain⟨_,hd,xs,_,c⟩:=Ku I.hok e;refine⟨c.typeIs,λb q=>?_,hd⟩;cases q;obtain⟨ob,_,_,f,g,_⟩:=c;exact⟨ob,f,g.2.1⟩
section
variable {X:Cx} {pins:A'} {σ:St} {H:Hp} {s:Shared} {a:Addr} {y d:V} {u r:Value} {o:S'} {A:Around} {E:B'}
def GH{Q:B'}(p:A.units+1<cLine)(I:Inv X pins σ H s)(g:B2 H a y o)(j:RelV y u)(m:RelV d r)(h:∀n Z,Inv X pins σ H Z->RelV (o.getD d) n->Q n Z) :
 wpAny (model X.prog X.w) A (call (.builtin "dict.get") [.ref a,u,r]) Q E s:=by
 rcases g with⟨kvs,k,e,f,l⟩|⟨kvs,k,b,e,f,q,l⟩;subst f;obtain⟨z,hd,t,i,c⟩:=Kt I.hok e;refine call_meetsIn PySem.F.slot_dict_get c.typeIs PySem.F.entry_dict_get (PySem.F.args_dict_get_3 _ _ _) (meets_dict_get_default (Dp X.prog X.w) a (HY j) hd r) ⟨_,c.mapOf,h _ _ (I.tok _) ?_⟩;rw[l];exact(i.val k).getD m;subst f;cases(show u=Value.ref b from j);obtain⟨z,hd,xs,i,c⟩:=Ku I.hok e;refine call_meetsIn PySem.F.slot_dict_get c.typeIs PySem.F.entry_dict_get (PySem.F.args_dict_get_3 _ _ _) (meetsH_dict_get_default (tupleKind (Dp X.prog X.w)) a b hd r) ⟨tupleKind_room_in1 p,k,xs,Jj I.hok q,c,h _ _ (I.tok _) ?_⟩;rw[l];exact(i.val k).getD m
end
def KA (k ty tx:TE):TE:=λσ H Q=>k σ H λx H1=>∃a,x=.ref a/\SU H1 a/\ty σ H1 λy H2=>tx σ H2 λz H3=>∃o,B2 H3 a y o/\Q (o.getD z) H3
section
variable {X:Cx} {o e f:Expr} {apos cpos:Pos} {k ty tx:TE}
def U5(i:X.A.units+1<cLine)(j:PE X o k)(l:PE X e ty)(n:PE X f tx)(m:M2 X o "get" apos e f cpos):PE X (.Call (.Attribute o "get" apos) [e,f] [] cpos) (KA k ty tx):=by
 intro b s σ H Q I h;refine wpAny_Call_method m.base m.few m.line PySem.F.plainAttrs_dict PySem.F.slot_dict_get PySem.F.type_dict_get (AJ (j b s σ H _ I h) λu p⟨x,q,c,r,a,ex,d,t⟩=>?_);subst ex;obtain rfl:u=Value.ref a:=r;obtain⟨v,w,_⟩:=Kz c d;refine⟨v,w,?_⟩;rw[m.trees]
 refine Calls.callWith_builtin rfl (Calls.evalArgs_plain (Calls.spliced_cons (AJ (l b p σ q _ c t) λN A⟨y,B,C,D,E⟩ =>
  Calls.spliced_cons (AJ (n b A σ B _ C E) λO P⟨z,F,G,J,R,g,K⟩=>Calls.spliced_nil ?_))))
 exact GH i G g D J λS T L M=>⟨_,F,L,M,K⟩
end
section
variable {X:Cx} {pins:A'} {σ:St} {H:Hp} {s:Shared} {a:Addr} {kvs:List (AL×V)} {A:Around} {E:B'}
end
section
variable {X:Cx} {pins:A'} {σ:St} {H:Hp} {s:Shared} {a:Addr} {y:V} {u:Value} {A:Around} {E:B'}
end
end L2
namespace Att
open PySem PySem.W PySem.Calls PyProof.Rows
def U6{P:Params}{h:Heap}:∀(ns:C')(vs:D'),WellAll P h vs (ns.map WData.int)->IntsAre vs ns:=by
 intro ns
 induction ns with
 |nil=>intro vs w;rw[LL] at w;cases w;exact .nil
 |cons n ns c=>
  intro vs w;rw[Ec] at w;cases w with|cons a b=>cases a;exact .cons _ _ (c _ b)
def U7{l:OpenLaw}{n:Nat}(i:l.most=some n){P:Params}{h:Heap}{args:List WData}{f:D'}
 (g:l.row.toRowW.claim.pre args=true) (u:WellAll P h f args) :
 ∃a vs ns,f=[Value.ref a]/\args=[WData.list (ns.map WData.int)]/\h.get? a=some {cls:=.type "list",data:=.seq vs.toArray}/\IntsAre vs ns/\ns.length<=n:=by
 have v:WShape.hasAll [] args [.list .int]=true:=(pre_splitW g).1;have e:l.pre.holds [] {args:=args}=true:=(pre_splitW g).2;obtain⟨d,r,rfl,j,k⟩:=hasAllW_cons v;obtain rfl:=hasAllW_nil k;obtain⟨y,rfl,m⟩:=hasW_list j;obtain⟨ns,rfl⟩:=items_int m
 have w:ns.length<=n:=by
  unfold OpenLaw.pre at e;have b:(WTm.not (.lt (.lit (.int (n:Int))) (.len (.arg 0)))).holds [] {args:=[.list (ns.map .int)]}=true:=(by have b:=(holds_andW e).1;rw[i] at b;exact b);have c:=condW_of b (w_not (w_lt w_lit (w_len_list (w_arg rfl))));rw[Al] at c;refine Nat.le_of_not_lt λq=>?_;have o:(n:Int)<((ns.length:Nat):Int):=(by lia)
  first
   |(rw[Ca o] at c;exact absurd c (by decide))
   |(simp at c;lia)
 cases u with
 |cons p s=>
  cases s;cases p with|list t x=>exact⟨_,_,ns,rfl,rfl,t,U6 ns _ x,w⟩
def U8(l:OpenLaw)(args:List WData):l.row.toRowW.claim.post args (.bool true) args=true:=
 postW_of (r:=l.row.toRowW) (X:=(true==true))
  (show WShape.has [] (.bool true) .bool=true by first|rfl|decide|simp[WShape.has,WShape.arms,WShape.armsAll])
  (show(WTm.eq .res (.lit (.bool true))).value [] {args:=args,res:=some (.bool true),after:=args}=some (.bool (true==true)) from w_eq_bool (w_res rfl) w_lit) rfl
def attach_call{l:OpenLaw}{n:Nat}{q:Program}{loose:F'}{XP:(Str->I')->Heap->Prop}{YP:World->Heap->Prop}{d:DefRec}
 (p:l.most=some n) (B:d.params.defaults=[])
 (call:∀(w:World)(h b:Shared)(e i:Str->I')(c:Addr)(o:Obj)(j g k:Value)(a:Addr)(vs:D')(ns:C'),
  Ground q loose [] XP w h e i b.heap->YP w b.heap ->
  b.heap.get? c=some o->o.data=.func (docDef d.name d.params d.body d.scope j g k)->b.heap.CodeRec g d.name->e d.name=some (.ref c) ->
  b.heap.get? a=some {cls:=.type "list",data:=.seq vs.toArray}->IntsAre vs ns->ns.length<=n->b.gens=#[] ->
  codeAny (model l.prog w) callerA (.call (.ref c) ⟨[.ref a],[]⟩) (λr Z=>r=.ok (.ret (.bool true))/\OldK b.heap Z.heap/\Z.os=b.os/\AllBare Z.gens) b) :
 WalkO q loose XP YP l.row.toRowW d [] (λf vs=>PySem.call f vs):=by
 intro w h b e i G Y c o j g k s kV t hd C m D u N O K F P L E M;obtain rfl:s=.none:=Dflts.none m B;obtain rfl:kV=.none:=Dflts.noKw m;obtain⟨a,vs,ns,rfl,rfl,H,J,I⟩:=U7 p F E;refine enter_call (codeAny_mono (call w h b e i c o j g k a vs ns G Y t (fd_plain hd) C D H J I u) λr Z v=>?_);obtain⟨rfl,x,y,z⟩:=v;exact⟨.inl ⟨.bool true,.bool true,[],rfl,λ_=>rfl,.bool true,U8 l _,λ_=>⟨List.Pairwise.nil,λ_ A=>(nomatch A)⟩⟩,x,y,z⟩
section
variable {prog:Program} {w:World} {A:Around} {E:B'} {s:Shared} {K:Frag}
end
end Att
namespace L2
open PySem PySem.Spec PyProof.Rows
theorem Qt:∀{vs:D'}{ns:C'},IntsAre vs ns->Aq (ns.map V.int) vs
 |_,_,.nil=>.nil
 |_,_,.cons n t h=>.cons ⟨t,rfl⟩ (Qt h)
def KC (H:Hp):Prop:=∀b,H b=none\/∃o xs,H b=some (.frz o (.lst xs))
variable {P:Program}{w:World}{a:Addr}{fd:FuncData}{x:Str}
def U9 {K:Ah} {g y:Str->I'} {CX:Gw} {k:Nat} {A:Addr} {sp:Sp} {c:Shared} {vs:D'} {ns:C'}
 (E:K.In c.heap) (O:c.heap.Ns mainGlobals g) (f:c.heap.Ns builtinsNs y) (ab:∀x:Str,x ≠ "__name__" -> y x=bootBuiltins x) (ah:c.heap.NoLimit) (U:c.gens=#[])
 (p:c.heap.get? a=some {cls:=.type "list",data:=.seq vs.toArray}) (G:IntsAre vs ns) (I:ns.length<=sizeLine) (W:BK k callerA)
 (F:∀D:Heap,K.In D->D.Ns mainGlobals g->Cm P w K g D CX k A fd [x] sp) (al:∀(s:Shared)(u:Value),BindsTo s fd ⟨[u],[]⟩ [(x,u)])
 (ae:∀H:Hp,KC H->Ad K H a (ns.map V.int)->sp [.ref a] H (λv _=>v=.bl true) λ_ _ _=>False)
 (af:∀H e Z,CX [] H c (λ_ _ _=>False) e Z->False) :
 codeAny (model P w) callerA (.call (.ref A) ⟨[.ref a],[]⟩) (λr Z=>r=.ok (.ret (.bool true))/\OldK c.heap Z.heap/\Z.os=c.os/\AllBare Z.gens) c:=by
 have J:=Qt G;have ai:=G.length
 have S:∀ H:Hp,KC H->Ad K H a (ns.map V.int)->CG P w H c.heap->(∀ b,H b≠none->b=a)->(H a≠none->K.lookup a=none) ->
  codeAny (model P w) callerA (.call (.ref A) ⟨[.ref a],[]⟩) (λr Z=>r=.ok (.ret (.bool true))/\OldK c.heap Z.heap/\Z.os=c.os/\AllBare Z.gens) c:=by
  intro H L X Q M Y;have T:∀{b:Addr}{o:Obj},c.heap.get? b=some o->H b=none->(Ez c.heap H).get? b=some o:=λe n=>UC e n
  have ag:∀{b:Addr}{o:Obj}{i:Array DictEntry}{j:Nat},c.heap.get? b=some o->o.data=.dict i j->H b=none:=λ{b o i j}e d=>by
   cases q:H b with|none=>rfl|some u=>have B:b=a:=M b (by rw[q];simp);subst B;rw[p] at e;cases e;have d':Data.seq vs.toArray _=Data.dict i j:=d;cases d'
  have t:∀{b:Addr}{m:Str->I'},c.heap.Ns b m->(Ez c.heap H).Ns b m:=λ{b m}⟨o,i,j,e,d,r⟩=>⟨o,i,j,T e (ag e d),d,r⟩
  have R:K.In (Ez c.heap H):=λb o e=>T (E b o e) (by
   cases q:H b with
   |none=>rfl
   |some u=>
    have B:b=a:=M b (by rw[q];simp);subst B;rw[Y (by rw[q];simp)] at e;cases e)
  have hM:Mod K g (Ez c.heap H):=⟨R,t O,⟨y,t f,ab⟩,let ⟨mc,h1,h2⟩:=ah;⟨mc,t h1,h2⟩⟩;have e0:HM P w K g (Ez c.heap H) callerA [] c H:=⟨rfl,hM,λb o e=>HC e,Nat.le_of_eq (UB _ _),trivial,λb f=>absurd (show b∈([]:E') from f) (by simp),Q,.of_eq U⟩;refine codeAny_mono ((F _ R (t O)).run callerA [] c H ⟨[.ref a],[]⟩ [.ref a] [.ref a] _ _ W e0 (al c (.ref a)) (.cons rfl .nil) (ae H L X)) λr Z h=>?_
  cases r with
  |error e=>exact(af H e Z h).elim
  |ok fl=>
   cases fl with
   |next=>exact False.elim h
   |brk=>exact False.elim h
   |cont=>exact False.elim h
   |ret u=>
    obtain⟨v,H',aa,aj,un,ak,r',q⟩:=h;have q':v=.bl true:=q;subst q';obtain rfl:u=Value.bool true:=r';refine⟨rfl,OldK.of_keep λb o e=>?_,aa,aj⟩
    cases q:H b with
    |none=>exact un.keep b o e q (by intro z;exact absurd (show b∈([]:E') from z) (by simp)) (by simp)
    |some u=>rcases L b with z|⟨ob,xs,z⟩;rw[q] at z;cases z;have z2:=un.frzs b ob _ z;obtain⟨N,_⟩:=Q b _ z;obtain⟨e2,_⟩:=ak b _ z2;rw[e] at N;cases N;exact e2
 cases C:K.lookup a with
 |some o=>have e:=E a o C;rw[p] at e;cases e;refine S (λ_=>none) (λ_=>.inl rfl) (.inr ⟨_,vs.toArray,_,C,rfl,rfl,rfl,by rw[BX,ai];exact I,by simpa using J⟩) (λb u z=>by have l:(none:Option HO)=some u:=z;cases l) (λb z=>absurd rfl z) λz=>absurd rfl z
 |none=>
  refine S (λb=>if b=a then some (.frz {cls:=.type "list",data:=.seq vs.toArray} (.lst (ns.map V.int))) else none) (λb=>?_) (.inl (.inr ⟨{cls:=.type "list",data:=.seq vs.toArray},AC rfl⟩)) (λb u z=>?_) (λb z=>?_) λ_=>C;by_cases f:b=a;exact .inr ⟨_,_,AC f⟩;exact .inl (AA f);by_cases f:b=a;have l:=(AC f).symm.trans z;cases l;subst f;exact⟨p,by rw[Al];exact I,vs,_,J,p⟩;have l:=(AA f).symm.trans z;cases l;by_cases f:b=a;exact f;exact absurd (AA f) z
variable {n:Nat}
def Ib{l:PySem.W.OpenLaw}{k:Nat}{q:Program}{loose:F'}{XP:(Str->I')->Heap->Prop}{YP:World->Heap->Prop}{d:DefRec}{K:Params->Ah}{CX:World->Gw}{sp:World->Sp}(m:l.most=some n)(D:n<=sizeLine)(E:d.params.defaults=[])(p:BK k callerA)
 (r:∀(w:World)(h:Heap),YP w h->(K w.params).In h)
 (F:∀(w:World)(b:Str->I')(c:Addr)(h:Heap),(K w.params).In h->h.Ns mainGlobals b->b d.name=some (.ref c) ->
  ∃fd:FuncData,(∀(s:Shared)(u:Value),BindsTo s fd ⟨[u],[]⟩ [(x,u)]) /\
   ∀g:Heap,(K w.params).In g->g.Ns mainGlobals b->Cm l.prog w (K w.params) b g (CX w) k c fd [x] (sp w))
 (I:∀(w:World)(H:Hp)(a:Addr)(ns:C'),ns.length<=n->KC H->Ad (K w.params) H a (ns.map V.int)->sp w [.ref a] H (λv _=>v=.bl true) λ_ _ _=>False)
 (J:∀(w:World)(H:Hp)(s:Shared)(e:Value)(Z:Shared),CX w [] H s (λ_ _ _=>False) e Z->False) :
 PySem.W.WalkO q loose XP YP l.row.toRowW d [] (λf vs=>PySem.call f vs):=by
 refine Att.attach_call m E λw O t b P c o Q R T a vs ns G Y S hd U L M N j y=>?_;have i:=r w _ Y;obtain⟨fd,z,A⟩:=F w b c _ i G.T.g L;exact U9 i G.T.g G.T.b G.T.builtins G.T.nolimit y M N (Fg j D) p A z (λH B C=>I w H a ns j B C) λH e Z=>J w H t e Z
abbrev E8:Gw:=λ_ _ _ _ _ _=>False
abbrev E0:XK:=λ_ _ _=>False
variable {X:Cx}
def Ni:Qc E8 X E0:=λ_ _ _ _ _ _ _ h=>h.elim
structure AW (K:Ah) (x qual:Str) (st:Stmt) (f:Addr) (fd:FuncData):Prop where
 ex:∃(oc:Value)(od:Option Addr)(kV doc pm:Value)(an:Option Addr)(cdv ct:Value)(osl:Array (I')),
  fd=PySem.W.fnOf x qual (A4 st) (A2 st) (As st) .none kV doc pm an cdv ct/\K.lookup f=some ⟨oc,od,.func fd,osl⟩/\PySem.W.codeIn K cdv qual=true
 kp:PySem.W.keepIn K (.ref f)=true
section
variable {P:Program} {w:World} {K:Ah} {mg:Str->I'} {base:Heap}
variable {qual:Str}{st:Stmt}{f:Addr}
def AW.ok{N ps:F'}{k:Nat}{sp:Sp}(F:AW K x qual st f fd)(S:Ae N ps (As st))(g:∀vs H Q E,sp vs H Q E->vs.length=ps.length)
 (l:∀(a:Value)(A:Around)(b:List Env)(s:Shared)(H:Hp)(vs:R')(Q:VK)(E:XK),BK k (A.deeper (envOfC qual (As st) s.heap.objs.size f a))->sp vs H Q E ->
  ∃t,Fi (Ay E8 P w K mg base N qual (As st) f a A b s H E).nox (A2 st) t/\t {nx:=λ_ c=>Q .non c,rt:=Q} (HP N vs) H):Cm P w K mg base E8 (k+1) f fd ps sp:=by
 obtain⟨m,n,kV,u,o,p,a,r,v,rfl,d,i⟩:=F.ex;refine M6 d i S g λA b s H vs Q E e j=>?_;obtain⟨t,h,q⟩:=l a A b s H vs Q E e j;exact⟨t,h.nox,q⟩
def AW.binds{ps:F'}(F:AW K x qual st f fd)
 (h:∀(kV c a:Value)(b:Option Addr)(d ct:Value)(us:D'),us.length=ps.length->bindArgs (PySem.W.fnOf x qual (A4 st) (A2 st) (As st) .none kV c a b d ct) ⟨us,[]⟩=pure (ps.zip us)):Binds K fd ps []:=by
 obtain⟨e,g,kV,c,a,b,d,ct,j,rfl,i,k⟩:=F.ex;exact .all (h kV c a b d ct)
def Bc{g:Value}{h b:Option Addr}{i:Array (I')}{kV e d a ct:Value}(l:K.lookup f=some ⟨g,h,.func (PySem.W.fnOf x qual (A4 st) (A2 st) (As st) .none kV e d b a ct),i⟩)
 (c:PySem.W.codeIn K a qual=true) (k:PySem.W.keepIn K (.ref f)=true):AW K x qual st f (PySem.W.fnOf x qual (A4 st) (A2 st) (As st) .none kV e d b a ct):=⟨⟨g,h,kV,e,d,b,a,ct,i,rfl,l,c⟩,k⟩
end
variable {A:Around}
def Ic{k:Nat}(a:BK k A):A.units+1<cLine:=Nat.lt_of_le_of_lt (Nat.add_le_add_left (by decide:1<=64) _) a.units
def Bz(h:n<=1000):n<sizeLine:=Nat.lt_of_le_of_lt h (by decide)
section
variable {X:Cx}
def pv(i:Nat){L:Pos}(a:X.N[i]?=some x:=by rfl)(b:Oo X.env.scope x:=by first|exact r4 rfl|exact r6 (r4 rfl)|exact r6 (r6 rfl))(hd:(x==b')=false:=by decide)
 (c:(x==("__classdict__":Str))=false:=by decide):PE X (.Name x L) (Bg i):=JY a b hd c
end
variable {B:Prop}
def Ar{A:Prop}(h:B):if false=true then A else B:=by rw[AA CP];exact h
def AR{A:Prop}(h:A):if true=true then A else B:=by rw[AC rfl];exact h
def CS{c A:Prop} [Decidable c](a:c->A)(b:¬c->B):if c then A else B:=by by_cases h:c;rw[AC h];exact a h;rw[AA h];exact b h
def Ac (H H':Hp):Prop:=∀b o,H b=some o->H' b=some o
def Ac.refl(H:Hp):Ac H H:=λ_ _ h=>h
variable {H H1:Hp}
def Ac.trans{d:Hp}(a:Ac H H1)(b:Ac H1 d):Ac H d:=λc o h=>b c o (a c o h)
variable {H':Hp}
def Ac.free(e:Ac H H'){l:Addr}(h:H' l=Option.none):H l=Option.none:=by
 cases q:H l with|none=>rfl|some o=>rw[e l o q] at h;cases h
variable {xs:R'}
def Ac.seq{K:Ah}(e:Ac H H')(h:Ad K H a xs):Ad K H' a xs:=by rcases h with(h|⟨o,h⟩)|h;exact .inl (.inl (e _ _ h));exact .inl (.inr ⟨o,e _ _ h⟩);exact .inr h
section
variable {κ:Type} [DecidableEq κ]
end
inductive Ty where
 |int|bool|str|non|lst|tup|dct
 deriving DecidableEq
def Ty.name:Ty->String
 |.int => "int"|.bool => "bool"|.str => "str"|.non => "NoneType"|.lst => "list"|.tup => "tuple"|.dct => "dict"
inductive Hm (K:Ah) (H:Hp):V->Ty->Prop where
 |int (i:Int):Hm K H (.int i) .int
 |bl (b:Bool):Hm K H (.bl b) .bool
 |str (x:Str):Hm K H (.str x) .str
 |non:Hm K H .non .non
 |lst {a:Addr} {xs:R'} (h:Ad K H a xs):Hm K H (.ref a) .lst
 |tup {a:Addr} {xs:R'} (h:Am K H a xs):Hm K H (.ref a) .tup
 |dk {a:Addr} {kvs:List (AL×V)} (h:H a=some (.dK kvs)):Hm K H (.ref a) .dct
def Qv:Ty->Ty->Bool
 |.int,.int=>true|.bool,.bool=>true|.bool,.int=>true|.str,.str=>true|.non,.non=>true|.lst,.lst=>true|.tup,.tup=>true|.dct,.dct=>true|_,_=>false
def Qw (K:Ah):R'->Hp->VK->Prop:=λvs H Q=>∃x T T',vs=[x,.ty (Ty.name T)]/\Hm K H x T'/\Q (.bl (Qv T' T)) H
def Ga:A8 X (.builtin "isinstance") (Qw X.K):=by
 intro F s σ H g w Q I r h;obtain⟨x,T,z,rfl,ty,q⟩:=h;obtain⟨u,j,rfl,c,p⟩:=Gv r;have k:j=Value.type (Ty.name T):=p;subst k
 cases ty with
 |int i=>
  obtain⟨t,rfl⟩:=c;cases T with|int=>exact IsiPair.int_int ⟨.bl true,H,I,rfl,q⟩|bool=>exact IsiPair.int_bool ⟨.bl false,H,I.tok _,rfl,q⟩|str=>exact IsiPair.int_str ⟨.bl false,H,I.tok _,rfl,q⟩|non=>exact IsiPair.int_NoneType ⟨.bl false,H,I.tok _,rfl,q⟩|lst=>exact IsiPair.int_list ⟨.bl false,H,I.tok _,rfl,q⟩|tup=>exact IsiPair.int_tuple ⟨.bl false,H,I.tok _,rfl,q⟩|dct=>exact IsiPair.int_dict ⟨.bl false,H,I.tok _,rfl,q⟩
 |bl b=>
  obtain rfl:u=Value.bool b:=c;cases T with|int=>exact IsiPair.bool_int ⟨.bl true,H,I,rfl,q⟩|bool=>exact IsiPair.bool_bool ⟨.bl true,H,I,rfl,q⟩|str=>exact IsiPair.bool_str ⟨.bl false,H,I.tok _,rfl,q⟩|non=>exact IsiPair.bool_NoneType ⟨.bl false,H,I.tok _,rfl,q⟩|lst=>exact IsiPair.bool_list ⟨.bl false,H,I.tok _,rfl,q⟩|tup=>exact IsiPair.bool_tuple ⟨.bl false,H,I.tok _,rfl,q⟩|dct=>exact IsiPair.bool_dict ⟨.bl false,H,I.tok _,rfl,q⟩
 |str y=>
  obtain⟨t,rfl⟩:=c;cases T with|int=>exact IsiPair.str_int ⟨.bl false,H,I.tok _,rfl,q⟩|bool=>exact IsiPair.str_bool ⟨.bl false,H,I.tok _,rfl,q⟩|str=>exact IsiPair.str_str ⟨.bl true,H,I,rfl,q⟩|non=>exact IsiPair.str_NoneType ⟨.bl false,H,I.tok _,rfl,q⟩|lst=>exact IsiPair.str_list ⟨.bl false,H,I.tok _,rfl,q⟩|tup=>exact IsiPair.str_tuple ⟨.bl false,H,I.tok _,rfl,q⟩|dct=>exact IsiPair.str_dict ⟨.bl false,H,I.tok _,rfl,q⟩
 |non=>
  obtain rfl:u=Value.none:=c;cases T with|int=>exact IsiPair.NoneType_int ⟨.bl false,H,I.tok _,rfl,q⟩|bool=>exact IsiPair.NoneType_bool ⟨.bl false,H,I.tok _,rfl,q⟩|str=>exact IsiPair.NoneType_str ⟨.bl false,H,I.tok _,rfl,q⟩|non=>exact IsiPair.NoneType_NoneType ⟨.bl true,H,I,rfl,q⟩|lst=>exact IsiPair.NoneType_list ⟨.bl false,H,I.tok _,rfl,q⟩|tup=>exact IsiPair.NoneType_tuple ⟨.bl false,H,I.tok _,rfl,q⟩|dct=>exact IsiPair.NoneType_dict ⟨.bl false,H,I.tok _,rfl,q⟩
 |lst d=>
  obtain rfl:u=Value.ref _:=c;obtain⟨v,l,⟨o,n,e,a,hd,m⟩,f⟩:=I.list d;cases T with|int=>exact IsiPair.list_int e a ⟨.bl false,H,I.tok _,rfl,q⟩|bool=>exact IsiPair.list_bool e a ⟨.bl false,H,I.tok _,rfl,q⟩|str=>exact IsiPair.list_str e a ⟨.bl false,H,I.tok _,rfl,q⟩|non=>exact IsiPair.list_NoneType e a ⟨.bl false,H,I.tok _,rfl,q⟩|lst=>exact IsiPair.list_list e a ⟨.bl true,H,I,rfl,q⟩|tup=>exact IsiPair.list_tuple e a ⟨.bl false,H,I.tok _,rfl,q⟩|dct=>exact IsiPair.list_dict e a ⟨.bl false,H,I.tok _,rfl,q⟩
 |tup d=>
  obtain rfl:u=Value.ref _:=c;obtain⟨v,l,⟨o,e,a,n,m⟩,f⟩:=I.tuple d;cases T with|int=>exact IsiPair.tuple_int e a ⟨.bl false,H,I.tok _,rfl,q⟩|bool=>exact IsiPair.tuple_bool e a ⟨.bl false,H,I.tok _,rfl,q⟩|str=>exact IsiPair.tuple_str e a ⟨.bl false,H,I.tok _,rfl,q⟩|non=>exact IsiPair.tuple_NoneType e a ⟨.bl false,H,I.tok _,rfl,q⟩|lst=>exact IsiPair.tuple_list e a ⟨.bl false,H,I.tok _,rfl,q⟩|tup=>exact IsiPair.tuple_tuple e a ⟨.bl true,H,I,rfl,q⟩|dct=>exact IsiPair.tuple_dict e a ⟨.bl false,H,I.tok _,rfl,q⟩
 |dk d=>
  obtain rfl:u=Value.ref _:=c;obtain⟨f,A,g,E,o,B,C,e,ex,D⟩:=I.hok _ _ d;have a:=ex.1;cases T with|int=>exact IsiPair.dict_int e a ⟨.bl false,H,I.tok _,rfl,q⟩|bool=>exact IsiPair.dict_bool e a ⟨.bl false,H,I.tok _,rfl,q⟩|str=>exact IsiPair.dict_str e a ⟨.bl false,H,I.tok _,rfl,q⟩|non=>exact IsiPair.dict_NoneType e a ⟨.bl false,H,I.tok _,rfl,q⟩|lst=>exact IsiPair.dict_list e a ⟨.bl false,H,I.tok _,rfl,q⟩|tup=>exact IsiPair.dict_tuple e a ⟨.bl false,H,I.tok _,rfl,q⟩|dct=>exact IsiPair.dict_dict e a ⟨.bl true,H,I,rfl,q⟩
def SV{bs:List Bool}{a:D'}(r:Aq (bs.map V.bl) a):TruthOf P w A (λi v=>a.toArray[i]?=some v) (λi=>bs.getD i false):=by
 intro i v s Q E d f;have c:a[i]?=some v:=(by simpa using d);have g:=r.length;rw[Al] at g;have k:i<a.length:=(AS.mp c).1;have h:(bs.map V.bl)[i]?=some (V.bl (bs.getD i false)):=(by rw[AV,BZ];have:bs[i]?=some bs[i]:=AQ (by lia);rw[this];rfl);obtain⟨u,b,j⟩:=r.get h;rw[c] at b;cases b;have e:v=Value.bool (bs.getD i false):=j;subst e;exact Ey f
def Va{bs:List Bool}:(List.range bs.length).all (λi=>bs.getD i false)=bs.all id:=by rw[Bool.eq_iff_iff,List.all_eq_true,List.all_eq_true];constructor;intro h b d;obtain⟨i,a,e⟩:=MN.mp d;have:=h i (List.mem_range.mpr a);rw[BZ,AQ a] at this;rw[<-e];exact this;intro h i a;have c:=List.mem_range.mp a;rw[BZ,AQ c];exact h _ (Di c)
def Qx (K:Ah):R'->Hp->VK->Prop:=λvs H Q=>∃(a:Addr)(bs:List Bool),vs=[.ref a]/\Ad K H a (bs.map V.bl)/\Q (.bl (bs.all id)) H
def OA(g:X.calm=true):A8 X (.builtin "all") (Qx X.K):=by
 intro B s σ H t w Q I r h;obtain⟨a,bs,rfl,j,q⟩:=h;obtain⟨u,rfl,k⟩:=El r;obtain rfl:u=Value.ref a:=k;obtain⟨c,d,p,x⟩:=I.list j;have f:=d.length;rw[Al] at f;have n:a<s.heap.objs.size:=by obtain⟨_,e,_⟩:=p.isList;exact AY e
 refine call_all_walk (wpAny_pyIter_list p.isList ?_);refine⟨s.heap.objs.size,[s.heap.objs.size,a],[s.heap.objs.size],c.toArray.size,(λi v=>c.toArray[i]?=some v),(λi h=>h.IsListIter s.heap.objs.size a i/\h.IsList a c.toArray),(λi=>bs.getD i false),rfl,Walks.list (A:=X.A.in1) (I.ok.hd g) s.heap.objs.size a (CF n) c.toArray,⟨⟨_,Cf _ rfl,rfl,rfl⟩,p.isList.push _⟩,SV d,λy O l=>?_⟩;refine⟨.bl (bs.all id),H,I.kept λb o e=>l b o (λz=>?_) (Bb _ e),?_,q⟩;have m:b=s.heap.objs.size:=(by simpa using z);exact absurd (AY e) (by rw[m];exact EV _);have e:c.toArray.size=bs.length:=(by rw[BX,f]);show Value.bool _=Value.bool _;rw[e,Va]
def rS (g:Str->Str->Bool):R2:=λx y H Q=>∃a b,x=.str a/\y=.str b/\Q (.bl (g a b)) H
theorem GI:CC X (compareOp .LtE) (rS λa b=>!decide (b.cps.toList<a.cps.toList)):=by intro f s σ H x y v u Q I c d h;obtain⟨a,b,rfl,rfl,q⟩:=h;obtain⟨t,rfl⟩:=c;obtain⟨e,rfl⟩:=d;exact P.le_str ⟨.bl _,H,I,rfl,q⟩
def Nj (x:Str):It:=⟨λi _=>i<x.cps.size,λi H v H'=>H'=H/\∃c,x.cps[i]?=some c/\v=.str ⟨#[c]⟩,λi _=>i=x.cps.size⟩
variable {tg:Expr}
def SW{K:Ah}{t:Tok}{ty:String}(a:Addr)(N:["enumerate", "zip", "dict_itemiterator", "dict_reverseitemiterator", "odict_iterator", "itertools.zip_longest", "itertools.pairwise"].contains ty=false)
 (W:∀A:Around,A.handled=none->Walks P w A a [a] [a] x.cps.size (SignAt x) (λi h=>h.IsStrIter a ty x t i))
 (Z:∀(A:Around)(i:Nat)(s:Shared)(Q:B')(E:B'),s.heap.IsStrIter a ty x t i->Q (.ref a) s->wpAny (model P w) A (pyIter (.ref a)) Q E s):EA P w K tg (Nj x) [a] a (λi h=>h.IsStrIter a ty x t i) where
 mem:=by simp
 obj:=λi h f b g=>by have e:b=a:=(by simpa using g);subst e;obtain⟨o,e,c,d⟩:=f;exact⟨o,e,λv z=>by rw[d] at z;cases z⟩
 keep:=λi h j f k=>by obtain⟨o,e,r⟩:=f;exact⟨o,k a (by simp) o e,r⟩
 item:=by intro X m n p q i M s σ H E I l f y;subst m n p;obtain⟨B,C,R,D,F,G⟩:=l a (by simp);refine(W X.A (I.ok.hd q)).item i s _ _ y f λv j O S L J=>?_;obtain⟨c,u,V,rfl⟩:=S;have T:Inv X M σ H {s with heap:=j,toks:=O}:=I.turned (λb o g e=>J b o (by simpa using g) e) B C D F G;obtain⟨o,e,U,d⟩:=id L;exact⟨_,rfl,Op (s:={s with heap:=j,toks:=O}) e U d N ⟨.str ⟨#[c]⟩,H,T,⟨u,rfl⟩,⟨rfl,c,V,rfl⟩,L,λb g=>(l b g).1⟩⟩
 done:=by intro X m n p q i M s σ H E I l f y;subst m n p;obtain⟨B,C,R,D,F,G⟩:=l a (by simp);have Y:i=x.cps.size:=y;subst Y;exact(W X.A (I.ok.hd q)).done s _ _ f λj O J=>⟨rfl,I.turned (λb o g e=>J b o (by simpa using g) e) B C D F G⟩
 self:=Z
def Qy (te:TE):TI:=λσ H R=>te σ H λx H1=>∃y,x=.str y/\R (Nj y) H1
variable {te:TE}
def KD{e:Expr}(m:PE X e te):PI X tg e (Qy te):=by
 intro l s σ H R I h;refine AJ (m l s σ H _ I h) λv a⟨x,H1,c,n,p⟩=>?_;obtain⟨y,rfl,q⟩:=p;obtain⟨t,rfl⟩:=n
 have k:∀b∈[a.heap.objs.size],Dn X l H1 b:=λb r=>by
  have e:b=a.heap.objs.size:=(by simpa using r);subst e;exact c.fpOk (AB _) (c.hok.fresh (AB _))
 cases j:y.cps.all (· < 128);refine wpAny_pyIter_wide j ⟨a.heap.objs.size,[a.heap.objs.size],_,_,H1,rfl,c.kept (t':=a.toks) λb o e=>Bb _ e,SW (ty:= "str_iterator") (t:=t) _ (by decide) (λA d=>Walks.strWide d _ y t) (λA i s Q E f g=>wpAny_pyIter_striter_wide f g),⟨_,Cf _ rfl,rfl,rfl⟩,k,q⟩;refine wpAny_pyIter_ascii j ⟨a.heap.objs.size,[a.heap.objs.size],_,_,H1,rfl,c.kept (t':=a.toks) λb o e=>Bb _ e,SW (ty:= "str_ascii_iterator") (t:=t) _ (by decide) (λA d=>Walks.strAscii d _ y t) (λA i s Q E f g=>wpAny_pyIter_striter_ascii f g),⟨_,Cf _ rfl,rfl,rfl⟩,k,q⟩
variable {pins:A'}{σ:St}{s:Shared}
def Inv.track{T:Addr}{o:HO}(I:Inv X pins σ H s)(f:Dn X pins H T)(p:∃ob,s.heap.get? T=some ob)(l:Az X.prog X.w (upd H T o) s.heap T o):Inv X pins σ (upd H T o) s:=by obtain⟨d,g,r,h,i,j⟩:=f;refine I.step (g':=s.gens) (t':=s.toks) (d':=s.drawn) (h':=s.heap) (ch:=[T]) (λb a=>?_) (λb ob _ _ _ e _=>e) (λb ob _ _ _ e _=>⟨ob.slots,e⟩) (λb ob a e n=>?_) (λb ob _ e=>⟨ob,e⟩) (λb xs e=>?_) (λb ob u e=>?_) (λb t e=>?_) (λm k=>k) (λb u e=>?_) I.bare;have e:b=T:=(by simpa using a);subst e;exact⟨h,g,i,j⟩;rw[Ax (by simpa using a)];exact n;rw[Ax (AN e d)];exact e;rw[Ax (AN e d)];exact e;exact⟨#[],by rw[Ax (AN e d),e];simp⟩;by_cases a:b=T;subst a;rw[Aa] at e;cases e;exact l;rw[Ax a] at e;exact(I.hok b u e).stay (λc v _ q=>q) (λc q=>by rw[Ax (AN q d)];exact q) λc xs q=>by rw[Ax (AN q d)];exact q
def Ie (K:Ah) (l1 l2:Addr):It:=
 ⟨λi H=>∃xs ys x y,Ad K H l1 xs/\Ad K H l2 ys/\xs[i]?=some x/\ys[i]?=some y,
  λi H v H'=>∃T x y,H T=none/\v=.ref T/\H'=upd H T (.tup [x,y])/\(∀xs,Ad K H l1 xs->xs[i]?=some x)/\∀ys,Ad K H l2 ys->ys[i]?=some y,
  λi H=>∃xs ys,Ad K H l1 xs/\Ad K H l2 ys/\(xs.length<=i\/ys.length<=i)⟩
def Nk (z TI TO i1 i2 l1 l2:Addr) (i:Nat) (h:Heap):Prop:=IsZip h z TI TO .none/\IsPair h TI (.ref i1) (.ref i2)/\(∃a b,IsPair h TO a b)/\h.IsListIter i1 l1 i/\h.IsListIter i2 l2 i
variable {L:Pos}
theorem SX{K:Ah}{R:L'}{k:Nat}{z TI TO g h l1 l2:Addr}(D:ZipApart z TI TO g h l1 l2) :
 EA P w K (.Tuple R k L) (Ie K l1 l2) [z,TI,TO,g,h] z (Nk z TI TO g h l1 l2) where
 mem:=by simp
 obj:=λi aa B b d=>by obtain⟨C,E,⟨a,c,G⟩,⟨o1,e1,c1,d1⟩,⟨o2,e2,c2,d2⟩⟩:=B;simp at d;rcases d with rfl|rfl|rfl|rfl|rfl;exact⟨_,C,λv q=>by cases q⟩;exact⟨_,E,λv q=>by cases q⟩;exact⟨_,G,λv q=>by cases q⟩;exact⟨_,e1,λv q=>by rw[d1] at q;cases q⟩;exact⟨_,e2,λv q=>by rw[d2] at q;cases q⟩
 keep:=λi aa h' B S=>by obtain⟨C,E,⟨a,c,G⟩,J,M⟩:=B;exact⟨S z (by simp) _ C,S TI (by simp) _ E,⟨a,c,S TO (by simp) _ G⟩,J.at λo e=>S g (by simp) o e,M.at λo e=>S h (by simp) o e⟩
 item:=by
  intro X hP hw hK t i pins s σ H al I A B hg;subst hP hw hK;obtain⟨xs,ys,x,y,Y,Z,hx,hy⟩:=hg;obtain⟨C,E,⟨a,c,G⟩,J,M⟩:=B;obtain⟨a0,af,p1,ao⟩:=I.list Y;obtain⟨a7,ag,ab,aq⟩:=I.list Z;obtain⟨U,ar,au⟩:=af.get hx;obtain⟨V,av,aw⟩:=ag.get hy;refine wpAny_pyNext_zip_item D C E G J M p1.isList ab.isList (x:=U) (y:=V) (by simpa using ar) (by simpa using av) λh' a1 a2 a3 a4 a5 a6 F=>?_;refine⟨_,rfl,wpAny_letOwnedTupleGo_zip (s:={s with heap:=h'}) a1 λT a8 Q=>?_⟩;have l:=A z (by simp);have r:=A TO (by simp);have m:=A g (by simp);have p:=A h (by simp);have FX:∀b u,H b=some u->b≠z/\b≠TO/\b≠g/\b≠h:=λb u e=>⟨AN e l.1,AN e r.1,AN e m.1,AN e p.1⟩;have keep:∀b o,b≠z->b≠TO->b≠g->b≠h->s.heap.get? b=some o->T.get? b=some o:=λb o W n2 n3 n4 e=>(Q.2 b W).trans (F b o W n2 n3 n4 e);have f:∀{b:Addr},b∉[z,TO,g,h]->b≠z/\b≠TO/\b≠g/\b≠h:=λ{b}d=>by simpa using d
  have I1:Inv X pins σ H {s with heap:=T}:=by
   refine I.step (g':=s.gens) (t':=s.toks) (d':=s.drawn) (h':=T) (ch:=[z,TO,g,h]) (λb d=>?_) (λb j _ _ d e _=>keep b j (f d).1 (f d).2.1 (f d).2.2.1 (f d).2.2.2 e) (λb j _ _ d e _=>⟨j.slots,keep b j (f d).1 (f d).2.1 (f d).2.2.1 (f d).2.2.2 e⟩)
    (λ_ _ _ _ n=>n) (λb j d e=>⟨j,keep b j (f d).1 (f d).2.1 (f d).2.2.1 (f d).2.2.2 e⟩) (λ_ _ e=>e) (λ_ _ _ e=>e) (λb ps e=>⟨#[],by rw[e];simp⟩) (λan hm=>?_) (λb u e=>?_) I.bare
   have:b=z\/b=TO\/b=g\/b=h:=(by simpa using d);rcases this with rfl|rfl|rfl|rfl;exact⟨l.2.2.2.1,l.2.1,l.2.2.2.2.1,l.2.2.2.2.2⟩;exact⟨r.2.2.2.1,r.2.1,r.2.2.2.2.1,r.2.2.2.2.2⟩;exact⟨m.2.2.2.1,m.2.1,m.2.2.2.2.1,m.2.2.2.2.2⟩;exact⟨p.2.2.2.1,p.2.1,p.2.2.2.2.1,p.2.2.2.2.2⟩;obtain⟨o,R,ep,ho,ae⟩:=hm;exact⟨o,R,ep,keep _ o (Ne.symm l.2.1) (Ne.symm r.2.1) (Ne.symm m.2.1) (Ne.symm p.2.1) ho,ae⟩;refine(I.hok b u e).stay (λc v t q=>?_) (λ_ q=>q) λ_ _ q=>q;have ah:∃N,H c=some N:=(by rcases t with rfl|t;exact⟨_,e⟩;exact⟨_,t⟩);obtain⟨N,O⟩:=ah;obtain⟨W,n2,n3,n4⟩:=FX c N O;exact keep c v W n2 n3 n4 q
  have ax:s.heap.objs.size≠z:=Nat.ne_of_gt (AY C);have aj:H s.heap.objs.size=none:=I.hok.fresh (AB _);have ak:T.get? s.heap.objs.size=some {cls:=.type "tuple",data:=.seq #[U,V]}:=(Q.2 _ ax).trans a5;have I2:Inv X pins σ (upd H s.heap.objs.size (.tup [x,y])) {s with heap:=T}:=(by refine I1.track (I.fpOk (AB _) aj) ⟨_,ak⟩ ?_;exact⟨by show 2<=sizeLine;decide,[U,V],.cons au (.cons aw .nil),⟨_,ak,rfl,_,rfl⟩⟩);refine⟨.ref s.heap.objs.size,_,I2,rfl,⟨s.heap.objs.size,x,y,aj,rfl,rfl,λzs ai=>by rw[I.list_inj ai Y];exact hx,λzs ai=>by rw[I.list_inj ai Z];exact hy⟩,?_,λb d=>?_⟩;refine⟨a8,Q.extBut _ _ D.TIz (F _ _ D.TIz D.TITO D.TIi1 D.TIi2 E),⟨U,V,Q.extBut _ _ D.TOz a2⟩,a3.extBut Q.extBut D.i1z,a4.extBut Q.extBut D.i2z⟩;have ay:=(A b d).1;rw[Ax (λq=>?_)];exact ay;have az:b=z\/b=TI\/b=TO\/b=g\/b=h:=(by simpa using d);obtain⟨o1,e1,_⟩:=J;obtain⟨o2,e2,_⟩:=M;have lt:b<s.heap.objs.size:=(by rcases az with rfl|rfl|rfl|rfl|rfl;exact AY C;exact AY E;exact AY G;exact AY e1;exact AY e2);rw[q] at lt;exact absurd lt (EV _)
 done:=by
  intro X hP hw hK t i pins s σ H al I A B hg;subst hP hw hK;obtain⟨xs,ys,Y,Z,aB⟩:=hg;obtain⟨C,E,⟨a,c,G⟩,J,M⟩:=B;obtain⟨a0,af,p1,ao⟩:=I.list Y;obtain⟨a7,ag,ab,aq⟩:=I.list Z;have a9:=af.length;have aA:=ag.length;refine wpAny_pyNext_zip_end (I.ok.hd t) D C E G J M p1.isList ab.isList (by simp;lia) λh' F=>⟨rfl,?_⟩;have l:=A z (by simp);have r:=A TO (by simp);have m:=A g (by simp);have p:=A h (by simp);have f:∀{b:Addr},b∉[z,TO,g,h]->b≠z/\b≠TO/\b≠g/\b≠h:=λ{b}d=>by simpa using d
  refine I.step (g':=s.gens) (t':=s.toks) (d':=s.drawn) (h':=h') (ch:=[z,TO,g,h]) (λb d=>?_) (λb j _ _ d e _=>F b j (f d).1 (f d).2.1 (f d).2.2.1 (f d).2.2.2 e) (λb j _ _ d e _=>⟨j.slots,F b j (f d).1 (f d).2.1 (f d).2.2.1 (f d).2.2.2 e⟩)
   (λ_ _ _ _ n=>n) (λb j d e=>⟨j,F b j (f d).1 (f d).2.1 (f d).2.2.1 (f d).2.2.2 e⟩) (λ_ _ e=>e) (λ_ _ _ e=>e) (λb ps e=>⟨#[],by rw[e];simp⟩) (λan hm=>?_) (λb u e=>?_) I.bare
  have:b=z\/b=TO\/b=g\/b=h:=(by simpa using d);rcases this with rfl|rfl|rfl|rfl;exact⟨l.2.2.2.1,l.2.1,l.2.2.2.2.1,l.2.2.2.2.2⟩;exact⟨r.2.2.2.1,r.2.1,r.2.2.2.2.1,r.2.2.2.2.2⟩;exact⟨m.2.2.2.1,m.2.1,m.2.2.2.2.1,m.2.2.2.2.2⟩;exact⟨p.2.2.2.1,p.2.1,p.2.2.2.2.1,p.2.2.2.2.2⟩;obtain⟨o,R,ep,ho,ae⟩:=hm;exact⟨o,R,ep,F _ o (Ne.symm l.2.1) (Ne.symm r.2.1) (Ne.symm m.2.1) (Ne.symm p.2.1) ho,ae⟩;refine(I.hok b u e).stay (λc v t q=>?_) (λ_ q=>q) λ_ _ q=>q;have ah:∃N,H c=some N:=(by rcases t with rfl|t;exact⟨_,e⟩;exact⟨_,t⟩);obtain⟨N,O⟩:=ah;exact F c v (AN O l.1) (AN O r.1) (AN O m.1) (AN O p.1) q
 self:=λ_ _ _ _ _ B aa=>wpAny_pyIter_zip B.1 aa
def Qz (K:Ah) (F:TA):TI:=λσ H R=>F σ H λvs H1=>∃l1 l2,vs=[.ref l1,.ref l2]/\(∃xs,Ad K H1 l1 xs)/\(∃ys,Ad K H1 l2 ys)/\R (Ie K l1 l2) H1
def GJ{o:L'}{k:Nat}{c:Pos}{a b:Expr}{F:TA}{p:Pos}(r:Gl X "zip")(t:X.mg "zip" = none)(v:PA X [a,b] F)(w:starEach [a,b] X.env=[(false,eval a X.env),(false,eval b X.env)]:=by rfl)(m:starEach [b] X.env=[(false,eval b X.env)]:=by rfl) :
 PI X (.Tuple o k c) (.Call (.Name "zip" p) [a,b] [] L) (Qz X.K F):=by
 intro pins s σ H R I h;refine Call_ (HD I r t (u:=.type "zip") (by decide +kernel) (PyProof.Rows.callWith_type1 (AJ (v L pins s σ H _ I h) λV d⟨W,H1,f,x,y⟩=>?_) (by rw[w,m]) (by rw[m];rfl)));obtain⟨g,i,rfl,⟨xs,K⟩,⟨Y,M⟩,q⟩:=y;obtain⟨z,A,rfl,N,O⟩:=Gv x;obtain rfl:z=Value.ref g:=N;obtain rfl:A=Value.ref i:=O;obtain⟨ag,Z,j,aa⟩:=f.list K;obtain⟨ah,ab,J,ae⟩:=f.list M;have B:g<d.heap.objs.size:=by obtain⟨_,e,_⟩:=j.isList;exact AY e
 have C:i<d.heap.objs.size:=by obtain⟨_,e,_⟩:=J.isList;exact AY e
 refine call_zip_2 j.isList J.isList λD l P Q S T af E=>?_;refine wpAny_pyIter_zip (s:={d with heap:=D}) l ?_;refine⟨_,[d.heap.objs.size+4,d.heap.objs.size+2,d.heap.objs.size+3,d.heap.objs.size,d.heap.objs.size+1],_,_,H1,rfl,f.kept (t':=d.toks) E,SX (zipApart_new B C),⟨l,P,⟨_,_,Q⟩,S,T⟩,λb G=>?_,q⟩;have n:d.heap.objs.size<=b:=(by have U:b=d.heap.objs.size+4\/b=d.heap.objs.size+2\/b=d.heap.objs.size+3\/b=d.heap.objs.size\/b=d.heap.objs.size+1:=(by simpa using G);rcases U with rfl|rfl|rfl|rfl|rfl;exact Nat.le_add_right _ _;exact Nat.le_add_right _ _;exact Nat.le_add_right _ _;exact AB _;exact Nat.le_add_right _ _);exact f.fpOk n (f.hok.fresh n)
def E9 (env:Env):List (Str×NameKind)->List (Str×Addr)->List (Str×Addr)
 |[],acc=>acc
 |(n,k)::r,acc=>if k==.free then E9 env r ((n,(env.cells.lookup n).getD 0)::acc) else E9 env r acc
theorem QA{env:Env}(f:Str×NameKind->List (Str×Addr)->Sem (ForInStep (List (Str×Addr))))
 (d:∀n k g,f (n,k) g=if(k==NameKind.free)=true then(cellOf env n >>= λa=>pure (.yield ((n,a)::g))) else pure (.yield g)) :
 ∀(names:List (Str×NameKind))(acc:List (Str×Addr)),(∀x∈names,x.2=.free->∃c,env.cells.lookup x.1=some c)->forIn names acc f=pure (E9 env names acc)
 |[],acc,_=>by rw[List.forIn_nil];rfl
 |(n,k)::r,acc,h=>by
   rw[List.forIn_cons,d];unfold E9;by_cases b:(k==NameKind.free)=true;rw[AC b,AC b];obtain⟨c,j⟩:=h (n,k) Ea (beq_iff_eq.mp b);have e:cellOf env n=pure c:=by unfold cellOf;rw[j]
   rw[e,j];exact QA f d r _ λx i=>h x (DL _ i);rw[AA b,AA b];exact QA f d r _ λx i=>h x (DL _ i)
variable {scope:Scope}{env:Env}
def SY(h:∀x∈scope.names,x.2=.free->∃c,env.cells.lookup x.1=some c):closureFor scope env=pure (E9 env scope.names []):=by simp only[closureFor];rw[QA (env:=env) _ (λn k b=>by cases a:k==NameKind.free<;>simp[a]) scope.names [] h];rfl
theorem OB{env:Env}:∀{names:List (Str×NameKind)}{acc:List (Str×Addr)}{x:Str}{c:Addr},(x,c)∈E9 env names acc->(x,c)∈acc\/((x,NameKind.free)∈names/\c=(env.cells.lookup x).getD 0)
 |[],_,_,_,h=>.inl h
 |(n,k)::r,acc,x,c,h=>by unfold E9 at h;by_cases a:(k==NameKind.free)=true;rw[AC a] at h;rcases OB h with h|⟨h,e⟩;rcases Cj.mp h with h|h;cases h;rw[beq_iff_eq.mp a];exact .inr ⟨Ea,rfl⟩;exact .inl h;exact .inr ⟨DL _ h,e⟩;rw[AA a] at h;rcases OB h with h|⟨h,e⟩;exact .inl h;exact .inr ⟨DL _ h,e⟩
theorem QB{env:Env}:∀{names:List (Str×NameKind)}{acc:List (Str×Addr)}{p:Str×Addr},p∈acc->p∈E9 env names acc
 |[],_,_,h=>h
 |(n,k)::r,acc,p,h=>by unfold E9;by_cases a:(k==NameKind.free)=true;rw[AC a];exact QB (DL _ h);rw[AA a];exact QB h
theorem Nl{env:Env}:∀{names:List (Str×NameKind)}{acc:List (Str×Addr)}{x:Str},(x,NameKind.free)∈names->∃c,(x,c)∈E9 env names acc
 |(n,k)::r,acc,x,h=>by unfold E9;rcases Cj.mp h with h|h;cases h;rw[AC (show(NameKind.free==NameKind.free)=true by rfl)];exact⟨_,QB Ea⟩;by_cases a:(k==NameKind.free)=true;rw[AC a];exact Nl h;rw[AA a];exact Nl h
theorem MA{α:Type}:∀{l:List (Str×α)}{x:Str}{c:α},(x,c)∈l->∃a,l.lookup x=some a
 |(n,d)::r,x,c,h=>by
   rw[LK]
   cases b:x==n with
   |true=>exact⟨d,rfl⟩
   |false=>rcases Cj.mp h with h|h;cases h;simp at b;exact MA h
theorem Jk:∀(names:List (Str×NameKind))(n:Nat)(acc:List (Str×Addr)),cellsFrom n names acc=cellsFrom n names []++acc
 |[],_,_=>rfl
 |(x,k)::r,n,acc=>by unfold cellsFrom;by_cases a:(k==NameKind.cell)=true;rw[AC a,AC a,Jk r (n+1) ((x,n)::acc),Jk r (n+1) [(x,n)],JA];rfl;rw[AA a,AA a];exact Jk r n acc
theorem OC:∀{names:List (Str×NameKind)}{n:Nat}{acc:List (Str×Addr)}{x:Str}{c:Addr},(x,c)∈cellsFrom n names acc->(x,c)∈acc\/(x,NameKind.cell)∈names
 |[],_,_,_,_,h=>.inl h
 |(y,k)::r,n,acc,x,c,h=>by unfold cellsFrom at h;by_cases a:(k==NameKind.cell)=true;rw[AC a] at h;rcases OC h with h|h;rcases Cj.mp h with h|h;cases h;rw[beq_iff_eq.mp a];exact .inr Ea;exact .inl h;exact .inr (DL _ h);rw[AA a] at h;rcases OC h with h|h;exact .inl h;exact .inr (DL _ h)
section
variable {M:Model} {A:Around} {E:B'} {s:Shared}
def Vb{a:List (Str×Addr)}{Q:Env->Shared->Prop}
 (b:Q (newEnv scope s.heap.objs.size env.globals (cellsFrom (s.heap.objs.size+1) scope.names a) env.qual none .none (some env) builtinsNs) {s with heap:=pushCells (s.heap.push {cls:=.type "dict",data:=.dict #[]}) scope.names}) :
 wpAny M A (newFunctionEnv scope env.globals a [] env.qual none .none (some env)) Q E s:=by
 simp only[newFunctionEnv,Option.isSome_some,if_true];refine Ag (wpAny_alloc ?_);refine Ag (wpAny_layCells _ (λname d e=>by cases c:d==NameKind.cell<;>simp[c]) _ _ _ _ ?_);rw[show({s with heap:=s.heap.push {cls:=.type "dict",data:=.dict #[]}}:Shared).heap.objs.size=s.heap.objs.size+1 from u4 ..];exact Ag (AH (AH b))
end
abbrev D9 (X:Cx) (N:F') (scope:Scope) (cs:List (Str×Addr)) (C:Addr) (s:Shared) (H:Hp) (ex:E'):Cx where
 prog:=X.prog
 w:=X.w
 K:=X.K
 mg:=X.mg
 base:=X.base
 A:=X.A
 N:=N
 s₀:=s
 H₀:=H
 env:=compEnvC scope cs C X.env
 outer:=X.stack
 stack:=X.stack
 ex:=ex
 fn:=λx=>decide (scope.names.lookup x≠some .free)
 calm:=X.calm
 pn:=[]
 xe:=λ_ _=>False
structure Ak (psc:Scope) (PN:F') (scope:Scope) (N:F') (k:Nat) (caps:M'):Prop where
 kind:scope.kind=.function
 loc:∀x∈scope.names,x.2=.local->scope.names.lookup x.1=some .local
 ndn:(scope.names.map (·.1)).Nodup
 nd:N.Nodup
 len:N.length=k+caps.length
 free:∀x∈scope.names,x.2=.free->psc.names.lookup x.1=some .cell\/psc.names.lookup x.1=some .free
 cap:∀p∈(N.drop k).zip caps,PN[p.2]?=some p.1/\scope.names.lookup p.1=some .free
def CI (k:Nat) (caps:M') (σ:St):St:=List.replicate k none++caps.map λj=>(σ[j]?).getD none
variable {caps:M'}{i:Nat}{v:V}
def S0{k:Nat}(h:(CI k caps σ)[i]?=some (some v)):∃j,k<=i/\caps[i-k]?=some j/\σ[j]?=some (some v):=by
 unfold CI at h;by_cases b:i<k;rw[DH (by simpa using b),List.getElem?_replicate,AC b] at h;cases h;rw[DJ (by simpa using b),s0,AV] at h
 cases e:caps[i-k]? with
 |none=>rw[e] at h;cases h
 |some j=>
  rw[e] at h;have a:(σ[j]?).getD none=some v:=Ce h;refine⟨j,by lia,rfl,?_⟩;cases q:σ[j]? with|none=>rw[q] at a;cases a|some o=>rw[q] at a;exact DK some a
def S1{a:NameKind}(h:(relabel scope env).names.lookup x=some a):∃k,(x,k)∈scope.names/\(a=k\/(k=.free/\a=.cell)):=by
 have e:=Fh h;have f:(x,a)∈scope.names.map (λ(n,k)=>if(k==NameKind.free && env.scope.kind==.function && env.kindOf n==some .cell) then(n,NameKind.cell) else(n,k)):=e;obtain⟨⟨n,k⟩,d,b⟩:=Bo.mp f;dsimp only at b;by_cases c:(k==NameKind.free && env.scope.kind==.function && env.kindOf n==some .cell)=true;rw[AC c] at b;cases b;simp only[Bool.and_eq_true,beq_iff_eq] at c;exact⟨k,d,.inr ⟨c.1.1,rfl⟩⟩;rw[AA c] at b;cases b;exact⟨a,d,.inl rfl⟩
theorem S4{f:Str×NameKind->Str×NameKind}(b:∀n k,f (n,k)=(n,k)\/(k=.free/\f (n,k)=(n,NameKind.cell))):∀{names:List (Str×NameKind)}{x:Str},names.lookup x=some .free->(names.map f).lookup x=some .cell\/(names.map f).lookup x=some .free
 |[],_,h=>by simp at h
 |(n,k)::r,x,h=>by
   have d:=@S4 f b r x;rw[LK] at h;rw[Ec]
   cases a:x==n with
   |true=>rw[a] at h;cases h;rcases b n .free with e|⟨_,e⟩;right;rw[e,LK,a];left;rw[e,LK,a]
   |false=>rw[a] at h;have c:=d h;rcases b n k with e|⟨_,e⟩;rw[e,LK,a];exact c;rw[e,LK,a];exact c
def S6(h:scope.names.lookup x=some .free):(relabel scope env).names.lookup x=some .cell\/(relabel scope env).names.lookup x=some .free:=by refine S4 (λn k=>?_) h;by_cases a:(k==NameKind.free && env.scope.kind==.function && env.kindOf n==some .cell)=true;right;refine⟨?_,AC a⟩;simp only[Bool.and_eq_true,beq_iff_eq] at a;exact a.1.1;left;exact AA a
def OD{names:List (Str×NameKind)}(h:(names.map (·.1)).Nodup){k d:NameKind}(a:(x,k)∈names)(b:(x,d)∈names):k=d:=by
 induction names with
 |nil=>simp at a
 |cons p r g=>rw[Ec] at h;obtain⟨e,i⟩:=DN.mp h;rcases Cj.mp a with f|a<;>rcases Cj.mp b with c|b;rw[<-f] at c;exact(Prod.mk.inj c).2.symm;exact absurd (Bo.mpr ⟨_,b,by rw[<-f]⟩) e;exact absurd (Bo.mpr ⟨_,a,by rw[<-c]⟩) e;exact g i a b
variable {h1:Heap}{C:Addr}
def Un.but{fs ex:E'}{h f:Heap}(u:Un fs ex H H' h h1)(c:Heap.SameBut C h1 f)(g:h.objs.size<=C):Un fs ex H H' h f:=by have ne:∀b o,h.get? b=some o->b≠C:=λb o e=>CF (EK (AY e) g);refine⟨λb o e n d a=>(c.2 b (ne b o e)).trans (u.keep b o e n d a),λb o e n d a=>?_,u.free,λb o e a=>?_,u.tups,u.frzs,u.tbls⟩;obtain⟨i,q⟩:=u.slot b o e n d a;exact⟨i,(c.2 b (ne b o e)).trans q⟩;obtain⟨j,q⟩:=u.there b o e a;exact⟨j,(c.2 b (ne b o e)).trans q⟩
def CG.but{d:Heap}(x:CG P w H h1)(g:Heap.SameBut C h1 d)(f:H C=none):CG P w H d:=λb u e=>by refine(x b u e).stay (λc v a q=>(g.2 c ?_).trans q) (λ_ q=>q) λ_ _ q=>q;rintro rfl;rcases a with rfl|a;rw[f] at e;cases e;rw[f] at a;cases a
section
variable {X:Cx} {scope:Scope} {N:F'} {k:Nat} {caps:M'} {psc:Scope} {PN:F'} {pins:A'} {σ:St} {H:Hp} {s:Shared}
abbrev Dr (X:Cx) (scope:Scope) (C:Addr):List (Str×Addr):=cellsFrom (C+1) scope.names (E9 X.env scope.names [])
def S7(I:Inv X pins σ H s)(S:Ak X.env.scope X.N scope N k caps){c:Addr}(h:(x,c)∈Dr X scope C) :
 (x,c)∈cellsFrom (C+1) scope.names []\/X.env.cells.lookup x=some c:=by
 unfold Dr at h;rw[Jk] at h;rcases EJ.mp h with h|h;exact .inl h;rcases OB h with h|⟨h,e⟩;simp at h;obtain⟨b,a⟩:=I.ok.has x (S.free _ h rfl);rw[a] at e;exact .inr (by rw[a];exact DK some e.symm)
def Vc{t:E'}(I:Inv X pins σ H s)(S:Ak X.env.scope X.N scope N k caps)(B:∀b∈t,Dn X pins H b)(ae:∀b∈t,∃o,s.heap.get? b=some o){D C:Nat}{t':Nat}(g:D=s.heap.objs.size)(J:C=D+1)
 (E:h1=pushCells ((s.heap.push {cls:=.type "list",data:=.seq #[]}).push {cls:=.type "dict",data:=.dict #[]}) scope.names) :
 Inv (D9 X N scope (Dr X scope C) C s H t) [] (CI k caps σ) (upd H D (.lst [])) {s with heap:=h1,toks:=t'}:=by
 have Z:(s.heap.push {cls:=.type "list",data:=.seq #[]}).objs.size=C:=(by rw[u4,J,g]);have aa:((s.heap.push {cls:=.type "list",data:=.seq #[]}).push {cls:=.type "dict",data:=.dict #[]}).objs.size=C+1:=(by rw[u4,Z])
 have G:∀b o,s.heap.get? b=some o->h1.get? b=some o:=λb o e=>by
  rw[E];exact pushCells_keeps _ _ b o (Bb _ (Bb _ e))
 have ak:h1.get? D=some {cls:=.type "list",data:=.seq #[]}:=(by rw[E,g];exact pushCells_keeps _ _ _ _ (Bb _ (Cf _ rfl)));have af:h1.Ns C (λ_=>none):=(by rw[E,<-Z];exact(Heap.Ns.new _ (.type "dict")).keeps (pushCells_keeps _ _));have ok:=cellsFrom_ok scope.names ((s.heap.push {cls:=.type "list",data:=.seq #[]}).push {cls:=.type "dict",data:=.dict #[]}) (C+1) [] ⟨λ_ _ d=>(nomatch d),List.Pairwise.nil⟩ (by rw[aa];exact AB _);rw[aa] at ok;have own:∀x c,(x,c)∈cellsFrom (C+1) scope.names []->h1.IsCell c none/\C+1<=c:=λx c h=>by rw[E];exact ok.empty x c h
 have P:∀x c,X.env.cells.lookup x=some c->c<D:=λx c e=>by
  obtain⟨v,q⟩:=I.cell x c e;rw[g];exact q.lt
 have Y:∀b∈t,b<D:=λb f=>by
  obtain⟨o,e⟩:=ae b f;rw[g];exact AY e
 have ao:H C=none:=I.hok.fresh (by rw[J,g];exact Nat.le_succ _);have split:=λx c(h:(Dr X scope C).lookup x=some c)=>S7 (C:=C) I S (Fh h);have T:∀b,b≠D->H b=none->(upd H D (.lst [])) b=none:=λb f e=>by rw[Ax f];exact e
 have al:∀x,scope.names.lookup x=some .free->∃c,X.env.cells.lookup x=some c/\(Dr X scope C).lookup x=some c:=λx w=>by
  have d:=Fh w;obtain⟨F,K⟩:=Nl (env:=X.env) (acc:=[]) d;obtain⟨c,U⟩:=MA (l:=Dr X scope C) (x:=x) (c:=F) (by unfold Dr;rw[Jk];exact Eb _ K);refine⟨c,?_,U⟩;rcases split x c U with q|q;rcases OC q with z|z;simp at z;have:=OD S.ndn d z;cases this;exact q
 have ag:(D9 X N scope (Dr X scope C) C s H t).Ok:=by
  refine⟨I.ok.mod,S.kind,I.ok.glob,I.ok.blt,?above,?inj,?has,?cab,I.ok.hd,I.ok.frames,.inl rfl,?exf,λb o e=>I.bs b o e,Fg I.ok.bsz I.sz,?noex,?exfs,I.stack,I.stkFree⟩
  case above =>
   show s.heap.objs.size<=C;rw[J,g];exact Nat.le_succ _
  case inj =>
   intro x y c L M;rcases split x c L with n|n<;>rcases split y c M with r|r;exact name_of_addr ok.apart n r;have h1:@LE.le Nat _ (C+1) c:=(own x c n).2;have a:@LT.lt Nat _ c D:=P y c r;exfalso;lia;have h1:@LE.le Nat _ (C+1) c:=(own y c r).2;have a:@LT.lt Nat _ c D:=P x c n;exfalso;lia;exact I.ok.inj x y c n r
  case has =>
   intro x w;have Q:(relabel scope X.env).names.lookup x=some .cell\/(relabel scope X.env).names.lookup x=some .free:=w;have p:∃m,(x,m)∈scope.names/\(m=.cell\/m=.free):=(by rcases Q with q|q;obtain⟨m,h1,a⟩:=S1 q;rcases a with a|⟨a,_⟩;exact⟨m,h1,.inl a.symm⟩;exact⟨m,h1,.inr a⟩;obtain⟨m,h1,a⟩:=S1 q;rcases a with a|⟨_,a⟩;exact⟨m,h1,.inr a.symm⟩;cases a);obtain⟨m,d,p|p⟩:=p;subst p
   have q:=PySem.W.cellsFrom_some scope.names (C+1) (E9 X.env scope.names []) (x:=x) (.inl (by
    obtain⟨k2,A⟩:=MA d;rw[A,OD S.ndn (Fh A) d]))
   exact Option.isSome_iff_exists.mp q;subst p;obtain⟨F,K⟩:=Nl (env:=X.env) (acc:=[]) d;exact MA (c:=F) (by show(x,F)∈Dr X scope C;unfold Dr;rw[Jk];exact Eb _ K)
  case cab =>
   intro x c w e;have Q:decide (scope.names.lookup x≠some .free)=true:=w;have ah:=FL Q;show s.heap.objs.size<=c;have e':(Dr X scope C).lookup x=some c:=e;have d:=Fh e';unfold Dr at d;rw[Jk] at d;rcases EJ.mp d with z|z;have h1:@LE.le Nat _ (C+1) c:=(own x c z).2;have a:@LE.le Nat _ s.heap.objs.size c:=(by lia);exact a;rcases OB z with z|⟨z,_⟩;simp at z;obtain⟨k2,A⟩:=MA z;exact absurd (by rw[A,OD S.ndn (Fh A) z]) ah
  case exf =>
   intro b f;refine⟨?_,λx c e z=>?_⟩;have h1:@LT.lt Nat _ b D:=Y b f;exact CF (show @LT.lt Nat _ b C by lia);rcases split x c e with q|q;have h1:@LE.le Nat _ (C+1) c:=(own x c q).2;have a:@LT.lt Nat _ b D:=Y b f;have V:@Eq Nat c b:=z;lia;exact(B b f).2.2.2.2.1 x c q z
  case noex =>
   intro b o e f;rcases(B b f).2.2.2.1 with q|q;exact I.ok.noex b o e q;exact absurd (EK (AY e) (Fg I.ok.bsz q)) (EV _)
  case exfs =>
   intro b f z;have V:b∈EM X.stack:=z;rcases Cj.mp (I.stkSub b V) with q|q;exact(B b f).2.1 q;exact(B b f).2.2.1 q
 refine⟨ag,rfl,I.bare,Un.laid G (by rw[g];exact AB _) (I.hok.fresh (by rw[g];exact AB _)),⟨_,af,?loc⟩,?cell,T _ (show @Ne Nat C D by lia) ao,?freeC,λaq O=>absurd O (by simp),?hok,?len⟩
 case loc =>
  intro i x v L M e3;obtain⟨j,hi,hj,hv⟩:=S0 M;have hz:(x,j)∈(N.drop k).zip caps:=(by refine List.mem_iff_getElem?.mpr ⟨i-k,?_⟩;rw[List.getElem?_zip_eq_some];refine⟨?_,hj⟩;rw[List.getElem?_drop,show k+(i-k)=i by lia];exact L);obtain⟨O,R⟩:=S.cap (x,j) hz;have p:=S.free (x,.free) (Fh R) rfl;obtain⟨ar,hn,hl⟩:=I.loc;obtain⟨u,ab,l⟩:=hl j x v O hv (by rcases p with q|q;exact .inr (.inl q);exact .inr (.inr q));refine⟨u,ab,?_⟩;obtain⟨c,ai,aj⟩:=al x R;have an:s.heap.IsCell c (some u):=(by rcases l with⟨q,_⟩|⟨_,c',n,r⟩;have W:X.env.scope.names.lookup x=some .local:=q;rcases p with z|z;rw[W] at z;cases z;rw[W] at z;cases z;rw[ai] at n;cases n;exact r);exact .inr ⟨S6 R,c,aj,an.keeps G⟩
 case cell =>
  intro x c e;rcases split x c e with q|q;exact⟨_,(own x c q).1⟩;obtain⟨v,z⟩:=I.cell x c q;exact⟨v,z.keeps G⟩
 case freeC =>
  intro x c e;rcases split x c e with q|q;have h1:@LE.le Nat _ (C+1) c:=(own x c q).2;have a:@LE.le Nat _ s.heap.objs.size c:=(by lia);exact T c (show @Ne Nat c D by lia) (I.hok.fresh a);exact T c (CF (P x c q)) (I.freeC x c q)
 case hok =>
  exact I.hok.laid G (by rw[g];exact AB _) ⟨B8 _,[],0,.nil,ak⟩
 case len =>
  show(CI k caps σ).length=N.length;unfold CI;rw[BC,s0,Al,S.len]
def Vd{a:E'}(I:Inv X pins σ H s)(S:Ak X.env.scope X.N scope N k caps){p:A'}{σ':St}{Z:Shared}(P:∀x c,X.env.cells.lookup x=some c->c∉a)(T:s.heap.objs.size<=C)
 (J:Inv (D9 X N scope (Dr X scope C) C s H a) p σ' H' Z):Inv (D9 X N scope (Dr X scope C) C s H a) p (CI k caps σ) H' Z:=by
 obtain⟨m,t,_⟩:=id J.loc;refine⟨J.ok,J.os,J.bare,J.base,⟨m,t,λi x v w y U=>?_⟩,J.cell,J.free,J.freeC,J.pin,J.hok,?_⟩;obtain⟨j,V,A,B⟩:=S0 y;have D:(x,j)∈(N.drop k).zip caps:=(by refine List.mem_iff_getElem?.mpr ⟨i-k,?_⟩;rw[List.getElem?_zip_eq_some];refine⟨?_,A⟩;rw[List.getElem?_drop,show k+(i-k)=i by lia];exact w);obtain⟨E,b⟩:=S.cap (x,j) D;have e:=S.free (x,.free) (Fh b) rfl;obtain⟨W,aa,F⟩:=I.loc;obtain⟨u,r,l⟩:=F j x v E B (by rcases e with q|q;exact .inr (.inl q);exact .inr (.inr q));refine⟨u,r,?_⟩;have R:∃c,X.env.cells.lookup x=some c/\s.heap.IsCell c (some u):=(by rcases l with⟨q,_⟩|⟨_,f,G,K⟩;have g:X.env.scope.names.lookup x=some .local:=q;rcases e with z|z;rw[g] at z;cases z;rw[g] at z;cases z;exact⟨f,G,K⟩);obtain⟨c,d,o,L,hd⟩:=R;have Q:(Dr X scope C).lookup x=some c:=(by have h:=Fh b;obtain⟨M,O⟩:=Nl (env:=X.env) (acc:=[]) h;obtain⟨f,n⟩:=MA (l:=Dr X scope C) (x:=x) (c:=M) (by unfold Dr;rw[Jk];exact Eb _ O);rcases S7 (C:=C) I S (Fh n) with q|q;rcases OC q with z|z;simp at z;have:=OD S.ndn h z;cases this;rw[d] at q;cases q;exact n);obtain⟨Y,q⟩:=J.base.any L (I.freeC x c d) (P x c d);exact .inr ⟨S6 b,c,Q,_,q,hd⟩;show(CI k caps σ).length=N.length;unfold CI;rw[BC,s0,Al,S.len]
end
def PF (X:Cx) (f:L') (t:TT):Prop:=
 ∀(pins:A')(s:Shared)(σ:St)(H:Hp)(Q:Bool->Hp->Prop),Inv X pins σ H s->t σ H Q ->
  wpAny (model X.prog X.w) X.A (forIn f true λc r=>if r=true then do let ok <-isTrue c X.env (eval c X.env);pure (ForInStep.yield ok) else pure (ForInStep.yield r)) (TP X pins σ Q) X.xe s
def Ee:TT:=λ_ H Q=>Q true H
def EC:PF X [] Ee:=λ_ _ _ H _ I h=>wpAny_tests_nil ⟨H,I,h⟩
def QC{c:Expr}{t:TT}(h:PT X c t):PF X [c] t:=λpins s σ H Q I a=>wpAny_tests_one (h pins s σ H Q I a)
variable {j l:Expr}{f:L'}
def Ve{prog:Program}{R:Result->Shared->Prop}{target:Expr}{d acc:Value}(I:Nat->Shared->Prop)
 (z:∀n s,I n s->wpAny (model prog w) A (pyNext d) (λr b=>match r with
  |none=>R (.ok .next) b
  |some v=>wpAny (model prog w) A (letOwnedTupleGo target d v) (λ_ b=>wpAny (model prog w) A (assign target env v) (λ_ i=>
   wpAny (model prog w) A (forIn f true λc r=>if r=true then do let ok <-isTrue c env (eval c env);pure (ForInStep.yield ok) else pure (ForInStep.yield r)) (λok g =>
    if ok=true then wpAny (model prog w) A (eval j env) (λx k =>
     wpAny (model prog w) A (call (.builtin "list.append") [acc,x]) (λ_ o=>∃m,m<n/\I m o) (λ_ _=>False) k) (λ_ _=>False) g
    else ∃m,m<n/\I m g) (λ_ _=>False) i) (λ_ _=>False) b) (λ_ _=>False) b) (λ_ _=>False) s)
 (n:Nat) (h:I n s) :
 codeAny (model prog w) A (.compLoop (.ListComp j [⟨target,l,f,0⟩] scope L) 0 d acc env) R s:=by
 refine codeAny_loop rfl I (λn s q=>?_) n h;show wpAny _ A ((compTurn (.ListComp j [⟨target,l,f,0⟩] scope L) 0 d acc env).onRaise (λx=>do noteFrame x env;theTreesLotGoes x)) _ _ s;refine wpAny_noted ?_;rw[compTurn_list];refine Ag (wpAny_standAt (Ag (E5 (z n s q) (λr b e=>?_) λ_ _ a=>a.elim)))
 cases r with
 |none=>exact AH e
 |some v=>
  refine Ag (E5 e (λ_ b e=>?_) λ_ _ a=>a.elim);refine Ag (E5 e (λ_ i t=>Ag (E5 t (λok g p=>?_) λ_ _ a=>a.elim)) λ_ _ a=>a.elim);cases ok with|false=>exact AH ⟨rfl,p⟩|true=>exact Ag (Ag (E5 p (λx k u=>Ag (E5 u (λ_ o y=>AH (AH ⟨rfl,y⟩)) λ_ _ a=>a.elim)) λ_ _ a=>a.elim))
def Jl (k:Nat) (caps:M') (wi:TI) (g:TG) (tc:TT) (te:TE):TE:=λσ H Q=>wi σ H λJ H1=>∀D,H1 D=none->∃W:Nat->Nat->R'->Hp->Prop,(∃m,W 0 m [] (upd H1 D (.lst [])))/\∀i m ys H2,W i m ys H2 ->
 (J.stop i H2/\Q (.ref D) H2)\/(J.go i H2/\∀x H3,J.yld i H2 x H3->g x (CI k caps σ) H3 λσ4 H4=>tc σ4 H4 λb H5 =>
  if b=true then te σ4 H5 λy H6=>H6 D=some (.lst ys)/\ys.length<sizeLine/\∃m',m'<m/\W (i+1) m' (ys++[y]) (upd H6 D (.lst (ys++[y]))) else ∃m',m'<m/\W (i+1) m' ys H5)
variable {N:F'}{g:TG}{tc:TT}
def S8{k:Nat}{E:B'}{Q:VK}
 {Y:Addr} {d:E'} {K:Nat->Heap->Prop} {J:It} {R:Value->Addr->Result->Shared->Prop} {cm:Cx->Prop} (hc:∀t C s H ex,cm (D9 X N scope t C s H ex)) (af:Ak X.env.scope X.N scope N k caps) (I:Inv X pins σ H s)
 (T:Jc cm X.prog X.w X.K tg J d Y K) (st:K 0 s.heap) (r:∀b∈d,Dn X pins H b)
 (hg:∀t C s H ex,PG (D9 X N scope t C s H ex) tg g) (ht:∀t C s H ex,PF (D9 X N scope t C s H ex) f tc) (he:∀t C s H ex,PE (D9 X N scope t C s H ex) j te)
 (q:∀D,H D=none->∃W:Nat->Nat->R'->Hp->Prop,(∃m,W 0 m [] (upd H D (.lst [])))/\∀i m ys M,W i m ys M ->
  (J.stop i M/\Q (.ref D) M)\/(J.go i M/\∀x u,J.yld i M x u->g x (CI k caps σ) u λσ4 H4=>tc σ4 H4 λb O =>
   if b=true then te σ4 O λy S=>S D=some (.lst ys)/\ys.length<sizeLine/\∃h,h<m/\W (i+1) h (ys++[y]) (upd S D (.lst (ys++[y]))) else ∃h,h<m/\W (i+1) h ys O))
 (ao:∀D C H' Z m,C≠X.env.locals->(∀x c,X.env.cells.lookup x=some c->c≠C)->Z.heap.Ns C m->(∀h',Heap.SameBut C Z.heap h'->Inv X pins σ H' {Z with heap:=h'})->H' C=none->s.heap.objs.size<=C->Q (.ref D) H'->R (.ref D) C (.ok .next) Z) :
 wpAny (model X.prog X.w) X.A (newList []) (λacc s₃=>wpAny (model X.prog X.w) X.A (newFunctionEnv scope X.env.globals (E9 X.env scope.names []) [] X.env.qual none .none (some X.env)) (λaj s₄ =>
  codeAny (model X.prog X.w) X.A (.compStart (.ListComp j [⟨tg,l,f,0⟩] scope L) 0 (.ref Y) acc {aj with scope:=relabel scope X.env}) (R acc aj.locals) s₄) E s₃) E s:=by
 refine wpAny_newObj_type (Vb ?_);generalize p:s.heap.objs.size=D;have a1:(s.heap.push {cls:=.type "list",dict:=none,data:=.seq ([]:D').toArray}).objs.size=D+1:=(by rw[u4,p]);dsimp only;rw[a1];have aa:∀b∈d,∃o,s.heap.get? b=some o:=λb a=>let ⟨o,e,_⟩:=T.obj 0 _ st b a;⟨o,e⟩;have aq:H D=none:=I.hok.fresh (by rw[p];exact AB _);have J0:=Vc (t':=s.toks) I af r aa (D:=D) (C:=D+1) p.symm rfl rfl;have ar:∀x c,X.env.cells.lookup x=some c->c∉d:=λx c e a=>(r c a).2.2.2.2.1 x c e rfl
 have ab:∀{G:A'}{H':Hp},(∀b∈d,H' b=none)->G=[]->∀b∈d,Dn (D9 X N scope (Dr X scope (D+1)) (D+1) s H d) G H' b:=λ{G H'}hn hp b a=>by
  obtain⟨o,e⟩:=aa b a;have au:@LT.lt Nat _ b D:=by rw[<-p];exact AY e
  subst hp;refine⟨hn b a,?_,λz=>?_,.inl a,λx c e=>(J0.ok.exf b a).2 x c e,λa3 hp=>absurd hp (by simp)⟩;show @Ne Nat b (D+1);lia;have z':b∈EM X.stack:=z;rcases Cj.mp (I.stkSub b z') with w|w;exact(r b a).2.1 w;exact(r b a).2.2.1 w
 obtain⟨W,⟨m0,w0⟩,a2⟩:=q D aq;have ag:K 0 (pushCells ((s.heap.push {cls:=.type "list",data:=.seq #[]}).push {cls:=.type "dict",data:=.dict #[]}) scope.names):=T.keep 0 _ _ st λb a o e=>pushCells_keeps _ _ b o (Bb _ (Bb _ e))
 have av:∀b∈d,(upd H D (.lst [])) b=none:=λb a=>by
  obtain⟨o,e⟩:=aa b a;have au:@LT.lt Nat _ b D:=by rw[<-p];exact AY e
  rw[Ax (show @Ne Nat b D by lia)];exact(r b a).1
 have aw:∀{H':Hp}{Z:Shared}{σ':St}{G:A'},Inv (D9 X N scope (Dr X scope (D+1)) (D+1) s H d) G σ' H' Z->Q (.ref D) H'->R (.ref D) (D+1) (.ok .next) Z:=λ{H' Z σ' G}J q=>by
  obtain⟨m,hn,_⟩:=id J.loc;refine ao D (D+1) H' Z m (λz=>?_) (λx c e z=>?_) hn (λh' hs=>?_) J.free (by rw[p];exact Nat.le_succ _) q;have h1:@LT.lt Nat _ X.env.locals D:=by rw[<-p];exact I.lt
  have z':@Eq Nat (D+1) X.env.locals:=z;lia;obtain⟨v,y⟩:=I.cell x c e;have h1:@LT.lt Nat _ c D:=by rw[<-p];exact y.lt
  have z':@Eq Nat c (D+1):=z;lia;refine I.call' (ch:=d) J.os (J.base.but hs (by rw[p];exact Nat.le_succ _)) (J.hok.but hs J.free) J.bare λb a=>?_;exact⟨(r b a).2.2.2.1,(r b a).2.1,(r b a).2.2.2.2.1,(r b a).2.2.2.2.2⟩
 have ak:codeAny (model X.prog X.w) X.A (.compLoop (.ListComp j [⟨tg,l,f,0⟩] scope L) 0 (.ref Y) (.ref D) (compEnvC scope (Dr X scope (D+1)) (D+1) X.env)) (R (.ref D) (D+1))
  {s with heap:=pushCells ((s.heap.push {cls:=.type "list",data:=.seq #[]}).push {cls:=.type "dict",data:=.dict #[]}) scope.names}:=by
  refine Ve (λn Z=>∃i ys H',Inv (D9 X N scope (Dr X scope (D+1)) (D+1) s H d) [] (CI k caps σ) H' Z/\K i Z.heap/\(∀b∈d,H' b=none)/\W i n ys H') ?_ m0 ⟨0,[],_,J0,ag,av,w0⟩;rintro n s3 ⟨i,ys,u,I3,ah,ai,w3⟩;rcases a2 i n ys u w3 with⟨stop,qn⟩|⟨go,step⟩
  . refine AJ (T.done (D9 X N scope (Dr X scope (D+1)) (D+1) s H d) rfl rfl rfl (hc _ _ _ _ _) i [] s3 _ u _ I3 (ab ai rfl) ah stop) λal s4⟨hr,I4⟩=>?_
    subst hr;exact aw I4 qn
  refine AJ (T.item (D9 X N scope (Dr X scope (D+1)) (D+1) s H d) rfl rfl rfl (hc _ _ _ _ _) i [] s3 _ u _ I3 (ab ai rfl) ah go) λal s4⟨an,hr,h4⟩=>?_;subst hr;refine AJ h4 λ_ s5⟨x,O,I5,r5,y5,ae,ax⟩=>?_;have ay:=I5.pinned (ab ax rfl) (T.obj _ _ ae)
  have again:∀{σ7:St}{A:Hp}{B:Shared}{h:Nat}{zs:R'},Inv (D9 X N scope (Dr X scope (D+1)) (D+1) s H d) ([]++M3 d s5.heap) σ7 A B->h<n->W (i+1) h zs A ->
   ∃m,m<n/\∃i ys H',Inv (D9 X N scope (Dr X scope (D+1)) (D+1) s H d) [] (CI k caps σ) H' B/\K i B.heap/\(∀b∈d,H' b=none)/\W i m ys H':=λ{σ7 A B h zs}F P w7=>by
   refine⟨h,P,i+1,zs,A,Vd I af ar (by rw[p];exact Nat.le_succ _) F.unpinned,T.keep _ _ _ ae λb a o e=>(F.pin (b,o) (Eb _ (Eb _ (Oq a e)))).1,λb a=>?_,w7⟩;obtain⟨o,e,a4⟩:=T.obj _ _ ae b a;exact(F.pin (b,o) (Eb _ (Eb _ (Oq a e)))).2.1
  refine AJ (hg _ _ _ _ _ _ s5 _ O x an _ ay r5 (step x O y5)) λ_ s6⟨σ6,S,I6,q6⟩=>?_;refine AJ (ht _ _ _ _ _ _ s6 σ6 S _ I6 q6) λb B⟨A,F,U⟩=>?_;cases b with|false=>rw[AA CP] at U ⊢;obtain⟨h,P,w7⟩:=U;exact again F P w7|true=>rw[AC rfl] at U ⊢;refine AJ (he _ _ _ _ _ _ B σ6 A _ F U) λy s8⟨yv,H8,I8,r8,az,a0,h,P,w8⟩=>?_;refine AJ (SI (X:=D9 X N scope (Dr X scope (D+1)) (D+1) s H d) _ s8 σ6 H8 (.ref D) [yv] (.ref D) [y] (λ_ H9=>W (i+1) h (ys++[yv]) H9) I8 rfl (.cons r8 .nil) ⟨D,ys,yv,rfl,rfl,az,a0,w8⟩) λ_ s9⟨_,H9,I9,_,w9⟩=>?_;exact again I9 P w9
 exact codeAny_compStart_list ak (T.self _ 0 _ _ _ ag ak)
def EQ{k:Nat}{b:TI}(c:X.calm=true)(S:Ak X.env.scope X.N scope N k caps)(d:PI X tg l b)
 (i:∀a C s H ex,PG (D9 X N scope a C s H ex) tg g) (n:∀a C s H ex,PF (D9 X N scope a C s H ex) f tc) (o:∀a C s H ex,PE (D9 X N scope a C s H ex) j te)
 (p:∀x,foldedSetIterable l X.env x=pure x:=by intro _;rfl):PE X (.ListComp j [⟨tg,l,f,0⟩] scope L) (Jl k caps b g tc te):=by
 intro pins s σ H Q I h;have E:closureFor scope X.env=pure (E9 X.env scope.names []):=SY λx r F=>I.ok.has x.1 (S.free x r F);rw[eval_ListComp];refine wpAny_comprehension_free (use:=none) rfl p E S.kind S.loc (AJ (d pins s σ H _ I h) λv M h1=>AJ h1 λW O t=>?_);obtain⟨P,R,U,J,V,e,u,T,G,w,q⟩:=t;subst e;refine S8 (Q:=Q) (λ_ _ _ _ _=>c) S u T G w i n o q ?_;intro D C H' Z m _ _ y z _ _ A;exact⟨m,y,λB K=>⟨.ref D,H',z B K,rfl,A⟩⟩
set_option tactic.hygienic true in
def OE{E:Pos}{k:Nat}{t:Pos}{u:TI}(F:X.N.Nodup)(aa:X.N[i]?=some x)(n:Loc X.env.scope x)
 (G:X.calm=true) (S:Ak X.env.scope X.N scope N k caps) (J:PI X tg l u)
 (K:∀c C s H ex,PG (D9 X N scope c C s H ex) tg g) (M:∀c C s H ex,PF (D9 X N scope c C s H ex) f tc) (O:∀c C s H ex,PE (D9 X N scope c C s H ex) j te)
 (ab:swapsWith (.ListComp j [⟨tg,l,f,0⟩] scope L) (some (.Name x t)) E.line X.env=pure true:=by rfl)
 (P:∀x,foldedSetIterable l X.env x=pure x:=by intro _;rfl) (ae:X.fn x=true\/X.env.scope.names.lookup x=some .local:=by first|exact .inl rfl|exact .inr rfl|assumption) :
 PS X (.Assign [.Name x t] (.ListComp j [⟨tg,l,f,0⟩] scope L) E) (HK (Jl k caps u g tc te) (Dl i)):=by
 intro pins s σ H D I h;have af:closureFor scope X.env=pure (E9 X.env scope.names []):=SY λx n ag=>I.ok.has x.1 (S.free x n ag);rw[exec_Assign_Name_used _ _ _ _ ab];refine Ag (wpAny_standAt (Ag ?_));show wpAny _ _ (do let _ <-comprehension (.ListComp j [⟨tg,l,f,0⟩] scope L) scope X.env _ (newList []) false (eval l X.env) (some (assign (.Name x t) X.env))) _ _ s
 refine Ag (E5 (wpAny_comprehension_free (use:=some (assign (.Name x t) X.env)) (Q:=λ_ Z=>SP X pins D .next Z) rfl P af S.kind S.loc
  (AJ (J pins s σ H _ I h) λv s1 h1=>AJ h1 λau s2 R=>?_)) (λ_ Z o=>AH (AH o)) λ_ _ e=>e)
 obtain⟨it,fp,tn,aq,H2,e,r,T,ah,U,q⟩:=R;subst e;refine S8 (Q:=λx H1=>Dl i x σ H1 D.nx) (λ_ _ _ _ _=>G) S r T ah U K M O q ?_;intro w C H' Z m y A W Y ai B o;have I3:=Y Z.heap (.refl ..);have aj:Inv X pins σ H' Z:=I3;refine wpAny_assign_Name (Sa aj F aa n (show RelV (V.ref w) (.ref w) from rfl) (λak I4⟨a,al,d⟩=>?_) ae);have an:C≠a:=(by rcases d with d|d;rw[d];exact y;exact Ne.symm (A x a d));refine⟨m,W.sameBut al an,λh' ao=>?_⟩;refine⟨_,H',?_,o⟩
 exact I4.turned (t':=ak.toks) (λb ar hb e=>(ao.2 b hb).trans e) ai y (.inr (Fg r.sz B)) A λp hp z=>by
  have:=AY (r.pin p hp).1;rw[z] at this;exact absurd (EK this B) (EV _)
def AU (P:Program) (w:World) (K:Ah) (mg:Str->I') (base:Heap) (x:Str) (k:Nat) (ps:F') (sp:Sp):Prop:=
 ∃f fd,Cm P w K mg base E8 k f fd ps sp/\mg x=some (.ref f)/\PySem.W.keepIn K (.ref f)=true/\Binds K fd ps []
section
variable {X:Cx} {x:Str} {k:Nat} {ps:F'} {sp:Sp} {e:Expr} {es:L'} {t:TA} {p L:Pos}
def AK(C:AU X.prog X.w X.K X.mg X.base x k ps sp)(a:PA X (e::es) t)(b:BK k X.A:=by exact BK.mono (by assumption) (by decide))(c:Gl X x:=by rfl)(j:(x==b')=false:=by decide)
 (d:starEach (e::es) X.env=(false,eval e X.env)::starEach es X.env:=by rfl) (l:(backTo L (starEach es X.env)).any (·.1)=false:=by rfl):PE X (.Call (.Name x p) (e::es) [] L) (Gx sp [] E0 t):=by
 obtain⟨f,fd,F,g,h,i⟩:=C;exact HN F b c g h i .nil Ni a j d l
end
def Gb(n:String)(a:Gl X x)(b:X.mg x=none)(c:bootBuiltins x=some (.type n))(d:x ≠ "__name__" :=by decide)(hd:(x==b')=false:=by decide):PE X (.Name x L) (tC (.ty n)):=HE (v:=.ty n) a b c rfl d hd
def MB{t u:TS}{D:Ends}{σ:L2.St}(P:L2.St->Hp->Prop)(a:∀σ' H',P σ' H'->u D σ' H')(b:∀N:L2.St->Hp->Prop,(∀σ' H',P σ' H'->N σ' H')->t {D with nx:=N} σ H):FO t u D σ H:=b (u D) a
def Ac.upd{H H':Hp}{D:Addr}{o:HO}(h:Ac H H')(a:H D=none):Ac H (upd H' D o):=λb u e=>by rw[Ax (AN e a)];exact h b u e
def Ac.seqT{K:Ah}(e:Ac H H')(h:Am K H a xs):Am K H' a xs:=by rcases h with(h|⟨o,h⟩)|h;exact .inl (.inl (e _ _ h));exact .inl (.inr ⟨o,e _ _ h⟩);exact .inr h
def QD{K:Ah}{k:Nat}{Q:Addr->Hp->Prop}(f:V->V)(z:xs.length<=sizeLine)(v:Ad K H1 a xs)
 (w:∀(i:Nat)(x:V)(c:Hp)(D:Addr)(R:VK),xs[i]?=some x->Ac H1 c->H1 D=none->(∀d,Ac c d->R (f x) d)->g x (CI k caps σ) c λσ4 j=>te σ4 j R)
 (hd:∀(c:Hp)(D:Addr),Ac H1 c->H1 D=none->c D=some (.lst (xs.map f))->Q D c) :
 ∀D,H1 D=none->∃W:Nat->Nat->R'->Hp->Prop,(∃m,W 0 m [] (upd H1 D (.lst [])))/\∀i m ys c,W i m ys c ->
  ((E7 K a).stop i c/\Q D c)\/((E7 K a).go i c/\∀x d,(E7 K a).yld i c x d->g x (CI k caps σ) d λσ4 j=>Ee σ4 j λb q =>
   if b=true then te σ4 q λy r=>r D=some (.lst ys)/\ys.length<sizeLine/\∃h,h<m/\W (i+1) h (ys++[y]) (upd r D (.lst (ys++[y]))) else ∃h,h<m/\W (i+1) h ys q):=by
 intro D l;refine⟨λi m ys c=>m=xs.length-i/\i<=xs.length/\ys=(xs.take i).map f/\Ac H1 c/\c D=some (.lst ys),⟨xs.length,rfl,B8 _,rfl,(Ac.refl _).upd l,Aa⟩,?_⟩;rintro i m ys c ⟨rfl,A,rfl,n,o⟩;have p:=n.seq v;by_cases u:i<xs.length;refine .inr ⟨⟨xs,xs[i],p,by simp[u]⟩,λx d y=>?_⟩;obtain⟨rfl,y⟩:=y;have s:=y xs p;refine w i x d D _ s n l λj t=>?_;refine⟨t _ _ o,by rw[Al,DM];lia,xs.length-(i+1),by lia,rfl,u,?_,(n.trans t).upd l,Aa⟩;rw[FK,s,By];rfl;have e:i=xs.length:=(by lia);subst e;rw[Jz] at o;exact .inl ⟨⟨xs,p,AB _⟩,hd c D n l o⟩
def Vf{k:Nat}{Q:Addr->Hp->Prop}(f:Nat->V)(z:x.cps.size<=sizeLine)
 (u:∀(i c:Nat)(a:Hp)(D:Addr)(R:VK),x.cps[i]?=some c->Ac H1 a->H1 D=none->(∀d,Ac a d->R (f c) d)->g (.str ⟨#[c]⟩) (CI k caps σ) a λσ4 j=>te σ4 j R)
 (hd:∀(a:Hp)(D:Addr),Ac H1 a->H1 D=none->a D=some (.lst (x.cps.toList.map f))->Q D a) :
 ∀D,H1 D=none->∃W:Nat->Nat->R'->Hp->Prop,(∃m,W 0 m [] (upd H1 D (.lst [])))/\∀i m ys a,W i m ys a ->
  ((Nj x).stop i a/\Q D a)\/((Nj x).go i a/\∀y d,(Nj x).yld i a y d->g y (CI k caps σ) d λσ4 j=>Ee σ4 j λb p =>
   if b=true then te σ4 p λy q=>q D=some (.lst ys)/\ys.length<sizeLine/\∃h,h<m/\W (i+1) h (ys++[y]) (upd q D (.lst (ys++[y]))) else ∃h,h<m/\W (i+1) h ys p):=by
 intro D l;refine⟨λi m ys a=>m=x.cps.size-i/\i<=x.cps.size/\ys=(x.cps.toList.take i).map f/\Ac H1 a/\a D=some (.lst ys),⟨x.cps.size,rfl,B8 _,rfl,(Ac.refl _).upd l,Aa⟩,?_⟩;rintro i m ys a ⟨rfl,A,rfl,n,o⟩;by_cases t:i<x.cps.size;refine .inr ⟨t,λy d v=>?_⟩;obtain⟨rfl,c,r,rfl⟩:=v;have w:x.cps.toList[i]?=some c:=(by simpa using r);refine u i c d D _ r n l λj s=>?_;refine⟨s _ _ o,by rw[Al,DM];lia,x.cps.size-(i+1),by lia,rfl,t,?_,(n.trans s).upd l,Aa⟩;rw[FK,w,By];rfl;have e:i=x.cps.size:=(by lia);rw[e,List.take_of_length_le (by simp)] at o;exact .inl ⟨e,hd a D n l o⟩
def S9{c d:Nat}:(decide (([c]:M') < [d]))=decide (c<d):=by
 by_cases h:c<d;rw[Ca h,Ca];exact List.Lex.rel h;rw[BM h,BM];intro q;cases q with|rel q=>exact h q|cons q=>cases q
def KE (ns:C') (k:Int):Int:=(ns[k.toNat]?).getD 0
def OF{u:TS}{D:Ends}(h:u D (σ.set i (some v)) H):FO (HK (tC v) (Dl i)) u D σ H:=h
def Jm{k:Int}(a:0<=k)(h1:k<n):FR n k=some k.toNat:=by unfold FR;rw[AC a,AC h1]
def OG(xs:R')(n:Nat):Cn xs none (some (n:Int))=xs.take n:=by unfold Cn;rw[HT.sIx_none,HT.sIx_nat,List.drop_zero,Nat.sub_zero];by_cases h:n<=xs.length;rw[Nat.min_eq_left h];rw[Nat.min_eq_right (by lia),List.take_of_length_le (AB _),List.take_of_length_le (by lia)]
def Ta(xs:R')(n:Nat):Cn xs (some (n:Int)) none=xs.drop n:=by
 unfold Cn;rw[HT.sIx_none,HT.sIx_nat];by_cases h:n<=xs.length;rw[Nat.min_eq_left h,List.take_of_length_le (by rw[IX];exact AB _)];rw[Nat.min_eq_right (by lia),List.drop_of_length_le (AB _),List.drop_of_length_le (by lia)];simp
def Vg(xs:R')(a b:Nat)(e:a<=b):Cn xs (some (a:Int)) (some (b:Int))=(xs.drop a).take (b-a):=by
 unfold Cn;rw[HT.sIx_nat,HT.sIx_nat];by_cases c:a<=xs.length;rw[Nat.min_eq_left c];by_cases d:b<=xs.length;rw[Nat.min_eq_left d];rw[Nat.min_eq_right (show xs.length<=b by lia),List.take_of_length_le (by rw[IX];exact AB _),List.take_of_length_le (by rw[IX];lia)];rw[Nat.min_eq_right (show xs.length<=a by lia),List.drop_of_length_le (AB _),List.drop_of_length_le (show xs.length<=a by lia)];simp
def A3{p:Addr}{o:HO}(h:H p=none):Ac H (upd H p o):=(Ac.refl H).upd h
open PySem.SeqAt
inductive Dt where
 |non|bl (b:Bool)|int (i:Int)|str (x:Str)|tup (l:List Dt)|lst (l:List Dt)
mutual
inductive Aw (K:Ah) (H:Hp):V->Dt->Prop where
 | non:Aw K H .non .non
 | bl (b:Bool):Aw K H (.bl b) (.bl b)
 | int (i:Int):Aw K H (.int i) (.int i)
 | str (x:Str):Aw K H (.str x) (.str x)
 | tup {a:Addr} {vs:R'} {ds:List Dt} (h:Am K H a vs) (t:Au K H vs ds):Aw K H (.ref a) (.tup ds)
 | lst {a:Addr} {vs:R'} {ds:List Dt} (h:Ad K H a vs) (t:Au K H vs ds):Aw K H (.ref a) (.lst ds)
inductive Au (K:Ah) (H:Hp):R'->List Dt->Prop where
 | nil:Au K H [] []
 | cons {v:V} {d:Dt} {vs:R'} {ds:List Dt} (h:Aw K H v d) (t:Au K H vs ds):Au K H (v :: vs) (d :: ds)
end
theorem Au.length{K:Ah}{H:Hp}:∀{vs:R'}{ds:List Dt},Au K H vs ds->vs.length=ds.length
 |_,_,.nil=>rfl
 |_,_,.cons _ t=>DK (·+1) t.length
theorem Au.get{K:Ah}{H:Hp}:∀{vs:R'}{ds:List Dt}{i:Nat}{v:V},Au K H vs ds->vs[i]?=some v->∃d,ds[i]?=some d/\Aw K H v d
 |_,_,_,_,.nil,e=>by simp at e
 |_,_,0,_,.cons h _,e=>by simp at e;subst e;exact⟨_,rfl,h⟩
 |_,_,i+1,v,.cons _ t,e=>by obtain⟨d,h1,a⟩:=Au.get (i:=i) (v:=v) t (by simpa using e);exact⟨d,by simpa using h1,a⟩
theorem Au.get'{K:Ah}{H:Hp}:∀{vs:R'}{ds:List Dt}{i:Nat}{d:Dt},Au K H vs ds->ds[i]?=some d->∃v,vs[i]?=some v/\Aw K H v d
 |_,_,_,_,.nil,e=>by simp at e
 |_,_,0,_,.cons h _,e=>by simp at e;subst e;exact⟨_,rfl,h⟩
 |_,_,i+1,v,.cons _ t,e=>by obtain⟨d,h1,a⟩:=Au.get' (i:=i) (d:=v) t (by simpa using e);exact⟨d,by simpa using h1,a⟩
theorem Au.strs{K:Ah}{H:Hp}:∀(xs:F'),Au K H (xs.map V.str) (xs.map Dt.str)
 |[]=>.nil
 |x::xs=>.cons (.str x) (Au.strs xs)
section
variable {X:Cx} {pins:A'} {σ:St} {H:Hp} {s:Shared}
def Inv.not_both(I:Inv X pins σ H s){ys:R'}(h:Ad X.K H a xs)(h':Am X.K H a ys):False:=by obtain⟨_,_,⟨o,n,e,c,_⟩,_⟩:=I.list h;obtain⟨_,_,⟨f,b,d,_⟩,_⟩:=I.tuple h';rw[e] at b;cases b;rw[c] at d;exact absurd d (by decide)
mutual
theorem Aw.inj (I:Inv X pins σ H s) {v:V} {d e:Dt} (h:Aw X.K H v d) (h':Aw X.K H v e):d=e:=by
 cases h with
 | non=>cases h';rfl
 | bl _=>cases h';rfl
 | int _=>cases h';rfl
 | str _=>cases h';rfl
 | tup h t=>cases h' with
   | tup h' a=>have e:=I.tuple_inj h h';subst e;rw[Au.inj I t a]
   | lst h' _=>exact(I.not_both h' h).elim
 | lst h t=>cases h' with
   | lst h' a=>have e:=I.list_inj h h';subst e;rw[Au.inj I t a]
   | tup h' _=>exact(I.not_both h h').elim
theorem Au.inj (I:Inv X pins σ H s) {vs:R'} {ds a:List Dt} (h:Au X.K H vs ds) (h':Au X.K H vs a):ds=a:=by
 cases h with
 | nil=>cases h';rfl
 | cons h t=>cases h' with
   | cons h' b=>rw[Aw.inj I h h',Au.inj I t b]
end
end
def Dt.kd:Dt->Nat
 |.non=>0|.bl _=>1|.int _=>2|.str _=>3|.tup _=>4|.lst _=>5
def Gc (a b:Nat):Bool:=a != b && !(a==1 && b==2) && !(a==2 && b==1)
mutual
inductive DR:Nat->Dt->Dt->Prop where
 | non {n:Nat}:DR n .non .non
 | bl {n:Nat} (a b:Bool):DR n (.bl a) (.bl b)
 | int {n:Nat} (a b:Int):DR n (.int a) (.int b)
 | str {n:Nat} (a b:Str):DR n (.str a) (.str b)
 | tup {n:Nat} {ds es:List Dt} (t:Bp n ds es):DR (n+1) (.tup ds) (.tup es)
 | lst {n:Nat} {ds es:List Dt} (t:Bp n ds es):DR (n+1) (.lst ds) (.lst es)
 | apart {n:Nat} {d e:Dt} (h:Gc d.kd e.kd=true):DR (n+1) d e
inductive Bp:Nat->List Dt->List Dt->Prop where
 | nil {n:Nat} (es:List Dt):Bp n [] es
 | nil' {n:Nat} (ds:List Dt):Bp n ds []
 | cons {n:Nat} {d e:Dt} {ds es:List Dt} (h:DR n d e) (t:Bp n ds es):Bp n (d :: ds) (e :: es)
end
theorem Bp.of{n:Nat}:∀{ds a:List Dt},(∀d∈ds,∀e∈a,DR n d e)->Bp n ds a
 |[],a,_=>.nil a
 |d::ds,[],_=>.nil' _
 |d::ds,e::a,h=>.cons (h d (by simp) e (by simp)) (Bp.of λx b y c=>h x (by simp[b]) y (by simp[c]))
open Classical in
noncomputable def dec (p:Prop):Bool:=decide p
variable {p:Prop}
def ED(h:p):dec p=true:=@Ca p (Classical.propDecidable p) h
def Fk(h:¬p):dec p=false:=@BM p (Classical.propDecidable p) h
def Fw:dec p=true↔p:=⟨λh=>@FL p (Classical.propDecidable p) h,ED⟩
def Nm{q:Prop}(h:p↔q):dec p=dec q:=by rw[propext h]
def QE{α:Type} [BEq α] [LawfulBEq α]{a b:α}(h:p↔a=b):(a==b)=dec p:=by by_cases e:a=b;subst e;rw[ED (h.mpr rfl)];exact beq_self_eq_true _;rw[Fk λq=>e (h.mp q)];exact beq_false_of_ne e
variable {ds es:List Dt}
def Vh(b:ds.length=es.length)(h:∀i,i<ds.length->ds[i]?=es[i]?):ds=es:=v5 λi=>by by_cases a:i<ds.length;exact h i a;rw[Gg (by lia),Gg (by lia)]
section
variable {X:Cx} {pins:A'} {σ:St} {H:Hp} {s:Shared}
def GK(A:Around):A.in1.units=A.units+1:=rfl
def Tb(I:Inv X pins σ H s){vs us:R'}{a b:D'}(c:Aq vs a)(f:Aq us b)(z:Au X.K H vs ds)(n:Au X.K H us es)
 (o:∀(i:Nat)(d e:Dt)(v u:V)(x y:Value),ds[i]?=some d->es[i]?=some e->RelV v x->RelV u y->Aw X.K H v d->Aw X.K H u e->EqAt A s x y (dec (d=e))) :
 ∀j(h1:j<a.toArray.size)(g:j<b.toArray.size),EqAt A s a.toArray[j] b.toArray[j] (dec (ds[j]?=es[j]?)):=by
 intro j h1 g;have D:=c.length;have E:=f.length;have B:j<a.length:=(by simpa using h1);have C:j<b.length:=(by simpa using g);obtain⟨x,h,r⟩:=c.get (i:=j) (x:=vs[j]'(by lia)) (AQ (by lia));obtain⟨y,l,t⟩:=f.get (i:=j) (x:=us[j]'(by lia)) (AQ (by lia));obtain⟨d,hd,k⟩:=z.get (i:=j) (v:=vs[j]'(by lia)) (AQ (by lia));obtain⟨e,m,te⟩:=n.get (i:=j) (v:=us[j]'(by lia)) (AQ (by lia));have ex:a.toArray[j]=x:=(by rw[AQ B] at h;simpa using h);have w:b.toArray[j]=y:=(by rw[AQ C] at l;simpa using l);rw[ex,w,hd,m];have:=o j d e _ _ x y hd m r t k te;rw[Nm (p:=some d=some e) (q:=d=e) (by simp)];exact this
def Tc(a:n=ds.length)(b:ds.length=es.length):(List.range n).all (λj=>dec (ds[j]?=es[j]?))=dec (ds=es):=by subst a;by_cases h:ds=es;subst h;rw[ED rfl,List.all_eq_true];exact λi _=>ED rfl;rw[Fk h,Bool.eq_false_iff];intro q;rw[List.all_eq_true] at q;exact h (Vh b λi c=>Fw.mp (q i (List.mem_range.mpr c)))
variable {d e:Dt}{u:V}{y:Value}
def Vi(I:Inv X pins σ H s){x:Value}(h:Gc d.kd e.kd=true)(k:Aw X.K H v d)(te:Aw X.K H u e)(j:RelV v x)(f:RelV u y)(c:A.units<cLine):EqAt A s x y false/\RcAt A s x y false/\RcNeAt A s x y true:=by
 cases k with
 |non=>
  cases j;cases te with|non=>exact absurd h (by simp[Gc,Dt.kd])|bl b=>cases f;exact⟨EqAt.none_bool _,RcAt.none_bool _,RcNeAt.none_bool _⟩|int b=>obtain⟨i,rfl⟩:=f;exact⟨EqAt.none_int _ _,RcAt.none_int _ _,RcNeAt.none_int _ _⟩|str b=>obtain⟨i,rfl⟩:=f;exact⟨EqAt.none_str _ _,RcAt.none_str _ _,RcNeAt.none_str _ _⟩|tup g i=>cases f;obtain⟨_,_,J,_⟩:=I.tuple g;exact⟨EqAt.none_tuple J c,RcAt.none_tuple J c,RcNeAt.none_tuple J c⟩|lst g i=>cases f;obtain⟨_,_,J,_⟩:=I.list g;have J:=J.isList;exact⟨EqAt.none_list J c,RcAt.none_list J c,RcNeAt.none_list J c⟩
 |bl a=>
  cases j;cases te with|non=>cases f;exact⟨EqAt.bool_none _,RcAt.bool_none _,RcNeAt.bool_none _⟩|bl b=>exact absurd h (by simp[Gc,Dt.kd])|int b=>exact absurd h (by simp[Gc,Dt.kd])|str b=>obtain⟨i,rfl⟩:=f;exact⟨EqAt.bool_str _ _ _,RcAt.bool_str _ _ _,RcNeAt.bool_str _ _ _⟩|tup g i=>cases f;obtain⟨_,_,J,_⟩:=I.tuple g;exact⟨EqAt.bool_tuple _ J c,RcAt.bool_tuple _ J c,RcNeAt.bool_tuple _ J c⟩|lst g i=>cases f;obtain⟨_,_,J,_⟩:=I.list g;have J:=J.isList;exact⟨EqAt.bool_list _ J c,RcAt.bool_list _ J c,RcNeAt.bool_list _ J c⟩
 |int a=>
  obtain⟨t,rfl⟩:=j;cases te with|non=>cases f;exact⟨EqAt.int_none _ _,RcAt.int_none _ _,RcNeAt.int_none _ _⟩|bl b=>exact absurd h (by simp[Gc,Dt.kd])|int b=>exact absurd h (by simp[Gc,Dt.kd])|str b=>obtain⟨i,rfl⟩:=f;exact⟨EqAt.int_str _ _ _ _,RcAt.int_str _ _ _ _,RcNeAt.int_str _ _ _ _⟩|tup g i=>cases f;obtain⟨_,_,J,_⟩:=I.tuple g;exact⟨EqAt.int_tuple _ _ J c,RcAt.int_tuple _ _ J c,RcNeAt.int_tuple _ _ J c⟩|lst g i=>cases f;obtain⟨_,_,J,_⟩:=I.list g;have J:=J.isList;exact⟨EqAt.int_list _ _ J c,RcAt.int_list _ _ J c,RcNeAt.int_list _ _ J c⟩
 |str a=>
  obtain⟨t,rfl⟩:=j;cases te with|non=>cases f;exact⟨EqAt.str_none _ _,RcAt.str_none _ _,RcNeAt.str_none _ _⟩|bl b=>cases f;exact⟨EqAt.str_bool _ _ _,RcAt.str_bool _ _ _,RcNeAt.str_bool _ _ _⟩|int b=>obtain⟨i,rfl⟩:=f;exact⟨EqAt.str_int _ _ _ _,RcAt.str_int _ _ _ _,RcNeAt.str_int _ _ _ _⟩|str b=>exact absurd h (by simp[Gc,Dt.kd])|tup g i=>cases f;obtain⟨_,_,J,_⟩:=I.tuple g;exact⟨EqAt.str_tuple _ _ J c,RcAt.str_tuple _ _ J c,RcNeAt.str_tuple _ _ J c⟩|lst g i=>cases f;obtain⟨_,_,J,_⟩:=I.list g;have J:=J.isList;exact⟨EqAt.str_list _ _ J c,RcAt.str_list _ _ J c,RcNeAt.str_list _ _ J c⟩
 |tup h1 l=>
  cases j;obtain⟨_,_,p,_⟩:=I.tuple h1;cases te with|non=>cases f;exact⟨EqAt.tuple_none p c,RcAt.tuple_none p c,RcNeAt.tuple_none p c⟩|bl b=>cases f;exact⟨EqAt.tuple_bool _ p c,RcAt.tuple_bool _ p c,RcNeAt.tuple_bool _ p c⟩|int b=>obtain⟨i,rfl⟩:=f;exact⟨EqAt.tuple_int _ _ p c,RcAt.tuple_int _ _ p c,RcNeAt.tuple_int _ _ p c⟩|str b=>obtain⟨i,rfl⟩:=f;exact⟨EqAt.tuple_str _ _ p c,RcAt.tuple_str _ _ p c,RcNeAt.tuple_str _ _ p c⟩|tup g i=>exact absurd h (by simp[Gc,Dt.kd])|lst g i=>cases f;obtain⟨_,_,J,_⟩:=I.list g;have J:=J.isList;exact⟨EqAt.tuple_list p J c,RcAt.tuple_list p J c,RcNeAt.tuple_list p J c⟩
 |lst h1 l=>
  cases j;obtain⟨_,_,p,_⟩:=I.list h1;have p:=p.isList;cases te with|non=>cases f;exact⟨EqAt.list_none p c,RcAt.list_none p c,RcNeAt.list_none p c⟩|bl b=>cases f;exact⟨EqAt.list_bool _ p c,RcAt.list_bool _ p c,RcNeAt.list_bool _ p c⟩|int b=>obtain⟨i,rfl⟩:=f;exact⟨EqAt.list_int _ _ p c,RcAt.list_int _ _ p c,RcNeAt.list_int _ _ p c⟩|str b=>obtain⟨i,rfl⟩:=f;exact⟨EqAt.list_str _ _ p c,RcAt.list_str _ _ p c,RcNeAt.list_str _ _ p c⟩|tup g i=>cases f;obtain⟨_,_,J,_⟩:=I.tuple g;exact⟨EqAt.list_tuple p J c,RcAt.list_tuple p J c,RcNeAt.list_tuple p J c⟩|lst g i=>exact absurd h (by simp[Gc,Dt.kd])
def Td(I:Inv X pins σ H s){x:Value}(k:Aw X.K H v d)(te:Aw X.K H u e)(b:RelV v x)(i:RelV u y)(h:RcAt A s x y (dec (d=e))):EqAt A s x y (dec (d=e)):=by
 by_cases g:x=y;subst g;have j:=b.inj i;subst j;rw[ED (Aw.inj I k te)];exact EqAt.same _;intro f w E Q c;unfold eqBool;refine EL ?_;refine wpAny_ite_split (λl=>absurd (eq_of_beq l) g) (λ_=>?_);cases k with|non=>cases b;exact Ag (h f w E _ (Ey c))|bl a=>cases b;exact Ag (h f w E _ (Ey c))|int a=>obtain⟨t,rfl⟩:=b;exact Ag (h f w E _ (Ey c))|str a=>obtain⟨t,rfl⟩:=b;exact Ag (h f w E _ (Ey c))|tup _ _=>cases b;exact Ag (h f w E _ (Ey c))|lst _ _=>cases b;exact Ag (h f w E _ (Ey c))
def Nn(h:Gc d.kd e.kd=true):¬d=e:=λz=>by subst z;simp[Gc] at h
set_option tactic.hygienic true in
mutual
theorem OH (I:Inv X pins σ H s) {n:Nat} {d e:Dt} {v u:V} {x y:Value} {A:Around} (c:DR n d e) (k:Aw X.K H v d) (te:Aw X.K H u e) (g:RelV v x) (i:RelV u y) (O:A.units+n<cLine):RcAt A s x y (dec (d=e))/\RcNeAt A s x y (!dec (d=e)):=by
 cases c with
 | non=>cases k;cases te;cases g;cases i;rw[ED rfl];exact⟨RcAt.none_none,RcNeAt.none_none⟩
 | bl a b=>cases k;cases te;cases g;cases i;rw[<-QE (a:=a) (b:=b) (by simp)];exact⟨RcAt.bool_bool a b,RcNeAt.bool_bool a b⟩
 | int a b=>cases k;cases te;obtain⟨t,rfl⟩:=g;obtain⟨f,rfl⟩:=i;rw[<-QE (a:=a) (b:=b) (by simp)];exact⟨RcAt.int_int a t b f,RcNeAt.int_int a t b f⟩
 | str a b=>cases k;cases te;obtain⟨t,rfl⟩:=g;obtain⟨f,rfl⟩:=i;rw[<-QE (a:=a) (b:=b) (by simp)];exact⟨RcAt.str_str a t b f,RcNeAt.str_str a t b f⟩
 | @tup n ds es c=>
  cases k;cases te;rename_i a F h t b G D f;cases g;cases i;obtain⟨m,r,p,_⟩:=I.tuple h;obtain⟨o,w,l,_⟩:=I.tuple D;have J:=r.length;have K:=w.length;have L:=t.length;have M:=f.length;have B:=Tb (A:=A.in1) I r w t f (KG I c (by rw[GK];lia))
  have e:dec (Dt.tup ds=Dt.tup es)=((List.range (min m.toArray.size o.toArray.size)).all (fun j=>dec (ds[j]?=es[j]?)) && m.toArray.size == o.toArray.size):=by
   rw[Nm (p:=Dt.tup ds=Dt.tup es) (q:=ds=es) (by simp)];simp only[BX];by_cases C:ds.length=es.length;rw[show(m.length == o.length)=true from beq_iff_eq.mpr (by lia),Bool.and_true,Tc (by lia) C];rw[show(m.length == o.length)=false from beq_false_of_ne (by lia),Bool.and_false,Fk fun z=>C (by rw[z])]
  rw[e];exact⟨RcAt.tuples (A:=A) p l (by lia) B,RcNeAt.tuples (A:=A) p l (by lia) B⟩
 | @lst n ds es c=>
  cases k;cases te;rename_i a F h t b G D f;cases g;cases i;obtain⟨m,r,p,_⟩:=I.list h;obtain⟨o,w,l,_⟩:=I.list D;have J:=r.length;have K:=w.length;have L:=t.length;have M:=f.length;by_cases C:ds.length=es.length;have B:=Tb (A:=A.in1) I r w t f (KG I c (by rw[GK];lia));rw[Nm (p:=Dt.lst ds=Dt.lst es) (q:=ds=es) (by simp),<-Tc (n:=m.toArray.size) (by simp only[BX];lia) C];exact⟨RcAt.lists (A:=A) p.isList l.isList (by simp only[BX];lia) (by lia) B,RcNeAt.lists (A:=A) p.isList l.isList (by simp only[BX];lia) (by lia) B⟩;rw[Fk (show ¬Dt.lst ds=Dt.lst es from fun z=>C (by cases z;rfl))];have E:(m.toArray.size != o.toArray.size)=true:=by simp only[BX];rw[bne_iff_ne];lia
  exact⟨RcAt.lists_lengths p.isList l.isList E (by lia),RcNeAt.lists_lengths p.isList l.isList E (by lia)⟩
 | apart h=>obtain⟨_,h1,N⟩:=Vi (A:=A) I h k te g i (by lia);rw[Fk (Nn h)];exact⟨h1,N⟩
theorem KG (I:Inv X pins σ H s) {n:Nat} {ds es:List Dt} {A:Around} (c:Bp n ds es) (f:A.units+n<cLine)
 (i:Nat) (d e:Dt) (v u:V) (x y:Value) (h:ds[i]?=some d) (h':es[i]?=some e) (a:RelV v x) (b:RelV u y) (k:Aw X.K H v d) (te:Aw X.K H u e):EqAt A s x y (dec (d=e)):=by
 cases c with
 | nil=>simp at h
 | nil'=>simp at h'
 | cons c t=>cases i with
   | zero=>simp at h h';subst h;subst h';have g:=OH (A:=A) I c k te a b f;exact Td I k te a b g.1
   | succ i=>exact KG I t f i d e v u x y (by simpa using h) (by simpa using h') a b k te
end
def Tf(I:Inv X pins σ H s){x:Value}(c:DR n d e)(k:Aw X.K H v d)(te:Aw X.K H u e)(a:RelV v x)(b:RelV u y)(f:A.units+n<cLine):EqAt A s x y (dec (d=e)):=
 Td I k te a b (OH I c k te a b f).1
end
section
variable {X:Cx}
def No (K:Ah):R2:=λx y H Q=>∃n d e,DR n d e/\n<=60/\Aw K H x d/\Aw K H y e/\Q (.bl (dec (d=e))) H
def QF (K:Ah):R2:=λx y H Q=>∃n d e,DR n d e/\n<=60/\Aw K H x d/\Aw K H y e/\Q (.bl (!dec (d=e))) H
def KH(f:X.A.units+64<cLine):CC X (compareOp .Eq) (No X.K):=by intro pins s σ H x y v u Q I a b h;obtain⟨n,d,e,c,g,k,te,q⟩:=h;exact(OH (A:=X.A) I c k te a b (by lia)).1 _ _ _ _ ⟨.bl _,H,I,rfl,q⟩
def QG(f:X.A.units+64<cLine):CC X (compareOp .NotEq) (QF X.K):=by intro pins s σ H x y v u Q I a b h;obtain⟨n,d,e,c,g,k,te,q⟩:=h;exact(OH (A:=X.A) I c k te a b (by lia)).2 _ _ _ _ ⟨.bl _,H,I,rfl,q⟩
def Ig (K:Ah):R2:=λx y H Q=>∃n d ds a vs,(∀e∈ds,DR n e d)/\n<=60/\Aw K H x d/\y=.ref a/\Ad K H a vs/\Au K H vs ds/\Q (.bl (!dec (d∈ds))) H
def Tg(I:Inv X pins σ H s){d:Dt}{vs:R'}{b:D'}{x:Value}(r:Aq vs b)(t:Au X.K H vs ds)(C:∀e∈ds,DR n e d)(k:Aw X.K H v d)(D:RelV v x)(E:A.units+n<cLine) :
 (∀y,y∈b.toArray->EqAt A s y x (dec (∃u,RelV u y/\Aw X.K H u d)))/\b.toArray.any (λy=>dec (∃u,RelV u y/\Aw X.K H u d))=dec (d∈ds):=by
 have L:=r.length;have lt:=t.length
 have one:∀y,y∈b->∃e∈ds,∃u,RelV u y/\Aw X.K H u e:=λy a=>by
  obtain⟨i,g,e⟩:=MN.mp a;obtain⟨M,B,j⟩:=r.get (i:=i) (x:=vs[i]'(by lia)) (AQ (by lia));obtain⟨F,c,te⟩:=t.get (i:=i) (v:=vs[i]'(by lia)) (AQ (by lia));rw[AQ g,e] at B;cases B;exact⟨F,CB c,_,j,te⟩
 refine⟨λy a=>?_,?_⟩;obtain⟨e,c,u,f,te⟩:=one y (by simpa using a);have:=Tf (A:=A) I (C e c) te k f D E
 rw[Nm (p:=∃u,RelV u y/\Aw X.K H u d) (q:=e=d) ⟨λ⟨G,m,o⟩=>by
  have l:=f.inj m;subst l;exact Aw.inj I te o,λz=>⟨u,f,by rw[<-z];exact te⟩⟩]
 exact this;by_cases h:d∈ds;rw[ED h,Array.any_eq_true];obtain⟨i,g,e⟩:=MN.mp h;obtain⟨u,K,te⟩:=t.get' (i:=i) (d:=d) (by rw[AQ g,e]);obtain⟨y,a,j⟩:=r.get K;have w:i<b.length:=(AS.mp a).1;refine⟨i,by simpa using w,?_⟩;have:b.toArray[i]'(by simpa using w)=y:=(by rw[AQ w] at a;simpa using a);rw[this];exact ED ⟨u,j,te⟩;rw[Fk h,Bool.eq_false_iff];intro q;obtain⟨i,g,q⟩:=Array.any_eq_true.mp q;obtain⟨u,f,te⟩:=Fw.mp q;obtain⟨e,c,G,m,o⟩:=one (b.toArray[i]) (by simp);have l:=f.inj m;subst l;have J:=Aw.inj I te o;subst J;exact h c
def Vj(i:X.A.units+64<cLine):CC X (compareOp .NotIn) (Ig X.K):=by intro pins s σ H x y v u Q I b c h;obtain⟨n,d,ds,a,j,e,l,k,rfl,f,t,q⟩:=h;cases c;obtain⟨m,r,p,_⟩:=I.list f;obtain⟨h1,g⟩:=Tg (A:=X.A.in1) I r t e k b (by rw[GK];lia);exact notIn_listAt _ p.isList h1 (by rw[g];exact⟨.bl _,H,I,rfl,q⟩)
end
end L2
namespace Ord
variable {α:Type} [DecidableEq α]
end Ord
namespace War
end War
namespace Ord
variable {α:Type} [DecidableEq α]
end Ord
namespace L2
open PySem PySem.Spec PyProof.Rows
section
variable {X:Cx}
def Np:V->R'->Hp->VK->Prop:=λx vs H Q=>∃a kvs k d,x=.ref a/\vs=[kV k,d]/\H a=some (.dK kvs)/\kvs.length<sizeLine/\(∀v,AE kvs k=some v->Q v H)/\(AE kvs k=none->Q d (upd H a (.dK (AI kvs k d))))
def Vk:FZ X "dict.setdefault" Np:=by
 intro M s σ H x J v K Q I o p h;obtain⟨a,c,k,d,rfl,rfl,hd,L,t,w⟩:=h;cases o;obtain⟨u,r,rfl,A,i⟩:=Gv p;obtain⟨z,j,l,g,m⟩:=Nd I.hok hd;have f:l.length<=sizeLine:=by rw[<-g.length];exact z
 have b:=g.val k
 refine call_meetsIn PySem.F.slot_dict_setdefault m.typeIs PySem.F.entry_dict_setdefault (PySem.F.args_dict_setdefault_3 _ _ _) (kt_meets_setdefault (Dp X.prog X.w) a (HY A) j r)
  ⟨l,m,f,λy B=>?_,λC D n E=>?_⟩
 rw[B] at b
 cases e:AE c k with
 |none=>rw[e] at b;exact False.elim b
 |some v0=>rw[e] at b;exact⟨v0,H,I.tok _,b,t v0 e⟩
 rw[C] at b
 cases e:AE c k with
 |some v0=>rw[e] at b;exact False.elim b
 |none=>
  have f:(AI c k d).length<=sizeLine:=by have:=Ks c k d;lia
  have F:∃q,D.get? a=some q:=let ⟨q,_,_,G,_⟩:=n;⟨q,G⟩;exact⟨d,_,Kv I (by rw[hd];exact True.intro) E F (Oy f j (g.put k i) n),i,w e⟩
def Nq:V->R'->Hp->VK->Prop:=λx vs H Q=>∃a y z o,x=.ref a/\vs=[y,z]/\B2 H a y o/\Q (o.getD z) H
def KI(b:X.A.units+1<cLine):FZ X "dict.get" Nq:=by intro n s σ H x k v l Q I c d h;obtain⟨a,y,z,o,rfl,rfl,g,q⟩:=h;cases c;obtain⟨u,r,rfl,e,f⟩:=Gv d;exact GH b I g e f λm Z i j=>⟨_,H,i,j,q⟩
def Ti (neg:Bool):R2:=λx y H Q=>∃a o,y=.ref a/\B2 H a x o/\Q (.bl (o.isSome != neg)) H
def Vl(b:X.A.units+1<cLine):CC X (compareOp .In) (Ti false):=by intro f s σ H x y v u Q I c d h;obtain⟨a,o,rfl,g,q⟩:=h;cases d;refine Qm b I g c λZ e=>⟨.bl _,H,e,?_,q⟩;cases o<;>rfl
def Tj(b:X.A.units+1<cLine):CC X (compareOp .NotIn) (Ti true):=by intro f s σ H x y v u Q I c d h;obtain⟨a,o,rfl,g,q⟩:=h;cases d;refine HZ b I g c λZ e=>⟨.bl _,H,e,?_,q⟩;cases o<;>rfl
def Vm:V->V->V->Hp->(Hp->Prop)->Prop:=λo i v H Q=>∃a H',o=.ref a/\GG H a i v H'/\Q H'
def Vn(b:X.A.units+1<cLine):HI X Vm:=by intro m s σ H o i v k l u Q I c d e h;obtain⟨a,f,rfl,g,q⟩:=h;cases c;exact U3 b I g d e λZ j=>⟨f,j,q⟩
def OI{a:Expr}{F:TE}(d:PE X a F)(e:∀whole,isTrue a X.env whole=(do let v <-whole;standAt a.pos;holding [v] (truthy v)):=by intro _;rfl) :
 PT X a (λσ H Q=>F σ H λx b=>∃p xs,x=.ref p/\Ad X.K b p xs/\Q (!xs.isEmpty) b):=by
 intro c s σ H Q I f;refine isTrue_plain (AJ (d c s σ H _ I f) λv g⟨x,b,h,i,j⟩=>?_) (e _);obtain⟨p,xs,rfl,k,q⟩:=j;exact Kh c g σ b _ v Q h i ⟨_,r4 ⟨xs,k,rfl⟩,q⟩
end
open Ord
def GL{a:F'}{i:Nat}{x:V}(h:(a.map V.str)[i]?=some x):∃z,a[i]?=some z/\x=V.str z:=by rw[AV] at h;obtain⟨b,c,d⟩:=CD.mp h;exact⟨b,c,d.symm⟩
def KJ:([]:R').length+1<=sizeLine:=by decide
def DS:([]:R').length+1+1<=sizeLine:=by decide
theorem Au.of_get{K:Ah}{H:Hp}:∀{vs:R'}{ds:List Dt},vs.length=ds.length->(∀(n:Nat)v d,vs[n]?=some v->ds[n]?=some d->Aw K H v d)->Au K H vs ds
 |[],[],_,_=>.nil
 |v::vs,d::ds,a,h=>.cons (h 0 v d rfl rfl) (Au.of_get (by simpa using a) λn x y b c=>h (n+1) x y (by simpa using b) (by simpa using c))
def BL (f:Nat->Str) (i:Nat):F':=((List.range i).map f).foldl step_dedup []
def Nr(f:Nat->Str)(i:Nat):BL f (i+1)=step_dedup (BL f i) (f i):=by unfold BL;rw[List.range_succ,By,List.foldl_append];rfl
def QH(l:F')(x:Str):(step_dedup l x).length=if l.any (·==x) then l.length else l.length+1:=by unfold step_dedup;split<;>simp
def GN(l:F')(x y:Str):(step_dedup l x).any (·==y)=(l.any (·==y) || decide (y=x)):=by
 unfold step_dedup;by_cases h:l.any (·==x)=true;rw[AC h];by_cases e:y=x;subst e;rw[h];rfl;rw[BM e,Bool.or_false];rw[AA h,List.any_append];congr 1;by_cases e:y=x;subst e;simp;rw[BM e];simp;exact λz=>e z.symm
theorem QI(f:Nat->Str):∀i,(BL f i).length<=i
 |0=>AB _
 |i+1=>by have:=QI f i;rw[Nr,QH];split<;>lia
theorem QJ(f:Nat->Str):∀(i:Nat)(y:Str),(BL f i).any (·==y)=true↔∃j,j<i/\f j=y
 |0,y=>by constructor;intro h;cases h;rintro⟨j,h,_⟩;lia
 |i+1,y=>by rw[Nr,GN,Bool.or_eq_true,QJ f i y,decide_eq_true_iff];constructor;rintro(⟨j,h,e⟩|e);exact⟨j,by lia,e⟩;exact⟨i,by lia,e.symm⟩;rintro⟨j,h,e⟩;by_cases a:j=i;subst a;exact .inr e.symm;exact .inl ⟨j,by lia,e⟩
set_option tactic.hygienic true in
theorem Tk(f:Nat->Str):∀i,(BL f i).length=i↔∀a b,a<b->b<i->f a≠f b
 |0=>⟨λ_ a b _ h=>by lia,λ_=>rfl⟩
 |i+1=>by have k:=Tk f i;have o:=QI f i;rw[Nr,QH];constructor;intro h a b c l e;split at h;lia;rename_i d;have g:(BL f i).length=i:=(by lia);by_cases n:b=i;subst n;exact d ((QJ f b _).mpr ⟨a,c,e⟩);exact k.mp g a b c (by lia) e;intro h;have g:(BL f i).length=i:=k.mpr λa b c l=>h a b c (by lia);rw[AA,g];intro d;obtain⟨j,m,e⟩:=(QJ f i _).mp d;exact h j i m (by lia) e
section
variable {prog:Program} {w:World} {A:Around} {R:Result->Shared->Prop} {It:Addr} {fp g:E'} {G:Array GenState->Array GenState->Prop} {n:Nat} {Pn:Nat->Value->Prop} {Sn:Nat->Shared->Prop}
theorem Vo(c:WalksS prog w A.in1 It fp g G n Pn Sn)(D:Addr)(B:D∉fp)(f:Nat->Str)(I:∀i v,Pn i v->∃t,v=.str (f i) t)(W:n+1<scanBound) :
 ∀(k i:Nat)(s:Shared),n-i=k->i<=n->Sn i s->s.heap.SetOf (strKind prog w) D (λy=>(BL f i).any (·==y)) (BL f i).length ->
  (∀Z,Moved (D::g) G s Z->Z.heap.SetOf (strKind prog w) D (λy=>(BL f n).any (·==y)) (BL f n).length->R (.ok (.ret .none)) Z) ->
  codeAny (model prog w) A (.builtin "set.update.loop" ⟨[.ref D,.ref It],[]⟩) R s:=by
 have E:D∉g:=λz=>B (c.sub _ z);have sub:∀b∈g,b∈D::g:=λb z=>DL _ z;intro k
 induction k with
 |zero=>
  intro i s J K h l u;obtain rfl:i=n:=by lia
  refine codeAny_builtin F.entry_set_update_loop ?_;rw[v' F.plain_set_update_loop _];show wpAny _ A.in1 (pyNext (.ref It) >>= _) _ _ s;refine Ag (c.done s _ _ h λa d=>?_);show wpAny _ A.in1 (ret Value.none) _ _ a;refine AH (u a (d.mono sub) ?_);obtain⟨m,p,q,j,e,x⟩:=l;exact⟨m,p,q,j,d.heap D _ E e,x⟩
 |succ k L=>
  intro i s J K h l u;have lt:i<n:=(by lia);refine codeAny_builtin F.entry_set_update_loop ?_;rw[v' F.plain_set_update_loop _];show wpAny _ A.in1 (pyNext (.ref It) >>= _) _ _ s;refine Ag (c.item i s _ _ lt h λv a pv O d=>?_);obtain⟨t,rfl⟩:=I i v pv;have P:a.heap.SetOf (strKind prog w) D (λy=>(BL f i).any (·==y)) (BL f i).length:=(by obtain⟨m,p,q,j,e,x⟩:=l;exact⟨m,p,q,j,d.heap D _ E e,x⟩);show wpAny _ A.in1 (holding [Value.str (f i) t] (setAdd D (.str (f i) t)) >>= _) _ _ a;refine Ag (EL ?_);unfold setAdd;refine EL ?_;have H:(strKind prog w).is (f i) (.str (f i) t)=true:=strKind_is _ _ _ _;refine Ag ((strKind prog w).pyHash (k:=f i) H ?_);have V:(BL f i).length+1<scanBound:=by have:=QI f i;lia
  refine wpAny_setAddHashed_of (knd:=strKind prog w) (s:={a with toks:=a.toks+1}) H rfl P V λM C Q=>?_
  have S:M.SetOf (strKind prog w) D (λy=>(BL f (i+1)).any (·==y)) (BL f (i+1)).length:=
   SetOf_congr Q (λy=>by rw[Nr,GN]) (by rw[Nr,QH])
  refine AH ⟨plainId_quiet F.plain_set_update_loop _,L (i+1) _ (by lia) lt (c.frame _ a _ _ O (Nat.le_succ _) λb r o e=>?_) S λN T U=>?_⟩;rw[C.2 b λz:b=D=>B (by rw[<-z];exact r)];exact e;refine u N (Moved.trans c.gtrans ((d.mono sub).then_heap (Nat.le_succ _) λb o r e=>?_) T) U;rw[C.2 b λz:b=D=>r (by rw[z];exact Ea)];exact e
end
abbrev Hn (b:Bool):Obj:={cls:=.type "set",dict:=none,data:=.set #[] 0 (.fresh 0 0 b)}
section
variable {prog:Program} {w:World} {A:Around} {E:B'} {s:Shared}
set_option maxRecDepth 100000 in
set_option maxHeartbeats 3200000 in
theorem Vp {l:Addr} {a:K'} {f:Nat->Str} {Q:B'} (K:A.handled=none) (L:s.heap.IsList l a) (M:∀ (i:Nat) (v:Value),a[i]? = some v -> ∃ t,v=.str (f i) t) (g:a.size + 1 < scanBound)
 (h:∀(h':Heap)(O:Nat),h'.SetOf (strKind prog w) s.heap.objs.size (λy=>(BL f a.size).any (·==y)) (BL f a.size).length ->
  (∀b o,b<s.heap.objs.size->s.heap.get? b=some o->h'.get? b=some o)->Q (.ref s.heap.objs.size) {s with heap:=h',toks:=O}) :
 wpAny (model prog w) A (call (.type "set") [.ref l]) Q E s:=by
 obtain⟨c,tl,aq⟩:=F.called_set.mro;have aw:=F.called_set.made;have ar:=F.called_set.sub;refine wpAny_call (codeAny_of_tree ?_);show wpAny _ _ (callAny (.type "set") _) _ _ _;refine AH ⟨Code.quiet_builtin _ (by decide +kernel),codeAny_builtin F.entry_type_call ?_⟩;rw[Around.under_plain (weight_type_call_type "set" [.ref l] []) rfl];have h1:=F.called_set.notType;have h2:=F.called_set.canCreate;have aj:=F.typeCall_set_1 (.ref l)
 repeat (any_goals (first|assumption|wp_step))
 refine codeAny_mono (code_set_new_1 (.ref l) (E:=E) (Q₁:=λp q=>∃b:Bool,p=.ref s.heap.objs.size/\q={s with heap:=s.heap.push (Hn b)}) λb=>⟨b,rfl,rfl⟩) λr q k=>?_
 cases r with
 |error e=>exact k
 | ok N=>
  cases N with
  | ret p=>
   obtain⟨d,rfl,rfl⟩:=k;have u:(s.heap.push (Hn d)).get? s.heap.objs.size=some (Hn d):=Cf _ rfl;have P:Shared.TypeIs {s with heap:=s.heap.push (Hn d)} (.ref s.heap.objs.size) "set" :=⟨_,u,rfl⟩;have ak:=F.called_set.init.lookup;have al:=F.called_set.init.bind (.ref s.heap.objs.size)
   repeat (any_goals (first|assumption|wp_step))
   refine codeAny_mono (codeAny_call_builtin (R:=wants (λr x=>r=.none/\∃h' O,x={s with heap:=h',toks:=O}/\h'.SetOf (strKind prog w) s.heap.objs.size (λy=>(BL f a.size).any (·==y)) (BL f a.size).length /\
    (∀b o,b<s.heap.objs.size->s.heap.get? b=some o->h'.get? b=some o)) E) F.called_set.init.plain F.entry_set_init (check_set_init_1 P ?_)) λS x m=>?_
   . obtain⟨⟨oc,T,an,X⟩,D,G,B,H⟩:=L
     simp only at G H;subst G;subst H;have ai:(s.heap.push (Hn d)).get? l=some {cls:=.type "list",dict:=T,data:=.seq a B,slots:=X}:=Bb _ D;have au:=F.sub_list_set;have av:=F.sub_list_frozenset;have ao:(Value.type "list" == Value.type "dict")=false:=(by decide);have I:(s.heap.push (Hn d)).IsList l a:=⟨_,ai,rfl,B,rfl⟩;unfold Builtin.«set.__init__» noKeywords Builtin.Frozenset.updateFrom;generalize Y:pyIter=PI
     wp_walk
     subst Y;refine wpAny_pyIter_list I (Ag (wpAny_runValue ?_));have J:l<s.heap.objs.size:=AY D;have Z:A.in1.in1.in1.handled=none:=(by simp[K]);have aa:l≠(s.heap.push (Hn d)).objs.size:=(by rw[u4];exact CF (Nat.lt_succ_of_lt J));have ab:s.heap.objs.size∉[(s.heap.push (Hn d)).objs.size,l]:=(by rw[u4];intro z;rcases Cj.mp z with z|z;exact absurd z (CF (Ol _));exact absurd (D7.mp z) (Nat.ne_of_gt J));refine Vo ((Walks.list Z _ l aa a).toS) s.heap.objs.size ab f M g (a.size-0) 0 _ (by lia) (B8 _) ⟨⟨_,Cf _ rfl,rfl,rfl⟩,(I.push _)⟩ ?hS0 ?hR
     case hS0 =>
      have U:((s.heap.push (Hn d)).push {cls:=.type "list_iterator",data:=.fields #[.ref l,.int 0 0]}).get? s.heap.objs.size=some (Hn d):=Bb _ u;exact SetOf_congr ((setObjOf_fresh (knd:=strKind prog w) d).setOf U (by unfold scanBound;lia)) (λ_=>rfl) rfl
     case hR =>
      rintro⟨h',V,W,ae,af⟩ j n;obtain rfl:V=s.gens:=j.gens;obtain rfl:W=s.drawn:=j.drawn;obtain rfl:af=s.os:=j.os;show wpAny _ _ _ _ _ _;refine AH ?_;show wpAny _ _ (ret Value.none) _ _ _;refine AH ⟨rfl,h',ae,rfl,n,λb o g e=>?_⟩;refine j.heap b o (λz=>?_) (Bb _ (Bb _ e));rcases Cj.mp z with z|z;exact absurd z (CF g);have C:=D7.mp z;rw[u4] at C;exact absurd C (CF (Nat.lt_succ_of_lt g))
   . cases S with
     |error e=>exact m
     |ok ag=>
      cases ag with
      |ret r=>
       obtain⟨rfl,h',O,rfl,n,ah⟩:=m
       repeat (any_goals (first|assumption|wp_step))
       exact h _ _ n ah
      |_=>exact m.elim
  |_=>exact k.elim
end
def KL (P:Program) (w:World) (a:Addr) (n:Nat):HO:=.ext λh=>∃S,h.SetOf (strKind P w) a S n
section
variable {X:Cx}
def Nt (P:Program) (w:World) (K:Ah):R'->Hp->VK->Prop:=λvs H Q=>∃(p:Addr)(xs:F'),vs=[.ref p]/\Ad K H p (xs.map V.str)/\xs.length<=1000/\∀q n,(n=xs.length↔xs.Nodup)->H q=none->Q (.ref q) (upd H q (KL P w q n))
def Ih{xs:F'}{a:D'}(r:Aq (xs.map V.str) a):∀(i:Nat)(v:Value),a.toArray[i]?=some v->∃t,v=.str (xs.getD i default) t:=by
 intro i v e;have d:a[i]?=some v:=(by simpa using e);have f:=r.length;rw[Al] at f;have b:i<xs.length:=(by have:=(AS.mp d).1;lia);obtain⟨u,c,g⟩:=r.get (i:=i) (x:=.str xs[i]) (by rw[AV,AQ b];rfl);rw[d] at c;cases c;rw[BZ,AQ b];exact g
def Vq{xs:F'}:(∀a b,a<b->b<xs.length->xs.getD a default≠xs.getD b default)↔xs.Nodup:=by
 unfold List.Nodup;rw[List.pairwise_iff_getElem];constructor;intro h i j e c f;have:=h i j f c
 rwa [BZ,BZ,AQ e,AQ c] at this
 intro h a b g d;have:=h a b (by lia) d g;rw[BZ,BZ,AQ (by lia),AQ d];exact this
def Vr(m:X.calm=true):A8 X (.type "set") (Nt X.prog X.w X.K):=by
 intro L s σ H E F Q I r h;obtain⟨p,a,rfl,n,G,q⟩:=h;obtain⟨u,rfl,v⟩:=El r;obtain rfl:u=Value.ref p:=v;obtain⟨j,c,w,_⟩:=I.list n;have d:=c.length;rw[Al] at d;have l:j.toArray.size=a.length:=(by rw[BX,d]);refine Vp (f:=λi=>a.getD i default) (I.ok.hd m) w.isList (Ih c) (by rw[l];unfold scanBound;lia) λx O g k=>?_;have y:(BL (λi=>a.getD i default) j.toArray.size).length=a.length↔a.Nodup:=(by rw[l,Tk,Vq]);have z:∀b u,s.heap.get? b=some u->x.get? b=some u:=λb u e=>k b u (AY e) e;refine⟨.ref s.heap.objs.size,upd H s.heap.objs.size (KL X.prog X.w s.heap.objs.size _),I.laid (t':=O) z (AB _) ?_,rfl,q _ _ y I.fresh⟩;refine⟨⟨_,g⟩,?_,λJ K⟨S,o,A,B,t,e,D⟩C=>⟨S,o,A,B,t,C o e,D⟩⟩;obtain⟨o,_,_,_,e,_⟩:=g;exact⟨o,e⟩
def Vs:A8 X (.builtin "len") (λvs H Q=>∃q n,vs=[.ref q]/\H q=some (KL X.prog X.w q n)/\n<=1000/\Q (.int n) H):=by intro m s σ H vs i Q I r h;obtain⟨a,n,rfl,e,j,q⟩:=h;obtain⟨u,rfl,b⟩:=El r;obtain rfl:u=Value.ref a:=b;obtain⟨⟨S,o,k,l,t,c,f,hd,_,_,_,d,g⟩,_,_⟩:=I.hok a _ e;subst g;exact PySem.call_len_set c f hd d (by lia) ⟨.int _,H,I.tok _,⟨_,rfl⟩,q⟩
end
variable {σ:L2.St}{H:Hp}
def Ap{i:Nat}{v:V}{N:L2.St->Hp->Prop}(h:N (σ.set i (some v)) H):Dl i v σ H N:=h
section
variable {X:Cx}
def Em:FZ X "list.append" SH:=SI
def QK:FZ X "list.extend" SJ:=UZ
def Vt:FZ X "list.clear" GA:=U0
end
abbrev QL:R2:=HL λi j=>.int (i+j)
variable {a:Addr}
def KN{K:Ah}{xs:R'}{k:Nat}{s:M'}{g:TG}{te:TE}{σ:St}{f:Hp}{Q:Addr->Hp->Prop}(Pv:Addr->Nat->R'->Hp->Prop)
 (t:∀D,f D=none->Pv D 0 [] (upd f D (.lst []))) (u:∀D i ys c,Pv D i ys c->Ad K c a xs)
 (w:∀D i x ys c(R:VK),f D=none->xs[i]?=some x->Pv D i ys c->(∀y d,d D=some (.lst ys)->ys.length<sizeLine->Pv D (i+1) (ys++[y]) (upd d D (.lst (ys++[y])))->R y d)->g x (CI k s σ) c λσ4 l=>te σ4 l R)
 (hd:∀D ys c,f D=none->Pv D xs.length ys c->Q D c) :
 ∀D,f D=none->∃W:Nat->Nat->R'->Hp->Prop,(∃m,W 0 m [] (upd f D (.lst [])))/\∀i m ys c,W i m ys c ->
  ((E7 K a).stop i c/\Q D c)\/((E7 K a).go i c/\∀x j,(E7 K a).yld i c x j->g x (CI k s σ) j λσ4 l=>Ee σ4 l λb q =>
   if b=true then te σ4 q λy d=>d D=some (.lst ys)/\ys.length<sizeLine/\∃h,h<m/\W (i+1) h (ys++[y]) (upd d D (.lst (ys++[y]))) else ∃h,h<m/\W (i+1) h ys q):=by
 intro D n;refine⟨λi m ys c=>m=xs.length-i/\i<=xs.length/\Pv D i ys c,⟨xs.length,rfl,B8 _,t D n⟩,?_⟩;rintro i m ys c ⟨rfl,E,p⟩;have o:=u D i ys c p;by_cases r:i<xs.length;refine .inr ⟨⟨xs,xs[i],o,by simp[r]⟩,λx j y=>?_⟩;obtain⟨rfl,y⟩:=y;have z:=y xs o;refine w D i x ys j _ n z p λv d A B C=>?_;exact⟨A,B,xs.length-(i+1),by lia,rfl,r,C⟩;have e:i=xs.length:=(by lia);subst e;exact .inl ⟨⟨xs,o,AB _⟩,hd D ys c n p⟩
def Az.ex{P:Program}{w:World}{h:Heap}{o:HO}(x:Az P w H h a o):∃u,h.get? a=some u:=by
 cases o with|lst b=>obtain⟨_,_,_,_,e⟩:=x;exact⟨_,e⟩|tup b=>obtain⟨_,_,_,u,e,_⟩:=x;exact⟨u,e⟩|dK c=>obtain⟨_,_,_,_,u,_,_,e,_⟩:=x;exact⟨u,e⟩|dT c=>obtain⟨_,_,_,_,u,_,_,e,_⟩:=x;exact⟨u,e⟩|set S n=>obtain⟨u,_,_,_,e,_⟩:=x;exact⟨u,e⟩|ins C d fs=>obtain⟨_,_,_,e,_⟩:=x;exact⟨_,e⟩|own y=>exact x|xd fs=>obtain⟨_,⟨u,_,_,e,_⟩,_⟩:=x;exact⟨u,e⟩|rng lo g=>obtain⟨_,_,_,e⟩:=x;exact⟨_,e⟩|frz i u=>obtain⟨e,_⟩:=x;exact⟨_,e⟩|tbl j=>exact⟨_,(show h.get? a=some _ from x)⟩|met f y=>exact⟨_,(show h.get? a=some _ from x)⟩|ext φ=>exact x.2.1
def Inv.freshN{X:Cx}{pins:A'}{s:Shared}(I:Inv X pins σ H s)(d:∀b u,s.heap.get? b=some u->b≠a):H a=none:=by
 cases e:H a with|none=>rfl|some o=>obtain⟨u,c⟩:=(I.hok a o e).ex;exact absurd rfl (d a u c)
def Inv.laidN{X:Cx}{pins:A'}{s:Shared}{h':Heap}{o:HO}{t':Nat}(I:Inv X pins σ H s)(k:∀b u,s.heap.get? b=some u->h'.get? b=some u)(h:∀b u,s.heap.get? b=some u->b≠a)(i:Az X.prog X.w (upd H a o) h' a o) :
 Inv X pins σ (upd H a o) {s with heap:=h',toks:=t'}:=by
 have d:=I.freshN h;refine I.un ⟨λb u q _ _ _=>k b u q,λb u q _ _ _=>⟨u.slots,k b u q⟩,λb u q n _=>by rw[Ax (h b u q)];exact n,λb u q _=>⟨u,k b u q⟩,λb f q=>by rw[Ax (AN q d)];exact q,λb u f q=>by rw[Ax (AN q d)];exact q,λb j q=>⟨#[],by rw[Ax (AN q d),q];simp⟩⟩ λb u e=>?_;by_cases g:b=a;subst g;rw[Aa] at e;cases e;exact i;rw[Ax g] at e;exact(I.hok b u e).stay (λc v _ q=>k c v q) (λc q=>by rw[Ax (AN q d)];exact q) λc f q=>by rw[Ax (AN q d)];exact q
theorem Tl:∀{vs:D'}{ss:F'},StrsAre vs ss->Aq (ss.map V.str) vs
 |_,_,.nil=>.nil
 |_,_,.cons _ _ h=>.cons ⟨_,rfl⟩ (Tl h)
def Ii{ss:F'}:∀{vs:D'},vs.length=ss.length->(∀(i:Nat)(v:Value),vs[i]?=some v->∃t,v=.str (ss.getD i default) t)->StrsAre vs ss:=by
 induction ss with
 |nil=>intro vs a _;cases vs with
   |nil=>exact .nil
   |cons _ _=>simp at a
 |cons x r b=>
  intro vs a h;cases vs with|nil=>simp at a|cons v vs=>obtain⟨t,e⟩:=h 0 v rfl;have c:v=.str x t:=e;subst c;exact .cons _ _ (b (by simpa using a) λi u d=>h (i+1) u (by simpa using d))
section
variable {prog:Program} {w:World} {A:Around} {E:B'} {s:Shared}
def Vu{d:Addr}{kvs:List (AL×Value)}{ss:F'}{Q:B'}(B:A.handled=none)(C:s.heap.DictOf (Dp prog w) d kvs)(lo:(d==sysModules)=false)
 (q:kvs.map (·.1)=ss.map Sum.inr) (U:ss.length<64)
 (h:∀(D:Addr)(h':Heap)(O n:Nat)(out:D')(a:F'),(∀b o,s.heap.get? b=some o->h'.get? b=some o)->(∀b o,s.heap.get? b=some o->b≠D)->h'.get? D=some {cls:=.type "list",data:=.seq out.toArray n}->Aq (a.map V.str) out->a.Perm ss->sortedS a=true->Q (.ref D) {s with heap:=h',toks:=O}) :
 wpAny (model prog w) A (call (.builtin "sorted") [.ref d]) Q E s:=by
 have W:kvs.length=ss.length:=by have:=DK List.length q;simpa using this
 have F:kvs.length<=sizeLine:=Dk (Bz (by lia));obtain⟨ep,X⟩:=C.dictAt;refine Calls.call_function_entry kind_sorted plain_sorted entry_sorted (args_sorted1 _) ?_;unfold Builtin.«sorted»;refine Ag (m:=checkCount "sorted" 1 1 _) (AH ?_);refine Ag (PySem.W.kdu_collect (A:=A.in1) (PySem.W.kdl_dict (knd:=Dp prog w) (kvs:=kvs) (ep:=ep) lo) B X F λf O c g z=>?_);have j:c.toList.length=ss.length:=(by rw[Array.length_toList,z.1,W])
 have l:StrsAre c.toList ss:=Ii j λi v G=>by
  obtain⟨k,x,H,I⟩:=z.2 i v (by rw[<-Array.getElem?_toList];exact G);have r:(kvs.map (·.1))[i]?=some k:=by rw[AV,H];rfl
  rw[q,AV] at r;obtain⟨aa,J,K⟩:=CD.mp r;have y:JT k v=true:=I;rw[<-K] at y;obtain⟨t,L⟩:=Value.isStrOf_shape y;exact⟨t,by rw[L,BZ,J];rfl⟩
 refine Ag (wpAny_newList ?_ (by rw[j];exact Dk (Bz (by lia))));have p:(f.push {cls:=.type "list",data:=.seq c.toList.toArray}).get? f.objs.size=some (seqObj "list" c.toList.toArray 0):=Cf _ rfl;refine Ag (EL (wpAny_call_entry slot_list_sort ⟨_,p,rfl⟩ entry_list_sort (list_sort_treeK strKind_oneLt p l.keysOf (λv₁ v₂ ab e=>keyKind_strs (by rw[<-e];exact l)) (by rw[j];exact U) λY M N=>⟨_,rfl,?_⟩) (args_list_sort _)));obtain⟨a,P,R,S⟩:=sorted_out_str l M N;obtain⟨n,T⟩:=sortedHeap_at (vs:=c.toList) (out:=(arrOf Y).map (·.2)) p;have Z:∀b o,s.heap.get? b=some o->b≠f.objs.size:=λb o e=>CF (AY (g b o e));refine AH ⟨_,rfl,h f.objs.size _ O n _ a (λb o e=>?_) Z (by rw[Array.toArray_toList];exact T) (Tl P) R S⟩;have u:=AY (g b o e);rw[sortedHeap_old (CF u) (by rw[u4];exact Nat.lt_succ_of_lt u)];exact Bb _ (g b o e)
end
section
variable {X:Cx}
def KO:R'->Hp->VK->Prop:=λvs H Q=>∃(d:Addr)(kvs:List (AL×V))(ss:F'),vs=[.ref d]/\H d=some (.dK kvs)/\kvs.map (·.1)=ss.map Sum.inr/\ss.length<64/\∀D ss',ss'.Perm ss->sortedS ss'=true->H D=none->Q (.ref D) (upd H D (.lst (ss'.map V.str)))
def To(e:X.calm=true):A8 X (.builtin "sorted") KO:=by
 intro E s σ H x y Q I r h;obtain⟨d,C,ss,rfl,hd,f,p,q⟩:=h;obtain⟨u,rfl,g⟩:=El r;obtain rfl:u=Value.ref d:=g;obtain⟨z,i,A,t,j⟩:=Nd I.hok hd;refine Vu (I.ok.hd e) j i (ss:=ss) (by rw[<-t.keys];exact f) p λD B O n v a k b l m c o=>?_;have w:(a.map V.str).length<=sizeLine:=by rw[Al,c.length_eq];exact Dk (Bz (by lia))
 exact⟨.ref D,upd H D (.lst (a.map V.str)),I.laidN (t':=O) k b ⟨w,v,n,m,l⟩,rfl,q D a c o (I.freshN b)⟩
end
end L2
namespace HT
open PySem PyProof.Rows
section
open PySem.SeqAt
open PySem.AutoSeq1 (wpAny_loadPart')
open PySem.MeetsSeq PySem.MeetsSeq2 PySem.MeetsSeq3
end
section
variable {prog:Program} {w:World} {A:Around} {E:B'} {s:Shared}
end
end HT
namespace L2
open PySem PySem.Spec PyProof.Rows
section
variable {X:Cx}
def Vv{ss:F'}:∀{us:D'},Aq (ss.map V.str) us->StrsAre us ss:=by
 induction ss with
 |nil=>intro us h;cases h;exact .nil
 |cons x r c=>
  intro us h;cases h with|cons a b=>obtain⟨t,rfl⟩:=a;exact .cons _ _ (c b)
end
end L2
namespace L2
end L2
namespace KasM
open PySem PySem.W PyProof.Rows
set_option autoImplicit false
def Tw {α:Type} (lt:Nat->Nat->Bool) (n:Nat):KasT α->(α->Prop)->Prop
 |.ret a,Q=>Q a
 |.ask i j k,Q=>i<n/\j<n/\Tw lt n (k (lt i j)) Q
theorem MC{α β:Type}{lt:Nat->Nat->Bool}{n:Nat}{f:α->KasT β}{Q:β->Prop}:∀(t:KasT α),Tw lt n t (λa=>Tw lt n (f a) Q)->Tw lt n (t.bind f) Q
 |.ret _,h=>h
 |.ask _ _ k,⟨b,c,d⟩=>⟨b,c,MC (k _) d⟩
theorem Tw_mono{α:Type}{lt:Nat->Nat->Bool}{n:Nat}{Q b:α->Prop}(c:∀a,Q a->b a):∀(t:KasT α),Tw lt n t Q->Tw lt n t b
 |.ret a,h=>c a h
 |.ask _ _ k,⟨d,e,f⟩=>⟨d,e,Tw_mono c (k _) f⟩
theorem Tw_wp{α:Type}{lt:Nat->Nat->Bool}{n:Nat}{c:Nat->Nat->(Bool->Shared->Prop)->Shared->Prop}{s:Shared}{Q:α->Shared->Prop}(b:∀i j C,i<n->j<n->C (lt i j) s->c i j C s) :
 ∀(t:KasT α),Tw lt n t (λa=>Q a s)->t.kasWp c Q s
 |.ret _,h=>h
 |.ask _ _ k,⟨d,e,f⟩=>b _ _ _ d e (Tw_wp b (k _) f)
section
variable {O:KeyOrd} {key:Nat->O.α} {n:Nat}
def K (key:Nat->O.α) (p:O') (i:Nat):O.α:=key (p.getD i 0)
def Asc (key:Nat->O.α) (p:O') (k:Nat):Prop:=∀i,i+1<k->O.kle (K key p i) (K key p (i+1))
def Nu (key:Nat->O.α) (p:O') (k:Nat):Prop:=∀i,i+1<k->O.kle (K key p (i+1)) (K key p i)
def Pm (n:Nat) (p:O'):Prop:=p.Perm (List.range n).toArray
def Pm.size{p:O'}(h:Pm n p):p.size=n:=by have:=h.size_eq;simpa using this
variable {p:O'}
def Pm.lt(h:Pm n p)(b:0<n)(i:Nat):p.getD i 0<n:=by by_cases a:i<p.size;have e:p.getD i 0=p[i]:=(by simp[Array.getD,a]);rw[e];have:p[i]∈p:=Array.getElem_mem a;have c:=h.mem_iff.mp this;simpa using c;have e:p.getD i 0=0:=(by simp[Array.getD,a]);rw[e];exact b
variable {i j:Nat}
def Vw(a:j<=p.size)(k:Nat):(kas_rev p i j).getD k 0=if i<=k/\k<j then p.getD (i+j-1-k) 0 else p.getD k 0:=by unfold kas_rev;simp only[u0];rw[getElem?_mirror_all a];split<;>rfl
def Vx{k l:Nat}(a:k<p.size)(b:l<=k)(t:Nat):(bubble p k (k-l)).getD t 0=if t=l then p.getD k 0 else if l<t/\t<=k then p.getD (t-1) 0 else p.getD t 0:=by simp only[u0];rw[getElem?_bubble a _ (by lia)];rw[show k-(k-l)=l by lia];split;rfl;split<;>rfl
def Pm.rev(h:Pm n p)(i j:Nat):Pm n (kas_rev p i j):=(mirror_perm _ _ _ _).trans h
def Pm.bub(h:Pm n p)(i j:Nat):Pm n (bubble p i j):=(bubble_perm _ _ _).trans h
def Tp(a:j<=p.size)(k:Nat):K key (kas_rev p i j) k=if i<=k/\k<j then K key p (i+j-1-k) else K key p k:=by unfold K;rw[Vw a];split<;>rfl
def QM(b:j<=p.size)(a:∀k,i<=k->k<j->K key p k=K key p (j-1))(k:Nat):K key (kas_rev p i j) k=K key p k:=by rw[Tp b];split;rw[a _ (by lia) (by lia),a k (by lia) (by lia)];rfl
def Vy{k l:Nat}(a:k<p.size)(b:l<=k)(t:Nat):K key (bubble p k (k-l)) t=if t=l then K key p k else if l<t/\t<=k then K key p (t-1) else K key p t:=by unfold K;rw[Vx a b];split;rfl;split<;>rfl
theorem Asc.le{p:O'}{k:Nat}(h:Asc key p k){i:Nat}:∀(d:Nat),i+d<k->O.kle (K key p i) (K key p (i+d))
 |0,_=>KeyOrd.kle_refl _
 |d+1,hd=>KeyOrd.kle_trans (h.le d (by lia)) (h (i+d) (by lia))
def Asc.le'{k:Nat}(h:Asc key p k)(b:i<=j)(a:j<k):O.kle (K key p i) (K key p j):=by
 have:=h.le (i:=i) (j-i) (by lia)
 rwa [show i+(j-i)=j by lia] at this
abbrev lt (O:KeyOrd) (key:Nat->O.α) (i j:Nat):Bool:=O.blt (key i) (key j)
theorem QN{p:O'}(b:Pm n p)(c:0<n):∀(f a:Nat),1<=a->Tw (lt O key) n (kas_asc p f a) λm=>a<=m/\m<=a+f/\(∀i,a-1<=i->i+1<m->O.kle (K key p i) (K key p (i+1)))/\(m<a+f->O.klt (K key p m) (K key p (m-1)))
 |0,a,_=>⟨AB _,AB _,λi d g=>by lia,λh=>by lia⟩
 | f + 1,a,q=>by
   refine⟨b.lt c _,b.lt c _,?_⟩;cases j:lt O key (p.getD a 0) (p.getD (a-1) 0) with|true=>simp only[if_true];exact⟨AB _,by lia,λi d g=>by lia,λ_=>j⟩|false=>simp only[Gh,if_false];refine Tw_mono ?_ _ (QN b c f (a+1) (by lia));rintro m ⟨d,g,k,l⟩;refine⟨by lia,by lia,λi r o=>?_,λh=>l (by lia)⟩;by_cases e:i=a-1;subst e;rw[show a-1+1=a by lia];exact j;exact k i (by lia) o
theorem OJ(c:0<n):∀(f:Nat)(p:O')(a q:Nat),Pm n p->a+f<=n->Nu key p a->q+1<=a->(∀k,a-(q+1)<=k->k<a->K key p k=K key p (a-1)) ->
 Tw (lt O key) n (kas_desc f p a q) λr=>Pm n r.1/\a<=r.2.1/\r.2.1<=a+f/\Nu key r.1 r.2.1/\r.2.2+1<=r.2.1/\(∀k,r.2.1-(r.2.2+1)<=k->k<r.2.1->K key r.1 k=K key r.1 (r.2.1-1))
 |0,p,a,q,b,_,hd,o,d=>⟨b,AB _,AB _,hd,o,d⟩
 | f + 1,p,a,q,b,F,hd,o,d=>by
   have hz:=b.size;refine⟨b.lt c _,b.lt c _,?_⟩
   cases u:lt O key (p.getD a 0) (p.getD (a-1) 0) with
   |true=>
    have t:O.klt (K key p a) (K key p (a-1)):=u
    have A:Nu key p (a+1):=λi s=>by
     by_cases e:i+1=a;rw[e];have:i=a-1:=by lia
     rw[this];exact KeyOrd.kle_of_klt t;exact hd i (by lia)
    simp only[if_true];by_cases B:q > 0;rw[AC B];have v:=QM (key:=key) (p:=p) (i:=a-(q+1)) (j:=a) (by lia) d;refine Tw_mono ?_ _ (OJ c f _ (a+1) 0 (b.rev _ _) (by lia) (λi s=>by rw[v,v];exact A i s) (by lia) (λk w x=>by rw[show k=a+1-1 by lia]));rintro r ⟨g,y,z,h,l,m⟩;exact⟨g,by lia,by lia,h,l,m⟩;rw[AA B];refine Tw_mono ?_ _ (OJ c f _ (a+1) 0 b (by lia) A (by lia) (λk w x=>by rw[show k=a+1-1 by lia]));rintro r ⟨g,y,z,h,l,m⟩;exact⟨g,by lia,by lia,h,l,m⟩
   |false=>
    have t:O.kle (K key p (a-1)) (K key p a):=u;simp only[Gh,if_false];refine⟨b.lt c _,b.lt c _,?_⟩
    cases E:lt O key (p.getD (a-1) 0) (p.getD a 0) with
    |true=>simp only[if_true];exact⟨b,AB _,Nat.le_add_right _ _,hd,o,d⟩
    |false=>
     have C:O.kle (K key p a) (K key p (a-1)):=E;have D:K key p a=K key p (a-1):=KeyOrd.kle_antisymm C t;simp only[Gh,if_false];refine Tw_mono ?_ _ (OJ c f _ (a+1) (q+1) b (by lia) (λi s=>?_) (by lia) (λk w x=>?_));rintro r ⟨g,y,z,h,l,m⟩;exact⟨g,by lia,by lia,h,l,m⟩;by_cases e:i+1=a;rw[e];have:i=a-1:=by lia
     rw[this];exact C;exact hd i (by lia);rw[show a+1-1=a by lia];by_cases e:k=a;rw[e];rw[d k (by lia) (by lia),D]
abbrev QO (key:Nat->O.α) (n:Nat) (r:Nat×Array Nat):Prop:=Pm n r.2/\1<=r.1/\r.1<=n/\Asc key r.2 r.1
def Ts(d:0<n){a:Nat}(b:Pm n p)(f:1<=a)(l:a<=n)(hd:Nu key p a):Tw (lt O key) n (kas_tail3 a n p) (QO key n):=by
 unfold kas_tail3;have o:=b.size;have c:=Tp (key:=key) (p:=p) (i:=0) (j:=a) (by lia);refine MC _ (Tw_mono ?_ _ (QN (O:=O) (key:=key) (b.rev 0 a) d (n-a) a f));rintro m ⟨q,r,g,_⟩;refine⟨b.rev _ _,by show 1<=m;lia,by show m<=n;lia,λi h=>?_⟩;have k:i+1<m:=h;by_cases e:a-1<=i;exact g i e k;show O.kle (K key (kas_rev p 0 a) i) (K key (kas_rev p 0 a) (i+1));rw[c,c,AC (by lia),AC (by lia)];have:=hd (0+a-1-(i+1)) (by lia)
 rwa [show 0+a-1-(i+1)+1=0+a-1-i by lia] at this
def Tu(c:0<n){a:Nat}(g:Pm n p)(h:1<=a)(u:a+1<=n)(hd:Nu key p (a+1)):Tw (lt O key) n (kas_descPart a n p) (QO key n):=by
 unfold kas_descPart;refine MC _ (Tw_mono ?_ _ (OJ (O:=O) (key:=key) c (n-(a+1)) p (a+1) 0 g (by lia) hd (by lia) (λk h v=>by rw[show k=a+1-1 by lia])));rintro⟨l,m,q⟩ ⟨b,o,r,d,s,e⟩;dsimp only at b o r d s e ⊢;have w:=b.size;split;have f:=QM (key:=key) (p:=l) (i:=m-(q+1)) (j:=m) (by lia) e;exact Ts c (b.rev _ _) (by lia) (by lia) λi t=>by rw[f,f];exact d i t
 exact Ts c b (by lia) (by lia) d
def Vz(b:0<n)(a:Pm n p):Tw (lt O key) n (kas_count n p) (QO key n):=by
 unfold kas_count;have x:=a.size;refine MC _ (Tw_mono ?_ _ (QN (O:=O) (key:=key) a b (n-1) 1 (AB _)));rintro m ⟨c,y,s,t⟩;have d:Asc key p m:=λi f=>s i (by lia) f;by_cases g:(m==n)=true;rw[AC g];exact⟨a,c,by show m<=n;lia,d⟩;rw[AA g];have z:m<n:=(by have:m≠n:=λq=>g (by rw[q];exact beq_self_eq_true _);lia);have l:=t (by lia);by_cases o:m > 1;rw[AC o];refine⟨a.lt b _,a.lt b _,?_⟩
 cases u:lt O key (p.getD 0 0) (p.getD (m-1) 0) with
 |true=>simp only[if_true];exact⟨a,c,by show m<=n;lia,d⟩
 |false=>
  have w:O.kle (K key p (m-1)) (K key p 0):=u;simp only[Gh,if_false]
  have h:∀k,0<=k->k<m->K key p k=K key p (m-1):=λk _ v =>
   KeyOrd.kle_antisymm (d.le' (by lia) (by lia)) (KeyOrd.kle_trans w (d.le' (by lia) v))
  have r:=QM (key:=key) (p:=p) (i:=0) (j:=m) (by lia) h;refine Tu b (a.rev _ _) c (by lia) λi f=>?_;rw[r,r];by_cases e:i+1=m;rw[e,show i=m-1 by lia];exact KeyOrd.kle_of_klt l;rw[h i (by lia) (by lia),h (i+1) (by lia) (by lia)];exact KeyOrd.kle_refl _
 rw[AA o];refine Tu b a c (by lia) λi f=>?_;have:m=1:=(by lia);subst this;obtain rfl:i=0:=by lia
 exact KeyOrd.kle_of_klt l
theorem QP(c:0<n){p:O'}{k:Nat}(d:Pm n p)(g:Asc key p k):∀(f l r:Nat),r-l<=f->l<=r->r<=k->(∀i,i<l->O.kle (K key p i) (K key p k))->(∀i,r<=i->i<k->O.klt (K key p k) (K key p i)) ->
 Tw (lt O key) n (kas_place p k f l r) λm=>m<=k/\(∀i,i<m->O.kle (K key p i) (K key p k))/\(∀i,m<=i->i<k->O.klt (K key p k) (K key p i))
 |0,l,r,t,u,q,h,j=>⟨by lia,h,λi a b=>j i (by lia) b⟩
 | f + 1,l,r,t,u,q,h,j=>by
   unfold kas_place;by_cases e:l ≥ r;rw[AC e];exact⟨by lia,h,λi a b=>j i (by lia) b⟩;rw[AA e];refine⟨d.lt c _,d.lt c _,?_⟩;cases s:lt O key (p.getD k 0) (p.getD ((l+r)/2) 0) with|true=>have o:O.klt (K key p k) (K key p ((l+r)/2)):=s;simp only[if_true];exact QP c d g f l ((l+r)/2) (by lia) (by lia) (by lia) h λi a b=>KeyOrd.klt_of_klt_of_kle o (g.le' a b)|false=>have o:O.kle (K key p ((l+r)/2)) (K key p k):=s;simp only[Gh,if_false];exact QP c d g f ((l+r)/2+1) r (by lia) (by lia) q (λi a=>KeyOrd.kle_trans (g.le' (by lia) (by lia)) o) j
theorem GO (h0:0<n):∀ (f:Nat) (p:O') (k:Nat),Pm n p->k+f=n->Asc key p k->Tw (lt O key) n (kas_bin f p k) fun p'=>Pm n p'/\Asc key p' n
 | 0, p, k, hp, hk, ha => ⟨hp, by have : k = n := by lia
                                  rw[<-this];exact ha⟩
 |f+1,p,k,hp,hk,ha=>by
   have hz:=hp.size;unfold kas_bin;refine MC _ (Tw_mono ?_ _ (QP (O:=O) (key:=key) h0 hp ha k 0 k (by lia) (by lia) (AB _) (λi h=>by lia) λi a b=>by lia));rintro l ⟨b1,b2,b3⟩;have kk:=Vy (key:=key) (p:=p) (k:=k) (l:=l) (by lia) b1;refine GO h0 f _ (k+1) (hp.bub _ _) (by lia) λi hi=>?_;rw[kk,kk];by_cases e1:i=l;rw[AC e1,AA (by lia)];by_cases e2:i+1<=k;rw[AC (by lia)];exact KeyOrd.kle_of_klt (b3 (i+1-1) (by lia) (by lia));lia;rw[AA e1];by_cases e2:i+1=l;rw[AC e2,AA (by lia)];exact b2 i (by lia);rw[AA e2];by_cases e3:l<i;rw[AC (by lia),AC (by lia)];have:=ha (i-1) (by lia)
   rwa [show i-1+1=i+1-1 by lia] at this
   rw[AA (by lia),AA (by lia)];exact ha i (by lia)
def sort_ok(h0:0<n):Tw (lt O key) n (kas_sort n) λp=>Pm n p/\Asc key p n:=by
 unfold kas_sort;refine MC _ (Tw_mono ?_ _ (Vz (O:=O) (key:=key) h0 (Array.Perm.refl _)));rintro⟨m,p⟩ ⟨b1,b2,b3,b4⟩;dsimp only at b1 b2 b3 b4 ⊢;split;rw[show max m 1=m by lia];exact GO h0 _ _ _ b1 (by lia) b4
 exact ⟨b1, by have : m = n := by lia
               rw[<-this];exact b4⟩
end
end KasM
namespace L2
open PySem PySem.Spec PyProof.Rows
section
variable {prog:Program} {w:World} {A:Around} {E:B'} {s:Shared}
def VA{O:KeyOrd}{key:Nat->O.α}{κ:SortKind}{a:Addr}{vs:D'}{n:Nat}{P:PySem.Fin->Shared->Prop}(f:s.heap.get? a=some (seqObj "list" vs.toArray n))(M:vs.length<64)
 (U:2<=vs.length->∀(h':Heap),(∀b o,b≠a->s.heap.get? b=some o->h'.get? b=some o)->∀(Q:SortKind->Shared->Prop),Q κ {s with heap:=h'}->wpAny (model prog w) A (keyKind' vs.toArray) Q (λ_ _=>False) {s with heap:=h'})
 (R:∀(h':Heap),(∀b o,b≠a->s.heap.get? b=some o->h'.get? b=some o)->∀(i j:Nat)(C:Bool->Shared->Prop),i<vs.length->j<vs.length->C (O.blt (key i) (key j)) {s with heap:=h'}->PySem.W.kas_ask prog w A κ vs i j C {s with heap:=h'})
 (h:∀d:M',d.Perm (List.range vs.length)->(∀i,i+1<d.length->O.kle (key (d.getD i 0)) (key (d.getD (i+1) 0)))->P (.done (.ret .none)) {s with heap:=sortedHeap s.heap a vs (d.map λi=>vs.getD i Value.none).toArray}) :
 wpAny (model prog w) A (Builtin.«list.sort» ⟨[.ref a],[]⟩) P E s:=by
 rw[list_sort_plain];have v:a<s.heap.objs.size:=AY f;have W:vs.toArray.size=vs.length:=(by simp);refine Ag (listItems_at f rfl ?_);refine Ag (listUpdate_at f rfl ?_ (by rw[BX,sizeLine_eq];lia) (B8 _));obtain⟨r,z⟩:∃r,(s.heap.update a (Obj.mapSeq λ_=>#[])).get? a=some (seqObj "list" #[] r):=⟨_,get?_update_seq f (λ_=>#[])⟩;refine Ag (seqEpoch_at z rfl ?_);refine Ag (wpAny_newTuple ?_ (by show vs.length<=_;rw[sizeLine_eq];lia));refine Ag (wpAny_newList ?_ (B8 _));refine EL ?_;have l:(((s.heap.update a (Obj.mapSeq λ_=>#[])).push (seqObj "tuple" vs.toArray 0)).push (seqObj "list" #[] 0)).get? a=some (seqObj "list" #[] r):=(by rw[Heap.get?_push_ne _ _ _ (by rw[size_push',Heap.size_update];exact CF (Nat.lt_succ_of_lt v)),Heap.get?_push_ne _ _ _ (by rw[Heap.size_update];exact CF v)];exact z)
 have D:∀b o,b≠a->s.heap.get? b=some o->(((s.heap.update a (Obj.mapSeq λ_=>#[])).push (seqObj "tuple" vs.toArray 0)).push (seqObj "list" #[] 0)).get? b=some o:=λb o F q=>by
  refine Bb _ (Bb _ ?_);rw[Heap.get?_update_ne _ _ _ _ F];exact q
 show wpAny (model prog w) A _ P E {s with heap:=((s.heap.update a (Obj.mapSeq λ_=>#[])).push (seqObj "tuple" vs.toArray 0)).push (seqObj "list" #[] 0)};dsimp only;by_cases g:vs.toArray.size<2;rw[AC g,AC g];refine Ag (AH ?_);rw[StateT.run_pure];refine Ag (AH ?_);dsimp only;refine Ag (seqEpoch_at l rfl ?_);refine Ag (listUpdate_at l rfl ?_ (B8 _) (by rw[Array.size_map];show(pairsOf vs).size<=_;rw[pairsOf_size,sizeLine_eq];lia));simp only[bne_self_eq_false,Gh,if_false];have:=h (List.range vs.length) (List.Perm.refl _) (λi t=>by rw[r9] at t;lia);have e:((List.range vs.length).map λi=>vs.getD i Value.none).toArray=(arrOf (SortSt.mk' general' (vs.toArray.zip vs.toArray) #[] 7 none)).map (·.2):=(by apply Array.toList_inj.mp;show(List.range vs.length).map (λi=>vs.getD i Value.none)=((vs.toArray.zip vs.toArray).map (·.2)).toList;apply v5;intro k;by_cases y:k<vs.length;simp[y,BZ];simp[y]);rw[e] at this;exact AH this;rw[AA g,AA g];have B:2<=vs.length:=(by lia);refine Ag (E5 (U B _ D (λκ' Z=>κ'=κ/\Z=_) ⟨rfl,rfl⟩) ?_ λ_ _ x=>x.elim);rintro κ' Z ⟨rfl,rfl⟩
 refine Ag (E5 (PySem.W.kat_run (Q:=λm Z=>∃p:O',arrOf m=p.map (PySem.W.kas_item (vs.toArray.zip vs.toArray))/\failedOf m=none/\KasM.Pm vs.length p/\KasM.Asc key p vs.length/\Z={s with heap:=((s.heap.update a (Obj.mapSeq λ_=>#[])).push (seqObj "tuple" vs.toArray 0)).push (seqObj "list" #[] 0)})
  (G:=λp Z=>KasM.Pm vs.length p/\KasM.Asc key p vs.length/\Z={s with heap:=((s.heap.update a (Obj.mapSeq λ_=>#[])).push (seqObj "tuple" vs.toArray 0)).push (seqObj "list" #[] 0)})
  rfl B M (λH m Z V I J u=>⟨H,I,J,u.1,u.2.1,u.2.2⟩)
  (KasM.Tw_wp (lt:=KasM.lt O key) (n:=vs.length) (R _ D) _ (KasM.Tw_mono (λp c=>⟨c.1,c.2,rfl⟩) _ (KasM.sort_ok (O:=O) (key:=key) (by lia))))) ?_ λ_ _ e=>e)
 rintro⟨⟨⟩,m⟩ Z ⟨p,N,K,c,S,rfl⟩;dsimp only;have T:=PySem.W.kat_snds (ks:=vs) (vs:=vs) rfl N;rw[T];refine Ag (seqEpoch_at l rfl ?_);refine Ag (listUpdate_at l rfl ?_ (B8 _) (by rw[BX,Al,Array.length_toList,c.size,sizeLine_eq];lia));rw[K];simp only[bne_self_eq_false,Gh,if_false];refine AH (h p.toList (by have:=Array.perm_iff_toList_perm.mp c;simpa using this) λi t=>?_);have L:=c.size;have:=S i (by simpa [L] using t);simpa [KasM.K,u0,BZ] using this
def QQ{O:KeyOrd}{key:Nat->O.α}{κ:SortKind}{l:Addr}{vs:D'}{Q:B'}(p:s.heap.IsList l vs.toArray)(x:vs.length<64)
 (z:2<=vs.length->∀(h':Heap),(∀b o,s.heap.get? b=some o->h'.get? b=some o)->∀(Q:SortKind->Shared->Prop),Q κ {s with heap:=h'}->wpAny (model prog w) A.in1.in1 (keyKind' vs.toArray) Q (λ_ _=>False) {s with heap:=h'})
 (y:∀(h':Heap),(∀b o,s.heap.get? b=some o->h'.get? b=some o)->∀(i j:Nat)(C:Bool->Shared->Prop),i<vs.length->j<vs.length->C (O.blt (key i) (key j)) {s with heap:=h'}->PySem.W.kas_ask prog w A.in1.in1 κ vs i j C {s with heap:=h'})
 (h:∀(D:Addr)(h':Heap)(n:Nat)(a:M'),(∀b o,s.heap.get? b=some o->h'.get? b=some o)->(∀b o,s.heap.get? b=some o->b≠D)->a.Perm (List.range vs.length)->(∀i,i+1<a.length->O.kle (key (a.getD i 0)) (key (a.getD (i+1) 0))) ->
  h'.get? D=some (seqObj "list" (a.map λi=>vs.getD i Value.none).toArray n)->Q (.ref D) {s with heap:=h'}) :
 wpAny (model prog w) A (call (.builtin "sorted") [.ref l]) Q E s:=by
 refine Calls.call_function_entry kind_sorted plain_sorted entry_sorted (args_sorted1 _) ?_;unfold Builtin.«sorted»;refine Ag (m:=checkCount "sorted" 1 1 _) (AH ?_);refine Ag (collect_list p ?_ (by rw[sizeLine_eq];lia));refine Ag (wpAny_newList ?_ (by rw[sizeLine_eq];lia));have e:((s.heap.push (seqObj "list" #[] 0)).update s.heap.objs.size (Obj.mapSeq (·++vs.toArray))).objs.size=s.heap.objs.size+1:=(by rw[Heap.size_update,size_push']);have f:(((s.heap.push (seqObj "list" #[] 0)).update s.heap.objs.size (Obj.mapSeq (·++vs.toArray))).push (seqObj "list" vs.toArray 0)).get? (s.heap.objs.size+1)=some (seqObj "list" vs.toArray 0):=(by rw[<-e];exact Cf _ rfl)
 have c:∀b o,s.heap.get? b=some o->(((s.heap.push (seqObj "list" #[] 0)).update s.heap.objs.size (Obj.mapSeq (·++vs.toArray))).push (seqObj "list" vs.toArray 0)).get? b=some o:=λb o q=>by
  have g:b<s.heap.objs.size:=AY q;rw[Heap.get?_push_ne _ _ _ (by rw[e];exact CF (Nat.lt_succ_of_lt g)),Heap.get?_update_ne _ _ _ _ (CF g),Heap.get?_push_ne _ _ _ (CF g)];exact q
 have d:∀b o,s.heap.get? b=some o->b≠s.heap.objs.size+1:=λb o q=>CF (Nat.lt_succ_of_lt (AY q));show wpAny _ _ _ _ _ {s with heap:=((s.heap.push (seqObj "list" #[] 0)).update s.heap.objs.size (Obj.mapSeq (·++vs.toArray))).push (seqObj "list" vs.toArray 0)};rw[e];refine Ag (EL (wpAny_call_entry slot_list_sort ⟨_,f,rfl⟩ entry_list_sort ?body (args_list_sort _)))
 case body =>
  refine VA (s:={s with heap:=((s.heap.push (seqObj "list" #[] 0)).update s.heap.objs.size (Obj.mapSeq (·++vs.toArray))).push (seqObj "list" vs.toArray 0)}) (key:=key) (κ:=κ) f x
   (λr h' k=>z r h' λb o q=>k b o (d b o q) (c b o q)) (λh' k=>y h' λb o q=>k b o (d b o q) (c b o q)) λa t u=>?_
  obtain⟨n,v⟩:=sortedHeap_at (vs:=vs) (out:=(a.map λi=>vs.getD i Value.none).toArray) f;refine⟨_,rfl,AH ⟨_,rfl,h (s.heap.objs.size+1) _ n a (λb o q=>?_) d t u v⟩⟩;show(sortedHeap (((s.heap.push (seqObj "list" #[] 0)).update s.heap.objs.size (Obj.mapSeq (·++vs.toArray))).push (seqObj "list" vs.toArray 0)) (s.heap.objs.size+1) vs _).get? b=some o;rw[sortedHeap_old (d b o q) (AY (c b o q))];exact c b o q
end
@[reducible] def B3 (O P:KeyOrd):KeyOrd where
 α:=O.α×P.α
 blt x y:=O.blt x.1 y.1 || (!O.blt y.1 x.1 && P.blt x.2 y.2)
 irrefl x:=by simp[O.irrefl,P.irrefl]
 trans x y z h1 h2:=by simp only[Bool.or_eq_true,Bool.and_eq_true,Bool.not_eq_true'] at h1 h2 ⊢;rcases h1 with h1|⟨h1,k1⟩<;>rcases h2 with h2|⟨h2,k2⟩;exact .inl (O.trans _ _ _ h1 h2);exact .inl (KeyOrd.klt_of_klt_of_kle h1 h2);exact .inl (KeyOrd.klt_of_kle_of_klt h1 h2);exact .inr ⟨KeyOrd.kle_trans (O:=O) h1 h2,P.trans _ _ _ k1 k2⟩
 negTrans x y z h:=by
  simp only[Bool.or_eq_true,Bool.and_eq_true,Bool.not_eq_true'] at h ⊢;rcases h with h|⟨h,k⟩;rcases O.negTrans _ y.1 _ h with h|h;exact .inl (.inl h);exact .inr (.inl h)
  cases e1:O.blt x.1 y.1 with
  |true=>exact .inl (.inl rfl)
  |false=>
   cases e2:O.blt y.1 z.1 with
   |true=>exact .inr (.inl rfl)
   |false=>have a1:O.kle y.1 x.1:=e1;have a2:O.kle z.1 y.1:=e2;have a3:O.kle x.1 z.1:=h;have b1:O.blt y.1 x.1=false:=KeyOrd.kle_trans (O:=O) a3 a2;have b2:O.blt z.1 y.1=false:=KeyOrd.kle_trans (O:=O) a1 a3;rcases P.negTrans _ y.2 _ k with k|k;exact .inl (.inr ⟨b1,k⟩);exact .inr (.inr ⟨b2,k⟩)
 total x y h1 h2:=by simp only[Bool.or_eq_false_iff,Bool.and_eq_false_iff,Bool.not_eq_false'] at h1 h2;have e1:x.1=y.1:=O.total _ _ h1.1 h2.1;have e2:x.2=y.2:=P.total _ _ (by rcases h1.2 with z|z;exact absurd (h2.1.symm.trans z) (by simp);exact z) (by rcases h2.2 with z|z;exact absurd (h1.1.symm.trans z) (by simp);exact z);exact Prod.ext e1 e2
@[reducible] def Fl:KeyOrd where
 α:=Str
 blt a b:=decide (a.cps.toList<b.cps.toList)
 irrefl a:=by simpa using List.lt_irrefl a.cps.toList
 trans a b c h1 h2:=by simp only[decide_eq_true_eq] at *;exact List.lt_trans h1 h2
 negTrans a b c h:=by
  simp only[decide_eq_true_eq] at *;by_cases hab:a.cps.toList<b.cps.toList;exact .inl hab;exact .inr (List.lt_of_le_of_lt (List.not_lt.mp hab) h)
 total a b h1 h2:=by simp only[decide_eq_false_iff_not] at *;exact ext_toList (List.le_antisymm (List.not_lt.mp h2) (List.not_lt.mp h1))
@[reducible] def Nv:KeyOrd where
 α:=Int
 blt a b:=decide (a<b)
 irrefl a:=by simp
 trans a b c h1 h2:=by simp only[decide_eq_true_eq] at *;lia
 negTrans a b c h:=by simp only[decide_eq_true_eq] at *;lia
 total a b h1 h2:=by simp only[decide_eq_false_iff_not] at *;lia
structure FS where
 O:KeyOrd
 val:O.α->V
 dflt:O.α
 T:Value
 tT:(T==T)=true
 tN:(T != Value.type "tuple")=true
 look:∀(M:Model)(h:Heap)(a:O.α)(u:Value),RelV (val a) u->PySem.W.Looks M h (typeOf u) T
 eqB:∀(prog:Program)(w:World)(A:Around)(E:B')(s:Shared)(a b:O.α)(u v:Value)(Q:Bool->Shared->Prop),RelV (val a) u->RelV (val b) v->(∀e:Bool,(e=true↔a=b)->Q e s)->wpAny (model prog w) A (eqBool u v) Q E s
 ltB:∀(prog:Program)(w:World)(A:Around)(E:B')(s:Shared)(a b:O.α)(u v:Value)(Q:Bool->Shared->Prop),RelV (val a) u->RelV (val b) v->Q (O.blt a b) s->wpAny (model prog w) A (oneLt' true u v) Q E s
 ltC:∀(prog:Program)(w:World)(A:Around)(E:B')(s:Shared)(a b:O.α)(u v:Value)(Q:Bool->Shared->Prop),RelV (val a) u->RelV (val b) v->Q (O.blt a b) s->wpAny (model prog w) A (oneLt' false u v) Q E s
@[reducible] def Ij:FS where
 O:=Fl
 val:=V.str
 dflt:=default
 T:=.type "str"
 tT:=by decide
 tN:=by decide
 look M h a u r:=by obtain⟨t,rfl⟩:=r;exact PySem.W.Looks.of_pure rfl
 eqB prog w A E s a b u v Q r r' h:=by obtain⟨t,rfl⟩:=r;obtain⟨t',rfl⟩:=r';exact eqBool_str (h _ (by simp))
 ltB prog w A E s a b u v Q r r' h:=by obtain⟨t,rfl⟩:=r;obtain⟨t',rfl⟩:=r';exact oneLt_str h
 ltC prog w A E s a b u v Q r r' h:=by obtain⟨t,rfl⟩:=r;obtain⟨t',rfl⟩:=r';exact PySem.W.kat_one _ _ (PySem.P.lt_str h)
@[reducible] def Ik:FS where
 O:=Nv
 val:=V.int
 dflt:=0
 T:=.type "int"
 tT:=by decide
 tN:=by decide
 look M h a u r:=by obtain⟨t,rfl⟩:=r;exact PySem.W.Looks.of_pure rfl
 eqB prog w A E s a b u v Q r r' h:=by obtain⟨t,rfl⟩:=r;obtain⟨t',rfl⟩:=r';exact wpAny_eqBool_int (h _ (by simp))
 ltB prog w A E s a b u v Q r r' h:=by obtain⟨t,rfl⟩:=r;obtain⟨t',rfl⟩:=r';exact oneLt_int h
 ltC prog w A E s a b u v Q r r' h:=by obtain⟨t,rfl⟩:=r;obtain⟨t',rfl⟩:=r';exact PySem.W.kat_one _ _ (PySem.P.lt_int h)
variable {d:FS}
def Il{c:FS}(x y:(B3 c.O d.O).α)(e:x.1=y.1):(B3 c.O d.O).blt x y=d.O.blt x.2 y.2:=by show(c.O.blt x.1 y.1 || (!c.O.blt y.1 x.1 && d.O.blt x.2 y.2))=_;rw[e,c.O.irrefl];rfl
def Im{c:FS}(x y:(B3 c.O d.O).α)(e:x.1≠y.1):(B3 c.O d.O).blt x y=c.O.blt x.1 y.1:=by
 show(c.O.blt x.1 y.1 || (!c.O.blt y.1 x.1 && d.O.blt x.2 y.2))=_
 cases a:c.O.blt x.1 y.1 with
 |true=>rfl
 |false=>
  cases b:c.O.blt y.1 x.1 with|true=>rfl|false=>exact absurd (c.O.total _ _ a b) e
section
variable {prog:Program} {w:World} {A:Around} {E:B'} {s:Shared}
def VB(c d:FS){x y:Addr}{p q:(B3 c.O d.O).α}{b f g i:Value}{Q:Bool->Shared->Prop}(r:IsTup s.heap x #[b,f])(t:IsTup s.heap y #[g,i])(j:RelV (c.val p.1) b)(k:RelV (d.val p.2) f)(l:RelV (c.val q.1) g)(o:RelV (d.val q.2) i)
 (h:Q ((B3 c.O d.O).blt p q) s):wpAny (model prog w) A (keyLt' (tuples' true) (.ref x) (.ref y)) Q E s:=by
 obtain⟨F,B,_,n,u⟩:=r;obtain⟨G,C,_,m,v⟩:=t;refine PySem.W.kat_lt B u C v (PySem.W.kat_cons (c.eqB _ _ _ _ _ _ _ _ _ _ j l λe a=>?_))
 cases e with
 |false=>have D:p.1≠q.1:=λz=>CP (a.mpr z);rw[Im _ _ D] at h;exact PySem.W.kat_no (c.ltB _ _ _ _ _ _ _ _ _ _ j l h)
 |true=>
  rw[Il _ _ (a.mp rfl)] at h;refine PySem.W.kat_yes (PySem.W.kat_cons (d.eqB _ _ _ _ _ _ _ _ _ _ k o λe a=>?_));cases e with|false=>exact PySem.W.kat_no (d.ltC _ _ _ _ _ _ _ _ _ _ k o h)|true=>refine PySem.W.kat_yes (PySem.W.kat_nil ?_);rw[a.mp rfl,d.O.irrefl] at h;exact h
end
theorem OK{α:Type}{R:α->α->Prop}(f:∀a b c,R a b->R b c->R a c):∀(l:List α),(∀i a b,l[i]?=some a->l[i+1]?=some b->R a b)->l.Pairwise R
 |[],_=>.nil
 |[x],_=>by simp
 |x::y::r,h=>by have g:=OK f (y::r) λi a b k m=>h (i+1) a b (by simpa using k) (by simpa using m);have j:R x y:=h 0 x y rfl rfl;refine List.pairwise_cons.mpr ⟨λz d=>?_,g⟩;rcases Cj.mp d with e|d;rw[e];exact j;exact f _ _ _ j ((List.pairwise_cons.mp g).1 z d)
section
variable {X:Cx}
abbrev Row (c d:FS):Type:=V×(B3 c.O d.O).α
def KP (X:Cx) (c d:FS):R'->Hp->VK->Prop:=λvs H Q=>∃(l:Addr)(zs:List (Row c d)),vs=[.ref l]/\Ad X.K H l (zs.map (·.1))/\zs.length<64 /\
 (∀z∈zs,∃t,z.1=.ref t/\Am X.K H t [c.val z.2.1,d.val z.2.2])/\∀(D:Addr)(zs':List (Row c d)),zs'.Perm zs->(zs'.map (·.2)).Pairwise (B3 c.O d.O).kle->H D=none->Q (.ref D) (upd H D (.lst (zs'.map (·.1))))
def HR (c d:FS) (h:Heap) (z:Row c d) (v:Value):Prop:=∃t u1 u2,z.1=.ref t/\v=.ref t/\IsTup h t #[u1,u2]/\RelV (c.val z.2.1) u1/\RelV (d.val z.2.2) u2
def HR.keeps{c d:FS}{h h':Heap}{z:Row c d}{v:Value}(k:∀b o,h.get? b=some o->h'.get? b=some o)(x:HR c d h z v):HR c d h' z v:=by obtain⟨t,a,e,f,g,i,j⟩:=x;exact⟨t,a,e,f,g,i.keeps k,j⟩
def Io{c:FS}{h:Heap}(zs:List (Row c d))(f:D')(g:Paired (HR c d h) zs f):∃fs,PySem.W.KatTups h f fs/\fs.length=zs.length/\∀v∈fs,∃a,RelV (c.val a) v:=by
 induction g with
 |nil=>exact⟨[],.nil,rfl,λ_ x=>by cases x⟩
 |cons i r j=>obtain⟨t,k,z,A,l,⟨o,m,p,n,q⟩,s,B⟩:=i;obtain⟨fs,u,w,y⟩:=j;subst l;refine⟨k::fs,.cons m p q rfl u,by simp[w],λv b=>?_⟩;rcases Cj.mp b with e|b;exact⟨_,e▸s⟩;exact y v b
def Nw{α β:Type}{R:α->β->Prop}{xs:List α}{ys:List β}(h:Paired R xs ys):∀(i:Nat)(b:α)(c:β),i<xs.length->R (xs.getD i b) (ys.getD i c):=by
 induction h with
 |nil=>intro i b c h;simp at h
 |cons a r d=>
  intro i b c h;cases i with|zero=>exact a|succ i=>simpa using d i b c (by simpa using h)
theorem OL{α β γ:Type}{R:α->β->Prop}{f:γ->α}{g:γ->β}:∀(l:List γ),(∀x∈l,R (f x) (g x))->Paired R (l.map f) (l.map g)
 |[],_=>.nil
 |x::l,h=>.cons (h x Ea) (OL l λy a=>h y (DL _ a))
theorem Jn{c d:FS}{pins:A'}{σ:L2.St}{H:Hp}{s:Shared}(I:Inv X pins σ H s):∀(zs:List (Row c d))(f:D'),Aq (zs.map (·.1)) f->(∀z∈zs,∃t,z.1=.ref t/\Am X.K H t [c.val z.2.1,d.val z.2.2])->Paired (HR c d s.heap) zs f
 |[],f,r,_=>by cases r;exact .nil
 | z :: zs,f,r,h=>by
   cases r with
   |cons a b=>
    obtain⟨t,e,j⟩:=h z Ea;obtain⟨n,g,k,_⟩:=I.tuple j
    cases g with
    |cons g i=>
     cases i with|cons i l=>cases l;dsimp only at a;rw[e] at a;exact .cons ⟨t,_,_,e,a,k,g,i⟩ (Jn I zs _ b λy m=>h y (DL _ m))
theorem VC(c d:FS):A8 X (.builtin "sorted") (KP X c d):=by
 intro ar s σ H vs us ak I r h;obtain⟨l,b,rfl,Q,aq,R,q⟩:=h;obtain⟨u,rfl,S⟩:=El r;obtain rfl:u=Value.ref l:=S;obtain⟨g,U,W,_⟩:=I.list Q;have m:=Jn I b g U R;have N:b.length=g.length:=m.length
 let e:Row c d:=(V.non,(c.dflt,d.dflt))
 refine QQ (O:=B3 c.O d.O) (key:=λi=>(b.getD i e).2) (κ:=tuples' true) (vs:=g) (by obtain⟨o,n,w,p,F,A⟩:=W;exact⟨o,w,p,n,A⟩) (by lia) (λB C k Q' Y=>?_) (λC k i j al z hj Z=>?_) λD C n f kk G M ae hg=>?_;have af:Paired (HR c d C) b g:=Paired.mapP m λ_ _ x=>x.keeps k;obtain⟨fs,k1,k2,k3⟩:=Io _ _ af;refine PySem.W.kat_kind (T:=c.T) k1 (by lia) (λv E=>?_) c.tT (by rw[c.tN];exact Y);obtain⟨a,ha⟩:=k3 v E;exact c.look _ _ a v ha;obtain⟨t,u1,u2,w,p,F,A,a5⟩:=(Nw m i e Value.none (by lia)).keeps k;obtain⟨t',ao,v2,b1,b2,b3,b4,b5⟩:=(Nw m j e Value.none (by lia)).keeps k;unfold PySem.W.kas_ask;rw[p,b2];exact VB c d F b3 A a5 b4 b5 Z
 have ag:∀i∈f,i<b.length:=λi z=>by
  have:=M.mem_iff.mp z;rw[N];simpa using this
 have aj:(List.range b.length).map (λi=>b.getD i e)=b:=(by apply v5;intro k;by_cases J:k<b.length;simp[J,BZ];simp[J])
 have P:(f.map λi=>b.getD i e).Perm b:=by
  have:=M.map (λi=>b.getD i e)
  rwa [<-N,aj] at this
 have E:Aq ((f.map λi=>b.getD i e).map (·.1)) (f.map λi=>g.getD i Value.none):=(by rw[DI];refine OL f λi z=>?_;obtain⟨t,u1,u2,w,p,_⟩:=Nw m i e Value.none (ag i z);show RelV (b.getD i e).1 (g.getD i Value.none);rw[w,p];exact rfl)
 have ah:((f.map λi=>b.getD i e).map (·.2)).Pairwise (B3 c.O d.O).kle:=by
  refine OK (λ_ _ _=>KeyOrd.kle_trans) _ λi a an K B=>?_;rw[DI,AV,CD] at K B;obtain⟨x,e1,rfl⟩:=K;obtain⟨y,L,rfl⟩:=B;obtain⟨ai,_⟩:=AS.mp L;have:=ae i ai;have aa:f.getD i 0=x:=by rw[BZ,e1];rfl
  have ab:f.getD (i+1) 0=y:=by rw[BZ,L];rfl
  rw[aa,ab] at this;exact this
 exact⟨.ref D,upd H D (.lst ((f.map λi=>b.getD i e).map (·.1))),I.laidN (t':=s.toks) kk G ⟨by rw[Al,P.length_eq];exact Dk (Bz (by lia)),_,n,E,hg⟩,rfl,q D _ P ah (I.freshN G)⟩
end
open Ord
abbrev OM (p:Str×Int):Dt:=.tup [.str p.1,.int p.2]
def VD{b:D'}{ss:F'}(c:StrsAre b ss)(a:2<=b.length):keyKind' b.toArray=pure oneType':=by
 match b,c,a with
 |[],_,a=>simp at a
 |[_],_,a=>simp at a
 |d::e::rest,c,_=>exact keyKind_strs c
section
variable {X:Cx}
def KQ (X:Cx):R'->Hp->VK->Prop:=λvs H Q=>∃(l:Addr)(ss:F'),vs=[.ref l]/\Ad X.K H l (ss.map V.str)/\ss.length<64/\∀(D:Addr)(ss':F'),ss'.Perm ss->ss'.Pairwise Fl.kle->H D=none->Q (.ref D) (upd H D (.lst (ss'.map V.str)))
theorem VE:A8 X (.builtin "sorted") (KQ X):=by
 intro ai s σ H vs us ab I r h;obtain⟨l,a,rfl,F,ah,q⟩:=h;obtain⟨u,rfl,G⟩:=El r;obtain rfl:u=Value.ref l:=G;obtain⟨g,m,J,_⟩:=I.list F;have K:=Vv m;have C:a.length=g.length:=by have:=m.length;rwa [Al] at this
 have p:∀i,i<a.length->∃t,g.getD i Value.none=.str (a.getD i default) t:=λi c=>by
  have:=Nw m i V.non Value.none (by rw[Al];exact c);have e:(a.map V.str).getD i V.non=V.str (a.getD i default):=(by rw[BZ,AV,BZ,AQ c];rfl);rw[e] at this;exact this
 refine QQ (O:=Fl) (key:=λi=>a.getD i default) (κ:=oneType') (vs:=g) J.isList (by lia) (λd v k Q' L=>?_) (λv k i j ae c hj M=>?_) λD v n b N w B U P=>?_;rw[VD K d];exact AH L;obtain⟨t,o⟩:=p i (by lia);obtain⟨t',f⟩:=p j (by lia);unfold PySem.W.kas_ask;rw[o,f,keyLt'_oneType];exact oneLt_str M
 have W:∀i∈b,i<a.length:=λi c=>by
  have:=B.mem_iff.mp c;rw[C];simpa using this
 have aa:(List.range a.length).map (λi=>a.getD i default)=a:=(by apply v5;intro k;by_cases z:k<a.length;simp[z,BZ];simp[z])
 have E:(b.map λi=>a.getD i default).Perm a:=by
  have:=B.map (λi=>a.getD i default)
  rwa [<-C,aa] at this
 have Q:Aq ((b.map λi=>a.getD i default).map V.str) (b.map λi=>g.getD i Value.none):=(by rw[DI];exact OL b λi c=>p i (W i c))
 have Y:(b.map λi=>a.getD i default).Pairwise Fl.kle:=by
  refine OK (R:=Fl.kle) (λ_ _ _ h k=>KeyOrd.kle_trans (O:=Fl) h k) _ λi af ag A d=>?_;rw[AV,CD] at A d;obtain⟨x,o,rfl⟩:=A;obtain⟨y,f,rfl⟩:=d;obtain⟨Z,_⟩:=AS.mp f;have:=U i Z;have S:b.getD i 0=x:=by rw[BZ,o];rfl
  have T:b.getD (i+1) 0=y:=by rw[BZ,f];rfl
  rw[S,T] at this;exact this
 exact⟨.ref D,upd H D (.lst ((b.map λi=>a.getD i default).map V.str)),I.laidN (t':=s.toks) N w ⟨by rw[Al,E.length_eq];exact Dk (Bz (by lia)),_,n,Q,P⟩,rfl,q D _ E Y (I.freshN w)⟩
end
abbrev Jo (K:Ah) (H:Hp) (z:Row Ij Ik):Prop:=∃t,z.1=.ref t/\Am K H t [V.str z.2.1,V.int z.2.2]
theorem Tv{K:Ah}{H:Hp}:∀{ts:E'}{gs:G'},ts.length=gs.length->(∀(n:Nat)(a:Addr)(p:Str×Int),ts[n]?=some a->gs[n]?=some p->H a=some (.tup [.str p.1,.int p.2])) ->
 ∃zs:List (Row Ij Ik),zs.map (·.1)=ts.map V.ref/\zs.map (·.2)=gs/\∀z∈zs,Jo K H z
 |[],[],_,_=>⟨[],rfl,rfl,λz hz=>by cases hz⟩
 |[],_::_,h,_=>by simp at h
 |_::_,[],h,_=>by simp at h
 |a::ts,p::gs,h,k=>by obtain⟨zs,b,c,d⟩:=Tv (K:=K) (H:=H) (ts:=ts) (gs:=gs) (by simpa using h) λn a p b c=>k (n+1) a p (by simpa using b) (by simpa using c);refine⟨(V.ref a,p)::zs,by rw[Ec,b];rfl,by rw[Ec,c],λz hz=>?_⟩;rcases Cj.mp hz with e|hz;rw[e];exact⟨a,rfl,Am.of (k 0 a p rfl rfl)⟩;exact d z hz
theorem Tx{K:Ah}{H:Hp}:∀(zs:List (Row Ij Ik)),(∀z∈zs,Jo K H z)->Au K H (zs.map (·.1)) ((zs.map (·.2)).map OM)
 |[],_=>.nil
 |z::zs,h=>by obtain⟨t,e,a⟩:=h z Ea;refine .cons ?_ (Tx zs λy b=>h y (DL _ b));show Aw K H z.1 (OM z.2);rw[e];exact .tup a (.cons (.str _) (.cons (.int _) .nil))
def Fx:([]:R').length+1+1+1<=sizeLine:=by decide
structure GT (H:Hp) (ts:E') (gs:G'):Prop where
 len:ts.length=gs.length
 at_:∀(n:Nat)(t:Addr)(p:Str×Int),ts[n]?=some t->gs[n]?=some p->H t=some (.tup [.str p.1,.int p.2])
variable {H H':Hp}{ts:E'}{gs:G'}
def GT.same(e:Ac H H')(h:GT H ts gs):GT H' ts gs:=⟨h.len,λn t p a b=>e _ _ (h.at_ n t p a b)⟩
def GT.dts{K:Ah}(h:GT H ts gs):Au K H (ts.map V.ref) (gs.map OM):=by obtain⟨a,b,c,d⟩:=Tv (K:=K) h.len h.at_;rw[<-b,<-c];exact Tx a d
structure EE (H:Hp) (a:Addr) (l0 l1:Str):Prop where
 ex:∃u g e gt,H a=some (.lst [.ref u])/\H u=some (.tup [.ref g,.ref e])/\H g=some (.lst [.ref gt])/\H gt=some (.tup [.str l0,.int 0])/\H e=some (.lst [.str l1])
variable {a:Addr}
def EE.same{b c:Str}(s:Ac H H')(h:EE H a b c):EE H' a b c:=
 ⟨let ⟨u,g,e,gt,d,f,i,j,k⟩:=h.ex;⟨u,g,e,gt,s _ _ d,s _ _ f,s _ _ i,s _ _ j,s _ _ k⟩⟩
structure Ef (H:Hp) (p:Addr) (b w:Str):Prop where
 ex:∃pr,H p=some (.lst [.ref pr])/\H pr=some (.tup [.str b,.str w])
def Ef.same{b w:Str}(s:Ac H H')(h:Ef H a b w):Ef H' a b w:=
 ⟨let ⟨u,c,d⟩:=h.ex;⟨u,s _ _ c,s _ _ d⟩⟩
variable {b:Addr}{o:HO}
def Ny(e:H a=some o)(h:H b=none):b≠a:=(AN e h).symm
variable {H1:Hp}{D:Addr}
def Fy(s:Ac H H1)(a:H D=none):Ac H (upd H1 D o):=λb z e=>by rw[Ax (AN e a)];exact s b z e
variable {v:V}{g:TG}{σ:St}
def FT{K:Ah}{j:TS}{D:Ends}(c:Ad K H a [v])
 (d:g v σ H λσ2 e=>j {D with nx:=λσ H=>Ad K H a [v]/\D.nx σ H,ct:=λσ H=>Ad K H a [v]/\D.nx σ H,bk:=D.nx} σ2 e):FP (E7 K a) g j D σ H:=by
 refine CQ (xs:=[v]) (λi σ' H'=>match i with|0=>σ'=σ/\H'=H|_+1=>Ad K H' a [v]/\D.nx σ' H') ⟨rfl,rfl⟩ ?_ ?_ (λσ H p=>p.2)
 intro i σ' H' _ p
 cases i with
 |zero=>obtain⟨_,rfl⟩:=p;exact c
 |succ n=>exact p.1
 intro i x σ' H' b p;cases i with|zero=>obtain⟨rfl,rfl⟩:=p;cases b;exact d|succ n=>simp at b
variable {te:TE}
def QR{K:Ah}{k:Nat}{r:M'}{Q:Addr->Hp->Prop}(s:Ad K H1 a [v])
 (t:∀D(R:VK),H1 D=none->(∀y c,c D=some (.lst [])->Ad K (upd c D (.lst [y])) a [v]->Q D (upd c D (.lst [y]))->R y c)->g v (CI k r σ) (upd H1 D (.lst [])) λσ4 f=>te σ4 f R) :
 ∀D,H1 D=none->∃W:Nat->Nat->R'->Hp->Prop,(∃m,W 0 m [] (upd H1 D (.lst [])))/\∀i m ys d,W i m ys d ->
  ((E7 K a).stop i d/\Q D d)\/((E7 K a).go i d/\∀x j,(E7 K a).yld i d x j->g x (CI k r σ) j λσ4 f=>Ee σ4 f λb l =>
   if b=true then te σ4 l λy c=>c D=some (.lst ys)/\ys.length<sizeLine/\∃e,e<m/\W (i+1) e (ys++[y]) (upd c D (.lst (ys++[y]))) else ∃e,e<m/\W (i+1) e ys l):=by
 refine KN (xs:=[v]) (λD i ys H'=>match i with|0=>ys=[]/\H'=upd H1 D (.lst [])/\Ad K H' a [v]|_+1=>Ad K H' a [v]/\Q D H') (λD h=>⟨rfl,rfl,(A3 h).seq s⟩) ?_ ?_ (λD ys d _ p=>p.2)
 intro D i ys d p
 cases i with
 |zero=>exact p.2.2
 |succ n=>exact p.1
 intro D i x ys d R h o p q;cases i with|zero=>obtain⟨rfl,rfl,_⟩:=p;cases o;exact t D R h λy c u w z=>q y c u (Bz (B8 _)) ⟨w,z⟩|succ n=>simp at o
variable {x:Str}
def Tz{ss:F'}(h:ss.Perm [x]):ss=[x]:=List.perm_singleton.mp h
structure Keeps (M:Addr->Prop) (H H':Hp):Prop where
 at_:∀x o,H x=some o->¬M x->H' x=some o
 ls:∀x o,M x->H x=some o->∃xs,o=HO.lst xs
section
variable {K:Ah} {M:Addr->Prop} {H H':Hp}
def Keeps.one{xs:R'}(a:H D=some (.lst xs)):Keeps (·=D) H (upd H D o):=
 ⟨λx u e n=>by rw[Ax n];exact e,λx u m e=>by rw[m,a] at e;exact⟨xs,(Ce e).symm⟩⟩
def Keeps.noT(k:Keeps M H H'){xs:R'}(h:H a=some (.tup xs)):¬M a:=λm=>by obtain⟨_,e⟩:=k.ls _ _ m h;cases e
def Keeps.tup(k:Keeps M H H'){a:Addr}{xs:R'}(h:H a=some (.tup xs)):H' a=some (.tup xs):=k.at_ _ _ h (k.noT h)
end
def QS{K:Ah}{xs:R'}{k:Nat}{s:M'}{tc:TT}{Q:Addr->Hp->Prop}(Pv:Addr->Nat->R'->Hp->Prop)
 (t:∀D,H1 D=none->Pv D 0 [] (upd H1 D (.lst []))) (u:∀D i ys c,Pv D i ys c->Ad K c a xs)
 (w:∀D i x ys c(R:VK)(r:Hp->Prop),H1 D=none->xs[i]?=some x->Pv D i ys c->(∀y f,f D=some (.lst ys)->ys.length<sizeLine->Pv D (i+1) (ys++[y]) (upd f D (.lst (ys++[y])))->R y f)->(∀d,Pv D (i+1) ys d->r d)->g x (CI k s σ) c λσ4 l=>tc σ4 l λb d=>if b=true then te σ4 d R else r d)
 (hd:∀D ys c,H1 D=none->Pv D xs.length ys c->Q D c) :
 ∀D,H1 D=none->∃W:Nat->Nat->R'->Hp->Prop,(∃m,W 0 m [] (upd H1 D (.lst [])))/\∀i m ys c,W i m ys c ->
  ((E7 K a).stop i c/\Q D c)\/((E7 K a).go i c/\∀x j,(E7 K a).yld i c x j->g x (CI k s σ) j λσ4 l=>tc σ4 l λb d =>
   if b=true then te σ4 d λy f=>f D=some (.lst ys)/\ys.length<sizeLine/\∃h,h<m/\W (i+1) h (ys++[y]) (upd f D (.lst (ys++[y]))) else ∃h,h<m/\W (i+1) h ys d):=by
 intro D n;refine⟨λi m ys c=>m=xs.length-i/\i<=xs.length/\Pv D i ys c,⟨xs.length,rfl,B8 _,t D n⟩,?_⟩;rintro i m ys c ⟨rfl,F,p⟩;have o:=u D i ys c p;by_cases q:i<xs.length;refine .inr ⟨⟨xs,xs[i],o,by simp[q]⟩,λx j y=>?_⟩;obtain⟨rfl,y⟩:=y;have z:=y xs o;refine w D i x ys j _ _ n z p (λv f A B C=>?_) (λd E=>?_);exact⟨A,B,xs.length-(i+1),by lia,rfl,q,C⟩;exact⟨xs.length-(i+1),by lia,rfl,q,E⟩;have e:i=xs.length:=(by lia);subst e;exact .inl ⟨⟨xs,o,AB _⟩,hd D ys c n p⟩
section
variable {X:Cx}
end
abbrev Qu:Type:=Int×Int×List Str
abbrev U':=List Qu
abbrev TB (q:Qu):Dt:=.tup [.int q.1,.int q.2.1,.tup (q.2.2.map Dt.str)]
section
variable {K:Ah} {H H':Hp} {a:Addr}
end
structure QT (H:Hp) (ts:E') (qs:U'):Prop where
 len:ts.length=qs.length
 at_:∀(n:Nat)(t:Addr)(q:Qu),ts[n]?=some t->qs[n]?=some q->∃u,H t=some (.tup [.int q.1,.int q.2.1,.ref u])/\H u=some (.tup (q.2.2.map V.str))
def QT.nil:QT H [] []:=⟨rfl,λn t p h=>by simp at h⟩
variable {qs:U'}
def QT.same(e:Ac H H')(h:QT H ts qs):QT H' ts qs:=⟨h.len,λn t p a b=>by
 obtain⟨u,c,d⟩:=h.at_ n t p a b;exact⟨u,e _ _ c,e _ _ d⟩⟩
variable {M:Addr->Prop}
def QT.keeps(k:Keeps M H H')(h:QT H ts qs):QT H' ts qs:=⟨h.len,λn t p a b=>by
 obtain⟨u,c,d⟩:=h.at_ n t p a b;exact⟨u,k.tup c,k.tup d⟩⟩
def GT.keeps(k:Keeps M H H')(h:GT H ts gs):GT H' ts gs:=⟨h.len,λn t p a b=>k.tup (h.at_ n t p a b)⟩
variable {u:Addr}
def QT.snoc{t:Addr}{q:Qu}(h:QT H ts qs)(e:H t=some (.tup [.int q.1,.int q.2.1,.ref u]))(d:H u=some (.tup (q.2.2.map V.str))):QT H (ts++[t]) (qs++[q]):=by refine⟨by rw[BC,BC,h.len];rfl,λn v f a b=>?_⟩;rcases v9 n ts.length with c|j;rw[DH c] at a;rw[DH (by rw[<-h.len];exact c)] at b;exact h.at_ n v f a b;have i:n<(ts++[t]).length:=(AS.mp a).1;rw[BC,Ff] at i;have g:n=ts.length:=(by lia);subst g;rw[DJ (AB _),Nat.sub_self] at a;rw[DJ (by rw[h.len];exact AB _),h.len,Nat.sub_self] at b;cases a;cases b;exact⟨u,e,d⟩
def QT.dts{K:Ah}(h:QT H ts qs):Au K H (ts.map V.ref) (qs.map TB):=by refine Au.of_get (by simpa using h.len) λn v d a b=>?_;rw[AV] at a b;obtain⟨t,c,rfl⟩:=CD.mp a;obtain⟨q,e,rfl⟩:=CD.mp b;obtain⟨u,f,g⟩:=h.at_ n t q c e;exact .tup (Am.of f) (.cons (.int _) (.cons (.int _) (.cons (.tup (Am.of g) (Au.strs _)) .nil)))
variable {L:Pos}
def TC{X:Cx}{i:Nat}{e:Expr}{op:Operator}{a:R2}{t:Pos}(b:X.N.Nodup)(c:X.N[i]?=some x)(d:Loc X.env.scope x)(f:PE X e te)(g:CC X (inplaceOp op) a)(h:X.fn x=true\/X.env.scope.names.lookup x=some .local:=by first|exact .inl rfl|exact .inr rfl|assumption) :
 PS X (.AugAssign (.Name x t) op e L) (MZ i te a):=J9 b c d f g h
abbrev KR:Type:=Str×Str×Int
abbrev Ip (p:KR):R':=[.str p.1,.str p.2.1,.int p.2.2]
abbrev Iq:Type:=Str×Str×Str×Int
abbrev DF (p:Iq):R':=[.str p.1,.str p.2.1,.str p.2.2.1,.int p.2.2.2]
abbrev Nz (p:KR):Dt:=.tup [.str p.1,.str p.2.1,.int p.2.2]
abbrev NA (p:Iq):Dt:=.tup [.str p.1,.str p.2.1,.str p.2.2.1,.int p.2.2.2]
section
variable {α:Type} {f:α->R'} {H H':Hp} {ts:E'} {rs:List α}
structure RT (f:α->R') (H:Hp) (ts:E') (rs:List α):Prop where
 len:ts.length=rs.length
 at_:∀(n:Nat)(t:Addr)(r:α),ts[n]?=some t->rs[n]?=some r->H t=some (.tup (f r))
def RT.nil:RT f H [] []:=⟨rfl,λn t p h=>by simp at h⟩
def RT.same(e:Ac H H')(h:RT f H ts rs):RT f H' ts rs:=⟨h.len,λn t p a b=>e _ _ (h.at_ n t p a b)⟩
def RT.keeps(k:Keeps M H H')(h:RT f H ts rs):RT f H' ts rs:=⟨h.len,λn t p a b=>k.tup (h.at_ n t p a b)⟩
def RT.dts{K:Ah}{g:α->Dt}(c:∀(r:α)(t:Addr),H t=some (.tup (f r))->Aw K H (.ref t) (g r))(h:RT f H ts rs):Au K H (ts.map V.ref) (rs.map g):=by refine Au.of_get (by simpa using h.len) λn v d a b=>?_;rw[AV] at a b;obtain⟨t,e,rfl⟩:=CD.mp a;obtain⟨q,i,rfl⟩:=CD.mp b;exact c q t (h.at_ n t q e i)
end
def KS{K:Ah}(r:KR)(t:Addr)(h:H t=some (.tup (Ip r))):Aw K H (.ref t) (Nz r):=.tup (Am.of h) (.cons (.str _) (.cons (.str _) (.cons (.int _) .nil)))
def KU{K:Ah}(r:Iq)(t:Addr)(h:H t=some (.tup (DF r))):Aw K H (.ref t) (NA r):=.tup (Am.of h) (.cons (.str _) (.cons (.str _) (.cons (.str _) (.cons (.int _) .nil))))
abbrev AO:Type:=List KR×List Iq
abbrev GP (s:AO):Dt:=.tup [.lst (s.1.map Nz),.lst (s.2.map NA)]
structure Fz (H:Hp) (u G E:Addr) (s:AO):Prop where
 u:H u=some (.tup [.ref G,.ref E])
 g:∃ts:E',H G=some (.lst (ts.map V.ref))/\RT Ip H ts s.1
 e:∃ts:E',H E=some (.lst (ts.map V.ref))/\RT DF H ts s.2
def Fz.same{H H':Hp}{u G E:Addr}{s:AO}(e:Ac H H')(h:Fz H u G E s):Fz H' u G E s:=by obtain⟨a,⟨ts,b,c⟩,⟨d,f,g⟩⟩:=h;exact⟨e _ _ a,⟨ts,e _ _ b,c.same e⟩,⟨d,e _ _ f,g.same e⟩⟩
def Fz.keeps{M:Addr->Prop}{H H':Hp}{u G E:Addr}{s:AO}(k:Keeps M H H')(b:¬M G)(c:¬M E)(h:Fz H u G E s):Fz H' u G E s:=by obtain⟨a,⟨ts,d,e⟩,⟨f,g,i⟩⟩:=h;exact⟨k.tup a,⟨ts,k.at_ _ _ d b,e.keeps k⟩,⟨f,k.at_ _ _ g c,i.keeps k⟩⟩
variable {G E:Addr}
def Fz.dt{K:Ah}{s:AO}(h:Fz H u G E s):Aw K H (.ref u) (GP s):=by obtain⟨a,⟨ts,b,c⟩,⟨f,d,e⟩⟩:=h;exact .tup (Am.of a) (.cons (.lst (Ad.of b) (c.dts KS)) (.cons (.lst (Ad.of d) (e.dts KU)) .nil))
structure Cy (H:Hp) (D:Addr) (us Gs Es:E') (ss:List AO):Prop where
 top:H D=some (.lst (us.map V.ref))
 lu:us.length=ss.length
 lg:Gs.length=ss.length
 le:Es.length=ss.length
 at_:∀(i:Nat)(u G E:Addr)(s:AO),us[i]?=some u->Gs[i]?=some G->Es[i]?=some E->ss[i]?=some s->Fz H u G E s
def Cy.same{H H':Hp}{D:Addr}{us a b:E'}{ss:List AO}(e:Ac H H')(h:Cy H D us a b ss):Cy H' D us a b ss:=
 ⟨e _ _ h.top,h.lu,h.lg,h.le,λi u G E s c d f g=>(h.at_ i u G E s c d f g).same e⟩
variable {us Gs Es:E'}{ss:List AO}
def Cy.get(h:Cy H D us Gs Es ss){i:Nat}(a:i<ss.length) :
 ∃u G E,us[i]?=some u/\Gs[i]?=some G/\Es[i]?=some E/\ss[i]?=some ss[i]/\Fz H u G E ss[i]:=by
 have b:us[i]?=some (us[i]'(by rw[h.lu];exact a)):=AQ _;have c:Gs[i]?=some (Gs[i]'(by rw[h.lg];exact a)):=AQ _;have d:Es[i]?=some (Es[i]'(by rw[h.le];exact a)):=AQ _;exact⟨_,_,_,b,c,d,AQ a,h.at_ i _ _ _ _ b c d (AQ a)⟩
def Cy.keeps{M:Addr->Prop}{H H':Hp}{D:Addr}{us Gs Es:E'}{ss:List AO}(k:Keeps M H H')(d:¬M D)(a:∀x∈Gs++Es,¬M x)(h:Cy H D us Gs Es ss):Cy H' D us Gs Es ss:=
 ⟨k.at_ _ _ h.top d,h.lu,h.lg,h.le,λi u G E s e b c f=>(h.at_ i u G E s e b c f).keeps k (a _ (Ht _ (CB b))) (a _ (Eb _ (CB c)))⟩
def Cy.dts{K:Ah}(h:Cy H D us Gs Es ss):Au K H (us.map V.ref) (ss.map GP):=by refine Au.of_get (by simpa using h.lu) λn v d a b=>?_;rw[AV] at a b;obtain⟨u,g,rfl⟩:=CD.mp a;obtain⟨s,c,rfl⟩:=CD.mp b;have i:n<ss.length:=(AS.mp c).1;obtain⟨k,G,E,e,l,m,f,j⟩:=h.get i;rw[g] at e;cases e;rw[c] at f;rw[Ce f];exact j.dt
def Cy.alive(h:Cy H D us Gs Es ss):∀x∈Gs++Es,∃xs,H x=some (.lst xs):=λx a=>by
 rcases EJ.mp a with a|a;obtain⟨j,b⟩:=List.getElem?_of_mem a;have f:j<ss.length:=by rw[<-h.lg];exact(AS.mp b).1
 obtain⟨g,i,k,l,c,d,m,⟨_,⟨n,e,_⟩,_⟩⟩:=h.get f;rw[b] at c;cases c;exact⟨_,e⟩;obtain⟨j,b⟩:=List.getElem?_of_mem a;have f:j<ss.length:=by rw[<-h.le];exact(AS.mp b).1
 obtain⟨g,i,k,l,c,d,m,⟨_,_,⟨n,e,_⟩⟩⟩:=h.get f;rw[b] at d;cases d;exact⟨_,e⟩
def Cy.nil(h:H D=some (.lst [])):Cy H D [] [] [] []:=⟨h,rfl,rfl,rfl,λi u G E s a=>by simp at a⟩
def Cy.snoc{s:AO}(h:Cy H D us Gs Es ss)(g:Fz H u G E s)(j:G≠D)(l:E≠D)(f:∀x∈Gs++Es,x≠D) :
 Cy (upd H D (.lst (us.map V.ref++[.ref u]))) D (us++[u]) (Gs++[G]) (Es++[E]) (ss++[s]):=by
 have k:Keeps (·=D) H (upd H D (.lst (us.map V.ref++[.ref u]))):=Keeps.one h.top;refine⟨by rw[Aa,By];rfl,by simp[h.lu],by simp[h.lg],by simp[h.le],λi m n o Z d a b c=>?_⟩;rcases v9 i ss.length with e|r;rw[DH (by rw[h.lu];exact e)] at d;rw[DH (by rw[h.lg];exact e)] at a;rw[DH (by rw[h.le];exact e)] at b;rw[DH e] at c;exact(h.at_ i m n o Z d a b c).keeps k (f _ (Ht _ (CB a))) (f _ (Eb _ (CB b)));have q:i<(ss++[s]).length:=(AS.mp c).1;rw[BC,Ff] at q;have p:i=ss.length:=(by lia);subst p;rw[DJ (by rw[h.lu];exact AB _),h.lu,Nat.sub_self] at d;rw[DJ (by rw[h.lg];exact AB _),h.lg,Nat.sub_self] at a;rw[DJ (by rw[h.le];exact AB _),h.le,Nat.sub_self] at b;rw[DJ (AB _),Nat.sub_self] at c;cases d;cases a;cases b;cases c;exact g.keeps k j l
def QU(a:(D::(Gs++Es)).Nodup)(b:G∉D::(Gs++Es))(c:E∉D::(Gs++Es))(d:G≠E):(D::((Gs++[G])++(Es++[E]))).Nodup:=by
 have p:(D::((Gs++[G])++(Es++[E]))).Perm (G::E::(D::(Gs++Es))):=by
  have e:(D::((Gs++[G])++(Es++[E]))).Perm (E::(D::((Gs++[G])++Es))):=(by have:(D::((Gs++[G])++(Es++[E])))=(D::((Gs++[G])++Es))++[E]:=(by simp);rw[this];exact List.perm_append_singleton _ _);have J:(D::((Gs++[G])++Es)).Perm (G::(D::(Gs++Es))):=(by have:(D::((Gs++[G])++Es))=(D::Gs)++G::Es:=(by simp);rw[this];exact List.perm_middle);exact(e.trans (J.cons E)).trans (List.Perm.swap _ _ _)
 rw[p.nodup_iff,DN,DN];refine⟨λz=>?_,c,a⟩;rcases Cj.mp z with z|z;exact d z;exact b z
section
variable {X:Cx}
open PySem.AutoSeq1 in
set_option maxRecDepth 8000 in
def VF{a j:Addr}{xs ys:K'}{c d:Nat}{own:Option Addr}{more:Array (I')}
 (hd:¬(!xs.isEmpty && Builtin.List.listTooLong (xs.size+ys.size))=true) (e:xs.size<=sizeLine) (i:xs.size+ys.size<=sizeLine+1) :
 Meets (Builtin.«list.extend» ⟨[.ref a,.ref j],[]⟩) λ_ R st =>
  st.heap.get? a=some {cls:=.type "list",dict:=none,data:=.seq xs c,slots:=#[]} /\
  st.heap.get? j=some {cls:=.type "tuple",dict:=own,data:=.seq ys d,slots:=more} /\
  R (.ok (.ret Value.none)) {st with heap:=st.heap.update a (Obj.mapSeq λz=>z++ys),toks:=st.toks}:=
 .of_wp λ_ _ _ _ st k=>by
  obtain⟨l,J,m,n,o⟩:=st;obtain⟨b,f,g⟩:=k;have p:=PySem.AutoSeq1.sub_tuple_tuple;have q:=PySem.AutoSeq1.sub_list_list;have r:=PySem.AutoSeq1.sub_tuple_list;have s:=PySem.AutoSeq1.sub_list_tuple;have h:(xs++ys).size<=sizeLine+1:=(by rw[Array.size_append];exact i)
  wp_walk using(wpAny_updateSeq b rfl (hz:=e) (_hz':=h)),wpAny_loadPart' b,wpAny_loadPart' f
  exact⟨_,rfl,g⟩
def NB (K:Ah):V->R'->Hp->VK->Prop:=λx vs H Q=>∃l b xs zs,x=.ref l/\vs=[.ref b]/\H l=some (.lst xs)/\Am K H b zs/\xs.length+zs.length<=sizeLine/\Q .non (upd H l (.lst (xs++zs)))
def VG:FZ X "list.extend" (NB X.K):=by
 intro L s σ H x C v us Q I g i h;obtain⟨l,b,D,E,rfl,rfl,d,j,F,q⟩:=h;cases g;obtain⟨u,rfl,k⟩:=El i;cases k;obtain⟨z,a,n,r,G,e⟩:=I.lstM d;obtain⟨c,f,m,J⟩:=I.tuple j;obtain⟨⟨w,own,A,M⟩,o,p,t,hd⟩:=id m;obtain rfl:w=.type "tuple" :=p;obtain rfl:A=.seq c.toArray t:=hd;have K:=f.length;have y:a.toArray.size+c.toArray.size<=sizeLine:=by rw[BX,BX];lia
 have B:¬(!a.toArray.isEmpty && Builtin.List.listTooLong (a.toArray.size+c.toArray.size))=true:=(by rw[SG y,Bool.and_false];exact CP);refine call_meets PySem.F.slot_list_extend ⟨_,e,rfl⟩ PySem.F.entry_list_extend (PySem.F.args_list_extend_2 _ _) (VF B (by rw[BX];lia) (by lia)) ⟨e,o,?_⟩;refine⟨.non,_,I.lset (its':=a++c) d e (by simp) (r.append f) ?_,rfl,q⟩;rw[BC];lia
end
def KW (c:Nat):Bool:=decide (97<=c) && decide (c<=122)
def Fm (x:Str):Bool:=decide (1<=x.length) && (decide (x.length<=8) && x.cps.toList.all KW)
def BA (x:Str):Prop:=1<=x.length/\x.length<=8/\∀c∈x.cps.toList,97<=c/\c<=122
def BA.name(h:BA x):Fm x=true:=by obtain⟨d,e,a⟩:=h;unfold Fm;rw[Ca d,Ca e,Bool.true_and,Bool.true_and,List.all_eq_true];intro c b;unfold KW;rw[Ca (a c b).1,Ca (a c b).2];rfl
def QV (s q:Int) (p:Str×Int):Prop:=(p.1=("plain":Str)/\p.2=0)\/(p.1=a'/\0<=p.2/\p.2<s)\/(p.1=("sort":Str)/\0<=p.2/\p.2<q)
def QW (s q:Int) (p:KR):Prop:=(p.2.1=("to":Str)/\0<=p.2.2/\p.2.2<s)\/(p.2.1=n'/\0<=p.2.2/\p.2.2<q)
def QX (t q:Int) (p:Iq):Prop:=(p.2.2.1=("thing":Str)/\0<=p.2.2.2/\p.2.2.2<t)\/(p.2.2.1=n'/\0<=p.2.2.2/\p.2.2.2<q)
structure EF (ss:List AO) (gs:G') (qs:U'):Prop where
 ls:ss.length<=40
 lg:gs.length<=80
 lq:qs.length<=60
 st8:∀s∈ss,s.1.length<=8
 tl12:∀s∈ss,s.2.length<=12
 p6:∀q∈qs,1<=q.2.2.length/\q.2.2.length<=6
 nst:∀s∈ss,∀p∈s.1,BA p.1
 ntl:∀s∈ss,∀p∈s.2,BA p.1/\BA p.2.1
 nq:∀q∈qs,∀x∈q.2.2,BA x
 kst:∀s∈ss,∀p∈s.1,QW ss.length qs.length p
 ktl:∀s∈ss,∀p∈s.2,QX gs.length qs.length p
 kth:∀p∈gs,QV ss.length qs.length p
 kq:∀q∈qs,0<=q.1/\q.1<ss.length/\0<=q.2.1
structure Co (H:Hp) (S T R:Addr) (us Gs Es ts qt:E') (ss:List AO) (gs:G') (qs:U'):Prop where
 sc:Cy H S us Gs Es ss
 et:H T=some (.lst (ts.map V.ref))
 tg:GT H ts gs
 er:H R=some (.lst (qt.map V.ref))
 tq:QT H qt qs
def Co.same{H H':Hp}{S T R:Addr}{us Gs Es ts a:E'}{ss:List AO}{gs:G'}{qs:U'}(e:Ac H H')(h:Co H S T R us Gs Es ts a ss gs qs):Co H' S T R us Gs Es ts a ss gs qs:=
 ⟨h.sc.same e,e _ _ h.et,h.tg.same e,e _ _ h.er,h.tq.same e⟩
abbrev Fn (ss:List AO) (gs:G') (qs:U'):Dt:=.tup [.lst (ss.map GP),.lst (gs.map OM),.lst (qs.map TB)]
def Co.dt{K:Ah}{a S T R:Addr}{b:E'}(h:Co H S T R us Gs Es ts b ss gs qs)(e:H a=some (.tup [.ref S,.ref T,.ref R])):Aw K H (.ref a) (Fn ss gs qs):=
 .tup (Am.of e) (.cons (.lst (Ad.of h.sc.top) h.sc.dts) (.cons (.lst (Ad.of h.et) h.tg.dts) (.cons (.lst (Ad.of h.er) h.tq.dts) .nil)))
def Ir(s r:AO):DR 4 (GP s) (GP r):=by refine .tup (.cons (.lst (Bp.of λd hd e a=>?_)) (.cons (.lst (Bp.of λd hd e a=>?_)) (.nil _)));obtain⟨p,_,rfl⟩:=Bo.mp hd;obtain⟨q,_,rfl⟩:=Bo.mp a;exact .tup (.cons (.str _ _) (.cons (.str _ _) (.cons (.int _ _) (.nil _))));obtain⟨p,_,rfl⟩:=Bo.mp hd;obtain⟨q,_,rfl⟩:=Bo.mp a;exact .tup (.cons (.str _ _) (.cons (.str _ _) (.cons (.str _ _) (.cons (.int _ _) (.nil _)))))
def Iu(ss b:List AO)(gs c:G')(qs f:U'):DR 6 (Fn ss gs qs) (Fn b c f):=by refine .tup (.cons (.lst (Bp.of λd hd e a=>?_)) (.cons (.lst (Bp.of λd hd e a=>?_)) (.cons (.lst (Bp.of λd hd e a=>?_)) (.nil _))));obtain⟨p,_,rfl⟩:=Bo.mp hd;obtain⟨q,_,rfl⟩:=Bo.mp a;exact Ir p q;obtain⟨p,_,rfl⟩:=Bo.mp hd;obtain⟨q,_,rfl⟩:=Bo.mp a;exact .tup (.cons (.str _ _) (.cons (.int _ _) (.nil _)));obtain⟨p,_,rfl⟩:=Bo.mp hd;obtain⟨q,_,rfl⟩:=Bo.mp a;refine .tup (.cons (.int _ _) (.cons (.int _ _) (.cons (.tup (Bp.of λd hd e a=>?_)) (.nil _))));obtain⟨p,_,rfl⟩:=Bo.mp hd;obtain⟨q,_,rfl⟩:=Bo.mp a;exact .str _ _
def ON{n:Nat}(h:n<1000000):n<sizeLine:=EK h (by decide)
abbrev NC (K:Ah):R'->Hp->VK->Prop:=λxs H Q=>∃p ys,xs=[V.ref p]/\(Ad K H p ys\/Am K H p ys)/\∀l,H l=none->Q (V.ref l) (upd H l (HO.lst ys))
open PySem.SeqAt
open PySem.AutoSeq1 (wpAny_loadPart')
open PySem.MeetsSeq PySem.MeetsSeq2 PySem.MeetsSeq3
def BS (A:Around) (s:Shared) (x y:Value) (b:Bool):Prop:=
 ∀(prog:Program)(w:World)(E:B')(Q:B'),Q (.bool b) s->wpAny (model prog w) A (richCompare .Lt x y) Q E s
inductive Bu (A:Around) (s:Shared):D'->D'->Bool->Prop where
 |nil:Bu A s [] [] false
 |lt (w:Value) (ws:D'):Bu A s [] (w::ws) true
 |gt (v:Value) (vs:D'):Bu A s (v::vs) [] false
 |eq {v w:Value} {vs ws:D'} {b:Bool} (h:EqAt A s v w true) (t:Bu A s vs ws b):Bu A s (v::vs) (w::ws) b
 |ne {v w:Value} {vs ws:D'} {b:Bool} (h:EqAt A s v w false) (l:BS A s v w b):Bu A s (v::vs) (w::ws) b
def VH(l b:Addr)(e f:K')(n D:Nat)(E L:Option Addr)(F M:Array (I'))(c:Bool) :
 Meets (Builtin.«tuple.__lt__» ⟨[.ref l,.ref b],[]⟩)
  (λA R s=>s.heap.get? l=some {cls:=.type "tuple",dict:=E,data:=.seq e n,slots:=F}/\s.heap.get? b=some {cls:=.type "tuple",dict:=L,data:=.seq f D,slots:=M} /\
   Bu A.in1 s e.toList f.toList c/\R (.ok (.ret (.bool c))) s):=
 .of_wp λu w A R s h=>by
  obtain⟨v,g,d,O,z⟩:=s;obtain⟨G,H,i,h⟩:=h;have P:=AutoSeq1.sub_tuple_tuple
  wp_walk using wpAny_loadPart' G,wpAny_loadPart' H,wpAny_forIn_list _ (λB b Z=>b.1=none/\Z=⟨v,g,d,O,z⟩/\∃(j k:D'),B=j.zip k /\
   Bu A.in1 ⟨v,g,d,O,z⟩ j k c/\j.length+f.size=k.length+e.size) _
  case turn =>
   rintro⟨y,x⟩ B b Z ⟨q,rfl,j,k,a,r,m⟩
   cases r with
   |nil=>rw[List.zip_nil_left] at a;cases a
   |lt=>rw[List.zip_nil_left] at a;cases a
   |gt=>rw[List.zip_nil_right] at a;cases a
   |eq o I=>
    rw[List.zip_cons_cons] at a;injection a with t C;injection t with p i;subst p i;simp only[EU] at m;refine Ag (o u w _ _ ?_)
    wp_walk
    exact⟨rfl,rfl,_,_,C,I,by lia⟩
   |ne o J=>
    rw[List.zip_cons_cons] at a;injection a with t C;injection t with p i;subst p i;refine Ag (o u w _ _ ?_);have N:=J u w
    wp_walk using N
    exact⟨_,rfl,by simpa using h⟩
  case fin =>
   rintro⟨Q,S⟩ Z ⟨q,rfl,j,k,a,r,m⟩;simp only at q;subst q
   have K:c=decide (e.size<f.size):=by
    cases r with|nil=>simp only[Hu] at m;exact(BM (by lia)).symm|lt=>simp only[Hu,EU] at m;exact(Ca (by lia)).symm|gt=>simp only[Hu,EU] at m;exact(BM (by lia)).symm|eq=>rw[List.zip_cons_cons] at a;cases a|ne=>rw[List.zip_cons_cons] at a;cases a
   rw[K] at h
   wp_walk
   exact⟨_,rfl,by simpa [Builtin.Tuple.tupleCompareSizes] using h⟩
  case h =>
   exact⟨rfl,rfl,e.toList,f.toList,rfl,i,by simp[Nat.add_comm]⟩
def VI(l b:Addr)(e f:K')(n C:Nat)(D N:Option Addr)(E P:Array (I'))(c:Bool)(k:Nat) :
 ∀i:Nat,e.size-i=k->i<=e.size->i<=f.size->Meets (Builtin.«list.__eq__.loop» ⟨[.ref l,.ref b,rawInt i,rawInt 0],[]⟩)
  (λA R s=>s.heap.get? l=some {cls:=.type "list",dict:=D,data:=.seq e n,slots:=E}/\s.heap.get? b=some {cls:=.type "list",dict:=N,data:=.seq f C,slots:=P} /\
   Bu A.in1 s (e.toList.drop i) (f.toList.drop i) c/\R (.ok (.ret (.bool c))) s):=by
 induction k with
 |zero=>
  intro i F G Q q w A R s h;obtain⟨H,g,d,O,I⟩:=s;obtain⟨j,m,a,h⟩:=h;have u:e.toList.drop i=[]:=by simp;lia
  rw[u] at a
  have v:c=decide (e.size<f.size):=by
   generalize o:f.toList.drop i=r at a;have x:=DK List.length o;simp only[IX,Array.length_toList] at x;cases a with|nil=>simp only[Hu] at x;exact(BM (by lia)).symm|lt=>simp only[EU] at x;exact(Ca (by lia)).symm
  wp_walk using wpAny_loadPart' j,wpAny_loadPart' m
  have p:e[((i:Nat):Int).toNat]?=none:=by simp;lia
  rw[p]
  wp_walk using wpAny_loadPart' j,wpAny_loadPart' m
  show R (.ok (.ret (.bool (decide (e.size<f.size))))) _;rw[<-v];exact h
 |succ k J=>
  intro i F G Q q w A R s h;obtain⟨H,g,d,O,I⟩:=s;obtain⟨j,m,a,h⟩:=h;have z:i<e.size:=(by lia);have p:e[((i:Nat):Int).toNat]?=some e[i]:=(by simp[z]);have u:e.toList.drop i=e[i]::e.toList.drop (i+1):=(by simp[PL,z]);rw[u] at a
  wp_walk using wpAny_loadPart' j,wpAny_loadPart' m
  by_cases B:i<f.size;have t:f[((i:Nat):Int).toNat]?=some f[i]:=(by simp[B]);have o:f.toList.drop i=f[i]::f.toList.drop (i+1):=(by simp[PL,B]);have K:((i:Int)+1)=((i+1:Nat):Int):=by push_cast;rfl
  rw[o] at a;rw[p,t]
  cases a with
  |eq y L=>
   refine Ag (y q w _ _ ?_)
   wp_walk
   rw[K]
   exact⟨plainId_quiet plain_eq_loop _,codeAny_builtin entry_eq_loop (by
    rw[v' plain_eq_loop _];exact J (i+1) (by lia) (by lia) (by lia) q w A R _ ⟨j,m,L,h⟩)⟩
  |ne y M=>
   refine Ag (y q w _ _ ?_);have S:=M q w
   wp_walk using wpAny_loadPart' j,wpAny_loadPart' m
   rw[p,t]
   wp_walk using S
   exact h
  have t:f[((i:Nat):Int).toNat]?=none:=by simp;lia
  have o:f.toList.drop i=[]:=by simp;lia
  rw[o] at a;have v:c=decide (e.size<f.size):=(by cases a;exact(BM (by lia)).symm);rw[p,t]
  wp_walk using wpAny_loadPart' j,wpAny_loadPart' m
  show R (.ok (.ret (.bool (decide (e.size<f.size))))) _;rw[<-v];exact h
def TD(l b:Addr)(e f:K')(n a:Nat)(i o:Option Addr)(j p:Array (I'))(c:Bool) :
 Meets (Builtin.«list.__lt__» ⟨[.ref l,.ref b],[]⟩)
  (λA R s=>s.heap.get? l=some {cls:=.type "list",dict:=i,data:=.seq e n,slots:=j}/\s.heap.get? b=some {cls:=.type "list",dict:=o,data:=.seq f a,slots:=p} /\
   Bu A.in1 s e.toList f.toList c/\R (.ok (.ret (.bool c))) s):=by
 intro r w A R s h;obtain⟨t,g,d,O,u⟩:=s;obtain⟨k,m,q,h⟩:=h;have v:=AutoSeq1.sub_list_list
 wp_walk using wpAny_loadPart' k,wpAny_loadPart' m
 exact⟨plainId_quiet plain_eq_loop _,codeAny_builtin entry_eq_loop (by
  rw[v' plain_eq_loop _];exact VI l b e f n a i o j p c _ 0 rfl (B8 _) (B8 _) r w A R _ ⟨k,m,by simpa using q,h⟩)⟩
section
variable {A:Around} {s:Shared}
variable {l:Addr}{e f:K'}
def BS.tuples{c:Bool}(k:IsTup s.heap l e)(m:IsTup s.heap b f)(o:Bu A.in1 s e.toList f.toList c)(p:A.units<cLine):BS A s (.ref l) (.ref b) c:=λz w E Q h=>by
 obtain⟨⟨y,q,B,r⟩,a,d,n,hd⟩:=id k;obtain⟨⟨C,u,data2,v⟩,g,i,t,j⟩:=id m;simp only at d hd i j;subst d hd i j
 exact richCompare_meets_room (op:=.Lt) ⟨_,a,rfl⟩ ⟨_,g,rfl⟩ PySem.F.slot_tuple_lt PySem.F.entry_tuple_lt (PySem.F.args_tuple_lt_2 _ _) (VH l b e f n t q u r v c)
  ⟨a,g,o,show Value.bool c≠Value.notImplemented/\Q (.bool c) s from⟨(λx=>nomatch x),h⟩⟩ p
def BS.lists{c:Bool}(k:s.heap.IsList l e)(m:s.heap.IsList b f)(o:Bu A.in1 s e.toList f.toList c)(p:A.units<cLine):BS A s (.ref l) (.ref b) c:=λz w E Q h=>by
 obtain⟨⟨y,q,B,r⟩,a,d,n,hd⟩:=id k;obtain⟨⟨C,u,data2,v⟩,g,i,t,j⟩:=id m;simp only at d hd i j;subst d hd i j
 exact richCompare_meets_room (op:=.Lt) ⟨_,a,rfl⟩ ⟨_,g,rfl⟩ PySem.F.slot_list_lt PySem.F.entry_list_lt (PySem.F.args_list_lt_2 _ _) (TD l b e f n t q u r v c)
  ⟨a,g,o,show Value.bool c≠Value.notImplemented/\Q (.bool c) s from⟨(λx=>nomatch x),h⟩⟩ p
def TF{prog:Program}{w:World}{E:B'}{c:Bool}{Q:Bool->Shared->Prop}(j:s.heap.IsList l e)(k:s.heap.IsList b f)(m:Bu A.in1 s e.toList f.toList c)(o:A.units<cLine)(h:Q c s) :
 wpAny (model prog w) A (oneLt' true (.ref l) (.ref b)) Q E s:=by
 obtain⟨⟨x,p,y,q⟩,a,d,n,hd⟩:=id j;obtain⟨⟨z,t,data2,u⟩,v,g,r,i⟩:=id k;simp only at d hd g i;subst d hd g i;rw[oneLt'_eq];simp only[if_true];refine Ag (wpAny_cRoomFor o ?_);refine Ag (wpAny_callSpecialIfBound?_slot (T:= "list") ⟨_,a,rfl⟩ PySem.F.slot_list_lt (call_meets PySem.F.slot_list_lt ⟨_,a,rfl⟩ PySem.F.entry_list_lt (PySem.F.args_list_lt_2 _ _) (TD l b e f n r p t q u c) ⟨a,v,m,?_⟩));exact Ey h
end
def En (O:KeyOrd):List O.α->List O.α->Bool
 |[],[]=>false
 |[],_::_=>true
 |_::_,[]=>false
 |x::xs,y::ys=>O.blt x y || (!O.blt y x && En O xs ys)
def KX(O:KeyOrd)(x y:O.α)(xs ys:List O.α):En O (x::xs) (y::ys)=(O.blt x y || (!O.blt y x && En O xs ys)):=rfl
theorem TH(O:KeyOrd):∀xs,En O xs xs=false
 |[]=>rfl
 |x::xs=>by rw[KX,O.irrefl,TH O xs];rfl
theorem TJ(O:KeyOrd):∀xs ys zs,En O xs ys=true->En O ys zs=true->En O xs zs=true
 |[],[],_,h,_=>by cases h
 |[],_::_,[],_,k=>by cases k
 |[],_::_,_::_,_,_=>rfl
 |_::_,[],_,h,_=>by cases h
 |_::_,_::_,[],_,k=>by cases k
 |x::xs,y::ys,z::zs,a,b=>by
   rw[KX] at *;simp only[Bool.or_eq_true,Bool.and_eq_true,Bool.not_eq_true'] at a b ⊢;rcases a with a|⟨a,c⟩<;>rcases b with b|⟨b,d⟩;exact .inl (O.trans _ _ _ a b);exact .inl (KeyOrd.klt_of_klt_of_kle a b);exact .inl (KeyOrd.klt_of_kle_of_klt a b);exact .inr ⟨KeyOrd.kle_trans (O:=O) a b,TJ O xs ys zs c d⟩
theorem TL(O:KeyOrd):∀xs ys zs,En O xs zs=true->En O xs ys=true\/En O ys zs=true
 |[],[],[],h=>by cases h
 |[],[],_::_,_=>.inr rfl
 |[],_::_,_,_=>.inl rfl
 |_::_,_,[],h=>by cases h
 |_::_,[],_::_,_=>.inr rfl
 | x :: xs,y :: ys,z :: zs,h=>by
   rw[KX] at *;rw[KX];simp only[Bool.or_eq_true,Bool.and_eq_true,Bool.not_eq_true'] at h ⊢;rcases h with h|⟨h,k⟩;rcases O.negTrans _ y _ h with h|h;exact .inl (.inl h);exact .inr (.inl h)
   cases b:O.blt x y with
   |true=>exact .inl (.inl rfl)
   |false=>
    cases c:O.blt y z with
    |true=>exact .inr (.inl rfl)
    |false=>have d:O.kle y x:=b;have e:O.kle z y:=c;have a:O.kle x z:=h;have f:O.blt y x=false:=KeyOrd.kle_trans (O:=O) a e;have g:O.blt z y=false:=KeyOrd.kle_trans (O:=O) d a;rcases TL O xs ys zs k with k|k;exact .inl (.inr ⟨f,k⟩);exact .inr (.inr ⟨g,k⟩)
theorem TM(O:KeyOrd):∀xs ys,En O xs ys=false->En O ys xs=false->xs=ys
 |[],[],_,_=>rfl
 |[],_::_,h,_=>by cases h
 |_::_,[],_,k=>by cases k
 |x::xs,y::ys,a,b=>by rw[KX] at a b;simp only[Bool.or_eq_false_iff,Bool.and_eq_false_iff,Bool.not_eq_false'] at a b;have c:x=y:=O.total _ _ a.1 b.1;have d:xs=ys:=TM O xs ys (by rcases a.2 with z|z;exact absurd (b.1.symm.trans z) (by simp);exact z) (by rcases b.2 with z|z;exact absurd (a.1.symm.trans z) (by simp);exact z);rw[c,d]
@[reducible] def ND (O:KeyOrd):KeyOrd where
 α:=List O.α
 blt:=En O
 irrefl:=TH O
 trans:=TJ O
 negTrans:=TL O
 total:=TM O
variable {O:KeyOrd}
def MD{P:KeyOrd}(x y:(B3 O P).α)(e:x.1=y.1):(B3 O P).blt x y=P.blt x.2 y.2:=by show(O.blt x.1 y.1 || (!O.blt y.1 x.1 && P.blt x.2 y.2))=_;rw[e,O.irrefl];rfl
def ME{P:KeyOrd}(x y:(B3 O P).α)(e:x.1≠y.1):(B3 O P).blt x y=O.blt x.1 y.1:=by
 show(O.blt x.1 y.1 || (!O.blt y.1 x.1 && P.blt x.2 y.2))=_
 cases a:O.blt x.1 y.1 with
 |true=>rfl
 |false=>
  cases b:O.blt y.1 x.1 with|true=>rfl|false=>exact absurd (O.total _ _ a b) e
def VJ(x:O.α)(xs ys:List O.α):En O (x::xs) (x::ys)=En O xs ys:=by rw[KX,O.irrefl];rfl
def VL{x y:O.α}(xs ys:List O.α)(e:x≠y):En O (x::xs) (y::ys)=O.blt x y:=by
 rw[KX]
 cases a:O.blt x y with
 |true=>rfl
 |false=>
  cases b:O.blt y x with|true=>rfl|false=>exact absurd (O.total _ _ a b) e
mutual
theorem DR.mono {n m:Nat}{d e:Dt} (c:DR n d e) (h:n<=m):DR m d e:=by
 cases c with
 | non=>exact .non
 | bl a b=>exact .bl a b
 | int a b=>exact .int a b
 | str a b=>exact .str a b
 | tup t=>cases m with
   | zero=>exact absurd h (Nat.not_succ_le_zero _)
   | succ m=>exact .tup (Bp.mono t (Nat.le_of_succ_le_succ h))
 | lst t=>cases m with
   | zero=>exact absurd h (Nat.not_succ_le_zero _)
   | succ m=>exact .lst (Bp.mono t (Nat.le_of_succ_le_succ h))
 | apart a=>cases m with
   | zero=>exact absurd h (Nat.not_succ_le_zero _)
   | succ m=>exact .apart a
theorem Bp.mono {n m:Nat}{ds a:List Dt} (c:Bp n ds a) (h:n<=m):Bp m ds a:=by
 cases c with| nil=>exact .nil _| nil'=>exact .nil' _| cons c t=>exact .cons (DR.mono c h) (Bp.mono t h)
end
structure Enc where
 O:KeyOrd
 D:O.α->Dt
 dflt:O.α
 dep:Nat
 cmp:∀a b,DR dep (D a) (D b)
 inj:∀a b,D a=D b->a=b
 lt:∀{X:Cx}{pins:A'}{σ:St}{H:Hp}{s:Shared},Inv X pins σ H s->∀{a b:O.α}{v u:V}{x y:Value}{A:Around},Aw X.K H v (D a)->Aw X.K H u (D b)->RelV v x->RelV u y->A.units+dep<cLine->BS A s x y (O.blt a b)
section
variable {X:Cx} {pins:A'} {σ:St} {H:Hp} {s:Shared}
def Enc.eq(c:Enc)(I:Inv X pins σ H s){a b:c.O.α}{u:V}{x y:Value}{A:Around}(d:Aw X.K H v (c.D a))(e:Aw X.K H u (c.D b))(f:RelV v x)(g:RelV u y)(h:A.units+c.dep<cLine):EqAt A s x y (dec (a=b)):=by
 have:=Tf (A:=A) I (c.cmp a b) d e f g h
 rwa [Nm (p:=c.D a=c.D b) (q:=a=b) ⟨c.inj a b,λz=>by rw[z]⟩] at this
def Enc.lex(c:Enc)(I:Inv X pins σ H s){a b:c.O.α}{u:V}{x y:Value}{A:Around}{vs h:D'}{e f:Bool}(i:Aw X.K H v (c.D a))(j:Aw X.K H u (c.D b))(k:RelV v x)(l:RelV u y)(m:A.units+c.dep<cLine)(n:a=b->Bu A s vs h e/\f=e)(o:a≠b->f=c.O.blt a b):Bu A s (x::vs) (y::h) f:=by have d:=c.eq (A:=A) I i j k l m;by_cases g:a=b;rw[ED g] at d;obtain⟨t,rfl⟩:=n g;exact .eq d t;rw[Fk g] at d;rw[o g];exact .ne d (c.lt I i j k l m)
end
@[reducible] def Fo:Enc where
 O:=Nv
 D:=Dt.int
 dflt:=(0:Int)
 dep:=0
 cmp a b:=.int a b
 inj a b h:=Dt.int.inj h
 lt {X pins σ H s} I {a b v u x y A} hv hu rx ry _:=by cases hv;cases hu;obtain⟨t,rfl⟩:=rx;obtain⟨t',rfl⟩:=ry;exact λprog w E Q h=>(PySem.P.lt_int h:wpAny (model prog w) _ (compareOp .Lt _ _) Q E _)
@[reducible] def QY:Enc where
 O:=Fl
 D:=Dt.str
 dflt:=(default:Str)
 dep:=0
 cmp a b:=.str a b
 inj a b h:=Dt.str.inj h
 lt {X pins σ H s} I {a b v u x y A} hv hu rx ry _:=by cases hv;cases hu;obtain⟨t,rfl⟩:=rx;obtain⟨t',rfl⟩:=ry;exact λprog w E Q h=>(PySem.P.lt_str h:wpAny (model prog w) _ (compareOp .Lt _ _) Q E _)
section
variable {X:Cx} {pins:A'} {σ:St} {H:Hp} {s:Shared}
def Enc.lexL(c:Enc)(I:Inv X pins σ H s){A:Around}(k:A.units+c.dep<cLine):∀{d bs:List c.O.α}{vs us:R'}{xs ys:D'},Au X.K H vs (d.map c.D)->Au X.K H us (bs.map c.D)->Aq vs xs->Aq us ys->Bu A s xs ys (En c.O d bs):=by
 intro d
 induction d with
 |nil=>
  intro bs vs us xs ys i f j g;cases i;cases j;cases bs with|nil=>cases f;cases g;exact .nil|cons b bs=>cases f;cases g;exact .lt _ _
 |cons a d l=>
  intro bs vs us xs ys i f j g
  cases i with
  |cons h t=>cases j with
    |cons r q=>cases bs with
      |nil=>cases f;cases g;exact .gt _ _
      |cons b bs=>cases f with
        |cons m n=>cases g with
          |cons o p=>exact c.lex I h m r o k (λe=>⟨l t n q p,by subst e;exact VJ a d bs⟩) (λe=>VL d bs e)
end
theorem TN(c:Enc):∀{a b:List c.O.α},a.map c.D=b.map c.D->a=b
 |[],[],_=>rfl
 |[],_::_,h=>by cases h
 |_::_,[],h=>by cases h
 |x::a,y::b,h=>by rw[Ec,Ec] at h;injection h with d e;rw[c.inj x y d,TN c e]
@[reducible] def DT (c:Enc):Enc where
 O:=ND c.O
 D l:=Dt.lst (l.map c.D)
 dflt:=([]:List c.O.α)
 dep:=c.dep+1
 cmp a b:=.lst (Bp.of λd hd e he=>by
  obtain⟨x,_,rfl⟩:=Bo.mp hd;obtain⟨y,_,rfl⟩:=Bo.mp he;exact c.cmp x y)
 inj a b h:=TN c (Dt.lst.inj h)
 lt {X pins σ H s} I {a b v u x y A} hv hu rx ry hA:=by
  cases hv with
  |lst h t=>
   cases hu with|lst h' t'=>cases rx;cases ry;obtain⟨its,r,p,_⟩:=I.list h;obtain⟨its',r',p',_⟩:=I.list h';exact BS.lists p.isList p'.isList (c.lexL (A:=A.in1) I (by rw[GK];lia) t t' r r') (by lia)
def KY{K:Ah}{vs:R'}{d e:Dt}(h:Au K H vs [d,e]):∃a b,vs=[a,b]/\Aw K H a d/\Aw K H b e:=by
 cases h with
 |cons c t=>cases t with
   |cons f t=>cases t;exact⟨_,_,rfl,c,f⟩
def NE{K:Ah}{vs:R'}{d e f:Dt}(h:Au K H vs [d,e,f]):∃a b c,vs=[a,b,c]/\Aw K H a d/\Aw K H b e/\Aw K H c f:=by
 cases h with|cons g t=>obtain⟨a,b,rfl,i,j⟩:=KY t;exact⟨_,_,_,rfl,g,i,j⟩
def GQ{x y z:V}{us:D'}(r:Aq [x,y,z] us):∃u w v,us=[u,w,v]/\RelV x u/\RelV y w/\RelV z v:=by
 cases r with|cons c d=>obtain⟨a,b,rfl,e,f⟩:=Gv d;exact⟨_,_,_,rfl,c,e,f⟩
@[reducible] def MF (c d:Enc):Enc where
 O:=B3 c.O d.O
 D p:=Dt.tup [c.D p.1,d.D p.2]
 dflt:=(c.dflt,d.dflt)
 dep:=max c.dep d.dep+1
 cmp a b:=.tup (.cons ((c.cmp a.1 b.1).mono (Nat.le_max_left _ _)) (.cons ((d.cmp a.2 b.2).mono (Nat.le_max_right _ _)) (.nil _)))
 inj a b h:=by injection h with h;injection h with h1 h2;injection h2 with h2 _;exact Prod.ext (c.inj _ _ h1) (d.inj _ _ h2)
 lt {X pins σ H s} I {a b v u x y A} hv hu rx ry hA:=by
  have m1:=Nat.le_max_left c.dep d.dep;have m2:=Nat.le_max_right c.dep d.dep
  cases hv with
  |tup h t=>
   cases hu with|tup h' t'=>cases rx;cases ry;obtain⟨its,r,p,_⟩:=I.tuple h;obtain⟨its',r',p',_⟩:=I.tuple h';obtain⟨v1,v2,rfl,t1,t2⟩:=KY t;obtain⟨u1,u2,rfl,s1,s2⟩:=KY t';obtain⟨x1,x2,rfl,r1,r2⟩:=Gv r;obtain⟨y1,y2,rfl,q1,q2⟩:=Gv r';refine BS.tuples p p' (c.lex (A:=A.in1) I t1 s1 r1 q1 (by rw[GK];lia) (λe=>⟨d.lex (A:=A.in1) I t2 s2 r2 q2 (by rw[GK];lia) (λe'=>⟨.nil,?_⟩) λe'=>rfl,MD a b e⟩) λe=>ME a b e) (by lia);rw[e',d.O.irrefl]
@[reducible] def Jp (c d e:Enc):Enc where
 O:=B3 c.O (B3 d.O e.O)
 D p:=Dt.tup [c.D p.1,d.D p.2.1,e.D p.2.2]
 dflt:=(c.dflt,d.dflt,e.dflt)
 dep:=max c.dep (max d.dep e.dep)+1
 cmp a b:=.tup (.cons ((c.cmp a.1 b.1).mono (Nat.le_max_left _ _)) (.cons ((d.cmp a.2.1 b.2.1).mono (by lia)) (.cons ((e.cmp a.2.2 b.2.2).mono (by lia)) (.nil _))))
 inj a b h:=by injection h with h;injection h with h1 h2;injection h2 with h2 h3;injection h3 with h3 _;exact Prod.ext (c.inj _ _ h1) (Prod.ext (d.inj _ _ h2) (e.inj _ _ h3))
 lt {X pins σ H s} I {a b v u x y A} hv hu rx ry hA:=by
  have m1:=Nat.le_max_left c.dep (max d.dep e.dep);have m2:=Nat.le_max_right c.dep (max d.dep e.dep);have m3:=Nat.le_max_left d.dep e.dep;have m4:=Nat.le_max_right d.dep e.dep
  cases hv with
  |tup h t=>
   cases hu with|tup h' t'=>cases rx;cases ry;obtain⟨its,r,p,_⟩:=I.tuple h;obtain⟨its',r',p',_⟩:=I.tuple h';obtain⟨v1,v2,v3,rfl,t1,t2,t3⟩:=NE t;obtain⟨u1,u2,u3,rfl,s1,s2,s3⟩:=NE t';obtain⟨x1,x2,x3,rfl,r1,r2,r3⟩:=GQ r;obtain⟨y1,y2,y3,rfl,q1,q2,q3⟩:=GQ r';refine BS.tuples p p' (c.lex (A:=A.in1) I t1 s1 r1 q1 (by rw[GK];lia) (λg=>⟨d.lex (A:=A.in1) I t2 s2 r2 q2 (by rw[GK];lia) (λg'=>⟨e.lex (A:=A.in1) I t3 s3 r3 q3 (by rw[GK];lia) (λg''=>⟨.nil,?_⟩) λ_=>rfl,MD a.2 b.2 g'⟩) λg'=>ME a.2 b.2 g',MD a b g⟩) λg=>ME a b g) (by lia);rw[g'',e.O.irrefl]
section
variable {X:Cx}
abbrev FU (c:Enc):Type:=V×c.O.α
def OO (X:Cx) (c:Enc):R'->Hp->VK->Prop:=λvs H Q=>∃(l:Addr)(zs:List (FU c)),vs=[.ref l]/\Ad X.K H l (zs.map (·.1))/\zs.length<64 /\
 (∀z∈zs,Aw X.K H z.1 (c.D z.2))/\∀(D:Addr)(zs':List (FU c)),zs'.Perm zs->(zs'.map (·.2)).Pairwise c.O.kle->H D=none->Q (.ref D) (upd H D (.lst (zs'.map (·.1))))
theorem QZ(c:Enc)(κ:SortKind)
 (aj:∀(pins:A')(σ:St)(H:Hp)(s:Shared)(zs:List (FU c))(m:D')(Q:SortKind->Shared->Prop),Inv X pins σ H s->Aq (zs.map (·.1)) m->(∀z∈zs,Aw X.K H z.1 (c.D z.2))->2<=m.length->Q κ s->wpAny (model X.prog X.w) X.A.in1.in1 (keyKind' m.toArray) Q (λ_ _=>False) s)
 (ai:∀(pins:A')(σ:St)(H:Hp)(s:Shared)(z o:FU c)(x y:Value)(C:Bool->Shared->Prop),Inv X pins σ H s->Aw X.K H z.1 (c.D z.2)->Aw X.K H o.1 (c.D o.2)->RelV z.1 x->RelV o.1 y->C (c.O.blt z.2 o.2) s->wpAny (model X.prog X.w) X.A.in1.in1 (keyLt' κ x y) C (λ_ _=>False) s) :
 A8 X (.builtin "sorted") (OO X c):=by
 intro pins s σ H vs us Q I r h;obtain⟨l,zs,rfl,M,al,w,q⟩:=h;obtain⟨u,rfl,N⟩:=El r;obtain rfl:u=Value.ref l:=N;obtain⟨m,t,P,_⟩:=I.list M;have K:zs.length=m.length:=by have:=t.length;rwa [Al] at this
 let d:FU c:=(V.non,c.dflt)
 have v:∀i,i<zs.length->RelV (zs.getD i d).1 (m.getD i Value.none)/\Aw X.K H (zs.getD i d).1 (c.D (zs.getD i d).2):=λi f=>by
  have:=Nw t i V.non Value.none (by rw[Al];exact f);have e:(zs.map (·.1)).getD i V.non=(zs.getD i d).1:=(by rw[BZ,AV,BZ,AQ f];rfl);rw[e] at this;refine⟨this,w _ ?_⟩;rw[BZ,AQ f];exact Di f
 refine QQ (O:=c.O) (key:=λi=>(zs.getD i d).2) (κ:=κ) (vs:=m) P.isList (by lia) (λp A k R S=>?_) (λA k i j C f hj T=>?_) λD A n g U B J ae W=>?_;exact aj pins σ H _ zs m R (I.kept (t':=s.toks) k) t w p S;obtain⟨Y,Z⟩:=v i (by lia);obtain⟨b1,b2⟩:=v j (by lia);unfold PySem.W.kas_ask;exact ai pins σ H _ _ _ _ _ C (I.kept (t':=s.toks) k) Z b2 Y b1 T
 have af:∀i∈g,i<zs.length:=λi f=>by
  have:=J.mem_iff.mp f;rw[K];simpa using this
 have ak:(List.range zs.length).map (λi=>zs.getD i d)=zs:=(by apply v5;intro k;by_cases E:k<zs.length;simp[E,BZ];simp[E])
 have L:(g.map λi=>zs.getD i d).Perm zs:=by
  have:=J.map (λi=>zs.getD i d)
  rwa [<-K,ak] at this
 have hv:Aq ((g.map λi=>zs.getD i d).map (·.1)) (g.map λi=>m.getD i Value.none):=(by rw[DI];exact OL g λi f=>(v i (af i f)).1)
 have ag:((g.map λi=>zs.getD i d).map (·.2)).Pairwise c.O.kle:=by
  refine OK (λ_ _ _=>KeyOrd.kle_trans) _ λi a b F p=>?_;rw[DI,AV,CD] at F p;obtain⟨x,e1,rfl⟩:=F;obtain⟨y,G,rfl⟩:=p;obtain⟨ah,_⟩:=AS.mp G;have:=ae i ah;have aa:g.getD i 0=x:=by rw[BZ,e1];rfl
  have ab:g.getD (i+1) 0=y:=by rw[BZ,G];rfl
  rw[aa,ab] at this;exact this
 exact⟨.ref D,upd H D (.lst ((g.map λi=>zs.getD i d).map (·.1))),I.laidN (t':=s.toks) U B ⟨by rw[Al,L.length_eq];exact Dk (Bz (by lia)),_,n,hv,W⟩,rfl,q D _ L ag (I.freshN B)⟩
variable {s:Shared}
def Q0{pins:A'}{M:Model}(I:Inv X pins σ H s){ds:List Dt}{x:Value}(h:Aw X.K H v (.lst ds))(r:RelV v x):PySem.W.Looks M s.heap (typeOf x) (.type "list"):=by
 cases h with|lst h t=>cases r;obtain⟨c,_,p,_⟩:=I.list h;obtain⟨o,a,b,_⟩:=p.isList;rw[<-b];exact(PySem.W.Looks.ld a).andThen .now
def VM(c:Enc)(J:X.A.units+64<cLine)(hd:c.dep<=50):A8 X (.builtin "sorted") (OO X (DT c)):=by
 refine QZ (DT c) oneType' (λG σ H s f E Q I b g j k=>?_) λG σ H s z l x y C I h a r m n=>?_;refine PySem.W.kas_kind (T:=.type "list") j (λv o=>?_) (by decide) (by decide) k;obtain⟨i,d⟩:=List.getElem?_of_mem o;have L:=(AS.mp d).1;have q:=b.length;rw[Al] at q;obtain⟨x,e,w⟩:=b.get (i:=i) (x:=(f[i]'(by lia)).1) (by rw[AV,AQ (by lia)];rfl);rw[d] at e;cases e;exact Q0 I (g _ (Di (by lia))) w;rw[keyLt'_oneType];obtain⟨v,K⟩:=z;obtain⟨u,bs⟩:=l
 cases h with
 |lst h t=>
  cases a with|lst a A=>cases r;cases m;obtain⟨E,B,p,_⟩:=I.list h;obtain⟨M,F,D,_⟩:=I.list a;exact TF p.isList D.isList (c.lexL I (by show _+1+1+1+_<_;lia) t A B F) (by show _+1+1<_;lia) n
theorem Q1(c:Enc){pins:A'}{σ:St}{H:Hp}{s:Shared}(I:Inv X pins σ H s){g:c.O.α->List Dt}:∀{zs:List (V×c.O.α)}{d:D'}{k:c.O.α->List Dt},Aq (zs.map (·.1)) d->(∀z∈zs,∃ds,k z.2=Dt.lst ds::g z.2/\Aw X.K H z.1 (.tup (k z.2))) ->
 ∃fs,PySem.W.KatTups s.heap d fs/\fs.length=zs.length/\∀v∈fs,∃(u:V)(ds:List Dt),Aw X.K H u (.lst ds)/\RelV u v
 |[],_,_,.nil,_=>⟨[],.nil,rfl,λ_ x=>by cases x⟩
 | z :: zs,_,k,.cons r f,h=>by
   obtain⟨fs,i,j,l⟩:=Q1 c I (zs:=zs) f λy m=>h y (DL _ m);obtain⟨ds,e,hd⟩:=h z Ea;rw[e] at hd;obtain⟨v,a⟩:=z;dsimp only at r hd
   cases hd with
   | tup p t=>
    cases r;obtain⟨d,q,⟨o,A,B,n,C⟩,_⟩:=I.tuple p
    cases t with
    |cons D F=>
     cases q with
     |cons E G=>refine⟨_::fs,.cons A B C rfl i,by simp[j],λw b=>?_⟩;rcases Cj.mp b with e|b;exact⟨_,ds,D,e▸E⟩;exact l w b
def Q2{A:Around}{prog:Program}{w:World}{E:B'}{x y:Value}{b:Bool}{Q:Bool->Shared->Prop}(h:BS A s x y b)(q:Q b s):wpAny (model prog w) A (oneLt' false x y) Q E s:=
 PySem.W.kat_one _ _ (h prog w E _ q)
def GR(c:Enc){pins:A'}(I:Inv X pins σ H s){A:Around}{a bs:List c.O.α}{u:V}{x y:Value}{prog:Program}{w:World}{E:B'}{Q:Bool->Shared->Prop}(h:Aw X.K H v ((DT c).D a))(h':Aw X.K H u ((DT c).D bs))(r:RelV v x)(b:RelV u y)(i:A.units+(c.dep+1)<cLine)(q:Q (En c.O a bs) s):wpAny (model prog w) A (oneLt' true x y) Q E s:=by
 cases h with
 |lst h t=>
  cases h' with|lst h' d=>cases r;cases b;obtain⟨j,e,p,_⟩:=I.list h;obtain⟨k,g,f,_⟩:=I.list h';exact TF p.isList f.isList (c.lexL I (by rw[GK];lia) t d e g) (by lia) q
def VN (c d:Enc) (hu:X.A.units + 64 < cLine) (h1:c.dep<=50) (h2:d.dep<=50):A8 X (.builtin "sorted") (OO X (MF (DT c) d)):=by
 refine QZ (MF (DT c) d) (tuples' true) (λaf σ H s zs W ag I m K hl L=>?_) λaf σ H s z M x ah C I h n r o a=>?_;obtain⟨fs,N,k2,O⟩:=Q1 (MF (DT c) d) I (k:=λp=>[(DT c).D p.1,d.D p.2]) (g:=λp=>[d.D p.2]) m λz Y=>⟨_,rfl,K z Y⟩;have Z:=m.length;rw[Al] at Z;refine PySem.W.kat_kind (T:=.type "list") N (by lia) (λv P=>?_) (by decide) L;obtain⟨u,ds,Q,R⟩:=O v P;exact Q0 I Q R;obtain⟨v,p⟩:=z;obtain⟨u,q⟩:=M;dsimp only at h n r o;change C ((MF (DT c) d).O.blt p q) s at a;have j:X.A.in1.in1.units=X.A.units+1+1:=rfl
 cases h with
 | tup S t=>
  cases n with
  | tup aa b=>
   cases r;cases o;obtain⟨W,e,⟨ox,ab,_,ai,U⟩,_⟩:=I.tuple S;obtain⟨ak,f,⟨oy,ae,_,aj,V⟩,_⟩:=I.tuple aa
   cases t with
   | cons w t=>cases t with
     | cons y t=>cases t; cases b with
       | cons B b=>cases b with
         | cons D b=>cases b; cases e with
           |cons E e=>cases e with
             |cons F e=>cases e; cases f with
               |cons G f=>cases f with
                 |cons J f=>
                  cases f;refine PySem.W.kat_lt ab U ae V (PySem.W.kat_cons ((DT c).eq (A:=X.A.in1.in1) I w B E G (by rw[j];show _+(c.dep+1)<_;lia) _ _ _ _ ?_));by_cases i:p.1=q.1;rw[ED i];rw[show(MF (DT c) d).O.blt p q=d.O.blt p.2 q.2 from MD p q i] at a;refine PySem.W.kat_yes (PySem.W.kat_cons (d.eq (A:=X.A.in1.in1) I y D F J (by rw[j];lia) _ _ _ _ ?_));by_cases l:p.2=q.2;rw[ED l];refine PySem.W.kat_yes (PySem.W.kat_nil ?_);rw[l,d.O.irrefl] at a;exact a;rw[Fk l];exact PySem.W.kat_no (Q2 (d.lt I y D F J (by rw[j];lia)) a);rw[Fk i];rw[show(MF (DT c) d).O.blt p q=En c.O p.1 q.1 from ME p q i] at a;exact PySem.W.kat_no (GR c I w B E G (by rw[j];lia) a)
def VO (c d e:Enc) (hu:X.A.units + 64 < cLine) (h1:c.dep<=50) (h2:d.dep<=50) (h3:e.dep<=50):A8 X (.builtin "sorted") (OO X (Jp (DT c) d e)):=by
 refine QZ (Jp (DT c) d e) (tuples' true) (λai σ H s zs aa aj I o Q hl R=>?_) λai σ H s z S x ak C I h w r y a=>?_;obtain⟨fs,U,k2,V⟩:=Q1 (Jp (DT c) d e) I (k:=λp=>[(DT c).D p.1,d.D p.2.1,e.D p.2.2]) (g:=λp=>[d.D p.2.1,e.D p.2.2]) o λz ab=>⟨_,rfl,Q z ab⟩;have ae:=o.length;rw[Al] at ae;refine PySem.W.kat_kind (T:=.type "list") U (by lia) (λv W=>?_) (by decide) R;obtain⟨u,ds,Y,Z⟩:=V v W;exact Q0 I Y Z;obtain⟨v,p⟩:=z;obtain⟨u,q⟩:=S;dsimp only at h w r y;change C ((Jp (DT c) d e).O.blt p q) s at a;have j:X.A.in1.in1.units=X.A.units+1+1:=rfl
 cases h with
 | tup hs t=>
  cases w with
  | tup af b=>
   cases r;cases y;obtain⟨aa,f,⟨ox,ag,_,al,dx⟩,_⟩:=I.tuple hs;obtain⟨ao,i,⟨oy,ah,_,an,dy⟩,_⟩:=I.tuple af
   cases t with
   | cons B t=>cases t with
     | cons D t=>cases t with
       | cons E t=>cases t; cases b with
         | cons F b=>cases b with
           | cons G b=>cases b with
             | cons J b=>cases b; cases f with
               | cons K f=>cases f with
                 | cons L f=>cases f with
                   |cons M f=>cases f; cases i with
                     |cons N i=>cases i with
                       |cons O i=>cases i with
                         |cons P i=>
                          cases i;refine PySem.W.kat_lt ag dx ah dy (PySem.W.kat_cons ((DT c).eq (A:=X.A.in1.in1) I B F K N (by rw[j];show _+(c.dep+1)<_;lia) _ _ _ _ ?_));by_cases l:p.1=q.1;rw[ED l];rw[show(Jp (DT c) d e).O.blt p q=(B3 d.O e.O).blt p.2 q.2 from MD p q l] at a;refine PySem.W.kat_yes (PySem.W.kat_cons (d.eq (A:=X.A.in1.in1) I D G L O (by rw[j];lia) _ _ _ _ ?_));by_cases m:p.2.1=q.2.1;rw[ED m];rw[show(B3 d.O e.O).blt p.2 q.2=e.O.blt p.2.2 q.2.2 from MD p.2 q.2 m] at a;refine PySem.W.kat_yes (PySem.W.kat_cons (e.eq (A:=X.A.in1.in1) I E J M P (by rw[j];lia) _ _ _ _ ?_));by_cases n:p.2.2=q.2.2;rw[ED n];refine PySem.W.kat_yes (PySem.W.kat_nil ?_);rw[n,e.O.irrefl] at a;exact a;rw[Fk n];exact PySem.W.kat_no (Q2 (e.lt I E J M P (by rw[j];lia)) a);rw[Fk m];rw[show(B3 d.O e.O).blt p.2 q.2=d.O.blt p.2.1 q.2.1 from ME p.2 q.2 m] at a;exact PySem.W.kat_no (Q2 (d.lt I D G L O (by rw[j];lia)) a);rw[Fk l];rw[show(Jp (DT c) d e).O.blt p q=En c.O p.1 q.1 from ME p q l] at a;exact PySem.W.kat_no (GR c I B F K N (by rw[j];lia) a)
end
def Jq (K:Ah) (l:Addr):It:=
 ⟨λi H=>∃xs x,Ad K H l xs/\xs[i]?=some x,
  λi H v H'=>∃T x,H T=none/\v=.ref T/\H'=upd H T (.tup [.int i,x])/\∀xs,Ad K H l xs->xs[i]?=some x,
  λi H=>∃xs,Ad K H l xs/\xs.length<=i⟩
def KZ (e it l:Addr) (i:Nat) (h:Heap):Prop:=(∃old,IsEnum h e it i old)/\h.IsListIter it l i
theorem VP{P:Program}{w:World}{K:Ah}{G:L'}{k:Nat}{e d l:Addr}(aa:e≠d) :
 EA P w K (.Tuple G k L) (Jq K l) [e,d] e (KZ e d l) where
 mem:=by simp
 obj:=λi h g b a=>by obtain⟨⟨A,f⟩,⟨o1,J,c1,d1⟩⟩:=g;simp at a;rcases a with rfl|rfl;exact⟨_,f,λv q=>by cases q⟩;exact⟨_,J,λv q=>by rw[d1] at q;cases q⟩
 keep:=λi h h' g Y=>by obtain⟨⟨A,f⟩,m⟩:=g;exact⟨⟨A,Y e (by simp) _ f⟩,m.at λo x=>Y d (by simp) o x⟩
 item:=by
  intro X M N O n i V s σ H E I y g Q;subst M N O;obtain⟨xs,x,F,Z⟩:=Q;obtain⟨⟨A,f⟩,m⟩:=g;obtain⟨au,U,R,ai⟩:=I.list F;obtain⟨C,aj,ak⟩:=U.get Z;refine wpAny_pyNext_enum_item f m R.isList (x:=C) (by simpa using aj) aa λh' a1 a2 a3 a4 hk=>?_;refine⟨_,rfl,wpAny_letOwnedTupleGo_enum (s:={s with heap:=h',toks:=s.toks+1}) a1 λB av W=>?_⟩;have p:=y e (by simp);have r:=y d (by simp);have FX:∀b u,H b=some u->b≠e/\b≠d:=λb u z=>⟨AN z p.1,AN z r.1⟩;have keep:∀b o,b≠e->b≠d->s.heap.get? b=some o->B.get? b=some o:=λb o D S z=>(W.2 b D).trans (hk b o D S z);have t:∀{b:Addr},b∉[e,d]->b≠e/\b≠d:=λ{b}a=>by simpa using a
  have I1:Inv X V σ H {s with heap:=B,toks:=s.toks+1}:=by
   refine I.step (g':=s.gens) (t':=s.toks+1) (d':=s.drawn) (h':=B) (ch:=[e,d]) (λb a=>?_) (λb j _ _ a z _=>keep b j (t a).1 (t a).2 z) (λb j _ _ a z _=>⟨j.slots,keep b j (t a).1 (t a).2 z⟩)
    (λ_ _ _ _ af=>af) (λb j a z=>⟨j,keep b j (t a).1 (t a).2 z⟩) (λ_ _ z=>z) (λ_ _ _ z=>z) (λb ps z=>⟨#[],by rw[z];simp⟩) (λaw hm=>?_) (λb u z=>?_) I.bare
   have:b=e\/b=d:=(by simpa using a);rcases this with rfl|rfl;exact⟨p.2.2.2.1,p.2.1,p.2.2.2.2.1,p.2.2.2.2.2⟩;exact⟨r.2.2.2.1,r.2.1,r.2.2.2.2.1,r.2.2.2.2.2⟩;obtain⟨o,G,ep,ho,ag⟩:=hm;exact⟨o,G,ep,keep _ o (Ne.symm p.2.1) (Ne.symm r.2.1) ho,ag⟩;refine(I.hok b u z).stay (λc v n q=>?_) (λ_ q=>q) λ_ _ q=>q;have al:∃T,H c=some T:=(by rcases n with rfl|n;exact⟨_,z⟩;exact⟨_,n⟩);obtain⟨T,e'⟩:=al;obtain⟨D,S⟩:=FX c T e';exact keep c v D S q
  have an:s.heap.objs.size≠e:=Nat.ne_of_gt (AY f);have ab:H s.heap.objs.size=none:=I.hok.fresh (AB _);have ae:B.get? s.heap.objs.size=some {cls:=.type "tuple",data:=.seq #[.int i s.toks,C]}:=(W.2 _ an).trans a3;have I2:Inv X V σ (upd H s.heap.objs.size (.tup [.int i,x])) {s with heap:=B,toks:=s.toks+1}:=(by refine I1.track (I.fpOk (AB _) ab) ⟨_,ae⟩ ?_;exact⟨by show 2<=sizeLine;decide,[.int i s.toks,C],.cons ⟨_,rfl⟩ (.cons ak .nil),⟨_,ae,rfl,_,rfl⟩⟩);refine⟨.ref s.heap.objs.size,_,I2,rfl,⟨s.heap.objs.size,x,ab,rfl,rfl,λzs ao=>by rw[I.list_inj ao F];exact Z⟩,?_,λb a=>?_⟩;refine⟨⟨C,by simpa using av⟩,a2.extBut W.extBut (Ne.symm aa)⟩;have aq:=(y b a).1;rw[Ax (λq=>?_)];exact aq;have ar:b=e\/b=d:=(by simpa using a);obtain⟨o1,J,_⟩:=m;have lt:b<s.heap.objs.size:=(by rcases ar with rfl|rfl;exact AY f;exact AY J);rw[q] at lt;exact absurd lt (EV _)
 done:=by intro X M N O n i V s σ H E I y g Q;subst M N O;obtain⟨xs,F,az⟩:=Q;obtain⟨⟨A,f⟩,m⟩:=g;obtain⟨au,U,R,ai⟩:=I.list F;have ay:=U.length;obtain⟨f0,ah,ax,f3,f4,f5⟩:=y d (by simp);exact wpAny_pyNext_enum_end (I.ok.hd n) f m R.isList (by simp;lia) λh' eb=>⟨rfl,I.turned (t':=s.toks) (λb o a z=>eb b o a z) f0 ah f3 f4 f5⟩
 self:=λ_ _ _ _ _ g h=>by obtain⟨⟨A,f⟩,_⟩:=g;exact wpAny_pyIter_enum f h
def NF (K:Ah) (F:TA):TI:=λσ H R=>F σ H λvs H1=>∃l,vs=[.ref l]/\(∃xs,H1 l=some (.lst xs))/\R (Jq K l) H1
def NG{X:Cx}{j:L'}{k:Nat}{c:Pos}{a:Expr}{F:TA}{p:Pos}(m:Gl X "enumerate")(o:X.mg "enumerate" = none)(r:PA X [a] F)(t:starEach [a] X.env=[(false,eval a X.env)]:=by rfl) :
 PI X (.Tuple j k c) (.Call (.Name "enumerate" p) [a] [] L) (NF X.K F):=by
 intro J s σ H R I h;refine Call_ (HD I m o (u:=.type "enumerate") (by decide +kernel) (PyProof.Rows.callWith_type1 (AJ (r L J s σ H _ I h) λus d⟨K,H1,f,v,w⟩=>?_) (by rw[t];rfl) (by rfl)));obtain⟨l,rfl,⟨M,x⟩,q⟩:=w;obtain⟨y,rfl,E⟩:=El v;obtain rfl:y=Value.ref l:=E;obtain⟨z,P,n,N,e⟩:=f.hok l _ x;have O:l<d.heap.objs.size:=AY e;refine call_enumerate_1 e λA g B Q C=>?_;refine wpAny_pyIter_enum (s:={d with heap:=A}) g ?_;refine⟨_,[d.heap.objs.size+1,d.heap.objs.size],_,_,H1,rfl,f.kept (t':=d.toks) C,VP (Nat.succ_ne_self _),⟨⟨_,g⟩,B⟩,λb D=>?_,q⟩;have i:d.heap.objs.size<=b:=(by have G:b=d.heap.objs.size+1\/b=d.heap.objs.size:=(by simpa using D);rcases G with rfl|rfl;exact Nat.le_add_right _ _;exact AB _);exact f.fpOk i (f.hok.fresh i)
def MG{K:Ah}{l:Addr}{xs:R'}{j:TS}{D:Ends}(Pv:Nat->St->Hp->Prop)(f:Pv 0 σ H)(h:∀i σ H,Pv i σ H->Ad K H l xs)
 (k:∀i x T σ H,xs[i]?=some x->H T=none->Pv i σ H->g (.ref T) σ (upd H T (.tup [.int i,x])) λσ2 a=>j {D with nx:=Pv (i+1),ct:=Pv (i+1),bk:=D.nx} σ2 a) (hd:∀σ H,Pv xs.length σ H->D.nx σ H) :
 ∃W:Nat->Nat->St->Hp->Prop,(∃m,W 0 m σ H)/\∀i m σ H,W i m σ H ->
  ((Jq K l).stop i H/\D.nx σ H)\/((Jq K l).go i H/\∃N:St->Hp->Prop,(∀σ' H',N σ' H'->∃c,c<m/\W (i+1) c σ' H')/\∀x H',(Jq K l).yld i H x H'->g x σ H' λσ2 a=>j {D with nx:=N,ct:=N,bk:=D.nx} σ2 a):=by
 refine⟨λi m σ H=>m=xs.length-i/\i<=xs.length/\Pv i σ H,⟨_,rfl,B8 _,f⟩,?_⟩;rintro i m σ H ⟨rfl,r,p⟩;have b:=h i σ H p;by_cases d:i<xs.length;refine .inr ⟨⟨xs,xs[i],b,by simp[d]⟩,Pv (i+1),λσ' H' n=>⟨xs.length-(i+1),by lia,rfl,d,n⟩,λv H' y=>?_⟩;obtain⟨T,x,o,rfl,rfl,q⟩:=y;exact k i x T σ H (q xs b) o p;have e:i=xs.length:=(by lia);refine .inl ⟨⟨xs,b,by lia⟩,?_⟩;rw[e] at p;exact hd σ H p
end L2
namespace PySem
section
variable {prog:Program} {w:World} {K:Type} [DecidableEq K] {knd:HeapKind prog w K} {A:Around} {E:B'} {s:Shared}
def VQ{d a:Addr}{xs:List (K×Addr×Value)}{k:K}{v:Value}{Q:B'}(l:knd.room A)(i:knd.is s.heap k a)(r:s.heap.DictOfH knd d xs)
 (t:∀p,atKey xs k=some p->Q p.2 {s with toks:=s.toks+knd.draws k})
 (u:atKey xs k=none->∀h',h'.DictOfH knd d (storedH xs k a v)->Heap.SameBut d s.heap h'->Q v {s with heap:=h',toks:=s.toks+knd.draws k})
 (hsz:xs.length<=sizeLine:=by size_fits) :
 wpAny (model prog w) A (dictSetDefault d (.ref a) v) Q E s:=by
 obtain⟨o,D,z,c,B,hd,g,q,h⟩:=r;unfold dictSetDefault
 try with_reducible refine EL ?_
 refine Ag (knd.pyHash l i ?_);refine Ag (wpAny_dictFind_heap (s:={s with toks:=s.toks+knd.draws k}) l i c hd g q h ?_ ?_);intro f;have C:k∉xs.map (·.1):=not_mem_keys_of_get f
 refine Ag (IY (Ag (wpAny_updateDictKeys (hz:=by have e:=size_of_entries g;lia) (s:={s with toks:=s.toks+knd.draws k}) c hd (AH (u (atKey_none_of_get f) _ ⟨_,_,z+1,v7 _ c (Obj.isFreed_of_dict (Obj.data_mapDictKeys hd _)),
  B.mapDictKeys _,Obj.data_mapDictKeys hd _,?_,?_,?_⟩ (v8 ..))))))
 rw[storedH_new (atKey_none_of_get f)];simp[g,entryOfKey];rw[storedH_new (atKey_none_of_get f)];intro x b;rcases EJ.mp b with b|b;exact knd.keeps (q x b) c hd (v8 ..);simp only[D7] at b;subst b;exact knd.keeps i c hd (v8 ..);rw[storedH_new (atKey_none_of_get f)];rw[By,List.nodup_append];refine⟨h,by simp,?_⟩;intro x b y m;simp only[Ec,LL,D7] at m;subst m;exact λe=>C (e▸b);intro j p n;refine Ag (wpAny_dictEntries (s:={s with toks:=s.toks+knd.draws k}) c hd ?_);rw[entry_at g j,n];exact Ag (IY (AH (t p (atKey_of_get h n))))
def VR(d a:Addr)(hd:(d==sysModules)=false)(b:Value) :
 MeetsIn prog w (Builtin.«dict.setdefault» ⟨[.ref d,.ref a,b],[]⟩) (λA R s=>knd.room A.in1/\∃k xs,knd.is s.heap k a/\s.heap.DictOfH knd d xs/\xs.length<=sizeLine /\
  (∀p,atKey xs k=some p->R (.ok (.ret p.2)) {s with toks:=s.toks+knd.draws k}) /\
  (atKey xs k=none->∀h',h'.DictOfH knd d (storedH xs k a b)->Heap.SameBut d s.heap h'->R (.ok (.ret b)) {s with heap:=h',toks:=s.toks+knd.draws k})):=
 .of_wp λA R s l=>by obtain⟨e,k,xs,o,c,f,g,h⟩:=l;unfold Builtin.«dict.setdefault»;refine Ag ?_;unfold Builtin.Dict.keyAndDefault;refine Ag (wpAny_notOrdered_dict c.typeIs ?_);show wpAny _ _ (pure (d,Value.ref a,some b)) _ _ s;refine AH ?_;show wpAny _ _ (if(d==sysModules)=true then _ else(dictSetDefault d (.ref a) b >>= _)) _ _ s;rw[AA (by rw[hd];exact CP)];exact Ag (VQ (hsz:=f) e o c (λp i=>AH ⟨p.2,rfl,g p i⟩) λj h' m n=>AH ⟨b,rfl,h j h' m n⟩)
end
section
variable {prog:Program} {w:World} {A:Around} {E:B'} {s:Shared}
variable {d:Addr}{es:Array DictEntry}{ep:Nat}
theorem VS{o:Obj}{Q:B'}(hd:(d==sysModules)=false)(a:s.heap.get? d=some o)(e:o.ExactDict)(c:o.data=.dict es ep)
 (f:Q (.ref s.heap.objs.size) {s with heap:=s.heap.push {cls:=.type "dict_keyiterator",data:=.fields #[.ref d,.int 0 0,.int es.size 0,.int ep 0]}}) :
 wpAny (model prog w) A (pyIter (.ref d)) Q E s:=by
 have b:s.TypeIs (.ref d) "dict" :=⟨o,a,e.1⟩;refine wpAny_pyIter_slot b F.slot_dict_iter (wpAny_call_entry F.slot_dict_iter b F.entry_dict_iter ?_ (F.args_dict_iter_1 _));unfold Builtin.«dict.__iter__»;refine Ag ?_;unfold Builtin.Dict.dictSlotNone;refine Ag (wpAny_notOrdered_dict b ?_);show wpAny _ _ (pure (Value.ref d)) _ _ s;refine AH ?_;show wpAny _ _ (Builtin.Dict.showsAll d >>= _) _ _ s;unfold Builtin.Dict.showsAll;rw[AA (by rw[hd];exact CP)];refine Ag (AH ?_);refine Ag (wpAny_dictEntries a c ?_);refine Ag (wpAny_dictEpoch a c ?_);refine Ag (wpAny_newObj_type (AH ⟨_,rfl, "dict_keyiterator",_,⟨_,Cf _ rfl,rfl⟩,F.slot_dict_keyiterator_next.lookup,?_⟩));simpa [rawInt] using f
theorem VT{a:Addr}{i:Nat}{e:Obj}{Q:I'->Shared->Prop}(b:s.heap.IsKeyIter a d i es.size ep)
 (f:s.heap.get? d=some e) (g:e.data=.dict es ep) (l:i<es.size)
 (j:∀h',h'.IsKeyIter a d (i+1) es.size ep->Heap.SameBut a s.heap h'->Q (some es[i].key) {s with heap:=h'}) :
 wpAny (model prog w) A (pyNext (.ref a)) Q E s:=by
 obtain⟨o,c,k,hd⟩:=id b;unfold pyNext
 refine Ag (wpAny_attempt (wpAny_callSpecial?_slot (name:=Str.ofString "__next__") b.typeIs F.slot_dict_keyiterator_next
  (wpAny_call_entry F.slot_dict_keyiterator_next b.typeIs F.entry_dict_keyiterator_next ?_ (F.args_dict_keyiterator_next_1 _))))
 refine Ag (AH ?_);refine Ag ?_;refine Ag ?_
 first|refine Ag (wpAny_typeNameOfWhole_keyiter b.typeIs (AH ?_))|refine Ag (wpAny_typeNameOf_keyiter b.typeIs (AH ?_))
 refine Ag (wpAny_fieldsOf c hd ?_);have m:Builtin.Dict_items.ownsTuple "dict_keyiterator" = false:=(by decide);simp only[m,Gh,if_false];show wpAny _ _ (if(Value.ref d==Value.none)=true then _ else _) _ _ s;rw[AA (show ¬((Value.ref d==Value.none)=true) from CP)];refine Ag (AH ?_);refine Ag (wpAny_dictEntries f g ?_);rw[AA (by simp)];refine Ag (AH ?_);refine Ag (wpAny_dictEpoch f g ?_);rw[AA (by simp)];refine AH ?_;simp only[show ¬((i:Int)<0) from by lia,if_false,Ex,Array.getElem?_eq_getElem l];refine Ag ?_
 first|refine Ag (wpAny_typeNameOfWhole_keyiter b.typeIs (AH ?_))|refine Ag (wpAny_typeNameOf_keyiter b.typeIs (AH ?_))
 refine Ag (wpAny_isOneOf_keyiter b.typeIs ?_);show wpAny _ _ (setField (.ref a) 1 (rawInt ((i:Int)+1)) >>= _) _ _ s;refine Ag (wpAny_setField c hd (by simp) ?_)
 have h:(s.heap.update a (Obj.mapFields (·.setIfInBounds 1 (rawInt ((i:Int)+1))))).IsKeyIter a d (i+1) es.size ep:=
  ⟨_,v7 _ c (Obj.isFreed_of_fields (Obj.data_mapFields hd _)),(Obj.cls_mapFields ..).trans k,by rw[Obj.data_mapFields hd];simp[rawInt]⟩
 refine Ag (EL ?_);refine Ag (wpAny_isOneOf_keyiter (s:={s with heap:=s.heap.update a (Obj.mapFields (·.setIfInBounds 1 (rawInt ((i:Int)+1))))}) h.typeIs ?_);show wpAny _ _ (pure es[i].key) _ _ _;exact AH (AH ⟨_,rfl,AH (j _ h (v8 ..))⟩)
theorem VU{e:Addr}{i:Nat}{f:Obj}{Q:I'->Shared->Prop}(k:A.handled=none)(c:s.heap.IsKeyIter e d i es.size ep)
 (h:s.heap.get? d=some f) (j:f.data=.dict es ep) (n:es.size<=i)
 (l:∀h',Heap.ExtBut e s.heap h'->Q none {s with heap:=h'}):wpAny (model prog w) A (pyNext (.ref e)) Q E s:=by
 obtain⟨o,g,q,hd⟩:=id c;unfold pyNext
 refine Ag (wpAny_attempt (wpAny_callSpecial?_slot (name:=Str.ofString "__next__") c.typeIs F.slot_dict_keyiterator_next
  (wpAny_call_entry F.slot_dict_keyiterator_next c.typeIs F.entry_dict_keyiterator_next ?_ (F.args_dict_keyiterator_next_1 _))))
 refine Ag (AH ?_);refine Ag ?_;refine Ag ?_
 first|refine Ag (wpAny_typeNameOfWhole_keyiter c.typeIs (AH ?_))|refine Ag (wpAny_typeNameOf_keyiter c.typeIs (AH ?_))
 refine Ag (wpAny_fieldsOf g hd ?_);have p:Builtin.Dict_items.ownsTuple "dict_keyiterator" = false:=(by decide);simp only[p,Gh,if_false];show wpAny _ _ (if(Value.ref d==Value.none)=true then _ else _) _ _ s;rw[AA (show ¬((Value.ref d==Value.none)=true) from CP)];refine Ag (AH ?_);refine Ag (wpAny_dictEntries h j ?_);rw[AA (by simp)];refine Ag (AH ?_);refine Ag (wpAny_dictEpoch h j ?_);rw[AA (by simp)];refine AH ?_;simp only[show ¬((i:Int)<0) from by lia,if_false,Ex,Array.getElem?_eq_none n];refine Ag ?_
 first|refine Ag (wpAny_typeNameOfWhole_keyiter c.typeIs (AH ?_))|refine Ag (wpAny_typeNameOf_keyiter c.typeIs (AH ?_))
 show wpAny _ _ (setField (.ref e) 0 .none >>= _) _ _ s;refine Ag (wpAny_setField g hd (by simp) ?_);show wpAny _ _ (newExc (.type "StopIteration") [] >>= _) _ _ _;refine Ag ?_;simp only[newExc,newTuple];refine Ag (wpAny_newObj_type ?_ (by size_fits));refine Ag (m:=firstArgMember _ _) (wpAny_of_eq (a:=Value.none) (by first|rfl|(simp only[firstArgMember];rfl)) ?_);refine wpAny_newObj_type ?_ (by size_fits);simp only[raiseNew];refine Ag (wpAny_handled ?_);rw[show A.in1.handled=none from k];refine Ag (AH (wpAny_throw ?_));refine Ag (wpAny_isInstance (T:= "StopIteration") (b:=true) ⟨_,Cf _ rfl,rfl⟩ isSubtype_stop ?_);exact AH (l _ (((v8 ..).extBut.push _).push _))
end
end PySem
namespace L2
open PySem PySem.Spec PyProof.Rows
section
variable {X:Cx}
def NH:V->R'->Hp->VK->Prop:=λx vs H Q=>∃a kvs k b d,x=.ref a/\vs=[.ref b,d]/\H a=some (.dT kvs)/\H b=some (.tup (k.map kV))/\kvs.length<sizeLine/\(∀v,AE kvs k=some v->Q v H)/\(AE kvs k=none->Q d (upd H a (.dT (AI kvs k d))))
def VW(A:X.A.units+1<cLine):FZ X "dict.setdefault" NH:=by
 intro Z s σ H x T v U Q I B C h;obtain⟨a,g,k,b,d,rfl,rfl,hd,l,V,D,E⟩:=h;cases B;obtain⟨u,r,rfl,F,m⟩:=Gv C;cases(show u=Value.ref b from F);obtain⟨z,n,o,j,p⟩:=GF I.hok hd;have i:o.length<=sizeLine:=by rw[<-Paired.length j];exact z
 have f:=j.val k
 refine call_meetsIn PySem.F.slot_dict_setdefault p.typeIs PySem.F.entry_dict_setdefault (PySem.F.args_dict_setdefault_3 _ _ _) (VR (knd:=tupleKind (Dp X.prog X.w)) a b n r)
  ⟨tupleKind_room_in1 A,k,o,Jj I.hok l,p,i,λy G=>?_,λJ W S K=>?_⟩
 rw[G] at f
 cases e:AE g k with
 |none=>rw[e] at f;exact False.elim f
 |some v0=>rw[e] at f;exact⟨v0,H,I.tok _,f,D v0 e⟩
 rw[J] at f
 cases e:AE g k with
 |some v0=>rw[e] at f;exact False.elim f
 |none=>
  have i:(AI g k d).length<=sizeLine:=by have:=Ks g k d;lia
  obtain⟨q,L,M,t,N,O,P,_,R⟩:=S;refine⟨d,_,Kv (ob:=.dT (AI g k d)) I (by rw[hd];exact True.intro) K ⟨q,t⟩ ⟨i,n,_,(j.put k l m).keeps λc Y w=>?_,q,L,M,t,N,O,P,R⟩,m,E e⟩;rw[Ax (Om w hd (λz=>nomatch z))];exact w
def OP (H H1 H2:Hp):Prop:=∀b,H2 b=H1 b\/H b=none/\∃kvs o,H1 b=some (.dT kvs)/\H2 b=some (.frz o (.dT kvs))
def Inv.frz{pins:A'}{s:Shared}{σ:St}{H a:Hp}(I:Inv X pins σ H s)(h:∀b,a b=H b\/∃kvs o,s.heap.get? b=some o/\H b=some (.dT kvs)/\a b=some (.frz o (.dT kvs))):Inv X pins σ a s:=by
 have same:∀b u,H b=some u->(∀kvs,u≠.dT kvs)->a b=some u:=λb u e n=>by
  rcases h b with z|⟨kvs,o,_,z,_⟩;rw[z];exact e;rw[e] at z;cases z;exact absurd rfl (n kvs)
 refine I.step (g':=s.gens) (t':=s.toks) (d':=s.drawn) (h':=s.heap) (ch:=[]) (λb f=>nomatch f) (λb o _ _ _ z _=>z) (λb o _ _ _ z _=>⟨o.slots,z⟩) (λb o _ _ n=>?_) (λb o _ z=>⟨o,z⟩)
  (λb i z=>same b _ z λ_ q=>nomatch q) (λb o u z=>same b _ z λ_ q=>nomatch q) (λb l z=>⟨#[],by rw[same b _ z λ_ q=>nomatch q];simp⟩) (λm j=>j) (λb u z=>?_) I.bare
 rcases h b with z|⟨kvs,o,_,z,_⟩;rw[z];exact n;rw[n] at z;cases z;have d:∀{v:HO},H b=some v->Az X.prog X.w a s.heap b v:=λ{v}e=>(I.hok b v e).stay (λ_ _ _ q=>q) (λc q=>same c _ q λ_ q=>nomatch q) λc i q=>same c _ q λ_ q=>nomatch q;rcases h b with y|⟨kvs,o,g,y,k⟩;rw[y] at z;exact d z;rw[k] at z;cases z;exact⟨g,d y⟩
def Q3 (t:TE):TE:=λσ H Q=>t σ H λv H1=>∀H2,OP H H1 H2->(∀b kvs,H b=none->H1 b=some (.dT kvs)->∃o,H2 b=some (.frz o (.dT kvs)))->Q v H2
set_option tactic.hygienic true in
def GS{e:Expr}{t:TE}(p:PE X e t):PE X e (Q3 t):=by
 intro w s σ H Q I h;refine AJ (p w s σ H _ I h) λu k⟨x,c,m,q,r⟩=>?_
 classical
 let f:Hp:=λb=>if H b=none then(match c b,k.heap.get? b with
  |some (.dT a),some o=>some (.frz o (.dT a))
  |z,_=>z) else c b
 have l:∀b,f b=c b\/H b=none /\ ∃a o,k.heap.get? b=some o/\c b=some (.dT a)/\f b=some (.frz o (.dT a)):=λb=>by
  by_cases d:H b=none
  have e:f b=(match c b,k.heap.get? b with
   |some (.dT a),some o=>some (.frz o (.dT a))
   |z,_=>z):=AC d
  by_cases hd:∃a o,c b=some (.dT a)/\k.heap.get? b=some o;obtain⟨a,o,i,j⟩:=hd;rw[i,j] at e;exact .inr ⟨d,a,o,j,i,e⟩;refine .inl ?_;rw[e];split;rename_i a o i j;exact absurd ⟨a,o,i,j⟩ hd;rfl;exact .inl (AA d)
 refine⟨x,f,m.frz λb=>(l b).imp id λ⟨_,z⟩=>z,q,r f (λb=>(l b).imp id λ⟨d,a,o,_,i,j⟩=>⟨d,a,o,i,j⟩) λb a d z=>?_⟩;rcases l b with y|⟨_,A,o,_,n,v⟩;exfalso;obtain⟨_,_,_,_,o,B,C,g,_⟩:=(show Az X.prog X.w c k.heap b (.dT a) from m.hok b _ z);have e:f b=some (.frz o (.dT a)):=(by show(if H b=none then _ else _)=_;rw[AC d,z,g]);rw[e,z] at y;cases y;rw[z] at n;cases n;exact⟨o,v⟩
def NI (a:Addr) (o:Obj) (kvs:List (List AL×V)):It:=
 ⟨λi H=>H a=some (.frz o (.dT kvs))/\i<kvs.length,λi H x H'=>H'=H/\∃k v b,kvs[i]?=some (k,v)/\x=.ref b/\H b=some (.tup (k.map kV)),λi H=>H a=some (.frz o (.dT kvs))/\kvs.length<=i⟩
def K0{α β:Type}{F:α->β->Prop}{l:List α}{m:List β}(h:Paired F l m):∀{i:Nat}(a:i<l.length),∃y,m[i]?=some y/\F l[i] y:=by
 induction h with
 |nil=>intro i a;exact absurd a (Nat.not_lt_zero _)
 |cons r t b=>
  intro i a;cases i with|zero=>exact⟨_,rfl,r⟩|succ i=>exact b (i:=i) (by simpa using a)
def VX{P:Program}{w:World}{K:Ah}{T:Expr}{a j:Addr}{o:Obj}{kvs:List (List AL×V)}{N:Array DictEntry}{ep:Nat}(hd:o.data=.dict N ep) :
 EA P w K T (NI a o kvs) [j] j (λi h=>h.IsKeyIter j a i N.size ep) where
 mem:=by simp
 obj:=λi h f b l=>by have e:b=j:=(by simpa using l);subst e;obtain⟨o,e,c,d⟩:=f;exact⟨o,e,λah z=>by rw[d] at z;cases z⟩
 keep:=λi h p f k=>f.at λo e=>k j (by simp) o e
 item:=by intro X t u v O i S s σ H E I r f x;subst t u v;obtain⟨A,B⟩:=x;obtain⟨m,z,y,U,M,W,ab,ae,g,Y,n,C,Z⟩:=(show Az X.prog X.w H s.heap a (.frz o (.dT kvs)) from I.hok a _ A);rw[m] at g;cases g;rw[hd] at n;cases n;obtain⟨q,hx,e1,e2,e3⟩:=K0 M B;have Q:=entry_at (knd:=tupleKind (Dp X.prog X.w)) C i;rw[hx] at Q;obtain⟨af,ag⟩:=Array.getElem?_eq_some_iff.mp Q;obtain⟨D,F,aa,G,J,L⟩:=r j (by simp);refine VT f m hd af λp R sb=>?_;have I1:Inv X S σ H {s with heap:=p}:=I.turned (t':=s.toks) (λb o l e=>(sb.2 b l).trans e) D F G J L;obtain⟨oi,e,c,d⟩:=id R;refine⟨_,rfl,Op (s:={s with heap:=p}) e c d (by decide) ⟨.ref q.2.1,H,I1,?_,⟨rfl,kvs[i].1,kvs[i].2,q.2.1,by simp[B],rfl,e2⟩,R,λb l=>(r b l).1⟩⟩;rw[ag];rfl
 done:=by intro X t u v O i S s σ H E I r f x;subst t u v;obtain⟨A,B⟩:=x;obtain⟨m,z,y,U,M,W,ab,ae,g,Y,n,C,Z⟩:=(show Az X.prog X.w H s.heap a (.frz o (.dT kvs)) from I.hok a _ A);rw[m] at g;cases g;rw[hd] at n;cases n;have ai:=size_of_entries C;have hl:=Paired.length M;obtain⟨D,F,aa,G,J,L⟩:=r j (by simp);exact VU (I.ok.hd O) f m hd (by lia) λp eb=>⟨rfl,I.turned (t':=s.toks) (λb o l e=>eb b o l e) D F G J L⟩
 self:=λ_ _ _ _ _ f h=>wpAny_pyIter_keyiter f h
def NJ (tl:TE):TI:=λσ H R=>tl σ H λx H1=>∃a kvs,x=.ref a/\Rd H1 a (.dT kvs)/\∀o,(H1 a=some (.dT kvs)\/H1 a=some (.frz o (.dT kvs)))->R (NI a o kvs) (upd H1 a (.frz o (.dT kvs)))
def Iv{r l:Expr}{tl:TE}(t:PE X l tl):PI X r l (NJ tl):=by
 intro p s σ H R I h;refine AJ (t p s σ H _ I h) λv c⟨x,f,j,u,w⟩=>?_;obtain⟨a,d,e,m,q⟩:=w;subst e;cases u;obtain⟨_,y,C,_,o,D,E,g,A,n,_⟩:=(show Az X.prog X.w f c.heap a (.dT d) from GD j.hok m)
 have i:f a=some (.dT d)\/f a=some (.frz o (.dT d)):=by
  rcases m with z|⟨B,z⟩;exact .inl z;have:=(show Az X.prog X.w f c.heap a (.frz B (.dT d)) from j.hok a _ z).1;rw[g] at this;cases this;exact .inr z
 have k:Inv X p σ (upd f a (.frz o (.dT d))) c:=j.frz λb=>by
  by_cases e:b=a;subst e;rcases i with z|z;exact .inr ⟨d,o,g,z,Aa⟩;exact .inl (Aa.trans z.symm);exact .inl (Ax e)
 refine VS y g A n ?_;refine⟨c.heap.objs.size,[c.heap.objs.size],_,_,_,rfl,k.kept (t':=c.toks) λb o e=>Bb _ e,VX n,⟨_,Cf _ rfl,rfl,rfl⟩,λb i=>?_,q o i⟩;have e:b=c.heap.objs.size:=(by simpa using i);subst e;exact k.fpOk (AB _) (k.hok.fresh (AB _))
def VY{a:Addr}{o:Obj}{kvs:List (List AL×V)}{g:TG}{j:TS}{D:Ends}{σ:St}{H:Hp}(Pv:Nat->St->Hp->Prop)(l:Pv 0 σ H)(n:∀i σ H,i<=kvs.length->Pv i σ H->H a=some (.frz o (.dT kvs)))
 (r:∀i k v b σ H,kvs[i]?=some (k,v)->H b=some (.tup (k.map kV))->Pv i σ H->g (.ref b) σ H λσ2 d=>j {D with nx:=Pv (i+1),ct:=Pv (i+1),bk:=D.nx} σ2 d) (hd:∀σ H,Pv kvs.length σ H->D.nx σ H) :
 ∃W:Nat->Nat->St->Hp->Prop,(∃m,W 0 m σ H)/\∀i m σ H,W i m σ H ->
  ((NI a o kvs).stop i H/\D.nx σ H)\/((NI a o kvs).go i H/\∃N:St->Hp->Prop,(∀σ' c,N σ' c->∃f,f<m/\W (i+1) f σ' c)/\∀x c,(NI a o kvs).yld i H x c->g x σ c λσ2 d=>j {D with nx:=N,ct:=N,bk:=D.nx} σ2 d):=by
 refine⟨λi m σ H=>m=kvs.length-i/\i<=kvs.length/\Pv i σ H,⟨kvs.length,by simp,B8 _,l⟩,?_⟩;rintro i m σ H ⟨rfl,s,p⟩;have q:=n i σ H s p;by_cases h:i<kvs.length;refine .inr ⟨⟨q,h⟩,Pv (i+1),λσ' c t=>⟨kvs.length-(i+1),by lia,rfl,h,t⟩,λx c y=>?_⟩;obtain⟨e,k,v,b,u,w,z⟩:=y;subst e w;exact r i k v b σ _ u z p;have e:i=kvs.length:=(by lia);subst e;exact .inl ⟨⟨q,AB _⟩,hd σ H p⟩
end
end L2
namespace PySem
section
variable {prog:Program} {w:World} {A:Around} {E:B'} {s:Shared}
theorem TQ{a:Addr}{o:Obj}{xs:K'}{k:Nat}{Q:I'->Shared->Prop}
 (f:s.heap.get? a=some o) (i:o.cls=.type "list") (n:o.data=.seq xs k) (hd:o.dict=none) (p:A.handled=none)
 (h:∀h' O,(∀b o,s.heap.get? b=some o->h'.get? b=some o)->Q none {s with heap:=h',toks:=O}):wpAny (model prog w) A (getAttr? (.ref a) "keys") Q E s:=by
 obtain⟨c,dct,G,q⟩:=o;simp only at i n hd;subst i n hd;obtain⟨r,g,d,O,t⟩:=s;have j:∀l,(⟨r,g,d,l,t⟩:Shared).TypeIs (.ref a) "list" :=λ_=>⟨_,f,rfl⟩;have v:=sub_AttributeError;have x:=F.slot_list_getattribute.lookup;have y:=F.slot_list_getattribute.bind (.ref a);have z:=am_list_getattr_none;have u:typeLookup (.type "list") "keys" = pure none:=by rw[typeLookup_type,builtinLookup_eq_fast];kernel_rfl
 unfold getAttr? getAttrBy? getAttrBy
 repeat (any_goals (first|assumption|exact j _|((with_reducible show wpAny _ _ (call (Value.builtin "list.__getattribute__") _ _) _ _ _);refine call_meets F.slot_list_getattribute (j _) am_entry_list_getattribute (F.args_list_getattribute_2 _ _) (meets_getattribute_miss_list a xs k q "keys" _ u (by decide) (by size_fits)) ⟨f,p,λh' l e m=>?_⟩)|wp_step))
 obtain⟨B,C,D⟩:=m.there;show wpAny _ _ (getattributeRaised _ _ _ _ _ _ _) _ _ _;unfold getattributeRaised
 repeat (any_goals (first|assumption|wp_step))
 exact h _ _ m.keeps
namespace F
def args_minD(a v:Value):argsOk "min" ⟨[a],[(Str.ofString "default",v)]⟩:=by unfold argsOk;kernel_rfl
def entry_upd_loop:entryFor table "dict.update.loop" = some Builtin.«dict.update.loop»:=entryFor_of_tree (by kernel_rfl)
def plain_upd_loop:plainId "dict.update.loop" = true:=by decide +kernel
end F
variable {R:Result->Shared->Prop} {I:Addr} {fp g:E'} {n:Nat} {P:Nat->Value->Prop} {St:Nat->Heap->Prop}
def OQ:(toString "min" ++ toString ".loop" : String) = "min.loop" :=by decide
theorem Q4(W:Walks prog w A.in1 I fp g n P St)(d:Nat->Nat->Bool)(E:CmpOf prog w A.in1 .Lt P d)(S:Addr)(p:S∉fp)(t:List (Str×Value)) :
 ∀(k j:Nat)(s:Shared)(a:Value)(c:Nat),n=j+1+k->St (j+1) s.heap->P (argBest d j) a->s.heap.get? S=some {cls:=.type "list",data:=.seq #[a,a] c} ->
 (∀v h' O,P (argBest d (n-1)) v->(∀b o,b∉g->b≠S->s.heap.get? b=some o->h'.get? b=some o)->R (.ok (.ret v)) {s with heap:=h',toks:=O}) ->
 codeAny (model prog w) A (.builtin "min.loop" ⟨[.ref I,.none,.ref S],t⟩) R s
 |0,j,s,a,c,G,y,r,m,q=>by subst G;refine codeAny_builtin F.entry_min_loop ?_;rw[v' F.plain_min_loop _];show wpAny _ A.in1 (seqItems? (.ref S) >>= _) _ _ s;refine Ag (FM m rfl ?_);show wpAny _ A.in1 (tryCatch (pyNext (.ref I)) _ >>= _) _ _ s;refine Ag (wpAny_tryCatch (W.done s _ _ y λh' O i=>?_));show wpAny _ A.in1 (updateSeq S (λ_=>#[]) >>= _) _ _ _;refine Ag (wpAny_updateSeq (i S _ (λh=>p (W.sub _ h)) m) rfl (Ag (wpAny_letGo (AH (q a _ O r λb o f l e=>?_)))));exact(Heap.get?_update_other _ _ (Ne.symm l)).trans (i b o f e)
 | k + 1,j,s,a,c,G,y,r,m,q=>by
   refine codeAny_builtin F.entry_min_loop ?_;rw[v' F.plain_min_loop _];show wpAny _ A.in1 (seqItems? (.ref S) >>= _) _ _ s;refine Ag (FM m rfl ?_);show wpAny _ A.in1 (tryCatch (pyNext (.ref I)) _ >>= _) _ _ s;refine Ag (wpAny_tryCatch (W.item (j+1) s _ _ (by lia) y λv h' O H K i=>?_));have z:=i S _ (λh=>p (W.sub _ h)) m;show wpAny _ A.in1 (tryCatch (holding [v,v] (richCompare .Lt v a >>= _)) _ >>= _) _ _ _;refine Ag (wpAny_tryCatch (EL (Ag (E (j+1) (argBest d j) v a _ _ _ H r (Ag (EL (Ey (Ag (wpAny_letGo (AH ?_))))))))))
   cases J:d (j+1) (argBest d j) with
   |true=>simp only[if_true];refine Ag (wpAny_updateSeq z rfl (Ag (wpAny_letGo ?_)));rw[OQ];refine AH ⟨plainId_quiet F.plain_min_loop _,Q4 W d E S p t k (j+1) _ v _ (by lia) (W.frame _ _ _ K λb L o e=>?_) (by simp only[argBest,J,if_true];exact H) (v7 _ z rfl) λu x B C D=>?_⟩;exact(Heap.get?_update_other _ _ (λh:S=b=>p (by rw[h];exact L))).trans e;exact q u x B C λb o f l e=>D b o f l ((Heap.get?_update_other _ _ (Ne.symm l)).trans (i b o f e))
   |false=>
    simp only[Gh,if_false];refine Ag (wpAny_letGo ?_);rw[OQ]
    exact AH ⟨plainId_quiet F.plain_min_loop _,Q4 W d E S p t k (j+1) _ a c (by lia) K (by simp only[argBest,J,Gh,if_false];exact r) z λu x B C D =>
     q u x B C λb o f l e=>D b o f l (i b o f e)⟩
theorem VZ{x d:Value}{Q:B'}
 (h:wpAny (model prog w) A.in1 (pyIter x) (λm c=>∃I fp g n P St f,m=.ref I/\Walks prog w A.in1 I fp g n P St/\St 0 c.heap/\(∀b∈fp,b<c.heap.objs.size)/\CmpOf prog w A.in1 .Lt P f /\
  ∀v h' O,(if n=0 then v=d else P (argBest f (n-1)) v)->(∀b o,b∉g->c.heap.get? b=some o->h'.get? b=some o)->Q v {c with heap:=h',toks:=O}) E s) :
 wpAny (model prog w) A (call (.builtin "min") [x] [(Str.ofString "default",d)]) Q E s:=by
 refine wpAny_call (codeAny_call_builtin F.plain_min F.entry_min (wpAny_of_eq (a:=()) (by
  have k:=F.args_minD x d;simp only[checkBuiltinCall,F.kind_min];unfold argsOk at k
  cases R:Manifest.signature? "min" with
  |none=>rfl
  |some U=>rw[R] at k;exact k) ?_))
 show wpAny _ A.in1 (Builtin.Builtins.bindParams "min" ["key", "default"] 0 ⟨[],[(Str.ofString "default",d)]⟩ >>= _) _ _ s;refine Ag (wpAny_of_eq (show Builtin.Builtins.bindParams "min" ["key", "default"] 0 ⟨[],[(Str.ofString "default",d)]⟩=pure [none,some d] from rfl) ?_);refine Ag (AH ?_);refine Ag (E5 h (λm c y=>?_) λ_ _ e=>e);obtain⟨I,fp,g,n,P,St,f,rfl,W,G,H,S,p⟩:=y;refine Ag (wpAny_newObj_type ?_);have l:c.heap.objs.size∉fp:=λz=>EV _ (H _ z);have J:c.heap.objs.size∉g:=λh=>l (W.sub _ h);rw[OQ];have q:(c.heap.push {cls:=.type "list",data:=.seq #[]}).get? c.heap.objs.size=some {cls:=.type "list",data:=.seq #[]}:=Cf _ rfl;have u:=W.frame _ _ (c.heap.push {cls:=.type "list",data:=.seq #[]}) G λb _ o e=>Bb _ e;refine AH ⟨plainId_quiet F.plain_min_loop _,codeAny_builtin F.entry_min_loop ?_⟩;rw[v' F.plain_min_loop _];show wpAny _ A.in1 (seqItems? (.ref c.heap.objs.size) >>= _) _ _ _;refine Ag (FM q rfl ?_);show wpAny _ A.in1 (tryCatch (pyNext (.ref I)) _ >>= _) _ _ _;cases n with|zero=>refine Ag (wpAny_tryCatch (W.done _ _ _ u λh' O i=>?_));exact Ag (IY (AH (p d _ O (by rw[AC rfl]) λb o j e=>i b o j (Bb _ e))))|succ n=>refine Ag (wpAny_tryCatch (W.item 0 _ _ _ (Nat.succ_pos _) u λv h' O B T i=>?_));have t:=i _ _ J q;show wpAny _ A.in1 (updateSeq c.heap.objs.size (λ_=>#[v,v]) >>= _) _ _ _;refine Ag (wpAny_updateSeq t rfl ?_);rw[OQ];refine AH ⟨plainId_quiet F.plain_min_loop _,Q4 W f S _ l _ n 0 _ v _ (by lia) (W.frame _ _ _ T λb K o e=>?_) B (v7 _ t rfl) λC D L M N=>?_⟩;exact(Heap.get?_update_other _ _ (λh:c.heap.objs.size=b=>l (by rw[h];exact K))).trans e;refine p C D L (by rw[AA (Nat.succ_ne_zero n)];exact M) λb o j e=>?_;have r:b≠c.heap.objs.size:=CF (AY e);exact N b o j r ((Heap.get?_update_other _ _ (Ne.symm r)).trans (i b o j (Bb _ e)))
end
end PySem
namespace L2
open PySem PySem.Spec PyProof.Rows
section
variable {X:Cx}
def GU:C'->V
 |[]=>.non
 |n::ns=>.int (ns.foldl min n)
theorem TR(f:Nat->Int):∀n,f (argBest (λi j=>decide (f i<f j)) n)=((List.range n).map λi=>f (i+1)).foldl min (f 0)
 |0=>rfl
 |n+1=>by
   have a:=TR f n;rw[List.range_succ,By,List.foldl_append];show f (if _ then _ else _)=min _ (f (n+1));rw[<-a];by_cases h:f (n+1)<f (argBest (λi j=>decide (f i<f j)) n);rw[AC (Ca h)];lia;rw[AA (by simpa using h)];lia
def V0(n:Int)(ns:C'):((List.range ns.length).map λi=>(n::ns).getD (i+1) 0)=ns:=by apply v5;intro i;rw[AV];by_cases h:i<ns.length;rw[s' h,Option.map_some,BZ,List.getElem?_cons_succ,AQ h];rfl;rw[Gg (by simpa using h),Gg (by lia)];rfl
def NK (F:TA):TE:=λσ H Q=>F σ H λvs H1=>∃p ns,vs=[.ref p]/\H1 p=some (.lst (ns.map V.int))/\Q (GU ns) H1
def Iw{e:Expr}{F:TA}{p L B J:Pos}{j:Nat}(C:X.calm=true)(D:Gl X "min")(E:X.mg "min" = none)(G:PA X [e] F)
 (f:backTo L (starEach [e] X.env)=(false,eval e X.env)::backTo L (starEach [] X.env):=by rfl) (T:(backTo L (starEach [e] X.env)).any (·.1)=false:=by rfl) :
 PE X (.Call (.Name "min" p) [e] [⟨some "default",.Constant .none j B,J⟩] L) (NK F):=by
 intro W s σ H Q I h;refine wpAny_Call_Name_kw (HD I D E (u:=.builtin "min") (by decide +kernel) (callWith_kw (AJ (G L W s σ H _ I h) λZ c⟨vs,r,k,K,M⟩=>kws_cons (Constant_none (kws_nil ?_))) f T));obtain⟨l,a,rfl,N,q⟩:=M;obtain⟨u,rfl,P⟩:=El K;cases P;obtain⟨z,g,n,w,e⟩:=(show Az X.prog X.w r c.heap l (.lst (a.map V.int)) from k.hok l _ N);have x:=UT w;have y:c.heap.IsList l g.toArray:=⟨_,e,rfl,n,rfl⟩;have Y:g.length=a.length:=by have:=w.length;rw[Al] at this;exact this.symm
 refine VZ (wpAny_pyIter_list y ⟨_,[c.heap.objs.size,l],[c.heap.objs.size],_,λi v=>g.toArray[i]?=some v,λi h=>h.IsListIter c.heap.objs.size l i/\h.IsList l g.toArray,λi j=>decide (a.getD i 0<a.getD j 0),rfl,Walks.list (A:=X.A.in1) (k.ok.hd C) c.heap.objs.size l (CF (AY e)) g.toArray,
  ⟨⟨_,Cf _ rfl,rfl,rfl⟩,y.push _⟩,λb f=>?_,CmpOf.ints_lt (λi=>a.getD i 0) (λi v d=>x.int_at i v (by simpa using d)),λv R O d S=>?_⟩)
 show b<(c.heap.push _).objs.size;rw[u4];rcases Cj.mp f with rfl|f;exact Ol _;rw[D7.mp f];exact Nat.lt_succ_of_lt (AY e);have U:∀b o,c.heap.get? b=some o->R.get? b=some o:=λb o z=>S b o (by simpa using CF (AY z)) (Bb _ z);refine⟨GU a,r,k.kept U,?_,q⟩;rw[BX,Y] at d;cases a with|nil=>exact d|cons m a=>rw[EU,AA (Nat.succ_ne_zero _),Nat.add_sub_cancel] at d;obtain⟨t,rfl⟩:=x.int_at (argBest (λi j=>decide ((m::a).getD i 0<(m::a).getD j 0)) a.length) v (by rw[<-List.getElem?_toArray];exact d);refine⟨t,?_⟩;rw[TR λi=>(m::a).getD i 0,V0];rfl
def GV (acc:List (List AL×V)) (ps:List (List AL×V)):List (List AL×V):=ps.foldl (λa kv=>AI a kv.1 kv.2) acc
def GW (H:Hp) (xs:R') (ps:List (List AL×V)):Prop:=Paired (λx(p:List AL×V)=>∃t b,x=.ref t/\H t=some (.tup [.ref b,p.2])/\H b=some (.tup (p.1.map kV))) xs ps
def V1{pins:A'}{σ:St}{A:Around}{R:Result->Shared->Prop}{H:Hp}{p l f:Addr}(hu:A.units+1<cLine)(hh:A.in1.handled=none)(k:H p=none)(F:f≠p) :
 ∀(xs:R')(ps:List (List AL×V))(d:R')(acc:List (List AL×V))(s:Shared),GW H xs ps->H l=some (.lst (d++xs))->acc.length+xs.length<=sizeLine->Inv X pins σ (upd H p (.dT acc)) s ->
 s.heap.IsListIter f l d.length->Dn X pins H f->(∀Z,Inv X pins σ (upd H p (.dT (GV acc ps))) Z->R (.ok (.ret .none)) Z)->∀n:Int,
 codeAny (model X.prog X.w) A (.builtin "dict.update.loop" ⟨[.ref p,.ref f,rawInt n,.none],[]⟩) R s:=by
 intro xs ps d acc s hx
 induction hx generalizing d acc s with
 |nil=>intro g K I u m v n;have G:upd H p (.dT acc) l=some (.lst (d++[])):=(Ax (AN g k)).trans g;obtain⟨w,y,aa,B,C,D⟩:=m;have J:upd H p (.dT acc) f=none:=(Ax F).trans w;obtain⟨z,U,c,E,e⟩:=(show Az X.prog X.w _ s.heap l (.lst (d++[])) from I.hok l _ G);have an:=E.length;rw[Ft] at an;refine codeAny_builtin PySem.F.entry_upd_loop ?_;rw[v' PySem.F.plain_upd_loop _];show wpAny _ A.in1 (pyNext (.ref f) >>= _) _ _ s;refine Ag (wpAny_pyNext_list_end hh u ⟨_,e,rfl,c,rfl⟩ (by simp;lia) λj eb=>?_);exact Ag (AH (AH (v _ (I.turned (t':=s.toks) (λb o h e=>eb b o h e) J y B C D))))
 |@cons x q xs ps hq tl ih=>
  intro g K I u m v n;obtain⟨t,b,rfl,L,h⟩:=hq;have G:upd H p (.dT acc) l=some (.lst (d++.ref t::xs)):=(Ax (AN g k)).trans g;have af:upd H p (.dT acc) t=some (.tup [.ref b,q.2]):=(Ax (AN L k)).trans L;have W:upd H p (.dT acc) b=some (.tup (q.1.map kV)):=(Ax (AN h k)).trans h;obtain⟨w,y,aa,B,C,D⟩:=id m;have J:upd H p (.dT acc) f=none:=(Ax F).trans w;obtain⟨z,U,c,E,e⟩:=(show Az X.prog X.w _ s.heap l (.lst (d++.ref t::xs)) from I.hok l _ G);obtain⟨ao,ag,ru⟩:=E.get (i:=d.length) (x:=.ref t) (by simp);cases ru;refine codeAny_builtin PySem.F.entry_upd_loop ?_;rw[v' PySem.F.plain_upd_loop _];show wpAny _ A.in1 (pyNext (.ref f) >>= _) _ _ s;refine Ag (wpAny_pyNext_list_item u (⟨_,e,rfl,c,rfl⟩:s.heap.IsList l U.toArray) (x:=.ref t) (by simpa using ag) λj ah sb=>?_);have r:Inv X pins σ (upd H p (.dT acc)) {s with heap:=j}:=I.turned (t':=s.toks) (λb o h e=>(sb.2 b h).trans e) J y B C D;obtain⟨_,ts,rt,ot,M,ct,nt,dt⟩:=(show Az X.prog X.w _ j t (.tup [.ref b,q.2]) from r.hok t _ af);obtain⟨u1,N,rfl,r1,r2⟩:=Gv rt;cases(show u1=Value.ref b from r1);obtain⟨zd,hm,es,Y,dd⟩:=GF r.hok (Aa (H:=H) (a:=p) (o:=.dT acc));have ai:es.length<=sizeLine:=by rw[<-Paired.length Y];exact zd
  have aq:(AI acc q.1 q.2).length<=acc.length+1:=Ks acc q.1 q.2;rw[EU] at K;refine Ag (EL (Ag (wpAny_tryCatch ?_)));show wpAny _ A.in1 (Builtin.Dict.pairItems (.ref t)) _ _ _;unfold Builtin.Dict.pairItems;refine Ag (MO (s:={s with heap:=j}) (T:= "tuple") ⟨ot,M,ct⟩ ?_);rw[AC (by decide)];refine Ag (FM (s:={s with heap:=j}) M dt (AH ?_));show wpAny _ A.in1 (holding [Value.ref b,N] (dictSet p (.ref b) N)) _ _ _;refine EL (wpAny_dictSet_heap (hsz:=ai) (knd:=tupleKind (Dp X.prog X.w)) (tupleKind_room_in1 hu) (Jj r.hok W) dd λh2 aj O=>?_);obtain⟨P,ak,al,Q,ab,ae,g4,_,g5⟩:=aj;have I2:Inv X pins σ (upd H p (.dT (AI acc q.1 q.2))) {s with heap:=h2,toks:=s.toks+(tupleKind (Dp X.prog X.w)).draws q.1}:=(by have:=Kv (t':=s.toks+(tupleKind (Dp X.prog X.w)).draws q.1) (ob:=.dT (AI acc q.1 q.2)) r (by rw[Aa];exact True.intro) O ⟨P,Q⟩ ⟨by lia,hm,_,(Y.put q.1 W r2).keeps λc ys S=>?_,P,ak,al,Q,ab,ae,g4,g5⟩;rw[R6] at this;exact this;rw[Ax (Om S Aa (λz=>nomatch z))];exact S);refine AH ⟨plainId_quiet PySem.F.plain_upd_loop _,?_⟩;have:=ih (d++[.ref t]) (AI acc q.1 q.2) _ (by rw[JA];exact g) (by lia) I2 (by rw[BC];exact ah.at λo e=>(O.2 f F).trans e) m v (n+1);exact this
def Ix:R'->Hp->VK->Prop:=λvs H Q=>∃l xs ps,vs=[.ref l]/\H l=some (.lst xs)/\xs.length<sizeLine/\GW H xs ps/\∀p,H p=none->Q (.ref p) (upd H p (.dT (GV [] ps)))
def V2(j:X.calm=true)(y:X.A.units+2<cLine):A8 X (.type "dict") Ix:=by
 intro pins s σ H K L Q I r h;obtain⟨l,k,B,rfl,m,M,C,q⟩:=h;obtain⟨u,rfl,D⟩:=El r;cases D;have n:H s.heap.objs.size=none:=I.hok.fresh (AB _);refine callType_codes (Q₁:=λw p=>w=.ref s.heap.objs.size/\p={s with heap:=s.heap.push {cls:=.type "dict",data:=.dict #[]}}) PySem.F.kt_called_dict (PySem.F.kt_typeCall_dict_1 _) PySem.F.entry_dict_init (kt_code_dict_new _ ⟨rfl,rfl⟩) ?_;rintro w p ⟨rfl,rfl⟩;have E:=I.laid (a:=s.heap.objs.size) (o:=.dT []) (t':=s.toks) (h':=s.heap.push {cls:=.type "dict",data:=.dict #[]}) (λ_ _ q=>Bb _ q) (AB _) (SQ s.heap I.big);obtain⟨z,P,c,N,e⟩:=(show Az X.prog X.w _ s.heap l (.lst k) from I.hok l _ m);have f:=Bb {cls:=.type "dict",data:=.dict #[]} e;have t:Shared.TypeIs {s with heap:=s.heap.push {cls:=.type "dict",data:=.dict #[]}} (.ref s.heap.objs.size) "dict" :=⟨_,Cf _ rfl,rfl⟩;refine⟨t,PySem.F.args_dict_init_2 _ _,?_⟩;unfold Builtin.«dict.__init__»;refine Ag ?_;unfold Builtin.Dict.selfAndRest;refine Ag (wpAny_notOrdered_dict t ?_);show wpAny _ _ (pure (s.heap.objs.size,[Value.ref l])) _ _ _;refine AH ?_;show wpAny _ _ (Builtin.Dict.updateFrom "dict.__init__" s.heap.objs.size (.ref l) [] .none) _ _ _;unfold Builtin.Dict.updateFrom;refine Ag (MO (T:= "list") ⟨_,f,rfl⟩ ?_);rw[AC (by decide)];refine Ag (TQ f rfl rfl rfl (I.ok.hd j) λd O v=>?_);rw[AC (show(none:I').isNone=true from rfl)];have g:=E.kept (t':=O) v;refine Ag (IY (Ag (wpAny_pyIter_list (s:={s with heap:=d,toks:=O}) ⟨_,v _ _ f,rfl,c,rfl⟩ ?_)));have F:=g.kept (t':=O) (h':=d.push {cls:=.type "list_iterator",data:=.fields #[.ref l,.int 0 0]}) λb o e=>Bb _ e;obtain⟨i,G⟩:=g.fpOk (AB d.objs.size) (g.hok.fresh (AB _));have x:d.objs.size≠s.heap.objs.size:=λz=>by rw[z,Aa] at i;cases i
 refine AH ⟨plainId_quiet PySem.F.plain_upd_loop _,V1 (A:=X.A.in1) (X:=X) (pins:=pins) (σ:=σ) (l:=l) (H:=H) y (I.ok.hd j) n x k B [] [] _ C m (by rw[Hu];lia) F ⟨_,Cf _ rfl,rfl,rfl⟩ ⟨(Ax x).symm.trans i,G⟩ (λZ J=>⟨rfl,.ref _,_,J,rfl,q _ n⟩) 0⟩
end
open Ord
def V3{bs:List Bool}:(List.range bs.length).any (λi=>bs.getD i false)=bs.any id:=by rw[Bool.eq_iff_iff,Oj,Oj];constructor;rintro⟨i,a,h⟩;have c:=List.mem_range.mp a;rw[BZ,AQ c] at h;exact⟨_,Di c,h⟩;rintro⟨b,d,h⟩;obtain⟨i,a,e⟩:=MN.mp d;refine⟨i,List.mem_range.mpr a,?_⟩;rw[BZ,AQ a,e];exact h
def Q5 (K:Ah):R'->Hp->VK->Prop:=λvs H Q=>∃(a:Addr)(bs:List Bool),vs=[.ref a]/\Ad K H a (bs.map V.bl)/\Q (.bl (bs.any id)) H
variable {X:Cx}
def V4(g:X.calm=true):A8 X (.builtin "any") (Q5 X.K):=by
 intro B s σ H t w Q I r h;obtain⟨a,bs,rfl,j,q⟩:=h;obtain⟨u,rfl,k⟩:=El r;obtain rfl:u=Value.ref a:=k;obtain⟨c,d,p,x⟩:=I.list j;have f:=d.length;rw[Al] at f;have n:a<s.heap.objs.size:=by obtain⟨_,e,_⟩:=p.isList;exact AY e
 refine call_any_walk (wpAny_pyIter_list p.isList ?_);refine⟨s.heap.objs.size,[s.heap.objs.size,a],[s.heap.objs.size],c.toArray.size,(λi v=>c.toArray[i]?=some v),(λi h=>h.IsListIter s.heap.objs.size a i/\h.IsList a c.toArray),(λi=>bs.getD i false),rfl,Walks.list (A:=X.A.in1) (I.ok.hd g) s.heap.objs.size a (CF n) c.toArray,⟨⟨_,Cf _ rfl,rfl,rfl⟩,p.isList.push _⟩,SV d,λy O l=>?_⟩;refine⟨.bl (bs.any id),H,I.kept λb o e=>l b o (λz=>?_) (Bb _ e),?_,q⟩;have m:b=s.heap.objs.size:=(by simpa using z);exact absurd (AY e) (by rw[m];exact EV _);have e:c.toArray.size=bs.length:=(by rw[BX,f]);show Value.bool _=Value.bool _;rw[e,V3]
section
variable {prog:Program} {w:World} {A:Around} {E:B'} {s:Shared}
theorem OR{j p:Addr}{k:Nat}{vs:K'}{y:Value}{Q:B'}(c:s.heap.IsTupleIter j p k)(d:s.heap.IsTuple p vs)(e:vs[k]?=some y)
 (q:∀g,g.IsTupleIter j p (k+1)->Heap.SameBut j s.heap g->Q y {s with heap:=g}):wpAny (model prog w) A (Builtin.SmallTypes.nextOf (.ref j)) Q E s:=by
 obtain⟨l,b,f,a⟩:=id c;obtain⟨m,h,_,_,i⟩:=d;unfold Builtin.SmallTypes.nextOf;refine Ag (wpAny_callSpecial?_slot (name:=Str.ofString "__next__") c.typeIs F.slot_tuple_iterator_next (wpAny_call_entry F.slot_tuple_iterator_next c.typeIs F.entry_tuple_iterator_next ?_ (F.args_tuple_iterator_next_1 _)));show wpAny _ _ (field (.ref j) 0 >>= _) _ _ s;refine Ag (wpAny_field b a (x:=.ref p) rfl ?_);show wpAny _ _ (if(Value.ref p==Value.none)=true then _ else _) _ _ s;rw[AA (show ¬((Value.ref p==Value.none)=true) from CP)];show wpAny _ _ (field (.ref j) 1 >>= _) _ _ s;refine Ag (wpAny_field b a (x:=.int k 0) rfl ?_);show wpAny _ _ (seqItems? (.ref p) >>= _) _ _ s;refine Ag (FM h i ?_);simp only[Ex,e];refine Ag (wpAny_setField b a (by simp) (AH ⟨y,rfl,AH (q _ ⟨_,v7 _ b (Obj.isFreed_of_fields (Obj.data_mapFields a _)),(Obj.cls_mapFields ..).trans f,by rw[Obj.data_mapFields a];simp[rawInt]⟩ (v8 ..))⟩))
theorem Q6{j p:Addr}{k:Nat}{vs:K'}{Q:B'}(e:A.handled=none)(b:s.heap.IsTupleIter j p k)(f:s.heap.IsTuple p vs)(h:vs[k]?=none)
 (q:∀g x,Heap.ExtBut j s.heap g->(∃o,g.get? x=some o/\o.cls=.type "StopIteration")->E (.ref x) {s with heap:=g}):wpAny (model prog w) A (Builtin.SmallTypes.nextOf (.ref j)) Q E s:=by
 obtain⟨n,c,r,d⟩:=id b;obtain⟨t,i,_,_,l⟩:=f;unfold Builtin.SmallTypes.nextOf;refine Ag (wpAny_callSpecial?_slot (name:=Str.ofString "__next__") b.typeIs F.slot_tuple_iterator_next (wpAny_call_entry F.slot_tuple_iterator_next b.typeIs F.entry_tuple_iterator_next ?_ (F.args_tuple_iterator_next_1 _)));show wpAny _ _ (field (.ref j) 0 >>= _) _ _ s;refine Ag (wpAny_field c d (x:=.ref p) rfl ?_);show wpAny _ _ (if(Value.ref p==Value.none)=true then _ else _) _ _ s;rw[AA (show ¬((Value.ref p==Value.none)=true) from CP)];show wpAny _ _ (field (.ref j) 1 >>= _) _ _ s;refine Ag (wpAny_field c d (x:=.int k 0) rfl ?_);show wpAny _ _ (seqItems? (.ref p) >>= _) _ _ s;refine Ag (FM i l ?_);simp only[Ex,h];refine Ag (IY (Ag (wpAny_setField c d (by simp) ?_)));show wpAny _ _ (newExc (.type "StopIteration") [] >>= _) _ _ _;refine Ag ?_;simp only[newExc,newTuple];refine Ag (wpAny_newObj_type (Ag (m:=firstArgMember _ _) (wpAny_of_eq (a:=Value.none) (by first|rfl|(simp only[firstArgMember];rfl)) (wpAny_newObj_type ?_ (by size_fits)))) (by size_fits));simp only[raiseNew];refine Ag (wpAny_handled ?_)
 first|rw[show A.in1.handled=none from e]|rw[e]
 exact Ag (AH (wpAny_throw (q _ _ (((v8 ..).extBut.push _).push _) ⟨_,Cf _ rfl,rfl⟩)))
end
variable {prog:Program}{w:World}{A:Around}
def GX(c:A.handled=none)(j p:Addr)(d:p≠j)(vs:K'):Draws prog w A j [j,p] vs.size (λi v=>vs[i]?=some v) (λi h=>h.IsTupleIter j p i/\h.IsTuple p vs) where
 live _ _ st:=let ⟨o,e,_⟩:=st.1;⟨o,e⟩
 frame _ _ _ st k:=by obtain⟨⟨o,f,l⟩,u,m,n⟩:=st;exact⟨⟨o,k j (by simp) _ f,l⟩,u,k p (by simp) _ m,n⟩
 item i s Q E a st q:=OR st.1 st.2 (y:=vs[i]) (by simp[a]) λg r b=>q _ g s.toks (by simp[a]) ⟨r,st.2.extBut b.extBut d⟩ b
 done s Q E st q:=Q6 c st.1 st.2 (by simp) q
set_option tactic.hygienic true in
def V5(p:Addr)(vs:K')(n:Nat)(dct:Option Addr)(e:Array (I')) :
 Meets (Builtin.«enumerate.__new__» ⟨[.type "enumerate",.ref p],[]⟩) (λ_ R s=>s.heap.get? p=some {cls:=.type "tuple",dict:=dct,data:=.seq vs n,slots:=e}/\R (.ok (.ret (.ref (s.heap.push {cls:=.type "tuple_iterator",data:=.fields #[.ref p,.int 0 0]}).objs.size))) {s with heap:=(s.heap.push {cls:=.type "tuple_iterator",data:=.fields #[.ref p,.int 0 0]}).push {cls:=.type "enumerate",data:=.fields #[.none,.bool false,.ref s.heap.objs.size,rawInt 0,.none,.none]}}):=
 .of_wp λprog w A R s h=>by
  obtain⟨f,g,d,O,i⟩:=s;obtain⟨a,h⟩:=h;have k:=sub_enumerate;have b:Heap.IsTuple (Shared.heap ⟨f,g,d,O,i⟩) p vs:=⟨_,a,rfl,n,rfl⟩
  wp_walk using AutoSeq1.wpAny_loadPart' a
  refine wpAny_stack_any λj=>AH ?_;split;rename_i c _ _ _ _ _;cases(c==Value.type "enumerate")<;>(wp_walk using AutoSeq1.wpAny_loadPart' a,wpAny_pyIter_tuple b;exact⟨_,rfl,h⟩)
  wp_walk using AutoSeq1.wpAny_loadPart' a,wpAny_pyIter_tuple b
  exact⟨_,rfl,h⟩
variable {p:Addr}{Q:B'}
theorem V6{E:B'}{s:Shared}{vs:K'}(i:s.heap.IsTuple p vs)
 (h:∀g,IsEnum g (s.heap.objs.size+1) s.heap.objs.size 0 .none->g.IsTupleIter s.heap.objs.size p 0->g.objs.size=s.heap.objs.size+2->(∀b o,s.heap.get? b=some o->g.get? b=some o)->Q (.ref (s.heap.objs.size+1)) {s with heap:=g}) :
 wpAny (model prog w) A (call (.type "enumerate") [.ref p]) Q E s:=by
 obtain⟨⟨c,dct,dt,j⟩,k,a,n,hd⟩:=i;replace a:c=.type "tuple" :=a;replace hd:dt=.seq vs n:=hd;subst a hd;refine callType_new F.called_enumerate (by decide) (F.typeCall_enumerate_1 _) (F.newCall_enumerate_1 _) (λl=>F.args_object_init_2 l _) F.entry_enumerate_new (V5 p vs n dct j) ⟨k,?_⟩;have d:(s.heap.push {cls:=.type "tuple_iterator",data:=.fields #[.ref p,.int 0 0]}).objs.size=s.heap.objs.size+1:=u4 ..;show _/\_;rw[d]
 have f:IsEnum ((s.heap.push {cls:=.type "tuple_iterator",data:=.fields #[.ref p,.int 0 0]}).push {cls:=.type "enumerate",data:=.fields #[.none,.bool false,.ref s.heap.objs.size,rawInt 0,.none,.none]}) (s.heap.objs.size+1) s.heap.objs.size 0 .none:=by
  have e:=Cf (s.heap.push {cls:=.type "tuple_iterator",data:=.fields #[.ref p,.int 0 0]}) (o:={cls:=.type "enumerate",data:=.fields #[.none,.bool false,.ref s.heap.objs.size,rawInt 0,.none,.none]}) rfl
  rwa [d] at e
 exact⟨⟨_,f,rfl⟩,h _ f ⟨_,Bb _ (Cf _ rfl),rfl,rfl⟩ (by rw[u4,d]) λb o x=>Bb _ (Bb _ x)⟩
def GY (K:Ah) (l:Addr):It:=
 ⟨λi H=>∃xs x,Am K H l xs/\xs[i]?=some x,
  λi H v H'=>∃T x,H T=none/\v=.ref T/\H'=upd H T (.tup [.int i,x])/\∀xs,Am K H l xs->xs[i]?=some x,
  λi H=>∃xs,Am K H l xs/\xs.length=i⟩
def La (e it l:Addr) (i:Nat) (h:Heap):Prop:=(∃old,IsEnum h e it i old)/\h.IsTupleIter it l i
variable {es:L'}{L:Pos}{l:Addr}
theorem V7{P:Program}{K:Ah}{k:Nat}{e d:Addr}(W:e≠d)(ao:e≠l)(af:l≠d) :
 EA P w K (.Tuple es k L) (GY K l) [e,d] e (La e d l) where
 mem:=by simp
 obj:=λi h g b a=>by obtain⟨⟨C,f⟩,⟨J,x,c1,M⟩⟩:=g;simp at a;rcases a with rfl|rfl;exact⟨_,f,λv q=>by cases q⟩;exact⟨_,x,λv q=>by rw[M] at q;cases q⟩
 keep:=λi h h' g kk=>by obtain⟨⟨C,f⟩,⟨J,x,c1,M⟩⟩:=g;exact⟨⟨C,kk e (by simp) _ f⟩,⟨J,kk d (by simp) _ x,c1,M⟩⟩
 item:=by
  intro X N Q R m i aa s σ H aj I B g S;subst N Q R;obtain⟨xs,ae,G,hx⟩:=S;obtain⟨⟨C,f⟩,E⟩:=g;obtain⟨j,Y,T,aq⟩:=I.tuple G;obtain⟨u1,ag,ar⟩:=Y.get hx;have Z:s.heap.IsTuple l j.toArray:=T;have au:i<j.toArray.size:=by have:=(AS.mp ag).1;simpa using this
  refine wpAny_pyNext_enum_itemD (GX (A:=X.A.in1) (by exact I.ok.hd m) d l af j.toArray) f ⟨E,Z⟩ au W (by simp;exact⟨W,ao⟩) λy h' O hy a1 a2 a3 a4 hk=>?_;have ey:y=u1:=(by have h2:j.toArray[i]?=some u1:=(by simpa using ag);rw[h2] at hy;exact(Ce hy).symm);subst ey;refine⟨_,rfl,wpAny_letOwnedTupleGo_enum (s:={s with heap:=h',toks:=O+1}) a1 λD a0 ab=>?_⟩;have p:=B e (by simp);have r:=B d (by simp);have FX:∀b u,H b=some u->b≠e/\b≠d:=λb u z=>⟨AN z p.1,AN z r.1⟩;have keep:∀b o,b≠e->b≠d->s.heap.get? b=some o->D.get? b=some o:=λb o F U z=>(ab.2 b F).trans (hk b o F U z);have t:∀{b:Addr},b∉[e,d]->b≠e/\b≠d:=λ{b}a=>by simpa using a
  have I1:Inv X aa σ H {s with heap:=D,toks:=O+1}:=by
   refine I.step (g':=s.gens) (t':=O+1) (d':=s.drawn) (h':=D) (ch:=[e,d]) (λb a=>?_) (λb n _ _ a z _=>keep b n (t a).1 (t a).2 z) (λb n _ _ a z _=>⟨n.slots,keep b n (t a).1 (t a).2 z⟩)
    (λ_ _ _ _ ak=>ak) (λb n a z=>⟨n,keep b n (t a).1 (t a).2 z⟩) (λ_ _ z=>z) (λ_ _ _ z=>z) (λb ps z=>⟨#[],by rw[z];simp⟩) (λa5 hm=>?_) (λb u z=>?_) I.bare
   have:b=e\/b=d:=(by simpa using a);rcases this with rfl|rfl;exact⟨p.2.2.2.1,p.2.1,p.2.2.2.2.1,p.2.2.2.2.2⟩;exact⟨r.2.2.2.1,r.2.1,r.2.2.2.2.1,r.2.2.2.2.2⟩;obtain⟨o,es,ep,ho,al⟩:=hm;exact⟨o,es,ep,keep _ o (Ne.symm p.2.1) (Ne.symm r.2.1) ho,al⟩;refine(I.hok b u z).stay (λc v m q=>?_) (λ_ q=>q) λ_ _ q=>q;have av:∃V,H c=some V:=(by rcases m with rfl|m;exact⟨_,z⟩;exact⟨_,m⟩);obtain⟨V,e'⟩:=av;obtain⟨F,U⟩:=FX c V e';exact keep c v F U q
  have aw:s.heap.objs.size≠e:=Nat.ne_of_gt (AY f);have ah:H s.heap.objs.size=none:=I.hok.fresh (AB _);have ai:D.get? s.heap.objs.size=some {cls:=.type "tuple",data:=.seq #[.int i O,y]}:=(ab.2 _ aw).trans a3;have I2:Inv X aa σ (upd H s.heap.objs.size (.tup [.int i,ae])) {s with heap:=D,toks:=O+1}:=(by refine I1.track (I.fpOk (AB _) ah) ⟨_,ai⟩ ?_;exact⟨by show 2<=sizeLine;decide,[.int i O,y],.cons ⟨_,rfl⟩ (.cons ar .nil),⟨_,ai,rfl,_,rfl⟩⟩);refine⟨.ref s.heap.objs.size,_,I2,rfl,⟨s.heap.objs.size,ae,ah,rfl,rfl,λzs ax=>by rw[I.tuple_inj ax G];exact hx⟩,?_,λb a=>?_⟩;refine⟨⟨y,by simpa using a0⟩,a2.1.extBut ab.extBut (Ne.symm W)⟩;have ay:=(B b a).1;rw[Ax (λq=>?_)];exact ay;have az:b=e\/b=d:=(by simpa using a);obtain⟨J,x,_⟩:=E;have lt:b<s.heap.objs.size:=(by rcases az with rfl|rfl;exact AY f;exact AY x);rw[q] at lt;exact absurd lt (EV _)
 done:=by
  intro X N Q R m i aa s σ H aj I B g S;subst N Q R;obtain⟨xs,G,a8⟩:=S;obtain⟨⟨C,f⟩,E⟩:=g;obtain⟨j,Y,T,aq⟩:=I.tuple G;have a7:=Y.length;have Z:s.heap.IsTuple l j.toArray:=T;have ei:i=j.toArray.size:=by simp;lia
  obtain⟨f0,an,a6,f3,f4,f5⟩:=B d (by simp);refine wpAny_pyNext_enum_endD (GX (A:=X.A.in1) (by exact I.ok.hd m) d l af j.toArray) f ⟨by rw[<-ei];exact E,Z⟩ λh' eb=>⟨rfl,I.turned (t':=s.toks) (λb o a z=>eb b o a z) f0 an f3 f4 f5⟩
 self:=λ_ _ _ _ _ g h=>by obtain⟨⟨C,f⟩,_⟩:=g;exact wpAny_pyIter_enum f h
def Lb (K:Ah) (F:TA):TI:=λσ H R=>F σ H λvs H1=>∃l,vs=[.ref l]/\(∃xs,Am K H1 l xs)/\R (GY K l) H1
def V8{k:Nat}{c:Pos}{a:Expr}{F:TA}{p:Pos}(n:Gl X "enumerate")(o:X.mg "enumerate" = none)(r:PA X [a] F)(t:starEach [a] X.env=[(false,eval a X.env)]:=by rfl) :
 PI X (.Tuple es k c) (.Call (.Name "enumerate" p) [a] [] L) (Lb X.K F):=by
 intro N s σ H R I h;refine Call_ (HD I n o (u:=.type "enumerate") (by decide +kernel) (PyProof.Rows.callWith_type1 (AJ (r L N s σ H _ I h) λO d⟨P,v,f,w,x⟩=>?_) (by rw[t];rfl) (by rfl)));obtain⟨l,rfl,⟨Q,y⟩,q⟩:=x;obtain⟨A,rfl,J⟩:=El w;obtain rfl:A=Value.ref l:=J;obtain⟨K,S,e,z⟩:=f.tuple y;have g:d.heap.IsTuple l K.toArray:=e;obtain⟨T,B,_⟩:=id g;have i:l<d.heap.objs.size:=AY B;refine V6 g λC j D U E=>?_;refine wpAny_pyIter_enum (s:={d with heap:=C}) j ?_;refine⟨_,[d.heap.objs.size+1,d.heap.objs.size],_,_,v,rfl,f.kept (t':=d.toks) E,V7 (Nat.succ_ne_self _) (Nat.ne_of_gt (Nat.lt_succ_of_lt i)) (CF i),⟨⟨_,j⟩,D⟩,λb G=>?_,q⟩;have m:d.heap.objs.size<=b:=(by have M:b=d.heap.objs.size+1\/b=d.heap.objs.size:=(by simpa using G);rcases M with rfl|rfl;exact Nat.le_add_right _ _;exact AB _);exact f.fpOk m (f.hok.fresh m)
variable {xs:R'}{g:TG}{D:Ends}{σ:St}{H:Hp}
def V9{K:Ah}{j:TS}(Pv:Nat->St->Hp->Prop)(h:Pv 0 σ H)(k:∀i σ H,Pv i σ H->Am K H l xs)
 (n:∀i x T σ H,xs[i]?=some x->H T=none->Pv i σ H->g (.ref T) σ (upd H T (.tup [.int i,x])) λσ2 b=>j {D with nx:=Pv (i+1),ct:=Pv (i+1),bk:=D.nx} σ2 b) (hd:∀σ H,Pv xs.length σ H->D.nx σ H) :
 ∃W:Nat->Nat->St->Hp->Prop,(∃m,W 0 m σ H)/\∀i m σ H,W i m σ H ->
  ((GY K l).stop i H/\D.nx σ H)\/((GY K l).go i H/\∃N:St->Hp->Prop,(∀σ' a,N σ' a->∃d,d<m/\W (i+1) d σ' a)/\∀x a,(GY K l).yld i H x a->g x σ a λσ2 b=>j {D with nx:=N,ct:=N,bk:=D.nx} σ2 b):=by
 refine⟨λi m σ H=>m=xs.length-i/\i<=xs.length/\Pv i σ H,⟨_,rfl,B8 _,h⟩,?_⟩;rintro i m σ H ⟨rfl,s,p⟩;have c:=k i σ H p;by_cases f:i<xs.length;refine .inr ⟨⟨xs,xs[i],c,by simp[f]⟩,Pv (i+1),λσ' a o=>⟨xs.length-(i+1),by lia,rfl,f,o⟩,λv a y=>?_⟩;obtain⟨T,x,q,rfl,rfl,r⟩:=y;exact n i x T σ H (r xs c) q p;have e:i=xs.length:=(by lia);refine .inl ⟨⟨xs,c,by lia⟩,?_⟩;rw[e] at p;exact hd σ H p
section
variable {prog:Program} {w:World} {A:Around} {E:B'} {s:Shared}
variable {z a o i j q:Addr}{m:Nat}{ys:K'}{u v:Value}
def Wa{k:Nat}{xs:K'}{x y:Value}(D:ZipApart z a o i j p q)(B:IsZip s.heap z a o .none)(ea:IsPair s.heap a (.ref i) (.ref j))(eo:IsPair s.heap o u v)
 (ei:s.heap.IsTupleIter i p k) (ej:s.heap.IsTupleIter j q m) (tp:s.heap.IsTuple p xs) (tq:s.heap.IsTuple q ys) (hx:xs[k]?=some x) (hy:ys[m]?=some y)
 (ah:∀g,IsZip g z a o (rawInt s.heap.objs.size)->IsPair g o x y->g.IsTupleIter i p (k+1)->g.IsTupleIter j q (m+1)->IsPair g s.heap.objs.size x y->g.objs.size=s.heap.objs.size+1->(∀c d,c≠z->c≠o->c≠i->c≠j->s.heap.get? c=some d->g.get? c=some d)->Q (.ref s.heap.objs.size) {s with heap:=g}) :
 wpAny (model prog w) A (Builtin.«zip.__next__» ⟨[.ref z],[]⟩) (λf t=>∃v,f=.done (.ret v)/\Q v t) E s:=by
 show wpAny _ _ (field (.ref z) 2 >>= _) _ _ _;refine Ag (wpAny_field B rfl (x:=.bool false) rfl ?_);show wpAny _ _ (field (.ref z) 3 >>= _) _ _ _;refine Ag (wpAny_field B rfl (x:=.ref a) rfl (Ag (FM ea rfl ?_)));show wpAny _ _ (Builtin.SmallTypes.ownedTupleIsFree (.ref z) >>= _) _ _ _;refine Ag ?_;unfold Builtin.SmallTypes.ownedTupleIsFree;refine Ag (wpAny_field B rfl (x:=.none) rfl (AH ?_));simp only[if_true];refine Ag (IY (Ag (wpAny_field B rfl (x:=.ref o) rfl (Ag (wpAny_setField_rec B (by simp) λaa M h=>?_)))));replace M:IsZip aa z a o .ellipsis:=M;refine Ag ?_;simp only[List.zipIdx_cons,List.zipIdx_nil,List.forIn_cons,List.forIn_nil];refine Ag (Ag (wpAny_onRaise ?_));show wpAny _ _ (Builtin.SmallTypes.nextOf (.ref i) >>= _) _ _ _;refine Ag (OR (ei.extBut h.extBut D.i1z) (tp.extBut h.extBut D.l1z) hx λab i2 l=>AH ?_);have U:IsPair ab o u v:=l.extBut _ _ D.TOi1 (h.extBut _ _ D.TOz eo);refine Ag (FM U rfl (Ag (wpAny_updateSeq_pair U λae N r=>Ag (wpAny_letGo (AH ?_)))));replace N:IsPair ae o x v:=N;refine Ag (Ag (wpAny_onRaise ?_));show wpAny _ _ (Builtin.SmallTypes.nextOf (.ref j) >>= _) _ _ _;refine Ag (OR (((ej.extBut h.extBut D.i2z).extBut l.extBut D.i12.symm).extBut r.extBut D.TOi2.symm) (((tq.extBut h.extBut D.l2z).extBut l.extBut D.l2i1).extBut r.extBut D.l2TO) hy λg4 j4 C=>AH ?_);have V:IsPair g4 o x v:=C.extBut _ _ D.TOi2 N;refine Ag (FM V rfl (Ag (wpAny_updateSeq_pair V λb H F=>Ag (wpAny_letGo (AH (AH ?_))))));replace H:IsPair b o x y:=H;refine Ag (FM H rfl (Ag (wpAny_newTuple ?_)));have sz:b.objs.size=s.heap.objs.size:=(by rw[F.1,C.1,r.1,l.1,h.1]);have W:IsZip b z a o .ellipsis:=F.extBut _ _ D.TOz.symm (C.extBut _ _ D.i2z.symm (r.extBut _ _ D.TOz.symm (l.extBut _ _ D.i1z.symm M)));have k5:∀c d,c≠z->c≠o->c≠i->c≠j->s.heap.get? c=some d->b.get? c=some d:=λc d I J O P e=>F.extBut _ _ J (C.extBut _ _ P (r.extBut _ _ J (l.extBut _ _ O (h.extBut _ _ I e))));have i5:b.IsTupleIter i p (k+1):=((i2.extBut r.extBut D.TOi1.symm).extBut C.extBut D.i12).extBut F.extBut D.TOi1.symm;have j5:b.IsTupleIter j q (m+1):=j4.extBut F.extBut D.TOi2.symm;have X:z<b.objs.size:=AY W;show wpAny _ _ (Builtin.SmallTypes.ownedTupleHandOut (.ref z) (.ref b.objs.size) >>= _) _ _ _;refine Ag ?_;unfold Builtin.SmallTypes.ownedTupleHandOut;have z6:IsZip (b.push {cls:=.type "tuple",data:=.seq #[x,y]}) z a o .ellipsis:=Bb _ W;refine Ag (wpAny_setField_rec z6 (by simp) λg7 R S=>?_);replace R:IsZip g7 z a o (rawInt b.objs.size):=R;refine wpAny_setField_rec R (by simp) λG K T=>?_;replace K:IsZip G z a o (rawInt b.objs.size):=K;have L:∀c d,c≠z->b.get? c=some d->G.get? c=some d:=λc d n e=>T.extBut _ _ n (S.extBut _ _ n (Bb _ e));have Y:IsPair G b.objs.size x y:=T.extBut _ _ (Nat.ne_of_gt X) (S.extBut _ _ (Nat.ne_of_gt X) (Cf _ rfl));have Z:G.objs.size=b.objs.size+1:=(by rw[T.1,S.1,u4]);rw[sz] at K Y Z;refine AH ⟨_,rfl,?_⟩;show Q (.ref b.objs.size) _;rw[sz];obtain⟨oi,e1,e2⟩:=i5;obtain⟨oj,af,ag⟩:=j5;exact ah G K (L _ _ D.TOz H) ⟨oi,L _ _ D.i1z e1,e2⟩ ⟨oj,L _ _ D.i2z af,ag⟩ Y Z λc d I J O P e=>L c d I (k5 c d I J O P e)
def Wb{k:Nat}{xs:K'}{Q:PySem.Fin->Shared->Prop}(J:A.handled=none)(D:ZipApart z a o i j p q)(r:IsZip s.heap z a o .none)(U:IsPair s.heap a (.ref i) (.ref j))(V:IsPair s.heap o u v)
 (K:s.heap.IsTupleIter i p k) (W:s.heap.IsTupleIter j q m) (L:s.heap.IsTuple p xs) (X:s.heap.IsTuple q ys) (aa:xs[k]?=none\/ys[m]?=none)
 (T:∀g e,(∀c d,c≠z->c≠o->c≠i->c≠j->s.heap.get? c=some d->g.get? c=some d)->(∃d,g.get? e=some d/\d.cls=.type "StopIteration")->E (.ref e) {s with heap:=g}) :
 wpAny (model prog w) A (Builtin.«zip.__next__» ⟨[.ref z],[]⟩) Q E s:=by
 show wpAny _ _ (field (.ref z) 2 >>= _) _ _ _;refine Ag (wpAny_field r rfl (x:=.bool false) rfl ?_);show wpAny _ _ (field (.ref z) 3 >>= _) _ _ _;refine Ag (wpAny_field r rfl (x:=.ref a) rfl (Ag (FM U rfl ?_)));show wpAny _ _ (Builtin.SmallTypes.ownedTupleIsFree (.ref z) >>= _) _ _ _;refine Ag ?_;unfold Builtin.SmallTypes.ownedTupleIsFree;refine Ag (wpAny_field r rfl (x:=.none) rfl (AH ?_));simp only[if_true];refine Ag (IY (Ag (wpAny_field r rfl (x:=.ref o) rfl (Ag (wpAny_setField_rec r (by simp) λY C b=>?_)))));replace C:IsZip Y z a o .ellipsis:=C;refine Ag ?_;simp only[List.zipIdx_cons,List.zipIdx_nil,List.forIn_cons,List.forIn_nil];refine Ag (Ag (wpAny_onRaise ?_));show wpAny _ _ (Builtin.SmallTypes.nextOf (.ref i) >>= _) _ _ _
 cases F:xs[k]? with
 |none=>
  refine Ag (Q6 J (K.extBut b.extBut D.i1z) (L.extBut b.extBut D.l1z) F λG e f H=>?_);obtain⟨d,l,y⟩:=H;have M:IsZip G z a o .ellipsis:=f _ _ D.i1z.symm C;have ne:e≠z:=λt=>by subst t;rw[M] at l;cases l;simp at y
  exact wpAny_setField_rec M (by simp) λN _ n=>T N e (λc d B _ I _ t=>n.extBut _ _ B (f _ _ I (b.extBut _ _ B t))) ⟨d,n.extBut _ _ ne l,y⟩
 |some x=>
  have Z:ys[m]?=none:=(by rcases aa with h|h;rw[F] at h;cases h;exact h);refine Ag (OR (K.extBut b.extBut D.i1z) (L.extBut b.extBut D.l1z) F λG i2 f=>AH ?_);have O:IsPair G o u v:=f.extBut _ _ D.TOi1 (b.extBut _ _ D.TOz V);refine Ag (FM O rfl (Ag (wpAny_updateSeq_pair O λN o3 n=>Ag (wpAny_letGo (AH ?_)))));refine Ag (Ag (wpAny_onRaise ?_));show wpAny _ _ (Builtin.SmallTypes.nextOf (.ref j) >>= _) _ _ _;refine Ag (Q6 J (((W.extBut b.extBut D.i2z).extBut f.extBut D.i12.symm).extBut n.extBut D.TOi2.symm) (((X.extBut b.extBut D.l2z).extBut f.extBut D.l2i1).extBut n.extBut D.l2TO) Z λg4 e P H=>?_);obtain⟨d,l,y⟩:=H;have R:IsZip g4 z a o .ellipsis:=P _ _ D.i2z.symm (n.extBut _ _ D.TOz.symm (f.extBut _ _ D.i1z.symm C));have ne:e≠z:=λt=>by subst t;rw[R] at l;cases l;simp at y
  exact wpAny_setField_rec R (by simp) λg5 _ S=>T g5 e (λc d B n2 I n4 t=>S.extBut _ _ B (P _ _ n4 (n.extBut _ _ n2 (f.extBut _ _ I (b.extBut _ _ B t))))) ⟨d,S.extBut _ _ ne l,y⟩
theorem Wc{k:Nat}{xs:K'}{x y:Value}{Q:I'->Shared->Prop}(D:ZipApart z a o i j p q)(b:IsZip s.heap z a o .none)(f:IsPair s.heap a (.ref i) (.ref j))(h:IsPair s.heap o u v)
 (l:s.heap.IsTupleIter i p k) (n:s.heap.IsTupleIter j q m) (r:s.heap.IsTuple p xs) (t:s.heap.IsTuple q ys) (B:xs[k]?=some x) (C:ys[m]?=some y)
 (N:∀g,IsZip g z a o (rawInt s.heap.objs.size)->IsPair g o x y->g.IsTupleIter i p (k+1)->g.IsTupleIter j q (m+1)->IsPair g s.heap.objs.size x y->g.objs.size=s.heap.objs.size+1->(∀c d,c≠z->c≠o->c≠i->c≠j->s.heap.get? c=some d->g.get? c=some d)->Q (some (.ref s.heap.objs.size)) {s with heap:=g}):wpAny (model prog w) A (pyNext (.ref z)) Q E s:=by
 have e:s.TypeIs (.ref z) "zip" :=⟨_,b,rfl⟩;unfold pyNext;exact Ag (wpAny_attempt (wpAny_callSpecial?_slot (name:=Str.ofString "__next__") e F.slot_zip_next (wpAny_call_entry F.slot_zip_next e F.entry_zip_next (Wa D b f h l n r t B C λg G H I J K L M=>AH (N g G H I J K L M)) (F.args_zip_next_1 _))))
theorem Wd{k:Nat}{xs:K'}{Q:I'->Shared->Prop}(l:A.handled=none)(D:ZipApart z a o i j p q)(f:IsZip s.heap z a o .none)(n:IsPair s.heap a (.ref i) (.ref j))(r:IsPair s.heap o u v)
 (t:s.heap.IsTupleIter i p k) (x:s.heap.IsTupleIter j q m) (y:s.heap.IsTuple p xs) (B:s.heap.IsTuple q ys) (K:xs[k]?=none\/ys[m]?=none)
 (J:∀g,(∀c d,c≠z->c≠o->c≠i->c≠j->s.heap.get? c=some d->g.get? c=some d)->Q none {s with heap:=g}):wpAny (model prog w) A (pyNext (.ref z)) Q E s:=by
 have h:s.TypeIs (.ref z) "zip" :=⟨_,f,rfl⟩;unfold pyNext;refine Ag (wpAny_attempt (wpAny_callSpecial?_slot (name:=Str.ofString "__next__") h F.slot_zip_next (wpAny_call_entry F.slot_zip_next h F.entry_zip_next (Wb l D f n r t x y B K λg e C G=>?_) (F.args_zip_next_1 _))));obtain⟨d,H,I⟩:=G;exact Ag (wpAny_isInstance (T:= "StopIteration") (b:=true) ⟨d,H,I⟩ isSubtype_stop (AH (J _ C)))
end
abbrev OS (h:Heap) (p:Addr):Heap:=h.push {cls:=.type "tuple_iterator",data:=.fields #[.ref p,.int 0 0]}
abbrev OT (h:Heap) (p q:Addr):Heap:=(OS h p).push {cls:=.type "tuple_iterator",data:=.fields #[.ref q,.int 0 0]}
abbrev OU (h:Heap) (p q:Addr):Heap:=(OT h p q).push {cls:=.type "tuple",data:=.seq #[.ref h.objs.size,.ref (OS h p).objs.size]}
abbrev OV (h:Heap) (p q:Addr):Heap:=(OU h p q).push {cls:=.type "tuple",data:=.seq #[.none,.none]}
abbrev Lc (h:Heap) (p q:Addr):Heap:=(OV h p q).push {cls:=.type "zip",data:=.fields #[.none,.bool false,.bool false,.ref (OT h p q).objs.size,.ref (OU h p q).objs.size]}
def We(p q:Addr)(xs ys:K'):Meets (Builtin.«zip.__new__» ⟨[.type "zip",.ref p,.ref q],[]⟩) (λ_ R s=>s.heap.IsTuple p xs/\s.heap.IsTuple q ys/\R (.ok (.ret (.ref (OV s.heap p q).objs.size))) {s with heap:=Lc s.heap p q}):=
 .of_wp λprog w A R s h=>by
  obtain⟨a,g,d,O,b⟩:=s;obtain⟨c,e,h⟩:=h;have j:=sub_zip;have f:Heap.IsTuple (Shared.heap ⟨a,g,d,O,b⟩) p xs:=c;have i:Heap.IsTuple (Shared.heap ⟨a.push {cls:=.type "tuple_iterator",data:=.fields #[.ref p,.int 0 0]},g,d,O,b⟩) q ys:=Heap.IsTuple.push e _
  wp_walk using wpAny_pyIter_tuple f,wpAny_pyIter_tuple i
  exact⟨_,rfl,h⟩
theorem Wf{E:B'}{s:Shared}{q:Addr}{xs ys:K'}(m:s.heap.IsTuple p xs)(n:s.heap.IsTuple q ys)
 (h:∀g,IsZip g (s.heap.objs.size+4) (s.heap.objs.size+2) (s.heap.objs.size+3) .none->IsPair g (s.heap.objs.size+2) (.ref s.heap.objs.size) (.ref (s.heap.objs.size+1))->IsPair g (s.heap.objs.size+3) .none .none->g.IsTupleIter s.heap.objs.size p 0->g.IsTupleIter (s.heap.objs.size+1) q 0->g.objs.size=s.heap.objs.size+5->(∀c o,s.heap.get? c=some o->g.get? c=some o)->Q (.ref (s.heap.objs.size+4)) {s with heap:=g}) :
 wpAny (model prog w) A (call (.type "zip") [.ref p,.ref q]) Q E s:=by
 refine callType_new F.called_zip (by decide) (F.typeCall_zip_2 _ _) (F.newCall_zip_2 _ _) (λu=>F.args_object_init_3 u _ _) F.entry_zip_new (We p q xs ys) ⟨m,n,?_⟩;have a:(OS s.heap p).objs.size=s.heap.objs.size+1:=u4 ..;have b:(OT s.heap p q).objs.size=s.heap.objs.size+2:=(by rw[u4,a]);have d:(OU s.heap p q).objs.size=s.heap.objs.size+3:=(by rw[u4,b]);have f:(OV s.heap p q).objs.size=s.heap.objs.size+4:=(by rw[u4,d]);have r:(Lc s.heap p q).objs.size=s.heap.objs.size+5:=(by rw[u4,f]);have i:(Lc s.heap p q).get? (OV s.heap p q).objs.size=some _:=Cf _ rfl;have j:(Lc s.heap p q).get? (OU s.heap p q).objs.size=some _:=Bb _ (Cf _ rfl);have k:(Lc s.heap p q).get? (OT s.heap p q).objs.size=some _:=Bb _ (Bb _ (Cf _ rfl));have l:(Lc s.heap p q).get? (OS s.heap p).objs.size=some _:=Bb _ (Bb _ (Bb _ (Cf _ rfl)));have t:(Lc s.heap p q).get? s.heap.objs.size=some _:=Bb _ (Bb _ (Bb _ (Bb _ (Cf _ rfl))));show _/\_;rw[b,d,f] at i;rw[a,b] at k;rw[d] at j;rw[a] at l;rw[f];exact⟨⟨_,i,rfl⟩,h _ i k j ⟨_,t,rfl,rfl⟩ ⟨_,l,rfl,rfl⟩ r λc o e=>Bb _ (Bb _ (Bb _ (Bb _ (Bb _ e))))⟩
def GZ (K:Ah) (l1 l2:Addr):It:=
 ⟨λi H=>∃xs ys x y,Am K H l1 xs/\Am K H l2 ys/\xs[i]?=some x/\ys[i]?=some y,
  λi H v H'=>∃T x y,H T=none/\v=.ref T/\H'=upd H T (.tup [x,y])/\(∀xs,Am K H l1 xs->xs[i]?=some x)/\∀ys,Am K H l2 ys->ys[i]?=some y,
  λi H=>∃xs ys,Am K H l1 xs/\Am K H l2 ys/\(xs.length<=i\/ys.length<=i)⟩
def NL (z TI TO i1 i2 l1 l2:Addr) (i:Nat) (h:Heap):Prop:=IsZip h z TI TO .none/\IsPair h TI (.ref i1) (.ref i2)/\(∃a b,IsPair h TO a b)/\h.IsTupleIter i1 l1 i/\h.IsTupleIter i2 l2 i
theorem Wg{P:Program}{K:Ah}{k:Nat}{z TI TO g j l1 l2:Addr}(D:ZipApart z TI TO g j l1 l2) :
 EA P w K (.Tuple es k L) (GZ K l1 l2) [z,TI,TO,g,j] z (NL z TI TO g j l1 l2) where
 mem:=by simp
 obj:=λi h B b d=>by obtain⟨C,E,⟨a,c,G⟩,⟨o1,e1,c1,d1⟩,⟨o2,e2,c2,d2⟩⟩:=B;simp at d;rcases d with rfl|rfl|rfl|rfl|rfl;exact⟨_,C,λv q=>by cases q⟩;exact⟨_,E,λv q=>by cases q⟩;exact⟨_,G,λv q=>by cases q⟩;exact⟨_,e1,λv q=>by rw[d1] at q;cases q⟩;exact⟨_,e2,λv q=>by rw[d2] at q;cases q⟩
 keep:=λi h h' B S=>by obtain⟨C,E,⟨a,c,G⟩,M,N⟩:=B;exact⟨S z (by simp) _ C,S TI (by simp) _ E,⟨a,c,S TO (by simp) _ G⟩,M.at λo e=>S g (by simp) o e,N.at λo e=>S j (by simp) o e⟩
 item:=by
  intro X hP hw hK t i ai s σ H al I A B hg;subst hP hw hK;obtain⟨xs,ys,x,y,Y,Z,hx,hy⟩:=hg;obtain⟨C,E,⟨a,c,G⟩,M,N⟩:=B;obtain⟨a0,ae,p1,ao⟩:=I.tuple Y;obtain⟨a7,af,J,aq⟩:=I.tuple Z;obtain⟨U,ar,au⟩:=ae.get hx;obtain⟨V,av,aw⟩:=af.get hy;refine Wc D C E G M N p1 J (x:=U) (y:=V) (by simpa using ar) (by simpa using av) λh' a1 a2 a3 a4 a5 a6 F=>?_;refine⟨_,rfl,wpAny_letOwnedTupleGo_zip (s:={s with heap:=h'}) a1 λT a8 R=>?_⟩;have m:=A z (by simp);have r:=A TO (by simp);have n:=A g (by simp);have p:=A j (by simp);have FX:∀b u,H b=some u->b≠z/\b≠TO/\b≠g/\b≠j:=λb u e=>⟨AN e m.1,AN e r.1,AN e n.1,AN e p.1⟩;have keep:∀b o,b≠z->b≠TO->b≠g->b≠j->s.heap.get? b=some o->T.get? b=some o:=λb o W n2 n3 n4 e=>(R.2 b W).trans (F b o W n2 n3 n4 e);have f:∀{b:Addr},b∉[z,TO,g,j]->b≠z/\b≠TO/\b≠g/\b≠j:=λ{b}d=>by simpa using d
  have I1:Inv X ai σ H {s with heap:=T}:=by
   refine I.step (g':=s.gens) (t':=s.toks) (d':=s.drawn) (h':=T) (ch:=[z,TO,g,j]) (λb d=>?_) (λb l _ _ d e _=>keep b l (f d).1 (f d).2.1 (f d).2.2.1 (f d).2.2.2 e) (λb l _ _ d e _=>⟨l.slots,keep b l (f d).1 (f d).2.1 (f d).2.2.1 (f d).2.2.2 e⟩)
    (λ_ _ _ _ aa=>aa) (λb l d e=>⟨l,keep b l (f d).1 (f d).2.1 (f d).2.2.1 (f d).2.2.2 e⟩) (λ_ _ e=>e) (λ_ _ _ e=>e) (λb ps e=>⟨#[],by rw[e];simp⟩) (λan hm=>?_) (λb u e=>?_) I.bare
   have:b=z\/b=TO\/b=g\/b=j:=(by simpa using d);rcases this with rfl|rfl|rfl|rfl;exact⟨m.2.2.2.1,m.2.1,m.2.2.2.2.1,m.2.2.2.2.2⟩;exact⟨r.2.2.2.1,r.2.1,r.2.2.2.2.1,r.2.2.2.2.2⟩;exact⟨n.2.2.2.1,n.2.1,n.2.2.2.2.1,n.2.2.2.2.2⟩;exact⟨p.2.2.2.1,p.2.1,p.2.2.2.2.1,p.2.2.2.2.2⟩;obtain⟨o,es,ep,ho,ab⟩:=hm;exact⟨o,es,ep,keep _ o (Ne.symm m.2.1) (Ne.symm r.2.1) (Ne.symm n.2.1) (Ne.symm p.2.1) ho,ab⟩;refine(I.hok b u e).stay (λc v t q=>?_) (λ_ q=>q) λ_ _ q=>q;have ag:∃O,H c=some O:=(by rcases t with rfl|t;exact⟨_,e⟩;exact⟨_,t⟩);obtain⟨O,Q⟩:=ag;obtain⟨W,n2,n3,n4⟩:=FX c O Q;exact keep c v W n2 n3 n4 q
  have ax:s.heap.objs.size≠z:=Nat.ne_of_gt (AY C);have aj:H s.heap.objs.size=none:=I.hok.fresh (AB _);have ak:T.get? s.heap.objs.size=some {cls:=.type "tuple",data:=.seq #[U,V]}:=(R.2 _ ax).trans a5;have I2:Inv X ai σ (upd H s.heap.objs.size (.tup [x,y])) {s with heap:=T}:=(by refine I1.track (I.fpOk (AB _) aj) ⟨_,ak⟩ ?_;exact⟨by show 2<=sizeLine;decide,[U,V],.cons au (.cons aw .nil),⟨_,ak,rfl,_,rfl⟩⟩);refine⟨.ref s.heap.objs.size,_,I2,rfl,⟨s.heap.objs.size,x,y,aj,rfl,rfl,λzs ah=>by rw[I.tuple_inj ah Y];exact hx,λzs ah=>by rw[I.tuple_inj ah Z];exact hy⟩,?_,λb d=>?_⟩;refine⟨a8,R.extBut _ _ D.TIz (F _ _ D.TIz D.TITO D.TIi1 D.TIi2 E),⟨U,V,R.extBut _ _ D.TOz a2⟩,a3.extBut R.extBut D.i1z,a4.extBut R.extBut D.i2z⟩;have ay:=(A b d).1;rw[Ax (λq=>?_)];exact ay;have az:b=z\/b=TI\/b=TO\/b=g\/b=j:=(by simpa using d);obtain⟨o1,e1,_⟩:=M;obtain⟨o2,e2,_⟩:=N;have lt:b<s.heap.objs.size:=(by rcases az with rfl|rfl|rfl|rfl|rfl;exact AY C;exact AY E;exact AY G;exact AY e1;exact AY e2);rw[q] at lt;exact absurd lt (EV _)
 done:=by
  intro X hP hw hK t i ai s σ H al I A B hg;subst hP hw hK;obtain⟨xs,ys,Y,Z,aB⟩:=hg;obtain⟨C,E,⟨a,c,G⟩,M,N⟩:=B;obtain⟨a0,ae,p1,ao⟩:=I.tuple Y;obtain⟨a7,af,J,aq⟩:=I.tuple Z;have a9:=ae.length;have aA:=af.length;refine Wd (I.ok.hd t) D C E G M N p1 J (by simp;lia) λh' F=>⟨rfl,?_⟩;have m:=A z (by simp);have r:=A TO (by simp);have n:=A g (by simp);have p:=A j (by simp);have f:∀{b:Addr},b∉[z,TO,g,j]->b≠z/\b≠TO/\b≠g/\b≠j:=λ{b}d=>by simpa using d
  refine I.step (g':=s.gens) (t':=s.toks) (d':=s.drawn) (h':=h') (ch:=[z,TO,g,j]) (λb d=>?_) (λb l _ _ d e _=>F b l (f d).1 (f d).2.1 (f d).2.2.1 (f d).2.2.2 e) (λb l _ _ d e _=>⟨l.slots,F b l (f d).1 (f d).2.1 (f d).2.2.1 (f d).2.2.2 e⟩)
   (λ_ _ _ _ aa=>aa) (λb l d e=>⟨l,F b l (f d).1 (f d).2.1 (f d).2.2.1 (f d).2.2.2 e⟩) (λ_ _ e=>e) (λ_ _ _ e=>e) (λb ps e=>⟨#[],by rw[e];simp⟩) (λan hm=>?_) (λb u e=>?_) I.bare
  have:b=z\/b=TO\/b=g\/b=j:=(by simpa using d);rcases this with rfl|rfl|rfl|rfl;exact⟨m.2.2.2.1,m.2.1,m.2.2.2.2.1,m.2.2.2.2.2⟩;exact⟨r.2.2.2.1,r.2.1,r.2.2.2.2.1,r.2.2.2.2.2⟩;exact⟨n.2.2.2.1,n.2.1,n.2.2.2.2.1,n.2.2.2.2.2⟩;exact⟨p.2.2.2.1,p.2.1,p.2.2.2.2.1,p.2.2.2.2.2⟩;obtain⟨o,es,ep,ho,ab⟩:=hm;exact⟨o,es,ep,F _ o (Ne.symm m.2.1) (Ne.symm r.2.1) (Ne.symm n.2.1) (Ne.symm p.2.1) ho,ab⟩;refine(I.hok b u e).stay (λc v t q=>?_) (λ_ q=>q) λ_ _ q=>q;have ag:∃O,H c=some O:=(by rcases t with rfl|t;exact⟨_,e⟩;exact⟨_,t⟩);obtain⟨O,Q⟩:=ag;exact F c v (AN Q m.1) (AN Q r.1) (AN Q n.1) (AN Q p.1) q
 self:=λ_ _ _ _ _ B h=>wpAny_pyIter_zip B.1 h
def NM (K:Ah) (F:TA):TI:=λσ H R=>F σ H λvs H1=>∃l1 l2,vs=[.ref l1,.ref l2]/\(((∃xs,Ad K H1 l1 xs)/\(∃ys,Ad K H1 l2 ys)/\R (Ie K l1 l2) H1)\/((∃xs,Am K H1 l1 xs)/\(∃ys,Am K H1 l2 ys)/\R (GZ K l1 l2) H1))
def Iy{k:Nat}{c:Pos}{a b:Expr}{F:TA}{p:Pos}(G:Gl X "zip")(K:X.mg "zip" = none)(M:PA X [a,b] F)(N:starEach [a,b] X.env=[(false,eval a X.env),(false,eval b X.env)]:=by rfl)(E:starEach [b] X.env=[(false,eval b X.env)]:=by rfl) :
 PI X (.Tuple es k c) (.Call (.Name "zip" p) [a,b] [] L) (NM X.K F):=by
 intro ae s σ H ah I h;refine Call_ (HD I G K (u:=.type "zip") (by decide +kernel) (PyProof.Rows.callWith_type1 (AJ (M L ae s σ H _ I h) λus d⟨vs,D,f,O,P⟩=>?_) (by rw[N,E]) (by rw[E];rfl)));obtain⟨l,m,rfl,Q⟩:=P;obtain⟨R,S,rfl,U,V⟩:=Gv O;obtain rfl:R=Value.ref l:=U;obtain rfl:S=Value.ref m:=V;rcases Q with⟨⟨xs,w⟩,⟨T,x⟩,q⟩|⟨⟨xs,w⟩,⟨T,x⟩,q⟩;obtain⟨af,W,g,Y⟩:=f.list w;obtain⟨ag,Z,J,aa⟩:=f.list x;have n:l<d.heap.objs.size:=by obtain⟨_,e,_⟩:=g.isList;exact AY e
 have o:m<d.heap.objs.size:=by obtain⟨_,e,_⟩:=J.isList;exact AY e
 refine call_zip_2 g.isList J.isList λr i y z A B ab t=>?_;refine wpAny_pyIter_zip (s:={d with heap:=r}) i ?_;refine⟨_,[d.heap.objs.size+4,d.heap.objs.size+2,d.heap.objs.size+3,d.heap.objs.size,d.heap.objs.size+1],_,_,D,rfl,f.kept (t':=d.toks) t,SX (zipApart_new n o),⟨i,y,⟨_,_,z⟩,A,B⟩,λb v=>?_,q⟩;have j:d.heap.objs.size<=b:=(by have C:b=d.heap.objs.size+4\/b=d.heap.objs.size+2\/b=d.heap.objs.size+3\/b=d.heap.objs.size\/b=d.heap.objs.size+1:=(by simpa using v);rcases C with rfl|rfl|rfl|rfl|rfl;exact Nat.le_add_right _ _;exact Nat.le_add_right _ _;exact Nat.le_add_right _ _;exact AB _;exact Nat.le_add_right _ _);exact f.fpOk j (f.hok.fresh j);obtain⟨af,W,g,Y⟩:=f.tuple w;obtain⟨ag,Z,J,aa⟩:=f.tuple x;have n:l<d.heap.objs.size:=by obtain⟨_,e,_⟩:=g;exact AY e
 have o:m<d.heap.objs.size:=by obtain⟨_,e,_⟩:=J;exact AY e
 refine Wf g J λr i y z A B ab t=>?_;refine wpAny_pyIter_zip (s:={d with heap:=r}) i ?_;refine⟨_,[d.heap.objs.size+4,d.heap.objs.size+2,d.heap.objs.size+3,d.heap.objs.size,d.heap.objs.size+1],_,_,D,rfl,f.kept (t':=d.toks) t,Wg (zipApart_new n o),⟨i,y,⟨_,_,z⟩,A,B⟩,λb v=>?_,q⟩;have j:d.heap.objs.size<=b:=(by have C:b=d.heap.objs.size+4\/b=d.heap.objs.size+2\/b=d.heap.objs.size+3\/b=d.heap.objs.size\/b=d.heap.objs.size+1:=(by simpa using v);rcases C with rfl|rfl|rfl|rfl|rfl;exact Nat.le_add_right _ _;exact Nat.le_add_right _ _;exact Nat.le_add_right _ _;exact AB _;exact Nat.le_add_right _ _);exact f.fpOk j (f.hok.fresh j)
def Ld:([]:R').length+1+1+1+1<=sizeLine:=by decide
def Fa:([]:R').length+1<=sizeLine:=by decide
abbrev Eg:Type:=List (Nat×Nat)×Nat
structure EX (H:Hp) (ts:E') (ms:List (Nat×Nat)):Prop where
 len:ts.length=ms.length
 at_:∀(n:Nat)(t:Addr)(p:Nat×Nat),ts[n]?=some t->ms[n]?=some p->H t=some (.tup [.int (p.1:Int),.str "step",.int (p.2:Int)])
def EX.nil:EX H [] []:=⟨rfl,λn t p h=>by simp at h⟩
variable {H':Hp}{ts:E'}{ms:List (Nat×Nat)}
def EX.same(e:Ac H H')(h:EX H ts ms):EX H' ts ms:=⟨h.len,λn t p a b=>e _ _ (h.at_ n t p a b)⟩
variable {o:HO}
def EX.updL{D:Addr}{ss:List (Nat×Nat)}(c:H D=some (.lst xs))(h:EX H ts ss):EX (upd H D o) ts ss:=⟨h.len,λn t p a b=>by
 have:=h.at_ n t p a b;rw[Ax λz=>by rw[z,c] at this;cases this];exact this⟩
def EX.snoc{t:Addr}{p:Nat×Nat}(h:EX H ts ms)(e:H t=some (.tup [.int (p.1:Int),.str "step",.int (p.2:Int)])):EX H (ts++[t]) (ms++[p]):=by refine⟨by rw[BC,BC,h.len];rfl,λn v q a b=>?_⟩;rcases v9 n ts.length with c|g;rw[DH c] at a;rw[DH (by rw[<-h.len];exact c)] at b;exact h.at_ n v q a b;have f:n<(ts++[t]).length:=(AS.mp a).1;rw[BC,Ff] at f;have d:n=ts.length:=(by lia);subst d;rw[DJ (AB _),Nat.sub_self] at a;rw[DJ (by rw[h.len];exact AB _),h.len,Nat.sub_self] at b;cases a;cases b;exact e
abbrev Jr:Enc:=Jp Fo QY Fo
abbrev Le:Enc:=Jp (DT Jr) Fo Fo
abbrev Lf (p:Nat×Nat):Jr.O.α:=((p.1:Int), "step",(p.2:Int))
def EX.dts{K:Ah}(h:EX H ts ms):Au K H (ts.map V.ref) ((ms.map Lf).map Jr.D):=by refine Au.of_get (by simpa using h.len) λn v d a b=>?_;rw[AV] at a b;obtain⟨t,e,rfl⟩:=CD.mp a;obtain⟨o,c,rfl⟩:=CD.mp b;rw[AV] at c;obtain⟨p,f,rfl⟩:=CD.mp c;exact .tup (Am.of (h.at_ n t p e f)) (.cons (.int _) (.cons (.str _) (.cons (.int _) .nil)))
def Ho (H:Hp) (a:Addr) (b:Eg):Prop:=∃ml ts,H a=some (.tup [.ref ml,.int (b.2:Int),.int 0])/\H ml=some (.lst (ts.map V.ref))/\EX H ts b.1
def Ho.same{H H':Hp}{a:Addr}{b:Eg}(e:Ac H H')(h:Ho H a b):Ho H' a b:=let ⟨c,ts,d,f,g⟩:=h;⟨c,ts,e _ _ d,e _ _ f,g.same e⟩
abbrev Q7 (b:Eg):Le.O.α:=(b.1.map Lf,(b.2:Int),0)
variable {a:Addr}
def Ho.dt{K:Ah}{b:Eg}(h:Ho H a b):Aw K H (.ref a) (Le.D (Q7 b)):=by obtain⟨f,ts,c,d,e⟩:=h;exact .tup (Am.of c) (.cons (.lst (Ad.of d) e.dts) (.cons (.int _) (.cons (.int _) .nil)))
variable {caps:M'}{te:TE}{H1:Hp}{n:Nat}
def TU{k:Nat}{tc:TT}{Q:Addr->Hp->Prop}{lo:Int}(Pv:Addr->Nat->R'->Hp->Prop)
 (r:∀D,H1 D=none->Pv D 0 [] (upd H1 D (.lst [])))
 (s:∀(D:Addr)(i:Nat)(ys:R')(a:Hp)(R:VK)(q:Hp->Prop),H1 D=none->i<n->Pv D i ys a->(∀y d,d D=some (.lst ys)->ys.length<sizeLine->Pv D (i+1) (ys++[y]) (upd d D (.lst (ys++[y])))->R y d)->(∀c,Pv D (i+1) ys c->q c)->g (.int (lo+i)) (CI k caps σ) a λσ4 l=>tc σ4 l λb c=>if b=true then te σ4 c R else q c)
 (hd:∀D ys a,H1 D=none->Pv D n ys a->Q D a) :
 ∀D,H1 D=none->∃W:Nat->Nat->R'->Hp->Prop,(∃m,W 0 m [] (upd H1 D (.lst [])))/\∀i m ys a,W i m ys a ->
  ((Kb lo n).stop i a/\Q D a)\/((Kb lo n).go i a/\∀x h,(Kb lo n).yld i a x h->g x (CI k caps σ) h λσ4 l=>tc σ4 l λb c =>
   if b=true then te σ4 c λy d=>d D=some (.lst ys)/\ys.length<sizeLine/\∃f,f<m/\W (i+1) f (ys++[y]) (upd d D (.lst (ys++[y]))) else ∃f,f<m/\W (i+1) f ys c):=by
 intro D o;refine⟨λi m ys a=>m=n-i/\i<=n/\Pv D i ys a,⟨n,rfl,B8 _,r D o⟩,?_⟩;rintro i m ys a ⟨rfl,A,p⟩;by_cases j:i<n;refine .inr ⟨j,λx h y=>?_⟩;obtain⟨rfl,rfl⟩:=y;refine s D i ys h _ _ o j p (λv d t u w=>?_) (λc z=>?_);exact⟨t,u,n-(i+1),by lia,rfl,j,w⟩;exact⟨n-(i+1),by lia,rfl,j,z⟩;have e:i=n:=(by lia);subst e;exact .inl ⟨AB _,hd D ys a o p⟩
def Lg{k:Nat}(a:BK k A):A.units+2<cLine:=Nat.lt_of_le_of_lt (Nat.add_le_add_left (by decide:2<=64) _) a.units
theorem Q8{α β:Type}{f:α->β}:∀{l:List β}{m:List α},l.Perm (m.map f)->∃a:List α,a.Perm m/\l=a.map f
 |[],m,h=>by have:=h.length_eq;rw[Al,Hu] at this;rw[List.length_eq_zero_iff.mp this.symm];exact⟨[],List.Perm.refl _,rfl⟩
 | x :: l,m,h=>by
   have b:x∈m.map f:=h.mem_iff.mp (by simp);obtain⟨y,c,rfl⟩:=Bo.mp b;obtain⟨s,t,rfl⟩:=List.append_of_mem c
   have d:l.Perm ((s++t).map f):=by
    have e:((s++y::t).map f).Perm (f y::(s++t).map f):=(by rw[By,Ec,By];exact List.perm_middle);exact(List.perm_cons _).mp (h.trans e)
   obtain⟨a,g,rfl⟩:=Q8 d;exact⟨y::a,(List.Perm.cons y g).trans List.perm_middle.symm,rfl⟩
def OP.same{a:Hp}(s:Ac H H1)(f:OP H H1 a):Ac H a:=λb o e=>by rcases f b with z|⟨z,_⟩;rw[z];exact s _ _ e;rw[e] at z;cases z
structure BB (K:Ah) (H:Hp) (t:Addr) (la lb:Str):Prop where
 ex:∃a o u g e gt pr,H t=some (.tup [.ref a,.int 0,.ref o])/\H a=some (.lst [.ref u])/\H u=some (.tup [.ref g,.ref e])/\Ad K H g [.ref gt]/\Am K H gt [.str la,.int 0]/\H e=some (.lst [.str lb])/\H o=some (.lst [.ref pr])/\H pr=some (.tup [.str lb,.str la])
def BB.same{K:Ah}{t:Addr}{b c:Str}(s:Ac H H')(h:BB K H t b c):BB K H' t b c:=
 ⟨let ⟨a,o,u,g,e,gt,d,f,i,j,k,l,m,n,p⟩:=h.ex;⟨a,o,u,g,e,gt,d,s _ _ f,s _ _ i,s _ _ j,s.seq k,s.seqT l,s _ _ m,s _ _ n,s _ _ p⟩⟩
abbrev AZ:Type:=Int×Str×Int
abbrev Lh (o:AZ):HO:=.tup [.int o.1,.str o.2.1,.int o.2.2]
def Wy (H:Hp) (a:Addr) (os:List AZ):Prop:=∃ts:E',H a=some (.lst (ts.map V.ref))/\ts.length=os.length/\∀(n:Nat)(t:Addr)(o:AZ),ts[n]?=some t->os[n]?=some o->H t=some (Lh o)
variable {os:List AZ}
def Wy.same(e:Ac H H')(h:Wy H a os):Wy H' a os:=let ⟨ts,c,d,f⟩:=h;⟨ts,e _ _ c,d,λn t o a b=>e _ _ (f n t o a b)⟩
def Wy.updL{D:Addr}{ys:R'}(c:H D=some (.lst ys))(n:a≠D)(h:Wy H a os):Wy (upd H D o) a os:=by obtain⟨ts,d,e,f⟩:=h;refine⟨ts,by rw[Ax n];exact d,e,λn t o a b=>?_⟩;have:=f n t o a b;rw[Ax λz=>by rw[z,c] at this;cases this];exact this
def Wy.dt{K:Ah}(h:Wy H a os):Aw K H (.ref a) ((DT Jr).D os):=by obtain⟨ts,e,f,g⟩:=h;refine .lst (Ad.of e) (Au.of_get (by simpa using f) λn v d b c=>?_);rw[AV] at b c;obtain⟨t,i,rfl⟩:=CD.mp b;obtain⟨o,j,rfl⟩:=CD.mp c;exact .tup (Am.of (g n t o i j)) (.cons (.int _) (.cons (.str _) (.cons (.int _) .nil)))
def Ds(h:D.nx σ H):Jb D σ H:=h
abbrev DU (o:AZ):V':=[.inl o.1,.inr o.2.1,.inl o.2.2]
abbrev dW (H:Hp) (a:Addr) (kvs:List (List AL×V)):Prop:=H a=some (.dT kvs)
abbrev dF (H:Hp) (a:Addr) (kvs:List (List AL×V)):Prop:=∃o,H a=some (.frz o (.dT kvs))
structure Eh (dd:Hp->Addr->List (List AL×V)->Prop) (H:Hp) (ok:Nat->AZ->Prop) (lv:Addr->Option Nat) (n:Nat):Prop where
 at_:∀a j,lv a=some j->∃kvs,dd H a kvs/\kvs.length<=n/\∀kv∈kvs,∃(o:AZ)(p b:Addr)(m:Int),kv=(DU o,.ref p)/\ok j o/\H p=some (.tup [.int m,.ref b])/\lv b=some (j+1)
variable {lv:Addr->Option Nat}
def Eh.sameW{ok:Nat->AZ->Prop}(s:Ac H H')(h:Eh dW H ok lv n):Eh dW H' ok lv n:=⟨λa j e=>by
 obtain⟨t,c,d,f⟩:=h.at_ a j e;exact⟨t,s _ _ c,d,λg i=>let ⟨o,p,b,m,k,l,q,r⟩:=f g i;⟨o,p,b,m,k,l,s _ _ q,r⟩⟩⟩
def Eh.sameF{ok:Nat->AZ->Prop}(s:Ac H H')(h:Eh dF H ok lv n):Eh dF H' ok lv n:=⟨λa j e=>by
 obtain⟨t,⟨o,c⟩,d,f⟩:=h.at_ a j e;exact⟨t,⟨o,s _ _ c⟩,d,λg i=>let ⟨o,p,b,m,k,l,q,r⟩:=f g i;⟨o,p,b,m,k,l,s _ _ q,r⟩⟩⟩
variable {m:Nat}
def Eh.mono{b:Hp->Addr->List (List AL×V)->Prop}{ok:Nat->AZ->Prop}(c:n<=m)(h:Eh b H ok lv n):Eh b H ok lv m:=⟨λa j e=>by
 obtain⟨i,d,f,g⟩:=h.at_ a j e;exact⟨i,d,Fg f c,g⟩⟩
def Eh.frz{H H1 c:Hp}{ok:Nat->AZ->Prop}{lv:Addr->Option Nat}{n:Nat}(h:Eh dW H1 ok lv n)(i:∀a j,lv a=some j->H a=none)(f:OP H H1 c)(g:∀b kvs,H b=none->H1 b=some (.dT kvs)->∃o,c b=some (.frz o (.dT kvs))):Eh dF c ok lv n:=⟨λa j e=>by
 obtain⟨kvs,k,l,q⟩:=h.at_ a j e;refine⟨kvs,g a kvs (i a j e) k,l,λr s=>?_⟩;obtain⟨o,p,b,m,t,u,d,v⟩:=q r s;refine⟨o,p,b,m,t,u,?_,v⟩;rcases f p with z|⟨_,x,w,z,_⟩;rw[z];exact d;rw[d] at z;cases z⟩
variable {kvs:List (List AL×V)}{j:Nat}
def Eh.have_{ok:Nat->AZ->Prop}{o:AZ}{v:V}(d:∀a∈kvs,∃(o:AZ)(p b:Addr)(m:Int),a=(DU o,.ref p)/\ok j o/\H p=some (.tup [.int m,.ref b])/\lv b=some (j+1))(c:AE kvs (DU o)=some v):∃(p b:Addr)(m:Int),v=.ref p/\H p=some (.tup [.int m,.ref b])/\lv b=some (j+1):=by unfold AE at c;obtain⟨a,e,rfl⟩:=CD.mp c;obtain⟨h,p,b,m,rfl,_,f,g⟩:=d a (List.mem_of_find?_eq_some e);exact⟨p,b,m,rfl,f,g⟩
def TV{k:V'}{v:V}(h:AE kvs k=none):AI kvs k v=kvs++[(k,v)]:=by unfold AE at h;unfold AI;rw[AA];intro z;obtain⟨a,b,c⟩:=Oj.mp z;have h:=Option.map_eq_none_iff.mp h;rw[List.find?_eq_none] at h;exact h a b c
def Eh.grow{ok:Nat->AZ->Prop}{e:Addr}{o:AZ}{m:Int}(h:Eh dW H ok lv n)(k:lv a=some j)(C:H a=some (.dT kvs))(D:AE kvs (DU o)=none)(M:ok j o)(N:H e=some (.dT []))(O:H p=some (.tup [.int m,.ref e]))(K:lv e=none) :
 Eh dW (upd H a (.dT (AI kvs (DU o) (.ref p)))) ok (λx=>if x=e then some (j+1) else lv x) (n+1):=by
 have P:a≠e:=λz=>by rw[z,K] at k;cases k
 have l:∀{x:Addr}{q:R'},H x=some (.tup q)->(upd H a (.dT (AI kvs (DU o) (.ref p)))) x=some (.tup q):=λ{x q}e=>by
  rw[Ax λz=>by rw[z,C] at e;cases e];exact e
 refine⟨λx i f=>?_⟩
 have E:∀(b:Addr)(i:Nat),lv b=some i->(if b=e then some (j+1) else lv b)=some i:=λb i r=>by
  rw[AA λz=>by rw[z,K] at r;cases r];exact r
 by_cases F:x=e;subst F;rw[AC rfl] at f;cases f;exact⟨[],by rw[dW,Ax (Ne.symm P)];exact N,B8 _,λg d=>by cases d⟩;have B:lv x=some i:=by rw[AA F] at f;exact f
 obtain⟨L,c,G,I⟩:=h.at_ x i B;by_cases J:x=a;subst J;rw[k] at B;cases B;have:L=kvs:=(by have c:H x=_:=c;rw[C] at c;injection c with c;injection c with c;exact c.symm);subst this;refine⟨_,Aa,?_,λg d=>?_⟩;rw[TV D,BC];exact Nat.succ_le_succ G;rw[TV D] at d;rcases EJ.mp d with z|z;obtain⟨s,t,b,u,v,w,y,A⟩:=I g z;exact⟨s,t,b,u,v,w,l y,E _ _ A⟩;rw[D7.mp z];exact⟨o,p,e,m,rfl,M,l O,AC rfl⟩;refine⟨L,by rw[dW,Ax J];exact c,Nat.le_succ_of_le G,λg d=>?_⟩;obtain⟨s,t,b,u,v,w,y,A⟩:=I g d;exact⟨s,t,b,u,v,w,l y,E _ _ A⟩
section
variable {X:Cx} {e:Expr}
def Js:TT:=λ_ _ _=>False
def Wh:PT X e Js:=λ_ _ _ _ _ _ h=>h.elim
end
def B9 (H:Hp) (nt:Addr) (ss:List AO) (gs:G') (qs:U'):Prop:=∃(S T R:Addr)(us Gs Es ts qt:E'),H nt=some (.tup [.ref S,.ref T,.ref R])/\Co H S T R us Gs Es ts qt ss gs qs
def B9.same{H H':Hp}{a:Addr}{ss:List AO}{gs:G'}{b:U'}(e:Ac H H')(h:B9 H a ss gs b):B9 H' a ss gs b:=
 let ⟨S,T,R,c,d,f,ts,g,i,j⟩:=h;⟨S,T,R,c,d,f,ts,g,e _ _ i,j.same e⟩
variable {ss:List AO}{gs:G'}{qs:U'}{v:Nat}{s:AO}
def B9.sco{c:Addr}(h:B9 H c ss gs qs)(d:ss[v]?=some s) :
 ∃(S T R:Addr)(us:E')(u G E:Addr)(a b:E'),H c=some (.tup [.ref S,.ref T,.ref R])/\H S=some (.lst (us.map V.ref))/\us[v]?=some u/\H u=some (.tup [.ref G,.ref E])/\H G=some (.lst (a.map V.ref))/\RT Ip H a s.1/\H E=some (.lst (b.map V.ref))/\RT DF H b s.2:=by
 obtain⟨S,T,R,us,q,r,ts,t,k,f⟩:=h;have l:v<ss.length:=(AS.mp d).1;obtain⟨u,G,E,m,w,x,g,⟨n,⟨a,o,i⟩,⟨b,p,j⟩⟩⟩:=f.sc.get l;rw[d] at g;have e:=Ce g;rw[<-e] at i j;exact⟨S,T,R,us,u,G,E,a,b,k,f.sc.top,m,n,o,i,p,j⟩
def Bv (m v j:Nat):Nat:=(v+j)%m
def Du (m l v:Nat):Nat:=(l+m-v)%m
def G0(a:v<m)(b:j<m):Bv m v j=if v+j<m then v+j else v+j-m:=by unfold Bv;split;exact Nat.mod_eq_of_lt (by assumption);rw[Nat.mod_eq_sub_mod (by lia)];exact Nat.mod_eq_of_lt (by lia)
def NO{l:Nat}(a:v<m)(b:l<m):Du m l v=if v<=l then l-v else l+m-v:=by unfold Du;split;rw[Nat.mod_eq_sub_mod (by lia)];rw[Nat.mod_eq_of_lt (by lia)];lia;exact Nat.mod_eq_of_lt (by lia)
def NP(a:0<m):Bv m v j<m:=Nat.mod_lt _ a
def Iz(a:v<m):Bv m v 0=v:=Nat.mod_eq_of_lt a
def IA:Bv m (Bv m v j) 1=Bv m v (j+1):=by unfold Bv;rw[Nat.mod_add_mod];rfl
def Hq{l:Nat}(a:0<m):Du m l v<m:=Nat.mod_lt _ a
def NQ{l:Nat}(a:v<m)(b:l<m):Bv m v (Du m l v)=l:=by rw[G0 a (Hq (by lia)),NO a b];split<;>split<;>lia
variable {i:Nat}
def OW(a:v<m)(b:i<m)(c:j<m)(h:Bv m v i=Bv m v j):i=j:=by rw[G0 a b,G0 a c] at h;split at h<;>split at h<;>lia
structure DV (ss:List AO) (gs:G') (lab lbt:Str) (l:Nat) (ns:F'):Prop where
 m40:ss.length<=40
 hl:l<ss.length
 st:∀v,v<ss.length->v≠l->ss[v]?=some (([(lab, "to",((Bv ss.length v 1:Nat):Int))],[]):AO)
 la:ss[l]?=some (([],ns.map λx=>(lbt,x, "thing",0)):AO)
 n2:ns.length<=2
 nd:ns.Nodup
 hg:gs=[(a',(l:Int))]
 ne:lab≠lbt
def Cz (m v j:Nat):Eg:=((List.range j).map λi=>(Bv m v i,0),Bv m v j)
def IB (m l v i:Nat):List AZ:=((List.range (Du m l v)).map λk=>(((Bv m v k:Nat):Int),("step":Str),(0:Int)))++[((l:Int),i',(i:Int))]
def AX:F'->Str->Option Nat
 |[],_=>none
 |x::r,n=>if x=n then some 0 else(AX r n).map (·+1)
variable {ns:F'}
def B4{n:Str}:AX ns n=none↔n∉ns:=by
 induction ns with|nil=>simp[AX]|cons x r a=>unfold AX;by_cases c:x=n;rw[AC c];simp[c];rw[AA c,Option.map_eq_none_iff,a];simp[Ne.symm c]
theorem NR{n:Str}:∀{ns:F'}{i:Nat},AX ns n=some i->ns[i]?=some n
 |[],i,h=>by simp[AX] at h
 |x::r,i,h=>by unfold AX at h;by_cases c:x=n;rw[AC c] at h;cases h;rw[c];rfl;rw[AA c] at h;obtain⟨j,a,rfl⟩:=CD.mp h;rw[List.getElem?_cons_succ];exact NR a
def Li{n:Str}(a:ns.Nodup)(h:ns[i]?=some n):AX ns n=some i:=by
 cases e:AX ns n with|none=>exact absurd (CB h) (B4.mp e)|some j=>have b:=NR e;obtain⟨f,c⟩:=AS.mp h;obtain⟨g,d⟩:=AS.mp b;rw[(List.getElem_inj a).mp (d.trans c.symm)]
def Ci (m l:Nat) (ns:F') (v:Nat) (nm:Str):List (List AZ):=match AX ns nm with
 |some i=>[IB m l v i]
 |none=>[]
def CT (l:Nat) (ns:F') (nm:Str) (b:Eg):List (List AZ):=if b.2=l then(match AX ns nm with
 |some i=>[b.1.map Lf++[((l:Int),i',(i:Int))]]
 |none=>[]) else[]
variable {nm:Str}
def IC{l:Nat}(a:v<m)(d:l<m):((List.range (Du m l v+1)).map (Cz m v)).flatMap (CT l ns nm)=Ci m l ns v nm:=by
 rw[List.range_succ,By,List.flatMap_append]
 have e:((List.range (Du m l v)).map (Cz m v)).flatMap (CT l ns nm)=[]:=List.flatMap_eq_nil_iff.mpr λb f=>by
  obtain⟨j,c,rfl⟩:=Bo.mp f;have c:=List.mem_range.mp c;unfold CT;refine AA λz=>?_;have z:Bv m v j=l:=z;have:=OW a (Nat.lt_trans c (Hq (by lia))) (Hq (l:=l) (by lia)) (z.trans (NQ a d).symm);lia
 rw[e,List.nil_append,Ec,LL,List.flatMap_cons,List.flatMap_nil,Ft];unfold CT Ci;rw[AC (show(Cz m v (Du m l v)).2=l from NQ a d)];cases AX ns nm with|none=>rfl|some i=>show[((List.range (Du m l v)).map λi=>(Bv m v i,0)).map Lf++_]=[_];rw[DI];rfl
def MH (ss:List AO) (o:AZ) (lb:Str):Prop:=∃(v i:Nat)(s:AO),o.1=(v:Int)/\o.2.2=(i:Int)/\ss[v]?=some s/\((o.2.1 = "step" /\ ∃p,s.1[i]?=some p/\p.1=lb)\/(o.2.1 = "told" /\ ∃p,s.2[i]?=some p/\p.1=lb))
def MI (ss:List AO) (lb:Nat->Str) (os:List AZ):Prop:=∀j o,os[j]?=some o->MH ss o (lb j)
def Lj{l:Nat}:(IB m l v i).length=Du m l v+1:=by unfold IB;simp
variable {lab lbt:Str}
def Lk{l:Nat}(C:DV ss gs lab lbt l ns)(b:v<ss.length)(d:ns[i]?=some nm):MI ss (λj=>if j=Du ss.length l v then lbt else lab) (IB ss.length l v i):=by
 intro j o a;unfold IB at a;by_cases c:j<Du ss.length l v;rw[DH (by simpa using c),AV,s' c] at a;cases a
 have f:Bv ss.length v j≠l:=λz=>by
  have:=OW b (Nat.lt_trans c (Hq (by lia))) (Hq (l:=l) (by lia)) (z.trans (NQ b C.hl).symm);lia
 refine⟨Bv ss.length v j,0,_,rfl,rfl,C.st _ (NP (by lia)) f,.inl ⟨rfl,_,rfl,?_⟩⟩;exact(AA (by lia)).symm;rw[DJ (by simpa using c)] at a;have g:j=Du ss.length l v:=(by by_cases e:j=Du ss.length l v;exact e;rw[Gg (by simp;lia)] at a;cases a);subst g;simp only[Al,r9,Nat.sub_self,List.getElem?_cons_zero,Option.some.injEq] at a;rw[<-a];exact⟨l,i,_,rfl,rfl,C.la,.inr ⟨rfl,(lbt,nm, "thing",0),by rw[AV,d];rfl,(AC rfl).symm⟩⟩
def Q9{o:AZ}(h:Wy H a os)(b:os.getLast?=some o):∃(ts:E')(t:Addr),H a=some (.lst (ts.map V.ref))/\Fv (ts.map V.ref) (-1)=some (.ref t)/\H t=some (Lh o):=by
 obtain⟨ts,d,i,f⟩:=h;have g:os≠[]:=λz=>by rw[z] at b;cases b
 have j:0<os.length:=List.length_pos_iff.mpr g;rw[List.getLast?_eq_getElem?] at b;have c:=AQ (show os.length-1<ts.length by lia);refine⟨ts,_,d,?_,f _ _ _ c b⟩;unfold Fv;have e:FR (ts.map V.ref).length (-1)=some (os.length-1):=(by unfold FR;rw[Al,AA (by decide),AC (by lia)];congr 1;lia);rw[e];show(ts.map V.ref)[os.length-1]?=_;rw[AV,c];rfl
def G4 (ss:List AO) (os:List AZ):Prop:=∃(v i:Nat)(s:AO)(p:Iq),os.getLast?=some ((v:Int),i',(i:Int))/\ss[v]?=some s/\s.2[i]?=some p/\p.2.2=(("thing":Str),(0:Int))
def Ll{l:Nat}(C:DV ss gs lab lbt l ns)(a:ns[i]?=some nm):G4 ss (IB ss.length l v i):=
 ⟨l,i,_,(lbt,nm, "thing",0),by unfold IB;simp,C.la,by rw[AV,a];rfl,rfl⟩
def G5{l:Nat}(C:DV ss gs lab lbt l ns)(b:v<ss.length):∀w∈Ci ss.length l ns v nm,w.length<=40/\MI ss (λj=>if j=Du ss.length l v then lbt else lab) w/\G4 ss w:=by
 intro w a;unfold Ci at a;cases e:AX ns nm with|none=>rw[e] at a;cases a|some i=>rw[e] at a;rw[D7.mp a];have h:=NR e;have d:=Hq (l:=l) (v:=v) (show 0<ss.length by lia);have:=C.m40;exact⟨by rw[Lj];lia,Lk C b h,Ll C h⟩
def Ra{l:Nat}:(Ci m l ns v nm).length<=1:=by
 unfold Ci;cases AX ns nm with|none=>exact B8 _|some i=>exact AB _
def ID{l:Nat}:Ci m l ns v nm=[]↔nm∉ns:=by rw[<-B4];unfold Ci;cases AX ns nm<;>simp
def Bd (ns path:F'):Nat:=(path.takeWhile λx=>decide (x∈ns)).length
variable {path:F'}
def IE:Bd ns path<=path.length:=(List.takeWhile_prefix _).length_le
def Rb{y:Str}(h:∀j x,j<i->path[j]?=some x->x∈ns)(b:path[i]?=some y)(c:y∉ns):Bd ns path=i:=by obtain⟨g,e⟩:=AS.mp b;have d:path=path.take i++y::path.drop (i+1):=(by rw[<-e,List.getElem_cons_drop,List.take_append_drop]);unfold Bd;rw[d,List.takeWhile_append_of_pos,List.takeWhile_cons_of_neg (by simpa using c),Ft,DM];lia;intro x f;obtain⟨j,a⟩:=List.getElem?_of_mem f;rw[List.getElem?_take] at a;split at a;exact Ca (h j x (by assumption) a);cases a
def Rc(h:∀(j:Nat)x,path[j]?=some x->x∈ns):Bd ns path=path.length:=by
 unfold Bd
 have:path.takeWhile (λx=>decide (x∈ns))++[]=path:=by
  have:=List.takeWhile_append_of_pos (p:=λx=>decide (x∈ns)) (l₁:=path) (l₂:=[]) λx a=>by
   obtain⟨j,b⟩:=List.getElem?_of_mem a;exact Ca (h j x b)
  rw[Ft] at this;rw[Ft,this,List.takeWhile_nil,Ft]
 rw[Ft] at this;rw[this]
def EG (ns path:F'):Str×Nat:=if Bd ns path=path.length then("thing",0) else("none",Bd ns path)
def DG (m l:Nat) (ns path:F') (v j:Nat):List (List AZ):=Ci m l ns (if j=0 then v else l) (path.getD j "")
def BU (m l:Nat) (ns path:F') (v:Nat):List (List (List AZ)):=(List.range (min (Bd ns path+1) path.length)).map (DG m l ns path v)
def Ge (F:Addr->Prop) (H:Hp) (k:Addr) (w:List (List AZ)):Prop:=∃(B D P:Addr)(ys:List (Addr×List AZ)),H k=some (.tup [.ref B,.ref D,.ref P])/\F P/\H P=some (.lst (ys.map λz=>V.ref z.1))/\(∀z∈ys,Wy H z.1 z.2/\F z.1)/\ys.map (·.2)=w
def Ge.same{F:Addr->Prop}{H H':Hp}{k:Addr}{w:List (List AZ)}(e:Ac H H')(h:Ge F H k w):Ge F H' k w:=
 let ⟨B,D,P,c,d,f,g,a,i⟩:=h;⟨B,D,P,c,e _ _ d,f,e _ _ g,λz b=>⟨(a z b).1.same e,(a z b).2⟩,i⟩
def Ge.updL{F:Addr->Prop}{H:Hp}{X k:Addr}{o:HO}{xs:R'}{w:List (List AZ)}(d:H X=some (.lst xs))(e:∀x,F x->x≠X)(h:Ge F H k w):Ge F (upd H X o) k w:=
 let ⟨B,D,P,g,a,f,i,b,j⟩:=h;⟨B,D,P,g,by rw[Ax λz=>by rw[z,d] at a;cases a];exact a,f,by rw[Ax (e _ f)];exact i,λz c=>⟨(b z c).1.updL d (e _ (b z c).2),(b z c).2⟩,j⟩
variable {F:Addr->Prop}
def Ge.mono{a:Addr->Prop}{k:Addr}{w:List (List AZ)}(e:∀x,F x->a x)(h:Ge F H k w):Ge a H k w:=
 let ⟨B,D,P,d,f,g,i,b,j⟩:=h;⟨B,D,P,d,f,e _ g,i,λz c=>⟨(b z c).1,e _ (b z c).2⟩,j⟩
structure C0 (F:Addr->Prop) (H:Hp) (ks:E') (ws:List (List (List AZ))):Prop where
 len:ks.length=ws.length
 at_:∀(n:Nat)(k:Addr)(w:List (List AZ)),ks[n]?=some k->ws[n]?=some w->Ge F H k w
def C0.nil:C0 F H [] []:=⟨rfl,λn k w h=>by simp at h⟩
def C0.same{F:Addr->Prop}{H H':Hp}{ks:E'}{c:List (List (List AZ))}(e:Ac H H')(h:C0 F H ks c):C0 F H' ks c:=⟨h.len,λn k w a b=>(h.at_ n k w a b).same e⟩
def C0.updL{F:Addr->Prop}{H:Hp}{X:Addr}{o:HO}{xs:R'}{ks:E'}{c:List (List (List AZ))}(d:H X=some (.lst xs))(e:∀x,F x->x≠X)(h:C0 F H ks c):C0 F (upd H X o) ks c:=⟨h.len,λn k w a b=>(h.at_ n k w a b).updL d e⟩
def C0.snoc{k:Addr}{w:List (List AZ)}{ks:E'}{c:List (List (List AZ))}(h:C0 F H ks c)(e:Ge F H k w):C0 F H (ks++[k]) (c++[w]):=by refine⟨by rw[BC,BC,h.len];rfl,λn v q a b=>?_⟩;rcases v9 n ks.length with d|i;rw[DH d] at a;rw[DH (by rw[<-h.len];exact d)] at b;exact h.at_ n v q a b;have g:n<(ks++[k]).length:=(AS.mp a).1;rw[BC,Ff] at g;have f:n=ks.length:=(by lia);subst f;rw[DJ (AB _),Nat.sub_self] at a;rw[DJ (by rw[h.len];exact AB _),h.len,Nat.sub_self] at b;cases a;cases b;exact e
def Wi{l:Nat}:(List.range (i+1)).map (DG m l ns path v)=(List.range i).map (DG m l ns path v)++[DG m l ns path v i]:=by rw[List.range_succ,By];rfl
open PySem.SeqAt
def Wj{ks:C'}:∀{vs:D'},vs.length=ks.length->(∀(i:Nat)(v:Value),vs[i]?=some v->∃t,v=.int (ks.getD i 0) t)->IntsAre vs ks:=by
 induction ks with
 |nil=>intro vs a _;cases vs with
   |nil=>exact .nil
   |cons _ _=>simp at a
 |cons x r b=>
  intro vs a h;cases vs with|nil=>simp at a|cons v vs=>obtain⟨t,e⟩:=h 0 v rfl;obtain rfl:v=.int x t:=e;exact .cons _ _ (b (by simpa using a) λi u c=>h (i+1) u (by simpa using c))
section
variable {X:Cx}
def NS:R2:=λx y H Q=>∃l xs n,x=.ref l/\y=.int n/\H l=some (.lst xs)/\(0<=n/\n<=1000)/\xs.length*n.toNat<=1000/\∀p,H p=none->Q (.ref p) (upd H p (.lst (List.replicate n.toNat xs).flatten))
theorem TW:∀(n:Nat){xs:R'}{us:D'},Aq xs us->Aq (List.replicate n xs).flatten (List.replicate n us).flatten
 |0,_,_,_=>.nil
 |n+1,xs,us,h=>by rw[List.replicate_succ,List.replicate_succ,List.flatten_cons,List.flatten_cons];exact h.append (TW n h)
theorem Re:CC X (binaryOp .Mult) NS:=by
 intro w s σ H x y v u Q I i j h;obtain⟨l,xs,n,rfl,rfl,k,p,d,q⟩:=h;obtain rfl:v=Value.ref l:=i;obtain⟨t,rfl⟩:=j;obtain⟨z,b,c,f,e⟩:=(show Az X.prog X.w _ s.heap l (.lst xs) from I.hok l _ k);have g:=f.length;have r:b.toArray.size*n.toNat<=1000:=by rw[BX,<-g];exact d
 have A:b.length*n.toNat<=1000:=by rw[<-g];exact d
 refine wpAny_binaryOp_repeat_ref (T:= "list") (U:= "int") (by decide) ⟨_,e,rfl⟩ (λZ=>typeIs_int Z n t) noFill_list_mul F.fills_int_mul F.slot_int_rmul repeat_list F.slot_int_index.lookup
  (call_meets F.slot_int_rmul (typeIs_int s n t) F.entry_int_rmul (F.args_int_rmul_2 _ _) (int___rmul___int_list n t l b.toArray c)
   ⟨e,rfl,⟨_,e,rfl⟩,call_meets F.slot_list_mul ⟨_,e,rfl⟩ F.entry_list_mul (F.args_list_mul_2 _ _) (AutoListH.list___mul___list_int_3 l b.toArray c n t (by simp[Builtin.List.listFitsIndex];lia) (by lia) (by simp[Builtin.List.listTooLong,sizeLine];lia)) ⟨e,?_⟩⟩)
 rw[listMul_foldl_if];have m:=TW n.toNat f;refine⟨.ref s.heap.objs.size,_,I.laid (a:=s.heap.objs.size) (o:=.lst (List.replicate n.toNat xs).flatten) (t':=s.toks) (λ_ _ q=>Bb _ q) (AB _) ⟨?_,_,0,m,Cf _ rfl⟩,rfl,q _ (I.hok.fresh (AB _))⟩;rw[List.length_flatten,List.map_replicate,List.sum_replicate_nat,Nat.mul_comm];exact Dk (Bz (by lia))
def NT:R'->Hp->VK->Prop:=λvs H Q=>∃n:Int,vs=[.int n]/\∀p,H p=none->Q (.ref p) (upd H p (.rng 0 n))
def Wk:A8 X (.type "range") NT:=by intro e s σ H c d Q I r h;obtain⟨n,rfl,q⟩:=h;obtain⟨u,rfl,b⟩:=El r;obtain⟨t,rfl⟩:=b;refine call_range_1 ⟨.ref s.heap.objs.size,_,I.laid (a:=s.heap.objs.size) (o:=.rng 0 n) (t':=s.toks+1+1) (λ_ _ q=>Bb _ q) (AB _) ⟨_,_,_,Cf _ rfl⟩,rfl,q _ (I.hok.fresh (AB _))⟩
def Lm:R'->Hp->VK->Prop:=λvs H Q=>∃(p:Addr)(n:Nat),vs=[.ref p]/\H p=some (.rng 0 (n:Int))/\n<=1000/\∀l,H l=none->Q (.ref l) (upd H l (.lst ((List.range n).map λi:Nat=>V.int i)))
def Wl(j:X.calm=true):A8 X (.type "list") Lm:=by
 intro E s σ H z A Q I r h;obtain⟨p,n,rfl,k,B,q⟩:=h;obtain⟨u,rfl,l⟩:=El r;obtain rfl:u=Value.ref p:=l;obtain⟨t,C,v,e⟩:=(show Az X.prog X.w _ s.heap p (.rng 0 (n:Int)) from I.hok p _ k);have m:Builtin.Range.rangeSize 0 (n:Int) 1=n:=by rw[rangeSize_one];split<;>lia
 refine call_list_range (n:=n) (I.ok.hd j) e (small_one (by lia) (by lia) (by lia) (by lia)) m (by lia) λD O d c w x f=>?_
 have y:IntsAre d.toList ((List.range n).map λi:Nat=>(i:Int)):=Wj (by simp[f.1]) λi v b=>by
  have g:i<d.size:=(by have:=(AS.mp b).1;simpa using this);obtain⟨t,e⟩:=f.2 i v (by rw[<-Array.getElem?_toList];exact b);rw[f.1] at g;refine⟨t,?_⟩;rw[e,BZ,AV,s' g];simp
 have b:=Qt y;rw[DI] at b;refine⟨.ref s.heap.objs.size,_,I.laid (a:=s.heap.objs.size) (o:=.lst ((List.range n).map λi:Nat=>V.int i)) (t':=O) w (AB _) ⟨?_,d.toList,c,b,by rw[Array.toArray_toList];exact x⟩,rfl,q _ (I.hok.fresh (AB _))⟩;rw[Al,r9];exact Dk (Bz (by lia))
def IF (H:Hp) (xs:R') (ps:List (AL×V)):Prop:=Paired (λx(p:AL×V)=>∃t,x=.ref t/\H t=some (.tup [kV p.1,p.2])) xs ps
def Wm{pins:A'}{R:Result->Shared->Prop}{f:Addr}(hh:A.in1.handled=none)(k:H p=none)(F:f≠p) :
 ∀(xs:R')(ps:List (AL×V))(d:R')(acc:List (AL×V))(s:Shared),IF H xs ps->H l=some (.lst (d++xs))->acc.length+xs.length<=sizeLine->Inv X pins σ (upd H p (.dK acc)) s ->
 s.heap.IsListIter f l d.length->Dn X pins H f->(∀Z,Inv X pins σ (upd H p (.dK (EW acc ps))) Z->R (.ok (.ret .none)) Z)->∀n:Int,
 codeAny (model X.prog X.w) A (.builtin "dict.update.loop" ⟨[.ref p,.ref f,rawInt n,.none],[]⟩) R s:=by
 intro xs ps d acc s hx
 induction hx generalizing d acc s with
 |nil=>intro g K I m j r n;have G:upd H p (.dK acc) l=some (.lst (d++[])):=(Ax (AN g k)).trans g;obtain⟨u,v,aa,w,y,B⟩:=j;have J:upd H p (.dK acc) f=none:=(Ax F).trans u;obtain⟨z,U,c,C,e⟩:=(show Az X.prog X.w _ s.heap l (.lst (d++[])) from I.hok l _ G);have ai:=C.length;rw[Ft] at ai;refine codeAny_builtin PySem.F.entry_upd_loop ?_;rw[v' PySem.F.plain_upd_loop _];show wpAny _ A.in1 (pyNext (.ref f) >>= _) _ _ s;refine Ag (wpAny_pyNext_list_end hh m ⟨_,e,rfl,c,rfl⟩ (by simp;lia) λh eb=>?_);exact Ag (AH (AH (r _ (I.turned (t':=s.toks) (λb o D e=>eb b o D e) J v w y B))))
 |@cons x q xs ps hq tl ih=>
  intro g K I m j r n;obtain⟨t,rfl,L⟩:=hq;have G:upd H p (.dK acc) l=some (.lst (d++.ref t::xs)):=(Ax (AN g k)).trans g;have ab:upd H p (.dK acc) t=some (.tup [kV q.1,q.2]):=(Ax (AN L k)).trans L;obtain⟨u,v,aa,w,y,B⟩:=id j;have J:upd H p (.dK acc) f=none:=(Ax F).trans u;obtain⟨z,U,c,C,e⟩:=(show Az X.prog X.w _ s.heap l (.lst (d++.ref t::xs)) from I.hok l _ G);obtain⟨aj,ae,ru⟩:=C.get (i:=d.length) (x:=.ref t) (by simp);cases ru;refine codeAny_builtin PySem.F.entry_upd_loop ?_;rw[v' PySem.F.plain_upd_loop _];show wpAny _ A.in1 (pyNext (.ref f) >>= _) _ _ s;refine Ag (wpAny_pyNext_list_item m (⟨_,e,rfl,c,rfl⟩:s.heap.IsList l U.toArray) (x:=.ref t) (by simpa using ae) λh af sb=>?_);have E:Inv X pins σ (upd H p (.dK acc)) {s with heap:=h}:=I.turned (t':=s.toks) (λb o D e=>(sb.2 b D).trans e) J v w y B;obtain⟨_,ts,rt,ot,M,ct,nt,dt⟩:=(show Az X.prog X.w _ h t (.tup [kV q.1,q.2]) from E.hok t _ ab);obtain⟨N,P,rfl,r1,r2⟩:=Gv rt;obtain⟨zd,hm,es,W,dd⟩:=Nd E.hok (Aa (H:=H) (a:=p) (o:=.dK acc));have ag:es.length<=sizeLine:=by rw[<-W.length];exact zd
  have ak:(AI acc q.1 q.2).length<=acc.length+1:=Ks acc q.1 q.2;rw[EU] at K;refine Ag (EL (Ag (wpAny_tryCatch ?_)));show wpAny _ A.in1 (Builtin.Dict.pairItems (.ref t)) _ _ _;unfold Builtin.Dict.pairItems;refine Ag (MO (s:={s with heap:=h}) (T:= "tuple") ⟨ot,M,ct⟩ ?_);rw[AC (by decide)];refine Ag (FM (s:={s with heap:=h}) M dt (AH ?_));show wpAny _ A.in1 (holding [N,P] (dictSet p N P)) _ _ _;have ah:(AI acc q.1 q.2).length<=sizeLine:=(by lia);refine EL (wpAny_dictSet_pairs (hsz:=ag) (HY r1) dd λQ Y S=>?_);have he:∃o,Q.get? p=some o:=let ⟨o,_,_,ho,_⟩:=Y;⟨o,ho⟩
  have I2:∀O,Inv X pins σ (upd H p (.dK (AI acc q.1 q.2))) {s with heap:=Q,toks:=O}:=λO=>by
   have:=Kv (t':=O) (ob:=.dK (AI acc q.1 q.2)) E (by rw[Aa];exact True.intro) S he (Oy ah hm (W.put q.1 r2) Y);rw[R6] at this;exact this
  refine AH ⟨plainId_quiet PySem.F.plain_upd_loop _,?_⟩;have:=ih (d++[.ref t]) (AI acc q.1 q.2) _ (by rw[JA];exact g) (by lia) (I2 (s.toks+1)) (by rw[BC];exact af.at λo e=>(S.2 f F).trans e) j r (n+1);exact this
def Ln:R'->Hp->VK->Prop:=λvs H Q=>∃l xs ps,vs=[.ref l]/\H l=some (.lst xs)/\xs.length<sizeLine/\IF H xs ps/\∀p,H p=none->Q (.ref p) (upd H p (.dK (EW [] ps)))
def Wn(j:X.calm=true):A8 X (.type "dict") Ln:=by
 intro pins s σ H G J Q I r h;obtain⟨l,xs,x,rfl,k,K,y,q⟩:=h;obtain⟨u,rfl,B⟩:=El r;cases B;have m:H s.heap.objs.size=none:=I.hok.fresh (AB _);refine callType_codes (Q₁:=λv n=>v=.ref s.heap.objs.size/\n={s with heap:=s.heap.push {cls:=.type "dict",data:=.dict #[]}}) PySem.F.kt_called_dict (PySem.F.kt_typeCall_dict_1 _) PySem.F.entry_dict_init (kt_code_dict_new _ ⟨rfl,rfl⟩) ?_;rintro v n ⟨rfl,rfl⟩;have C:=I.laid (a:=s.heap.objs.size) (o:=.dK []) (t':=s.toks) (h':=s.heap.push {cls:=.type "dict",data:=.dict #[]}) (λ_ _ q=>Bb _ q) (AB _) (Qn s.heap I.big);obtain⟨z,M,c,L,e⟩:=(show Az X.prog X.w _ s.heap l (.lst xs) from I.hok l _ k);have f:=Bb {cls:=.type "dict",data:=.dict #[]} e;have p:Shared.TypeIs {s with heap:=s.heap.push {cls:=.type "dict",data:=.dict #[]}} (.ref s.heap.objs.size) "dict" :=⟨_,Cf _ rfl,rfl⟩;refine⟨p,PySem.F.args_dict_init_2 _ _,?_⟩;unfold Builtin.«dict.__init__»;refine Ag ?_;unfold Builtin.Dict.selfAndRest;refine Ag (wpAny_notOrdered_dict p ?_);show wpAny _ _ (pure (s.heap.objs.size,[Value.ref l])) _ _ _;refine AH ?_;show wpAny _ _ (Builtin.Dict.updateFrom "dict.__init__" s.heap.objs.size (.ref l) [] .none) _ _ _;unfold Builtin.Dict.updateFrom;refine Ag (MO (T:= "list") ⟨_,f,rfl⟩ ?_);rw[AC (by decide)];refine Ag (TQ f rfl rfl rfl (I.ok.hd j) λd O t=>?_);rw[AC (show(none:I').isNone=true from rfl)];have g:=C.kept (t':=O) t;refine Ag (IY (Ag (wpAny_pyIter_list (s:={s with heap:=d,toks:=O}) ⟨_,t _ _ f,rfl,c,rfl⟩ ?_)));have D:=g.kept (t':=O) (h':=d.push {cls:=.type "list_iterator",data:=.fields #[.ref l,.int 0 0]}) λb o e=>Bb _ e;obtain⟨i,E⟩:=g.fpOk (AB d.objs.size) (g.hok.fresh (AB _));have w:d.objs.size≠s.heap.objs.size:=λz=>by rw[z,Aa] at i;cases i
 refine AH ⟨plainId_quiet PySem.F.plain_upd_loop _,Wm (A:=X.A.in1) (X:=X) (pins:=pins) (σ:=σ) (l:=l) (H:=H) (I.ok.hd j) m w xs x [] [] _ y k (by rw[Hu];lia) D ⟨_,Cf _ rfl,rfl,rfl⟩ ⟨(Ax w).symm.trans i,E⟩ (λZ F=>⟨rfl,.ref _,_,F,rfl,q _ m⟩) 0⟩
end
def Wo{K:Ah}{k:Nat}{Q:Addr->Hp->Prop}(Pv:Addr->Nat->R'->Hp->Prop)
 (r:∀D,H1 D=none->Pv D 0 [] (upd H1 D (.lst []))) (s:∀D i ys c,Pv D i ys c->Ad K c a xs)
 (t:∀D i x T ys c(R:VK),H1 D=none->xs[i]?=some x->c T=none->Pv D i ys c->(∀y d,d D=some (.lst ys)->ys.length<sizeLine->Pv D (i+1) (ys++[y]) (upd d D (.lst (ys++[y])))->R y d)->g (.ref T) (CI k caps σ) (upd c T (.tup [.int i,x])) λσ4 h=>te σ4 h R)
 (hd:∀D ys c,H1 D=none->Pv D xs.length ys c->Q D c) :
 ∀D,H1 D=none->∃W:Nat->Nat->R'->Hp->Prop,(∃m,W 0 m [] (upd H1 D (.lst [])))/\∀i m ys c,W i m ys c ->
  ((Jq K a).stop i c/\Q D c)\/((Jq K a).go i c/\∀x j,(Jq K a).yld i c x j->g x (CI k caps σ) j λσ4 h=>Ee σ4 h λb o =>
   if b=true then te σ4 o λy d=>d D=some (.lst ys)/\ys.length<sizeLine/\∃f,f<m/\W (i+1) f (ys++[y]) (upd d D (.lst (ys++[y]))) else ∃f,f<m/\W (i+1) f ys o):=by
 intro D l;refine⟨λi m ys c=>m=xs.length-i/\i<=xs.length/\Pv D i ys c,⟨xs.length,rfl,B8 _,r D l⟩,?_⟩;rintro i m ys c ⟨rfl,C,p⟩;have n:=s D i ys c p;by_cases q:i<xs.length;refine .inr ⟨⟨xs,xs[i],n,by simp[q]⟩,λx j y=>?_⟩;obtain⟨T,v,u,rfl,rfl,y⟩:=y;have w:=y xs n;refine t D i v T ys c _ l w u p λv d z A B=>?_;exact⟨z,A,xs.length-(i+1),by lia,rfl,q,B⟩;have e:i=xs.length:=(by lia);subst e;exact .inl ⟨⟨xs,n,AB _⟩,hd D ys c l p⟩
def G6{σ:L2.St}{Q:Bool->Hp->Prop}(h:Q true H):Ee σ H Q:=h
variable {α:Type}
def Rf(n:Nat)(x:α):(List.replicate n [x]).flatten=List.replicate n x:=by
 induction n with|zero=>rfl|succ n a=>rw[List.replicate_succ,List.flatten_cons,a];rfl
def Lo(h:i<m):Mz (.int (i:Int)) ((List.range m).map λj:Nat=>V.int j)=true:=by unfold Mz;exact Oj.mpr ⟨.int i,Bo.mpr ⟨i,List.mem_range.mpr h,rfl⟩,by simp[HW]⟩
def Wp(m:Nat):(((List.range m).map λj:Nat=>V.int j).all HV)=true:=by rw[List.all_map];exact List.all_eq_true.mpr λ_ _=>rfl
def Rg(h:i<m):((List.range m).map λj:Nat=>V.int j)[i]?=some (.int i):=by rw[AV,s' h];rfl
structure Fp (m:Nat) (qs:U'):Prop where
 le:qs.length<=60
 ge:1<=qs.length
 at_:∀q∈qs,∃v:Nat,q.1=(v:Int)/\v<m/\q.2.1=0/\1<=q.2.2.length/\q.2.2.length<=6
def B9.qu{c:Addr}{q:Qu}(h:B9 H c ss gs qs)(d:qs[n]?=some q) :
 ∃(S T R:Addr)(a:E')(t u:Addr),H c=some (.tup [.ref S,.ref T,.ref R])/\H R=some (.lst (a.map V.ref))/\a[n]?=some t/\H t=some (.tup [.int q.1,.int q.2.1,.ref u])/\H u=some (.tup (q.2.2.map V.str)):=by
 obtain⟨S,T,R,k,l,m,ts,a,f,b⟩:=h;have g:n<a.length:=by rw[b.tq.len];exact(AS.mp d).1
 have e:=AQ g;obtain⟨u,i,j⟩:=b.tq.at_ n _ q e d;exact⟨S,T,R,a,_,u,f,b.er,e,i,j⟩
structure EH (H:Hp) (ps:E') (as:List (Str×Nat)):Prop where
 len:ps.length=as.length
 at_:∀(n:Nat)(p:Addr)(a:Str×Nat),ps[n]?=some p->as[n]?=some a->H p=some (.tup [.str a.1,.int (a.2:Int)])
def EH.nil:EH H [] []:=⟨rfl,λn p a h=>by simp at h⟩
variable {ps:E'}{as:List (Str×Nat)}
def EH.same(e:Ac H H')(h:EH H ps as):EH H' ps as:=⟨h.len,λn p a x y=>e _ _ (h.at_ n p a x y)⟩
def EH.updL{X:Addr}(b:H X=some (.lst xs))(h:EH H ps as):EH (upd H X o) ps as:=⟨h.len,λn p a x y=>by
 have:=h.at_ n p a x y;rw[Ax λz=>by rw[z,b] at this;cases this];exact this⟩
def EH.snoc{a:Str×Nat}(h:EH H ps as)(e:H p=some (.tup [.str a.1,.int (a.2:Int)])):EH H (ps++[p]) (as++[a]):=by refine⟨by rw[BC,BC,h.len];rfl,λn v q b c=>?_⟩;rcases v9 n ps.length with d|i;rw[DH d] at b;rw[DH (by rw[<-h.len];exact d)] at c;exact h.at_ n v q b c;have g:n<(ps++[p]).length:=(AS.mp b).1;rw[BC,Ff] at g;have f:n=ps.length:=(by lia);subst f;rw[DJ (AB _),Nat.sub_self] at b;rw[DJ (by rw[h.len];exact AB _),h.len,Nat.sub_self] at c;cases b;cases c;exact e
abbrev CU (ns:F') (qs:U'):List (Str×Nat):=qs.map λq=>EG ns q.2.2
def FA (F:Addr->Prop) (H:Hp) (p:Addr) (w:List (List AZ)):Prop:=∃ys:List (Addr×List AZ),F p/\H p=some (.lst (ys.map λz=>V.ref z.1))/\(∀z∈ys,Wy H z.1 z.2/\F z.1)/\ys.map (·.2)=w
def FA.same{F:Addr->Prop}{H H':Hp}{p:Addr}{w:List (List AZ)}(e:Ac H H')(h:FA F H p w):FA F H' p w:=
 let ⟨c,d,f,a,g⟩:=h;⟨c,d,e _ _ f,λz b=>⟨(a z b).1.same e,(a z b).2⟩,g⟩
def FA.updL{F:Addr->Prop}{H:Hp}{X p:Addr}{o:HO}{xs:R'}{w:List (List AZ)}(e:H X=some (.lst xs))(c:∀x,F x->x≠X)(h:FA F H p w):FA F (upd H X o) p w:=
 let ⟨f,d,g,a,i⟩:=h;⟨f,d,by rw[Ax (c _ d)];exact g,λz b=>⟨(a z b).1.updL e (c _ (a z b).2),(a z b).2⟩,i⟩
def FA.mono{a:Addr->Prop}{w:List (List AZ)}(e:∀x,F x->a x)(h:FA F H p w):FA a H p w:=
 let ⟨d,f,g,b,i⟩:=h;⟨d,e _ f,g,λz c=>⟨(b z c).1,e _ (b z c).2⟩,i⟩
abbrev TX (w:List (List AZ)):Dt:=.lst (w.map λos=>(DT Jr).D os)
def FA.dt{K:Ah}{F:Addr->Prop}{H:Hp}{p:Addr}{w:List (List AZ)}(h:FA F H p w):Aw K H (.ref p) (TX w):=by obtain⟨g,_,e,f,rfl⟩:=h;refine .lst (Ad.of e) (Au.of_get (by simp) λn v d b a=>?_);rw[DI] at a;rw[AV] at b a;obtain⟨z,c,rfl⟩:=CD.mp b;rw[c] at a;cases a;exact(f z (CB c)).1.dt
def Fb (F:Addr->Prop) (H:Hp) (D:Addr) (tr:List (List (List AZ))):Prop:=∃ps:E',F D/\H D=some (.lst (ps.map V.ref))/\ps.length=tr.length/\∀(n:Nat)(p:Addr)(w:List (List AZ)),ps[n]?=some p->tr[n]?=some w->FA F H p w
def Fb.same{F:Addr->Prop}{H H':Hp}{D:Addr}{c:List (List (List AZ))}(e:Ac H H')(h:Fb F H D c):Fb F H' D c:=
 let ⟨ps,d,f,g,i⟩:=h;⟨ps,d,e _ _ f,g,λn p w a b=>(i n p w a b).same e⟩
def Fb.updL{F:Addr->Prop}{H:Hp}{X D:Addr}{o:HO}{xs:R'}{c:List (List (List AZ))}(f:H X=some (.lst xs))(d:∀x,F x->x≠X)(h:Fb F H D c):Fb F (upd H X o) D c:=
 let ⟨ps,e,g,i,j⟩:=h;⟨ps,e,by rw[Ax (d _ e)];exact g,i,λn p w a b=>(j n p w a b).updL f d⟩
def Fb.mono{F c:Addr->Prop}{H:Hp}{D:Addr}{d:List (List (List AZ))}(e:∀x,F x->c x)(h:Fb F H D d):Fb c H D d:=
 let ⟨ps,f,g,i,j⟩:=h;⟨ps,e _ f,g,i,λn p w a b=>(j n p w a b).mono e⟩
abbrev NU (tr:List (List (List AZ))):Dt:=.lst (tr.map TX)
def Fb.dt{K:Ah}{F:Addr->Prop}{H:Hp}{D:Addr}{a:List (List (List AZ))}(h:Fb F H D a):Aw K H (.ref D) (NU a):=by obtain⟨ps,_,e,f,g⟩:=h;refine .lst (Ad.of e) (Au.of_get (by simpa using f) λn v d b c=>?_);rw[AV] at b c;obtain⟨p,i,rfl⟩:=CD.mp b;obtain⟨w,j,rfl⟩:=CD.mp c;exact(g n p w i j).dt
def NV (F:Addr->Prop) (H:Hp) (L:Addr) (trs:List (List (List (List AZ)))):Prop:=∃ds:E',F L/\H L=some (.lst (ds.map V.ref))/\ds.length=trs.length/\∀(n:Nat)(D:Addr)(tr:List (List (List AZ))),ds[n]?=some D->trs[n]?=some tr->Fb F H D tr
def NV.same{F:Addr->Prop}{H H':Hp}{L:Addr}{c:List (List (List (List AZ)))}(e:Ac H H')(h:NV F H L c):NV F H' L c:=
 let ⟨d,f,g,i,j⟩:=h;⟨d,f,e _ _ g,i,λn p w a b=>(j n p w a b).same e⟩
abbrev DW (m l:Nat) (ns:F') (qs:U'):List (List (List (List AZ))):=qs.map λq=>BU m l ns q.2.2 q.1.toNat
def TY{K:Ah}{f h:Addr}{us:R'}{k:Nat}{Q:Addr->Hp->Prop}(Pv:Addr->Nat->R'->Hp->Prop)(I:xs.length=us.length)
 (t:∀D,H1 D=none->Pv D 0 [] (upd H1 D (.lst []))) (w:∀D i ys a,Pv D i ys a->Ad K a f xs/\Ad K a h us)
 (z:∀D i x u T ys a(R:VK),H1 D=none->xs[i]?=some x->us[i]?=some u->a T=none->Pv D i ys a->(∀y c,c D=some (.lst ys)->ys.length<sizeLine->Pv D (i+1) (ys++[y]) (upd c D (.lst (ys++[y])))->R y c)->g (.ref T) (CI k caps σ) (upd a T (.tup [x,u])) λσ4 j=>te σ4 j R)
 (hd:∀D ys a,H1 D=none->Pv D xs.length ys a->Q D a) :
 ∀D,H1 D=none->∃W:Nat->Nat->R'->Hp->Prop,(∃m,W 0 m [] (upd H1 D (.lst [])))/\∀i m ys a,W i m ys a ->
  ((Ie K f h).stop i a/\Q D a)\/((Ie K f h).go i a/\∀x l,(Ie K f h).yld i a x l->g x (CI k caps σ) l λσ4 j=>Ee σ4 j λb r =>
   if b=true then te σ4 r λy c=>c D=some (.lst ys)/\ys.length<sizeLine/\∃d,d<m/\W (i+1) d (ys++[y]) (upd c D (.lst (ys++[y]))) else ∃d,d<m/\W (i+1) d ys r):=by
 intro D n;refine⟨λi m ys a=>m=xs.length-i/\i<=xs.length/\Pv D i ys a,⟨xs.length,rfl,B8 _,t D n⟩,?_⟩;rintro i m ys a ⟨rfl,J,p⟩;obtain⟨o,q⟩:=w D i ys a p;by_cases s:i<xs.length;have ex:=AQ s;have A:=AQ (show i<us.length by lia);refine .inr ⟨⟨xs,us,_,_,o,q,ex,A⟩,λv l y=>?_⟩;obtain⟨T,x,u,B,rfl,rfl,C,E⟩:=y;refine z D i x u T ys a _ n (C xs o) (E us q) B p λv c F G H=>?_;exact⟨F,G,xs.length-(i+1),by lia,rfl,s,H⟩;have e:i=xs.length:=(by lia);subst e;exact .inl ⟨⟨xs,us,o,q,.inl (AB _)⟩,hd D ys a n p⟩
variable {N:L2.St->Hp->Prop}
def ES{σ σ':L2.St}(e:σ=σ')(h:N σ' H):N σ H:=e▸h
variable {u:TS}
def Rh{t:TS}{σ:L2.St}(h:∀N,N=u D->t {D with nx:=N} σ H):FO t u D σ H:=h _ rfl
def CV{t:TS}{σ:L2.St}(e:N=FO t u D)(h:∀a,a=u D->t {D with nx:=a} σ H):N σ H:=by rw[e];exact h _ rfl
def Ri{M:L2.St->Hp->Prop}{σ:L2.St}(e:N=M)(h:M σ H):N σ H:=e▸h
def OX{t:TS}{σ:L2.St}(e:N=FO t u D)(P:L2.St->Hp->Prop)(b:∀a,a=u D->∀σ' H',P σ' H'->a σ' H')(c:∀a:L2.St->Hp->Prop,(∀σ' H',P σ' H'->a σ' H')->t {D with nx:=a} σ H):N σ H:=by rw[e];exact c (u D) (b _ rfl)
def C4 (ns:F') (c:Str) (path:F') (j:Nat):Str:=if j<min (Bd ns path+1) path.length/\AX ns (path.getD j "")=some 0 then c else path.getD j ""
def AD (ns:F') (c:Str) (path:F'):F':=(List.range path.length).map (C4 ns c path)
def FV{c:Str}:(AD ns c path).length=path.length:=by unfold AD;simp
def NW{c:Str}(h:j<path.length):(AD ns c path)[j]?=some (C4 ns c path j):=by unfold AD;rw[AV,s' h];rfl
def Rj{c:Str}(h:j<path.length):(AD ns c path).getD j "" = C4 ns c path j:=by rw[BZ,NW h];rfl
theorem G7{α:Type}{p:α->Bool}:∀{l:List α}{x:α},x∈l.takeWhile p->p x=true
 |[],x,h=>by cases h
 |y::l,x,h=>by
   rw[List.takeWhile_cons] at h;split at h;rcases Cj.mp h with rfl|h
   assumption
   exact G7 h;cases h
def OY(h:j<Bd ns path):path.getD j "" ∈ ns:=by
 unfold Bd at h;have a:=Di h;have b:=G7 a
 have e:(path.takeWhile λx=>decide (x∈ns))[j]=path.getD j "" :=by
  have d:=List.takeWhile_prefix (l:=path) (λx=>decide (x∈ns));obtain⟨r,c⟩:=d
  have:path[j]?=some ((path.takeWhile λx=>decide (x∈ns))[j]):=by
   rw[<-AQ h]
   conv=>lhs;rw[<-c]
   rw[DH h]
  rw[BZ,this];rfl
 rw[<-e];exact FL b
def OZ(h:Bd ns path<path.length):path.getD (Bd ns path) "" ∉ ns:=by
 intro z;have d:=AQ h;have hd:path.getD (Bd ns path) "" = path[Bd ns path]:=by rw[BZ,d];rfl
 rw[hd] at z;by_cases c:∃i y,Bd ns path<i/\path[i]?=some y/\y∉ns/\∀j x,j<i->path[j]?=some x->x∈ns;obtain⟨i,y,q,f,g,k⟩:=c;have:=Rb k f g;lia
 have p:∀n,Bd ns path<n -> ∀j x,j<n->path[j]? = some x->x∈ns:=by
  intro n
  induction n with
  |zero=>intro h;lia
  |succ n b=>
   intro r j x l a
   have m:∀j x,j<=Bd ns path->path[j]?=some x->x∈ns:=λj x l a=>by
    by_cases e:j=Bd ns path;subst e;rw[d] at a;cases a;exact z;have:=OY (show j<Bd ns path by lia);rw[BZ,a] at this;exact this
   by_cases e:n<=Bd ns path;exact m j x (by lia) a;have b:=b (by lia);by_cases o:j<n;exact b j x o a;have:j=n:=(by lia);subst this;exact t0 λy=>c ⟨j,x,by lia,a,y,b⟩
 have:=Rc (ns:=ns) (path:=path) λj x a=>p (path.length+1) (by lia) j x (by have:=(AS.mp a).1;lia) a;lia
section
variable {a c:Str} {rest path:F'}
def B5{x:Str}:AX (a::rest) x=some 0↔x=a:=by unfold AX;by_cases h:a=x;rw[AC h];simp[h];rw[AA h];constructor;intro z;obtain⟨j,_,e⟩:=CD.mp z;simp at e;intro z;exact absurd z.symm h
def O0(b:c∉a::rest)(d:Bd (a::rest) path<path.length->path.getD (Bd (a::rest) path) "" ≠ c)(h:j<min (Bd (a::rest) path+1) path.length):AX (c::rest) (C4 (a::rest) c path j)=AX (a::rest) (path.getD j ""):=by
 unfold C4;by_cases e:AX (a::rest) (path.getD j "")=some 0;rw[AC ⟨h,e⟩,e,B5];rw[AA λz=>e z.2];have f:path.getD j "" ≠ a:=λz=>e (B5.mpr z);have g:path.getD j "" ≠ c:=(by by_cases k:j<Bd (a::rest) path;intro z;exact b (z▸OY k);have:j=Bd (a::rest) path:=(by lia);subst this;exact d (by lia));show(if c=path.getD j "" then some 0 else _)=if a=path.getD j "" then some 0 else _;rw[AA (Ne.symm g),AA (Ne.symm f)]
def O1(d:c∉a::rest)(f:Bd (a::rest) path<path.length->path.getD (Bd (a::rest) path) "" ≠ c):Bd (c::rest) (AD (a::rest) c path)=Bd (a::rest) path:=by
 have le:=IE (ns:=a::rest) (path:=path)
 have g:∀j x,j<Bd (a::rest) path->(AD (a::rest) c path)[j]?=some x->x∈c::rest:=λj x h b=>by
  rw[NW (by lia)] at b;cases b;have:=O0 d f (j:=j) (by lia);refine t0 λz=>?_;rw[B4.mpr z] at this;exact(B4.mp this.symm) (OY h)
 by_cases e:Bd (a::rest) path<path.length;refine Rb g (NW e) ?_;rw[<-B4,O0 d f (by lia),B4];exact OZ e;rw[Rc λj x b=>g j x (by have:=(AS.mp b).1;rw[FV] at this;lia) b,FV];lia
def IG(b:c∉a::rest)(d:Bd (a::rest) path<path.length->path.getD (Bd (a::rest) path) "" ≠ c):EG (c::rest) (AD (a::rest) c path)=EG (a::rest) path:=by unfold EG;rw[O1 b d,FV]
def IH{l:Nat}(d:c∉a::rest)(e:Bd (a::rest) path<path.length->path.getD (Bd (a::rest) path) "" ≠ c):BU m l (c::rest) (AD (a::rest) c path) v=BU m l (a::rest) path v:=by unfold BU;rw[O1 d e,FV];refine List.map_congr_left λj b=>?_;have b:=List.mem_range.mp b;unfold DG Ci;rw[Rj (by lia),O0 d e b]
def Wq(h:a∉c::rest)(d:c∉a::rest)(f:Bd (a::rest) path<path.length->path.getD (Bd (a::rest) path) "" ≠ c):AD (c::rest) a (AD (a::rest) c path)=path:=by
 refine v5 λj=>?_;by_cases b:j<path.length;rw[NW (by rw[FV];exact b)];have g:=AQ b;have hd:path.getD j "" = path[j]:=by rw[BZ,g];rfl
 rw[g,<-hd];congr 1;show(if j<min (Bd (c::rest) (AD (a::rest) c path)+1) (AD (a::rest) c path).length/\AX (c::rest) ((AD (a::rest) c path).getD j "")=some 0 then a else(AD (a::rest) c path).getD j "")=_;rw[O1 d f,FV,Rj b];by_cases k:j<min (Bd (a::rest) path+1) path.length;rw[O0 d f k];by_cases e:AX (a::rest) (path.getD j "")=some 0;rw[AC ⟨k,e⟩];exact(B5.mp e).symm;rw[AA λz=>e z.2];unfold C4;rw[AA λz=>e z.2];rw[AA λz=>k z.1];unfold C4;rw[AA λz=>k z.1];rw[Gg (by rw[FV,FV];lia),Gg (by lia)]
def II(b:Bd (a::rest) path<path.length->path.getD (Bd (a::rest) path) "" ≠ c)(d:c∉a::rest):Bd (c::rest) (AD (a::rest) c path)<(AD (a::rest) c path).length->(AD (a::rest) c path).getD (Bd (c::rest) (AD (a::rest) c path)) "" ≠ a:=by rw[O1 d b,FV];intro h z;rw[Rj h] at z;unfold C4 at z;by_cases e:Bd (a::rest) path<min (Bd (a::rest) path+1) path.length/\AX (a::rest) (path.getD (Bd (a::rest) path) "")=some 0;have:=B5.mp e.2;exact OZ h (by rw[this];exact Ea ..);rw[AA e] at z;exact OZ h (by rw[z];exact Ea ..)
end
variable {us Gs Es:E'}
def Cy.put{D l:Addr}{u G E:Addr}{g:E'}{tl:List Iq}(h:Cy H D us Gs Es ss)(e:Ac H H')(m:ss[i]?=some s)(n:Gs[i]?=some G)(r:H' l=some (.lst ((us.set i u).map V.ref)))(t:H' u=some (.tup [.ref G,.ref E]))(v:H' E=some (.lst (g.map V.ref)))(T:RT DF H' g tl) :
 Cy H' l (us.set i u) Gs (Es.set i E) (ss.set i (s.1,tl)):=by
 have a:i<ss.length:=(AS.mp m).1;refine⟨r,by rw[Dj,Dj];exact h.lu,by rw[Dj];exact h.lg,by rw[Dj,Dj];exact h.le,λj w x y Z b k d f=>?_⟩;by_cases c:i=j;subst c;rw[w4 (by rw[h.lu];exact a)] at b;rw[w4 (by rw[h.le];exact a)] at d;rw[w4 a] at f;rw[n] at k;cases b;cases k;cases d;cases f;obtain⟨B,C,E0,F,o,I,p,⟨_,⟨z,A,q⟩,_⟩⟩:=h.get a;rw[n] at o;cases o;rw[m] at p;have:=Ce p;rw[<-this] at q;exact⟨t,⟨z,e _ _ A,q.same e⟩,⟨g,v,T⟩⟩;rw[u8 c] at b d f;exact(h.at_ j w x y Z b k d f).same e
variable {rest:F'}
def DV.anew{a c:Str}{l:Nat}(C:DV ss gs lab lbt l (a::rest))(e:c∉a::rest):DV (ss.set l (([],(c::rest).map λx=>(lbt,x, "thing",0)):AO)) gs lab lbt l (c::rest):=by have f:=C.nd;refine⟨by rw[Dj];exact C.m40,by rw[Dj];exact C.hl,λv b d=>?_,w4 C.hl,C.n2,DN.mpr ⟨λz=>e (DL _ z),(DN.mp f).2⟩,C.hg,C.ne⟩;rw[Dj] at b ⊢;rw[u8 (Ne.symm d)];exact C.st v b d
def Fp.anew{c:Str}(h:Fp m qs):Fp m (qs.map λq=>(q.1,q.2.1,AD ns c q.2.2)):=by refine⟨by rw[Al];exact h.le,by rw[Al];exact h.ge,λq b=>?_⟩;obtain⟨a,d,rfl⟩:=Bo.mp b;obtain⟨v,e,f,g,i,j⟩:=h.at_ a d;exact⟨v,e,f,g,by show 1<=(AD ns c a.2.2).length;rw[FV];exact i,by show(AD ns c a.2.2).length<=6;rw[FV];exact j⟩
def NX (ns:F') (c:Str) (qs:U'):Prop:=∀q∈qs,Bd ns q.2.2<q.2.2.length->q.2.2.getD (Bd ns q.2.2) "" ≠ c
def Wr{a c:Str}(b:c∉a::rest)(d:NX (a::rest) c qs):CU (c::rest) (qs.map λq=>(q.1,q.2.1,AD (a::rest) c q.2.2))=CU (a::rest) qs:=by unfold CU;rw[DI];exact List.map_congr_left λq e=>IG b (d q e)
def Ws{l:Nat}{a c:Str}(b:c∉a::rest)(d:NX (a::rest) c qs):DW m l (c::rest) (qs.map λq=>(q.1,q.2.1,AD (a::rest) c q.2.2))=DW m l (a::rest) qs:=by unfold DW;rw[DI];exact List.map_congr_left λq e=>IH b (d q e)
def IJ(x y:List (List (List AZ))):DR 5 (NU x) (NU y):=by refine .lst (Bp.of λd hd e a=>?_);obtain⟨p,_,rfl⟩:=Bo.mp hd;obtain⟨q,_,rfl⟩:=Bo.mp a;refine .lst (Bp.of λd hd e a=>?_);obtain⟨p,_,rfl⟩:=Bo.mp hd;obtain⟨q,_,rfl⟩:=Bo.mp a;refine .lst (Bp.of λd hd e a=>?_);obtain⟨p,_,rfl⟩:=Bo.mp hd;obtain⟨q,_,rfl⟩:=Bo.mp a;exact .tup (.cons (.int _ _) (.cons (.str _ _) (.cons (.int _ _) (.nil _))))
section
variable {K:Ah} {l1 l2:Addr} {xs ys:R'} {k:Nat} {caps:M'} {g:TG} {te:TE} {σ:St} {H1:Hp} {Q:Addr->Hp->Prop}
def Wt(f:Nat->V)(I:xs.length<=sizeLine)(J:xs.length=ys.length)(z:Ad K H1 l1 xs)(A:Ad K H1 l2 ys)
 (B:∀(i:Nat)(x y:V)(T:Addr)(a:Hp)(R:VK),xs[i]?=some x->ys[i]?=some y->a T=none->Ac H1 a->(∀c,Ac (upd a T (.tup [x,y])) c->R (f i) c)->g (.ref T) (CI k caps σ) (upd a T (.tup [x,y])) λσ4 d=>te σ4 d R)
 (hd:∀(a:Hp)(D:Addr),Ac H1 a->H1 D=none->a D=some (.lst ((List.range xs.length).map f))->Q D a) :
 ∀D,H1 D=none->∃W:Nat->Nat->R'->Hp->Prop,(∃m,W 0 m [] (upd H1 D (.lst [])))/\∀i m ys a,W i m ys a ->
  ((Ie K l1 l2).stop i a/\Q D a)\/((Ie K l1 l2).go i a/\∀x c,(Ie K l1 l2).yld i a x c->g x (CI k caps σ) c λσ4 d=>Ee σ4 d λb q =>
   if b=true then te σ4 q λy r=>r D=some (.lst ys)/\ys.length<sizeLine/\∃h,h<m/\W (i+1) h (ys++[y]) (upd r D (.lst (ys++[y]))) else ∃h,h<m/\W (i+1) h ys q):=by
 intro D l;refine⟨λi m n a=>m=xs.length-i/\i<=xs.length/\n=(List.range i).map f/\Ac H1 a/\a D=some (.lst n),⟨xs.length,rfl,B8 _,rfl,(Ac.refl _).upd l,Aa⟩,?_⟩;rintro i m n a ⟨rfl,L,rfl,j,s⟩;have o:=j.seq z;have p:=j.seq A;by_cases u:i<xs.length;have ex:=AQ u;have C:=AQ (show i<ys.length by lia);refine .inr ⟨⟨xs,ys,_,_,o,p,ex,C⟩,λv c E=>?_⟩;obtain⟨T,x,y,t,rfl,rfl,F,G⟩:=E;refine B i x y T a _ (F xs o) (G ys p) t j λd H=>?_;have w:Ac a d:=(A3 t).trans H;refine⟨w _ _ s,by rw[Al,r9];lia,xs.length-(i+1),by lia,rfl,u,?_,(j.trans w).upd l,Aa⟩;rw[List.range_succ,By];rfl;have e:i=xs.length:=(by lia);subst e;exact .inl ⟨⟨xs,ys,o,p,.inl (AB _)⟩,hd a D j l s⟩
def Wu(f:Nat->V)(I:xs.length<=sizeLine)(J:xs.length=ys.length)(z:Am K H1 l1 xs)(A:Am K H1 l2 ys)
 (B:∀(i:Nat)(x y:V)(T:Addr)(a:Hp)(R:VK),xs[i]?=some x->ys[i]?=some y->a T=none->Ac H1 a->(∀c,Ac (upd a T (.tup [x,y])) c->R (f i) c)->g (.ref T) (CI k caps σ) (upd a T (.tup [x,y])) λσ4 d=>te σ4 d R)
 (hd:∀(a:Hp)(D:Addr),Ac H1 a->H1 D=none->a D=some (.lst ((List.range xs.length).map f))->Q D a) :
 ∀D,H1 D=none->∃W:Nat->Nat->R'->Hp->Prop,(∃m,W 0 m [] (upd H1 D (.lst [])))/\∀i m ys a,W i m ys a ->
  ((GZ K l1 l2).stop i a/\Q D a)\/((GZ K l1 l2).go i a/\∀x c,(GZ K l1 l2).yld i a x c->g x (CI k caps σ) c λσ4 d=>Ee σ4 d λb q =>
   if b=true then te σ4 q λy r=>r D=some (.lst ys)/\ys.length<sizeLine/\∃h,h<m/\W (i+1) h (ys++[y]) (upd r D (.lst (ys++[y]))) else ∃h,h<m/\W (i+1) h ys q):=by
 intro D l;refine⟨λi m n a=>m=xs.length-i/\i<=xs.length/\n=(List.range i).map f/\Ac H1 a/\a D=some (.lst n),⟨xs.length,rfl,B8 _,rfl,(Ac.refl _).upd l,Aa⟩,?_⟩;rintro i m n a ⟨rfl,L,rfl,j,s⟩;have o:=j.seqT z;have p:=j.seqT A;by_cases u:i<xs.length;have ex:=AQ u;have C:=AQ (show i<ys.length by lia);refine .inr ⟨⟨xs,ys,_,_,o,p,ex,C⟩,λv c E=>?_⟩;obtain⟨T,x,y,t,rfl,rfl,F,G⟩:=E;refine B i x y T a _ (F xs o) (G ys p) t j λd H=>?_;have w:Ac a d:=(A3 t).trans H;refine⟨w _ _ s,by rw[Al,r9];lia,xs.length-(i+1),by lia,rfl,u,?_,(j.trans w).upd l,Aa⟩;rw[List.range_succ,By];rfl;have e:i=xs.length:=(by lia);subst e;exact .inl ⟨⟨xs,ys,o,p,.inl (AB _)⟩,hd a D j l s⟩
end
inductive Fc (K:Ah) (H:Hp):Nat->V->V->Bool->Prop
 |str (n:Nat) (x y:Str):Fc K H (n+1) (.str x) (.str y) (decide (x=y))
 |int (n:Nat) (i j:Int):Fc K H (n+1) (.int i) (.int j) (decide (i=j))
 |tup {n:Nat} {p q:Addr} {xs ys:R'} {f:Nat->Bool} (h1:Am K H p xs) (h2:Am K H q ys) (hl:xs.length=ys.length) (hn:xs.length<=100) (h:∀i x y,xs[i]?=some x->ys[i]?=some y->Fc K H n x y (f i)):Fc K H (n+1) (.ref p) (.ref q) (((List.range xs.length).map f).all id)
 |lst {n:Nat} {p q:Addr} {xs ys:R'} {f:Nat->Bool} (h1:Ad K H p xs) (h2:Ad K H q ys) (hl:xs.length=ys.length) (hn:xs.length<=100) (h:∀i x y,xs[i]?=some x->ys[i]?=some y->Fc K H n x y (f i)):Fc K H (n+1) (.ref p) (.ref q) (((List.range xs.length).map f).all id)
 |lstN {n:Nat} {p q:Addr} {xs ys:R'} (h1:Ad K H p xs) (h2:Ad K H q ys) (hl:xs.length≠ys.length):Fc K H (n+1) (.ref p) (.ref q) false
def Fc.same{K:Ah}(s:Ac H H'){x y:V}{b:Bool}(h:Fc K H n x y b):Fc K H' n x y b:=by
 induction h with|str n x y=>exact .str n x y|int n i j=>exact .int n i j|tup a c d e _ f=>exact .tup (s.seqT a) (s.seqT c) d e f|lst a c d e _ f=>exact .lst (s.seq a) (s.seq c) d e f|lstN a c d=>exact .lstN (s.seq a) (s.seq c) d
mutual
inductive IK:Nat->Dt->Prop
 | str (n:Nat) (x:Str):IK (n+1) (.str x)
 | int (n:Nat) (i:Int):IK (n+1) (.int i)
 | tup {n:Nat} {ds:List Dt} (hl:ds.length<=100) (h:Cp n ds):IK (n+1) (.tup ds)
 | lst {n:Nat} {ds:List Dt} (hl:ds.length<=100) (h:Cp n ds):IK (n+1) (.lst ds)
inductive Cp:Nat->List Dt->Prop
 | nil (n:Nat):Cp n []
 | cons {n:Nat} {d:Dt} {ds:List Dt} (h:IK n d) (t:Cp n ds):Cp n (d :: ds)
end
theorem Cp.of{n:Nat}:∀{ds:List Dt},(∀d∈ds,IK n d)->Cp n ds
 |[],_=>.nil n
 |d::ds,h=>.cons (h d (Ea ..)) (Cp.of λx a=>h x (DL _ a))
theorem Cp.get{n:Nat}:∀{ds:List Dt}{i:Nat}{d:Dt},Cp n ds->ds[i]?=some d->IK n d
 |_,0,d,.cons h _,e=>by cases e;exact h
 |_,i+1,d,.cons _ t,e=>Cp.get t (by simpa using e)
theorem NY{K:Ah}{H:Hp}:∀{vs:R'}{ds:List Dt}{i:Nat}{v:V},Au K H vs ds->vs[i]?=some v->∃d,ds[i]?=some d/\Aw K H v d
 |_,_,0,v,.cons h _,e=>by cases e;exact⟨_,rfl,h⟩
 |_,_,i+1,v,.cons _ t,e=>by obtain⟨d,a,b⟩:=NY (i:=i) t (by simpa using e);exact⟨d,by simpa using a,b⟩
theorem Lp{K:Ah}{H:Hp}:∀{vs:R'}{ds:List Dt},Au K H vs ds->vs.length=ds.length
 |_,_,.nil=>rfl
 |_,_,.cons _ t=>by rw[EU,EU,Lp t]
theorem O2{K:Ah}{H:Hp}:∀{n:Nat}{x y:V}{d:Dt},IK n d->Aw K H x d->Aw K H y d->Fc K H n x y true
 |_,_,_,_,.str n z,.str _,.str _=>by have:=Fc.str (K:=K) (H:=H) n z z;rw[Ca rfl] at this;exact this
 |_,_,_,_,.int n z,.int _,.int _=>by have:=Fc.int (K:=K) (H:=H) n z z;rw[Ca rfl] at this;exact this
 |_,_,_,_,.tup (ds:=ds) g h,.tup j a,.tup k b=>by
   have A:=Fc.tup (K:=K) (f:=λ_=>true) j k ((Lp a).trans (Lp b).symm) (by rw[Lp a];exact g) λi x y l m=>by
    obtain⟨d,c,o⟩:=NY a l;obtain⟨q,e,p⟩:=NY b m;rw[c] at e;cases e;exact O2 (h.get c) o p
   rw[show(((List.range _).map λ_=>true).all id)=true by simp] at A;exact A
 |_,_,_,_,.lst (ds:=ds) g h,.lst j a,.lst k b=>by
   have A:=Fc.lst (K:=K) (f:=λ_=>true) j k ((Lp a).trans (Lp b).symm) (by rw[Lp a];exact g) λi x y l m=>by
    obtain⟨d,c,o⟩:=NY a l;obtain⟨q,e,p⟩:=NY b m;rw[c] at e;cases e;exact O2 (h.get c) o p
   rw[show(((List.range _).map λ_=>true).all id)=true by simp] at A;exact A
section
variable {X:Cx}
def NZ (K:Ah):V->J'->J'->Hp->VK->Prop:=λx lo hi H Q=>∃a xs,x=.ref a/\Am K H a xs /\
 ¬(HT.sIx xs.length 0 lo=0/\HT.sIx xs.length xs.length hi=xs.length)/\∀p o,H p=none->o.dict=none->Q (.ref p) (upd H p (.frz o (.tup (Cn xs lo hi))))
def TZ:Ow X (NZ X.K):=by
 intro z s σ H x v t u c d w Q I j k l m h;obtain⟨a,xs,rfl,n,p,q⟩:=h;cases j;obtain⟨i,r,f,g⟩:=I.tuple n;have e:i.toArray.size=xs.length:=by rw[BX];exact r.length.symm
 refine⟨"tuple",_,PyProof.Rows.slot_tuple_getitem.lookup,f.typeIs,?_⟩;refine HT.getItem_tuple_cut f k l m (by rw[e];exact p) ?_ (by rw[e];exact g);rw[e];refine⟨.ref s.heap.objs.size,_,I.laid (t':=s.toks) (o:=.frz {cls:=.type "tuple",data:=.seq ((i.toArray.toList.drop (HT.sIx xs.length 0 c)).take (HT.sIx xs.length xs.length d-HT.sIx xs.length 0 c)).toArray} (.tup (Cn xs c d))) (λb y q=>Bb _ q) (AB _) ?_,rfl,q _ _ (I.hok.fresh (AB _)) rfl⟩;exact⟨Cf s.heap rfl,Fg (Sz xs c d) g,_,(r.drop (HT.sIx xs.length 0 c)).take (HT.sIx xs.length xs.length d-HT.sIx xs.length 0 c),IsTup.new _ _⟩
def IL (_:Ah):V->R'->Hp->VK->Prop:=λx vs H Q=>∃(a:Addr)(o:Obj)(us:F')(y:Str),x=.ref a/\vs=[.str y]/\H a=some (.frz o (.tup (us.map V.str)))/\Q (.int ((us.count y:Nat):Int)) H
theorem T4{pins:A'}{σ:St}{H:Hp}{s:Shared}(I:Inv X pins σ H s){y:Str}:∀{us:F'}{b:D'},Aq (us.map V.str) b->b.countP (λv=>dec (∃u,RelV u v/\Aw X.K H u (.str y)))=us.count y
 |[],_,.nil=>rfl
 |u::us,_,.cons a r=>by
   rw[List.countP_cons,List.count_cons,T4 I r];congr 1;by_cases c:u=y;rw[ED ⟨_,a,c▸.str u⟩,c];simp
   rw[Fk λ⟨g,e,f⟩=>by
    have d:=a.inj e;subst d;exact c (by cases f;rfl)]
   simp[c]
def Rk (r:V->R'->Hp->VK->Prop) (c:TE) (t:TA):TE:=λσ H Q=>c σ H λx H1=>(∃p o xs,x=.ref p/\H1 p=some (.frz o (.tup xs))/\o.dict=none)/\t σ H1 λxs H2=>r x xs H2 Q
def G8{o e:Expr}{c:TE}{t:TA}{name:Str}{k b:Pos}{id:String}{r:V->R'->Hp->VK->Prop}(N:Slot "tuple" name id)(L:typeOf (.builtin id)=pure (.type "method_descriptor"))(l:FZ X id r)(m:PE X o c)(n:PA X (e::es) t)
 (P:attributeBase o name X.env (eval o X.env)=eval o X.env:=by rfl)
 (O:((backTo b (starEach (e::es) X.env)).all (λx=>!x.1) && (backToKw b (keywordEach [] X.env)).all (λx=>x.1.isSome)
  && decide ((e::es).length+([]:List Keyword).length+(if([]:List Keyword).isEmpty then 0 else 1)<30))=true:=by rfl)
 (R:(k.endLine==b.line)=true:=by rfl) (q:starEach (e::es) X.env=(false,eval e X.env)::starEach es X.env:=by rfl) (S:(backTo b (starEach es X.env)).any (·.1)=false:=by rfl) :
 PE X (.Call (.Attribute o name k) (e::es) [] b) (Rk r c t):=by
 intro d s σ H Q I h;refine wpAny_Call_method_late P O R rfl (AJ (m d s σ H _ I h) λv f⟨x,H1,g,u,ty,w⟩=>?_);obtain⟨p,i,xs,rfl,y,M⟩:=ty;cases u;obtain⟨z,_,ts,T,A,B,C,U,dt⟩:=(show Az X.prog X.w _ f.heap p (.frz i (.tup xs)) from g.hok p _ y);refine⟨"tuple",id,PySem.F.plainAttrs_tuple,N,L,⟨A,B,C⟩,λa e=>by cases e;exact⟨i,z,M⟩,?_⟩;have j:=n b d f σ H1 _ g w;rw[q] at j ⊢;refine Calls.callWith_builtin (by show(false || (backTo b (starEach es X.env)).any (·.1))=false;rw[S]<;>rfl) (Calls.evalArgs_plain ?_);exact AJ j λus D⟨E,F,G,J,K⟩=>l d D σ F (.ref p) E (.ref p) us Q G rfl J K
theorem T7(D:X.A.units+64<cLine):FZ X "tuple.count" (IL X.K):=by
 intro J s σ H x E v us Q I i j h;obtain⟨a,l,b,y,rfl,rfl,o,q⟩:=h;cases i;obtain⟨u,rfl,t⟩:=El j;obtain⟨_,_,d,r,p⟩:=(show Az X.prog X.w _ s.heap a (.frz l (.tup (b.map V.str))) from I.hok a _ o);have k:Au X.K H (b.map V.str) (b.map Dt.str):=Au.strs b;obtain⟨z,G⟩:=Tg (A:=X.A.in1) (n:=1) I r k (λe B=>by obtain⟨w,_,rfl⟩:=Bo.mp B;exact .str _ _) (.str y) t (by rw[GK];lia);obtain⟨⟨c,dct,dt,C⟩,g,f,m,hd⟩:=p;replace f:c=.type "tuple" :=f;replace hd:dt=.seq d.toArray m:=hd;subst f hd;refine call_meets F.slot_tuple_count ⟨_,g,rfl⟩ F.entry_tuple_count (F.args_tuple_count_2 _ _) (PySem.SeqAt.tuple_countAt a d.toArray m dct C u (λv=>dec (∃u,RelV u v/\Aw X.K H u (.str y)))) ⟨g,z,?_⟩;refine⟨.int ((b.count y:Nat):Int),H,I.tok _,?_,q⟩;rw[show d.toArray.toList=d from rfl,T4 I r];exact⟨_,rfl⟩
end
def RT.one{f:α->R'}{t:Addr}{r:α}(e:H t=some (.tup (f r))):RT f H [t] [r]:=⟨rfl,λn v q a b=>by
 cases n with
 |zero=>cases a;cases b;exact e
 |succ n=>simp at a⟩
def RT.two{f:α->R'}{t u:Addr}{r s:α}(e:H t=some (.tup (f r)))(c:H u=some (.tup (f s))):RT f H [t,u] [r,s]:=⟨rfl,λn v q a b=>by
 match n,a,b with
 |0,a,b=>cases a;cases b;exact e
 |1,a,b=>cases a;cases b;exact c
 |n+2,a,_=>simp at a⟩
def Cy.gput{D:Addr}(h:Cy H D us Gs Es ss)(p:(D::(Gs++Es)).Nodup){G:Addr}{gl:List KR}(g:ss[i]?=some s)(b:Gs[i]?=some G)(q:H G=some (.lst xs))(T:RT Ip H ts gl) :
 Cy (upd H G (.lst (ts.map V.ref))) D us Gs Es (ss.set i (gl,s.2)):=by
 have k:Keeps (·=G) H (upd H G (.lst (ts.map V.ref))):=Keeps.one q;have r:i<ss.length:=(AS.mp g).1;obtain⟨t,B⟩:=DN.mp p;obtain⟨v,ne,C⟩:=List.nodup_append.mp B;have l:G∈Gs:=CB b;refine⟨k.at_ _ _ h.top λz=>t (z▸Ht _ l),by rw[Dj];exact h.lu,by rw[Dj];exact h.lg,by rw[Dj];exact h.le,λj u m E Z n c f d=>?_⟩;have o:E≠G:=λz=>C G l E (CB f) z.symm;by_cases e:i=j;subst e;rw[b] at c;cases c;rw[w4 r] at d;cases d;obtain⟨a,_,⟨es,w,x⟩⟩:=h.at_ i u G E _ n b f g;exact⟨k.tup a,⟨ts,Aa,T.keeps k⟩,⟨es,k.at_ _ _ w o,x.keeps k⟩⟩;rw[u8 e] at d
 have F:m≠G:=λz=>by
  subst z;obtain⟨I,y⟩:=AS.mp c;obtain⟨J,A⟩:=AS.mp b;exact e ((List.getElem_inj v).mp (A.trans y.symm))
 exact(h.at_ j u m E Z n c f d).keeps k F o
def Cy.eput{D:Addr}(h:Cy H D us Gs Es ss)(p:(D::(Gs++Es)).Nodup){E:Addr}{tl:List Iq}(g:ss[i]?=some s)(b:Es[i]?=some E)(q:H E=some (.lst xs))(T:RT DF H ts tl) :
 Cy (upd H E (.lst (ts.map V.ref))) D us Gs Es (ss.set i (s.1,tl)):=by
 have k:Keeps (·=E) H (upd H E (.lst (ts.map V.ref))):=Keeps.one q;have r:i<ss.length:=(AS.mp g).1;obtain⟨t,A⟩:=DN.mp p;obtain⟨I,ne,B⟩:=List.nodup_append.mp A;have l:E∈Es:=CB b;refine⟨k.at_ _ _ h.top λz=>t (z▸Eb _ l),by rw[Dj];exact h.lu,by rw[Dj];exact h.lg,by rw[Dj];exact h.le,λj u G m Z n f c d=>?_⟩;have o:G≠E:=λz=>B G (CB f) E l z;by_cases e:i=j;subst e;rw[b] at c;cases c;rw[w4 r] at d;cases d;obtain⟨a,⟨C,v,w⟩,_⟩:=h.at_ i u G E _ n f b g;exact⟨k.tup a,⟨C,k.at_ _ _ v o,w.keeps k⟩,⟨ts,Aa,T.keeps k⟩⟩;rw[u8 e] at d
 have F:m≠E:=λz=>by
  subst z;obtain⟨J,x⟩:=AS.mp c;obtain⟨K,y⟩:=AS.mp b;exact e ((List.getElem_inj ne).mp (y.trans x.symm))
 exact(h.at_ j u G m Z n f c d).keeps k o F
def T8{l:Nat}(C:DV ss gs lab lbt l ns)(f:Fp ss.length qs)(o:BA lab)(r:BA lbt)(t:∀x∈ns,BA x)(u:∀q∈qs,∀x∈q.2.2,BA x):EF ss gs qs:=by
 have c:∀s∈ss,(∃v:Nat,s=(([(lab, "to",((Bv ss.length v 1:Nat):Int))],[]):AO))\/s=(([],ns.map λx=>(lbt,x, "thing",0)):AO):=λs b=>by
  obtain⟨v,d⟩:=List.getElem?_of_mem b;by_cases e:v=l;subst e;rw[C.la] at d;exact .inr (Ce d).symm;rw[C.st v (AS.mp d).1 e] at d;exact .inl ⟨v,(Ce d).symm⟩
 have w:0<ss.length:=Nat.lt_of_le_of_lt (B8 _) C.hl;refine⟨C.m40,by rw[C.hg];show 1<=80;decide,f.le,λs b=>?_,λs b=>?_,λq g=>?_,λs b p a=>?_,λs b p a=>?_,u,λs b p a=>?_,λs b p a=>?_,λp a=>?_,λq g=>?_⟩;rcases c s b with⟨v,rfl⟩|rfl;show 1<=8;decide;exact B8 _;rcases c s b with⟨v,rfl⟩|rfl;exact B8 _;show(ns.map _).length<=12;rw[Al];have:=C.n2;lia;obtain⟨v,h,y,i,k,m⟩:=f.at_ q g;exact⟨k,m⟩;rcases c s b with⟨v,rfl⟩|rfl;rw[D7.mp a];exact o;cases a;rcases c s b with⟨v,rfl⟩|rfl;cases a;obtain⟨x,n,rfl⟩:=Bo.mp a;exact⟨r,t x n⟩;rcases c s b with⟨v,rfl⟩|rfl;rw[D7.mp a];refine .inl ⟨rfl,by show(0:Int)<=((Bv ss.length v 1:Nat):Int);lia,?_⟩;have:=NP (v:=v) (j:=1) w;show((Bv ss.length v 1:Nat):Int)<_;lia;cases a;rcases c s b with⟨v,rfl⟩|rfl;cases a;obtain⟨x,n,rfl⟩:=Bo.mp a;exact .inl ⟨rfl,by show(0:Int)<=0;decide,by rw[C.hg];show(0:Int)<((1:Nat):Int);decide⟩;rw[C.hg] at a;rw[D7.mp a];have:=C.hl;exact .inr (.inl ⟨rfl,by show(0:Int)<=(l:Int);lia,by show(l:Int)<_;lia⟩);obtain⟨v,h,y,i,k,m⟩:=f.at_ q g;rw[h,i];exact⟨by lia,by lia,by decide⟩
def G9(F:EF ss gs qs):IK 6 (Fn ss gs qs):=by have c:=F.ls;have e:=F.lg;have f:=F.lq;refine .tup (by show 3<=100;decide) (.cons (.lst (by rw[Al];lia) (Cp.of λd hd=>?_)) (.cons (.lst (by rw[Al];lia) (Cp.of λd hd=>?_)) (.cons (.lst (by rw[Al];lia) (Cp.of λd hd=>?_)) (.nil _))));obtain⟨s,a,rfl⟩:=Bo.mp hd;have:=F.st8 s a;have:=F.tl12 s a;refine .tup (by show 2<=100;decide) (.cons (.lst (by rw[Al];lia) (Cp.of λd hd=>?_)) (.cons (.lst (by rw[Al];lia) (Cp.of λd hd=>?_)) (.nil _)));obtain⟨p,_,rfl⟩:=Bo.mp hd;exact .tup (by show 3<=100;decide) (.cons (.str _ _) (.cons (.str _ _) (.cons (.int _ _) (.nil _))));obtain⟨p,_,rfl⟩:=Bo.mp hd;exact .tup (by show 4<=100;decide) (.cons (.str _ _) (.cons (.str _ _) (.cons (.str _ _) (.cons (.int _ _) (.nil _)))));obtain⟨p,_,rfl⟩:=Bo.mp hd;exact .tup (by show 2<=100;decide) (.cons (.str _ _) (.cons (.int _ _) (.nil _)));obtain⟨q,b,rfl⟩:=Bo.mp hd;have:=F.p6 q b;refine .tup (by show 3<=100;decide) (.cons (.int _ _) (.cons (.int _ _) (.cons (.tup (by rw[Al];lia) (Cp.of λd hd=>?_)) (.nil _))));obtain⟨x,_,rfl⟩:=Bo.mp hd;exact .str _ _
def B9.dt{K:Ah}{H:Hp}{a:Addr}{ss:List AO}{gs:G'}{qs:U'}(h:B9 H a ss gs qs):Aw K H (.ref a) (Fn ss gs qs):=
 let ⟨_,_,_,_,_,_,_,_,b,c⟩:=h;c.dt b
def QT.put{t u:Addr}{q:Qu}(h:QT H ts qs)(e:H t=some (.tup [.int q.1,.int q.2.1,.ref u]))(f:H u=some (.tup (q.2.2.map V.str))):QT H (ts.set i t) (qs.set i q):=by
 refine⟨by rw[Dj,Dj];exact h.len,λn v g a b=>?_⟩;by_cases c:i=n;subst c;have d:i<ts.length:=by have:=(AS.mp a).1;rw[Dj] at this;exact this
 rw[w4 d] at a;rw[w4 (by rw[<-h.len];exact d)] at b;cases a;cases b;exact⟨u,e,f⟩;rw[u8 c] at a b;exact h.at_ n v g a b
end L2
abbrev L2.SF (n:List (PySem.Str×PySem.NameKind)):PySem.Scope:={kind:=.function,names:=n,isGenerator:=false,isCoroutine:=false,more:=[]}
def L2.new_at{H:L2.Hp}{a:PySem.Addr}{o:L2.HO}(h:H a=none):∃b:L2.Hp,b=L2.upd H a o/\L2.Ac H b/\b a=some o:=⟨_,rfl,L2.A3 h,L2.Aa⟩
variable {α:Type}{i:Nat}
def L2.getm{β:Type}{f:α->β}{l:List α}{x:β}(h:(l.map f)[i]?=some x):∃z,l[i]?=some z/\f z=x:=by rw[AV] at h;exact CD.mp h
namespace K69
open PySem PySem.Spec PyProof.Rows L2 Ord
local macro_rules | `(tactic| trivial) => `(tactic| exact ⟨rfl, rfl, rfl, by decide +kernel, rfl, by decide +kernel, by decide +kernel⟩)
local macro_rules | `(tactic| trivial) => `(tactic| exact ⟨rfl, by decide +kernel, by decide +kernel, by decide +kernel, rfl, by decide +kernel, by decide +kernel⟩)
local macro_rules | `(tactic| rfl') => `(tactic| try dsimp only[Ay,Cx.nox,Cx.wish])
def Wv:Ae ["_law_script", "_law_k"] ["_law_script", "_law_k"] (As LN):=by trivial
def T9:Ae ["_law_cell", "_law_prime", "_law_number"] ["_law_cell", "_law_prime"] (As LO):=by trivial
def FW:Ae ["_law_cell", "_law_many", "_law_letters", "_law_number", "_law_size", "_law_at", "_law_by", "_law_words_here", "_law_k", "_law_word", "_law_j", "_law_sign"] ["_law_cell", "_law_many"] (As LP):=by trivial
def Rl:Ae ["states", "pairs", "goes", "ends"] ["states", "pairs"] (As JB):=by trivial
def Ww:Ae ["goes"] ["goes"] (As JC):=by trivial
def BV:Ak (As JC) ["goes"] (SF [ (".0",.local),("label",.local),("number",.local)]) ["label", "number"] 2 []:=by trivial
def MJ:Ae ["states", "pairs", "labels", "goes", "ends", "better", "worse"] ["states", "pairs"] (As LQ):=by trivial
def Wx:Ae ["thing"] ["thing"] (As JD):=by trivial
def Dv:Ak (As JD) ["thing"] (SF [(".0",.local),("sign",.local)]) ["sign"] 1 []:=by trivial
def Ua:Ae ["states", "pairs", "label"] ["states", "pairs"] (As JE):=by trivial
def Wz:Ae ["thing"] ["thing"] (As LR):=by trivial
def WA:Ae ["number", "many"] ["number", "many"] (As LS):=by trivial
def N0:Ae ["states", "inner", "goes", "ends", "label", "number"] ["states", "inner"] (As JF):=by trivial
def WB:Ae ["labels"] ["labels"] (As LU):=by trivial
def Rm:Ae ["states", "goes", "ends"] ["states"] (As LV):=by trivial
def O3:Ae ["pairs", "worse_labels", "better", "worse"] ["pairs"] (As LW):=by trivial
def Lq:Ae ["worse_labels", "start", "came_from", "layer", "further", "better", "worse"] ["worse_labels", "start"] (As LX):=by trivial
def N2:Ae ["pairs", "worse_labels", "order", "better", "worse"] ["pairs"] (As LY):=by trivial
def O4:Ae ["pairs", "order", "better", "worse"] ["pairs"] (As LZ):=by trivial
def WC:Ae ["goes", "ends"] ["goes", "ends"] (As JG):=by trivial
def Bk:Ak (As JG) ["goes", "ends"] (SF [ (".0",.local),("label",.local),("number",.local)]) ["label", "number"] 2 []:=by trivial
def Ub:Ae ["states", "inner", "pairs", "order"] ["states", "inner", "pairs"] (As JH):=by trivial
def Cb:Ak (As JH) ["states", "inner", "pairs", "order"] (SF [ (".0",.local),("goes",.local),("ends",.local),("sorted_state",.globalImplicit)]) ["goes", "ends"] 2 []:=by trivial
def Rn:Ae ["_law_number", "_law_words_here", "_law_many", "_law_path_here"] ["_law_number", "_law_words_here"] (As L0):=by trivial
def WD:Ae ["_law_net"] ["_law_net"] (As JI):=by trivial
def BW:Ak (As JI) ["_law_net"] (SF [ (".0",.local),("_law_steps",.local),("_law_tellings",.local),("list",.globalImplicit)]) ["_law_steps", "_law_tellings"] 2 []:=by trivial
def O5:Ae ["_law_path_here", "_law_words_here", "_law_two", "_law_named_here", "_law_k", "_law_told"] ["_law_path_here", "_law_words_here", "_law_two"] (As L3):=by trivial
def WE:Ae ["net", "scope", "index"] ["net", "scope", "index"] (As L4):=by trivial
def O6:Ae ["table", "state", "label", "goes", "known", "number"] ["table", "state", "label"] (As L5):=by trivial
def O7:Ae ["net", "answers", "step", "label", "kind", "number", "answer"] ["net", "answers", "step"] (As L6):=by trivial
def Lr:Ae ["net", "answers", "table", "scope", "state", "gone", "index", "step", "after", "kind", "number"] ["net", "answers", "table", "scope", "state"] (As L7):=by trivial
def Hr:Ae ["net", "answers", "table", "beginning", "marks", "last", "then", "come_to", "longer", "mark", "kind", "number", "after"] ["net", "answers", "table", "beginning"] (As JJ):=by trivial
def Bq:Ak (As JJ) ["net", "answers", "table", "beginning", "marks", "last", "then", "come_to", "longer", "mark", "kind", "number", "after"] (SF [(".0",.local),("mark",.local)]) ["mark"] 1 []:=by trivial
def O8:Ae ["net", "answers", "table", "scope", "state", "found", "place"] ["net", "answers", "table", "scope", "state"] (As L8):=by trivial
def Uc:Ae ["table", "state", "label", "ends"] ["table", "state", "label"] (As L9):=by trivial
def Ls:Ae ["net", "table", "begun", "name", "ways", "marks", "last", "then", "index", "telling"] ["net", "table", "begun", "name"] (As Ma):=by trivial
def WF:Ae ["table"] ["table"] (As JK):=by trivial
def B6:Ak (As JK) ["table"] (SF [(".0",.local),("pair",.local)]) ["pair"] 1 []:=by trivial
def Lu:Ae ["ways", "tree", "number", "way", "branch", "mark"] ["ways"] (As Mb):=by trivial
def MK:Ae ["net", "mark", "scope", "kind", "index", "steps", "tellings"] ["net", "mark"] (As Mc):=by trivial
def Lv:Ae ["net", "better", "tree", "way", "numbers", "branch", "mark", "label", "beside"] ["net", "better", "tree", "way"] (As Md):=by trivial
def Ro:Ae ["net", "table", "ways", "better", "tree"] ["net", "table", "ways"] (As JL):=by trivial
def CJ:Ak (As JL) ["net", "table", "ways", "better", "tree"] (SF [ (".0",.local),("way",.local),("first_hider",.globalImplicit),("list",.globalImplicit),("better",.free),("net",.free),("tree",.free)]) ["way", "net", "better", "tree"] 1 [0,3,4]:=by trivial
def Ud:Ae ["net", "table", "begun", "name", "found"] ["net", "table", "begun", "name"] (As Me):=by trivial
def N4:Ae ["net", "table", "found", "owed", "better", "tree", "way", "question"] ["net", "table", "found", "owed"] (As Mf):=by trivial
def N5:Ae ["net", "mark", "scope", "kind", "index", "tellings"] ["net", "mark"] (As Mg):=by trivial
def ML:Ae ["net", "answers", "seen", "way", "label", "name", "kind", "number"] ["net", "answers", "seen"] (As Mh):=by trivial
def N6:Ae ["net", "answers", "way", "label", "name", "kind", "number"] ["net", "answers", "way"] (As Mi):=by trivial
def Lw:Ae ["net", "answers", "table", "owed", "look", "at", "begun", "found", "seen", "waiting", "way", "question", "meanings"] ["net", "answers", "table", "owed", "look", "at"] (As Hy):=by trivial
def FC:Ak (As Hy) ["net", "answers", "table", "owed", "look", "at", "begun", "found", "seen", "waiting", "way", "question", "meanings"] (SF [ (".0",.local),("way",.local),("meaning",.globalImplicit),("answers",.free),("net",.free)]) ["way", "net", "answers"] 1 [0,1]:=by trivial
def FD:Ak (As Hy) ["net", "answers", "table", "owed", "look", "at", "begun", "found", "seen", "waiting", "way", "question", "meanings"] (SF [(".0",.local),("thing",.local)]) ["thing"] 1 []:=by trivial
def FE:Ak (As Hy) ["net", "answers", "table", "owed", "look", "at", "begun", "found", "seen", "waiting", "way", "question", "meanings"] (SF [ (".0",.local),("thing",.local),("meanings",.free)]) ["thing", "meanings"] 1 [12]:=by trivial
def IM:Ae ["net", "answers", "table", "begun", "ways", "marks", "last", "then", "mark", "kind", "number", "after"] ["net", "answers", "table", "begun"] (As Mj):=by trivial
def Rp:Ae ["net", "answers", "thing", "kind", "number"] ["net", "answers", "thing"] (As Mk):=by trivial
def Fq:Ae ["net", "answers", "table", "asked", "scope", "state", "path", "looks", "things", "at", "name", "begun", "answer", "wait", "kind", "number"] ["net", "answers", "table", "asked"] (As Ml):=by trivial
def Lx:Ae ["net", "answers", "table", "due", "uses", "found", "question", "answer", "wait", "looks", "things"] ["net", "answers", "table", "due", "uses"] (As Mm):=by trivial
def Ue:Ae ["net", "answers", "table", "answered", "question"] ["net", "answers", "table", "answered"] (As Mn):=by trivial
def Gf:Ae ["net", "table", "known", "those", "answers", "turns", "uses", "due", "turn", "found", "question", "answer", "new"] ["net", "table", "known", "those"] (As Hz):=by trivial
def Cq:Ak (As Hz) ["net", "table", "known", "those", "answers", "turns", "uses", "due", "turn", "found", "question", "answer", "new"] (SF [ (".0",.local),("question",.local),("answer",.local),("those",.free)]) ["question", "answer", "those"] 2 [3]:=by trivial
def Dw:Ak (As Hz) ["net", "table", "known", "those", "answers", "turns", "uses", "due", "turn", "found", "question", "answer", "new"] (SF [ (".0",.local),("question",.local),("uses_one",.globalImplicit),("answers",.free),("new",.free),("uses",.free)]) ["question", "new", "answers", "uses"] 1 [12,4,6]:=by trivial
def Dx:Ak (As Hz) ["net", "table", "known", "those", "answers", "turns", "uses", "due", "turn", "found", "question", "answer", "new"] (SF [ (".0",.local),("question",.local),("answers",.free)]) ["question", "answers"] 1 [4]:=by trivial
def Uf:Ae ["net", "table", "many"] ["net", "table"] (As Mo):=by trivial
def N7:Ae ["net", "answers", "table", "question", "answer", "wait", "looks", "things"] ["net", "answers", "table", "question"] (As JM):=by trivial
def CA:Ak (As JM) ["net", "answers", "table", "question", "answer", "wait", "looks", "things"] (SF [ (".0",.local),("begun",.local),("found",.local),("seen",.local)]) ["begun", "found", "seen"] 3 []:=by trivial
def WG:Ae ["net", "answers", "table"] ["net", "answers", "table"] (As JN):=by trivial
def Cr:Ak (As JN) ["net", "answers", "table"] (SF [ (".0",.local),("question",.local),("trail",.globalImplicit),("answers",.free),("net",.free),("table",.free)]) ["question", "net", "answers", "table"] 1 [0,1,2]:=by trivial
def O9:Ae ["path", "trail_of_path", "mark", "name", "names", "at", "seen"] ["path", "trail_of_path", "mark", "name"] (As JO):=by trivial
def CK:Ak (As JO) ["path", "trail_of_path", "mark", "name", "names", "at", "seen"] (SF [ (".0",.local),("way",.local),("mark",.free)]) ["way", "mark"] 1 [2]:=by trivial
def WH:Ae ["parts", "most", "words"] ["parts", "most", "words"] (As Mp):=by trivial
def MM:Ae ["scopes", "things", "questions", "steps", "tellings", "scope", "state", "path"] ["scopes", "things", "questions"] (As JP):=by trivial
def FF:Ae ["scopes", "questions", "words", "steps", "tellings", "label", "kind", "number", "name", "scope", "state", "path"] ["scopes", "questions"] (As Mq):=by trivial
def N8:Ae ["scopes", "questions", "word", "scope", "state", "path"] ["scopes", "questions"] (As JQ):=by trivial
def WI:Ae ["kinds", "kind", "number"] ["kinds", "kind", "number"] (As Mr):=by trivial
def ET:Ae ["scopes", "things", "questions", "step_kinds", "telling_kinds", "thing_kinds", "steps", "tellings", "label", "kind", "number", "name", "scope", "state", "path"] ["scopes", "things", "questions"] (As JR):=by trivial
def WJ:Ae ["scopes", "things", "questions"] ["scopes", "things", "questions"] (As JS):=by trivial
def CW:Ak (As JS) ["scopes", "things", "questions"] (SF [ (".0",.local),("steps",.local),("tellings",.local),("list",.globalImplicit)]) ["steps", "tellings"] 2 []:=by trivial
def FG:Ae ["net", "trails", "scope", "index", "name", "scopes", "things", "questions", "steps", "tellings", "label", "old_name", "kind", "number", "told", "mark", "paths", "asked"] ["net", "trails", "scope", "index", "name"] (As IZ):=by trivial
def BD:Ak (As IZ) ["net", "trails", "scope", "index", "name", "scopes", "things", "questions", "steps", "tellings", "label", "old_name", "kind", "number", "told", "mark", "paths", "asked"] (SF [ (".0",.local),("question",.local),("seen",.local),("path_anew",.globalImplicit),("mark",.free),("name",.free)]) ["question", "seen", "mark", "name"] 2 [15,4]:=by trivial
def BE:Ak (As IZ) ["net", "trails", "scope", "index", "name", "scopes", "things", "questions", "steps", "tellings", "label", "old_name", "kind", "number", "told", "mark", "paths", "asked"] (SF [ (".0",.local),("question",.local),("path",.local)]) ["question", "path"] 2 []:=by trivial
def Ly:Ae ["net", "table", "scope", "index", "name", "answers", "trails", "new", "new_answers", "new_trails", "question"] ["net", "table", "scope", "index", "name"] (As Ms):=by trivial
def WK:Ae ["_law_told", "_law_due"] ["_law_told", "_law_due"] (As HA):=by trivial
def BF:Ak (As HA) ["_law_told", "_law_due"] (SF [ (".0",.local),("_law_one",.local),("_law_other",.local),("_law_alike",.globalImplicit)]) ["_law_one", "_law_other"] 2 []:=by trivial
def Ei:Ae ["_law_script", "_law_head", "_law_many", "_law_words_here", "_law_labels", "_law_table", "_law_off", "_law_two", "_law_last", "_law_scopes", "_law_cells", "_law_k", "_law_questions", "_law_cell", "_law_drawn", "_law_net", "_law_due", "_law_handed", "_law_made"] ["_law_script"] (As Gj):=by trivial
def FH:Ak (As Gj) ["_law_script", "_law_head", "_law_many", "_law_words_here", "_law_labels", "_law_table", "_law_off", "_law_two", "_law_last", "_law_scopes", "_law_cells", "_law_k", "_law_questions", "_law_cell", "_law_drawn", "_law_net", "_law_due", "_law_handed", "_law_made"] (SF [ (".0",.local),("_law_k",.local),("_law_labels",.free),("_law_many",.free)]) ["_law_k", "_law_labels", "_law_many"] 1 [4,2]:=by trivial
structure A0 (mg:Str->I'):Prop where
 b_all:mg "all" = none
 b_any:mg "any" = none
 b_bool:mg "bool" = none
 b_dict:mg "dict" = none
 b_enumerate:mg "enumerate" = none
 b_int:mg "int" = none
 b_isinstance:mg "isinstance" = none
 b_len:mg "len" = none
 b_list:mg "list" = none
 b_min:mg "min" = none
 b_range:mg "range" = none
 b_set:mg "set" = none
 b_sorted:mg "sorted" = none
 b_str:mg "str" = none
 b_tuple:mg "tuple" = none
 b_zip:mg "zip" = none
 c_LONGEST_NAME:∃t,mg "LONGEST_NAME" = some (.int 8 t)
 c_LONGEST_PATH:∃t,mg "LONGEST_PATH" = some (.int 6 t)
 c_MOST_BEGINNINGS:∃t,mg "MOST_BEGINNINGS" = some (.int 200 t)
 c_MOST_ENDS:∃t,mg "MOST_ENDS" = some (.int 8 t)
 c_MOST_GOES:∃t,mg "MOST_GOES" = some (.int 8 t)
 c_MOST_PAIRS:∃t,mg "MOST_PAIRS" = some (.int 40 t)
 c_MOST_QUESTIONS:∃t,mg "MOST_QUESTIONS" = some (.int 60 t)
 c_MOST_SCOPES:∃t,mg "MOST_SCOPES" = some (.int 40 t)
 c_MOST_STATES:∃t,mg "MOST_STATES" = some (.int 8 t)
 c_MOST_STEPS:∃t,mg "MOST_STEPS" = some (.int 8 t)
 c_MOST_TELLINGS:∃t,mg "MOST_TELLINGS" = some (.int 12 t)
 c_MOST_THINGS:∃t,mg "MOST_THINGS" = some (.int 80 t)
structure A1 (K:Ah) (mg:Str->I'):Prop where
variable {us:D'}
def Ha(h:us.length=1):∃a,us=[a]:=by
 cases us with|nil=>cases h|cons a t=>exact⟨a,by rw[List.length_eq_zero_iff.mp (Nat.succ.inj h)]⟩
def Lz(h:us.length=2):∃a b,us=[a,b]:=by
 cases us with|nil=>cases h|cons a t=>obtain⟨b,rfl⟩:=Ha (Nat.succ.inj h);exact⟨a,b,rfl⟩
def Pa(h:us.length=3):∃a b c,us=[a,b,c]:=by
 cases us with|nil=>cases h|cons a t=>obtain⟨b,c,rfl⟩:=Lz (Nat.succ.inj h);exact⟨a,b,c,rfl⟩
def Jt(h:us.length=4):∃a b c d,us=[a,b,c,d]:=by
 cases us with|nil=>cases h|cons a t=>obtain⟨b,c,d,rfl⟩:=Pa (Nat.succ.inj h);exact⟨a,b,c,d,rfl⟩
def Ju(h:us.length=5):∃a b c d e,us=[a,b,c,d,e]:=by
 cases us with|nil=>cases h|cons a t=>obtain⟨b,c,d,e,rfl⟩:=Jt (Nat.succ.inj h);exact⟨a,b,c,d,e,rfl⟩
def Jv(h:us.length=6):∃a b c d e f,us=[a,b,c,d,e,f]:=by
 cases us with|nil=>cases h|cons a t=>obtain⟨b,c,d,e,f,rfl⟩:=Ju (Nat.succ.inj h);exact⟨a,b,c,d,e,f,rfl⟩
open PySem PySem.Spec PyProof.Rows L2 in
def Bn{P:Program}{w:World}{K:Ah}{g:Str->I'}{l:Heap}{x e:Str}{st:Stmt}{f:Addr}{i:FuncData}{N ps:F'}{k:Nat}{sp:Sp}(F:AW K x e st f i)(m:g x=some (.ref f))(S:Ae N ps (As st))(u:∀vs H Q E,sp vs H Q E->vs.length=ps.length)
  (y:∀(d:Value)(A:Around)(z:List Env)(s:Shared)(H:Hp)(vs:R')(Q:VK)(E:XK),BK k (A.deeper (envOfC e (As st) s.heap.objs.size f d))->sp vs H Q E -> ∃t,Fi (Ay E8 P w K g l N e (As st) f d A z s H E).nox (A2 st) t/\t {nx:=λ_ n=>Q .non n,rt:=Q} (HP N vs) H)
  (o:∀(kV v p:Value)(q:Option Addr)(d ct:Value)(us:D'),us.length=ps.length->bindArgs (PySem.W.fnOf x e (A4 st) (A2 st) (As st) .none kV v p q d ct) ⟨us,[]⟩=pure (ps.zip us):=by intro _ _ _ _ _ _ us a;first|(obtain⟨_,rfl⟩:=Ha a;rfl)|(obtain⟨_,_,rfl⟩:=Lz a;rfl)|(obtain⟨_,_,_,rfl⟩:=Pa a;rfl)|(obtain⟨_,_,_,_,rfl⟩:=Jt a;rfl)|(obtain⟨_,_,_,_,_,rfl⟩:=Ju a;rfl)|(obtain⟨_,_,_,_,_,_,rfl⟩:=Jv a;rfl)):AU P w K g l x (k+1) ps sp:=⟨f,i,F.ok S u y,m,F.kp,F.binds o⟩
def N9(h:us.length=7):∃a b c d e f g,us=[a,b,c,d,e,f,g]:=by
 cases us with|nil=>cases h|cons a t=>obtain⟨b,c,d,e,f,g,rfl⟩:=Jv (Nat.succ.inj h);exact⟨a,b,c,d,e,f,g,rfl⟩
def Ug(h:us.length=8):∃a b c d e f g i,us=[a,b,c,d,e,f,g,i]:=by
 cases us with|nil=>cases h|cons a t=>obtain⟨b,c,d,e,f,g,i,rfl⟩:=N9 (Nat.succ.inj h);exact⟨a,b,c,d,e,f,g,i,rfl⟩
section
set_option maxHeartbeats 4000000
seal L2.PE L2.PA L2.PS L2.Fi L2.PT L2.PW L2.PC L2.PG L2.MY L2.PI L2.PF L2.HI L2.CC L2.Ot L2.A8 L2.FZ L2.Hj L2.Ow L2.PO
variable {P:Program} {w:World} {K:Ah} {mg:Str->I'} {base:Heap} {f:Addr} {fd:FuncData}
def WL{ns:C'}{k:Int}(b:0<=k)(c:k<ns.length):Fv (ns.map V.int) k=some (V.int (KE ns k)):=by obtain⟨n,rfl⟩:=PP b;have a:n<ns.length:=(by lia);refine Ck ?_;rw[AV,AQ a];show some (V.int ns[n])=some (V.int ((ns[((n:Int)).toNat]?).getD 0));rw[Ex,AQ a];rfl
def WM{ns:C'}{k:Int}(a:0<=k)(b:¬k<ns.length):KE ns k=0:=by unfold KE;rw[Gg (by lia)];rfl
def WN (K:Ah):Sp:=λvs H Q _=>∃a ns k,vs=[.ref a,.int k]/\0<=k/\Ad K H a (ns.map V.int)/\Q (.int (KE ns k)) H
abbrev Pb(P w K mg base):=AU P w K mg base "_law_cell_at" 1 ["_law_script", "_law_k"] (WN K)
theorem WO(B:A0 mg)(l:A1 K mg)(F:AW K "_law_cell_at" "_law_cell_at" LN f fd)(i:mg "_law_cell_at" = some (.ref f)):Pb P w K mg base:=by
 refine Bn F i Wv (λj H Q E h=>?_) (λn A o s H j Q E m h=>?_);obtain⟨a,d,k,rfl,_⟩:=h;rfl;obtain⟨a,d,k,rfl,e,g,q⟩:=h
 refine⟨_,(Ai (Bi (Cc Mv (pv 1) (Bh CH B.b_len (Ab (pv 0) Af)) (BY _)) (Ao (Ba (AF AG (pv 0) (pv 1)))) Bj)
  (Ao (Ba At))),?_⟩
 rfl';refine⟨_,rfl,_,rfl,_,_,rfl,r4 ⟨_,g,rfl⟩,_,_,rfl,rfl,_,rfl,?_⟩;rw[Al];refine CS (λb=>?_) (λc=>?_);have b:=FL b;exact⟨_,rfl,_,rfl,r4 ⟨_,_,_,_,rfl,rfl,g,WL e b,q⟩⟩;have c:¬k<(d.length:Int):=λz=>c (Ca z);show Q (.int 0) H;rw[WM e c] at q;exact q
inductive DX (K:Ah) (vs:R') (H:Hp) (Q:VK):Prop where
 |mk (c p:Int) (h0:vs=[.int c,.int p]) (h1:0<p) (h2:p<=2147483647) (h3:∀n:Int,0<=n->n<p->Q (.int n) H):DX K vs H Q
def WP (K:Ah):Sp:=λvs H Q _=>DX K vs H Q
abbrev Oa(P w K mg base):=AU P w K mg base "_law_mix" 1 ["_law_cell", "_law_prime"] (WP K)
def WQ(B:A0 mg)(j:A1 K mg)(F:AW K "_law_mix" "_law_mix" LO f fd)(b:mg "_law_mix" = some (.ref f)):Oa P w K mg base:=by
 refine Bn F b T9 (λd H Q E h=>?_) (λm A o s H d Q E k h=>?_);obtain⟨c,p,rfl,_⟩:=h;rfl;obtain⟨c,p,rfl,a,l,q⟩:=h
 refine⟨_,(Ai (AM (i:=2) T9.nd (A9 EB (pv 0) (pv 1)))
  (Ao (Ba (A9 EB (A9 Fj (A9 Fj (A9 Kg (pv 2) (pv 2)) (A9 Kg At (pv 2))) At) (pv 1))))),?_⟩
 rfl';refine⟨_,rfl,_,rfl,_,_,rfl,rfl,(by show(0:Int)<p;exact a),?_⟩;refine Ap ?_;cbv;have e:=Hg c (show p≠0 by lia);have g:=Hf c a;generalize c%p=n at e g ⊢;refine⟨_,rfl,_,rfl,_,_,rfl,rfl,r4 ⟨by lia,by lia⟩,_,rfl,_,_,rfl,rfl,r4 ⟨by decide,by decide⟩,_,_,rfl,rfl,_,_,rfl,rfl,_,rfl,_,_,rfl,rfl,(by show(0:Int)<p;exact a),?_⟩;exact q _ (Hg _ (show p≠0 by lia)) (Hf _ a)
def Pc(w:Str)(c:Nat):(w++(⟨#[c]⟩:Str)).length=w.length+1:=by
 show(w.cps++#[c]).size=w.cps.size+1;simp
def LA:∀n,n<26->(r0).cps.toList[n]?=some (97+n):=by decide +kernel
def IP(n:Int):Fv (r0).cps.toList (n%26)=some (97+(n%26).toNat):=by have a:=Hg n (by decide:(26:Int)≠0);have c:=Hf n (by decide:(0:Int)<26);obtain⟨k,b⟩:=PP a;rw[b,Ex];exact Ck (LA k (by lia))
def Uh(w:Str)(c:Nat):(w++(⟨#[c]⟩:Str)).cps.toList=w.cps.toList++[c]:=by
 show(w.cps++#[c]).toList=_;simp
abbrev LB (n:Int):Str:=⟨#[97+(n%26).toNat]⟩
def Hs (f:Nat->Int) (a:Nat) (b:Int) (k j:Nat):Int:=if j=a then f j+(k:Int)*b else f j
def Fe (f:Nat->Int) (a:Nat) (b:Int) (k:Nat):Nat->Str
 |0 => ""
 |j+1=>Fe f a b k j++LB (Hs f a b k j)
theorem LC(f:Nat->Int)(a:Nat)(b:Int)(k:Nat):∀j,(Fe f a b k j).length=j
 |0=>show("":Str).length=0 by decide +kernel
 |j+1=>by show(Fe f a b k j++LB (Hs f a b k j)).length=j+1;rw[Pc,LC f a b k j]
theorem Pd(f:Nat->Int)(a:Nat)(b:Int)(k:Nat){i:Nat}:∀{j:Nat},i<j->(Fe f a b k j).cps.toList[i]?=some (97+(Hs f a b k i%26).toNat)
 |0,h=>absurd h (Nat.not_lt_zero _)
 |j+1,h=>by
   show(Fe f a b k j++LB (Hs f a b k j)).cps.toList[i]?=_;rw[Uh];have c:(Fe f a b k j).cps.toList.length=j:=by rw[Array.length_toList];exact LC f a b k j
   by_cases d:i<j;rw[DH (by rw[c];exact d)];exact Pd f a b k d;have e:i=j:=(by lia);subst e;rw[DJ (by rw[c];exact AB _),c,Nat.sub_self];rfl
def IQ(f:Nat->Int)(a:Nat)(b:Int)(k:Nat){j:Nat}(g:1<=j)(h:j<=8):BA (Fe f a b k j):=by
 refine⟨by rw[LC];exact g,by rw[LC];exact h,λc l=>?_⟩;obtain⟨i,m,e⟩:=MN.mp l;have n:(Fe f a b k j).cps.toList.length=j:=by rw[Array.length_toList];exact LC f a b k j
 have d:=Pd f a b k (i:=i) (j:=j) (by lia);rw[AQ m,e] at d;have o:=Ce d;have p:=Hg (Hs f a b k i) (by decide:(26:Int)≠0);have q:=Hf (Hs f a b k i) (by decide:(0:Int)<26);lia
def LD{f:Nat->Int}{a:Nat}{b:Int}{j k:Nat}(d:a<j)(g:1<=b)(l:b<=4)(m:k<6)(n:i<6)(o:k≠i):Fe f a b k j≠Fe f a b i j:=λh=>by have e:=Pd f a b k d;rw[h,Pd f a b i d] at e;have c:=Ce e;unfold Hs at c;rw[AC rfl,AC rfl] at c;generalize f a=z at c;have:b=1\/b=2\/b=3\/b=4:=(by lia);rcases this with rfl|rfl|rfl|rfl<;>lia
def Ob{w:Str}(h:BA w)(b:w.length<8):BA (w++j'):=by have e:j'=⟨#[98]⟩:=(by decide +kernel);rw[e];refine⟨by rw[Pc];exact Nat.succ_le_succ (B8 _),by rw[Pc];exact b,λc a=>?_⟩;rw[Uh] at a;rcases EJ.mp a with a|a;exact h.2.2 c a;rw[D7.mp a];exact⟨by decide,by decide⟩
inductive C5 (K:Ah) (vs:R') (H:Hp) (Q:VK):Prop where
 |mk (c:Int) (m:Nat) (h0:vs=[.int c,.int (m:Int)]) (h1:2<=m) (h2:m<=6) (h3:∀(L:Addr)(ws:F')(H':Hp),H L=none->Ac H H'->H' L=some (.lst (ws.map V.str))->ws.length=m->(∀x∈ws,BA x)->ws.Nodup->Q (.ref L) H'):C5 K vs H Q
def WR (K:Ah):Sp:=λvs H Q _=>C5 K vs H Q
abbrev Pe(P w K mg base):=AU P w K mg base "_law_words" 2 ["_law_cell", "_law_many"] (WR K)
theorem WS (B:A0 mg) (ER:A1 K mg) (aa:Oa P w K mg base) (F:AW K "_law_words" "_law_words" LP f fd) (Z:mg "_law_words" = some (.ref f)):Pe P w K mg base:=by
 refine Bn F Z FW (λvs H Q E h=>?_) (λao al au an H vs Q E hr h=>?_);obtain⟨c,m,rfl,_⟩:=h;rfl
 . obtain⟨c,m,rfl,m2,m6,q⟩:=h
   refine⟨_,(Ai (AM (i:=2) FW.nd B0)
    (Ai (AM (i:=3) FW.nd (AK aa (Ab (pv 0) (Ab At Af))))
    (Ai (AM (i:=4) FW.nd (A9 Fj At (A9 EB (pv 3) At)))
    (Ai (AM (i:=5) FW.nd (A9 EB (A9 Gp (pv 3) At) (pv 4)))
    (Ai (AM (i:=6) FW.nd (A9 Fj At (A9 EB (A9 Gp (pv 3) At) At)))
    (Ai (AM (i:=7) FW.nd (Ch Af))
    (Ai (Bt Bl rfl (Jd rfl B.b_range (Ab (pv 1) Af)) (An (i:=8) FW.nd) (Ai (AM (i:=9) FW.nd B0)
     (Ai (Bt Bl rfl (Jd rfl B.b_range (Ab (pv 4) Af)) (An (i:=10) FW.nd) (Ai (AM (i:=11) FW.nd (A9 Fj (A9 Gp (pv 3) At) (A9 Gp (pv 3) (A9 Fj At (A9 Kg (A9 Kg At (pv 10)) (pv 10))))))
      (Ai (Bi (Cc DE (pv 10) (pv 5) (BY _)) (Ao (AM (i:=11) FW.nd (A9 Fj (pv 11) (A9 Kg (pv 8) (pv 6))))) Bj)
      (Ao (AM (i:=9) FW.nd (A9 Sq (pv 9) (AF AG (pv 2) (A9 EB (pv 11) At))))))))
     (Ao (BN (Do DC Ej Ek Em (pv 7) (Ab (pv 9) Af)))))))
    (Ai (Bi (PW.pt (HH (Cc DE (A9 EB (A9 Gp (pv 3) At) At) At (BY _)) (HG (Cc Mv (pv 4) At (BY _))))) (Ao (Dm (A9 Sq (AF AG (pv 7) At) B0) (HJ (pv 7) At Jh))) Bj)
    (Ao (Ba (pv 7))))))))))),?_⟩
   rfl';refine OF ?_;cbv;refine⟨_,rfl,c,_,rfl,by decide,by decide,λn n0 T=>?_⟩;refine Ap ?_;cbv;refine⟨_,rfl,_,_,rfl,rfl,(by show(0:Int)<8;decide),_,_,rfl,rfl,?_⟩;refine Ap ?_;cbv;have z0:1<=1+n%8/\1+n%8<=8:=(by lia);obtain⟨sz,ab⟩:∃sz:Nat,1+n%8=(sz:Int):=⟨(1+n%8).toNat,by lia⟩;rw[ab] at z0 ⊢;refine⟨_,rfl,_,_,rfl,rfl,⟨by decide,by decide⟩,_,rfl,_,_,rfl,rfl,(by show(0:Int)<(sz:Int);lia),?_⟩;refine Ap ?_;cbv;have a0:=Hg (n/8) (show(sz:Int)≠0 by lia);have a1:=Hf (n/8) (show(0:Int)<(sz:Int) by lia);obtain⟨a,ea⟩:=PP a0;rw[ea] at a1 ⊢;refine⟨_,rfl,_,_,rfl,rfl,⟨by decide,by decide⟩,_,_,rfl,rfl,(by show(0:Int)<4;decide),_,_,rfl,rfl,?_⟩;refine Ap ?_;cbv;have S:1<=1+n/64%4/\1+n/64%4<=4:=(by lia);generalize 1+n/64%4=b at S ⊢;refine⟨by decide,λL I=>?_⟩;obtain⟨H1,ae,s1,af⟩:=new_at (o:=.lst []) I;rw[<-ae];refine Ap ?_;cbv;obtain⟨f,ef⟩:∃f:Nat->Int,∀j:Nat,f j=n/512+n/(512+7*(0+(j:Int))*(0+(j:Int))):=⟨λj=>n/512+n/(512+7*(0+(j:Int))*(0+(j:Int))),λ_=>rfl⟩;refine⟨_,rfl,_,rfl,by lia,by lia,Mu (lo:=0) (n:=m) (λi σ p=>∃J M u v,σ=[some (.int c),some (.int (m:Int)),some (.str "abcdefghijklmnopqrstuvwxyz"),some (.int n),some (.int (sz:Int)),some (.int (a:Int)),some (.int b),some (.ref L),J,M,u,v]/\Ac H p/\p L=some (.lst (((List.range i).map λk=>Fe f a b k sz).map V.str))) ⟨none,none,none,none,rfl,s1,af⟩ ?_ ?_⟩;rotate_left
   . rintro σ U ⟨J,M,u,v,rfl,C,l⟩
     cbv;obtain⟨d,G⟩:∃d,d=(List.range m).map λk=>Fe f a b k sz:=⟨_,rfl⟩;have s:d.length=m:=(by rw[G,Al,r9])
     have y:∀x∈d,BA x/\x.length=sz:=λx g=>by
      rw[G] at g;obtain⟨k,_,rfl⟩:=Bo.mp g;exact⟨IQ f a b k (j:=sz) (by lia) (by lia),LC f a b k sz⟩
     have D:d.Nodup:=(by rw[G];refine List.pairwise_map.mpr (List.Pairwise.imp_of_mem (λ{k i}hk W ag=>?_) List.nodup_range);exact LD (f:=f) (a:=a) (b:=b) (j:=sz) (by lia) S.1 S.2 (by have:=List.mem_range.mp hk;lia) (by have:=List.mem_range.mp W;lia) ag);rw[<-G] at l;clear G;refine MB (λσ' p=>∃d:F',σ'=[some (.int c),some (.int (m:Int)),some (.str "abcdefghijklmnopqrstuvwxyz"),some (.int n),some (.int (sz:Int)),some (.int (a:Int)),some (.int b),some (.ref L),J,M,u,v]/\Ac H p/\p L=some (.lst (d.map V.str))/\d.length=m/\(∀x∈d,BA x)/\d.Nodup) ?_ (λN A=>?_)
     case refine_2 =>
      refine⟨_,rfl,_,_,rfl,rfl,⟨by decide,by decide⟩,_,_,rfl,rfl,(by show(0:Int)<3;decide),rfl,_,rfl,CS (λh1=>?_) (λh1=>Ar (A _ _ ⟨d,rfl,C,l,s,λx g=>(y x g).1,D⟩))⟩;refine⟨_,rfl,_,_,rfl,rfl,_,rfl,CS (λX=>?_) (λX=>A _ _ ⟨d,rfl,C,l,s,λx g=>(y x g).1,D⟩)⟩;have aq:(sz:Int)<8:=FL X
      match d,s,y,D,l with
      |[],s,_,_,_=>exact absurd s (by show ¬0=m;lia)
      |[_],s,_,_,_=>exact absurd s (by show ¬1=m;lia)
      |t::w1::r,s,y,D,l=>
       have R:=y t (by simp);refine⟨_,rfl,r4 ⟨L,_,_,.str t,rfl,rfl,Ad.of l,Ck (j:=0) rfl,_,_,rfl,rfl,?_,_,rfl,L,_,_,1,rfl,rfl,l,Jm (by decide) (by rw[Al,EU,EU];lia),?_⟩⟩;exact Dk (Bz (by rw[R.2];show sz+j'.length<=1000;rw[show j'.length=1 by decide +kernel];lia));have lb:(t++j').length=sz+1:=(by rw[show j'=⟨#[98]⟩ by decide +kernel,Pc,R.2])
       have Y:∀x∈t::w1::r,x≠t++j':=λx g z=>by
        have:=(y x g).2;rw[z,lb] at this;lia
       refine A _ _ ⟨t::(t++j')::r,rfl,λb o e=>?_,by rw[Aa];rfl,s,λx g=>?_,?_⟩;rw[Ax (AN e I)];exact C _ _ e;rcases Cj.mp g with rfl|g;exact R.1;rcases Cj.mp g with rfl|g;exact Ob R.1 (by lia);exact(y x (DL _ (DL _ g))).1;obtain⟨T,n2⟩:=DN.mp D;obtain⟨n3,n4⟩:=DN.mp n2;refine DN.mpr ⟨λz=>?_,DN.mpr ⟨λz=>Y _ (DL _ (DL _ z)) rfl,n4⟩⟩;rcases Cj.mp z with z|z;exact Y t (by simp) z;exact T (DL _ z)
     rintro σ' O ⟨d,rfl,s3,ah,l3,ai,aj⟩;exact⟨_,rfl,q L d O I s3 ah l3 ai aj⟩
   rintro i σ U W ⟨J,M,u,v,rfl,C,l⟩;refine Ap ?_;cbv;refine OF ?_;cbv;refine⟨_,rfl,_,rfl,by lia,by lia,Mu (lo:=0) (n:=sz) (λj σ p=>∃(u v:S'),σ=[some (.int c),some (.int (m:Int)),some (.str "abcdefghijklmnopqrstuvwxyz"),some (.int n),some (.int (sz:Int)),some (.int (a:Int)),some (.int b),some (.ref L),some (.int (0+(i:Int))),some (.str (Fe f a b i j)),u,v]/\p=U) ⟨_,_,rfl,rfl⟩ ?_ ?_⟩;rotate_left;rintro σ O ⟨u,v,rfl,rfl⟩;refine⟨_,rfl,r4 ⟨rfl,_,Ad.of l⟩,_,rfl,L,_,_,rfl,rfl,l,by rw[Al,Al,r9];exact Bz (by lia),?_⟩;refine⟨_,_,_,_,rfl,λb o e=>?_,?_⟩;rw[Ax (AN e I)];exact C _ _ e;rw[Aa,List.range_succ,By,By];rfl;rintro j σ O hj ⟨u,v,rfl,rfl⟩;refine Ap ?_;cbv;have ak:j<8:=(by lia);have ar:0<=7*(0+(j:Int))*(0+(j:Int))/\7*(0+(j:Int))*(0+(j:Int))<=400:=(by have:∀j:Nat,j<8->0<=7*(0+(j:Int))*(0+(j:Int))/\7*(0+(j:Int))*(0+(j:Int))<=400:=(by decide);exact this j ak);refine⟨_,rfl,_,_,rfl,rfl,⟨by decide,by decide⟩,_,rfl,_,rfl,_,_,rfl,rfl,r4 ⟨by decide,by decide⟩,_,rfl,_,_,rfl,rfl,r6 ⟨by lia,by lia⟩,_,_,rfl,rfl,_,_,rfl,rfl,⟨by lia,by lia⟩,_,_,rfl,rfl,?_⟩;refine Ap ?_;cbv;rw[<-ef j];refine MB (λσ' p=>σ'=[some (.int c),some (.int (m:Int)),some (.str "abcdefghijklmnopqrstuvwxyz"),some (.int n),some (.int (sz:Int)),some (.int (a:Int)),some (.int b),some (.ref L),some (.int (0+(i:Int))),some (.str (Fe f a b i j)),some (.int (0+(j:Int))),some (.int (Hs f a b i j))]/\p=O) ?_ (λN A=>?_)
   case refine_2 =>
    refine⟨_,rfl,_,rfl,rfl,_,rfl,CS (λh=>?_) (λh=>?_)⟩;have e:j=a:=by have:=V.int.inj (FL h);lia
    refine⟨_,rfl,_,rfl,_,rfl,_,_,rfl,rfl,r4 ⟨by lia,by lia⟩,_,_,rfl,rfl,?_⟩;refine A _ _ ⟨?_,rfl⟩;unfold Hs;rw[AC e,Int.zero_add (i:Int)];rfl;have e:j≠a:=λz=>h (Ca (by rw[z,Int.zero_add]));refine A _ _ ⟨?_,rfl⟩;unfold Hs;rw[AA e];rfl
   rintro σ' H4 ⟨rfl,rfl⟩;refine⟨_,rfl,_,rfl,_,rfl,_,_,rfl,rfl,(by show(0:Int)<26;decide),r6 (r6 ⟨_,_,_,rfl,rfl,by decide +kernel,IP _,Fe f a b i j,_,rfl,rfl,?_,?_⟩)⟩;show(Fe f a b i j).length+1<=sizeLine;rw[LC];exact Dk (Bz (by lia));exact⟨_,_,rfl,rfl⟩
inductive Br (K:Ah) (vs:R') (H:Hp) (Q:VK):Prop where
 |mk (a p:Addr) (l0 l1:Str) (h0:vs=[.ref a,.ref p]) (h1:EE H a l0 l1) (h2:Ef H p l1 l0) (h3:Q .non H):Br K vs H Q
def Pf (K:Ah):Sp:=λvs H Q _=>Br K vs H Q
theorem WT(B:A0 mg)(r:A1 K mg)(F:AW K "refuse_too_great" "refuse_too_great" JB f fd):Cm P w K mg base E8 1 f fd ["states", "pairs"] (Pf K):=by
 refine F.ok Rl (λc H Q E h=>?_) (λz A C s H c Q E t h=>?_);obtain⟨a,p,d,j,rfl,_⟩:=h;rfl;obtain⟨a,p,d,j,rfl,⟨u,g,e,gt,b,k,l,x,m⟩,⟨y,o,_⟩,q⟩:=h
 refine⟨_,(Ai (Bi (Cc Mw (Bh CH B.b_len (Ab (pv 0) Af)) (FY (v:=.int 8) rfl (Classical.choose_spec B.c_MOST_STATES) ⟨_,rfl⟩) (BY _)) (Ao Cg) Bj)
  (Ai (Bt Bl rfl (Bm (pv 0)) (Bf (n:=2) rfl (Av (An (i:=2) Rl.nd) (Av (An (i:=3) Rl.nd) Be))) (Ai (Bi (Cc Mw (Bh CH B.b_len (Ab (pv 2) Af)) (FY (v:=.int 8) rfl (Classical.choose_spec B.c_MOST_GOES) ⟨_,rfl⟩) (BY _)) (Ao Cg) Bj)
   (Ao (Bi (Cc Mw (Bh CH B.b_len (Ab (pv 3) Af)) (FY (v:=.int 8) rfl (Classical.choose_spec B.c_MOST_ENDS) ⟨_,rfl⟩) (BY _)) (Ao Cg) Bj))))
  (Ao (Bi (Cc Mw (Bh CH B.b_len (Ab (pv 1) Af)) (FY (v:=.int 40) rfl (Classical.choose_spec B.c_MOST_PAIRS) ⟨_,rfl⟩) (BY _)) (Ao Cg) Bj)))),?_⟩
 rfl';refine⟨_,rfl,_,_,rfl,r4 ⟨_,Ad.of b,rfl⟩,_,_,rfl,rfl,_,rfl,Ar ?_⟩;refine⟨_,rfl,a,rfl,⟨_,Ad.of b⟩,FT (Ad.of b) ?_⟩;refine⟨u,_,rfl,Am.of k,rfl,_,_,rfl,_,_,rfl,rfl,?_⟩;refine⟨_,rfl,_,_,rfl,r4 ⟨_,Ad.of l,rfl⟩,_,_,rfl,rfl,_,rfl,Ar ?_⟩;refine⟨_,rfl,_,_,rfl,r4 ⟨_,Ad.of m,rfl⟩,_,_,rfl,rfl,_,rfl,Ar ⟨Ad.of b,?_⟩⟩;exact⟨_,rfl,_,_,rfl,r4 ⟨_,Ad.of o,rfl⟩,_,_,rfl,rfl,_,rfl,Ar q⟩
def WU(B:A0 mg)(a:A1 K mg)(F:AW K "refuse_too_great" "refuse_too_great" JB f fd)(b:mg "refuse_too_great_tables" = some (.ref f)):AU P w K mg base "refuse_too_great_tables" 1 ["states", "pairs"] (Pf K):=
 ⟨f,fd,WT B a F,b,F.kp,F.binds λ_ _ _ _ _ _ us c=>(by obtain⟨d,e,rfl⟩:=Lz c;rfl)⟩
inductive Dy (K:Ah) (vs:R') (H:Hp) (Q:VK):Prop where
 |mk (g gt:Addr) (l:Str) (h0:vs=[.ref g]) (h1:H g=some (.lst [.ref gt])) (h2:H gt=some (.tup [.str l,.int 0])) (h3:∀(p:Addr)(H':Hp),H p=none->Ac H H'->H' p=some (.lst [.str l])->Q (.ref p) H'):Dy K vs H Q
def WV (K:Ah):Sp:=λvs H Q _=>Dy K vs H Q
abbrev Pg(P w K mg base):=AU P w K mg base "labels_of" 1 ["goes"] (WV K)
def WW(B:A0 mg)(p:A1 K mg)(F:AW K "labels_of" "labels_of" JC f fd)(e:mg "labels_of" = some (.ref f)):Pg P w K mg base:=by refine Bn F e Ww (λj H Q E h=>?_) (λt A u s H j Q E r h=>?_);obtain⟨g,gt,l,rfl,_⟩:=h;rfl;obtain⟨g,gt,l,rfl,a,m,q⟩:=h;refine⟨_,(Ao (Ba (EQ (g:=DP K 2 (D8 (Dl 0) (D8 (Dl 1) DO))) rfl BV (Bm (pv 0)) (λ_ _ _ _ _=>(Bf (n:=2) rfl (Av (An (i:=0) BV.nd) (Av (An (i:=1) BV.nd) Be)))) (λ_ _ _ _ _=>EC) (λ_ _ _ _ _=>(pv 0))))),?_⟩;rfl';refine⟨_,rfl,g,rfl,⟨_,Ad.of a⟩,QR (Ad.of a) λD R b k=>?_⟩;have c:=A3 (o:=.lst []) b;have d:=Fy (o:=.lst [.str l]) c b;exact⟨gt,_,rfl,Am.of (c _ _ m),rfl,_,_,rfl,_,_,rfl,rfl,_,rfl,k _ _ Aa (Ad.of (d _ _ a)) (q D _ b d Aa)⟩
inductive CL (K:Ah) (vs:R') (H:Hp) (Q:VK):Prop where
 |mk (a p:Addr) (l0 l1:Str) (h0:vs=[.ref a,.ref p]) (h1:EE H a l0 l1) (h2:Ef H p l1 l0) (h3:∀(l:Addr)(H':Hp),H l=none->Ac H H'->H' l=some (.lst [.str l0,.str l1,.str l1,.str l0])->Q (.ref l) H'):CL K vs H Q
def WX (K:Ah):Sp:=λvs H Q _=>CL K vs H Q
abbrev Ph(P w K mg base):=AU P w K mg base "labels_told" 2 ["states", "pairs"] (WX K)
def WY(B:A0 mg)(U:A1 K mg)(R:Pg P w K mg base)(F:AW K "labels_told" "labels_told" LQ f fd)(y:mg "labels_told" = some (.ref f)):Ph P w K mg base:=by
 refine Bn F y MJ (λC H Q E h=>?_) (λZ A aa s H C Q E V h=>?_);obtain⟨a,p,b,c,rfl,_⟩:=h;rfl;obtain⟨a,p,b,c,rfl,⟨u,g,e,gt,l,G,I,J,L⟩,⟨M,m,S⟩,q⟩:=h
 refine⟨_,(Ai (AM (i:=2) MJ.nd (Ch Af))
  (Ai (Bt Bl rfl (Bm (pv 0)) (Bf (n:=2) rfl (Av (An (i:=3) MJ.nd) (Av (An (i:=4) MJ.nd) Be))) (Ai (BN (Do DC PySem.F.slot_list_extend PySem.F.type_list_extend QK (pv 2) (Ab (AK R (Ab (pv 3) Af)) Af)))
   (Ao (BN (Do DC PySem.F.slot_list_extend PySem.F.type_list_extend QK (pv 2) (Ab (pv 4) Af))))))
  (Ai (Bt Bl rfl (Bm (pv 1)) (Bf (n:=2) rfl (Av (An (i:=5) MJ.nd) (Av (An (i:=6) MJ.nd) Be))) (Ai (BN (Do DC Ej Ek Em (pv 2) (Ab (pv 5) Af)))
   (Ao (BN (Do DC Ej Ek Em (pv 2) (Ab (pv 6) Af))))))
  (Ao (Ba (pv 2)))))),?_⟩
 rfl';refine⟨by decide,λD d=>?_⟩;obtain⟨W,T,j,r⟩:=new_at (o:=.lst []) d;rw[<-T];refine⟨_,rfl,a,rfl,⟨_,Ad.of (j _ _ l)⟩,FT (Ad.of (j _ _ l)) ?_⟩;refine⟨u,_,rfl,Am.of (j _ _ G),rfl,_,_,rfl,_,_,rfl,rfl,?_⟩;refine⟨_,rfl,r4 ⟨rfl,_,Ad.of r⟩,_,rfl,g,gt,b,rfl,j _ _ I,j _ _ J,λz X Y t N=>?_⟩;refine⟨D,z,_,_,rfl,rfl,t _ _ r,N,by show 1<=sizeLine;decide,?_⟩;have v:=Fy (o:=.lst [.str b]) (j.trans t) d;refine⟨_,rfl,r4 ⟨rfl,_,Ad.of Aa⟩,_,rfl,D,e,_,_,rfl,rfl,Aa,v _ _ L,by show 2<=sizeLine;decide,?_⟩;have k:=Fy (o:=.lst [.str b,.str c]) v d;refine⟨Ad.of (k _ _ l),?_⟩;refine⟨_,rfl,p,rfl,⟨_,Ad.of (k _ _ m)⟩,FT (Ad.of (k _ _ m)) ?_⟩;refine⟨M,_,rfl,Am.of (k _ _ S),rfl,_,_,rfl,_,_,rfl,rfl,?_⟩;refine⟨_,rfl,r4 ⟨rfl,_,Ad.of Aa⟩,_,rfl,D,_,_,rfl,rfl,Aa,Bz (by show 2<=1000;decide),?_⟩;have O:=Fy (o:=.lst [.str b,.str c,.str c]) k d;refine⟨_,rfl,r4 ⟨rfl,_,Ad.of Aa⟩,_,rfl,D,_,_,rfl,rfl,Aa,Bz (by show 3<=1000;decide),?_⟩;have x:=Fy (o:=.lst [.str b,.str c,.str c,.str b]) O d;exact⟨Ad.of (x _ _ m),_,rfl,q D _ d x Aa⟩
def LF(c:Nat):(!decide ((⟨#[c]⟩:Str).cps.toList<l'.cps.toList))=decide (97<=c):=by show(!decide (([c]:M')<l'.cps.toList))=_;have e:l'.cps.toList=[97]:=(by decide +kernel);rw[e,S9];by_cases h:c<97;rw[Ca h,BM (by lia)];rfl;rw[BM h,Ca (by lia)];rfl
def LG(c:Nat):(!decide (("z":Str).cps.toList<(⟨#[c]⟩:Str).cps.toList))=decide (c<=122):=by show(!decide (("z":Str).cps.toList<([c]:M')))=_;have e:("z":Str).cps.toList=[122]:=(by decide +kernel);rw[e,S9];by_cases h:122<c;rw[Ca h,BM (by lia)];rfl;rw[BM h,Ca (by lia)];rfl
def WZ (K:Ah):Sp:=λvs H Q _=>∃v,vs=[v] /\
 ((∃x,v=.str x/\x.length<=1000/\∀H',Ac H H'->Q (.bl (Fm x)) H')\/∃T,Hm K H v T/\T≠.str/\Q (.bl false) H)
abbrev LH(P w K mg base):=AU P w K mg base "is_name" 1 ["thing"] (WZ K)
theorem W0(B:A0 mg)(C:A1 K mg)(F:AW K "is_name" "is_name" JD f fd)(o:mg "is_name" = some (.ref f)):LH P w K mg base:=by
 refine Bn F o Wx (λp H Q E h=>?_) (λJ A L s H p Q E G h=>?_);obtain⟨v,rfl,_⟩:=h;rfl;obtain⟨v,rfl,h⟩:=h
 refine⟨_,(Ai (Bi (PW.pt (Ja (E6 (Dq (Bh Ga B.b_isinstance (Ab (pv 0) (Ab (Gb "str" rfl B.b_str (by decide +kernel)) Af))))) (Mt (E6 (UM Gr Gr At (Bh CH B.b_len (Ab (pv 0) Af)) (FY (v:=.int 8) rfl (Classical.choose_spec B.c_LONGEST_NAME) ⟨_,rfl⟩)))))) (Ao (Ba MR)) Bj)
  (Ao (Ba (Bh (OA rfl) B.b_all (Ab (EQ rfl Dv (KD (pv 0)) (λ_ _ _ _ _=>(An (i:=0) Dv.nd)) (λ_ _ _ _ _=>EC) (λ_ _ _ _ _=>(Sm GI GI B0 (pv 0) B0))) Af))))),?_⟩
 rfl';rcases h with⟨x,rfl,r,q⟩|⟨T,ty,t,q⟩;have m:x.length<=sizeLine:=Dk (Bz r);refine⟨_,rfl,_,.str,.str,rfl,.str x,_,rfl,Ar ?_⟩;refine⟨_,rfl,_,_,rfl,⟨m,rfl⟩,_,_,rfl,rfl,_,rfl,?_⟩;refine CS (λg=>?_) (λg=>?_);have g:1<=x.length:=by have:=FL g;lia
 refine⟨_,_,rfl,rfl,_,rfl,?_⟩;refine CS (λd=>?_) (λd=>?_)
 have d:¬x.length<=8:=λz=>by
  rw[Ca (show((x.length:Nat):Int)<=8 by lia)] at d;cases d
 have e:Fm x=false:=by unfold Fm;rw[BM d];simp
 have:=q H (Ac.refl _);rw[e] at this;exact this;have d:x.length<=8:=(by refine Nat.le_of_not_lt λz=>d ?_;rw[BM (show ¬((x.length:Nat):Int)<=8 by lia)];rfl);have e:Fm x=(x.cps.toList.map KW).all id:=(by unfold Fm;rw[Ca g,Ca d,List.all_map];rfl);refine⟨_,rfl,_,rfl,Vf (f:=λc=>V.bl (KW c)) m (λi c j D R I n u k=>?_) (λj D n u y=>?_)⟩;refine⟨_,rfl,_,_,rfl,rfl,_,rfl,?_⟩;show if(!decide ((⟨#[c]⟩:Str).cps.toList<l'.cps.toList))=true then _ else _;rw[show(!decide ((⟨#[c]⟩:Str).cps.toList<l'.cps.toList))=decide (97<=c) from LF c];refine CS (λl=>?_) (λl=>?_);refine⟨_,_,rfl,rfl,?_⟩;rw[show(V.bl ((λa b:Str=>!decide (b.cps.toList<a.cps.toList)) ⟨#[c]⟩ "z"))=V.bl (decide (c<=122)) from DK V.bl (LG c)];have:=k j (Ac.refl _);unfold KW at this;rw[l] at this;exact this;have:=k j (Ac.refl _);unfold KW at this;rw[Bool.not_eq_true _ |>.mp l] at this;exact this;refine⟨_,x.cps.toList.map KW,rfl,Ad.of (by rw[DI];exact y),?_⟩;rw[<-e];exact q j n;have g:¬1<=x.length:=λz=>g (Ca (by lia));have e:Fm x=false:=by unfold Fm;rw[BM g];rfl
 have:=q H (Ac.refl _);rw[e] at this;exact⟨_,rfl,AR this⟩;refine⟨_,rfl,_,.str,T,rfl,ty,_,rfl,?_⟩;cases T with|str=>exact absurd rfl t|_=>exact AR (AR q)
inductive Bw (K:Ah) (vs:R') (H:Hp) (Q:VK):Prop where
 |mk (a p:Addr) (l0 l1:Str) (h0:vs=[.ref a,.ref p]) (h1:EE H a l0 l1) (h2:Ef H p l1 l0) (h3:Fm l0=true) (h4:Fm l1=true) (h5:∀H',Ac H H'->Q .non H'):Bw K vs H Q
def Pj (K:Ah):Sp:=λvs H Q _=>Bw K vs H Q
def W1(B:A0 mg)(L:A1 K mg)(G:Ph P w K mg base)(I:LH P w K mg base)(F:AW K "refuse_no_names" "refuse_no_names" JE f fd):Cm P w K mg base E8 3 f fd ["states", "pairs"] (Pj K):=by
 refine F.ok Ua (λr H Q E h=>?_) (λT A W s H r Q E M h=>?_);obtain⟨a,p,c,d,rfl,_⟩:=h;rfl;obtain⟨a,p,c,d,rfl,t,u,N,O,q⟩:=h;refine⟨_,(Ao (Bt Bl rfl (Bm (AK G (Ab (pv 0) (Ab (pv 1) Af)))) (An (i:=2) Ua.nd) (Ao (Bi (E6 (Dq (AK I (Ab (pv 2) Af)))) (Ao Cg) Bj)))),?_⟩;rfl';refine⟨_,rfl,_,rfl,a,p,c,d,rfl,t,u,λl v R y m=>?_⟩;refine⟨l,rfl,⟨_,Ad.of m⟩,CQ (xs:=[c,d,d,c].map V.str) (λi σ n=>∃j,σ=[some (.ref a),some (.ref p),j]/\Ac v n) ⟨none,rfl,Ac.refl _⟩ (λi σ n _ J=>by obtain⟨_,_,e⟩:=J;exact Ad.of (e _ _ m)) ?_ ?_⟩;rintro i x σ o z ⟨j,rfl,k⟩;obtain⟨b,C,rfl⟩:=GL z;have g:Fm b=true:=(by have:=CB C;simp only[Cj,List.not_mem_nil,or_false] at this;rcases this with rfl|rfl|rfl|rfl<;>assumption);have U:b.length<=8:=(by unfold Fm at g;rw[Bool.and_eq_true,Bool.and_eq_true] at g;exact FL g.2.1);refine⟨_,rfl,_,rfl,r4 ⟨b,rfl,by lia,λS D=>?_⟩⟩;rw[g];exact⟨_,rfl,Ar ⟨_,rfl,k.trans D⟩⟩;rintro σ o ⟨j,rfl,k⟩;exact q o (y.trans k)
def W2(B:A0 mg)(a:A1 K mg)(d:Ph P w K mg base)(e:LH P w K mg base)(F:AW K "refuse_no_names" "refuse_no_names" JE f fd)(b:mg "refuse_no_names_tables" = some (.ref f)):AU P w K mg base "refuse_no_names_tables" 3 ["states", "pairs"] (Pj K):=
 ⟨f,fd,W1 B a d e F,b,F.kp,F.binds λ_ _ _ _ _ _ us c=>(by obtain⟨g,h,rfl⟩:=Lz c;rfl)⟩
def LI:Ty->Bool
 |.int=>true
 |_=>false
def W3 (K:Ah):Sp:=λvs H Q _=>∃v T,vs=[v]/\Hm K H v T/\Q (.bl (LI T)) H
abbrev Oc(P w K mg base):=AU P w K mg base "is_whole" 1 ["thing"] (W3 K)
theorem W4(B:A0 mg)(c:A1 K mg)(F:AW K "is_whole" "is_whole" LR f fd)(a:mg "is_whole" = some (.ref f)):Oc P w K mg base:=by
 refine Bn F a Wz (λb H Q E h=>?_) (λe A g s H b Q E d h=>?_);obtain⟨v,T,rfl,_⟩:=h;rfl;obtain⟨v,T,rfl,ty,q⟩:=h;refine⟨_,(Ao (Ba (J5 (Bh Ga B.b_isinstance (Ab (pv 0) (Ab (Gb "int" rfl B.b_int (by decide +kernel)) Af))) (JZ (Go (Bh Ga B.b_isinstance (Ab (pv 0) (Ab (Gb "bool" rfl B.b_bool (by decide +kernel)) Af)))))))),?_⟩;rfl';refine⟨_,rfl,_,.int,T,rfl,ty,_,rfl,?_⟩;cases T with|int=>exact AR ⟨_,rfl,_,.bool,.int,rfl,ty,_,rfl,q⟩|bool=>exact AR ⟨_,rfl,_,.bool,.bool,rfl,ty,_,rfl,q⟩|_=>exact Ar q
inductive DY (K:Ah) (vs:R') (H:Hp) (Q:VK):Prop where
 |mk (n m:Int) (h0:vs=[.int n,.int m]) (h1:0<=n) (h2:n<m) (h3:Q (.bl true) H):DY K vs H Q
def W5 (K:Ah):Sp:=λvs H Q _=>DY K vs H Q
abbrev Jw(P w K mg base):=AU P w K mg base "is_place" 2 ["number", "many"] (W5 K)
def W6(B:A0 mg)(i:A1 K mg)(g:Oc P w K mg base)(F:AW K "is_place" "is_place" LS f fd)(a:mg "is_place" = some (.ref f)):Jw P w K mg base:=by refine Bn F a WA (λb H Q E h=>?_) (λk A l s H b Q E j h=>?_);obtain⟨n,m,rfl,_⟩:=h;rfl;obtain⟨n,m,rfl,c,d,q⟩:=h;refine⟨_,(Ao (Ba (J5 (AK g (Ab (pv 0) Af)) (JZ (Sm Gr Mv At (pv 0) (pv 1)))))),?_⟩;rfl';refine⟨_,rfl,_,.int,rfl,.int n,_,rfl,AR ?_⟩;refine⟨_,rfl,_,_,rfl,rfl,_,rfl,?_⟩;rw[Ca c];refine AR ⟨_,rfl,_,_,rfl,rfl,?_⟩;have e:V.bl true=V.bl (decide (n<m)):=(by rw[Ca d]);rw[e] at q;exact q
inductive Bs (K:Ah) (vs:R') (H:Hp) (Q:VK):Prop where
 |mk (a:Addr) (l0 l1:Str) (h0:vs=[.ref a,.int 0]) (h1:EE H a l0 l1) (h2:Q .non H):Bs K vs H Q
def Pk (K:Ah):Sp:=λvs H Q _=>Bs K vs H Q
theorem W7(B:A0 mg)(p:A1 K mg)(d:Jw P w K mg base)(F:AW K "refuse_no_places" "refuse_no_places" JF f fd):Cm P w K mg base E8 3 f fd ["states", "inner"] (Pk K):=by
 refine F.ok N0 (λj H Q E h=>?_) (λv A x s H j Q E r h=>?_);obtain⟨a,k,l,rfl,_⟩:=h;rfl;obtain⟨a,k,l,rfl,⟨u,g,e,gt,b,m,c,o,t⟩,q⟩:=h
 refine⟨_,(Ai (Bi (E6 (OI (pv 0))) (Ao Cg) Bj)
  (Ai (Bi (E6 (Dq (AK d (Ab (pv 1) (Ab (Bh CH B.b_len (Ab (pv 0) Af)) Af))))) (Ao Cg) Bj)
  (Ao (Bt Bl rfl (Bm (pv 0)) (Bf (n:=2) rfl (Av (An (i:=2) N0.nd) (Av (An (i:=3) N0.nd) Be))) (Ao (Bt Bl rfl (Bm (pv 2)) (Bf (n:=2) rfl (Av (An (i:=4) N0.nd) (Av (An (i:=5) N0.nd) Be))) (Ao (Bi (E6 (Dq (AK d (Ab (pv 5) (Ab (Bh CH B.b_len (Ab (pv 0) Af)) Af))))) (Ao Cg) Bj)))))))),?_⟩
 rfl';refine⟨_,rfl,a,_,rfl,Ad.of b,Ar ?_⟩;refine⟨_,rfl,_,rfl,_,_,rfl,r4 ⟨_,Ad.of b,rfl⟩,0,_,rfl,by decide,by show(0:Int)<1;decide,_,rfl,Ar ?_⟩;refine⟨_,rfl,a,rfl,⟨_,Ad.of b⟩,FT (Ad.of b) ?_⟩;refine⟨u,_,rfl,Am.of m,rfl,_,_,rfl,_,_,rfl,rfl,?_⟩;refine⟨_,rfl,g,rfl,⟨_,Ad.of c⟩,FT (Ad.of c) ?_⟩;refine⟨gt,_,rfl,Am.of o,rfl,_,_,rfl,_,_,rfl,rfl,?_⟩;exact⟨_,rfl,_,rfl,_,_,rfl,r4 ⟨_,Ad.of b,rfl⟩,0,_,rfl,by decide,by show(0:Int)<1;decide,_,rfl,Ar ⟨Ad.of c,Ad.of b,q⟩⟩
def W8(B:A0 mg)(a:A1 K mg)(d:Jw P w K mg base)(F:AW K "refuse_no_places" "refuse_no_places" JF f fd)(b:mg "refuse_no_places_tables" = some (.ref f)):AU P w K mg base "refuse_no_places_tables" 3 ["states", "inner"] (Pk K):=
 ⟨f,fd,W7 B a d F,b,F.kp,F.binds λ_ _ _ _ _ _ us c=>(by obtain⟨e,g,rfl⟩:=Lz c;rfl)⟩
inductive Cs (K:Ah) (vs:R') (H:Hp) (Q:VK):Prop where
 |mk (l:Addr) (ls:F') (h0:vs=[.ref l]) (h1:Ad K H l (ls.map V.str)) (h2:ls.length<=1000) (h3:ls.Nodup) (h4:∀H',Ac H H'->Q (.bl false) H'):Cs K vs H Q
def W9 (K:Ah):Sp:=λvs H Q _=>Cs K vs H Q
abbrev Rq(P w K mg base):=AU P w K mg base "is_one_twice" 1 ["labels"] (W9 K)
theorem Xa(B:A0 mg)(m:A1 K mg)(F:AW K "is_one_twice" "is_one_twice" LU f fd)(i:mg "is_one_twice" = some (.ref f)):Rq P w K mg base:=by
 refine Bn F i WB (λj H Q E h=>?_) (λr A t s H j Q E p h=>?_);obtain⟨l,a,rfl,_⟩:=h;rfl;obtain⟨l,a,rfl,b,e,g,q⟩:=h;refine⟨_,(Ao (Ba (Hi Mv (Bh Vs B.b_len (Ab (EO (Vr rfl) B.b_set (Ab (pv 0) Af)) Af)) (Bh CH B.b_len (Ab (pv 0) Af)) (BY _)))),?_⟩;rfl';refine⟨_,rfl,l,a,rfl,b,e,λs n c d=>?_⟩;refine⟨_,n,rfl,Aa,by rw[c.mpr g];exact e,_,rfl,_,a.length,rfl,r4 ⟨_,(A3 d).seq b,by rw[Al]⟩,_,_,rfl,rfl,?_⟩
 have k:∀o,Q (V.bl (decide ((n:Int)<(a.length:Int)))) (upd H s o):=λo=>by
  have:=q _ (A3 (o:=o) d);rw[show V.bl false=V.bl (decide ((n:Int)<(a.length:Int))) by rw[c.mpr g,BM (by lia)]] at this;exact this
 exact k _
inductive Ct (K:Ah) (vs:R') (H:Hp) (Q:VK):Prop where
 |mk (a:Addr) (l0 l1:Str) (h0:vs=[.ref a]) (h1:EE H a l0 l1) (h2:∀H',Ac H H'->Q .non H'):Ct K vs H Q
def Xb (K:Ah):Sp:=λvs H Q _=>Ct K vs H Q
abbrev Rr(P w K mg base):=AU P w K mg base "refuse_twice" 2 ["states"] (Xb K)
def Xc(B:A0 mg)(I:A1 K mg)(m:Rq P w K mg base)(G:Pg P w K mg base)(F:AW K "refuse_twice" "refuse_twice" LV f fd)(o:mg "refuse_twice" = some (.ref f)):Rr P w K mg base:=by
 refine Bn F o Rm (λp H Q E h=>?_) (λO A R s H p Q E J h=>?_);obtain⟨a,b,j,rfl,_⟩:=h;rfl;obtain⟨a,b,j,rfl,⟨u,g,e,gt,c,r,t,v,x⟩,q⟩:=h
 refine⟨_,(Ao (Bt Bl rfl (Bm (pv 0)) (Bf (n:=2) rfl (Av (An (i:=1) Rm.nd) (Av (An (i:=2) Rm.nd) Be))) (Ai (Bi (Dq (AK m (Ab (AK G (Ab (pv 1) Af)) Af))) (Ao Cg) Bj)
  (Ao (Bi (Dq (AK m (Ab (pv 2) Af))) (Ao Cg) Bj))))),?_⟩
 rfl';refine⟨_,rfl,a,rfl,⟨_,Ad.of c⟩,FT (Ad.of c) ?_⟩;refine⟨u,_,rfl,Am.of r,rfl,_,_,rfl,_,_,rfl,rfl,?_⟩;refine⟨_,rfl,g,gt,b,rfl,t,v,λl L M y z=>?_⟩;refine⟨l,[b],rfl,Ad.of z,Hv rfl,by simp,λN C=>⟨_,rfl,Ar ?_⟩⟩;have d:=y.trans C;exact⟨_,rfl,e,[j],rfl,Ad.of (d _ _ x),Hv rfl,by simp,λD k=>⟨_,rfl,Ar ⟨Ad.of ((d.trans k) _ _ c),q D (d.trans k)⟩⟩⟩
inductive BO (K:Ah) (vs:R') (H:Hp) (Q:VK):Prop where
 |mk (p:Addr) (b w:Str) (h0:vs=[.ref p]) (h1:Ef H p b w) (h2:∀d l H',H d=none->H l=none->Ac H H'->H' d=some (.dK [(Sum.inr b,.ref l)])->H' l=some (.lst [.str w])->Q (.ref d) H'):BO K vs H Q
def Xd (K:Ah):Sp:=λvs H Q _=>BO K vs H Q
abbrev Rs(P w K mg base):=AU P w K mg base "worse_by_better" 1 ["pairs"] (Xd K)
def Xe(B:A0 mg)(J:A1 K mg)(F:AW K "worse_by_better" "worse_by_better" LW f fd)(t:mg "worse_by_better" = some (.ref f)):Rs P w K mg base:=by
 refine Bn F t O3 (λu H Q E h=>?_) (λM A N s H u Q E L h=>?_);obtain⟨p,b,w,rfl,_⟩:=h;rfl;obtain⟨p,b,w,rfl,⟨x,e,G⟩,q⟩:=h
 refine⟨_,(Ai (AM (i:=1) O3.nd Qo)
  (Ai (Bt Bl rfl (Bm (pv 0)) (Bf (n:=2) rfl (Av (An (i:=2) O3.nd) (Av (An (i:=3) O3.nd) Be))) (Ao (BN (Do DC Ej Ek Em (Do PySem.F.plainAttrs_dict PySem.F.slot_dict_setdefault PySem.F.type_dict_setdefault Vk (pv 1) (Ab (pv 2) (Ab (Ch Af) Af))) (Ab (pv 3) Af)))))
  (Ao (Ba (pv 1))))),?_⟩
 rfl';intro d hd;obtain⟨y,I,c,g⟩:=new_at (o:=.dK []) hd;rw[<-I];refine⟨_,rfl,p,rfl,⟨_,Ad.of (c _ _ e)⟩,FT (Ad.of (c _ _ e)) ?_⟩;refine⟨x,_,rfl,Am.of (c _ _ G),rfl,_,_,rfl,_,_,rfl,rfl,?_⟩;refine⟨_,rfl,r6 (r6 (r4 ⟨rfl,r4 ⟨_,g⟩⟩)),_,rfl,by decide,λa l=>?_⟩;have j:d≠a:=AN g l;have k:H a=none:=c.free l;refine⟨d,[],Sum.inr b,.ref a,rfl,rfl,by rw[Ax j];exact g,Bz (B8 _),(λv z=>by cases z),λ_=>?_⟩;have C:=Fy (o:=.lst []) c k;have D:=Fy (o:=.dK [(Sum.inr b,.ref a)]) C hd;have m:(upd (upd y a (.lst [])) d (.dK [(Sum.inr b,.ref a)])) a=some (.lst []):=(by rw[Ax j.symm,Aa]);refine⟨r4 ⟨rfl,_,Ad.of m⟩,_,rfl,a,_,_,rfl,rfl,m,Bz (by decide),?_⟩;have r:=Fy (o:=.lst [.str w]) D k;refine⟨Ad.of (r _ _ e),_,rfl,q d a _ hd k r ?_ Aa⟩;rw[Ax j,Aa];rfl
inductive Eo (K:Ah) (vs:R') (H:Hp) (Q:VK):Prop where
 |mk (d l:Addr) (b w:Str) (h0:vs=[.ref d,.str b]) (h1:b≠w) (h2:H d=some (.dK [(Sum.inr b,.ref l)])) (h3:H l=some (.lst [.str w])) (h4:∀c H',H c=none->Ac H H'->H' c=some (.dK [(Sum.inr w,.str b)])->Q (.ref c) H'):Eo K vs H Q
def Xf (K:Ah):Sp:=λvs H Q _=>Eo K vs H Q
abbrev Rt(P w K mg base):=AU P w K mg base "reached" 1 ["worse_labels", "start"] (Xf K)
def Xg(al:A0 mg)(ER:A1 K mg)(F:AW K "reached" "reached" LX f fd)(J:mg "reached" = some (.ref f)):Rt P w K mg base:=by
 refine Bn F J Lq (λvs H Q aa h=>?_) (λar an aw ao H vs Q aa L h=>?_);obtain⟨d,l,b,w,rfl,_⟩:=h;rfl;obtain⟨d,l,b,w,rfl,ag,D,M,ab⟩:=h;have vb:AE ([(Sum.inr b,.ref l)]:List (AL×V)) (Sum.inr b)=some (.ref l):=(by simp[AE]);have vw:AE ([(Sum.inr b,.ref l)]:List (AL×V)) (Sum.inr w)=none:=(by simp[AE,ag])
 refine⟨_,(Ai (AM (i:=2) Lq.nd Qo)
  (Ai (AM (i:=3) Lq.nd (Ch (Ab (pv 1) Af)))
  (Ai (P5 Bl (OI (pv 3)) (Ai (AM (i:=4) Lq.nd (Ch Af))
   (Ai (Bt Bl rfl (Bm (pv 3)) (An (i:=5) Lq.nd) (Ao (Bt Bl rfl (Bm (Do PySem.F.plainAttrs_dict PySem.F.slot_dict_get PySem.F.type_dict_get (KI (Ic L)) (pv 0) (Ab (pv 5) (Ab (Ch Af) Af)))) (An (i:=6) Lq.nd) (Ao (Bi (Cc (Tj (Ic L)) (pv 6) (pv 2) (by with_unfolding_all rfl)) (Ai (Dm (pv 5) (HJ (pv 2) (pv 6) (Vn (Ic L))))
         (Ao (BN (Do DC Ej Ek Em (pv 4) (Ab (pv 6) Af))))) Bj)))))
   (Ao (AM (i:=3) Lq.nd (pv 4))))))
  (Ao (Ba (pv 2)))))),?_⟩
 rfl';intro c E;refine⟨_,rfl,KJ,λg N=>?_⟩;have ah:H g=none:=(A3 E).free N;have ai:c≠g:=AN Aa N;refine⟨λm σ e=>∃(S n p:S')(g:Addr)(v:R')(x:List (AL×V)),σ=[some (.ref d),some (.str b),some (.ref c),some (.ref g),S,n,p]/\Ac H e/\H g=none/\e c=some (.dK x)/\e g=some (.lst v)/\((m=2/\v=[.str b]/\x=[])\/(m=1/\v=[.str w]/\x=[(Sum.inr w,.str b)])\/(m=0/\v=[]/\x=[(Sum.inr w,.str b)])),⟨2,none,none,none,g,_,_,rfl,(A3 E).trans (A3 N),ah,by rw[Ax ai,Aa],Aa,.inl ⟨rfl,rfl,rfl⟩⟩,?_⟩;rintro m σ y ⟨S,n,p,g,v,x,rfl,z,au,A,s,J⟩;refine⟨_,rfl,g,_,rfl,Ad.of s,?_⟩;rcases J with⟨rfl,rfl,rfl⟩|⟨rfl,rfl,rfl⟩|⟨rfl,rfl,rfl⟩;refine AR ⟨λσ' e=>∃n p a,σ'=[some (.ref d),some (.str b),some (.ref c),some (.ref a),some (.ref a),n,p]/\Ac H e/\H a=none/\e c=some (.dK [(Sum.inr w,.str b)])/\e a=some (.lst [.str w]),?_,?_⟩;rintro σ' e ⟨n,p,a,rfl,j,r,t,O⟩;exact⟨1,by decide,_,n,p,a,_,_,rfl,j,r,t,O,.inr (.inl ⟨rfl,rfl,rfl⟩)⟩;refine⟨by decide,λa r=>?_⟩;have C:H a=none:=z.free r;have R:c≠a:=AN A r;have W:g≠a:=AN s r;have aj:c≠g:=Om A s (by intro ae;cases ae);have j:=Fy (o:=.lst []) z C;have I:(upd y a (.lst [])) g=some (.lst [.str b]):=by rw[Ax W];exact s
 have t:(upd y a (.lst [])) c=some (.dK []):=by rw[Ax R];exact A
 have Y:(upd y a (.lst [])) a=some (.lst []):=Aa;generalize upd y a (.lst [])=T at j I t Y ⊢;refine⟨_,rfl,g,rfl,⟨_,Ad.of I⟩,FT (Ad.of I) ?_⟩;refine⟨_,rfl,r6 (r6 (r4 ⟨rfl,r4 ⟨_,j _ _ D⟩⟩)),_,rfl,by decide,λB G=>?_⟩;have av:H B=none:=j.free G;have q:=A3 (o:=.lst []) G;have u:=j.trans q;refine⟨d,_,_,_,rfl,rfl,B2.k (k:=Sum.inr b) (u _ _ D),?_⟩;rw[vb];refine⟨l,rfl,⟨_,Ad.of (u _ _ M)⟩,FT (Ad.of (u _ _ M)) ?_⟩;refine⟨_,rfl,_,rfl,c,_,rfl,B2.k (k:=Sum.inr w) (q _ _ t),_,rfl,AR ?_⟩;refine⟨_,rfl,_,rfl,_,rfl,c,_,rfl,GG.k (k:=Sum.inr w) (q _ _ t) (Bz (B8 _)),?_⟩;have s4:=Fy (o:=.dK [(Sum.inr w,.str b)]) u E;have Z:(upd (upd T B (.lst [])) c (.dK [(Sum.inr w,.str b)])) a=some (.lst []):=by rw[Ax R.symm];exact q _ _ Y
 have ak:(upd (upd T B (.lst [])) c (.dK [(Sum.inr w,.str b)])) g=some (.lst [.str b]):=by rw[Ax aj.symm];exact q _ _ I
 refine⟨_,rfl,r4 ⟨rfl,_,Ad.of Z⟩,_,rfl,a,_,_,rfl,rfl,Z,Bz (B8 _),?_⟩;have U:=Fy (o:=.lst [.str w]) s4 C;refine⟨Ad.of (U _ _ M),Ad.of (by rw[Ax W];exact ak),?_⟩;exact⟨_,rfl,_,_,a,rfl,U,C,by rw[Ax R,Aa];rfl,Aa⟩;refine AR ⟨λσ' e=>∃n p a,σ'=[some (.ref d),some (.str b),some (.ref c),some (.ref a),some (.ref a),n,p]/\Ac H e/\H a=none/\e c=some (.dK [(Sum.inr w,.str b)])/\e a=some (.lst []),?_,?_⟩;rintro σ' e ⟨n,p,a,rfl,j,r,t,O⟩;exact⟨0,by decide,_,n,p,a,_,_,rfl,j,r,t,O,.inr (.inr ⟨rfl,rfl,rfl⟩)⟩;refine⟨by decide,λa r=>?_⟩;have C:H a=none:=z.free r;have j:=A3 (o:=.lst []) r;have X:=z.trans j;refine⟨_,rfl,g,rfl,⟨_,Ad.of (j _ _ s)⟩,FT (Ad.of (j _ _ s)) ?_⟩;refine⟨_,rfl,r6 (r6 (r4 ⟨rfl,r4 ⟨_,X _ _ D⟩⟩)),_,rfl,by decide,λB G=>?_⟩;have q:=A3 (o:=.lst []) G;have u:=X.trans q;refine⟨d,_,_,_,rfl,rfl,B2.k (k:=Sum.inr w) (u _ _ D),?_⟩;rw[vw];refine⟨B,rfl,⟨_,Ad.of Aa⟩,CQ (xs:=[]) (λi σ' e=>σ'=_/\e=_) ⟨rfl,rfl⟩ (λi σ' e _ af=>by rw[af.2];exact Ad.of Aa) (λi aq σ' e hx=>by simp at hx) ?_⟩;rintro σ' e ⟨rfl,rfl⟩;exact⟨Ad.of (q _ _ (j _ _ s)),_,rfl,_,_,a,rfl,u,C,q _ _ (j _ _ A),q _ _ Aa⟩;exact Ar ⟨_,rfl,ab c y E z A⟩
inductive BG (K:Ah) (vs:R') (H:Hp) (Q:VK):Prop where
 |mk (p:Addr) (b w:Str) (h0:vs=[.ref p]) (h1:b≠w) (h2:Ef H p b w) (h3:∀(D t:Addr)(H':Hp),H D=none->Ac H H'->H' D=some (.lst [.ref t])->H' t=some (.tup [.str b,.str w])->Q (.ref D) H'):BG K vs H Q
def Xh (K:Ah):Sp:=λvs H Q _=>BG K vs H Q
abbrev Ru(P w K mg base):=AU P w K mg base "all_that_follows" 2 ["pairs"] (Xh K)
theorem Xi(B:A0 mg)(ER:A1 K mg)(aa:Rs P w K mg base)(ab:Rt P w K mg base)(F:AW K "all_that_follows" "all_that_follows" LY f fd)(U:mg "all_that_follows" = some (.ref f)):Ru P w K mg base:=by
 refine Bn F U N2 (λW H Q E h=>?_) (λar ao au aq H W Q E hr h=>?_);obtain⟨p,b,w,rfl,_⟩:=h;rfl;obtain⟨p,b,w,rfl,ae,X,q⟩:=h
 refine⟨_,(Ai (AM (i:=1) N2.nd (AK aa (Ab (pv 0) Af)))
  (Ai (AM (i:=2) N2.nd (Ch Af))
  (Ai (Bt Bl rfl (Bm (Bh (To rfl) B.b_sorted (Ab (pv 1) Af))) (An (i:=3) N2.nd) (Ao (Bt Bl rfl (Bm (Bh (To rfl) B.b_sorted (Ab (AK ab (Ab (pv 1) (Ab (pv 3) Af))) Af))) (An (i:=4) N2.nd) (Ao (BN (Do DC Ej Ek Em (pv 2) (Ab (BR (Ab (pv 3) (Ab (pv 4) Af))) Af)))))))
  (Ao (Ba (pv 2)))))),?_⟩
 rfl';refine⟨_,rfl,p,b,w,rfl,X,λd l x hd hl y z Y=>?_⟩;refine⟨by decide,λD A=>?_⟩;have N:H D=none:=y.free A;have g:=A3 (o:=.lst []) A;have O:=y.trans g;have r:(upd x D (.lst [])) D=some (.lst []):=Aa;generalize upd x D (.lst [])=C at g O r ⊢;refine⟨_,rfl,d,_,[b],rfl,g _ _ z,rfl,Hv rfl,λS j af _ G=>?_⟩;have a:=A3 (o:=.lst (j.map V.str)) G;have k:(upd C S (.lst (j.map V.str))) S=some (.lst (j.map V.str)):=Aa;have ag:S≠D:=Ny r G;generalize upd C S (.lst (j.map V.str))=H3 at a k ⊢;obtain rfl:=Tz af;have ah:=O.trans a;have R:=g.trans a;refine⟨S,rfl,⟨_,Ad.of k⟩,FT (Ad.of k) ?_⟩;refine⟨_,rfl,_,rfl,d,l,b,w,rfl,ae,R _ _ z,R _ _ Y,λc I hc J Z=>?_⟩;refine⟨c,_,[w],rfl,Z,rfl,Hv rfl,λe m ai _ T=>?_⟩;have L:=A3 (o:=.lst (m.map V.str)) T;have s:(upd I e (.lst (m.map V.str))) e=some (.lst (m.map V.str)):=Aa;have an:e≠D:=Ny (J _ _ (a _ _ r)) T;generalize upd I e (.lst (m.map V.str))=H6 at L s ⊢;obtain rfl:=Tz ai;have u:=J.trans L;refine⟨e,rfl,⟨_,Ad.of s⟩,FT (Ad.of s) ?_⟩;have v:=u _ _ (a _ _ r);refine⟨_,rfl,r4 ⟨rfl,_,Ad.of v⟩,_,rfl,_,rfl,DS,λt M=>?_⟩;have n:=A3 (o:=.tup [.str b,.str w]) M;have aj:=n _ _ v;have ak:t≠D:=Ny v M;refine⟨D,_,_,rfl,rfl,aj,Bz (B8 _),?_⟩;have al:=(ah.trans u).trans n;refine⟨Ad.of (by rw[Ax an];exact n _ _ s),Ad.of (by rw[Ax ag];exact n _ _ (u _ _ k)),?_⟩;exact⟨_,rfl,q D t _ N (Fy al N) Aa (by rw[Ax ak,Aa])⟩
inductive DZ (K:Ah) (vs:R') (H:Hp) (Q:VK):Prop where
 |mk (p:Addr) (b w:Str) (h0:vs=[.ref p]) (h1:b≠w) (h2:Ef H p b w) (h3:∀(D t:Addr)(H':Hp),H D=none->Ac H H'->H' D=some (.lst [.ref t])->H' t=some (.tup [.str b,.str w])->Q (.ref D) H'):DZ K vs H Q
def Xj (K:Ah):Sp:=λvs H Q _=>DZ K vs H Q
abbrev Rv(P w K mg base):=AU P w K mg base "order_of" 3 ["pairs"] (Xj K)
def Xk(B:A0 mg)(o:A1 K mg)(m:Ru P w K mg base)(F:AW K "order_of" "order_of" LZ f fd)(e:mg "order_of" = some (.ref f)):Rv P w K mg base:=by
 refine Bn F e O4 (λg H Q E h=>?_) (λv A x s H g Q E r h=>?_);obtain⟨p,b,w,rfl,_⟩:=h;rfl;obtain⟨p,b,w,rfl,d,j,q⟩:=h
 refine⟨_,(Ai (AM (i:=1) O4.nd (AK m (Ab (pv 0) Af)))
  (Ai (Bt Bl rfl (Bm (pv 1)) (Bf (n:=2) rfl (Av (An (i:=2) O4.nd) (Av (An (i:=3) O4.nd) Be))) (Ao (Bi (Cc DE (pv 2) (pv 3) (BY _)) (Ao Cg) Bj)))
  (Ao (Ba (pv 1))))),?_⟩
 try dsimp only[Ay,Cx.nox,Cx.wish]
 refine⟨_,rfl,p,b,w,rfl,d,j,λD t u k l a c=>?_⟩;refine⟨_,rfl,D,rfl,⟨_,Ad.of a⟩,FT (Ad.of a) ?_⟩;refine⟨t,_,rfl,Am.of c,rfl,_,_,rfl,_,_,rfl,rfl,?_⟩;refine⟨_,rfl,_,rfl,rfl,_,rfl,?_⟩;rw[show decide (V.str b=V.str w)=false from BM λz=>d (V.str.inj z)];exact Ar ⟨Ad.of a,_,rfl,q D t _ k l a c⟩
inductive Cu (K:Ah) (vs:R') (H:Hp) (Q:VK):Prop where
 |mk (g e gt:Addr) (l0 l1:Str) (h0:vs=[.ref g,.ref e]) (h1:H g=some (.lst [.ref gt])) (h2:H gt=some (.tup [.str l0,.int 0])) (h3:H e=some (.lst [.str l1])) (h4:∀(t G E gu:Addr)(H':Hp),H t=none->Ac H H'->H' t=some (.tup [.ref G,.ref E])->H' G=some (.lst [.ref gu])->H' gu=some (.tup [.str l0,.int 0])->H' E=some (.lst [.str l1])->Q (.ref t) H'):Cu K vs H Q
def Xl (K:Ah):Sp:=λvs H Q _=>Cu K vs H Q
abbrev Rw(P w K mg base):=AU P w K mg base "sorted_state" 1 ["goes", "ends"] (Xl K)
theorem Xm(B:A0 mg)(ER:A1 K mg)(F:AW K "sorted_state" "sorted_state" JG f fd)(J:mg "sorted_state" = some (.ref f)):Rw P w K mg base:=by
 refine Bn F J WC (λL H Q E h=>?_) (λal ah an ai H L Q E hr h=>?_);obtain⟨g,e,gt,a,s,rfl,_⟩:=h;rfl;obtain⟨g,e,gt,a,s,rfl,j,b,M,q⟩:=h;refine⟨_,(Ao (Ba (BR (Ab (Bh (VC Ij Ik) B.b_sorted (Ab (EQ (g:=DP K 2 (D8 (Dl 0) (D8 (Dl 1) DO))) rfl Bk (Bm (pv 0)) (λ_ _ _ _ _=>(Bf (n:=2) rfl (Av (An (i:=0) Bk.nd) (Av (An (i:=1) Bk.nd) Be)))) (λ_ _ _ _ _=>EC) (λ_ _ _ _ _=>(BR (Ab (pv 0) (Ab (pv 1) Af))))) Af)) (Ab (Bh VE B.b_sorted (Ab (pv 1) Af)) Af))))),?_⟩;rfl';refine⟨_,rfl,g,rfl,⟨_,Ad.of j⟩,QR (Ad.of j) λD aj u k=>?_⟩;obtain⟨H1,Z,v,x⟩:=new_at (o:=.lst []) u;rw[<-Z];refine⟨gt,_,rfl,Am.of (v _ _ b),rfl,_,_,rfl,_,_,rfl,rfl,?_⟩;refine⟨_,rfl,_,rfl,DS,λz y=>?_⟩;obtain⟨l,aa,A,N⟩:=new_at (o:=.tup [.str a,.int 0]) y;rw[<-aa];have O:z≠D:=Ny x y;have c:=Fy (o:=.lst [.ref z]) (v.trans A) u;have C:(upd l D (.lst [.ref z])) D=some (.lst [.ref z]):=Aa;have r:(upd l D (.lst [.ref z])) z=some (.tup [.str a,.int 0]):=by rw[Ax O];exact N
 refine k _ _ (A _ _ x) (Ad.of (c _ _ j)) ?_;generalize upd l D (.lst [.ref z])=H3 at c C r ⊢;refine⟨D,[(.ref z,(a,0))],rfl,Ad.of C,Hv rfl,λak R=>by rw[D7.mp R];exact⟨z,rfl,Am.of r⟩,λG ab S _ T=>?_⟩;obtain⟨H4,ae,m,U⟩:=new_at (o:=.lst (ab.map (·.1))) T;rw[<-ae];obtain rfl:=List.perm_singleton.mp S;refine⟨_,rfl,e,[s],rfl,Ad.of (m _ _ (c _ _ M)),Hv rfl,λE W af _ X=>?_⟩;obtain⟨H5,ag,p,Y⟩:=new_at (o:=.lst (W.map V.str)) X;rw[<-ag];obtain rfl:=List.perm_singleton.mp af;refine⟨DS,λt b=>?_⟩;have d:=A3 (o:=.tup [.ref G,.ref E]) b;have I:=(c.trans m).trans p;exact q t G E z _ (I.free b) (I.trans d) Aa (d _ _ (p _ _ U)) (d _ _ (p _ _ (m _ _ r))) (d _ _ Y)
inductive D1 (K:Ah) (vs:R') (H:Hp) (Q:VK):Prop where
 |mk (a p:Addr) (l0 l1:Str) (h0:vs=[.ref a,.int 0,.ref p]) (h1:l1≠l0) (h2:EE H a l0 l1) (h3:Ef H p l1 l0) (h4:Fm l0=true) (h5:Fm l1=true) (h6:∀(t:Addr)(H':Hp),H t=none->Ac H H'->BB K H' t l0 l1->Q (.ref t) H'):D1 K vs H Q
def Xn (K:Ah):Sp:=λvs H Q _=>D1 K vs H Q
abbrev Pl(P w K mg base):=AU P w K mg base "table_of" 4 ["states", "inner", "pairs"] (Xn K)
def Xo(al:A0 mg)(ER:A1 K mg)(aa:AU P w K mg base "refuse_too_great_tables" 1 ["states", "pairs"] (Pf K))(ab:AU P w K mg base "refuse_no_names_tables" 3 ["states", "pairs"] (Pj K))(ae:AU P w K mg base "refuse_no_places_tables" 3 ["states", "inner"] (Pk K))(af:Rr P w K mg base)(ag:Rv P w K mg base)(ah:Rw P w K mg base)(F:AW K "table_of" "table_of" JH f fd)(U:mg "table_of" = some (.ref f)):Pl P w K mg base:=by
 refine Bn F U Ub (λV H Q E h=>?_) (λar an av ao H V Q E hr h=>?_);obtain⟨a,p,b,c,rfl,_⟩:=h;rfl;obtain⟨a,p,b,c,rfl,ai,l,x,W,X,q⟩:=h
 refine⟨_,(Ai (BN (AK aa (Ab (pv 0) (Ab (pv 2) Af))))
  (Ai (BN (AK ab (Ab (pv 0) (Ab (pv 2) Af))))
  (Ai (BN (AK ae (Ab (pv 0) (Ab (pv 1) Af))))
  (Ai (BN (AK af (Ab (pv 0) Af)))
  (Ai (AM (i:=3) Ub.nd (AK ag (Ab (pv 2) Af)))
  (Ao (Ba (BR (Ab (EQ (g:=DP K 2 (D8 (Dl 0) (D8 (Dl 1) DO))) rfl Cb (Bm (pv 0)) (λ_ _ _ _ _=>(Bf (n:=2) rfl (Av (An (i:=0) Cb.nd) (Av (An (i:=1) Cb.nd) Be)))) (λ_ _ _ _ _=>EC) (λ_ _ _ _ _=>(AK ah (Ab (pv 0) (Ab (pv 1) Af))))) (Ab (pv 1) (Ab (pv 3) Af))))))))))),?_⟩
 rfl';refine⟨_,rfl,_,rfl,a,p,b,c,rfl,l,x,?_⟩;refine⟨_,rfl,_,rfl,a,p,b,c,rfl,l,x,W,X,λH1 y=>?_⟩;refine⟨_,rfl,_,rfl,a,b,c,rfl,l.same y,?_⟩;refine⟨_,rfl,a,b,c,rfl,l.same y,λH2 Y=>?_⟩;have T:=y.trans Y;refine⟨_,rfl,p,c,b,rfl,ai,x.same T,λo Z O ho s3 eo ep=>?_⟩;have r:=T.trans s3;obtain⟨u,g,e,gt,A,hu,hg,m,he⟩:=(l.same r).ex;refine⟨_,rfl,a,rfl,⟨_,Ad.of A⟩,QR (Ad.of A) λD aq B k=>?_⟩;have d:=A3 (o:=.lst []) B;have C:(upd O D (.lst [])) D=some (.lst []):=Aa;have au:=r.free B;generalize upd O D (.lst [])=H4 at d C ⊢;refine⟨u,_,rfl,Am.of (d _ _ hu),rfl,_,_,rfl,_,_,rfl,rfl,?_⟩;refine⟨_,rfl,_,rfl,g,e,gt,b,c,rfl,d _ _ hg,d _ _ m,d _ _ he,λv G E R H5 hv S ev I L J=>?_⟩;have s:=S _ _ C;have aj:=d.trans S;have M:=Fy (o:=.lst [.ref v]) aj B;have nv:v≠D:=Ny C hv;have nG:G≠D:=λz=>by rw[z,s] at I;cases I
 have nE:E≠D:=λz=>by rw[z,s] at J;cases J
 have ak:R≠D:=λz=>by rw[z,s] at L;cases L
 refine k _ _ s (Ad.of (M _ _ A)) ?_;refine⟨_,rfl,_,rfl,Fx,λt m=>?_⟩;have j:=A3 (o:=.tup [.ref D,.int 0,.ref o]) m;have N:=M.trans j;exact q t _ ((r.trans M).free m) (r.trans N) ⟨D,o,v,G,E,R,Z,Aa,j _ _ Aa,j _ _ (by rw[Ax nv];exact ev),Ad.of (j _ _ (by rw[Ax nG];exact I)),Am.of (j _ _ (by rw[Ax ak];exact L)),j _ _ (by rw[Ax nE];exact J),N _ _ eo,N _ _ ep⟩
def Xp (_:Ah):Sp:=λvs H Q _=>∃(n:Int)(W:Addr)(w0 w1 w2 w3:Str),vs=[.int n,.ref W]/\0<=n/\n<10000000000/\H W=some (.lst [.str w0,.str w1,.str w2,.str w3])/\∀(r:Addr)(p:F')(H':Hp),Ac H H'->H' r=some (.tup (p.map V.str))->1<=p.length->p.length<=6->(∀x∈p,x=w0\/x=w1\/x=w2)->Q (.ref r) H'
abbrev Po(P w K mg base):=AU P w K mg base "_law_path" 1 ["_law_number", "_law_words_here"] (Xp K)
theorem Xq(B:A0 mg)(ER:A1 K mg)(F:AW K "_law_path" "_law_path" L0 f fd)(I:mg "_law_path" = some (.ref f)):Po P w K mg base:=by
 refine Bn F I Rn (λJ H Q E h=>?_) (λak ag al ah H J Q E l h=>?_);obtain⟨n,W,a,b,c,s,rfl,_⟩:=h;rfl;obtain⟨n,W,a,b,c,s,rfl,n0,n1,t,q⟩:=h
 refine⟨_,(Ai (AM (i:=2) Rn.nd (A9 Fj At (A9 EB (pv 0) At)))
  (Ai (AM (i:=3) Rn.nd (A9 Re (Ch (Ab (AF AG (pv 1) At) Af)) (pv 2)))
  (Ai (Bi (Cc DE (A9 EB (A9 Gp (pv 0) At) At) At (BY _)) (Ao (Dm (AF AG (pv 1) (A9 Fj At (A9 EB (A9 Gp (pv 0) At) At))) (HJ (pv 3) (A9 EB (A9 Gp (pv 0) At) (pv 2)) Jh))) Bj)
  (Ao (Ba (EO Qh B.b_tuple (Ab (pv 3) Af))))))),?_⟩
 rfl';refine⟨_,rfl,_,_,rfl,rfl,(by show(0:Int)<6;decide),_,_,rfl,rfl,?_⟩;refine Ap ?_;cbv;obtain⟨m,M,m1,m6⟩:∃m:Nat,1+n%6=(m:Int)/\1<=m/\m<=6:=⟨(1+n%6).toNat,by lia,by lia,by lia⟩;rw[M];refine⟨_,rfl,r4 ⟨W,_,_,.str a,rfl,rfl,Ad.of t,rfl,Fa,λZ N=>?_⟩⟩;obtain⟨u,aa,v,O⟩:=new_at (o:=.lst [.str a]) N;rw[<-aa];refine⟨_,rfl,Z,_,_,rfl,rfl,O,⟨by lia,by lia⟩,by rw[Ex];show 1*m<=1000;lia,λL z=>?_⟩;rw[Ex,Rf];have A:=A3 (o:=.lst (List.replicate m (V.str a))) z;have d:(upd u L (.lst (List.replicate m (V.str a)))) L=some (.lst ((List.replicate m a).map V.str)):=(by rw[Aa,List.map_replicate]);generalize upd u L (.lst (List.replicate m (V.str a)))=H2 at A d ⊢;have ab:H L=none:=v.free z;have j:=v.trans A;refine Ap ?_;cbv;refine ES (σ':=[some (.int n),some (.ref W),some (.int (m:Int)),some (.ref L)]) rfl ?_;refine MB (λσ' C=>∃p:F',σ'=[some (.int n),some (.ref W),some (.int (m:Int)),some (.ref L)]/\Ac H C/\C L=some (.lst (p.map V.str))/\p.length=m/\∀x∈p,x=a\/x=b\/x=c) ?_ (λai D=>?_);rintro σ H3 ⟨p,rfl,R,ae,lp,S⟩;refine⟨_,rfl,L,_,rfl,r4 ⟨Ad.of ae,λr l=>?_⟩⟩;exact q r p _ (R.trans (A3 l)) Aa (by lia) (by lia) S;have G:∀x∈List.replicate m a,x=a\/x=b\/x=c:=λx g=>.inl (List.mem_replicate.mp g).2;refine⟨_,rfl,_,_,rfl,rfl,⟨by decide,by decide⟩,_,_,rfl,rfl,(by show(0:Int)<3;decide),rfl,_,rfl,CS (λ_=>?_) (λ_=>D _ _ ⟨_,rfl,j,d,s0,G⟩)⟩;obtain⟨k,T,U⟩:∃k:Nat,1+n/108%2=(k:Int)/\(k=1\/k=2):=⟨(1+n/108%2).toNat,by lia,by lia⟩;have X:=Hg (n/18) (show(m:Int)≠0 by lia);have Y:=Hf (n/18) (show(0:Int)<(m:Int) by lia);refine⟨_,rfl,_,rfl,_,_,rfl,rfl,⟨by decide,by decide⟩,_,_,rfl,rfl,(by show(0:Int)<2;decide),_,_,rfl,rfl,?_⟩;cbv;rw[T]
 obtain⟨x,g,af⟩:∃x,[V.str a,V.str b,V.str c,V.str s][k]?=some (.str x)/\(x=a\/x=b\/x=c):=by
  rcases U with rfl|rfl;exact⟨b,rfl,.inr (.inl rfl)⟩;exact⟨c,rfl,.inr (.inr rfl)⟩
 refine r4 ⟨W,_,_,.str x,rfl,rfl,Ad.of (j _ _ t),Ck g,_,rfl,_,rfl,_,_,rfl,rfl,⟨by decide,by decide⟩,_,rfl,_,_,rfl,rfl,(by show(0:Int)<(m:Int);lia),L,_,_,(n/18%(m:Int)).toNat,rfl,rfl,d,by rw[Al,s0];exact Jm X Y,?_⟩;refine D _ _ ⟨(List.replicate m a).set (n/18%(m:Int)).toNat x,rfl,λaj o e=>?_,by rw[Aa,List.map_set],by rw[Dj,s0],λy hy=>?_⟩;rw[Ax (AN e ab)];exact j _ _ e;rcases List.mem_or_eq_of_mem_set hy with h|h;exact G y h;rw[h];exact af
inductive Dz (K:Ah) (vs:R') (H:Hp) (Q:VK):Prop where
 |mk (pt S T R:Addr) (us Gs Es ts qt:E') (ss:List AO) (gs:G') (qs:U') (h0:vs=[.ref pt]) (h1:H pt=some (.tup [.ref S,.ref T,.ref R])) (h2:Co H S T R us Gs Es ts qt ss gs qs) (h3:ss.length<=1000) (h4:∀(nt S2 T2 R2:Addr)(u2 G2 E2:E')(H':Hp),Ac H H'->H' nt=some (.tup [.ref S2,.ref T2,.ref R2])->Co H' S2 T2 R2 u2 G2 E2 ts qt ss gs qs->(S2::(G2++E2)).Nodup->H S2=none->H T2=none->H R2=none->(∀x∈G2++E2,H x=none)->T2≠R2->S2≠T2->S2≠R2->(∀x∈G2++E2,x≠S2/\x≠T2/\x≠R2)->Q (.ref nt) H'):Dz K vs H Q
def Xr (K:Ah):Sp:=λvs H Q _=>Dz K vs H Q
abbrev Pp(P w K mg base):=AU P w K mg base "_law_copy" 1 ["_law_net"] (Xr K)
theorem Xs(B:A0 mg)(ER:A1 K mg)(F:AW K "_law_copy" "_law_copy" JI f fd)(hm:mg "_law_copy" = some (.ref f)):Pp P w K mg base:=by
 refine Bn F hm WD (λvs H ai aj h=>?_) (λaB a6 aC a7 H vs ai aj hr h=>?_);obtain⟨pt,S,T,R,us,Gs,Es,ts,qt,q,gs,qs,rfl,_⟩:=h;rfl;obtain⟨pt,S,T,R,us,Gs,Es,ts,qt,q,gs,qs,rfl,W,j,l1,ak⟩:=h;refine⟨_,(Ao (Ba (BR (Ab (EQ (g:=DP K 2 (D8 (Dl 0) (D8 (Dl 1) DO))) (te:=FQ (DQ (Kk (NC K) (DQ (Bg 0) CZ)) (DQ (Kk (NC K) (DQ (Bg 1) CZ)) CZ))) rfl BW (Bm (AF AG (pv 0) At)) (λ_ _ _ _ _=>(Bf (n:=2) rfl (Av (An (i:=0) BW.nd) (Av (An (i:=1) BW.nd) Be)))) (λ_ _ _ _ _=>EC) (λ_ _ _ _ _=>(BR (Ab (EO Hl B.b_list (Ab (pv 0) Af)) (Ab (EO Hl B.b_list (Ab (pv 1) Af)) Af))))) (Ab (EO Hl B.b_list (Ab (AF AG (pv 0) At) Af)) (Ab (EO Hl B.b_list (Ab (AF AG (pv 0) At) Af)) Af)))))),?_⟩;rfl'
 refine⟨_,rfl,r6 (r4 ⟨pt,_,_,.ref S,rfl,rfl,Am.of W,rfl,S,rfl,⟨_,Ad.of j.sc.top⟩,KN (xs:=us.map V.ref) (λD i J O=>∃t l m:E',J=t.map V.ref/\Ac H O/\Cy O D t l m (q.take i)/\(D::(l++m)).Nodup/\∀x∈l++m,H x=none)
  (λD Q=>⟨[],[],[],rfl,A3 Q,by rw[IW];exact Cy.nil Aa,by simp,λx b=>by simp at b⟩) (λD i J O ao=>by obtain⟨_,_,_,_,a,_⟩:=ao;exact Ad.of (a _ _ j.sc.top)) (λD i x J H9 RR Q b U k=>?_) (λD2 J H9 aq U=>?_)⟩)⟩
 obtain⟨t,l,m,rfl,a,d,A,M⟩:=U;obtain⟨al,hu,rfl⟩:=getm b;have ar:i<q.length:=by rw[<-j.sc.lu];exact(AS.mp hu).1
 obtain⟨u',an,E1,ab,a9,aA,g4,g5⟩:=(j.sc.same a).get ar;rw[hu] at ab;cases ab;obtain⟨a1,⟨tG,b1,b2⟩,⟨tE,c1,c2⟩⟩:=g5;have au:q.take (i+1)=q.take i++[q[i]]:=by rw[FK,g4];rfl
 have ae:=d.lu;rw[DM] at ae;refine⟨al,_,rfl,Am.of a1,rfl,_,_,rfl,_,_,rfl,rfl,?_⟩;refine⟨_,rfl,an,_,rfl,r4 (Ad.of b1),λC v=>?_⟩;obtain⟨av,Y,c,af⟩:=new_at (o:=.lst (tG.map V.ref)) v;rw[<-Y];refine⟨_,rfl,E1,_,rfl,r4 (Ad.of (c _ _ c1)),λE r=>?_⟩;obtain⟨aw,Z,L,ax⟩:=new_at (o:=.lst (tE.map V.ref)) r;rw[<-Z];refine⟨DS,λu3 ay=>?_⟩;obtain⟨X,aa,u,az⟩:=new_at (o:=.tup [.ref C,.ref E]) ay;rw[<-aa];have p:=(c.trans L).trans u;have N:=L.trans u;have ah:=d.same p;have G:=d.alive
 have nG:C∉D::(l++m):=λy=>by
  rcases Cj.mp y with y|y;rw[y,d.top] at v;cases v;obtain⟨xs,e⟩:=G _ y;rw[e] at v;cases v
 have nE:E∉D::(l++m):=λy=>by
  rcases Cj.mp y with y|y;rw[y,c _ _ d.top] at r;cases r;obtain⟨xs,e⟩:=G _ y;rw[c _ _ e] at r;cases r
 have a0:C≠E:=λy=>by rw[<-y,af] at r;cases r
 have a5:Fz X u3 C E q[i]:=⟨az,⟨tG,N _ _ af,b2.same p⟩,⟨tE,u _ _ ax,c2.same p⟩⟩;refine k _ _ ah.top (by rw[Al,ae];exact Bz (by lia)) ⟨t++[u3],l++[C],m++[E],by rw[By];rfl,λa8 o e=>?_,?_,QU A nG nE a0,λx b=>?_⟩;rw[Ax (AN e Q)];exact p _ _ (a _ _ e);rw[au];exact ah.snoc a5 (λz=>nG (z▸Ea)) (λz=>nE (z▸Ea)) (λx b z=>(DN.mp A).1 (z▸b));simp only[EJ,D7] at b;rcases b with(h|h)|(h|h);exact M x (Ht _ h);rw[h];exact a.free v;exact M x (Eb _ h);rw[h];exact(a.trans c).free r;obtain⟨t,l,m,rfl,a,d,A,M⟩:=U;rw[show(us.map V.ref).length=q.length by rw[Al,j.sc.lu],Jz] at d;refine⟨_,rfl,r6 (r4 ⟨pt,_,_,.ref T,rfl,rfl,Am.of (a _ _ W),rfl,T,_,rfl,r4 (Ad.of (a _ _ j.et)),λT2 I=>?_⟩)⟩;obtain⟨av,Y,c,ag⟩:=new_at (o:=.lst (ts.map V.ref)) I;rw[<-Y];refine⟨_,rfl,r6 (r4 ⟨pt,_,_,.ref R,rfl,rfl,Am.of (c _ _ (a _ _ W)),rfl,R,_,rfl,r4 (Ad.of (c _ _ (a _ _ j.er))),λR2 s=>?_⟩)⟩;obtain⟨aw,Z,L,a2⟩:=new_at (o:=.lst (qt.map V.ref)) s;rw[<-Z];refine⟨Fx,λkt a3=>?_⟩;obtain⟨X,aa,u,a4⟩:=new_at (o:=.tup [.ref D2,.ref T2,.ref R2]) a3;rw[<-aa];have N:=L.trans u;have p:=c.trans N;have sA:=a.trans p;have G:=d.alive;refine ak kt D2 T2 R2 t l m X sA a4 ⟨d.same p,N _ _ ag,j.tg.same (a.trans p),u _ _ a2,j.tq.same (a.trans p)⟩ A (id aq) (id (a.free I)) (id ((a.trans c).free s)) (λx b=>id (M x b)) (λz=>by rw[<-z,ag] at s;cases s) (λz=>by rw[<-z,d.top] at I;cases I) (λz=>by rw[<-z,c _ _ d.top] at s;cases s) (λx b=>⟨λz=>(DN.mp A).1 (z▸b),λz=>?_,λz=>?_⟩);obtain⟨xs,e⟩:=G x b;rw[z,I] at e;cases e;obtain⟨xs,e⟩:=G x b;rw[z] at e;rw[c _ _ e] at s;cases s
def Xu{c d f:Str}{two:Bool}{p:F'}(r:∀x∈p,x=c\/x=d\/x=f)(u:c≠d)(v:c≠f)(w:d≠f){k:Nat}(s:k<p.length) :
 ((p.take k).count f=0/\(two=true\/(p.take k).count d=0))↔k<min (Bd (if two=true then[c,d] else[c]) p+1) p.length:=by
 have m:∀x,x∈(if two=true then[c,d] else[c])↔x=c\/(two=true/\x=d):=λx=>by cases two<;>simp
 constructor;rintro⟨a,b⟩;refine Nat.lt_min.mpr ⟨Nat.lt_succ_of_le (Nat.le_of_not_lt λz=>?_),s⟩;have n:Bd (if two=true then[c,d] else[c]) p<p.length:=by lia
 have l:=OZ n;have o:=AQ n;have hd:p.getD (Bd (if two=true then[c,d] else[c]) p) "" = p[Bd (if two=true then[c,d] else[c]) p]:=by rw[BZ,o];rfl
 rw[hd] at l;have g:p[Bd (if two=true then[c,d] else[c]) p]∈p.take k:=List.mem_iff_getElem?.mpr ⟨_,by rw[List.getElem?_take,AC z];exact o⟩;rcases r _ (Di n) with e|e|e;exact l ((m _).mpr (.inl e));rcases b with b|b;exact l ((m _).mpr (.inr ⟨b,e⟩));rw[e] at g;exact absurd (List.count_pos_iff.mpr g) (by lia);rw[e] at g;exact absurd (List.count_pos_iff.mpr g) (by lia);intro h;have y:k<=Bd (if two=true then[c,d] else[c]) p:=by lia
 have q:∀x∈p.take k,x=c\/(two=true/\x=d):=λx t=>by
  obtain⟨j,i⟩:=List.mem_iff_getElem?.mp t;rw[List.getElem?_take] at i;split at i;have:=OY (ns:=if two=true then[c,d] else[c]) (path:=p) (j:=j) (by lia);rw[BZ,i] at this;exact(m x).mp this;cases i
 refine⟨List.count_eq_zero.mpr λz=>?_,?_⟩;rcases q _ z with e|⟨_,e⟩;exact v e.symm;exact w e.symm
 cases two with
 |true=>exact .inl rfl
 |false=>refine .inr (List.count_eq_zero.mpr λz=>?_);rcases q _ z with e|⟨e,_⟩;exact u e.symm;cases e
variable {ns:F'}
def Ui{c:Str}{p:F'}{k:Nat}(h:k<p.length):(AD ns c p).take (k+1)=(AD ns c p).take k++[C4 ns c p k]:=by rw[FK,NW h];rfl
inductive C6 (K:Ah) (vs:R') (H:Hp) (Q:VK):Prop where
 |mk (u W:Addr) (p:F') (w0 w1 w2 w3:Str) (two:Bool) (h0:vs=[.ref u,.ref W,.bl two]) (h1:H u=some (.tup (p.map V.str))) (h2:p.length<=6) (h3:H W=some (.lst [.str w0,.str w1,.str w2,.str w3])) (h4:(∀x∈p,x=w0\/x=w1\/x=w2)) (h5:w0≠w1) (h6:w0≠w2) (h7:w1≠w2) (h8:∀(r:Addr)(H':Hp),Ac H H'->H' r=some (.tup ((AD (if two=true then[w0,w1] else[w0]) w3 p).map V.str))->Q (.ref r) H'):C6 K vs H Q
def Xv (K:Ah):Sp:=λvs H Q _=>C6 K vs H Q
abbrev Pq(P w K mg base):=AU P w K mg base "_law_named" 1 ["_law_path_here", "_law_words_here", "_law_two"] (Xv K)
theorem Xw(B:A0 mg)(ER:A1 K mg)(F:AW K "_law_named" "_law_named" L3 f fd)(hm:mg "_law_named" = some (.ref f)):Pq P w K mg base:=by
 refine Bn F hm O5 (λvs H ah ai h=>?_) (λa3 a0 a4 a1 H vs ah ai s h=>?_);obtain⟨u,W,p,g,k,t,a,two,rfl,_⟩:=h;rfl
 . obtain⟨u,W,p,g,k,t,a,two,rfl,l,l6,v,hp,al,an,ao,T⟩:=h
   obtain⟨ns,Q⟩:∃ns,ns=(if two=true then[g,k] else[g]):=⟨_,rfl⟩;rw[<-Q] at T
   refine⟨_,(Ai (AM (i:=3) O5.nd (Ch Af))
    (Ai (Bt Bl rfl (Jd rfl B.b_range (Ab (Bh CH B.b_len (Ab (pv 0) Af)) Af)) (An (i:=4) O5.nd) (Ai (AM (i:=5) O5.nd (J5 (Hi DE (G8 PySem.F.slot_tuple_count PySem.F.type_tuple_count (T7 s.units) (Km TZ (pv 0) My (Jg (pv 4))) (Ab (AF AG (pv 1) At) Af)) At (BY _)) (JZ (MW (pv 2) (JZ (Hi DE (G8 PySem.F.slot_tuple_count PySem.F.type_tuple_count (T7 s.units) (Km TZ (pv 0) My (Jg (pv 4))) (Ab (AF AG (pv 1) At) Af)) At (BY _)))))))
     (Ai (BN (Do DC Ej Ek Em (pv 3) (Ab (AF AG (pv 0) (pv 4)) Af)))
     (Ao (Bi (PW.pt (HH (Dq (pv 5)) (HG (Cc DE (AF AG (pv 0) (pv 4)) (AF AG (pv 1) At) (BY _))))) (Ao (Dm (AF AG (pv 1) At) (HJ (pv 3) (pv 4) Jh))) Bj)))))
    (Ao (Ba (EO Qh B.b_tuple (Ab (pv 3) Af)))))),?_⟩
   rfl';refine⟨by decide,λL D=>?_⟩;obtain⟨H1,aq,U,ar⟩:=new_at (o:=.lst []) D;rw[<-aq];refine Ap ?_;cbv;refine⟨_,rfl,_,_,rfl,r6 ⟨_,Am.of (U _ _ l),rfl⟩,_,rfl,by lia,by rw[Al];lia,?_⟩;rw[Al,Ex];refine Mu (lo:=0) (n:=p.length) (λi σ m=>∃(E G:S'),σ=[some (.ref u),some (.ref W),some (.bl two),some (.ref L),E,G]/\Ac H m/\m L=some (.lst (((AD ns a p).take i).map V.str))) ⟨none,none,rfl,U,ar⟩ ?_ ?_;rotate_left;rintro σ H2 ⟨E,G,rfl,x,j⟩;rw[List.take_of_length_le (by rw[FV];exact AB _)] at j;refine⟨_,rfl,L,_,rfl,r4 ⟨Ad.of j,λaj s=>?_⟩⟩;exact T aj _ (x.trans (A3 s)) Aa;rintro i σ H2 y ⟨E,G,rfl,x,j⟩;refine Ap ?_;cbv;rw[Int.zero_add]
   have af:¬(HT.sIx (p.map V.str).length 0 none=0/\HT.sIx (p.map V.str).length (p.map V.str).length (some (i:Int))=(p.map V.str).length):=λz=>by
    have:=z.2;rw[HT.sIx_nat,Al] at this;lia
   have q:=Xu (two:=two) hp al an ao y;rw[<-Q] at q;refine MB (λσ' m=>σ'=[some (.ref u),some (.ref W),some (.bl two),some (.ref L),some (.int (i:Int)),some (.bl (decide (i<min (Bd ns p+1) p.length)))]/\Ac H m/\m L=some (.lst (((AD ns a p).take i).map V.str))) ?_ (λa2 I=>?_)
   case refine_2 =>
    refine⟨_,rfl,_,rfl,_,rfl,u,_,rfl,Am.of (x _ _ l),af,λX J au av=>?_⟩;rw[OG,<-PM];obtain⟨A,aw,d,Y⟩:=new_at (o:=.frz J (.tup ((p.take i).map V.str))) au;rw[<-aw];have r:=x.trans d;refine⟨⟨X,J,_,rfl,Y,av⟩,_,rfl,r4 ⟨W,_,_,.str t,rfl,rfl,Ad.of (r _ _ v),rfl,X,J,p.take i,t,rfl,rfl,Y,rfl,_,rfl,CS (λb=>?_) (λb=>?_)⟩⟩;have b:(p.take i).count t=0:=by have:=V.int.inj (FL b); lia
    refine⟨_,rfl,two,rfl,?_⟩
    cases S:two with
    |true=>refine AR (Ap (I _ _ ⟨?_,r,d _ _ j⟩));rw[Ca (q.mp ⟨b,.inl S⟩),S];rfl
    |false=>
     refine Ar ⟨_,rfl,_,rfl,_,rfl,u,_,rfl,Am.of (r _ _ l),af,λZ M ax ay=>?_⟩;rw[OG,<-PM];obtain⟨H4,az,c,e4⟩:=new_at (o:=.frz M (.tup ((p.take i).map V.str))) ax;rw[<-az];have aa:=r.trans c;refine⟨⟨Z,M,_,rfl,e4,ay⟩,_,rfl,r4 ⟨W,_,_,.str k,rfl,rfl,Ad.of (aa _ _ v),rfl,Z,M,p.take i,k,rfl,rfl,e4,rfl,Ap (I _ _ ⟨?_,aa,c _ _ (d _ _ j)⟩)⟩⟩;rw[S] at q ⊢;have:decide (V.int (((p.take i).count k:Nat):Int)=V.int 0)=decide (i<min (Bd ns p+1) p.length):=(by rw[Bool.eq_iff_iff,decide_eq_true_eq,decide_eq_true_eq,<-q];constructor;intro z;exact⟨b,.inr (by have:=V.int.inj z;lia)⟩;rintro⟨_,z|z⟩;cases z;rw[z];rfl);rw[this];rfl
    refine Ap (I _ _ ⟨?_,r,d _ _ j⟩);rw[BM λz=>b (Ca (by rw[(q.mpr z).1];rfl))];rfl
   rintro σ' A ⟨rfl,d,ab⟩;have N:=AQ y;have R:p.getD i "" = p[i]:=by rw[BZ,N];rfl
   have lt:((AD ns a p).take i).length=i:=by rw[DM,FV];lia
   refine⟨_,rfl,r4 ⟨rfl,_,Ad.of ab⟩,_,rfl,_,rfl,r6 (r4 ⟨u,_,_,.str p[i],rfl,rfl,Am.of (d _ _ l),Ck (by rw[AV,N];rfl),L,_,_,rfl,rfl,ab,by rw[Al,lt];exact Bz (by lia),?_⟩)⟩;have c:Ac H (upd A L (.lst (((AD ns a p).take i).map V.str++[V.str p[i]]))):=λak o e=>by rw[Ax (AN e D)];exact d _ _ e
   have C:(upd A L (.lst (((AD ns a p).take i).map V.str++[V.str p[i]]))) L=some (.lst (((AD ns a p).take i++[p[i]]).map V.str)):=by rw[Aa,By];rfl
   generalize upd A L (.lst (((AD ns a p).take i).map V.str++[V.str p[i]]))=H4 at c C ⊢;cbv
   have ae:AX ns (p.getD i "")=some 0↔p[i]=g:=by
    rw[R,Q];cases two with|true=>exact B5|false=>exact B5
   have ag:C4 ns a p i=p[i]->(((AD ns a p).take i++[p[i]]).map V.str)=((AD ns a p).take (i+1)).map V.str:=λe=>by rw[Ui y,e]
   refine⟨_,rfl,_,rfl,CS (λO=>?_) (λO=>Ar ?_)⟩;refine⟨_,rfl,_,rfl,r6 (r4 ⟨u,_,_,.str p[i],rfl,rfl,Am.of (c _ _ l),Ck (by rw[AV,N];rfl),_,rfl,r4 ⟨W,_,_,.str g,rfl,rfl,Ad.of (c _ _ v),rfl,rfl,_,rfl,CS (λb=>?_) (λb=>?_)⟩⟩)⟩;have b:p[i]=g:=V.str.inj (FL b);refine⟨_,rfl,r4 ⟨W,_,_,.str a,rfl,rfl,Ad.of (c _ _ v),rfl,_,rfl,_,rfl,L,_,_,i,rfl,rfl,C,by rw[Al,BC,lt];exact Jm (by lia) (by show(i:Int)<((i+1:Nat):Int);lia),?_⟩⟩;refine⟨_,_,rfl,λak o e=>?_,?_⟩;rw[Ax (AN e D)];exact c _ _ e;rw[Aa,Ui y,By,By,List.set_append_right _ _ (by rw[Al,lt];exact AB _),Al,lt,Nat.sub_self];have:C4 ns a p i=a:=AC ⟨FL O,ae.mpr b⟩;rw[this];rfl;refine⟨_,_,rfl,c,?_⟩;rw[<-ag (by unfold C4;rw[AA λz=>b (Ca (by rw[ae.mp z.2])),R])];exact C;refine⟨_,_,rfl,c,?_⟩;rw[<-ag (by unfold C4;rw[AA λz=>O (Ca z.1),R])];exact C
inductive Bx (K:Ah) (vs:R') (H:Hp) (Q:VK):Prop where
 |mk (nt:Addr) (v i:Nat) (ss:List AO) (gs:G') (qs:U') (s:AO) (h0:vs=[.ref nt,.int (v:Int),.int (i:Int)]) (h1:B9 H nt ss gs qs) (h2:ss[v]?=some s) (h3:i<s.2.length) (h4:Q .non H):Bx K vs H Q
def Xx (K:Ah):Sp:=λvs H Q _=>Bx K vs H Q
abbrev Rx(P w K mg base):=AU P w K mg base "refuse_no_telling" 3 ["net", "scope", "index"] (Xx K)
theorem Xy(B:A0 mg)(x:A1 K mg)(d:Jw P w K mg base)(F:AW K "refuse_no_telling" "refuse_no_telling" L4 f fd)(g:mg "refuse_no_telling" = some (.ref f)):Rx P w K mg base:=by refine Bn F g WE (λj H Q E h=>?_) (λM A O s H j Q E y h=>?_);obtain⟨a,v,i,k,l,m,Z,rfl,_⟩:=h;rfl;obtain⟨a,v,i,k,l,m,Z,rfl,N,n,z,q⟩:=h;obtain⟨S,T,R,us,u,G,o,C,D,b,e,c,p,I,J,r,t⟩:=N.sco n;have L:v<us.length:=(AS.mp c).1;refine⟨_,(Ao (Bi (PW.pt (Ja (E6 (Dq (AK d (Ab (pv 1) (Ab (Bh CH B.b_len (Ab (AF AG (pv 0) At) Af)) Af))))) (Mt (E6 (Dq (AK d (Ab (pv 2) (Ab (Bh CH B.b_len (Ab (AF AG (AF AG (AF AG (pv 0) At) (pv 1)) At) Af)) Af)))))))) (Ao Cg) Bj)),?_⟩;rfl';refine⟨_,rfl,_,rfl,r6 (r4 ⟨a,_,_,.ref S,rfl,rfl,Am.of b,rfl,_,_,rfl,r4 ⟨_,Ad.of e,rfl⟩,_,_,rfl,by lia,by rw[Al];lia,_,rfl,Ar ?_⟩)⟩;refine⟨_,rfl,_,rfl,r6 (r4 ⟨a,_,_,.ref S,rfl,rfl,Am.of b,rfl,_,rfl,r4 ⟨S,_,_,.ref u,rfl,rfl,Ad.of e,Ck (by rw[AV,c];rfl),r6 (r4 ⟨u,_,_,.ref o,rfl,rfl,Am.of p,rfl,_,_,rfl,r4 ⟨_,Ad.of r,rfl⟩,_,_,rfl,by lia,by rw[Al,t.len];lia,_,rfl,Ar ?_⟩)⟩⟩)⟩;exact q
inductive C7 (K:Ah) (vs:R') (H:Hp) (Q:VK):Prop where
 |mk (t:Addr) (lab lbt w:Str) (h0:vs=[.ref t,.int 0,.str w]) (h1:BB K H t lab lbt) (h2:(lab=w->Q (.int 0) H)) (h3:(lab≠w->Q .non H)):C7 K vs H Q
def Xz (K:Ah):Sp:=λvs H Q _=>C7 K vs H Q
abbrev Ry(P w K mg base):=AU P w K mg base "next_state" 1 ["table", "state", "label"] (Xz K)
def XA(B:A0 mg)(M:A1 K mg)(F:AW K "next_state" "next_state" L5 f fd)(m:mg "next_state" = some (.ref f)):Ry P w K mg base:=by
 refine Bn F m O6 (λp H Q E h=>?_) (λU A W s H p Q E N h=>?_);obtain⟨t,b,J,w,rfl,_⟩:=h;rfl;obtain⟨t,b,J,w,rfl,⟨a,o,u,g,e,gt,O,q,r,v,j,y,R,S,T⟩,C,D⟩:=h
 refine⟨_,(Ai (AM (i:=3) O6.nd (AF AG (AF AG (AF AG (pv 0) At) (pv 1)) At))
  (Ai (Bt Bl rfl (Bm (pv 3)) (Bf (n:=2) rfl (Av (An (i:=4) O6.nd) (Av (An (i:=5) O6.nd) Be))) (Ao (Bi (Cc DE (pv 4) (pv 2) (BY _)) (Ao (Ba (pv 5))) Bj)))
  (Ao (Ba I0)))),?_⟩
 rfl';refine⟨_,rfl,r6 (r4 ⟨t,_,_,.ref a,rfl,rfl,Am.of q,rfl,_,rfl,r4 ⟨a,_,_,.ref u,rfl,rfl,Ad.of r,rfl,r6 (r4 ⟨u,_,_,.ref g,rfl,rfl,Am.of v,rfl,?_⟩)⟩⟩)⟩;refine Ap ?_;cbv;refine⟨_,rfl,g,rfl,⟨_,j⟩,CQ (xs:=[.ref gt]) (λi σ k=>∃c d,σ=[some (.ref t),some (.int 0),some (.str w),some (.ref g),c,d]/\k=H/\(0<i->b≠w)) ⟨none,none,rfl,rfl,λz=>absurd z (EV _)⟩ (λi σ k _ L=>by obtain⟨_,_,_,e,_⟩:=L;exact by rw[e];exact j) ?_ ?_⟩;rintro i x σ G l ⟨c,d,rfl,rfl,_⟩
 obtain rfl:x=.ref gt:=by
  cases i with|zero=>cases l;rfl|succ i=>simp at l
 refine⟨gt,_,rfl,y,rfl,_,_,rfl,_,_,rfl,rfl,?_⟩;refine⟨_,rfl,_,rfl,rfl,_,rfl,?_⟩;by_cases e:b=w;rw[Ca (show V.str b=V.str w by rw[e])];exact AR ⟨_,rfl,C e⟩;rw[BM (show ¬V.str b=V.str w from λz=>e (V.str.inj z))];exact Ar ⟨_,_,rfl,rfl,λ_=>e⟩;rintro σ G ⟨c,d,rfl,rfl,I⟩;exact D (I Nat.zero_lt_one)
inductive Hb (K:Ah) (vs:R') (H:Hp) (Q:VK):Prop where
 |mk (net ans:V) (t:Addr) (w:Str) (k:Int) (h0:vs=[net,ans,.ref t]) (h1:Am K H t [.str w,.str "to",.int k]) (h2:∀(r:Addr)(H':Hp),H r=none->Ac H H'->H' r=some (.tup [.str "to",.int k])->Q (.ref r) H'):Hb K vs H Q
def IR (K:Ah):Sp:=λvs H Q _=>Hb K vs H Q
abbrev Rz(P w K mg base):=AU P w K mg base "goal" 1 ["net", "answers", "step"] (IR K)
def XB(B:A0 mg)(j:A1 K mg)(F:AW K "goal" "goal" L6 f fd)(b:mg "goal" = some (.ref f)):Rz P w K mg base:=by
 refine Bn F b O7 (λc H Q E h=>?_) (λl A m s H c Q E a h=>?_);obtain⟨e,g,t,w,k,rfl,_⟩:=h;rfl;obtain⟨e,g,t,w,k,rfl,d,q⟩:=h
 refine⟨_,(Ai (Dm (pv 2) (Bf (n:=3) rfl (Av (An (i:=3) O7.nd) (Av (An (i:=4) O7.nd) (Av (An (i:=5) O7.nd) Be)))))
  (Ai (Bi (Cc DE (pv 4) B0 (BY _)) (Ao (Ba (BR (Ab B0 (Ab (pv 5) Af))))) Bj)
  (Ai Cg
  (Ai Cg
  (Ai Cg
  (Ao Cg)))))),?_⟩
 rfl';refine⟨_,rfl,t,_,rfl,d,rfl,_,_,rfl,_,_,rfl,_,_,rfl,rfl,?_⟩;refine⟨_,rfl,rfl,_,rfl,AR ?_⟩;exact⟨_,rfl,DS,λr a=>q r _ a (A3 a) Aa⟩
inductive C8 (K:Ah) (vs:R') (H:Hp) (Q:VK):Prop where
 |mk (net t:Addr) (ans:V) (v:Nat) (lab lbt:Str) (ss:List AO) (gs:G') (qs:U') (l:Nat) (ns:F') (h0:vs=[.ref net,ans,.ref t,.int (v:Int),.int 0]) (h1:B9 H net ss gs qs) (h2:DV ss gs lab lbt l ns) (h3:v<ss.length) (h4:BB K H t lab lbt) (h5:∀(D:Addr)(H':Hp),H D=none->Ac H H'->(v=l->H' D=some (.lst []))->(v≠l->∃g m,H' D=some (.lst [.ref g])/\H' g=some (.tup [.ref m,.str "to",.int ((Bv ss.length v 1:Nat):Int),.int 0])/\H' m=some (.tup [.int (v:Int),.str "step",.int 0]))->Q (.ref D) H'):C8 K vs H Q
def XC (K:Ah):Sp:=λvs H Q _=>C8 K vs H Q
abbrev Pr(P w K mg base):=AU P w K mg base "steps_gone" 2 ["net", "answers", "table", "scope", "state"] (XC K)
def XD(an:A0 mg)(ER:A1 K mg)(ay:Ry P w K mg base)(az:Rz P w K mg base)(F:AW K "steps_gone" "steps_gone" L7 f fd)(J:mg "steps_gone" = some (.ref f)):Pr P w K mg base:=by
 refine Bn F J Lr (λvs aa ao aq h=>?_) (λa6 a4 a7 a5 aa vs ao aq hr h=>?_);obtain⟨y,t,U,v,A,ah,L,gs,qs,ab,ns,rfl,_⟩:=h;rfl;obtain⟨y,t,U,v,A,ah,L,gs,qs,ab,ns,rfl,ae,af,hv,ar,ag⟩:=h
 refine⟨_,(Ai (AM (i:=5) Lr.nd (Ch Af))
  (Ai (Bt Bl rfl (NG rfl an.b_enumerate (Ab (AF AG (AF AG (AF AG (pv 0) At) (pv 3)) At) Af)) (Bf (n:=2) rfl (Av (An (i:=6) Lr.nd) (Av (An (i:=7) Lr.nd) Be))) (Ai (AM (i:=8) Lr.nd (AK ay (Ab (pv 2) (Ab (pv 4) (Ab (AF AG (pv 7) At) Af)))))
   (Ao (Bi (Hh (PV (pv 8))) (Ai (Dm (AK az (Ab (pv 0) (Ab (pv 1) (Ab (pv 7) Af)))) (Bf (n:=2) rfl (Av (An (i:=9) Lr.nd) (Av (An (i:=10) Lr.nd) Be))))
    (Ao (BN (Do DC Ej Ek Em (pv 5) (Ab (BR (Ab (BR (Ab (pv 3) (Ab B0 (Ab (pv 6) Af)))) (Ab (pv 9) (Ab (pv 10) (Ab (pv 8) Af))))) Af))))) Bj))))
  (Ao (Ba (pv 5))))),?_⟩
 rfl';refine⟨by decide,λD B=>?_⟩;obtain⟨H1,a0,b,ai⟩:=new_at (o:=.lst []) B;rw[<-a0];refine Ap ?_;cbv;by_cases I:v=ab;obtain⟨S,Tq,au,us,u,G,E1,C,tE,M,Z,N,O,r,E,eE,rE⟩:=ae.sco (I▸af.la);obtain rfl:C=[]:=List.length_eq_zero_iff.mp E.len
 refine⟨_,rfl,r6 (r4 ⟨y,_,_,.ref S,rfl,rfl,Am.of (b _ _ M),rfl,_,rfl,r4 ⟨S,_,_,.ref u,rfl,rfl,Ad.of (b _ _ Z),Ck (by rw[AV,N];rfl),r6 (r4 ⟨u,_,_,.ref G,rfl,rfl,Am.of (b _ _ O),rfl,G,rfl,⟨_,b _ _ r⟩,MG (xs:=[]) (λi σ c=>∃d j k l q,σ=[some (.ref y),some U,some (.ref t),some (.int (v:Int)),some (.int 0),some (.ref D),d,j,k,l,q]/\c=H1)
  ⟨none,none,none,none,none,rfl,rfl⟩ (λi σ c W=>by obtain⟨_,_,_,_,_,_,e⟩:=W;exact by rw[e];exact Ad.of (b _ _ r)) ?_ ?_⟩)⟩⟩)⟩
 intro i x Q σ p H;simp at H;rintro σ p ⟨d,j,k,l,q,rfl,rfl⟩;exact⟨_,rfl,ag D p B b (λ_=>ai) λz=>absurd I z⟩;obtain⟨S,Tq,au,us,u,G,E1,C,tE,M,Z,N,O,r,E,eE,rE⟩:=ae.sco (af.st v hv I)
 obtain⟨a,rfl⟩:∃a,C=[a]:=by
  have:=E.len
  match C,this with
  |[a],_=>exact⟨a,rfl⟩
 have aj:=E.at_ 0 a _ rfl rfl
 refine⟨_,rfl,r6 (r4 ⟨y,_,_,.ref S,rfl,rfl,Am.of (b _ _ M),rfl,_,rfl,r4 ⟨S,_,_,.ref u,rfl,rfl,Ad.of (b _ _ Z),Ck (by rw[AV,N];rfl),r6 (r4 ⟨u,_,_,.ref G,rfl,rfl,Am.of (b _ _ O),rfl,G,rfl,⟨_,b _ _ r⟩,MG (xs:=[V.ref a]) (λi σ c=>∃d j k l q,σ=[some (.ref y),some U,some (.ref t),some (.int (v:Int)),some (.int 0),some (.ref D),d,j,k,l,q]/\Ac aa c/\(i=0->c D=some (.lst []))/\(i=1->∃g m,c D=some (.lst [.ref g])/\c g=some (.tup [.ref m,.str "to",.int ((Bv L.length v 1:Nat):Int),.int 0])/\c m=some (.tup [.int (v:Int),.str "step",.int 0])))
  ⟨none,none,none,none,none,rfl,b,λ_=>ai,λz=>by cases z⟩ (λi σ c W=>by obtain⟨_,_,_,_,_,_,e,_⟩:=W;exact Ad.of (e _ _ r)) ?_ ?_⟩)⟩⟩)⟩
 rintro i x Q σ p H hT ⟨d,j,k,l,q,rfl,R,X,_⟩
 obtain⟨rfl,rfl⟩:i=0/\x=.ref a:=by
  cases i with|zero=>cases H;exact⟨rfl,rfl⟩|succ i=>simp at H
 have X:=X rfl;have s:=R.trans (A3 (o:=.tup [.int (0:Nat),.ref a]) hT);have Y:=A3 (o:=.tup [.int (0:Nat),.ref a]) hT _ _ X;refine⟨Q,_,rfl,Am.of Aa,rfl,_,_,rfl,_,_,rfl,rfl,?_⟩;generalize upd p Q (.tup [.int (0:Nat),.ref a])=H3 at s Y ⊢;refine⟨_,rfl,_,rfl,_,rfl,r6 (r4 ⟨a,_,_,.str A,rfl,rfl,Am.of (s _ _ aj),rfl,t,A,ah,A,rfl,ar.same s,λe=>?_,λe=>absurd rfl e⟩)⟩;refine Ap ?_;cbv;refine⟨_,rfl,_,rfl,AR ?_⟩;refine⟨_,rfl,_,rfl,_,rfl,_,_,a,A,_,rfl,Am.of (s _ _ aj),λav H4 hr s4 er=>⟨av,_,rfl,Am.of er,rfl,_,_,rfl,_,_,rfl,rfl,?_⟩⟩;refine⟨_,rfl,r4 ⟨rfl,_,Ad.of (s4 _ _ Y)⟩,_,rfl,_,rfl,Fx,λm J=>?_⟩;obtain⟨H5,a1,s5,ax⟩:=new_at (o:=.tup [.int (v:Int),.str "step",.int ((0:Nat):Int)]) J;rw[<-a1];refine⟨_,rfl,_,rfl,_,rfl,Ld,λg a2=>?_⟩;obtain⟨H6,a3,s6,eg⟩:=new_at (o:=.tup [.ref m,.str "to",.int ((Bv L.length v 1:Nat):Int),.int 0]) a2;rw[<-a3];have ak:=(s4.trans s5).trans s6;have al:=ak _ _ Y;have kt:∀{x:Addr}{T:R'},H6 x=some (.tup T)->(upd H6 D (.lst ([]++[V.ref g]))) x=some (.tup T):=λ{x T}e=>by rw[Ax λz=>by rw[z,al] at e;cases e];exact e
 refine⟨D,_,_,rfl,rfl,al,(by show 0<sizeLine;decide),?_⟩;refine⟨_,_,_,_,_,rfl,λaw o e=>?_,(λz=>by cases z),λ_=>⟨g,m,Aa,kt eg,kt (s6 _ _ ax)⟩⟩;rw[Ax (AN e B)];exact ak _ _ (s aw o e);rintro σ p ⟨d,j,k,l,q,rfl,R,_,e2⟩;exact⟨_,rfl,ag D p B R (λz=>absurd z I) λ_=>e2 rfl⟩
def Fs (F:Addr->Prop) (H:Hp) (a:Addr) (b:Eg):Prop:=∃ml ts,F ml/\H a=some (.tup [.ref ml,.int (b.2:Int),.int 0])/\H ml=some (.lst (ts.map V.ref))/\EX H ts b.1
variable {H:Hp}
def Fs.c{F:Addr->Prop}{a:Addr}{b:Eg}(h:Fs F H a b):Ho H a b:=let ⟨c,d,_,e,f,g⟩:=h;⟨c,d,e,f,g⟩
def Fs.same{F:Addr->Prop}{H c:Hp}{a:Addr}{b:Eg}(e:Ac H c)(h:Fs F H a b):Fs F c a b:=let ⟨d,f,g,i,j,k⟩:=h;⟨d,f,g,e _ _ i,e _ _ j,k.same e⟩
def Fs.mono{F c:Addr->Prop}{a:Addr}{b:Eg}(e:∀x,F x->c x)(h:Fs F H a b):Fs c H a b:=let ⟨d,f,g,h⟩:=h;⟨d,f,e _ g,h⟩
def Fs.updL{F:Addr->Prop}{H:Hp}{D:Addr}{o:HO}{ys:R'}{a:Addr}{b:Eg}(d:H D=some (.lst ys))(f:∀x,F x->x≠D)(h:Fs F H a b):Fs F (upd H D o) a b:=by obtain⟨g,i,e,c,j,k⟩:=h;exact⟨g,i,e,by rw[Ax λz=>by rw[z,d] at c;cases c];exact c,by rw[Ax (f _ e)];exact j,k.updL d⟩
theorem Uj{K:Ah}{H:Hp}:∀(l:M'),Au K H (l.map λn:Nat=>V.int (n:Int)) (l.map λn:Nat=>Dt.int (n:Int))
 |[]=>.nil
 |_::l=>.cons (.int _) (Uj l)
abbrev Od (F:Addr->Prop) (H:Hp) (zs:List (Addr×Eg)):Prop:=∀z∈zs,Fs F H z.1 z.2
def IS(m v j:Nat):Cz m v (j+1)=((Cz m v j).1++[((Cz m v j).2,0)],Bv m v (j+1)):=by unfold Cz;rw[List.range_succ,By];rfl
inductive BH (K:Ah) (vs:R') (H:Hp) (Q:VK):Prop where
 |mk (net t a:Addr) (ans:V) (v j:Nat) (lab lbt:Str) (ss:List AO) (gs:G') (qs:U') (l:Nat) (ns:F') (h0:vs=[.ref net,ans,.ref t,.ref a]) (h1:B9 H net ss gs qs) (h2:DV ss gs lab lbt l ns) (h3:v<ss.length) (h4:j<=Du ss.length l v) (h5:BB K H t lab lbt) (h6:Ho H a (Cz ss.length v j)) (h7:∀(D:Addr)(zs:List (Addr×Eg))(H':Hp),H D=none->Ac H H'->H' D=some (.lst (zs.map λz=>V.ref z.1))->Od (λx=>H x=none) H' zs->zs.map (·.2)=(if j<Du ss.length l v then[Cz ss.length v (j+1)] else[])->Q (.ref D) H'):BH K vs H Q
def XE (K:Ah):Sp:=λvs H Q _=>BH K vs H Q
abbrev RA(P w K mg base):=AU P w K mg base "longer_by_a_step" 3 ["net", "answers", "table", "beginning"] (XE K)
def XF(aM:A0 mg)(ER:A1 K mg)(ay:Pr P w K mg base)(F:AW K "longer_by_a_step" "longer_by_a_step" JJ f fd)(R:mg "longer_by_a_step" = some (.ref f)):RA P w K mg base:=by
 refine Bn F R Hr (λvs H aq ar h=>?_) (λaQ aN aS aO H vs aq ar hr h=>?_);obtain⟨X,t,a,Y,v,j,ag,ah,b,gs,qs,l,ns,rfl,_⟩:=h;rfl;obtain⟨X,t,a,Y,v,j,ag,ah,b,gs,qs,l,ns,rfl,au,C,u,hj,av,⟨S,m,h1,h2,h3⟩,q⟩:=h;have aa:=h3.len;have m0:0<b.length:=(by lia);have dm:=Hq (l:=l) (v:=v) m0;have aR:=C.m40;have lb:(Cz b.length v j).1.length=j:=by unfold Cz;simp
 refine⟨_,(Ai (Dm (pv 3) (Bf (n:=3) rfl (Av (An (i:=4) Hr.nd) (Av (An (i:=5) Hr.nd) (Av (An (i:=6) Hr.nd) Be)))))
  (Ai (AM (i:=7) Hr.nd (A9 Ji (EQ (te:=EN (Hk K) (Bg 0) (tC (.int ((0:Nat):Int)))) rfl Bq (Bm (pv 4)) (λ_ _ _ _ _=>(An (i:=0) Bq.nd)) (λ_ _ _ _ _=>EC) (λ_ _ _ _ _=>(AF AG (pv 0) At))) (Ch (Ab (pv 5) Af))))
  (Ai (AM (i:=8) Hr.nd (Ch Af))
  (Ai (Bt Bl rfl (Bm (AK ay (Ab (pv 0) (Ab (pv 1) (Ab (pv 2) (Ab (pv 5) (Ab (pv 6) Af))))))) (Bf (n:=4) rfl (Av (An (i:=9) Hr.nd) (Av (An (i:=10) Hr.nd) (Av (An (i:=11) Hr.nd) (Av (An (i:=12) Hr.nd) Be))))) (Ao (Bi (PW.pt (HH (Cc DE (pv 10) B0 (BY _)) (HG (Cc (Vj hr.units) (pv 11) (pv 7) (by with_unfolding_all rfl))))) (Ao (BN (Do DC Ej Ek Em (pv 8) (Ab (BR (Ab (A9 Ji (pv 4) (Ch (Ab (pv 9) Af))) (Ab (pv 11) (Ab (pv 12) Af)))) Af)))) Bj)))
  (Ao (Ba (pv 8))))))),?_⟩
 rfl';refine⟨_,rfl,a,_,rfl,Am.of h1,rfl,_,_,rfl,_,_,rfl,_,_,rfl,rfl,?_⟩;cbv;refine⟨_,rfl,S,rfl,⟨_,Ad.of h2⟩,KN (xs:=m.map V.ref) (λC i L c=>Ac H c/\c C=some (.lst L)/\L=((Cz b.length v j).1.take i).map λp=>V.int (p.1:Int)) (λC hC=>⟨A3 hC,Aa,rfl⟩) (λC i L c N=>by obtain⟨s1,_⟩:=N;exact Ad.of (s1 _ _ h2)) (λC i x L H2 aP ai d u k=>?_) (λC1 L H2 ai az=>?_)⟩;obtain⟨T,U,rfl⟩:=u;obtain⟨af,R,rfl⟩:=getm d;have a0:i<(Cz b.length v j).1.length:=by rw[<-aa];exact(AS.mp R).1
 have hp:=AQ a0;have ax:=T _ _ (h3.at_ i af _ R hp);refine⟨_,rfl,r6 (r4 ⟨af,_,_,.int (((Cz b.length v j).1[i]).1:Int),rfl,rfl,Am.of ax,rfl,?_⟩)⟩;refine k _ _ U (by rw[Al,DM];exact Bz (by lia)) ⟨λx o e=>?_,Aa,?_⟩;rw[Ax (AN e ai)];exact T x o e;rw[FK,hp,By];rfl;obtain⟨T,U,rfl⟩:=az;rw[Al,aa,Jz] at U;refine⟨_,rfl,Fa,λC2 a1=>?_⟩;obtain⟨H3,a2,s3,a3⟩:=new_at (o:=.lst [.int ((Cz b.length v j).2:Int)]) a1;rw[<-a2];refine⟨C1,C2,_,_,rfl,rfl,s3 _ _ U,a3,by rw[Al,lb];exact Dk (Bz (show _+1<=1000 by lia)),λC3 a4=>?_⟩;have ev:((Cz b.length v j).1.map λp=>V.int (p.1:Int))++[V.int ((Cz b.length v j).2:Int)]=((List.range (j+1)).map λi=>Bv b.length v i).map λn:Nat=>V.int (n:Int):=(by unfold Cz;rw[List.range_succ,By,By,DI,DI];rfl);rw[ev];obtain⟨H4,a5,s4,a6⟩:=new_at (o:=.lst (((List.range (j+1)).map λi=>Bv b.length v i).map λn:Nat=>V.int (n:Int))) a4;rw[<-a5];have aj:=(T.trans s3).trans s4;refine Ap ?_;cbv;refine⟨by decide,λD hD=>?_⟩;obtain⟨H5,a7,s5,eD⟩:=new_at (o:=.lst []) hD;rw[<-a7];have ab:H D=none:=aj.free hD;have ae:=aj.trans s5;have ha:Bv b.length v j<b.length:=NP m0;refine Ap ?_;cbv;refine⟨_,rfl,_,rfl,_,rfl,_,rfl,_,rfl,X,t,Y,Bv b.length v j,ag,ah,b,gs,qs,l,ns,rfl,au.same ae,C,ha,av.same ae,λG H6 hG s6 e0 e1=>?_⟩;have B:=ae.trans s6;have aK:=s6 _ _ (s5 _ _ a6);have a8:G≠D:=λz=>by rw[z,eD] at hG;cases hG
 have O:=s6 _ _ eD;by_cases ak:j<Du b.length l v
 have a9:Bv b.length v j≠l:=λz=>by
  have:=OW u (by lia) dm (z.trans (NQ u C.hl).symm);lia
 obtain⟨g,mk,y,eg,aA⟩:=e1 a9;rw[IA] at eg;rw[AC ak] at q
 refine⟨G,rfl,⟨_,Ad.of y⟩,CQ (xs:=[V.ref g]) (λi σ c=>∃(A E I J:S')(r:List (Addr×Eg)),σ=[some (.ref X),some Y,some (.ref t),some (.ref a),some (.ref S),some (.int ((Cz b.length v j).2:Int)),some (.int 0),some (.ref C3),some (.ref D),A,E,I,J]/\Ac H c/\c G=some (.lst [.ref g])/\c D=some (.lst (r.map λz=>V.ref z.1))/\Od (λx=>H x=none/\x≠D) c r/\(i=0->c=H6/\r=[])/\(i=1->r.map (·.2)=[Cz b.length v (j+1)]))
  ⟨none,none,none,none,[],rfl,B,y,O,(λz s=>by simp at s),λ_=>⟨rfl,rfl⟩,λz=>by cases z⟩ (λi σ c _ N=>by obtain⟨_,_,_,_,_,_,_,e,_⟩:=N;exact Ad.of e) ?_ ?_⟩
 rintro i x σ M d ⟨A,E,I,J,r,rfl,_,_,_,_,e7,_⟩
 obtain⟨rfl,rfl⟩:i=0/\x=.ref g:=by
  cases i with|zero=>cases d;exact⟨rfl,rfl⟩|succ i=>simp at d
 obtain⟨rfl,rfl⟩:=e7 rfl;refine⟨g,_,rfl,Am.of eg,rfl,_,_,rfl,_,_,rfl,_,_,rfl,_,_,rfl,rfl,?_⟩;refine⟨_,rfl,rfl,_,rfl,AR ?_⟩;refine⟨_,rfl,_,rfl,1,.int ((Bv b.length v (j+1):Nat):Int),((List.range (j+1)).map λi=>Bv b.length v i).map λn:Nat=>Dt.int (n:Int),C3,_,λe he=>?_,by decide,.int _,rfl,Ad.of aK,Uj _,_,rfl,?_⟩;obtain⟨n,_,rfl⟩:=Bo.mp he;exact .int _ _
 have aB:¬(Dt.int ((Bv b.length v (j+1):Nat):Int)∈((List.range (j+1)).map λi=>Bv b.length v i).map λn:Nat=>Dt.int (n:Int)):=λz=>by
  obtain⟨n,hn,e⟩:=Bo.mp z;obtain⟨i,hi,rfl⟩:=Bo.mp hn;have hi:=List.mem_range.mp hi;injection e with e;have:=OW u (by lia) (by lia) (show Bv b.length v i=Bv b.length v (j+1) by lia);lia
 rw[Fk aB];refine AR ⟨_,rfl,r4 ⟨rfl,_,Ad.of O⟩,_,rfl,_,rfl,Fa,λL1 aC=>?_⟩;obtain⟨H8,aD,W,aE⟩:=new_at (o:=.lst [.ref mk]) aC;rw[<-aD];have aF:=(B.trans W) _ _ h2;refine⟨S,L1,_,_,rfl,rfl,aF,aE,by rw[Al,aa,lb];exact Dk (Bz (show _+1<=1000 by lia)),λL2 Z=>?_⟩;have s9:=A3 (o:=.lst (m.map V.ref++[.ref mk])) Z;have al:(upd H8 L2 (.lst (m.map V.ref++[.ref mk]))) L2=some (.lst ((m++[mk]).map V.ref)):=by rw[Aa,By];rfl
 generalize upd H8 L2 (.lst (m.map V.ref++[.ref mk]))=H9 at s9 al ⊢;refine⟨_,rfl,_,rfl,Fx,λaw hr=>?_⟩;obtain⟨aG,aL,an,er⟩:=new_at (o:=.tup [.ref L2,.int ((Bv b.length v (j+1):Nat):Int),.int 0]) hr;rw[<-aL];have Q:=(W.trans s9).trans an;have ao:=Q _ _ O;have aH:L2≠D:=λz=>by rw[z,W _ _ O] at Z;cases Z
 have aI:H L2=none:=(B.trans W).free Z;refine⟨D,_,_,rfl,rfl,ao,(by show 0<sizeLine;decide),?_⟩;refine⟨_,_,_,_,[(aw,Cz b.length v (j+1))],rfl,λx o e=>?_,by rw[Ax a8];exact Q _ _ y,Aa,λz s=>?_,(λz=>by cases z),λ_=>rfl⟩;rw[Ax (AN e ab)];exact Q _ _ (B x o e);refine Fs.updL ao (λx d=>d.2) ?_;rw[D7.mp s];refine⟨L2,m++[mk],⟨aI,aH⟩,?_,an _ _ al,?_⟩;exact er;show EX aG (m++[mk]) (Cz b.length v (j+1)).1;rw[IS];exact((h3.same B).same Q).snoc (p:=(Bv b.length v j,0)) (Q _ _ aA);rintro σ M ⟨A,E,I,J,r,rfl,s7,_,aJ,A7,_,Z7⟩;exact⟨_,rfl,q D r M ab s7 aJ (λz s=>(A7 z s).mono λx d=>d.1) (Z7 rfl)⟩;have hl:Bv b.length v j=l:=(by rw[show j=Du b.length l v by lia];exact NQ u C.hl);have y:=e0 hl;rw[AA ak] at q
 refine⟨G,rfl,⟨_,Ad.of y⟩,CQ (xs:=[]) (λi σ c=>∃(A E I J:S'),σ=[some (.ref X),some Y,some (.ref t),some (.ref a),some (.ref S),some (.int ((Cz b.length v j).2:Int)),some (.int 0),some (.ref C3),some (.ref D),A,E,I,J]/\c=H6)
  ⟨none,none,none,none,rfl,rfl⟩ (λi σ c _ N=>by obtain⟨_,_,_,_,_,e⟩:=N;exact by rw[e];exact Ad.of y) ?_ ?_⟩
 intro i x σ M d;simp at d;rintro σ M ⟨A,E,I,J,rfl,rfl⟩;exact⟨_,rfl,q D [] M ab B O (λz s=>by simp at s) rfl⟩
inductive C9 (K:Ah) (vs:R') (H:Hp) (Q:VK):Prop where
 |mk (net t:Addr) (ans:V) (v:Nat) (lab lbt:Str) (ss:List AO) (gs:G') (qs:U') (l:Nat) (ns:F') (h0:vs=[.ref net,ans,.ref t,.int (v:Int),.int 0]) (h1:B9 H net ss gs qs) (h2:DV ss gs lab lbt l ns) (h3:v<ss.length) (h4:BB K H t lab lbt) (h5:∀(D:Addr)(zs:List (Addr×Eg))(H':Hp),H D=none->Ac H H'->H' D=some (.lst (zs.map λz=>V.ref z.1))->(∀z∈zs,Ho H' z.1 z.2)->(zs.map (·.2)).Perm ((List.range (Du ss.length l v+1)).map (Cz ss.length v))->Q (.ref D) H'):C9 K vs H Q
def XG (K:Ah):Sp:=λvs H Q _=>C9 K vs H Q
abbrev RB(P w K mg base):=AU P w K mg base "beginnings" 4 ["net", "answers", "table", "scope", "state"] (XG K)
theorem XH(B:A0 mg)(ER:A1 K mg)(ao:RA P w K mg base)(F:AW K "beginnings" "beginnings" L8 f fd)(hm:mg "beginnings" = some (.ref f)):RB P w K mg base:=by
 refine Bn F hm O8 (λvs H aj ak h=>?_) (λaB a8 aE a9 H vs aj ak N h=>?_);obtain⟨L,t,M,v,aa,ab,g,X,Y,l,ns,rfl,_⟩:=h;rfl;obtain⟨L,t,M,v,aa,ab,g,X,Y,l,ns,rfl,al,C,Z,an,q⟩:=h;have m0:0<g.length:=(by lia);have dm:=Hq (l:=l) (v:=v) m0;have aC:=C.m40;obtain⟨d,ed⟩:∃d,d=Du g.length l v:=⟨_,rfl⟩;rw[<-ed] at dm q
 refine⟨_,(Ai (AM (i:=5) O8.nd (Ch (Ab (BR (Ab (Ch Af) (Ab (pv 3) (Ab (pv 4) Af)))) Af)))
  (Ai (AM (i:=6) O8.nd At)
  (Ai (P5 Bl (Cc Mv (pv 6) (Bh CH B.b_len (Ab (pv 5) Af)) (BY _)) (Ai (BN (Do DC PySem.F.slot_list_extend PySem.F.type_list_extend QK (pv 5) (Ab (AK ao (Ab (pv 0) (Ab (pv 1) (Ab (pv 2) (Ab (AF AG (pv 5) (pv 6)) Af))))) Af)))
   (Ai (Bi (Cc Mw (Bh CH B.b_len (Ab (pv 5) Af)) (FY (v:=.int 200) rfl (Classical.choose_spec B.c_MOST_BEGINNINGS) ⟨_,rfl⟩) (BY _)) (Ao Cg) Bj)
   (Ao (TC (i:=6) O8.nd rfl (r4 rfl) At Sh)))))
  (Ao (Ba (Bh (VO Jr Fo Fo N.units (by decide) (by decide) (by decide)) B.b_sorted (Ab (pv 5) Af))))))),?_⟩
 rfl';refine⟨by decide,λE hl=>?_⟩;obtain⟨H1,aq,s1,el⟩:=new_at (o:=.lst []) hl;rw[<-aq];refine⟨_,rfl,_,rfl,Fx,λr N=>?_⟩;obtain⟨H2,ar,O,er⟩:=new_at (o:=.tup [.ref E,.int (v:Int),.int 0]) N;rw[<-ar];refine⟨Fa,λD Q=>?_⟩;have ae:=s1.trans O;have au:H D=none:=ae.free Q;have av:E≠D:=AN (O _ _ el) Q;obtain⟨H3,aw,R,ax⟩:=new_at (o:=.lst [.ref r]) Q;rw[<-aw];have ay:=ae.trans R;have b0:Fs (λx=>x≠D) H3 r (Cz g.length v 0):=⟨E,[],av,by show H3 r=some (.tup [.ref E,.int ((Bv g.length v 0:Nat):Int),.int 0]);rw[Iz Z];exact R _ _ er,R _ _ (O _ _ el),EX.nil⟩;refine Ap ?_;cbv;refine OF ?_;cbv
 refine⟨λm σ p=>∃(j:Nat)(a:List (Addr×Eg)),m=d+1-j/\j<=d+1/\σ=[some (.ref L),some M,some (.ref t),some (.int (v:Int)),some (.int 0),some (.ref D),some (.int (j:Int))]/\Ac H p/\p D=some (.lst (a.map λz=>V.ref z.1))/\Od (λx=>x≠D) p a/\a.map (·.2)=(List.range (min (j+1) (d+1))).map (Cz g.length v),
  ⟨d+1-0,0,[(r,Cz g.length v 0)],rfl,B8 _,rfl,ay,ax,(λz k=>by rw[D7.mp k];exact b0),by rw[show min (0+1) (d+1)=1 by lia];rfl⟩,?_⟩
 rintro m σ H4 ⟨j,a,rfl,hj,rfl,y,u,G,A⟩;have lz:a.length=min (j+1) (d+1):=by have:=DK List.length A;simpa using this
 refine⟨_,rfl,_,rfl,_,_,rfl,r4 ⟨_,Ad.of u,rfl⟩,_,_,rfl,rfl,_,rfl,?_⟩;rw[Al];by_cases aD:j<d+1;rw[Ca (show(j:Int)<(a.length:Int) by lia)];refine AR ⟨λσ' p=>∃(a:List (Addr×Eg)),σ'=[some (.ref L),some M,some (.ref t),some (.int (v:Int)),some (.int 0),some (.ref D),some (.int ((j+1:Nat):Int))]/\Ac H p/\p D=some (.lst (a.map λz=>V.ref z.1))/\Od (λx=>x≠D) p a/\a.map (·.2)=(List.range (min (j+1+1) (d+1))).map (Cz g.length v),λσ' p⟨af,a1,a2,a3,a4,a5⟩=>⟨d+1-(j+1),by lia,j+1,af,rfl,by lia,a1,a2,a3,a4,a5⟩,?_⟩;have c1:j<a.length:=(by lia);have ag:=AQ c1;have az:(a.map λz=>V.ref z.1)[j]?=some (.ref a[j].1):=by rw[AV,ag];rfl
 have a0:a[j].2=Cz g.length v j:=(by have:=DK (λl=>l[j]?) A;simp only[AV,ag] at this;rw[s' (by lia)] at this;exact Ce this);have Aj:=(G _ (Di c1)).c;rw[a0] at Aj;refine⟨_,rfl,r4 ⟨rfl,_,Ad.of u⟩,_,rfl,_,rfl,_,rfl,_,rfl,_,rfl,r4 ⟨D,_,_,.ref a[j].1,rfl,rfl,Ad.of u,Ck az,L,t,a[j].1,M,v,j,aa,ab,g,X,Y,l,ns,rfl,al.same y,C,Z,by lia,an.same y,Aj,λS b I U s a6 A5 T=>?_⟩⟩;rw[<-ed] at T;have ah:=s _ _ u;have lw:b.length<=1:=(by have:=DK List.length T;rw[Al] at this;rw[this];split;exact AB _;exact B8 _);refine⟨D,S,_,_,rfl,rfl,ah,a6,by rw[Al,Al];exact Dk (Bz (by lia)),?_⟩
 have s6:Ac H (upd I D (.lst ((a.map λz=>V.ref z.1)++b.map λz=>V.ref z.1))):=λx o e=>by
  rw[Ax (AN e au)];exact s _ _ (y x o e)
 have W:(upd I D (.lst ((a.map λz=>V.ref z.1)++b.map λz=>V.ref z.1))) D=some (.lst ((a++b).map λz=>V.ref z.1)):=by rw[Aa,By]
 have A6:Od (λx=>x≠D) (upd I D (.lst ((a.map λz=>V.ref z.1)++b.map λz=>V.ref z.1))) (a++b):=λz k=>by
  refine Fs.updL ah (λx J=>J) ?_;rcases EJ.mp k with k|k;exact(G z k).same s;exact(A5 z k).mono λx J e=>by rw[e,u] at J;cases J
 have Z6:(a++b).map (·.2)=(List.range (min (j+1+1) (d+1))).map (Cz g.length v):=(by rw[By,A,T];by_cases c:j<d;rw[AC c,show min (j+1) (d+1)=j+1 by lia,show min (j+1+1) (d+1)=j+1+1 by lia,List.range_succ (n:=j+1),By];rfl;rw[AA c,Ft,show min (j+1) (d+1)=min (j+1+1) (d+1) by lia]);generalize upd I D (.lst ((a.map λz=>V.ref z.1)++b.map λz=>V.ref z.1))=H6 at s6 W A6 ⊢;refine⟨_,rfl,_,_,rfl,r4 ⟨_,Ad.of W,rfl⟩,_,_,rfl,rfl,_,rfl,?_⟩;rw[Al];have l6:(a++b).length<=42:=by rw[BC];lia
 rw[BM (show ¬((a++b).length:Int) > 200 by lia)];refine Ar ⟨_,rfl,_,_,rfl,rfl,a++b,?_,s6,W,A6,Z6⟩;rfl;obtain rfl:j=d+1:=by lia
 rw[BM (show ¬((d+1:Nat):Int)<(a.length:Int) by lia)];refine Ar ⟨_,rfl,D,a.map λz=>(V.ref z.1,Q7 z.2),rfl,?_,by rw[Al];lia,λaA hy=>?_,λS af hp hs U=>?_⟩;rw[DI];exact Ad.of u;obtain⟨z,a7,rfl⟩:=Bo.mp hy;exact(G z a7).c.dt;obtain⟨b,ai,rfl⟩:=Q8 hp;have s:=A3 (o:=.lst ((b.map λz=>((V.ref z.1,Q7 z.2):FU Le)).map (·.1))) U;rw[show min (d+1+1) (d+1)=d+1 by lia] at A;refine q S b _ (y.free U) (y.trans s) (by rw[Aa,DI];rfl) (λz k=>((G z (ai.mem_iff.mp k)).c.same s)) (by rw[<-A];exact ai.map _)
inductive Ep (K:Ah) (vs:R') (H:Hp) (Q:VK):Prop where
 |mk (t:Addr) (la lab:Str) (h0:vs=[.ref t,.int 0,.str lab]) (h1:BB K H t la lab) (h2:Q (.bl true) H):Ep K vs H Q
def XI (K:Ah):Sp:=λvs H Q _=>Ep K vs H Q
abbrev RC(P w K mg base):=AU P w K mg base "has_end" 1 ["table", "state", "label"] (XI K)
def XJ(B:A0 mg)(r:A1 K mg)(F:AW K "has_end" "has_end" L9 f fd)(c:mg "has_end" = some (.ref f)):RC P w K mg base:=by
 refine Bn F c Uc (λd H Q E h=>?_) (λG A I s H d Q E v h=>?_);obtain⟨t,j,b,rfl,_⟩:=h;rfl;obtain⟨t,j,b,rfl,⟨a,o,u,g,e,gt,x,k,l,m,y,z,n,C,D⟩,q⟩:=h
 refine⟨_,(Ai (AM (i:=3) Uc.nd (AF AG (AF AG (AF AG (pv 0) At) (pv 1)) At))
  (Ao (Ba (Hi SE (pv 2) (pv 3) (by with_unfolding_all rfl))))),?_⟩
 rfl';refine⟨_,rfl,r6 (r4 ⟨t,_,_,.ref a,rfl,rfl,Am.of k,rfl,_,rfl,r4 ⟨a,_,_,.ref u,rfl,rfl,Ad.of l,rfl,r6 (r4 ⟨u,_,_,.ref e,rfl,rfl,Am.of m,rfl,?_⟩)⟩⟩)⟩;refine Ap ?_;cbv;refine⟨_,rfl,_,rfl,e,_,rfl,r4 (Ad.of n),rfl,rfl,?_⟩
 have p:Mz (.str b) [.str b]=true:=by
  unfold Mz;show((b==b) || false)=true;simp
 rw[AA CP,p];exact q
inductive Cv (K:Ah) (vs:R') (H:Hp) (Q:VK):Prop where
 |mk (net t D0:Addr) (v:Nat) (lab lbt nm:Str) (ss:List AO) (gs:G') (qs:U') (l:Nat) (ns:F') (zs:List (Addr×Eg)) (h0:vs=[.ref net,.ref t,.ref D0,.str nm]) (h1:B9 H net ss gs qs) (h2:DV ss gs lab lbt l ns) (h3:v<ss.length) (h4:BB K H t lab lbt) (h5:H D0=some (.lst (zs.map λz=>V.ref z.1))) (h6:(∀z∈zs,Ho H z.1 z.2)) (h7:(zs.map (·.2)).Perm ((List.range (Du ss.length l v+1)).map (Cz ss.length v))) (h8:∀(D:Addr)(ws:List (Addr×List AZ))(H':Hp),H D=none->Ac H H'->H' D=some (.lst (ws.map λw=>V.ref w.1))->(∀w∈ws,Wy H' w.1 w.2/\H w.1=none)->ws.map (·.2)=Ci ss.length l ns v nm->Q (.ref D) H'):Cv K vs H Q
def XM (K:Ah):Sp:=λvs H Q _=>Cv K vs H Q
abbrev RD(P w K mg base):=AU P w K mg base "found_behind" 2 ["net", "table", "begun", "name"] (XM K)
def XN(aw:A0 mg)(ER:A1 K mg)(aI:RC P w K mg base)(F:AW K "found_behind" "found_behind" Ma f fd)(hm:mg "found_behind" = some (.ref f)):RD P w K mg base:=by
 refine Bn F hm Ls (λvs H aB aC h=>?_) (λaY aU bc aV H vs aB aC hr h=>?_);obtain⟨G,t,I,v,a1,aa,nm,r,gs,qs,l,ns,d,rfl,_⟩:=h;rfl
 . obtain⟨G,t,I,v,a1,aa,nm,r,gs,qs,l,ns,d,rfl,ax,C,hv,aD,e0,hz,y,aE⟩:=h
   have aJ:∀z∈d,z.2.2<r.length/\z.2.1.length<=40:=λz h=>by
    obtain⟨aW,hj,e⟩:=Bo.mp (y.mem_iff.mp (Bo.mpr ⟨z,h,rfl⟩));have hj:=List.mem_range.mp hj;have:=Hq (l:=l) (v:=v) (show 0<r.length by lia);have:=C.m40;rw[<-e];exact⟨NP (by lia),by unfold Cz;rw[Al,r9];lia⟩
   have lz:d.length<=40:=(by have:=y.length_eq;rw[Al,Al,r9] at this;have:=Hq (l:=l) (v:=v) (show 0<r.length by lia);have:=C.m40;lia);have aT:(d.flatMap λz=>CT l ns nm z.2).Perm (Ci r.length l ns v nm):=(by rw[<-IC hv C.hl];have e:(d.flatMap λz=>CT l ns nm z.2)=(d.map (·.2)).flatMap (CT l ns nm):=(by rw[List.flatMap_map]);rw[e];exact y.flatMap_right _);have n2:=C.n2
   have aK:∀ay:Eg,(CT l ns nm ay).length<=1:=λay=>by
    unfold CT;split;cases AX ns nm<;>simp;simp
   refine⟨_,(Ai (AM (i:=4) Ls.nd (Ch Af))
    (Ai (Bt Bl rfl (Bm (pv 2)) (Bf (n:=3) rfl (Av (An (i:=5) Ls.nd) (Av (An (i:=6) Ls.nd) (Av (An (i:=7) Ls.nd) Be)))) (Ao (Bt Bl rfl (NG rfl aw.b_enumerate (Ab (AF AG (AF AG (AF AG (pv 0) At) (pv 6)) At) Af)) (Bf (n:=2) rfl (Av (An (i:=8) Ls.nd) (Av (An (i:=9) Ls.nd) Be))) (Ao (Bi (PW.pt (HH (Cc DE (AF AG (pv 9) At) (pv 3) (BY _)) (HG (Dq (AK aI (Ab (pv 1) (Ab (pv 7) (Ab (AF AG (pv 9) At) Af)))))))) (Ao (BN (Do DC Ej Ek Em (pv 4) (Ab (A9 Ji (pv 5) (Ch (Ab (BR (Ab (pv 6) (Ab B0 (Ab (pv 8) Af)))) Af))) Af)))) Bj)))))
    (Ao (Ba (Bh (VM Jr hr.units (by decide)) aw.b_sorted (Ab (pv 4) Af)))))),?_⟩
   rfl';refine⟨by decide,λD hD=>?_⟩;have s1:=A3 (o:=.lst []) hD
   refine⟨_,rfl,I,rfl,⟨_,Ad.of (s1 _ _ e0)⟩,CQ (xs:=d.map λz=>V.ref z.1) (λi σ j=>∃(u5 u6 u7 p q:S')(a:List (Addr×List AZ)),σ=[some (.ref G),some (.ref t),some (.ref I),some (.str nm),some (.ref D),u5,u6,u7,p,q]/\Ac H j/\j D=some (.lst (a.map λw=>V.ref w.1))/\(∀w∈a,Wy j w.1 w.2/\w.1≠D/\H w.1=none)/\a.map (·.2)=(d.take i).flatMap (λz=>CT l ns nm z.2)/\a.length<=i)
    ⟨none,none,none,none,none,[],rfl,s1,Aa,(λw b=>by simp at b),rfl,AB _⟩ (λi σ j _ R=>by obtain⟨_,_,_,_,_,_,_,e,_⟩:=R;exact Ad.of (e _ _ e0)) ?_ ?_⟩
   . rintro i x σ H2 hx ⟨u5,u6,u7,p,q,a,rfl,g,X,b,J,lw⟩
     obtain⟨z,ak,rfl⟩:=getm hx;have aZ:i<d.length:=(AS.mp ak).1;have mz:=CB ak;have a2:d.take (i+1)=d.take i++[z]:=by rw[FK,ak];rfl
     obtain⟨ml,s,h1,h2,E⟩:=hz z mz;obtain⟨aL,ba⟩:=aJ z mz;refine⟨z.1,_,rfl,Am.of (g _ _ h1),rfl,_,_,rfl,_,_,rfl,_,_,rfl,rfl,?_⟩;by_cases T:z.2.2=l;rotate_left;obtain⟨S,Tq,aF,us,u,aG,L,tG,Y,en,av,hu,eu,eG,rG,M,Z⟩:=ax.sco (C.st _ aL T);obtain rfl:Y=[]:=List.length_eq_zero_iff.mp Z.len
     refine⟨_,rfl,r6 (r4 ⟨G,_,_,.ref S,rfl,rfl,Am.of (g _ _ en),rfl,_,rfl,r4 ⟨S,_,_,.ref u,rfl,rfl,Ad.of (g _ _ av),Ck (by rw[AV,hu];rfl),r6 (r4 ⟨u,_,_,.ref L,rfl,rfl,Am.of (g _ _ eu),rfl,L,rfl,⟨_,g _ _ M⟩,MG (xs:=[]) (λn σ j=>∃(p q:S'),σ=[some (.ref G),some (.ref t),some (.ref I),some (.str nm),some (.ref D),some (.ref ml),some (.int (z.2.2:Int)),some (.int 0),p,q]/\j=H2)
      ⟨_,_,rfl,rfl⟩ (λn σ j R=>by obtain⟨_,_,_,e⟩:=R;exact by rw[e];exact Ad.of (g _ _ M)) ?_ ?_⟩)⟩⟩)⟩
     intro n az Tt σ N O;simp at O;rintro σ N ⟨p,q,rfl,rfl⟩;refine⟨_,_,_,_,_,a,rfl,g,X,b,?_,by lia⟩;rw[a2,List.flatMap_append,J,List.flatMap_cons,List.flatMap_nil,show CT l ns nm z.2=[] from AA T];simp;obtain⟨S,Tq,aF,us,u,aG,L,tG,Y,en,av,hu,eu,eG,rG,M,Z⟩:=ax.sco (T▸C.la);have a3:Y.length=ns.length:=(by rw[Z.len,Al])
     refine⟨_,rfl,r6 (r4 ⟨G,_,_,.ref S,rfl,rfl,Am.of (g _ _ en),rfl,_,rfl,r4 ⟨S,_,_,.ref u,rfl,rfl,Ad.of (g _ _ av),Ck (by rw[AV,hu];rfl),r6 (r4 ⟨u,_,_,.ref L,rfl,rfl,Am.of (g _ _ eu),rfl,L,rfl,⟨_,g _ _ M⟩,MG (xs:=Y.map V.ref) (λn σ j=>∃(p q:S')(a:List (Addr×List AZ)),σ=[some (.ref G),some (.ref t),some (.ref I),some (.str nm),some (.ref D),some (.ref ml),some (.int (z.2.2:Int)),some (.int 0),p,q]/\Ac H j/\j D=some (.lst (a.map λw=>V.ref w.1))/\(∀w∈a,Wy j w.1 w.2/\w.1≠D/\H w.1=none)/\a.map (·.2)=(d.take i).flatMap (λz=>CT l ns nm z.2)++(match AX ns nm with
      |some k=>if k<n then[z.2.1.map Lf++[((l:Int),i',(k:Int))]] else[]
      |none=>[])/\a.length<=i+n)
      ⟨_,_,a,rfl,g,X,b,by rw[J];cases AX ns nm<;>simp,lw⟩ (λn σ j R=>by obtain⟨_,_,_,_,e,_⟩:=R;exact Ad.of (e _ _ M)) ?_ ?_⟩)⟩⟩)⟩
     . rintro n az Tt σ N O hT ⟨p,q,a,rfl,s3,al,ab,ae,aM⟩
       obtain⟨A,a4,rfl⟩:=getm O;have hn:n<ns.length:=by rw[<-a3];exact(AS.mp a4).1
       have an:=AQ hn;have aN:=Z.at_ n A (aa,ns[n], "thing",0) a4 (by rw[AV,an];rfl);have B:=s3.trans (A3 (o:=.tup [.int (n:Int),.ref A]) hT);have U:=A3 (o:=.tup [.int (n:Int),.ref A]) hT _ _ al;have W:∀w∈a,Wy (upd N Tt (.tup [.int (n:Int),.ref A])) w.1 w.2/\w.1≠D/\H w.1=none:=λw b=>⟨(ab w b).1.same (A3 hT),(ab w b).2⟩;refine⟨Tt,_,rfl,Am.of Aa,rfl,_,_,rfl,_,_,rfl,rfl,?_⟩;generalize upd N Tt (.tup [.int (n:Int),.ref A])=H4 at B U W ⊢;have a5:=B _ _ aN;refine⟨_,rfl,r6 (r4 ⟨A,_,_,.str ns[n],rfl,rfl,Am.of a5,rfl,_,rfl,rfl,_,rfl,?_⟩)⟩;by_cases af:ns[n]=nm;rotate_left;rw[BM (show ¬ V.str ns[n]=V.str nm from λz=>af (V.str.inj z))];refine Ar (Ar ⟨_,_,a,rfl,B,U,W,?_,by lia⟩);rw[ae];congr 1
       cases e:AX ns nm with
       |none=>rfl
       |some k=>
        have hk:k≠n:=λz=>by
         have:=NR e;rw[z,an] at this;exact af (Ce this)
        show(if k<n then _ else _)=if k<n+1 then _ else _;by_cases c:k<n;rw[AC c,AC (by lia)];rw[AA c,AA (by lia)]
       rw[Ca (show V.str ns[n]=V.str nm by rw[af])];refine AR ⟨_,rfl,_,rfl,_,rfl,r6 (r4 ⟨A,_,_,.str aa,rfl,rfl,Am.of a5,rfl,t,a1,aa,rfl,aD.same B,_,rfl,AR ?_⟩)⟩;refine⟨_,rfl,r4 ⟨rfl,_,Ad.of U⟩,_,rfl,_,rfl,_,rfl,Fx,λm hm=>?_⟩;obtain⟨H5,aO,s5,a0⟩:=new_at (o:=.tup [.int (z.2.2:Int),.str "told",.int (n:Int)]) hm;rw[<-aO];refine⟨Fa,λL1 aP=>?_⟩;obtain⟨H6,aQ,s6,aR⟩:=new_at (o:=.lst [.ref m]) aP;rw[<-aQ];have ao:=s5.trans s6;have a6:=B.trans ao;refine⟨ml,L1,_,_,rfl,rfl,a6 _ _ h2,aR,by rw[Al,E.len];exact Dk (Bz (show _+1<=1000 by lia)),λL2 ag=>?_⟩;have s7:=A3 (o:=.lst (s.map V.ref++[.ref m])) ag;have a7:(upd H6 L2 (.lst (s.map V.ref++[.ref m]))) L2=some (.lst ((s++[m]).map V.ref)):=by rw[Aa,By];rfl
       generalize upd H6 L2 (.lst (s.map V.ref++[.ref m]))=H7 at s7 a7 ⊢;have ah:=ao.trans s7;have aq:=ah _ _ U;have a8:L2≠D:=λe=>by rw[e,ao _ _ U] at ag;cases ag
       refine⟨D,_,_,rfl,rfl,aq,by rw[Al];exact Bz (by lia),?_⟩;refine⟨_,_,a++[(L2,z.2.1.map Lf++[((l:Int),i',(n:Int))])],rfl,λx o e=>?_,by rw[Aa,By];rfl,λw b=>?_,?_,by rw[BC];show a.length+1<=_;lia⟩;rw[Ax (AN e hD)];exact ah _ _ (B x o e);rcases EJ.mp b with b|b;exact⟨((W w b).1.same ah).updL aq (W w b).2.1,(W w b).2⟩;rw[D7.mp b];refine⟨Wy.updL aq a8 ⟨s++[m],a7,by simp[E.len],λn tt o Q q2=>?_⟩,a8,a6.free ag⟩;rcases v9 n s.length with c|c;rw[DH c] at Q;rw[DH (by rw[Al,<-E.len];exact c),AV] at q2;obtain⟨aH,y,rfl⟩:=CD.mp q2;exact ah _ _ (B _ _ (E.at_ n tt aH Q y));have aS:n<(s++[m]).length:=(AS.mp Q).1;rw[BC,Ff] at aS;have e':n=s.length:=(by lia);subst e';rw[DJ (AB _),Nat.sub_self] at Q;rw[DJ (by rw[Al,E.len];exact AB _),Al,E.len,Nat.sub_self] at q2;cases Q;cases q2;rw[T] at a0;exact s7 _ _ (s6 _ _ a0);have e:AX ns nm=some n:=Li C.nd (by rw[an,af]);rw[By,ae,e];show(_++if n<n then _ else _)++_=_++if n<n+1 then _ else _;rw[AA (EV _),AC (Ol _),Ft];rfl
     rintro σ N ⟨p,q,a,rfl,s3,al,ab,ae,aM⟩
     have e3:a.map (·.2)=(d.take (i+1)).flatMap (λz=>CT l ns nm z.2):=by
      rw[a2,List.flatMap_append,ae,List.flatMap_cons,List.flatMap_nil,Ft,show CT l ns nm z.2=(match AX ns nm with
       |some i=>[z.2.1.map Lf++[((l:Int),i',(i:Int))]]
       |none=>[]) from AC T]
      congr 1
      cases e:AX ns nm with|none=>rfl|some k=>exact AC (by rw[Al,a3];exact(AS.mp (NR e)).1)
     refine⟨_,_,_,_,_,a,rfl,s3,al,ab,e3,?_⟩;have:=DK List.length e3;rw[Al,List.length_flatMap] at this
     have h1:(((d.take (i+1)).map λz=>(CT l ns nm z.2).length)).sum<=(d.take (i+1)).length:=by
      generalize d.take (i+1)=xs
      induction xs with|nil=>exact AB _|cons x aX ih=>have:=aK x.2;rw[Ec,List.sum_cons,EU];lia
     rw[DM] at h1;lia
   rintro σ H2 ⟨u5,u6,u7,p,q,a,rfl,g,X,b,J,lw⟩;rw[Al] at lw;rw[Al,Jz] at J;refine⟨_,rfl,D,a.map λw=>(V.ref w.1,w.2),rfl,?_,by rw[Al];lia,λaz O=>?_,λD2 bb y hs ar=>?_⟩;rw[DI];exact Ad.of X;obtain⟨w,ai,rfl⟩:=Bo.mp O;exact(b w ai).1.dt;obtain⟨a9,au,rfl⟩:=Q8 y;have aj:(a9.map (·.2)).Perm (Ci r.length l ns v nm):=(au.map _).trans (by rw[J];exact aT);refine aE D2 a9 _ (g.free ar) (g.trans (A3 ar)) (by rw[Aa,DI];rfl) (λw ai=>⟨(b w (au.mem_iff.mp ai)).1.same (A3 ar),(b w (au.mem_iff.mp ai)).2.2⟩) ?_;have l1:=Ra (m:=r.length) (l:=l) (v:=v) (ns:=ns) (nm:=nm)
   match aA:Ci r.length l ns v nm,l1 with
   |[],_=>rw[aA] at aj;exact aj.eq_nil
   |[x],_=>rw[aA] at aj;exact List.perm_singleton.mp aj
inductive Cw (K:Ah) (vs:R') (H:Hp) (Q:VK):Prop where
 |mk (t:Addr) (la lb:Str) (h0:vs=[.ref t]) (h1:BB K H t la lb) (h2:∀(p:Addr)(H':Hp),H p=none->Ac H H'->H' p=some (.dT [([.inr lb,.inr la],.bl true)])->Q (.ref p) H'):Cw K vs H Q
def XO (K:Ah):Sp:=λvs H Q _=>Cw K vs H Q
abbrev Ps(P w K mg base):=AU P w K mg base "better_pairs" 1 ["table"] (XO K)
theorem XQ(B:A0 mg)(ER:A1 K mg)(F:AW K "better_pairs" "better_pairs" JK f fd)(M:mg "better_pairs" = some (.ref f)):Ps P w K mg base:=by
 refine Bn F M WF (λN H Q E h=>?_) (λag ab ah s H N Q E O h=>?_);obtain⟨t,v,x,rfl,_⟩:=h;rfl;obtain⟨t,v,x,rfl,⟨ae,o,u,af,e,gt,d,R,h2,h3,h4,h5,h6,A,S⟩,q⟩:=h;refine⟨_,(Ao (Ba (EO (V2 rfl (Lg O)) B.b_dict (Ab (EQ rfl B6 (Bm (AF AG (pv 0) At)) (λ_ _ _ _ _=>(An (i:=0) B6.nd)) (λ_ _ _ _ _=>EC) (λ_ _ _ _ _=>(BR (Ab (pv 0) (Ab MR Af))))) Af)))),?_⟩;rfl'
 refine⟨_,rfl,r6 (r4 ⟨t,_,_,.ref o,rfl,rfl,Am.of R,rfl,o,rfl,⟨_,Ad.of A⟩,KN (xs:=[V.ref d]) (λP i a g=>Ac H g/\g P=some (.lst a)/\a.length=i/\GW g a (([(x,v)].take i).map λp=>([.inr p.1,.inr p.2],V.bl true)))
  (λP j=>⟨A3 j,Aa,rfl,.nil⟩) (λP i a g Y=>by obtain⟨s,_⟩:=Y;exact Ad.of (s _ _ A)) (λP i y a U RR j C l k=>?_) (λP a U j l=>?_)⟩)⟩
 obtain⟨c,m,n,J⟩:=l
 obtain⟨rfl,rfl⟩:i=0/\y=.ref d:=by
  cases i with|zero=>cases C;exact⟨rfl,rfl⟩|succ i=>simp at C
 obtain rfl:=List.length_eq_zero_iff.mp n;have Z:=c _ _ S;refine⟨_,rfl,DS,λT W=>?_⟩;obtain⟨D,aa,r,X⟩:=new_at (o:=.tup [.ref d,.bl true]) W;rw[<-aa];have L:=r _ _ m
 have G:∀b xs,D b=some (.tup xs)->(upd D P (.lst ([]++[.ref T]))) b=some (.tup xs):=λb xs e=>by
  rw[Ax (λz=>by rw[z,L] at e;cases e)];exact e
 refine k _ _ L (by show 0<sizeLine;decide) ⟨λb u e=>?_,Aa,rfl,?_⟩;rw[Ax (AN e j)];exact r _ _ (c _ _ e);exact .cons ⟨T,d,rfl,G _ _ X,G _ _ (r _ _ Z)⟩ .nil;obtain⟨c,m,n,J⟩:=l;refine⟨P,a,_,rfl,m,by rw[n];show 1<sizeLine;decide,J,λp I=>?_⟩;exact q p _ (c.free I) (c.trans (A3 I)) Aa
inductive Er (K:Ah) (vs:R') (H:Hp) (Q:VK):Prop where
 |mk (D:Addr) (zs:List (Addr×List AZ)) (ok:Nat->AZ->Prop) (h0:vs=[.ref D]) (h1:H D=some (.lst (zs.map λz=>V.ref z.1))) (h2:(∀z∈zs,Wy H z.1 z.2/\z.2.length<=40/\∀j o,z.2[j]?=some o->ok j o)) (h3:zs.length<=400) (h4:∀(t:Addr)(lv:Addr->Option Nat)(H':Hp),Ac H H'->Eh dW H' ok lv 16000->lv t=some 0->(∀a j,lv a=some j->H a=none)->Q (.ref t) H'):Er K vs H Q
def XR (K:Ah):Sp:=λvs H Q _=>Er K vs H Q
abbrev Pt(P w K mg base):=AU P w K mg base "tree_of" 1 ["ways"] (XR K)
def XS(al:A0 mg)(ER:A1 K mg)(F:AW K "tree_of" "tree_of" Mb f fd)(hm:mg "tree_of" = some (.ref f)):Pt P w K mg base:=by
 refine Bn F hm Lu (λvs H an ao h=>?_) (λa6 a3 a9 s H vs an ao hr h=>?_);obtain⟨D,U,ok,rfl,_⟩:=h;rfl
 . obtain⟨D,U,ok,rfl,W,hz,lz,aq⟩:=h
   refine⟨_,(Ai (AM (i:=1) Lu.nd Qp)
    (Ai (Bt Bl rfl (NG rfl al.b_enumerate (Ab (pv 0) Af)) (Bf (n:=2) rfl (Av (An (i:=2) Lu.nd) (Av (An (i:=3) Lu.nd) Be))) (Ai (AM (i:=4) Lu.nd (pv 1))
     (Ao (Bt Bl rfl (Bm (pv 3)) (An (i:=5) Lu.nd) (Ao (AM (i:=4) Lu.nd (AF AG (Do PySem.F.plainAttrs_dict PySem.F.slot_dict_setdefault PySem.F.type_dict_setdefault (VW (Ic hr)) (pv 4) (Ab (pv 5) (Ab (BR (Ab (pv 2) (Ab Qp Af))) Af))) At)))))))
    (Ao (Ba (pv 1))))),?_⟩
   rfl';refine λt X=>?_;obtain⟨H1,aw,Y,et⟩:=new_at (o:=.dT []) X;rw[<-aw];refine Ap ?_;cbv
   refine⟨_,rfl,D,rfl,⟨_,Y _ _ W⟩,MG (xs:=U.map λz=>V.ref z.1) (λi σ l=>∃(I J L g:S')(c:Addr->Option Nat),σ=[some (.ref D),some (.ref t),I,J,L,g]/\Ac H l/\Eh dW l ok c (40*i)/\c t=some 0/\(∀a j,c a=some j->H a=none))
    ⟨none,none,none,none,λx=>if x=t then some 0 else none,rfl,Y,⟨λa j e=>?_⟩,AC rfl,λa j e=>?_⟩ (λi σ l R=>by obtain⟨_,_,_,_,_,_,s,_⟩:=R;exact Ad.of (s _ _ W)) ?_ ?_⟩
   by_cases z:a=t;subst z;exact⟨[],et,AB _,λkv hk=>by cases hk⟩;have e:(if a=t then some 0 else none)=some j:=e;rw[AA z] at e;cases e;by_cases z:a=t;rw[z];exact X;have e:(if a=t then some 0 else none)=some j:=e;rw[AA z] at e;cases e;rotate_left;rintro σ Z ⟨I,J,L,g,c,rfl,M,u,v,N⟩;rw[Al] at u;exact⟨_,rfl,aq t c Z M (u.mono (by lia)) v N⟩;rintro i y ar σ Z O hT ⟨I,J,L,g,c,rfl,M,u,v,N⟩;obtain⟨z,ae,rfl⟩:=getm O;have mz:=CB ae;have a7:=(AS.mp ae).1;obtain⟨H3,ax,s3,eT⟩:=new_at (o:=.tup [.int (i:Int),.ref z.1]) hT;rw[<-ax];have af:=M.trans s3;obtain⟨⟨ms,aa,f3,f4⟩,a8,ay⟩:=hz z mz;refine⟨ar,_,rfl,Am.of eT,rfl,_,_,rfl,_,_,rfl,rfl,?_⟩;refine⟨_,rfl,?_⟩;refine Ap ?_;cbv
   refine⟨_,rfl,z.1,rfl,⟨_,Ad.of (af _ _ aa)⟩,CQ (xs:=ms.map V.ref) (λj σ l=>∃(g:S')(a:Addr)(c:Addr->Option Nat),σ=[some (.ref D),some (.ref t),some (.int (i:Int)),some (.ref z.1),some (.ref a),g]/\Ac H l/\Eh dW l ok c (40*i+j)/\c t=some 0/\c a=some j/\(∀a j,c a=some j->H a=none))
    ⟨g,t,c,rfl,af,u.sameW s3,v,v,N⟩ (λj σ l _ R=>by obtain⟨_,_,_,_,s,_⟩:=R;exact Ad.of (s _ _ aa)) ?_ ?_⟩
   rotate_left;rintro σ A ⟨g,a,c,rfl,p,m,q,_,r⟩;rw[Al,f3] at m;exact⟨_,_,_,_,c,rfl,p,m.mono (by lia),q,r⟩;rintro j y σ A O ⟨g,a,c,rfl,p,m,q,S,r⟩;obtain⟨mk,ag,rfl⟩:=getm O;have hj:j<z.2.length:=by rw[<-f3];exact(AS.mp ag).1
   have T:=AQ hj;have ab:=p _ _ (f4 j _ _ ag T);have ah:=ay j _ T;generalize z.2[j]=o at T ab ah;obtain⟨ai,B,av,az⟩:=m.at_ a j S;refine⟨_,rfl,r6 (r6 (r4 ⟨rfl,r6 ⟨_,B⟩⟩)),_,rfl,_,rfl,λe he=>?_⟩;have s5:=A3 (o:=.dT []) he;have ee:(upd A e (.dT [])) e=some (.dT []):=Aa;have aj:=he;generalize upd A e (.dT [])=H5 at s5 ee ⊢;refine⟨DS,λC a0=>?_⟩;obtain⟨H6,a1,s6,G⟩:=new_at (o:=.tup [.int (i:Int),.ref e]) a0;rw[<-a1];have d:=s5.trans s6;have ak:c e=none:=(by rcases z:c e with _|k;rfl;exfalso;obtain⟨k',x,_⟩:=m.at_ e k z;have x:A e=_:=x;rw[aj] at x;cases x);refine⟨a,ai,DU o,mk,.ref C,rfl,rfl,d _ _ B,d _ _ ab,Nat.lt_of_le_of_lt av (Nat.lt_of_le_of_lt (show 40*i+j<=16040 by lia) (by decide)),λa4 Q=>?_,λQ=>?_⟩;obtain⟨au,b,a5,rfl,q3,q4⟩:=Eh.have_ az Q;refine r6 (r4 ⟨au,_,_,.ref b,rfl,rfl,Am.of (d _ _ q3),rfl,?_⟩);exact⟨some (.ref mk),b,c,rfl,p.trans d,(m.sameW d).mono (by lia),q,q4,r⟩;have T6:=(m.sameW d).grow S (d _ _ B) Q ah (s6 _ _ ee) G ak
   have s7:Ac H (upd H6 a (.dT (AI ai (DU o) (.ref C)))):=λb o' hb=>by
    rw[Ax (AN hb (r _ _ S))];exact d _ _ (p _ _ hb)
   have a2:C≠a:=λy=>by rw[y,d _ _ B] at G;cases G
   refine r6 (r4 ⟨C,_,_,.ref e,rfl,rfl,Am.of (by rw[Ax a2];exact G),rfl,?_⟩);refine⟨some (.ref mk),e,_,rfl,s7,T6,?_,AC rfl,λx k E=>?_⟩;show(if t=e then some (j+1) else c t)=some 0;rw[AA λy=>by rw[y,ak] at q;cases q];exact q;by_cases xe:x=e;rw[xe];exact p.free aj;have E:(if x=e then some (j+1) else c x)=some k:=E;rw[AA xe] at E;exact r x k E
def XT:i'≠("step":Str):=by decide +kernel
inductive D3 (K:Ah) (vs:R') (H:Hp) (Q:VK):Prop where
 |mk (net m:Addr) (ss:List AO) (gs:G') (qs:U') (o:AZ) (lb:Str) (h0:vs=[.ref net,.ref m]) (h1:B9 H net ss gs qs) (h2:H m=some (Lh o)) (h3:MH ss o lb) (h4:Q (.str lb) H):D3 K vs H Q
def XU (K:Ah):Sp:=λvs H Q _=>D3 K vs H Q
abbrev RE(P w K mg base):=AU P w K mg base "label_at" 1 ["net", "mark"] (XU K)
def XV(B:A0 mg)(ER:A1 K mg)(F:AW K "label_at" "label_at" Mc f fd)(j:mg "label_at" = some (.ref f)):RE P w K mg base:=by
 refine Bn F j MK (λk H Q E h=>?_) (λae A af s H k Q E hr h=>?_);obtain⟨g,m,l,r,x,o,y,rfl,_⟩:=h;rfl;obtain⟨g,m,l,r,x,o,y,rfl,N,C,⟨v,i,Z,D,G,I,J⟩,q⟩:=h;obtain⟨S,T,aa,us,u,ab,E1,L,M,O,Y,R,U,W,c,X,d⟩:=N.sco I
 refine⟨_,(Ai (Dm (pv 1) (Bf (n:=3) rfl (Av (An (i:=2) MK.nd) (Av (An (i:=3) MK.nd) (Av (An (i:=4) MK.nd) Be)))))
  (Ai (Dm (AF AG (AF AG (pv 0) At) (pv 2)) (Bf (n:=2) rfl (Av (An (i:=5) MK.nd) (Av (An (i:=6) MK.nd) Be))))
  (Ai (Bi (Cc DE (pv 3) B0 (BY _)) (Ao (Ba (AF AG (AF AG (pv 5) (pv 4)) At))) Bj)
  (Ao (Ba (AF AG (AF AG (pv 6) (pv 4)) At)))))),?_⟩
 rfl';refine⟨_,rfl,m,_,rfl,Am.of C,rfl,_,_,rfl,_,_,rfl,_,_,rfl,rfl,?_⟩;rw[D,G];refine⟨_,rfl,r6 (r4 ⟨g,_,_,.ref S,rfl,rfl,Am.of O,rfl,_,rfl,r4 ⟨S,_,_,.ref u,rfl,rfl,Ad.of Y,Ck (by rw[AV,R];rfl),?_⟩⟩)⟩;refine⟨u,_,rfl,Am.of U,rfl,_,_,rfl,_,_,rfl,rfl,?_⟩;rcases J with⟨e,p,a,rfl⟩|⟨e,p,a,rfl⟩;rw[e];refine⟨_,rfl,rfl,_,rfl,AR ?_⟩;obtain⟨t,b⟩:∃t,L[i]?=some t:=⟨_,AQ (by rw[c.len];exact(AS.mp a).1)⟩;exact⟨_,rfl,_,rfl,r4 ⟨_,_,_,.ref t,rfl,rfl,Ad.of W,Ck (by rw[AV,b];rfl),r6 (r4 ⟨t,_,_,.str p.1,rfl,rfl,Am.of (c.at_ i t p b a),rfl,q⟩)⟩⟩;rw[e];refine⟨_,rfl,rfl,_,rfl,?_⟩;rw[BM (show ¬V.str "told" = V.str "step" from λz=>XT (V.str.inj z))];refine Ar ?_;obtain⟨t,b⟩:∃t,M[i]?=some t:=⟨_,AQ (by rw[d.len];exact(AS.mp a).1)⟩;exact⟨_,rfl,_,rfl,r4 ⟨_,_,_,.ref t,rfl,rfl,Ad.of X,Ck (by rw[AV,b];rfl),r6 (r4 ⟨t,_,_,.str p.1,rfl,rfl,Am.of (d.at_ i t p b a),rfl,q⟩)⟩⟩
inductive CM (K:Ah) (vs:R') (H:Hp) (Q:VK):Prop where
 |mk (net bp tr l:Addr) (ss:List AO) (gs:G') (qs:U') (la lt:Str) (lb:Nat->Str) (lv:Addr->Option Nat) (n:Nat) (os:List AZ) (h0:vs=[.ref net,.ref bp,.ref tr,.ref l]) (h1:B9 H net ss gs qs) (h2:H bp=some (.dT [([.inr lt,.inr la],.bl true)])) (h3:la≠lt) (h4:Eh dF H (λj o=>MH ss o (lb j)) lv n) (h5:lv tr=some 0) (h6:Wy H l os) (h7:MI ss lb os) (h8:∀H',Ac H H'->Q .non H'):CM K vs H Q
def XW (K:Ah):Sp:=λvs H Q _=>CM K vs H Q
abbrev RF(P w K mg base):=AU P w K mg base "first_hider" 2 ["net", "better", "tree", "way"] (XW K)
def XX(a2:A0 mg)(ER:A1 K mg)(ar:RE P w K mg base)(F:AW K "first_hider" "first_hider" Md f fd)(hm:mg "first_hider" = some (.ref f)):RF P w K mg base:=by
 refine Bn F hm Lv (λvs H a3 a4 h=>?_) (λaO aM aP ao H vs a3 a4 X h=>?_);obtain⟨D,G,I,l,S,Y,Z,la,lt,g,T,a5,aa,rfl,_⟩:=h;rfl
 . obtain⟨D,G,I,l,S,Y,Z,la,lt,g,T,a5,aa,rfl,aq,eb,a8,TT,au,⟨ms,el,rl,rm⟩,ok,a6⟩:=h
   refine⟨_,(Ai (AM (i:=4) Lv.nd (Ch Af))
    (Ai (AM (i:=5) Lv.nd (pv 2))
    (Ai (Bt Bl rfl (Bm (pv 3)) (An (i:=6) Lv.nd) (Ai (AM (i:=7) Lv.nd (AK ar (Ab (pv 0) (Ab (pv 6) Af))))
     (Ai (Bt Bl rfl (Iv (pv 5)) (An (i:=8) Lv.nd) (Ao (Bi (Cc (Vl (Ic X)) (BR (Ab (AK ar (Ab (pv 0) (Ab (pv 8) Af))) (Ab (pv 7) Af))) (pv 1) (by with_unfolding_all rfl)) (Ao (BN (Do DC Ej Ek Em (pv 4) (Ab (AF AG (SO (Ic X) (pv 5) (pv 8) (λ_ _=>rfl)) At) Af)))) Bj)))
     (Ao (AM (i:=5) Lv.nd (AF AG (U5 (Ic X) (pv 5) (pv 6) (BR (Ab At (Ab Qp Af))) ⟨rfl,rfl,rfl,rfl⟩) At))))))
    (Ao (Ba (Iw rfl (by rfl) a2.b_min (Ab (pv 4) Af))))))),?_⟩
   rfl';refine⟨by decide,λn hN=>?_⟩;obtain⟨H1,a9,s1,aA⟩:=new_at (o:=.lst []) hN;rw[<-a9];refine Ap ?_;cbv;refine⟨_,rfl,?_⟩;refine Ap ?_;cbv
   have az:∀a j,T a=some j->a≠n:=λa j h=>by
    obtain⟨c,⟨o,x⟩,_⟩:=TT.at_ a j h;exact AN x hN
   refine⟨_,rfl,l,rfl,⟨_,Ad.of (s1 _ _ el)⟩,CQ (xs:=ms.map V.ref) (λj σ d=>∃(a:Addr)(u6 u7 t:S'),σ=[some (.ref D),some (.ref G),some (.ref I),some (.ref l),some (.ref n),some (.ref a),u6,u7,t]/\Ac H d/\d n=some (.lst [])/\a≠n/\(T a=some j\/(H a=none/\Rd d a (.dT []))))
    ⟨I,none,none,none,rfl,s1,aA,az _ _ au,.inl au⟩ (λj σ d _ ae=>by obtain⟨_,_,_,_,_,ao,_⟩:=ae;exact Ad.of (ao _ _ el)) ?_ ?_⟩
   rotate_left;rintro σ s ⟨a,u6,u7,t,rfl,q,af,_⟩;exact⟨_,rfl,n,[],rfl,af,a6 s q⟩;rintro j y σ s hy ⟨a,u6,u7,t,rfl,q,af,aB,ag⟩;obtain⟨mk,av,rfl⟩:=getm hy;have hj:j<aa.length:=by rw[<-rl];exact(AS.mp av).1
   have ah:=AQ hj;have ab:=rm j _ _ av ah;have aw:=ok j _ ah;generalize aa[j]=m at ah ab aw;refine⟨_,rfl,_,rfl,D,mk,S,Y,Z,m,g j,rfl,aq.same q,q _ _ ab,aw,?_⟩;refine Ap ?_;cbv
   obtain⟨c,ai,aC⟩:∃c,Rd s a (.dT c)/\∀A∈c,∃(o:AZ)(p b:Addr)(m:Int),A=(DU o,.ref p)/\MH S o (g j)/\s p=some (.tup [.int m,.ref b])/\T b=some (j+1):=by
    rcases ag with J|⟨_,L⟩;obtain⟨c,⟨o,x⟩,_,M⟩:=TT.at_ a j J;exact⟨c,.inr ⟨o,q _ _ x⟩,λA r=>let ⟨o,p,b,m,q1,q2,q3,U⟩:=M A r;⟨o,p,b,m,q1,q2,q _ _ q3,U⟩⟩;exact⟨[],L,λA r=>by cases r⟩
   refine MB (λσ' d=>∃(t:S'),σ'=[some (.ref D),some (.ref G),some (.ref I),some (.ref l),some (.ref n),some (.ref a),some (.ref mk),some (.str (g j)),t]/\Ac H d/\d n=some (.lst [])/\Rd d a (.dT c)) ?_ (λN' aD=>?_)
   case refine_2 =>
    refine⟨_,rfl,a,_,rfl,ai,λo u=>?_⟩
    have N:Ac H (upd s a (.frz o (.dT c))):=λb aN e=>by
     by_cases ax:b=a;subst ax;rw[Aa];rcases ag with J|⟨L,_⟩;obtain⟨a0,⟨o',x⟩,_⟩:=TT.at_ b j J;have O:=q _ _ x;rcases u with u|u;rw[O] at u;cases u;rw[O] at u;cases u;rw[x] at e;exact e;rw[e] at L;cases L;rw[Ax ax];exact q _ _ e
    have E:(upd s a (.frz o (.dT c))) n=_:=(Ax (Ne.symm aB)).trans af;have ay:(upd s a (.frz o (.dT c))) a=some (.frz o (.dT c)):=Aa;generalize upd s a (.frz o (.dT c))=H3 at N E ay ⊢
    refine VY (λi σ d=>∃(t:S'),σ=[some (.ref D),some (.ref G),some (.ref I),some (.ref l),some (.ref n),some (.ref a),some (.ref mk),some (.str (g j)),t]/\Ac H d/\d n=some (.lst [])/\d a=some (.frz o (.dT c)))
     ⟨_,rfl,N,E,ay⟩ (λi σ d _ ae=>by obtain⟨_,_,_,_,e⟩:=ae;exact e) ?_ ?_
    rotate_left;rintro σ H4 ⟨aj,rfl,B,ak,al⟩;exact aD _ _ ⟨aj,rfl,B,ak,.inr ⟨o,al⟩⟩;rintro i k a7 b σ H4 hi aE ⟨aj,rfl,B,ak,al⟩;obtain⟨x,p,b2,m2,e1,aF,_,_⟩:=aC _ (CB hi);cases e1;refine⟨_,rfl,_,rfl,D,b,S,Y,Z,x,g j,rfl,aq.same B,aE,aF,?_⟩;refine⟨_,rfl,DS,λp hp=>?_⟩;obtain⟨H5,an,C,ep⟩:=new_at (o:=.tup [.str (g j),.str (g j)]) hp;rw[<-an];have v:=B.trans C;refine⟨_,rfl,G,_,rfl,B2.t (k:=[.inr (g j),.inr (g j)]) (v _ _ eb) ep,_,rfl,?_⟩;have aG:AE [(([.inr lt,.inr la]:V'),V.bl true)] [.inr (g j),.inr (g j)]=none:=(by unfold AE;rw[List.find?_cons_of_neg];rfl;intro z;have z:=FL z;injection z with z1 Q;injection Q with Q _;injection z1 with z1;injection Q with Q;exact a8 (Q.trans z1.symm));rw[aG];exact Ar ⟨_,rfl,v,C _ _ ak,C _ _ al⟩
   rintro σ' H3 ⟨aj,rfl,N,E,a1⟩;refine⟨_,rfl,a,rfl,.inr ⟨_,a1⟩,_,rfl,λe W=>?_⟩;obtain⟨H4,aH,B,ee⟩:=new_at (o:=.dT []) W;rw[<-aH];refine⟨DS,λT5 aI=>?_⟩;obtain⟨H5,an,C,aJ⟩:=new_at (o:=.tup [.int 0,.ref e]) aI;rw[<-an];have R:=B.trans C;have v:=N.trans R;have aL:Rd H5 a (.dT c):=a1.elim (λz=>.inl (R _ _ z)) λ⟨o,z⟩=>.inr ⟨o,R _ _ z⟩;have aK:e≠n:=λz=>by rw[z,E] at W;cases W
   refine⟨_,.inr ⟨_,DU m,mk,aL,rfl,v _ _ ab,rfl⟩,?_⟩
   cases hv:AE c (DU m) with
   |some a7=>
    unfold AE at hv;obtain⟨A,r,rfl⟩:=CD.mp hv;rcases ag with J|⟨L,M⟩;obtain⟨a0,⟨o',x⟩,_,M⟩:=TT.at_ a j J;have:a0=c:=(by have O:=q _ _ x;rcases ai with y|⟨o2,y⟩;rw[O] at y;cases y;rw[O] at y;cases y;rfl);subst this;obtain⟨o2,p,b,m2,rfl,_,q3,U⟩:=M A (List.mem_of_find?_eq_some r);refine r6 (r4 ⟨p,_,_,.ref b,rfl,rfl,Am.of (v _ _ q3),rfl,?_⟩);exact⟨_,_,_,_,rfl,v,R _ _ E,az _ _ U,.inl U⟩;exfalso;have r:=List.mem_of_find?_eq_some r;have:c=[]:=(by rcases ai with y|⟨o3,y⟩<;>rcases M with y2|⟨o4,y2⟩<;>rw[y] at y2<;>cases y2<;>rfl);rw[this] at r;cases r
   |none=>refine r6 (r4 ⟨T5,_,_,.ref e,rfl,rfl,Am.of aJ,rfl,?_⟩);exact⟨_,_,_,_,rfl,v,R _ _ E,aK,.inr ⟨N.free W,.inl (C _ _ ee)⟩⟩
inductive DA (K:Ah) (vs:R') (H:Hp) (Q:VK):Prop where
 |mk (net t D:Addr) (ss:List AO) (gs:G') (qs:U') (la lt:Str) (lb:Nat->Str) (zs:List (Addr×List AZ)) (h0:vs=[.ref net,.ref t,.ref D]) (h1:B9 H net ss gs qs) (h2:BB K H t la lt) (h3:la≠lt) (h4:H D=some (.lst (zs.map λz=>V.ref z.1))) (h5:(∀z∈zs,Wy H z.1 z.2/\z.2.length<=40/\MI ss lb z.2)) (h6:zs.length<=400) (h7:∀(P:Addr)(ys:List (Addr×List AZ))(H':Hp),H P=none->Ac H H'->H' P=some (.lst (ys.map λz=>V.ref z.1))->(∀z∈ys,Wy H' z.1 z.2/\H z.1=none)->ys.map (·.2)=zs.map (·.2)->Q (.ref P) H'):DA K vs H Q
def XY (K:Ah):Sp:=λvs H Q _=>DA K vs H Q
abbrev RG(P w K mg base):=AU P w K mg base "seen_ways" 3 ["net", "table", "ways"] (XY K)
def XZ(aj:A0 mg)(ER:A1 K mg)(ax:Ps P w K mg base)(ay:Pt P w K mg base)(az:RF P w K mg base)(F:AW K "seen_ways" "seen_ways" JL f fd)(hm:mg "seen_ways" = some (.ref f)):RG P w K mg base:=by
 refine Bn F hm Ro (λa H ak al h=>?_) (λa8 a7 aB s H a ak al hr h=>?_);obtain⟨aa,t,D,B,R,S,C,lt,E,d,rfl,_⟩:=h;rfl;obtain⟨aa,t,D,B,R,S,C,lt,E,d,rfl,an,ao,a0,G,c,lz,aq⟩:=h
 refine⟨_,(Ai (AM (i:=3) Ro.nd (AK ax (Ab (pv 1) Af)))
  (Ai (AM (i:=4) Ro.nd (GS (AK ay (Ab (pv 2) Af))))
  (Ao (Ba (EQ (te:=Kk (NC K) (DQ (Bg 0) CZ)) rfl CJ (Bm (pv 2)) (λ_ _ _ _ _=>(An (i:=0) CJ.nd)) (λ_ _ _ _ _=>(QC (Hh (HF (AK az (Ab (pv 1) (Ab (pv 2) (Ab (pv 3) (Ab (pv 0) Af))))))))) (λ_ _ _ _ _=>(EO Hl aj.b_list (Ab (pv 0) Af)))))))),?_⟩
 rfl';refine⟨_,rfl,t,C,lt,rfl,ao,λbp H1 a9 I T=>?_⟩;refine Ap ?_;cbv;refine⟨_,rfl,D,d,(λar o=>MH B o (E ar)),rfl,I _ _ G,λz h=>⟨(c z h).1.same I,(c z h).2⟩,lz,λtr lv H2 U W l2 ab H3 n r=>?_⟩;have X:=n.same U;have T3:=W.frz ab n r;have a1:=X _ _ T;clear W ab n r U T;have j:=I.trans X;refine Ap ?_;cbv
 refine⟨_,rfl,D,rfl,⟨_,Ad.of (j _ _ G)⟩,QS (xs:=d.map λz=>V.ref z.1) (λP i p u=>∃a:List (Addr×List AZ),p=(a.map λz=>V.ref z.1)/\Ac H3 u/\u P=some (.lst p)/\(∀z∈a,Wy u z.1 z.2/\z.1≠P/\H z.1=none)/\a.map (·.2)=(d.map (·.2)).take i/\a.length<=i)
  (λP q=>⟨[],rfl,A3 q,Aa,(λz c=>by simp at c),by rw[IW];rfl,AB _⟩) (λP i p u a2=>by obtain⟨_,_,s,_⟩:=a2;exact Ad.of (s _ _ (j _ _ G))) (λP i y p Y RR R0 q hy J k k0=>?_) (λP p Y q J=>?_)⟩
 obtain⟨a,rfl,g,L,m,A,a3⟩:=J;obtain⟨z,O,rfl⟩:=getm hy;have aA:i<d.length:=(AS.mp O).1;have M:=CB O;have a4:(d.map (·.2))[i]?=some z.2:=by rw[AV,O];rfl
 have ae:=j.trans g;refine⟨_,rfl,_,rfl,_,rfl,_,rfl,aa,bp,tr,z.1,B,R,S,C,lt,E,lv,16000,z.2,rfl,an.same ae,g _ _ a1,a0,T3.sameF g,l2,(c z M).1.same ae,(c z M).2.2,λH5 N=>?_⟩;have af:=g.trans N;have ag:=j.trans af;have ah:=N _ _ L;refine⟨_,rfl,AR ?_⟩;obtain⟨Z,aw,n,r⟩:=(c z M).1.same ag;refine⟨_,rfl,z.1,_,rfl,r4 (Ad.of aw),λl v=>?_⟩;obtain⟨H6,a5,x,el⟩:=new_at (o:=.lst (Z.map V.ref)) v;rw[<-a5];have Q:=x _ _ ah;have ai:l≠P:=λy=>by rw[y,ah] at v;cases v
 refine k _ _ Q (by rw[Al];exact Bz (by lia)) ⟨a++[(l,z.2)],by rw[By];rfl,λb o e=>?_,Aa,λw a6=>?_,?_,by rw[BC,Ff];lia⟩;rw[Ax (AN e q)];exact x _ _ (af _ _ e);rcases EJ.mp a6 with h|h;exact⟨((m w h).1.same (N.trans x)).updL Q (m w h).2.1,(m w h).2⟩;rw[D7.mp h];exact⟨Wy.updL Q ai ⟨Z,el,n,λau t o av b=>x _ _ (r au t o av b)⟩,ai,ag.free v⟩;rw[FK,a4,By,A];rfl;obtain⟨a,rfl,g,L,m,A,a3⟩:=J;rw[Al,<-Al (f:=(·.2)),Jz] at A;exact aq P a Y ((j).free q) (j.trans g) L (λz h=>⟨(m z h).1,(m z h).2.2⟩) A
inductive D6 (K:Ah) (vs:R') (H:Hp) (Q:VK):Prop where
 |mk (net t D0:Addr) (v:Nat) (lab lbt nm:Str) (ss:List AO) (gs:G') (qs:U') (l:Nat) (ns:F') (zs:List (Addr×Eg)) (h0:vs=[.ref net,.ref t,.ref D0,.str nm]) (h1:B9 H net ss gs qs) (h2:DV ss gs lab lbt l ns) (h3:v<ss.length) (h4:BB K H t lab lbt) (h5:H D0=some (.lst (zs.map λz=>V.ref z.1))) (h6:(∀z∈zs,Ho H z.1 z.2)) (h7:(zs.map (·.2)).Perm ((List.range (Du ss.length l v+1)).map (Cz ss.length v))) (h8:∀(r D P:Addr)(ws ys:List (Addr×List AZ))(H':Hp),Ac H H'->H' r=some (.tup [.ref D0,.ref D,.ref P])->H' D=some (.lst (ws.map λw=>V.ref w.1))->H D=none->(∀w∈ws,Wy H' w.1 w.2/\H w.1=none)->ws.map (·.2)=Ci ss.length l ns v nm->H P=none->H' P=some (.lst (ys.map λz=>V.ref z.1))->(∀z∈ys,Wy H' z.1 z.2/\H z.1=none)->ys.map (·.2)=Ci ss.length l ns v nm->Q (.ref r) H'):D6 K vs H Q
def X0 (K:Ah):Sp:=λvs H Q _=>D6 K vs H Q
abbrev RH(P w K mg base):=AU P w K mg base "look_for" 4 ["net", "table", "begun", "name"] (X0 K)
def X1(ag:A0 mg)(ER:A1 K mg)(aa:RD P w K mg base)(ab:RG P w K mg base)(F:AW K "look_for" "look_for" Me f fd)(L:mg "look_for" = some (.ref f)):RH P w K mg base:=by
 refine Bn F L Ud (λM H Q E h=>?_) (λaj ah ak ai H M Q E A h=>?_);obtain⟨y,t,n,v,g,k,nm,a,p,s,l,ns,B,rfl,_⟩:=h;rfl;obtain⟨y,t,n,v,g,k,nm,a,p,s,l,ns,B,rfl,N,C,G,T,O,R,S,q⟩:=h;have ok:=G5 (nm:=nm) C G;have l1:=Ra (m:=a.length) (l:=l) (v:=v) (ns:=ns) (nm:=nm)
 refine⟨_,(Ai (AM (i:=4) Ud.nd (AK aa (Ab (pv 0) (Ab (pv 1) (Ab (pv 2) (Ab (pv 3) Af))))))
  (Ao (Ba (BR (Ab (pv 2) (Ab (pv 4) (Ab (AK ab (Ab (pv 0) (Ab (pv 1) (Ab (pv 4) Af)))) Af))))))),?_⟩
 rfl';refine⟨_,rfl,_,rfl,_,rfl,_,rfl,y,t,n,v,g,k,nm,a,p,s,l,ns,B,rfl,N,C,G,T,O,R,S,λD d U V b I u e=>?_⟩;refine Ap ?_;cbv
 have ae:∀w∈d,Wy U w.1 w.2/\w.2.length<=40/\MI a (λj=>if j=Du a.length l v then k else g) w.2:=λw h=>by
  have:=ok w.2 (by rw[<-e];exact Bo.mpr ⟨w,h,rfl⟩);exact⟨(u w h).1,this.1,this.2.1⟩
 have W:d.length<=400:=(by have X:=DK List.length e;rw[Al] at X;lia);refine⟨_,rfl,_,rfl,_,rfl,_,rfl,_,rfl,y,t,D,a,p,s,g,k,_,d,rfl,N.same b,T.same b,C.ne,I,ae,W,λP Y H2 Z x eP J af=>?_⟩;refine⟨Fx,λr A=>?_⟩;have c:=A3 (o:=.tup [.ref n,.ref D,.ref P]) A;exact q r D P d Y _ ((b.trans x).trans c) Aa (c _ _ (x _ _ I)) V (λw h=>⟨((u w h).1.same x).same c,(u w h).2⟩) e (b.free Z) (c _ _ eP) (λz h=>⟨(J z h).1.same c,b.free (J z h).2⟩) (af.trans e)
inductive Db (K:Ah) (vs:R') (H:Hp) (Q:VK):Prop where
 |mk (net t D O:Addr) (la lt:Str) (ok:Nat->AZ->Prop) (zs:List (Addr×List AZ)) (h0:vs=[.ref net,.ref t,.ref D,.ref O]) (h1:BB K H t la lt) (h2:H D=some (.lst (zs.map λz=>V.ref z.1))) (h3:(∀z∈zs,Wy H z.1 z.2/\z.2.length<=40/\∀j o,z.2[j]?=some o->ok j o)) (h4:zs.length<=400) (h5:H O=some (.lst [])) (h6:∀H',Ac H H'->Q .non H'):Db K vs H Q
def X2 (K:Ah):Sp:=λvs H Q _=>Db K vs H Q
abbrev RI(P w K mg base):=AU P w K mg base "first_owed" 2 ["net", "table", "found", "owed"] (X2 K)
def X3(B:A0 mg)(Y:A1 K mg)(U:Ps P w K mg base)(V:Pt P w K mg base)(F:AW K "first_owed" "first_owed" Mf f fd)(r:mg "first_owed" = some (.ref f)):RI P w K mg base:=by
 refine Bn F r N4 (λu H Q E h=>?_) (λaa A ae s H u Q E Z h=>?_);obtain⟨o,t,D,O,b,lt,ok,c,rfl,_⟩:=h;rfl;obtain⟨o,t,D,O,b,lt,ok,c,rfl,T,v,d,y,e,q⟩:=h
 refine⟨_,(Ai (AM (i:=4) N4.nd (AK U (Ab (pv 1) Af)))
  (Ai (AM (i:=5) N4.nd (GS (AK V (Ab (pv 2) Af))))
  (Ai (Bt Bl rfl (Bm (pv 3)) (Bf (n:=2) rfl (Av (An (i:=6) N4.nd) (Av (An (i:=7) N4.nd) Be))) (Ao Cg))
  (Ao (Ba I0))))),?_⟩
 rfl';refine⟨_,rfl,t,b,lt,rfl,T,λC H1 ab a G=>?_⟩;refine Ap ?_;cbv;refine⟨_,rfl,D,c,ok,rfl,a _ _ v,λz h=>⟨(d z h).1.same a,(d z h).2⟩,y,λI lv H2 g J l2 W H3 j L=>?_⟩;have M:=j.same g;clear J W j L g G;have p:=a.trans M;refine Ap ?_;cbv;refine⟨_,rfl,O,rfl,⟨_,Ad.of (p _ _ e)⟩,CQ (xs:=[]) (λi σ k=>∃l m,σ=[some (.ref o),some (.ref t),some (.ref D),some (.ref O),some (.ref C),some (.ref I),l,m]/\Ac H k) ⟨none,none,rfl,p⟩ (λi σ k _ X=>by obtain⟨_,_,_,s⟩:=X;exact Ad.of (s _ _ e)) ?_ ?_⟩;rintro i x σ N R;simp at R;rintro σ N ⟨l,m,rfl,S⟩;exact q _ S
inductive Dc (K:Ah) (vs:R') (H:Hp) (Q:VK):Prop where
 |mk (net m:Addr) (ss:List AO) (gs:G') (qs:U') (v i:Nat) (s:AO) (p:Iq) (h0:vs=[.ref net,.ref m]) (h1:B9 H net ss gs qs) (h2:H m=some (.tup [.int (v:Int),.str "told",.int (i:Int)])) (h3:ss[v]?=some s) (h4:s.2[i]?=some p) (h5:∀t,H t=some (.tup (DF p))->Q (.ref t) H):Dc K vs H Q
def X4 (K:Ah):Sp:=λvs H Q _=>Dc K vs H Q
abbrev Pu(P w K mg base):=AU P w K mg base "telling_at" 1 ["net", "mark"] (X4 K)
def X5(B:A0 mg)(L:A1 K mg)(F:AW K "telling_at" "telling_at" Mg f fd)(e:mg "telling_at" = some (.ref f)):Pu P w K mg base:=by
 refine Bn F e N5 (λg H Q E h=>?_) (λW A X s H g Q E M h=>?_);obtain⟨d,m,j,k,l,v,i,Z,p,rfl,_⟩:=h;rfl;obtain⟨d,m,j,k,l,v,i,Z,p,rfl,N,o,r,a,q⟩:=h;obtain⟨S,T,R,us,u,G,x,O,y,z,J,C,D,U,V,I,b⟩:=N.sco r
 refine⟨_,(Ai (Dm (pv 1) (Bf (n:=3) rfl (Av (An (i:=2) N5.nd) (Av (An (i:=3) N5.nd) (Av (An (i:=4) N5.nd) Be)))))
  (Ai (AM (i:=5) N5.nd (AF AG (AF AG (AF AG (pv 0) At) (pv 2)) At))
  (Ao (Ba (AF AG (pv 5) (pv 4)))))),?_⟩
 rfl';refine⟨_,rfl,m,_,rfl,Am.of o,rfl,_,_,rfl,_,_,rfl,_,_,rfl,rfl,?_⟩;refine⟨_,rfl,r6 (r4 ⟨d,_,_,.ref S,rfl,rfl,Am.of z,rfl,_,rfl,r4 ⟨S,_,_,.ref u,rfl,rfl,Ad.of J,Ck (by rw[AV,C];rfl),r6 (r4 ⟨u,_,_,.ref x,rfl,rfl,Am.of D,rfl,?_⟩)⟩⟩)⟩;refine Ap ?_;cbv;obtain⟨t,c⟩:∃t,y[i]?=some t:=⟨_,AQ (by rw[b.len];exact(AS.mp a).1)⟩;exact⟨_,rfl,_,rfl,r4 ⟨_,_,_,.ref t,rfl,rfl,Ad.of I,Ck (by rw[AV,c];rfl),q t (b.at_ i t p c a)⟩⟩
inductive Dd (K:Ah) (vs:R') (H:Hp) (Q:VK):Prop where
 |mk (net P:Addr) (A:V) (ss:List AO) (gs:G') (qs:U') (ys:List (Addr×List AZ)) (h0:vs=[.ref net,A,.ref P]) (h1:B9 H net ss gs qs) (h2:H P=some (.lst (ys.map λz=>V.ref z.1))) (h3:(∀z∈ys,Wy H z.1 z.2/\G4 ss z.2)) (h4:Q .non H):Dd K vs H Q
def X6 (K:Ah):Sp:=λvs H Q _=>Dd K vs H Q
abbrev RJ(P w K mg base):=AU P w K mg base "first_open" 2 ["net", "answers", "seen"] (X6 K)
def X7(B:A0 mg)(ER:A1 K mg)(X:Pu P w K mg base)(F:AW K "first_open" "first_open" Mh f fd)(u:mg "first_open" = some (.ref f)):RJ P w K mg base:=by
 refine Bn F u ML (λx H Q E h=>?_) (λae A af aa H x Q E hr h=>?_);obtain⟨j,P,A,k,l,m,o,rfl,_⟩:=h;rfl
 . obtain⟨j,P,A,k,l,m,o,rfl,N,r,y,q⟩:=h
   refine⟨_,(Ai (Bt Bl rfl (Bm (pv 2)) (An (i:=3) ML.nd) (Ai (Dm (AK X (Ab (pv 0) (Ab (AF AG (pv 3) (Ou Ov At)) Af))) (Bf (n:=4) rfl (Av (An (i:=4) ML.nd) (Av (An (i:=5) ML.nd) (Av (An (i:=6) ML.nd) (Av (An (i:=7) ML.nd) Be))))))
    (Ao (Bi (PW.pt (HH (Cc DE (pv 6) B0 (BY _)) (HG (Hh (HF (AF AG (pv 1) (pv 7))))))) (Ao Cg) Bj))))
    (Ao (Ba I0))),?_⟩
   try dsimp only[Ay,Cx.nox,Cx.wish]
   refine⟨_,rfl,P,rfl,⟨_,Ad.of r⟩,CQ (xs:=o.map λz=>V.ref z.1) (λi σ s=>∃a b c d g,σ=[some (.ref j),some A,some (.ref P),a,b,c,d,g]/\s=H)
    ⟨none,none,none,none,none,rfl,rfl⟩ (λi σ s _ Y=>by obtain⟨_,_,_,_,_,_,e⟩:=Y;exact by rw[e];exact Ad.of r) ?_ ?_⟩
   rotate_left;rintro σ C ⟨a,b,c,d,g,rfl,rfl⟩;exact q;rintro i ab σ C D ⟨a,b,c,d,g,rfl,rfl⟩;obtain⟨z,Z,rfl⟩:=getm D;obtain⟨G,v,I,J,p,L,M,O,R⟩:=y z (CB Z);obtain⟨ts,mk,S,T,U⟩:=Q9 G L;refine Ap ?_;cbv;refine⟨_,rfl,_,rfl,_,rfl,r4 ⟨z.1,_,_,.ref mk,rfl,rfl,Ad.of S,T,j,mk,k,l,m,v,I,J,p,rfl,N,U,M,O,λW t=>?_⟩⟩;rw[show DF p=[.str p.1,.str p.2.1,.str "thing",.int 0] by unfold DF;rw[R]] at t;refine⟨W,_,rfl,Am.of t,rfl,_,_,rfl,_,_,rfl,_,_,rfl,_,_,rfl,rfl,?_⟩;refine⟨_,rfl,rfl,_,rfl,?_⟩;rw[BM (show ¬V.str "thing" = V.str "by" from λe=>absurd (V.str.inj e) (by decide +kernel))];exact Ar (Ar ⟨_,_,_,_,_,rfl,rfl⟩)
inductive Et (K:Ah) (vs:R') (H:Hp) (Q:VK):Prop where
 |mk (net l:Addr) (A:V) (ss:List AO) (gs:G') (qs:U') (os:List AZ) (h0:vs=[.ref net,A,.ref l]) (h1:B9 H net ss gs qs) (h2:Wy H l os) (h3:G4 ss os) (h4:Q (.int 0) H):Et K vs H Q
def X8 (K:Ah):Sp:=λvs H Q _=>Et K vs H Q
abbrev RK(P w K mg base):=AU P w K mg base "meaning" 2 ["net", "answers", "way"] (X8 K)
def X9(B:A0 mg)(I:A1 K mg)(G:Pu P w K mg base)(F:AW K "meaning" "meaning" Mi f fd)(g:mg "meaning" = some (.ref f)):RK P w K mg base:=by
 refine Bn F g N6 (λj H Q E h=>?_) (λM A O s H j Q E J h=>?_);obtain⟨d,l,A,a,b,c,k,rfl,_⟩:=h;rfl;obtain⟨d,l,A,a,b,c,k,rfl,N,m,⟨v,i,o,p,r,t,u,x⟩,q⟩:=h;obtain⟨L,mk,y,z,C⟩:=Q9 m r
 refine⟨_,(Ai (Dm (AK G (Ab (pv 0) (Ab (AF AG (pv 2) (Ou Ov At)) Af))) (Bf (n:=4) rfl (Av (An (i:=3) N6.nd) (Av (An (i:=4) N6.nd) (Av (An (i:=5) N6.nd) (Av (An (i:=6) N6.nd) Be))))))
  (Ai (Bi (Cc DE (pv 5) B0 (BY _)) (Ao (Ba (pv 6))) Bj)
  (Ai Cg
  (Ai (Bi (Cc DE (pv 5) B0 (BY _)) (Ao (Ba (pv 6))) Bj)
  (Ao (Ba I0)))))),?_⟩
 rfl';refine⟨_,rfl,_,rfl,_,rfl,r4 ⟨l,_,_,.ref mk,rfl,rfl,Ad.of y,z,d,mk,a,b,c,v,i,o,p,rfl,N,C,t,u,λD e=>?_⟩⟩;rw[show DF p=[.str p.1,.str p.2.1,.str "thing",.int 0] by unfold DF;rw[x]] at e;refine⟨D,_,rfl,Am.of e,rfl,_,_,rfl,_,_,rfl,_,_,rfl,_,_,rfl,rfl,?_⟩;exact⟨_,rfl,rfl,_,rfl,AR ⟨_,rfl,q⟩⟩
inductive Jx (K:Ah) (vs:R') (H:Hp) (Q:VK):Prop where
 |mk (net t O r B D P:Addr) (A:V) (at_:Nat) (la lt:Str) (ss:List AO) (gs:G') (qs:U') (lb:Nat->Str) (ws ys:List (Addr×List AZ)) (h0:vs=[.ref net,A,.ref t,.ref O,.ref r,.int (at_:Int)]) (h1:B9 H net ss gs qs) (h2:BB K H t la lt) (h3:H O=some (.lst [])) (h4:H r=some (.tup [.ref B,.ref D,.ref P])) (h5:H D=some (.lst (ws.map λw=>V.ref w.1))) (h6:(∀w∈ws,Wy H w.1 w.2/\w.2.length<=40/\MI ss lb w.2)) (h7:ws.length<=400) (h8:H P=some (.lst (ys.map λz=>V.ref z.1))) (h9:(∀z∈ys,Wy H z.1 z.2/\G4 ss z.2)) (h10:ys.length<=400) (h11:∀(v p:Addr)(H':Hp),Ac H H'->H' v=some (.tup [.ref p,.non])->H' p=some (.tup (if ys=[] then[.str "none",.int (at_:Int)] else[.str "thing",.int 0]))->Q (.ref v) H'):Jx K vs H Q
def LJ (K:Ah):Sp:=λvs H Q _=>Jx K vs H Q
abbrev Hc(P w K mg base):=AU P w K mg base "met" 3 ["net", "answers", "table", "owed", "look", "at"] (LJ K)
def Yb(ae:A0 mg)(ER:A1 K mg)(au:RI P w K mg base)(av:RJ P w K mg base)(aw:RK P w K mg base)(F:AW K "met" "met" Hy f fd)(hm:mg "met" = some (.ref f)):Hc P w K mg base:=by
 refine Bn F hm Lw (λd H ao aq h=>?_) (λaA a8 aC af H d ao aq hr h=>?_);obtain⟨q,t,O,r,B1,D,P,u,Y,la,lt,y,Q,R,lb,ws,e,rfl,_⟩:=h;rfl
 . obtain⟨q,t,O,r,B1,D,P,u,Y,la,lt,y,Q,R,lb,ws,e,rfl,ag,ar,eO,er,eD,hw,lw,S,A,ly,ah⟩:=h
   refine⟨_,(Ai (Dm (pv 4) (Bf (n:=3) rfl (Av (An (i:=6) Lw.nd) (Av (An (i:=7) Lw.nd) (Av (An (i:=8) Lw.nd) Be)))))
    (Ai (AM (i:=9) Lw.nd (AK au (Ab (pv 0) (Ab (pv 2) (Ab (pv 7) (Ab (pv 3) Af))))))
    (Ai (Bi (Hh (HF (pv 9))) (Ao (AM (i:=9) Lw.nd (AK av (Ab (pv 0) (Ab (pv 1) (Ab (pv 8) Af)))))) Bj)
    (Ai (Bi (Hh (PV (pv 9))) (Ai Cg
     (Ao Cg)) Bj)
    (Ai (AM (i:=12) Lw.nd (EQ rfl FC (Bm (pv 8)) (λ_ _ _ _ _=>(An (i:=0) FC.nd)) (λ_ _ _ _ _=>EC) (λ_ _ _ _ _=>(AK aw (Ab (pv 1) (Ab (pv 2) (Ab (pv 0) Af)))))))
    (Ai (Bi (Dq (Bh (OA rfl) ae.b_all (Ab (EQ rfl FD (Bm (pv 12)) (λ_ _ _ _ _=>(An (i:=0) FD.nd)) (λ_ _ _ _ _=>EC) (λ_ _ _ _ _=>(Gn (HF (pv 0))))) Af))) (Ao (Ba (BR (Ab (BR (Ab B0 (Ab (pv 5) Af))) (Ab I0 Af))))) Bj)
    (Ai (Bi (Dq (Bh (V4 rfl) ae.b_any (Ab (EQ (te:=EN Si (Bg 0) (EN (Hk K) (Bg 1) (tC (.int ((0:Nat):Int))))) rfl FE (Bm (pv 12)) (λ_ _ _ _ _=>(An (i:=0) FE.nd)) (λ_ _ _ _ _=>EC) (λ_ _ _ _ _=>(Hi Je (pv 0) (AF AG (pv 1) At) (BY _)))) Af))) (Ao Cg) Bj)
    (Ao (Ba (BR (Ab (BR (Ab B0 (Ab (AF AG (pv 12) At) Af))) (Ab I0 Af)))))))))))),?_⟩
   rfl';refine⟨_,rfl,r,_,rfl,Am.of er,rfl,_,_,rfl,_,_,rfl,_,_,rfl,rfl,?_⟩;refine⟨_,rfl,_,rfl,_,rfl,_,rfl,q,t,D,O,la,lt,(λj o=>MH y o (lb j)),ws,rfl,ar,eD,hw,lw,eO,λH1 B=>?_⟩;refine Ap ?_;cbv;refine MB (λσ' p=>σ'=[some (.ref q),some u,some (.ref t),some (.ref O),some (.ref r),some (.int (Y:Int)),some (.ref B1),some (.ref D),some (.ref P),some .non,none,none,none]/\Ac H p) ?_ (λNN ax=>?_)
   case refine_2 =>
    refine⟨_,rfl,_,rfl,CS (λ_=>?_) (λh=>absurd (Ca rfl) h)⟩;refine⟨_,rfl,_,rfl,_,rfl,q,P,u,y,Q,R,e,rfl,ag.same B,B _ _ S,λz h=>⟨(A z h).1.same B,(A z h).2⟩,?_⟩;exact ax _ _ ⟨rfl,B⟩
   rintro σ' H2 ⟨rfl,C⟩;refine⟨_,rfl,_,rfl,CS (λh=>absurd h (by decide)) (λ_=>?_)⟩;refine Ds ?_;cbv
   refine⟨_,rfl,P,rfl,⟨_,Ad.of (C _ _ S)⟩,KN (xs:=e.map λz=>V.ref z.1) (λM i d p=>Ac H2 p/\p M=some (.lst d)/\d=((e.take i).map λ_=>V.int (0:Int)))
    (λM E=>⟨A3 E,Aa,by rw[IW];rfl⟩) (λM i d p ay=>by obtain⟨af,_⟩:=ay;exact Ad.of (af _ _ (C _ _ S))) (λM i ai d H3 RR E az T k=>?_) (λM d H3 E T=>?_)⟩
   obtain⟨G,c,rfl⟩:=T;obtain⟨z,ak,rfl⟩:=getm az;have mz:=CB ak;have L:=C.trans G;refine⟨_,rfl,_,rfl,_,rfl,q,z.1,u,y,Q,R,z.2,rfl,ag.same L,(A z mz).1.same L,(A z mz).2,?_⟩;refine k _ _ c ?_ ⟨λa9 o aj=>?_,Aa,?_⟩;rw[Al,DM];exact Bz (by lia);rw[Ax (AN aj E)];exact G _ _ aj;rw[FK,ak,By];rfl;obtain⟨G,c,rfl⟩:=T;rw[Al,Jz] at c;obtain⟨b,s⟩:∃b,b=e.map λ_=>(0:Nat):=⟨_,rfl⟩;have c:H3 M=some (.lst (b.map λn:Nat=>V.int (n:Int))):=by rw[c,s,DI];rfl
   have lm:b.length<=400:=by rw[s,Al];exact ly
   have Z:∀x∈b,x=0:=λx g=>by
    rw[s] at g;obtain⟨_,_,rfl⟩:=Bo.mp g;rfl
   have an:b=[]↔e=[]:=by rw[s];exact List.map_eq_nil_iff
   clear s;have L:=C.trans G;refine Ap ?_;cbv;refine⟨_,rfl,M,rfl,⟨_,Ad.of c⟩,QD (xs:=b.map λn:Nat=>V.int (n:Int)) (λv=>V.bl (decide (v=V.non))) (by rw[Al];exact Dk (Bz (by lia))) (Ad.of c) (λj ai H4 D4 R4 aB U a0 k4=>⟨_,rfl,k4 _ (Ac.refl _)⟩) (λH4 D4 U a0 e4=>?_)⟩;refine⟨D4,(b.map λn:Nat=>V.int (n:Int)).map λv=>decide (v=V.non),rfl,Ad.of (by rw[e4,DI (f:=λv=>decide (v=V.non))];rfl),_,rfl,?_⟩;have al:=L.trans U
   cases b with
   |nil=>refine AR ⟨_,rfl,DS,λJ aa=>?_⟩;obtain⟨H5,a1,l,W⟩:=new_at (o:=.tup [.str "none",.int (Y:Int)]) aa;rw[<-a1];refine⟨DS,λX ab=>?_⟩;have I:=A3 (o:=.tup [.ref J,.non]) ab;exact ah X J _ ((al.trans l).trans I) Aa (by rw[AC (an.mp rfl)];exact I _ _ W)
   |cons a m=>
    rw[show(((a::m).map λn:Nat=>V.int (n:Int)).map λv=>decide (v=V.non)).all id=false from rfl];refine Ar ?_;refine Ds ?_;cbv;have N:=U _ _ c;have h0:Fv ((a::m).map λn:Nat=>V.int (n:Int)) ((0:Nat):Int)=some (.int (a:Int)):=Ck rfl;refine⟨_,rfl,M,rfl,⟨_,Ad.of N⟩,QD (xs:=(a::m).map λn:Nat=>V.int (n:Int)) (λv=>V.bl (!decide (v=V.int (a:Int)))) (by rw[Al];exact Dk (Bz (by lia))) (Ad.of N) (λj ai H5 D5 R5 a2 l a3 k5=>?_) (λH5 D5 l a3 W=>?_)⟩;obtain⟨w,_,rfl⟩:=getm a2;exact⟨_,rfl,_,rfl,r4 ⟨M,_,_,_,rfl,rfl,Ad.of (l _ _ N),h0,rfl,k5 _ (Ac.refl _)⟩⟩;refine⟨D5,((a::m).map λn:Nat=>V.int (n:Int)).map λv=>!decide (v=V.int (a:Int)),rfl,Ad.of (by rw[W,DI (f:=λv=>!decide (v=V.int (a:Int)))];rfl),_,rfl,?_⟩;have a4:=al.trans l;have a7:∀x∈a::m,x=a:=λx g=>(Z x g).trans (Z a (by simp)).symm;obtain rfl:a=0:=Z a (by simp)
    rw[show((((0::m).map λn:Nat=>V.int (n:Int)).map λv=>!decide (v=V.int ((0:Nat):Int))).any id)=false from by
     rw[DI,List.any_map,List.any_eq_false];intro x g;rw[a7 x g];simp]
    refine Ar ?_;refine Ds ?_;cbv;have a5:=l _ _ N;refine⟨_,rfl,r4 ⟨M,_,_,.int ((0:Nat):Int),rfl,rfl,Ad.of a5,h0,DS,λJ aa=>?_⟩⟩;obtain⟨H6,a6,I,e6⟩:=new_at (o:=.tup [.str "thing",.int ((0:Nat):Int)]) aa;rw[<-a6];refine⟨DS,λX ab=>?_⟩;have s7:=A3 (o:=.tup [.ref J,.non]) ab;exact ah X J _ ((a4.trans I).trans s7) Aa (by rw[AA λz=>by have:=an.mpr z;cases this];exact s7 _ _ e6)
inductive CN (K:Ah) (vs:R') (H:Hp) (Q:VK):Prop where
 |mk (net t D0:Addr) (ans:V) (v:Nat) (lab lbt:Str) (ss:List AO) (gs:G') (qs:U') (l:Nat) (ns:F') (zs:List (Addr×Eg)) (h0:vs=[.ref net,ans,.ref t,.ref D0]) (h1:B9 H net ss gs qs) (h2:DV ss gs lab lbt l ns) (h3:BB K H t lab lbt) (h4:H D0=some (.lst (zs.map λz=>V.ref z.1))) (h5:(∀z∈zs,∃ml:Addr,H z.1=some (.tup [.ref ml,.int (z.2.2:Int),.int 0]))) (h6:(zs.map (·.2)).Perm ((List.range (Du ss.length l v+1)).map (Cz ss.length v))) (h7:∀(D:Addr)(H':Hp),H D=none->Ac H H'->H' D=some (.lst [])->Q (.ref D) H'):CN K vs H Q
def Yc (K:Ah):Sp:=λvs H Q _=>CN K vs H Q
abbrev RL(P w K mg base):=AU P w K mg base "owed_behind" 3 ["net", "answers", "table", "begun"] (Yc K)
theorem Yd(aa:A0 mg)(ER:A1 K mg)(aj:Pr P w K mg base)(F:AW K "owed_behind" "owed_behind" Mj f fd)(hm:mg "owed_behind" = some (.ref f)):RL P w K mg base:=by
 refine Bn F hm IM (λvs H ab ae h=>?_) (λaz ar a0 au H vs ab ae hr h=>?_);obtain⟨r,t,p,s,af,X,Y,A,N,O,l,ns,B,rfl,_⟩:=h;rfl;obtain⟨r,t,p,s,af,X,Y,A,N,O,l,ns,B,rfl,ag,C,ah,Q,hz,E,ai⟩:=h
 have ak:∀z∈B,z.2.2<A.length:=λz h=>by
  obtain⟨av,_,e⟩:=Bo.mp (E.mem_iff.mp (Bo.mpr ⟨z,h,rfl⟩));rw[<-e];exact NP (Nat.lt_of_le_of_lt (B8 _) C.hl)
 refine⟨_,(Ai (AM (i:=4) IM.nd (Ch Af))
  (Ai (Bt Bl rfl (Bm (pv 3)) (Bf (n:=3) rfl (Av (An (i:=5) IM.nd) (Av (An (i:=6) IM.nd) (Av (An (i:=7) IM.nd) Be)))) (Ao (Bt Bl rfl (Bm (AK aj (Ab (pv 0) (Ab (pv 1) (Ab (pv 2) (Ab (pv 6) (Ab (pv 7) Af))))))) (Bf (n:=4) rfl (Av (An (i:=8) IM.nd) (Av (An (i:=9) IM.nd) (Av (An (i:=10) IM.nd) (Av (An (i:=11) IM.nd) Be))))) (Ao (Bi (Cc DE (pv 9) B0 (BY _)) (Ao Cg) Bj)))))
  (Ao (Ba (Bh (VN Jr Fo hr.units (by decide) (by decide)) aa.b_sorted (Ab (pv 4) Af)))))),?_⟩
 rfl';refine⟨by decide,λD hD=>?_⟩;have R:=A3 (o:=.lst []) hD
 refine⟨_,rfl,p,rfl,⟨_,Ad.of (R _ _ Q)⟩,CQ (xs:=B.map λz=>V.ref z.1) (λi σ j=>∃(I J L a b c d:S'),σ=[some (.ref r),some s,some (.ref t),some (.ref p),some (.ref D),I,J,L,a,b,c,d]/\Ac H j/\j D=some (.lst []))
  ⟨none,none,none,none,none,none,none,rfl,R,Aa⟩ (λi σ j _ u=>by obtain⟨_,_,_,_,_,_,_,_,e,_⟩:=u;exact Ad.of (e _ _ Q)) ?_ ?_⟩
 rintro i aw σ H2 hx ⟨I,J,L,a,b,c,d,rfl,k,v⟩;obtain⟨z,al,rfl⟩:=getm hx;have S:=CB al;obtain⟨T,h1⟩:=hz z S;refine⟨z.1,_,rfl,Am.of (k _ _ h1),rfl,_,_,rfl,_,_,rfl,_,_,rfl,rfl,?_⟩;refine⟨_,rfl,_,rfl,_,rfl,_,rfl,_,rfl,r,t,s,z.2.2,X,Y,A,N,O,l,ns,rfl,ag.same k,C,ak z S,ah.same k,λG U hG x an ao=>?_⟩;by_cases W:z.2.2=l;have q:=an W;refine⟨G,rfl,⟨_,Ad.of q⟩,CQ (xs:=[]) (λn σ j=>∃(a b c d:S'),σ=[some (.ref r),some s,some (.ref t),some (.ref p),some (.ref D),some (.ref T),some (.int (z.2.2:Int)),some (.int 0),a,b,c,d]/\j=U) ⟨_,_,_,_,rfl,rfl⟩ (λn σ j _ u=>by obtain⟨_,_,_,_,_,e⟩:=u;exact by rw[e];exact Ad.of q) ?_ ?_⟩;intro n y σ M m;simp at m;rintro σ M ⟨a,b,c,d,rfl,rfl⟩;exact⟨_,_,_,_,_,_,_,rfl,k.trans x,x _ _ v⟩;obtain⟨g,ax,q,eg,ay⟩:=ao W;refine⟨G,rfl,⟨_,Ad.of q⟩,CQ (xs:=[V.ref g]) (λn σ j=>∃(a b c d:S'),σ=[some (.ref r),some s,some (.ref t),some (.ref p),some (.ref D),some (.ref T),some (.int (z.2.2:Int)),some (.int 0),a,b,c,d]/\j=U) ⟨_,_,_,_,rfl,rfl⟩ (λn σ j _ u=>by obtain⟨_,_,_,_,_,e⟩:=u;exact by rw[e];exact Ad.of q) ?_ ?_⟩;rintro n y σ M m ⟨a,b,c,d,rfl,rfl⟩
 obtain rfl:y=.ref g:=by
  cases n with|zero=>cases m;rfl|succ i=>simp at m
 refine⟨g,_,rfl,Am.of eg,rfl,_,_,rfl,_,_,rfl,_,_,rfl,_,_,rfl,rfl,?_⟩;refine⟨_,rfl,rfl,_,rfl,?_⟩;rw[BM (show ¬V.str "to" = V.str "open" from λe=>absurd (V.str.inj e) (by decide +kernel))];exact Ar ⟨_,_,_,_,rfl,rfl⟩;rintro σ M ⟨a,b,c,d,rfl,rfl⟩;exact⟨_,_,_,_,_,_,_,rfl,k.trans x,x _ _ v⟩;rintro σ H2 ⟨I,J,L,a,b,c,d,rfl,k,v⟩;refine⟨_,rfl,D,[],rfl,Ad.of v,show 0<64 by decide,(λy m=>by simp at m),λD2 aq E hs Z=>?_⟩;obtain rfl:aq=[]:=List.length_eq_zero_iff.mp E.length_eq;exact ai D2 _ (k.free Z) (k.trans (A3 Z)) Aa
inductive EY (K:Ah) (vs:R') (H:Hp) (Q:VK):Prop where
 |mk (net:Addr) (ans:V) (ss:List AO) (qs:U') (l:Nat) (h0:vs=[.ref net,ans,.int 0]) (h1:B9 H net ss [(a',(l:Int))] qs) (h2:∀(r:Addr)(H':Hp),H r=none->Ac H H'->H' r=some (.tup [.str "to",.int (l:Int)])->Q (.ref r) H'):EY K vs H Q
def Ye (K:Ah):Sp:=λvs H Q _=>EY K vs H Q
abbrev RM(P w K mg base):=AU P w K mg base "inside" 1 ["net", "answers", "thing"] (Ye K)
def Yg(B:A0 mg)(t:A1 K mg)(F:AW K "inside" "inside" Mk f fd)(d:mg "inside" = some (.ref f)):RM P w K mg base:=by
 refine Bn F d Rp (λe H Q E h=>?_) (λy A z s H e Q E a h=>?_);obtain⟨c,p,j,k,l,rfl,_⟩:=h;rfl;obtain⟨c,p,j,k,l,rfl,⟨S,T,R,us,u,v,b,x,m,N⟩,q⟩:=h
 obtain⟨g,rfl⟩:∃g,b=[g]:=by
  have:=N.tg.len
  match b,this with
  |[g],_=>exact⟨g,rfl⟩
 have o:=N.tg.at_ 0 g _ rfl rfl
 refine⟨_,(Ai (Dm (AF AG (AF AG (pv 0) At) (pv 2)) (Bf (n:=2) rfl (Av (An (i:=3) Rp.nd) (Av (An (i:=4) Rp.nd) Be))))
  (Ai (Bi (Cc DE (pv 3) B0 (BY _)) (Ao (Ba (BR (Ab B0 (Ab (pv 4) Af))))) Bj)
  (Ai Cg
  (Ao Cg)))),?_⟩
 rfl';refine⟨_,rfl,r6 (r4 ⟨c,_,_,.ref T,rfl,rfl,Am.of m,rfl,_,rfl,r4 ⟨T,_,_,.ref g,rfl,rfl,Ad.of N.et,rfl,?_⟩⟩)⟩;refine⟨g,_,rfl,Am.of o,rfl,_,_,rfl,_,_,rfl,rfl,?_⟩;refine⟨_,rfl,rfl,_,rfl,AR ?_⟩;exact⟨_,rfl,DS,λr a=>q r _ a (A3 a) Aa⟩
def IT(xs:List α)(x:α):Fv (xs++[x]) (-1)=some x:=by
 unfold Fv;have e:FR (xs++[x]).length (-1)=some xs.length:=(by unfold FR;rw[BC,Ff,AA (by decide),AC (by lia)];congr 1;lia);rw[e];show(xs++[x])[xs.length]?=_;rw[DJ (AB _),Nat.sub_self];rfl
inductive Eu (K:Ah) (vs:R') (H:Hp) (Q:VK):Prop where
 |mk (nt t ask u:Addr) (ans:V) (v:Nat) (path:F') (lab lbt:Str) (ss:List AO) (gs:G') (qs:U') (l:Nat) (ns:F') (h0:vs=[.ref nt,ans,.ref t,.ref ask]) (h1:B9 H nt ss gs qs) (h2:DV ss gs lab lbt l ns) (h3:BB K H t lab lbt) (h4:v<ss.length) (h5:H ask=some (.tup [.int (v:Int),.int 0,.ref u])) (h6:H u=some (.tup (path.map V.str))) (h7:1<=path.length) (h8:path.length<=6) (h9:∀(r p L T:Addr)(ks:E')(H':Hp),Ac H H'->H' r=some (.tup [.ref p,.non,.ref L,.ref T])->H' p=some (.tup [.str (EG ns path).1,.int ((EG ns path).2:Int)])->H L=none->H' L=some (.lst (ks.map V.ref))->C0 (λx=>H x=none/\x≠L) H' ks (BU ss.length l ns path v)->Q (.ref r) H'):Eu K vs H Q
def Yh (K:Ah):Sp:=λvs H Q _=>Eu K vs H Q
abbrev Oe(P w K mg base):=AU P w K mg base "look_up" 5 ["net", "answers", "table", "asked"] (Yh K)
def Yi(a6:A0 mg)(ER:A1 K mg)(bj:RB P w K mg base)(bk:RH P w K mg base)(bl:Hc P w K mg base)(bm:RL P w K mg base)(bn:RM P w K mg base)(F:AW K "look_up" "look_up" Ml f fd)(hm:mg "look_up" = some (.ref f)):Oe P w K mg base:=by
 refine Bn F hm Fq (λvs H bf bg h=>?_) (λb8 b6 bF a7 H vs bf bg hr h=>?_);obtain⟨I,t,ar,aq,Q,v,d,R,S,p,U,J,l,ns,rfl,_⟩:=h;rfl
 . obtain⟨I,t,ar,aq,Q,v,d,R,S,p,U,J,l,ns,rfl,N,C,W,hv,eq,eu,b9,bA,qk⟩:=h
   have hl:=C.hl
   refine⟨_,(Ai (Dm (pv 3) (Bf (n:=3) rfl (Av (An (i:=4) Fq.nd) (Av (An (i:=5) Fq.nd) (Av (An (i:=6) Fq.nd) Be)))))
    (Ai (AM (i:=7) Fq.nd (Ch Af))
    (Ai (AM (i:=8) Fq.nd (Ch Af))
    (Ao (Bt Bl rfl (V8 rfl a6.b_enumerate (Ab (pv 6) Af)) (Bf (n:=2) rfl (Av (An (i:=9) Fq.nd) (Av (An (i:=10) Fq.nd) Be))) (Ai (AM (i:=11) Fq.nd (AK bj (Ab (pv 0) (Ab (pv 1) (Ab (pv 2) (Ab (pv 4) (Ab (pv 5) Af)))))))
     (Ai (BN (Do DC Ej Ek Em (pv 7) (Ab (AK bk (Ab (pv 0) (Ab (pv 2) (Ab (pv 11) (Ab (pv 10) Af))))) Af)))
     (Ai (Dm (AK bl (Ab (pv 0) (Ab (pv 1) (Ab (pv 2) (Ab (AK bm (Ab (pv 0) (Ab (pv 1) (Ab (pv 2) (Ab (pv 11) Af))))) (Ab (AF AG (pv 7) (Ou Ov At)) (Ab (pv 9) Af))))))) (Bf (n:=2) rfl (Av (An (i:=12) Fq.nd) (Av (An (i:=13) Fq.nd) Be))))
     (Ai (Bi (PW.pt (Ja (Hh (HF (pv 12))) (Ja (Cc Je (AF AG (pv 12) At) B0 (BY _)) (Mt (Cc DE (pv 9) (A9 Qa (Bh CH a6.b_len (Ab (pv 6) Af)) At) (BY _)))))) (Ao (Ba (BR (Ab (pv 12) (Ab (pv 13) (Ab (pv 7) (Ab (pv 8) Af))))))) Bj)
     (Ai (BN (Do DC Ej Ek Em (pv 8) (Ab (AF AG (pv 12) At) Af)))
     (Ai (Dm (AK bn (Ab (pv 0) (Ab (pv 1) (Ab (AF AG (pv 12) At) Af)))) (Bf (n:=2) rfl (Av (An (i:=14) Fq.nd) (Av (An (i:=15) Fq.nd) Be))))
     (Ai (Bi (Cc DE (pv 14) B0 (BY _)) (Ao Cg) Bj)
     (Ai (Bi (Cc DE (pv 14) B0 (BY _)) (Ao Cg) Bj)
     (Ai (AM (i:=4) Fq.nd (pv 15))
     (Ao (AM (i:=5) Fq.nd (AF AG (pv 2) At))))))))))))))))),?_⟩
   rfl';refine⟨_,rfl,ar,_,rfl,Am.of eq,rfl,_,_,rfl,_,_,rfl,_,_,rfl,rfl,?_⟩;refine⟨by decide,λL hL=>?_⟩;obtain⟨H1,bo,s1,au⟩:=new_at (o:=.lst []) hL;rw[<-bo];refine Ap ?_;cbv;refine⟨by decide,λT hT=>?_⟩;have s2:=A3 (o:=.lst []) hT;have a8:(upd H1 T (.lst [])) T=some (.lst []):=Aa;have a9:=s2 _ _ au;generalize upd H1 T (.lst [])=H2 at s2 a8 a9 ⊢;have aA:L≠T:=λz=>by rw[z,hT] at au;cases au
   have bp:H T=none:=s1.free hT;refine Ap ?_;cbv
   refine⟨_,rfl,aq,rfl,⟨_,Am.of ((s1.trans s2) _ _ eu)⟩,V9 (xs:=d.map V.str) (λi σ M=>∃(u9 aB aC aD aE aF aG:S')(a:E'),σ=[some (.ref I),some Q,some (.ref t),some (.ref ar),some (.int ((if i=0 then v else l:Nat):Int)),some (.int 0),some (.ref aq),some (.ref L),some (.ref T),u9,aB,aC,aD,aE,aF,aG]/\Ac H M/\M L=some (.lst (a.map V.ref))/\M T=some (.lst (List.replicate i (V.int 0)))/\C0 (λx=>H x=none/\x≠L/\x≠T) M a ((List.range i).map (DG p.length l ns d v))/\i<d.length/\∀j x,j<i->d[j]?=some x->x∈ns)
    ⟨none,none,none,none,none,none,none,[],rfl,s1.trans s2,a9,a8,C0.nil,by lia,λj x X=>absurd X (Nat.not_lt_zero _)⟩ (λi σ M bq=>by obtain⟨_,_,_,_,_,_,_,_,_,a7,_⟩:=bq;exact Am.of (a7 _ _ eu)) ?_ ?_⟩
   rotate_left;rintro σ M ⟨_,_,_,_,_,_,_,_,_,_,_,_,_,hi,_⟩;rw[Al] at hi;exact absurd hi (EV _);rintro i xv Te σ H3 g br ⟨u9,aB,aC,aD,aE,aF,aG,a,rfl,s3,bs,bt,aH,hi,aI⟩;obtain⟨x,av,rfl⟩:=getm g;have bu:d.getD i "" = x:=by rw[BZ,av];rfl
   obtain⟨u,aw⟩:∃u,u=if i=0 then v else l:=⟨_,rfl⟩;have ax:u<p.length:=by rw[aw];split<;>assumption
   have bv:DG p.length l ns d v i=Ci p.length l ns u x:=by unfold DG;rw[bu,aw]
   rw[<-aw];obtain⟨H4,bw,s4,bx⟩:=new_at (o:=.tup [.int i,.str x]) br;rw[<-bw];have ay:=s3.trans s4;have aJ:=s4 _ _ bs;have bz:=s4 _ _ bt;refine⟨Te,_,rfl,Am.of bx,rfl,_,_,rfl,_,_,rfl,rfl,?_⟩;refine⟨_,rfl,_,rfl,_,rfl,_,rfl,_,rfl,I,t,Q,u,R,S,p,U,J,l,ns,rfl,N.same ay,C,ax,W.same ay,λaf A H5 hD s5 eD hz hB=>?_⟩;refine Ap ?_;cbv;have ai:=ay.trans s5;have Z:=s5 _ _ aJ;have aK:=s5 _ _ bz;refine⟨_,rfl,r4 ⟨rfl,_,Ad.of Z⟩,_,rfl,_,rfl,_,rfl,_,rfl,I,t,af,u,R,S,x,p,U,J,l,ns,A,rfl,N.same ai,C,ax,W.same ai,eD,hz,hB,λr D2 P ws Y q O er b0 aL hw aM hP eP G aj=>?_⟩;have b1:=ai.trans O;have aa:=O _ _ Z;have b2:=O _ _ aK;have bB:a.length<=6:=by rw[aH.len,Al,r9];lia
   have EM:∀{x:Addr},H5 x=none->H x=none/\x≠L/\x≠T:=λ{x}h=>⟨ai.free h,λz=>(by rw[z,Z] at h;cases h),λz=>(by rw[z,aK] at h;cases h)⟩;have aN:=((aH.same s4).same s5).same O;have nk:Ge (λx=>H x=none/\x≠L/\x≠T) q r (DG p.length l ns d v i):=⟨af,D2,P,Y,er,EM hP,eP,λz h=>⟨(G z h).1,EM (G z h).2⟩,aj.trans bv.symm⟩;have az:=(aN.snoc nk).updL (o:=.lst (a.map V.ref++[V.ref r])) aa λx g=>g.2.1;rw[<-Wi] at az;have ak:Ac H (upd q L (.lst (a.map V.ref++[V.ref r]))):=λb o e=>by rw[Ax (AN e hL)];exact b1 _ _ e
   have a0:(upd q L (.lst (a.map V.ref++[V.ref r]))) L=some (.lst ((a++[r]).map V.ref)):=by rw[Aa,By];rfl
   have aO:(upd q L (.lst (a.map V.ref++[V.ref r]))) T=_:=(Ax (Ne.symm aA)).trans b2;have ah:∀{x:Addr}{A:R'},x≠L->q x=some (.lst A)->(upd q L (.lst (a.map V.ref++[V.ref r]))) x=some (.lst A):=λh e=>by rw[Ax h];exact e
   have a1:∀{x:Addr}{A:R'},q x=some (.tup A)->(upd q L (.lst (a.map V.ref++[V.ref r]))) x=some (.tup A):=λ{x A}e=>by rw[Ax λz=>by rw[z,aa] at e;cases e];exact e
   have aP:=ah (λz=>by rw[z,aJ] at hD;cases hD) (O _ _ eD);have aQ:=a1 er;have aR:∀z∈A,∃ml:Addr,(upd q L (.lst (a.map V.ref++[V.ref r]))) z.1=some (.tup [.ref ml,.int (z.2.2:Int),.int 0]):=λz h=>let ⟨ml,_,g1,_⟩:=hz z h;⟨ml,a1 (O _ _ g1)⟩;have aX:=ah (λz=>by rw[z,Z] at aL;cases aL) b0;have aS:=ah (EM hP).2.1 eP;have aT:∀w∈ws,Wy (upd q L (.lst (a.map V.ref++[V.ref r]))) w.1 w.2:=λw h=>(hw w h).1.updL aa (λz=>by have:=(hw w h).2;rw[z,Z] at this;cases this);have aU:∀z∈Y,Wy (upd q L (.lst (a.map V.ref++[V.ref r]))) z.1 z.2:=λz h=>(G z h).1.updL aa (EM (G z h).2).2.1;refine⟨L,_,_,rfl,rfl,aa,by rw[Al];exact Bz (by lia),?_⟩;generalize upd q L (.lst (a.map V.ref++[V.ref r]))=H7 at az ak a0 aO aP aQ aR aX aS aT aU ⊢;clear aN nk ah a1;cbv;refine⟨_,rfl,_,rfl,_,rfl,_,rfl,_,rfl,_,rfl,_,rfl,I,t,af,Q,u,R,S,p,U,J,l,ns,A,rfl,N.same ak,C,W.same ak,aP,aR,hB,λbh H8 hO B eO=>?_⟩;have a2:=ak.trans B;have aV:=G5 (nm:=x) C ax;have l1:=Ra (m:=p.length) (l:=l) (v:=u) (ns:=ns) (nm:=x);have b3:ws.length<=400:=by have:=DK List.length aM;rw[Al] at this;lia
   have b4:Y.length<=400:=by have:=DK List.length aj;rw[Al] at this;lia
   refine⟨_,rfl,_,rfl,r4 ⟨L,_,_,.ref r,rfl,rfl,Ad.of (B _ _ a0),by rw[By];exact IT _ _,_,rfl,I,t,bh,r,af,D2,P,Q,i,R,S,p,U,J,(λj=>if j=Du p.length l u then S else R),ws,Y,rfl,N.same a2,W.same a2,eO,B _ _ aQ,B _ _ aX,λw h=>?_,b3,B _ _ aS,λz h=>?_,b4,λbi E H9 s9 ev D=>?_⟩⟩;have:=aV w.2 (by rw[<-aM];exact Bo.mpr ⟨w,h,rfl⟩);exact⟨(aT w h).same B,this.1,this.2.1⟩;have:=aV z.2 (by rw[<-aj];exact Bo.mpr ⟨z,h,rfl⟩);exact⟨(aU z h).same B,this.2.2⟩;have aW:Y=[]↔x∉ns:=(by rw[<-ID (m:=p.length) (l:=l) (v:=u),<-aj];exact List.map_eq_nil_iff.symm);have al:=a2.trans s9;have ab:=(az.same B).same s9;have a3:=s9 _ _ (B _ _ a0);have an:=s9 _ _ (B _ _ aO);refine⟨bi,_,rfl,Am.of ev,rfl,_,_,rfl,_,_,rfl,rfl,?_⟩;by_cases g:x∈ns;rw[AA λz=>aW.mp z g] at D
   have aY:∀j y,j<i+1->d[j]?=some y->y∈ns:=λj y X G=>by
    by_cases c:j<i;exact aI j y c G;rw[show j=i by lia,av] at G;rw[<-Ce G];exact g
   refine⟨_,rfl,_,rfl,Ar ?_⟩;refine⟨_,rfl,r6 (r4 ⟨E,_,_,.str "thing",rfl,rfl,Am.of D,rfl,rfl,_,rfl,Ar ?_⟩)⟩;refine⟨_,rfl,_,rfl,_,_,rfl,r6 ⟨_,Am.of (al _ _ eu),rfl⟩,_,_,rfl,rfl,rfl,_,rfl,?_⟩;cbv;rw[Al];by_cases be:i+1=d.length;rw[Ca (show V.int (i:Int)=V.int ((d.length:Int)-1) by rw[<-be];congr 1;lia)];refine AR ⟨_,rfl,_,rfl,_,rfl,_,rfl,Ld,λrr a4=>?_⟩;have s:=A3 (o:=.tup [.ref E,.non,.ref L,.ref T]) a4;have ae:Bd ns d=d.length:=Rc λj y X=>aY j y (by have:=(AS.mp X).1;lia) X;refine qk rr E L T (a++[r]) _ (al.trans s) Aa ?_ hL (s _ _ a3) ?_;unfold EG;rw[AC ae];exact s _ _ D;unfold BU;rw[ae,show min (d.length+1) d.length=i+1 by lia];exact⟨(ab.same s).len,λn k w ag b=>((ab.same s).at_ n k w ag b).mono λx g=>⟨g.1,g.2.1⟩⟩;rw[BM (show ¬V.int (i:Int)=V.int ((d.length:Int)-1) from λz=>be (by have:=V.int.inj z;lia))];refine Ar ?_;refine Ds ?_;cbv;refine⟨_,rfl,r4 ⟨rfl,_,Ad.of an⟩,_,rfl,r6 (r4 ⟨E,_,_,.int 0,rfl,rfl,Am.of D,rfl,T,_,_,rfl,rfl,an,by rw[s0];exact Bz (by lia),?_⟩)⟩;have a5:Ac H (upd H9 T (.lst (List.replicate i (V.int 0)++[V.int 0]))):=λb o e=>by rw[Ax (AN e bp)];exact al _ _ e
   have aZ:(upd H9 T (.lst (List.replicate i (V.int 0)++[V.int 0]))) T=some (.lst (List.replicate (i+1) (V.int 0))):=(by rw[Aa,List.replicate_succ']);have ba:=(Ax (o:=.lst (List.replicate i (V.int 0)++[V.int 0])) aA).trans a3;have bb:=ab.updL (o:=.lst (List.replicate i (V.int 0)++[V.int 0])) an λx g=>g.2.2;have bc:(upd H9 T (.lst (List.replicate i (V.int 0)++[V.int 0]))) E=some (.tup [.str "thing",.int 0]):=by rw[Ax λz=>by rw[z,an] at D;cases D];exact D
   generalize upd H9 T (.lst (List.replicate i (V.int 0)++[V.int 0]))=bC at a5 aZ ba bb bc ⊢;cbv;refine⟨_,rfl,_,rfl,_,rfl,r6 (r4 ⟨E,_,_,.int 0,rfl,rfl,Am.of bc,rfl,I,Q,p,J,l,rfl,by rw[<-C.hg];exact N.same a5,λr2 bD bE ao b5=>?_⟩)⟩;refine⟨r2,_,rfl,Am.of b5,rfl,_,_,rfl,_,_,rfl,rfl,?_⟩;refine⟨_,rfl,rfl,_,rfl,?_⟩;rw[BM (show ¬V.str "to" = V.str "open" from λe=>absurd (V.str.inj e) (by decide +kernel))];refine Ar ?_;refine Ds ?_;cbv;refine⟨_,rfl,rfl,_,rfl,?_⟩;rw[BM (show ¬V.str "to" = V.str "no" from λe=>absurd (V.str.inj e) (by decide +kernel))];refine Ar ?_;refine Ds ?_;cbv;refine⟨_,rfl,?_⟩;refine Ap ?_;cbv;obtain⟨ag,o,u',b7,e,gt,pr,k1,_⟩:=W.ex;have bd:=a5.trans ao;refine⟨_,rfl,r6 (r4 ⟨t,_,_,.int 0,rfl,rfl,Am.of (bd _ _ k1),rfl,?_⟩)⟩;refine⟨_,_,_,_,_,_,_,a++[r],rfl,bd,ao _ _ ba,ao _ _ aZ,bb.same ao,by lia,aY⟩;rw[AC (aW.mpr g)] at D;refine⟨_,rfl,_,rfl,Ar ?_⟩;refine⟨_,rfl,r6 (r4 ⟨E,_,_,.str "none",rfl,rfl,Am.of D,rfl,rfl,_,rfl,?_⟩)⟩;rw[BM (show ¬V.str "none" = V.str "thing" from λe=>absurd (V.str.inj e) (by decide +kernel))];refine AR (AR ⟨_,rfl,_,rfl,_,rfl,_,rfl,Ld,λrr a4=>?_⟩);have s:=A3 (o:=.tup [.ref E,.non,.ref L,.ref T]) a4;have ae:Bd ns d=i:=Rb aI av g;refine qk rr E L T (a++[r]) _ (al.trans s) Aa ?_ hL (s _ _ a3) ?_;unfold EG;rw[ae,AA (by lia)];exact s _ _ D;unfold BU;rw[ae,show min (i+1) d.length=i+1 by lia];exact⟨(ab.same s).len,λn k w ag b=>((ab.same s).at_ n k w ag b).mono λx g=>⟨g.1,g.2.1⟩⟩
inductive Cd (K:Ah) (vs:R') (H:Hp) (Q:VK):Prop where
 |mk (nt t X:Addr) (ans us:V) (lab lbt:Str) (ss:List AO) (gs:G') (qs:U') (l:Nat) (ns:F') (h0:vs=[.ref nt,ans,.ref t,.ref X,us]) (h1:B9 H nt ss gs qs) (h2:DV ss gs lab lbt l ns) (h3:BB K H t lab lbt) (h4:Fp ss.length qs) (h5:H X=some (.lst ((List.range qs.length).map λn:Nat=>V.int (n:Int)))) (h6:∀(Fd:Addr)(fs ps:E')(H':Hp),H Fd=none->Ac H H'->H' Fd=some (.lst (fs.map V.ref))->fs.length=qs.length->(∀(n:Nat)f p,fs[n]?=some f->ps[n]?=some p->H' f=some (.tup [.int (n:Int),.ref p]))->EH H' ps (CU ns qs)->Q (.ref Fd) H'):Cd K vs H Q
def Yj (K:Ah):Sp:=λvs H Q _=>Cd K vs H Q
abbrev RN(P w K mg base):=AU P w K mg base "found_in_turn" 6 ["net", "answers", "table", "due", "uses"] (Yj K)
def Yk(ay:A0 mg)(ER:A1 K mg)(ao:Oe P w K mg base)(F:AW K "found_in_turn" "found_in_turn" Mm f fd)(hm:mg "found_in_turn" = some (.ref f)):RN P w K mg base:=by
 refine Bn F hm Lx (λvs H ag ah h=>?_) (λa6 az a8 a0 H vs ag ah hr h=>?_);obtain⟨u,t,X,M,us,aa,ab,S,T,b,l,ns,rfl,_⟩:=h;rfl
 . obtain⟨u,t,X,M,us,aa,ab,S,T,b,l,ns,rfl,N,ai,TK,U,W,qk⟩:=h
   have a7:=U.le
   refine⟨_,(Ai (AM (i:=5) Lx.nd (Ch Af))
    (Ai (Bt Bl rfl (Bm (pv 3)) (An (i:=6) Lx.nd) (Ai (Dm (AK ao (Ab (pv 0) (Ab (pv 1) (Ab (pv 2) (Ab (AF AG (AF AG (pv 0) At) (pv 6)) Af))))) (Bf (n:=4) rfl (Av (An (i:=7) Lx.nd) (Av (An (i:=8) Lx.nd) (Av (An (i:=9) Lx.nd) (Av (An (i:=10) Lx.nd) Be))))))
     (Ao (Bi (Hh (HF (pv 7))) (Ao Cg) (Ao (BN (Do DC Ej Ek Em (pv 5) (Ab (BR (Ab (pv 6) (Ab (pv 7) Af))) Af))))))))
    (Ao (Ba (pv 5))))),?_⟩
   rfl';refine⟨by decide,λk B=>?_⟩;obtain⟨H1,aq,Y,ar⟩:=new_at (o:=.lst []) B;rw[<-aq];refine Ap ?_;cbv
   refine⟨_,rfl,X,rfl,⟨_,Ad.of (Y _ _ W)⟩,CQ (xs:=(List.range b.length).map λn:Nat=>V.int (n:Int)) (λi σ m=>∃(C D E G O:S')(fs g:E'),σ=[some (.ref u),some M,some (.ref t),some (.ref X),some us,some (.ref k),C,D,E,G,O]/\Ac H m/\m k=some (.lst (fs.map V.ref))/\fs.length=i/\(∀(n:Nat)f p,fs[n]?=some f->g[n]?=some p->m f=some (.tup [.int (n:Int),.ref p]))/\EH m g ((CU ns b).take i))
    ⟨none,none,none,none,none,[],[],rfl,Y,ar,rfl,(λn f p a=>by simp at a),by rw[IW];exact EH.nil⟩ (λi σ m _ au=>by obtain⟨_,_,_,_,_,_,_,_,e,_⟩:=au;exact Ad.of (e _ _ W)) ?_ ?_⟩
   rotate_left;rintro σ Z ⟨C,D,E,G,O,fs,g,rfl,d,v,r,I,j⟩;rw[Al,r9] at r j;rw[List.take_of_length_le (by rw[Al];exact AB _)] at j;exact⟨_,rfl,qk k fs g Z B d v r I j⟩;rintro i x σ Z J ⟨C,D,E,G,O,fs,g,rfl,d,v,r,I,j⟩;have hi:i<b.length:=by have:=(AS.mp J).1;rw[Al,r9] at this;exact this
   rw[Rg hi] at J;cases J;have y:=AQ hi;have ae:(CU ns b).take (i+1)=(CU ns b).take i++[EG ns b[i].2.2]:=by rw[FK,AV,y];rfl
   generalize b[i]=q at y ae;obtain⟨a1,a2,R,qt,a,aj,en,eR,ha,ea,eu⟩:=N.qu y;obtain⟨ak,ev,hv,e0,p1,p6⟩:=U.at_ q (CB y);rw[ev,e0] at ea;refine Ap ?_;cbv;refine⟨_,rfl,_,rfl,_,rfl,_,rfl,r6 (r4 ⟨u,_,_,.ref R,rfl,rfl,Am.of (d _ _ en),rfl,_,rfl,r4 ⟨R,_,_,.ref a,rfl,rfl,Ad.of (d _ _ eR),Ck (by rw[AV,ha];rfl),u,t,a,aj,M,ak,q.2.2,aa,ab,S,T,b,l,ns,rfl,N.same d,ai,TK.same d,hv,d _ _ ea,d _ _ eu,p1,p6,λal p a3 T1 ks H3 s3 er ep hL eL a5=>?_⟩⟩)⟩;refine⟨al,_,rfl,Am.of er,rfl,_,_,rfl,_,_,rfl,_,_,rfl,_,_,rfl,rfl,?_⟩;refine⟨_,rfl,_,rfl,Ar ?_⟩;refine⟨_,rfl,r4 ⟨rfl,_,Ad.of (s3 _ _ v)⟩,_,rfl,_,rfl,DS,λf av=>?_⟩;obtain⟨H4,aw,s4,ef⟩:=new_at (o:=.tup [.int (i:Int),.ref p]) av;rw[<-aw];have A:=s3.trans s4;have Q:=A _ _ v;have af:∀{x:Addr}{L:R'},H4 x=some (.tup L)->(upd H4 k (.lst (fs.map V.ref++[V.ref f]))) x=some (.tup L):=λ{x L}e=>by rw[Ax λan=>by rw[an,Q] at e;cases e];exact e
   have ax:g.length=i:=by rw[j.len,DM,Al];lia
   refine⟨k,_,_,rfl,rfl,Q,by rw[Al];exact Bz (by lia),?_⟩;refine⟨_,_,_,_,_,fs++[f],g++[p],rfl,λa4 o e=>?_,by rw[Aa,By];rfl,by rw[BC,r];rfl,λn f' p' s z=>?_,?_⟩;rw[Ax (AN e B)];exact A _ _ (d _ _ e);rcases v9 n fs.length with c|c;rw[DH c] at s;rw[DH (by lia)] at z;exact af (A _ _ (I n f' p' s z));have hn:n<(fs++[f]).length:=(AS.mp s).1;rw[BC,Ff] at hn;have e:n=i:=(by lia);subst e;rw[DJ (by lia),r,Nat.sub_self] at s;rw[DJ (by lia),ax,Nat.sub_self] at z;cases s;cases z;exact af ef;rw[ae];exact((j.same A).snoc (s4 _ _ ep)).updL Q
inductive B7 (K:Ah) (vs:R') (H:Hp) (Q:VK):Prop where
 |mk (nt t X:Addr) (ans:V) (ms:M') (lab lbt:Str) (ss:List AO) (gs:G') (qs:U') (l:Nat) (ns:F') (h0:vs=[.ref nt,ans,.ref t,.ref X]) (h1:B9 H nt ss gs qs) (h2:DV ss gs lab lbt l ns) (h3:BB K H t lab lbt) (h4:Fp ss.length qs) (h5:H X=some (.lst (ms.map λn:Nat=>V.int (n:Int)))) (h6:(∀n∈ms,n<qs.length)) (h7:∀H',Ac H H'->Q .non H'):B7 K vs H Q
def Yl (K:Ah):Sp:=λvs H Q _=>B7 K vs H Q
abbrev RO(P w K mg base):=AU P w K mg base "refuse_tangled" 6 ["net", "answers", "table", "answered"] (Yl K)
def Ym(ae:A0 mg)(ER:A1 K mg)(aa:Oe P w K mg base)(F:AW K "refuse_tangled" "refuse_tangled" Mn f fd)(c:mg "refuse_tangled" = some (.ref f)):RO P w K mg base:=by
 refine Bn F c Ue (λG H Q E h=>?_) (λaq af ar ag H G Q E hr h=>?_);obtain⟨d,t,X,m,o,B,D,p,r,g,l,ns,rfl,_⟩:=h;rfl
 . obtain⟨d,t,X,m,o,B,D,p,r,g,l,ns,rfl,N,C,I,J,s,c,L⟩:=h
   refine⟨_,(Ao (Bt Bl rfl (Bm (pv 3)) (An (i:=4) Ue.nd) (Ao (BN (AK aa (Ab (pv 0) (Ab (pv 1) (Ab (pv 2) (Ab (AF AG (AF AG (pv 0) At) (pv 4)) Af))))))))),?_⟩;rfl';refine⟨_,rfl,X,rfl,⟨_,Ad.of s⟩,CQ (xs:=o.map λn:Nat=>V.int (n:Int)) (λi σ x=>∃j,σ=[some (.ref d),some m,some (.ref t),some (.ref X),j]/\Ac H x) ⟨none,rfl,Ac.refl _⟩ (λi σ x _ ab=>by obtain⟨_,_,e⟩:=ab;exact Ad.of (e _ _ s)) ?_ ?_⟩;rotate_left;rintro σ y ⟨j,rfl,b⟩;exact L y b;rintro i ah σ y M ⟨j,rfl,b⟩;obtain⟨n,z,rfl⟩:=getm M;have k:=AQ (c n (CB z));generalize g[n]'(c n (CB z))=q at k;obtain⟨ai,aj,R,qt,a,u,O,S,T,A,U⟩:=N.qu k;obtain⟨v,W,Y,Z,p1,p6⟩:=J.at_ q (CB k);rw[W,Z] at A;refine Ap ?_;cbv;refine⟨_,rfl,_,rfl,_,rfl,_,rfl,r6 (r4 ⟨d,_,_,.ref R,rfl,rfl,Am.of (b _ _ O),rfl,_,rfl,r4 ⟨R,_,_,.ref a,rfl,rfl,Ad.of (b _ _ S),Ck (by rw[AV,T];rfl),d,t,a,u,m,v,q.2.2,B,D,p,r,g,l,ns,rfl,N.same b,C,I.same b,Y,b _ _ A,b _ _ U,p1,p6,λak al an T1 ks H1 s1 er ep hL eL ao=>?_⟩⟩)⟩;exact⟨_,rfl,b.trans s1⟩
def Yn{fs ps:E'}(a:fs.length=ps.length)(h:∀(n:Nat)f p,fs[n]?=some f->ps[n]?=some p->H f=some (.tup [.int (n:Int),.ref p])):∃kvs,IF H (fs.map V.ref) kvs:=by
 have j:∀ (fs ps:E') (k:Nat),fs.length=ps.length->(∀ (n:Nat) f p,fs[n]? = some f->ps[n]? = some p->H f=some (.tup [.int ((k + n:Nat):Int),.ref p])) -> ∃ kvs,IF H (fs.map V.ref) kvs:=by
  intro fs
  induction fs with
  |nil=>intro ps k _ _;exact⟨[],.nil⟩
  |cons f fs d=>
   intro ps k a h
   cases ps with
   |nil=>simp at a
   |cons p ps=>
    obtain⟨kvs,e⟩:=d ps (k+1) (by simpa using a) λn g i b c=>by
     have:=h (n+1) g i (by simpa using b) (by simpa using c);rw[show k+(n+1)=k+1+n by lia] at this;exact this
    exact⟨(.inl ((k:Nat):Int),.ref p)::kvs,.cons ⟨f,rfl,h 0 f p rfl rfl⟩ e⟩
 exact j fs ps 0 a λn f p b c=>by rw[Nat.zero_add];exact h n f p b c
inductive Ev (K:Ah) (vs:R') (H:Hp) (Q:VK):Prop where
 |mk (nt t Kn Th:Addr) (lab lbt:Str) (ss:List AO) (gs:G') (qs:U') (l:Nat) (ns:F') (h0:vs=[.ref nt,.ref t,.ref Kn,.ref Th]) (h1:B9 H nt ss gs qs) (h2:DV ss gs lab lbt l ns) (h3:BB K H t lab lbt) (h4:Fp ss.length qs) (h5:H Kn=some (.lst (List.replicate qs.length .non))) (h6:H Th=some (.lst ((List.range qs.length).map λi:Nat=>V.int i))) (h7:∀(r A Tn:Addr)(ps:E')(H':Hp),Ac H H'->H' r=some (.tup [.ref A,.ref Tn])->H' A=some (.lst (ps.map V.ref))->EH H' ps (CU ns qs)->Q (.ref r) H'):Ev K vs H Q
def Yo (K:Ah):Sp:=λvs H Q _=>Ev K vs H Q
abbrev RP(P w K mg base):=AU P w K mg base "settled" 7 ["net", "table", "known", "those"] (Yo K)
def Yp(ab:A0 mg)(ER:A1 K mg)(aL:RN P w K mg base)(aM:RO P w K mg base)(F:AW K "settled" "settled" Hz f fd)(y:mg "settled" = some (.ref f)):RP P w K mg base:=by
 refine Bn F y Gf (λvs H aC aD h=>?_) (λbn bl bp bm H vs aC aD hr h=>?_);obtain⟨N,t,W,O,ag,ah,ss,gs,J,ae,ns,rfl,_⟩:=h;rfl;obtain⟨N,t,W,O,ag,ah,ss,gs,J,ae,ns,rfl,au,av,TK,hQ,ai,B,qk⟩:=h;have aN:=hQ.le;obtain⟨m,y⟩:∃m,m=J.length:=⟨_,rfl⟩;have aJ:=hQ.ge;rw[<-y] at ai B aN aJ
 refine⟨_,(Ai (AM (i:=4) Gf.nd (EQ (g:=DP K 2 (D8 (Dl 0) (D8 (Dl 1) DO))) (te:=Sd (tB (EN (SD K false) (Bg 0) (Bg 2))) (tC .non) (Bg 1)) rfl Cq (NG rfl ab.b_enumerate (Ab (pv 2) Af)) (λ_ _ _ _ _=>(Bf (n:=2) rfl (Av (An (i:=0) Cq.nd) (Av (An (i:=1) Cq.nd) Be)))) (λ_ _ _ _ _=>EC) (λ_ _ _ _ _=>(UE (Cc SE (pv 0) (pv 2) (by with_unfolding_all rfl)) I0 (pv 1)))))
  (Ai (AM (i:=5) Gf.nd (A9 Re (Ch (Ab At Af)) (Bh CH ab.b_len (Ab (pv 4) Af))))
  (Ai (AM (i:=6) Gf.nd Qo)
  (Ai (AM (i:=7) Gf.nd (pv 3))
  (Ai (AM (i:=8) Gf.nd At)
  (Ai (P5 Bl (OI (pv 7)) (Ai (TC (i:=8) Gf.nd rfl (r4 rfl) At Sh)
   (Ai (AM (i:=9) Gf.nd (AK aL (Ab (pv 0) (Ab (pv 4) (Ab (pv 1) (Ab (pv 7) (Ab (pv 6) Af)))))))
   (Ai (Bt Bl rfl (Bm (pv 9)) (Bf (n:=2) rfl (Av (An (i:=10) Gf.nd) (Av (An (i:=11) Gf.nd) Be))) (Ai (Dm (pv 11) (HJ (pv 4) (pv 10) Jh))
    (Ao (Dm (pv 8) (HJ (pv 5) (pv 10) Jh)))))
   (Ai (AM (i:=12) Gf.nd (EO (Wn rfl) ab.b_dict (Ab (pv 9) Af)))
   (Ao (OE (i:=7) Gf.nd rfl (r4 rfl) (tc:=MT (tB (MS (EN (Hk K) (Bg 2) (Bg 0)))) Js) rfl Dw (Bm (pv 3)) (λ_ _ _ _ _=>(An (i:=0) Dw.nd)) (λ_ _ _ _ _=>(QC (PW.pt (HH (Hh (HF (AF AG (pv 2) (pv 0)))) (HG Wh))))) (λ_ _ _ _ _=>(pv 0)))))))))
  (Ai (BN (AK aM (Ab (pv 0) (Ab (pv 4) (Ab (pv 1) (Ab (EQ (tc:=tB (I7 (EN (Hk K) (Bg 1) (Bg 0)))) rfl Dx (Bm (pv 3)) (λ_ _ _ _ _=>(An (i:=0) Dx.nd)) (λ_ _ _ _ _=>(QC (Hh (PV (AF AG (pv 1) (pv 0)))))) (λ_ _ _ _ _=>(pv 0))) Af))))))
  (Ao (Ba (BR (Ab (pv 4) (Ab (pv 5) Af)))))))))))),?_⟩
 rfl';refine⟨_,rfl,W,rfl,⟨_,ai⟩,Wo (xs:=List.replicate m .non) (λD i c a=>Ac H a/\a D=some (.lst c)/\c=List.replicate i .non) (λD l=>⟨A3 l,Aa,rfl⟩) (λD i c H2 p=>Ad.of (p.1 _ _ ai)) (λD i x aE c H2 aw l d hT p k=>?_) (λb c H1 aO p=>?_)⟩;obtain⟨Q,aP,rfl⟩:=p;rw[List.getElem?_replicate] at d;have R:i<m:=t0 λz=>by rw[AA z] at d;cases d
 have S:=A3 (o:=.tup [.int i,x]) hT;refine⟨aE,_,rfl,Am.of Aa,rfl,_,_,rfl,_,_,rfl,rfl,?_⟩;refine⟨_,rfl,_,rfl,O,_,rfl,r4 (Ad.of ((Q.trans S) _ _ B)),rfl,Wp m,_,rfl,CS (λ_=>?_) (λh=>absurd (Lo R) h)⟩;refine k _ _ (S _ _ aP) (by rw[s0];exact Bz (by lia)) ⟨λaf o e=>?_,Aa,?_⟩;rw[Ax (AN e l)];exact S _ _ (Q _ _ e);rw[List.replicate_succ'];obtain⟨s1,ax,rfl⟩:=p;rw[s0] at ax;refine Ap ?_;cbv;refine⟨Fa,λaF hZ=>?_⟩;obtain⟨H2,aQ,Q,eZ⟩:=new_at (o:=.lst [.int 0]) hZ;rw[<-aQ];have aj:=Q _ _ ax;refine⟨_,rfl,_,_,rfl,r4 ⟨_,Ad.of aj,rfl⟩,aF,_,_,rfl,rfl,eZ,?_,?_,λr ak=>?_⟩;rw[s0];exact⟨by lia,by lia⟩;rw[s0,Ex];show 1*m<=1000;lia;rw[s0,Ex,Rf];obtain⟨H3,aR,S,bg⟩:=new_at (o:=.lst (List.replicate m (V.int 0))) ak;rw[<-aR];refine Ap ?_;cbv;intro U hU;have s4:=A3 (o:=.dK []) hU;generalize upd H3 U (.dK [])=H4 at s4 ⊢;have aS:=s4 _ _ (S _ _ aj);have bh:=s4 _ _ bg;have aT:=((s1.trans Q).trans S).trans s4;have bi:H r=none:=s1.free (Q.free ak);have ay:b≠r:=AN aj ak;refine Ap ?_;cbv;refine⟨_,rfl,?_⟩;refine Ap ?_;cbv;refine OF ?_;cbv
 refine⟨λmm σ a=>∃(P:Addr)(A:Int)(u9 C E G:S'),σ=[some (.ref N),some (.ref t),some (.ref W),some (.ref O),some (.ref b),some (.ref r),some (.ref U),some (.ref P),some (.int A),u9,C,E,G]/\Ac H a/\((mm=1/\P=O/\a b=some (.lst (List.replicate m .non))/\a r=some (.lst (List.replicate m (V.int 0))))\/(mm=0/\a P=some (.lst [])/\∃ps:E',a b=some (.lst (ps.map V.ref))/\EH a ps (CU ns J))),
  ⟨1,O,0,none,none,none,none,rfl,aT,.inl ⟨rfl,rfl,aS,bh⟩⟩,?_⟩
 rintro mm σ H5 ⟨P,A,u9,C,E,G,rfl,u,aU⟩;rcases aU with⟨rfl,rfl,aa,aB⟩|⟨rfl,aV,ps,aa,az⟩;refine⟨_,rfl,P,_,rfl,Ad.of (u _ _ B),?_⟩;rw[show(!((List.range m).map λi:Nat=>V.int i).isEmpty)=true from by cases m with|zero=>lia|succ n=>rw[List.range_succ_eq_map];rfl];refine AR ⟨λσ' a=>∃(P':Addr)(A:Int)(u9 C E G:S'),σ'=[some (.ref N),some (.ref t),some (.ref W),some (.ref P),some (.ref b),some (.ref r),some (.ref U),some (.ref P'),some (.int A),u9,C,E,G]/\Ac H a/\a P'=some (.lst [])/\∃ps:E',a b=some (.lst (ps.map V.ref))/\EH a ps (CU ns J),λσ' a⟨P',A,a1,a2,a3,a4,b1,b2,b3,b4⟩=>⟨0,by lia,P',A,a1,a2,a3,a4,b1,b2,.inr ⟨rfl,b3,b4⟩⟩,?_⟩;refine⟨_,rfl,_,_,rfl,rfl,?_⟩;cbv
 refine⟨_,rfl,_,rfl,_,rfl,_,rfl,_,rfl,N,t,P,.ref b,.ref U,ag,ah,ss,gs,J,ae,ns,rfl,au.same u,av,TK.same u,hQ,by rw[<-y];exact u _ _ B,λX fs ps H6 aW s6 eF aK hf hA=>?_⟩;refine Ap ?_;cbv;have aX:ps.length=m:=(by rw[hA.len,Al,y]);have aY:=u.trans s6;have aZ:=s6 _ _ aa;have bj:=s6 _ _ aB;have nF:∀{x xs},H5 x=some (.lst xs)->x≠X:=λe=>AN e aW
 refine⟨_,rfl,X,rfl,⟨_,Ad.of eF⟩,CQ (xs:=fs.map V.ref) (λi σ a=>∃(C E G:S')(Y:R'),σ=[some (.ref N),some (.ref t),some (.ref W),some (.ref P),some (.ref b),some (.ref r),some (.ref U),some (.ref P),some (.int (A+1)),some (.ref X),C,E,G]/\Ac H a/\a b=some (.lst ((ps.take i).map V.ref++List.replicate (m-i) .non))/\a r=some (.lst Y)/\Y.length=m/\a X=some (.lst (fs.map V.ref))/\(∀(x:Addr)(q:R'),H6 x=some (.tup q)->a x=some (.tup q)))
  ⟨_,_,_,_,rfl,aY,by rw[IW];exact aZ,bj,s0,eF,λ_ _ e=>e⟩ (λi σ a _ ba=>by obtain⟨_,_,_,_,_,_,_,_,_,e,_⟩:=ba;exact Ad.of e) ?_ ?_⟩
 rintro i x σ v d ⟨C,E,G,Y,rfl,s7,T,a0,lt,al,Z⟩;obtain⟨f,a5,rfl⟩:=getm d;have R:i<m:=by have:=(AS.mp a5).1;lia
 have M:=AQ (show i<ps.length by lia);have ef:=Z _ _ (hf i f _ a5 M);generalize ps[i]'(by lia)=p at M ef;have lA:((ps.take i).map V.ref++List.replicate (m-i) V.non).length=m:=by rw[BC,Al,DM,s0];lia
 refine⟨f,_,rfl,Am.of ef,rfl,_,_,rfl,_,_,rfl,rfl,?_⟩;refine⟨_,rfl,_,rfl,_,rfl,b,_,_,i,rfl,rfl,T,by rw[lA];exact Jm (by lia) (by lia),?_⟩;have bk:((ps.take i).map V.ref++List.replicate (m-i) V.non).set i (.ref p)=(ps.take (i+1)).map V.ref++List.replicate (m-(i+1)) V.non:=(by rw[List.set_append_right _ _ (by rw[Al,DM];lia),Al,DM,show i-min i ps.length=0 by lia,show m-i=(m-(i+1))+1 by lia,List.replicate_succ,List.set_cons_zero,FK,M,By,JA];rfl);rw[bk];have k8:∀{o:HO}(x:Addr)(q:R'),v x=some (.tup q)->(upd v b o) x=some (.tup q):=λ{o}x q e=>by rw[Ax λz=>by rw[z,T] at e;cases e];exact e
 have L:Ac H (upd v b (.lst ((ps.take (i+1)).map V.ref++List.replicate (m-(i+1)) V.non))):=λaf o e=>by rw[Ax (AN e aO)];exact s7 _ _ e
 have a6:(upd v b (.lst ((ps.take (i+1)).map V.ref++List.replicate (m-(i+1)) V.non))) b=_:=Aa;have an:=(Ax (o:=.lst ((ps.take (i+1)).map V.ref++List.replicate (m-(i+1)) V.non)) (Ne.symm ay)).trans a0;have a7:=(Ax (o:=.lst ((ps.take (i+1)).map V.ref++List.replicate (m-(i+1)) V.non)) (Ne.symm (nF aa))).trans al;have a8:=λx q e=>k8 (o:=.lst ((ps.take (i+1)).map V.ref++List.replicate (m-(i+1)) V.non)) x q (Z x q e);generalize upd v b (.lst ((ps.take (i+1)).map V.ref++List.replicate (m-(i+1)) V.non))=H8 at L a6 an a7 a8 ⊢;cbv;refine⟨_,rfl,_,rfl,_,rfl,r,_,_,i,rfl,rfl,an,by rw[lt];exact Jm (by lia) (by lia),?_⟩;refine⟨_,_,_,Y.set i (.int (A+1)),rfl,λaf o e=>?_,?_,Aa,by rw[Dj];exact lt,?_,λx q e=>?_⟩;rw[Ax (AN e bi)];exact L _ _ e;rw[Ax ay];exact a6;rw[Ax (Ne.symm (nF aB))];exact a7;have:=a8 x q e;rw[Ax λz=>by rw[z,an] at this;cases this];exact this;rintro σ v ⟨C,E,G,Y,rfl,s7,T,a0,lt,al,Z⟩;rw[Al,aK,<-y,List.take_of_length_le (by lia),Nat.sub_self,List.replicate_zero,Ft] at T;have bb:EH v ps (CU ns J):=⟨hA.len,λn p aG x aH=>Z _ _ (hA.at_ n p aG x aH)⟩;obtain⟨ao,bc⟩:=Yn (H:=v) (fs:=fs) (ps:=ps) (by lia) λn f p h1 h2=>Z _ _ (hf n f p h1 h2);refine⟨_,rfl,X,_,ao,rfl,al,by rw[Al];exact Bz (by lia),bc,λdk bd=>?_⟩;have L:=A3 (o:=.dK (EW [] ao)) bd;generalize upd v dk (.dK (EW [] ao))=H8 at L ⊢;refine Ap ?_;cbv;have a9:=s7.trans L;refine⟨_,rfl,P,rfl,⟨_,Ad.of (a9 _ _ B)⟩,QS (xs:=(List.range m).map λj:Nat=>V.int j) (λD i c a=>Ac H8 a/\a D=some (.lst c)/\c=[]) (λD l=>⟨A3 l,Aa,rfl⟩) (λD i c a p=>Ad.of (p.1 _ _ (a9 _ _ B))) (λD i x c H9 aw R0 l d p k k0=>?_) (λD c H9 l p=>?_)⟩;obtain⟨s,I,rfl⟩:=p;have R:i<m:=by have:=(AS.mp d).1;rw[Al,r9] at this;exact this
 rw[Rg R] at d;cases d;have M:=AQ (show i<ps.length by lia);refine⟨_,rfl,_,rfl,r4 ⟨b,_,_,.ref (ps[i]'(by lia)),rfl,rfl,Ad.of (s _ _ (L _ _ T)),Ck (by rw[AV,M];rfl),_,rfl,Ar (Ar (k0 _ ⟨s,I,rfl⟩))⟩⟩;obtain⟨s,I,rfl⟩:=p;have aq:=L.trans s;exact⟨_,_,_,_,_,_,rfl,s7.trans aq,I,ps,aq _ _ T,bb.same aq⟩;refine⟨_,rfl,P,_,rfl,Ad.of aV,Ar ?_⟩;have aX:ps.length=m:=(by rw[az.len,Al,y]);refine⟨_,rfl,_,rfl,_,rfl,_,rfl,O,rfl,⟨_,Ad.of (u _ _ B)⟩,QS (xs:=(List.range m).map λj:Nat=>V.int j) (λD i c a=>Ac H5 a/\a D=some (.lst c)/\c=(List.range i).map λj:Nat=>V.int j) (λD l=>⟨A3 l,Aa,rfl⟩) (λD i c a p=>Ad.of (p.1 _ _ (u _ _ B))) (λD i x c H9 aw R0 l d p k k0=>?_) (λD c H9 l p=>?_)⟩;obtain⟨s,I,rfl⟩:=p;have R:i<m:=by have:=(AS.mp d).1;rw[Al,r9] at this;exact this
 rw[Rg R] at d;cases d;have M:=AQ (show i<ps.length by lia);refine⟨_,rfl,_,rfl,r4 ⟨b,_,_,.ref (ps[i]'(by lia)),rfl,rfl,Ad.of (s _ _ aa),Ck (by rw[AV,M];rfl),_,rfl,AR ⟨_,rfl,?_⟩⟩⟩;refine k _ _ I (by rw[Al,r9];exact Bz (by lia)) ⟨λaf o e=>?_,Aa,?_⟩;rw[Ax (AN e l)];exact s _ _ e;rw[List.range_succ,By];rfl;obtain⟨s,I,rfl⟩:=p;rw[Al,r9] at I;have aA:=u.trans s;refine⟨N,t,D,.ref b,List.range m,ag,ah,ss,gs,J,ae,ns,rfl,au.same aA,av,TK.same aA,hQ,I,λn hn=>by rw[<-y];exact List.mem_range.mp hn,λbo be=>?_⟩;refine⟨_,rfl,_,rfl,DS,λaI hr=>?_⟩;have bf:=A3 (o:=.tup [.ref b,.ref r]) hr;have ar:=(s.trans be).trans bf;exact qk aI b r ps _ (u.trans ar) Aa (ar _ _ aa) (az.same ar)
inductive FI (K:Ah) (vs:R') (H:Hp) (Q:VK):Prop where
 |mk (nt t:Addr) (lab lbt:Str) (ss:List AO) (gs:G') (qs:U') (l:Nat) (ns:F') (h0:vs=[.ref nt,.ref t]) (h1:B9 H nt ss gs qs) (h2:DV ss gs lab lbt l ns) (h3:BB K H t lab lbt) (h4:Fp ss.length qs) (h5:∀(r A Tn:Addr)(ps:E')(H':Hp),Ac H H'->H' r=some (.tup [.ref A,.ref Tn])->H' A=some (.lst (ps.map V.ref))->EH H' ps (CU ns qs)->Q (.ref r) H'):FI K vs H Q
def Yq (K:Ah):Sp:=λvs H Q _=>FI K vs H Q
abbrev RQ(P w K mg base):=AU P w K mg base "still" 8 ["net", "table"] (Yq K)
theorem Yr(B:A0 mg)(ER:A1 K mg)(Y:RP P w K mg base)(F:AW K "still" "still" Mo f fd)(q:mg "still" = some (.ref f)):RQ P w K mg base:=by
 refine Bn F q Uf (λs H Q E h=>?_) (λav ao ax aq H s Q E hr h=>?_);obtain⟨b,t,n,p,d,e,a,l,ns,rfl,_⟩:=h;rfl;obtain⟨b,t,n,p,d,e,a,l,ns,rfl,N,C,u,g,v⟩:=h;have aw:=g.le;obtain⟨ar,au,R,us,Gs,Es,ts,qt,x,j⟩:=id N;have aa:=j.tq.len
 refine⟨_,(Ai (AM (i:=2) Uf.nd (Bh CH B.b_len (Ab (AF AG (pv 0) At) Af)))
  (Ao (Ba (AK Y (Ab (pv 0) (Ab (pv 1) (Ab (A9 Re (Ch (Ab I0 Af)) (pv 2)) (Ab (EO (Wl rfl) B.b_list (Ab (EO Wk B.b_range (Ab (pv 2) Af)) Af)) Af)))))))),?_⟩
 rfl';refine⟨_,rfl,r6 (r4 ⟨b,_,_,.ref R,rfl,rfl,Am.of x,rfl,_,_,rfl,r4 ⟨_,Ad.of j.er,rfl⟩,?_⟩)⟩;rw[Al,aa];refine Ap ?_;cbv;refine⟨_,rfl,_,rfl,Fa,λZ y=>?_⟩;obtain⟨H1,ab,z,A⟩:=new_at (o:=.lst [.non]) y;rw[<-ab];refine⟨_,rfl,Z,_,_,rfl,rfl,A,⟨by lia,by lia⟩,by rw[Ex];show 1*a.length<=1000;lia,λD ae=>?_⟩;rw[Ex,Rf];obtain⟨H2,af,G,ag⟩:=new_at (o:=.lst (List.replicate a.length V.non)) ae;rw[<-af];refine⟨_,rfl,_,rfl,λI ah=>?_⟩;obtain⟨H3,ai,k,aj⟩:=new_at (o:=.rng 0 (a.length:Int)) ah;rw[<-ai];refine⟨I,a.length,rfl,aj,by lia,λJ ak=>?_⟩;obtain⟨H4,al,m,an⟩:=new_at (o:=.lst ((List.range a.length).map λi:Nat=>V.int i)) ak;rw[<-al];have c:=((z.trans G).trans k).trans m;exact⟨b,t,D,J,n,p,d,e,a,l,ns,rfl,N.same c,C,u.same c,g,m _ _ (k _ _ ag),an,λr L M O S T U W X=>v r L M O S (c.trans T) U W X⟩
inductive FJ (K:Ah) (vs:R') (H:Hp) (Q:VK):Prop where
 |mk (nt t:Addr) (ans:V) (n:Nat) (q:Qu) (lab lbt:Str) (ss:List AO) (gs:G') (qs:U') (l:Nat) (ns:F') (h0:vs=[.ref nt,ans,.ref t,.int (n:Int)]) (h1:B9 H nt ss gs qs) (h2:DV ss gs lab lbt l ns) (h3:BB K H t lab lbt) (h4:Fp ss.length qs) (h5:qs[n]?=some q) (h6:∀(D:Addr)(H':Hp),Ac H H'->Fb (λx=>H x=none) H' D (BU ss.length l ns q.2.2 q.1.toNat)->Q (.ref D) H'):FJ K vs H Q
def Ys (K:Ah):Sp:=λvs H Q _=>FJ K vs H Q
abbrev RS(P w K mg base):=AU P w K mg base "trail" 6 ["net", "answers", "table", "question"] (Ys K)
def Yt(ah:A0 mg)(ER:A1 K mg)(au:Oe P w K mg base)(F:AW K "trail" "trail" JM f fd)(hm:mg "trail" = some (.ref f)):RS P w K mg base:=by
 refine Bn F hm N7 (λvs H ai aj h=>?_) (λa0 aw a2 s H vs ai aj hr h=>?_);obtain⟨E,t,ab,n,q,ae,af,u,M,O,l,ns,rfl,_⟩:=h;rfl;obtain⟨E,t,ab,n,q,ae,af,u,M,O,l,ns,rfl,N,ak,TK,hQ,Q,S⟩:=h;obtain⟨ax,ay,R,qt,a,al,en,eR,ha,T,eu⟩:=N.qu Q;obtain⟨v,U,y,e0,p1,p6⟩:=hQ.at_ q (CB Q);rw[U,e0] at T;rw[U,Ex] at S
 refine⟨_,(Ai (Dm (AK au (Ab (pv 0) (Ab (pv 1) (Ab (pv 2) (Ab (AF AG (AF AG (pv 0) At) (pv 3)) Af))))) (Bf (n:=4) rfl (Av (An (i:=4) N7.nd) (Av (An (i:=5) N7.nd) (Av (An (i:=6) N7.nd) (Av (An (i:=7) N7.nd) Be))))))
  (Ao (Ba (EQ (g:=DP K 3 (D8 (Dl 0) (D8 (Dl 1) (D8 (Dl 2) DO)))) rfl CA (Bm (pv 6)) (λ_ _ _ _ _=>(Bf (n:=3) rfl (Av (An (i:=0) CA.nd) (Av (An (i:=1) CA.nd) (Av (An (i:=2) CA.nd) Be))))) (λ_ _ _ _ _=>EC) (λ_ _ _ _ _=>(pv 2)))))),?_⟩
 rfl';refine⟨_,rfl,_,rfl,_,rfl,_,rfl,r6 (r4 ⟨E,_,_,.ref R,rfl,rfl,Am.of en,rfl,_,rfl,r4 ⟨R,_,_,.ref a,rfl,rfl,Ad.of eR,Ck (by rw[AV,ha];rfl),E,t,a,al,ab,v,q.2.2,ae,af,u,M,O,l,ns,rfl,N,ak,TK,y,T,eu,p1,p6,λan p ao T1 ks W X er ep hL Y G=>?_⟩⟩)⟩;refine⟨an,_,rfl,Am.of er,rfl,_,_,rfl,_,_,rfl,_,_,rfl,_,_,rfl,rfl,?_⟩;refine⟨_,rfl,ao,rfl,⟨_,Ad.of Y⟩,KN (xs:=ks.map V.ref) (λD i j B=>∃d:E',j=d.map V.ref/\Ac W B/\B D=some (.lst j)/\d.length=i/\∀(n:Nat)(p:Addr)(w:List (List AZ)),d[n]?=some p->(BU u.length l ns q.2.2 v)[n]?=some w->FA (λx=>H x=none/\x≠D) B p w) (λD m=>⟨[],rfl,A3 m,Aa,rfl,λn p w a=>by simp at a⟩) (λD i j B av=>by obtain⟨_,_,s,_⟩:=av;exact Ad.of (s _ _ Y)) (λD i x j Z R m A y k=>?_) (λD j Z m y=>?_)⟩;obtain⟨d,rfl,o,C,r,I⟩:=y;obtain⟨kk,hk,rfl⟩:=getm A;have hi:i<(BU u.length l ns q.2.2 v).length:=by rw[<-G.len];exact(AS.mp hk).1
 have ag:=AQ hi;obtain⟨ah,Df,P,j,aq,ar,aa,J,g5⟩:=G.at_ i kk _ hk ag
 have a1:i<8:=by
  have:(BU u.length l ns q.2.2 v).length<=6:=by unfold BU;rw[Al,r9];lia
  lia
 have nD:∀x xs,W x=some (.lst xs)->x≠D:=λx xs e=>AN e m;refine⟨kk,_,rfl,Am.of (o _ _ aq),rfl,_,_,rfl,_,_,rfl,_,_,rfl,rfl,?_⟩;refine⟨_,rfl,k _ _ C (by rw[Al,r];exact Bz (by lia)) ⟨d++[P],by rw[By];rfl,λb az e=>?_,Aa,by rw[BC,r];rfl,λn p w a b=>?_⟩⟩;rw[Ax (AN e m)];exact o _ _ e;refine FA.updL C (λx A=>A.2) ?_;rcases v9 n d.length with c|c;rw[DH c] at a;exact I n p w a b;have hn:n<(d++[P]).length:=(AS.mp a).1;rw[BC,Ff] at hn;have e:n=i:=(by lia);subst e;rw[DJ (by lia),r,Nat.sub_self] at a;cases a;rw[ag] at b;cases b;exact⟨j,⟨ar.1,nD _ _ aa⟩,o _ _ aa,λz L=>⟨(J z L).1.same o,(J z L).2.1,let ⟨_,w1,_⟩:=(J z L).1;nD _ _ w1⟩,g5⟩;obtain⟨d,rfl,o,C,r,I⟩:=y;rw[Al,G.len] at r;exact S D Z (X.trans o) ⟨d,X.free m,C,r,λn p w a b=>(I n p w a b).mono λx A=>A.1⟩
inductive De (K:Ah) (vs:R') (H:Hp) (Q:VK):Prop where
 |mk (nt t A:Addr) (as:R') (lab lbt:Str) (ss:List AO) (gs:G') (qs:U') (l:Nat) (ns:F') (h0:vs=[.ref nt,.ref A,.ref t]) (h1:B9 H nt ss gs qs) (h2:DV ss gs lab lbt l ns) (h3:BB K H t lab lbt) (h4:Fp ss.length qs) (h5:H A=some (.lst as)) (h6:as.length=qs.length) (h7:∀(L:Addr)(H':Hp),Ac H H'->NV (λx=>H x=none) H' L (DW ss.length l ns qs)->Q (.ref L) H'):De K vs H Q
def Yu (K:Ah):Sp:=λvs H Q _=>De K vs H Q
abbrev RU(P w K mg base):=AU P w K mg base "all_trails" 7 ["net", "answers", "table"] (Yu K)
theorem Yv(B:A0 mg)(ER:A1 K mg)(ab:RS P w K mg base)(F:AW K "all_trails" "all_trails" JN f fd)(Y:mg "all_trails" = some (.ref f)):RU P w K mg base:=by
 refine Bn F Y WG (λZ H Q E h=>?_) (λaj af al ag H Z Q E hr h=>?_);obtain⟨L,t,M,aa,T,U,p,O,g,l,ns,rfl,_⟩:=h;rfl;obtain⟨L,t,M,aa,T,U,p,O,g,l,ns,rfl,N,C,TK,R,eA,la,qk⟩:=h;have ak:=R.le;refine⟨_,(Ao (Ba (EQ rfl Cr (Jd rfl B.b_range (Ab (Bh CH B.b_len (Ab (pv 1) Af)) Af)) (λ_ _ _ _ _=>(An (i:=0) Cr.nd)) (λ_ _ _ _ _=>EC) (λ_ _ _ _ _=>(AK ab (Ab (pv 1) (Ab (pv 2) (Ab (pv 3) (Ab (pv 0) Af))))))))),?_⟩;rfl';refine⟨_,rfl,_,_,rfl,r4 ⟨_,Ad.of eA,rfl⟩,_,rfl,by lia,by lia,?_⟩;rw[Ex,la];refine TU (lo:=0) (n:=g.length) (λD i u A=>∃d:E',u=d.map V.ref/\Ac H A/\A D=some (.lst u)/\d.length=i/\∀(n:Nat)(x:Addr)(m:List (List (List AZ))),d[n]?=some x->(DW p.length l ns g)[n]?=some m->Fb (λx=>H x=none/\x≠D) A x m) (λD r=>⟨[],rfl,A3 r,Aa,rfl,λn ah w a=>by simp at a⟩) (λD i u S R1 R0 r hi G k k0=>?_) (λD u S r G=>?_);obtain⟨d,rfl,o,v,s,hd⟩:=G;have I:=AQ hi;have W:(DW p.length l ns g)[i]?=some (BU p.length l ns g[i].2.2 g[i].1.toNat):=by rw[AV,I];rfl
 generalize g[i]=q at I W;refine Ap (G6 ?_);cbv;rw[AC rfl];refine⟨_,rfl,_,rfl,_,rfl,_,rfl,L,t,.ref M,i,q,T,U,p,O,g,l,ns,by rw[Int.zero_add];rfl,N.same o,C,TK.same o,R,I,λx H3 J m=>?_⟩;have X:=J _ _ v;refine k _ _ X (by rw[Al,s];exact Bz (by lia)) ⟨d++[x],by rw[By];rfl,λb ai e=>?_,Aa,by rw[BC,s];rfl,λn x' ae a b=>?_⟩;rw[Ax (AN e r)];exact J _ _ (o _ _ e);refine Fb.updL X (λy j=>j.2) ?_;rcases v9 n d.length with c|c;rw[DH c] at a;exact(hd n x' ae a b).same J;have hn:n<(d++[x]).length:=(AS.mp a).1;rw[BC,Ff] at hn;have e:n=i:=(by lia);subst e;rw[DJ (by lia),s,Nat.sub_self] at a;cases a;rw[W] at b;cases b;exact m.mono λy j=>⟨o.free j,λz=>by rw[z,v] at j;cases j⟩;obtain⟨d,rfl,o,v,s,hd⟩:=G;exact qk D S o ⟨d,r,v,by rw[s,Al],λn x m a b=>(hd n x m a b).mono λy j=>j.1⟩
def IU (ns:F') (c:Str) (path:F') (i:Nat):F':=(List.range path.length).map λj=>if j<i/\AX ns (path.getD j "")=some 0 then c else path.getD j ""
variable {path:F'}
def Yw{c:Str}:IU ns c path 0=path:=by
 refine v5 λj=>?_;unfold IU;rw[AV];by_cases h:j<path.length;rw[s' h,AQ h];show some (if j<0/\_ then c else _)=_;rw[AA λz=>absurd z.1 (Nat.not_lt_zero _),BZ,AQ h];rfl;rw[Gg (by rw[r9];lia),Gg (by lia)];rfl
def IV{c:Str}(h:AX ns (path.getD i "")=some 0):IU ns c path (i+1)=(IU ns c path i).set i c:=by
 refine v5 λj=>?_;rw[List.getElem?_set];unfold IU;rw[AV,AV,Al,r9];by_cases a:j<path.length;rw[s' a];show some (if j<i+1/\_ then c else _)=if i=j then(if i<path.length then some c else none) else some (if j<i/\_ then c else _);by_cases e:i=j;subst e;rw[AC rfl,AC a,AC ⟨Ol _,h⟩];rw[AA e];congr 1;by_cases k:j<i;by_cases z:AX ns (path.getD j "")=some 0;rw[AC ⟨by lia,z⟩,AC ⟨k,z⟩];rw[AA λy=>z y.2,AA λy=>z y.2];rw[AA λy=>by lia,AA λy=>by lia];rw[Gg (by rw[r9];lia)];by_cases e:i=j;rw[AC e,AA (by lia)];rfl;rw[AA e];rfl
def Hd{c:Str}(h:AX ns (path.getD i "")≠some 0):IU ns c path (i+1)=IU ns c path i:=by refine List.map_congr_left λj _=>?_;by_cases e:j=i;subst e;rw[AA λz=>h z.2,AA λz=>h z.2];by_cases k:j<i;by_cases z:AX ns (path.getD j "")=some 0;rw[AC ⟨by lia,z⟩,AC ⟨k,z⟩];rw[AA λy=>z y.2,AA λy=>z y.2];rw[AA λy=>by lia,AA λy=>by lia]
inductive DB (K:Ah) (vs:R') (H:Hp) (Q:VK):Prop where
 |mk (u D mk:Addr) (m l v:Nat) (ns path:F') (c:Str) (F:Addr->Prop) (h0:vs=[.ref u,.ref D,.ref mk,.str c]) (h1:H u=some (.tup (path.map V.str))) (h2:path.length<=6) (h3:Fb F H D (BU m l ns path v)) (h4:H mk=some (.tup [.int (l:Int),.str "told",.int 0])) (h5:∀(r:Addr)(H':Hp),Ac H H'->H' r=some (.tup ((AD ns c path).map V.str))->Q (.ref r) H'):DB K vs H Q
def Uk (K:Ah):Sp:=λvs H Q _=>DB K vs H Q
abbrev RV(P w K mg base):=AU P w K mg base "path_anew" 1 ["path", "trail_of_path", "mark", "name"] (Uk K)
theorem Yx (B:A0 mg) (ER:A1 K mg) (F:AW K "path_anew" "path_anew" JO f fd) (hm:mg "path_anew" = some (.ref f)):RV P w K mg base:=by
 refine Bn F hm O9 (λvs H Q E h=>?_) (λav ao aw aq H vs Q E t h=>?_);obtain⟨u,D,mk,m,l,v,ns,path,c,F,rfl,_⟩:=h;rfl
 . obtain⟨u,D,mk,m,l,v,ns,path,c,F,rfl,eu,l6,⟨ps,_,M,N,hp⟩,ab,qk⟩:=h
   have ae:(BU m l ns path v).length=min (Bd ns path+1) path.length:=by unfold BU;rw[Al,r9]
   refine⟨_,(Ai (AM (i:=4) O9.nd (EO Hl B.b_list (Ab (pv 0) Af)))
    (Ai (Bt Bl rfl (NG rfl B.b_enumerate (Ab (pv 1) Af)) (Bf (n:=2) rfl (Av (An (i:=5) O9.nd) (Av (An (i:=6) O9.nd) Be))) (Ao (Bi (PW.pt (HH (OI (pv 6)) (HG (Dq (Bh (OA rfl) B.b_all (Ab (EQ (te:=EN (No K) (EN (Hk K) (Bg 0) (Sg (rU λi=>V.int (-i)) (tC (.int 1)))) (Bg 1)) rfl CK (Bm (pv 6)) (λ_ _ _ _ _=>(An (i:=0) CK.nd)) (λ_ _ _ _ _=>EC) (λ_ _ _ _ _=>(Hi (KH t.units) (AF AG (pv 0) (Ou Ov At)) (pv 1) (BY _)))) Af)))))) (Ao (Dm (pv 3) (HJ (pv 4) (pv 5) Jh))) Bj)))
    (Ao (Ba (EO Qh B.b_tuple (Ab (pv 4) Af)))))),?_⟩
   rfl';refine⟨_,rfl,u,_,rfl,r6 (Am.of eu),λL O=>?_⟩;obtain⟨H1,af,R,ag⟩:=new_at (o:=.lst (path.map V.str)) O;rw[<-af];refine Ap ?_;cbv
   refine⟨_,rfl,D,rfl,⟨_,R _ _ M⟩,MG (xs:=ps.map V.ref) (λi σ x=>∃(y A:S'),σ=[some (.ref u),some (.ref D),some (.ref mk),some (.str c),some (.ref L),y,A]/\Ac H x/\x L=some (.lst ((IU ns c path i).map V.str)))
    ⟨none,none,rfl,R,by rw[Yw];exact ag⟩ (λi σ x ah=>by obtain⟨_,_,_,e,_⟩:=ah;exact Ad.of (e _ _ M)) ?_ ?_⟩
   rotate_left;rintro σ H2 ⟨y,A,rfl,C,s⟩;rw[Al,N,ae] at s;refine⟨_,rfl,L,_,rfl,r4 ⟨Ad.of s,λr t=>?_⟩⟩;exact qk r _ (C.trans (A3 t)) Aa;rintro i ar Te σ H2 hx ai ⟨y,A,rfl,C,s⟩;obtain⟨p,U,rfl⟩:=getm hx;have hi:i<(BU m l ns path v).length:=by rw[<-N];exact(AS.mp U).1
   have W:=AQ hi;obtain⟨G,_,I,hy,a⟩:=hp i p _ U W
   have aj:(BU m l ns path v)[i]=DG m l ns path v i:=by
    have:(BU m l ns path v)[i]?=some (DG m l ns path v i):=by unfold BU;rw[AV,s' (by lia)];rfl
    rw[W] at this;exact Ce this
   rw[aj] at a;unfold DG Ci at a;obtain⟨H3,ak,S,al⟩:=new_at (o:=.tup [.int i,.ref p]) ai;rw[<-ak];have b:=C.trans S;have X:=S _ _ s;refine⟨Te,_,rfl,Am.of al,rfl,_,_,rfl,_,_,rfl,rfl,?_⟩;refine⟨_,rfl,p,_,rfl,Ad.of (b _ _ I),?_⟩
   cases g:AX ns (path.getD i "") with
   |none=>rw[g] at a;obtain rfl:G=[]:=List.map_eq_nil_iff.mp a;refine Ar (Ar ⟨_,_,rfl,b,?_⟩);rw[Hd (by rw[g];simp)];exact X
   |some k=>
    rw[g] at a
    obtain⟨z,rfl,ez⟩:∃z,G=[z]/\z.2=IB m l (if i=0 then v else l) k:=by
     cases G with
     |nil=>simp at a
     |cons z r=>
      cases r with|nil=>exact⟨z,rfl,by simpa using a⟩|cons _ _=>simp at a
    have wz:=(hy z (by simp)).1;obtain⟨tz,mz,l1,l2,l3⟩:=Q9 wz (o:=((l:Int),i',(k:Int))) (by rw[ez];unfold IB;simp);refine AR ⟨_,rfl,p,rfl,⟨_,Ad.of (b _ _ I)⟩,QD (xs:=[V.ref z.1]) (λ_=>V.bl (decide (k=0))) (by show 1<=sizeLine;decide) (Ad.of (b _ _ I)) (λj aa H4 T R4 Y q an k4=>?_) (λH4 T q an e4=>?_)⟩
    obtain rfl:aa=.ref z.1:=by
     cases j with|zero=>cases Y;rfl|succ j=>simp at Y
    have d:=b.trans q;refine⟨_,rfl,_,rfl,r4 ⟨z.1,_,_,.ref mz,rfl,rfl,Ad.of (d _ _ l1),l2,_,rfl,1,.tup [.int (l:Int),.str "told",.int (k:Int)],.tup [.int (l:Int),.str "told",.int 0],.tup (.cons (.int _ _) (.cons (.str _ _) (.cons (.int _ _) (.nil _)))),by decide,.tup (Am.of (d _ _ l3)) (.cons (.int _) (.cons (.str _) (.cons (.int _) .nil))),.tup (Am.of (d _ _ ab)) (.cons (.int _) (.cons (.str _) (.cons (.int _) .nil))),?_⟩⟩;have:dec (Dt.tup [.int (l:Int),.str "told",.int (k:Int)]=Dt.tup [.int (l:Int),.str "told",.int 0])=decide (k=0):=(by by_cases c:k=0;rw[c];exact ED rfl;rw[BM c];exact Fk λz=>by injection z with z;injection z with _ z;injection z with _ z;injection z with z;injection z with z;lia);rw[this];exact k4 _ (Ac.refl _);have d:=b.trans q;have Z:=q _ _ X;refine⟨T,[decide (k=0)],rfl,Ad.of e4,_,rfl,?_⟩;by_cases J:k=0;subst J;refine AR ⟨_,rfl,_,rfl,_,rfl,L,_,_,i,rfl,rfl,Z,by rw[Al];unfold IU;rw[Al,r9];exact Jm (by lia) (by lia),?_⟩;refine⟨_,_,rfl,λau o e=>?_,?_⟩;rw[Ax (AN e O)];exact d _ _ e;rw[Aa,IV g,List.map_set];rw[BM J];refine Ar ⟨_,_,rfl,d,?_⟩;rw[Hd (by rw[g];intro z;exact J (Ce z))];exact Z
inductive CO (K:Ah) (vs:R') (H:Hp) (Q:VK):Prop where
 |mk (p:Addr) (n:Nat) (m:Int) (w:Str) (h0:vs=[.ref p,.int m,.str w]) (h1:M5 K (.ref p) H n) (h2:(n:Int)<=m) (h3:Q .non H):CO K vs H Q
def Yy (K:Ah):Sp:=λvs H Q _=>CO K vs H Q
abbrev Pw(P w K mg base):=AU P w K mg base "refuse_more" 1 ["parts", "most", "words"] (Yy K)
theorem Yz(B:A0 mg)(d:A1 K mg)(F:AW K "refuse_more" "refuse_more" Mp f fd)(a:mg "refuse_more" = some (.ref f)):Pw P w K mg base:=by refine Bn F a WH (λb H Q E h=>?_) (λi A j s H b Q E e h=>?_);obtain⟨p,n,m,w,rfl,_⟩:=h;rfl;obtain⟨p,n,m,w,rfl,c,g,q⟩:=h;refine⟨_,(Ao (Bi (Cc Mw (Bh CH B.b_len (Ab (pv 0) Af)) (pv 1) (BY _)) (Ao Cg) Bj)),?_⟩;rfl';refine⟨_,rfl,_,n,rfl,c,_,rfl,_,_,rfl,rfl,_,rfl,?_⟩;rw[BM (show ¬(n:Int) > m by lia)];exact Ar q
inductive BI (K:Ah) (vs:R') (H:Hp) (Q:VK):Prop where
 |mk (S T R:Addr) (us Gs Es ts qt:E') (ss:List AO) (gs:G') (qs:U') (h0:vs=[.ref S,.ref T,.ref R]) (h1:Co H S T R us Gs Es ts qt ss gs qs) (h2:EF ss gs qs) (h3:Q .non H):BI K vs H Q
def Px (K:Ah):Sp:=λvs H Q _=>BI K vs H Q
theorem YA(B:A0 mg)(ER:A1 K mg)(d:Pw P w K mg base)(F:AW K "refuse_too_great" "refuse_too_great" JP f fd):Cm P w K mg base E8 2 f fd ["scopes", "things", "questions"] (Px K):=by
 refine F.ok MM (λL H Q E h=>?_) (λag aa ah ab H L Q E hr h=>?_);obtain⟨S,T,R,us,M,N,O,y,z,U,A,rfl,_⟩:=h;rfl;obtain⟨S,T,R,us,M,N,O,y,z,U,A,rfl,a,b,q⟩:=h;have l1:=b.ls;have l2:=b.lg;have l3:=b.lq
 refine⟨_,(Ai (BN (AK d (Ab (pv 0) (Ab (FY (v:=.int 40) rfl (Classical.choose_spec B.c_MOST_SCOPES) ⟨_,rfl⟩) (Ab B0 Af)))))
  (Ai (BN (AK d (Ab (pv 1) (Ab (FY (v:=.int 80) rfl (Classical.choose_spec B.c_MOST_THINGS) ⟨_,rfl⟩) (Ab B0 Af)))))
  (Ai (BN (AK d (Ab (pv 2) (Ab (FY (v:=.int 60) rfl (Classical.choose_spec B.c_MOST_QUESTIONS) ⟨_,rfl⟩) (Ab B0 Af)))))
  (Ai (Bt Bl rfl (Bm (pv 0)) (Bf (n:=2) rfl (Av (An (i:=3) MM.nd) (Av (An (i:=4) MM.nd) Be))) (Ai (BN (AK d (Ab (pv 3) (Ab (FY (v:=.int 8) rfl (Classical.choose_spec B.c_MOST_STEPS) ⟨_,rfl⟩) (Ab B0 Af)))))
   (Ao (BN (AK d (Ab (pv 4) (Ab (FY (v:=.int 12) rfl (Classical.choose_spec B.c_MOST_TELLINGS) ⟨_,rfl⟩) (Ab B0 Af))))))))
  (Ao (Bt Bl rfl (Bm (pv 2)) (Bf (n:=3) rfl (Av (An (i:=5) MM.nd) (Av (An (i:=6) MM.nd) (Av (An (i:=7) MM.nd) Be)))) (Ao (BN (AK d (Ab (pv 7) (Ab (FY (v:=.int 6) rfl (Classical.choose_spec B.c_LONGEST_PATH) ⟨_,rfl⟩) (Ab B0 Af)))))))))))),?_⟩
 rfl';refine⟨_,rfl,S,_,40,_,rfl,r4 ⟨_,Ad.of a.sc.top,rfl⟩,by rw[Al,a.sc.lu];lia,?_⟩;refine⟨_,rfl,T,_,80,_,rfl,r4 ⟨_,Ad.of a.et,rfl⟩,by rw[Al,a.tg.len];lia,?_⟩;refine⟨_,rfl,R,_,60,_,rfl,r4 ⟨_,Ad.of a.er,rfl⟩,by rw[Al,a.tq.len];lia,?_⟩;refine⟨_,rfl,S,rfl,⟨_,Ad.of a.sc.top⟩,CQ (xs:=us.map V.ref) (λi σ g=>∃j k,σ=[some (.ref S),some (.ref T),some (.ref R),j,k,none,none,none]/\g=H) ⟨none,none,rfl,rfl⟩ (λi σ g _ s=>by obtain⟨_,_,_,e⟩:=s;exact by rw[e];exact Ad.of a.sc.top) ?_ ?_⟩;rintro i x σ C l ⟨j,k,rfl,rfl⟩;obtain⟨u,D,rfl⟩:=getm l;have c:i<z.length:=by rw[<-a.sc.lu];exact(AS.mp D).1
 obtain⟨u',G,W,I,ae,af,g4,⟨m,⟨tG,X,Y⟩,⟨tE,Z,c2⟩⟩⟩:=a.sc.get c;rw[D] at I;cases I;have k1:=b.st8 _ (Di c);have k2:=b.tl12 _ (Di c);refine⟨u,_,rfl,Am.of m,rfl,_,_,rfl,_,_,rfl,rfl,?_⟩;refine⟨_,rfl,G,_,8,_,rfl,r4 ⟨_,Ad.of X,rfl⟩,by rw[Al,Y.len];lia,?_⟩;refine⟨_,rfl,W,_,12,_,rfl,r4 ⟨_,Ad.of Z,rfl⟩,by rw[Al,c2.len];lia,?_⟩;exact⟨_,_,rfl,rfl⟩;rintro σ C ⟨j,k,rfl,rfl⟩;refine⟨_,rfl,R,rfl,⟨_,Ad.of a.er⟩,CQ (xs:=y.map V.ref) (λi σ g=>∃o p r,σ=[some (.ref S),some (.ref T),some (.ref R),j,k,o,p,r]/\g=C) ⟨none,none,none,rfl,rfl⟩ (λi σ g _ s=>by obtain⟨_,_,_,_,e⟩:=s;exact by rw[e];exact Ad.of a.er) ?_ ?_⟩;rintro i x σ H3 l ⟨o,p,r,rfl,rfl⟩;obtain⟨t,J,rfl⟩:=getm l;have c:i<A.length:=by rw[<-a.tq.len];exact(AS.mp J).1
 obtain⟨u,m,a2⟩:=a.tq.at_ i t _ J (AQ c);have k1:=(b.p6 _ (Di c)).2;refine⟨t,_,rfl,Am.of m,rfl,_,_,rfl,_,_,rfl,_,_,rfl,rfl,?_⟩;refine⟨_,rfl,u,_,6,_,rfl,r6 ⟨_,Am.of a2,rfl⟩,by rw[Al];lia,?_⟩;exact⟨_,_,_,rfl,rfl⟩;rintro σ H3 ⟨o,p,r,rfl,rfl⟩;exact q
def YB(B:A0 mg)(a:A1 K mg)(d:Pw P w K mg base)(F:AW K "refuse_too_great" "refuse_too_great" JP f fd)(b:mg "refuse_too_great_nets" = some (.ref f)):AU P w K mg base "refuse_too_great_nets" 2 ["scopes", "things", "questions"] (Px K):=
 ⟨f,fd,YA B a d F,b,F.kp,F.binds λ_ _ _ _ _ _ us c=>(by obtain⟨e,g,h,rfl⟩:=Pa c;rfl)⟩
def Of (ss:List AO) (qs:U') (x:Str):Prop:=(∃s∈ss,(∃p∈s.1,x=p.1)\/∃p∈s.2,x=p.1\/x=p.2.1)\/∃q∈qs,x∈q.2.2
inductive Dg (K:Ah) (vs:R') (H:Hp) (Q:VK):Prop where
 |mk (S T R:Addr) (us Gs Es ts qt:E') (ss:List AO) (gs:G') (qs:U') (h0:vs=[.ref S,.ref R]) (h1:Co H S T R us Gs Es ts qt ss gs qs) (h2:EF ss gs qs) (h3:∀(D:Addr)(ws:F')(H':Hp),(∀x∈ws,Of ss qs x)->H D=none->Ac H H'->H' D=some (.lst (ws.map V.str))->Q (.ref D) H'):Dg K vs H Q
def YC (K:Ah):Sp:=λvs H Q _=>Dg K vs H Q
abbrev Py(P w K mg base):=AU P w K mg base "words_told" 1 ["scopes", "questions"] (YC K)
def YD(ar:A0 mg)(ER:A1 K mg)(F:AW K "words_told" "words_told" Mq f fd)(hm:mg "words_told" = some (.ref f)):Py P w K mg base:=by
 refine Bn F hm FF (λvs H ai aj h=>?_) (λay au az s H vs ai aj hr h=>?_);obtain⟨S,ak,R,us,Gs,Es,ts,qt,e,gs,B,rfl,_⟩:=h;rfl;obtain⟨S,ak,R,us,Gs,Es,ts,qt,e,gs,B,rfl,q,I,al⟩:=h;have l1:=I.ls;have l3:=I.lq
 refine⟨_,(Ai (AM (i:=2) FF.nd (Ch Af))
  (Ai (Bt Bl rfl (Bm (pv 0)) (Bf (n:=2) rfl (Av (An (i:=3) FF.nd) (Av (An (i:=4) FF.nd) Be))) (Ai (Bt Bl rfl (Bm (pv 3)) (Bf (n:=3) rfl (Av (An (i:=5) FF.nd) (Av (An (i:=6) FF.nd) (Av (An (i:=7) FF.nd) Be)))) (Ao (BN (Do DC Ej Ek Em (pv 2) (Ab (pv 5) Af)))))
   (Ao (Bt Bl rfl (Bm (pv 4)) (Bf (n:=4) rfl (Av (An (i:=5) FF.nd) (Av (An (i:=8) FF.nd) (Av (An (i:=6) FF.nd) (Av (An (i:=7) FF.nd) Be))))) (Ai (BN (Do DC Ej Ek Em (pv 2) (Ab (pv 5) Af)))
    (Ao (BN (Do DC Ej Ek Em (pv 2) (Ab (pv 8) Af)))))))))
  (Ai (Bt Bl rfl (Bm (pv 1)) (Bf (n:=3) rfl (Av (An (i:=9) FF.nd) (Av (An (i:=10) FF.nd) (Av (An (i:=11) FF.nd) Be)))) (Ao (BN (Do DC PySem.F.slot_list_extend PySem.F.type_list_extend VG (pv 2) (Ab (pv 11) Af)))))
  (Ao (Ba (pv 2)))))),?_⟩
 rfl';refine⟨by decide,λD X=>?_⟩;obtain⟨H1,ao,s1,aq⟩:=new_at (o:=.lst []) X;rw[<-ao]
 have W:∀{M:Hp}{o:HO},Ac H M->Ac H (upd M D o):=λs av o' af=>by
  rw[Ax (AN af X)];exact s _ _ af
 refine⟨_,rfl,S,rfl,⟨_,Ad.of (s1 _ _ q.sc.top)⟩,CQ (xs:=us.map V.ref) (λi σ c=>∃N O g k l r a,σ=[some (.ref S),some (.ref R),some (.ref D),N,O,g,k,l,r,none,none,none]/\Ac H c/\c D=some (.lst (a.map V.str))/\a.length<=32*i/\∀x∈a,Of e B x)
  ⟨none,none,none,none,none,none,[],rfl,s1,aq,AB _,λx J=>by simp at J⟩ (λi σ c _ C=>by obtain⟨_,_,_,_,_,_,_,_,s,_⟩:=C;exact Ad.of (s _ _ q.sc.top)) ?_ ?_⟩
 rintro i x σ M J ⟨N,O,g,k,l,r,a,rfl,E,aa,p,d⟩;obtain⟨u,hu,rfl⟩:=getm J;have v:i<e.length:=by rw[<-q.sc.lu];exact(AS.mp hu).1
 obtain⟨u',G,Y,ag,aw,ax,g4,⟨Z,⟨tG,b1,b2⟩,⟨tE,c1,c2⟩⟩⟩:=q.sc.get v;rw[hu] at ag;cases ag;have k1:=I.st8 _ (Di v);have k2:=I.tl12 _ (Di v);have lG:=b2.len;have lE:=c2.len;refine⟨u,_,rfl,Am.of (E _ _ Z),rfl,_,_,rfl,_,_,rfl,rfl,?_⟩
 refine⟨_,rfl,G,rfl,⟨_,Ad.of (E _ _ b1)⟩,CQ (xs:=tG.map V.ref) (λj σ c=>∃g k l a,σ=[some (.ref S),some (.ref R),some (.ref D),some (.ref G),some (.ref Y),g,k,l,r,none,none,none]/\Ac H c/\c D=some (.lst (a.map V.str))/\a.length<=32*i+j/\∀x∈a,Of e B x)
  ⟨_,_,_,a,rfl,E,aa,p,d⟩ (λi σ c _ C=>by obtain⟨_,_,_,_,_,s,_⟩:=C;exact Ad.of (s _ _ b1)) ?_ ?_⟩
 rintro j an σ Q hy ⟨g,k,l,a,rfl,m,y,p,d⟩;obtain⟨t,A,rfl⟩:=getm hy;have L:j<e[i].1.length:=by rw[<-lG];exact(AS.mp A).1
 have et:=b2.at_ j t _ A (AQ L);refine⟨t,_,rfl,Am.of (m _ _ et),rfl,_,_,rfl,_,_,rfl,_,_,rfl,rfl,?_⟩;refine⟨_,rfl,r4 ⟨rfl,_,Ad.of y⟩,_,rfl,D,_,_,rfl,rfl,y,by rw[Al];exact ON (by lia),?_⟩;refine⟨_,_,_,a++[e[i].1[j].1],rfl,W m,by rw[Aa,By];rfl,by rw[BC,Ff];lia,λz b=>?_⟩;rcases EJ.mp b with b|b;exact d z b;rw[D7.mp b];exact .inl ⟨_,Di v,.inl ⟨_,Di L,rfl⟩⟩;rintro σ Q ⟨g,k,l,a,rfl,m,y,p,d⟩;rw[Al] at p
 refine⟨_,rfl,Y,rfl,⟨_,Ad.of (m _ _ c1)⟩,CQ (xs:=tE.map V.ref) (λj σ c=>∃g k l r a,σ=[some (.ref S),some (.ref R),some (.ref D),some (.ref G),some (.ref Y),g,k,l,r,none,none,none]/\Ac H c/\c D=some (.lst (a.map V.str))/\a.length<=32*i+8+2*j/\∀x∈a,Of e B x)
  ⟨_,_,_,_,a,rfl,m,y,by lia,d⟩ (λi σ c _ C=>by obtain⟨_,_,_,_,_,_,s,_⟩:=C;exact Ad.of (s _ _ c1)) ?_ ?_⟩
 rintro j an σ H4 hy ⟨g,k,l,r,a,rfl,T,U,p,d⟩;obtain⟨t,A,rfl⟩:=getm hy;have L:j<e[i].2.length:=by rw[<-lE];exact(AS.mp A).1
 have et:=c2.at_ j t _ A (AQ L);refine⟨t,_,rfl,Am.of (T _ _ et),rfl,_,_,rfl,_,_,rfl,_,_,rfl,_,_,rfl,rfl,?_⟩;refine⟨_,rfl,r4 ⟨rfl,_,Ad.of U⟩,_,rfl,D,_,_,rfl,rfl,U,by rw[Al];exact ON (by lia),?_⟩;have ah:(upd H4 D (.lst (a.map V.str++[.str e[i].2[j].1]))) D=some (.lst (a.map V.str++[.str e[i].2[j].1])):=Aa;refine⟨_,rfl,r4 ⟨rfl,_,Ad.of ah⟩,_,rfl,D,_,_,rfl,rfl,ah,by rw[BC,Al,Ff];exact ON (by lia),?_⟩;refine⟨_,_,_,_,a++[e[i].2[j].1,e[i].2[j].2.1],rfl,W (W T),by rw[Aa,By,JA];rfl,by rw[BC];show _+2<=_;lia,λz b=>?_⟩;rcases EJ.mp b with b|b;exact d z b;simp at b;exact .inl ⟨_,Di v,.inr ⟨_,Di L,b⟩⟩;rintro σ H4 ⟨g,k,l,r,a,rfl,T,U,p,d⟩;rw[Al] at p;exact⟨_,_,_,_,_,_,a,rfl,T,U,by lia,d⟩;rintro σ M ⟨N,O,g,k,l,r,a,rfl,E,aa,p,d⟩;rw[Al,q.sc.lu] at p
 refine⟨_,rfl,R,rfl,⟨_,Ad.of (E _ _ q.er)⟩,CQ (xs:=qt.map V.ref) (λi σ c=>∃u9 ab ae a,σ=[some (.ref S),some (.ref R),some (.ref D),N,O,g,k,l,r,u9,ab,ae]/\Ac H c/\c D=some (.lst (a.map V.str))/\a.length<=1280+6*i/\∀x∈a,Of e B x)
  ⟨none,none,none,a,rfl,E,aa,by lia,d⟩ (λi σ c _ C=>by obtain⟨_,_,_,_,_,s,_⟩:=C;exact Ad.of (s _ _ q.er)) ?_ ?_⟩
 rintro i x σ Q J ⟨u9,ab,ae,a,rfl,m,y,p,d⟩;obtain⟨t,A,rfl⟩:=getm J;have v:i<B.length:=by rw[<-q.tq.len];exact(AS.mp A).1
 obtain⟨u,Z,a2⟩:=q.tq.at_ i t _ A (AQ v);have k1:=(I.p6 _ (Di v)).2;refine⟨t,_,rfl,Am.of (m _ _ Z),rfl,_,_,rfl,_,_,rfl,_,_,rfl,rfl,?_⟩;refine⟨_,rfl,r4 ⟨rfl,_,Ad.of y⟩,_,rfl,D,u,_,_,rfl,rfl,y,Am.of (m _ _ a2),by rw[Al,Al];exact Dk (ON (by lia)),?_⟩;refine⟨_,_,_,a++B[i].2.2,rfl,W m,by rw[Aa,By],by rw[BC];lia,λz b=>?_⟩;rcases EJ.mp b with b|b;exact d z b;exact .inr ⟨_,Di v,b⟩;rintro σ Q ⟨u9,ab,ae,a,rfl,m,y,p,d⟩;exact⟨_,rfl,al D a Q d X m y⟩
inductive BP (K:Ah) (vs:R') (H:Hp) (Q:VK):Prop where
 |mk (S T R:Addr) (us Gs Es ts qt:E') (ss:List AO) (gs:G') (qs:U') (h0:vs=[.ref S,.ref R]) (h1:Co H S T R us Gs Es ts qt ss gs qs) (h2:EF ss gs qs) (h3:∀H',Ac H H'->Q .non H'):BP K vs H Q
def Pz (K:Ah):Sp:=λvs H Q _=>BP K vs H Q
theorem YE(B:A0 mg)(ER:A1 K mg)(af:Py P w K mg base)(aa:LH P w K mg base)(F:AW K "refuse_no_names" "refuse_no_names" JQ f fd):Cm P w K mg base E8 2 f fd ["scopes", "questions"] (Pz K):=by
 refine F.ok N8 (λZ H Q E h=>?_) (λai ag aj s H Z Q E hr h=>?_);obtain⟨S,T,R,us,C,G,I,j,J,L,k,rfl,_⟩:=h;rfl;obtain⟨S,T,R,us,C,G,I,j,J,L,k,rfl,l,a,q⟩:=h
 refine⟨_,(Ai (Bt Bl rfl (Bm (AK af (Ab (pv 0) (Ab (pv 1) Af)))) (An (i:=2) N8.nd) (Ao (Bi (E6 (Dq (AK aa (Ab (pv 2) Af)))) (Ao Cg) Bj)))
  (Ao (Bt Bl rfl (Bm (pv 1)) (Bf (n:=3) rfl (Av (An (i:=3) N8.nd) (Av (An (i:=4) N8.nd) (Av (An (i:=5) N8.nd) Be)))) (Ao (Bi (Cc DE (Bh CH B.b_len (Ab (pv 5) Af)) At (BY _)) (Ao Cg) Bj))))),?_⟩
 rfl';refine⟨_,rfl,_,rfl,S,T,R,us,C,G,I,j,J,L,k,rfl,l,a,λD ws H1 ab hD M N=>?_⟩;refine⟨D,rfl,⟨_,Ad.of N⟩,CQ (xs:=ws.map V.str) (λi σ b=>∃c,σ=[some (.ref S),some (.ref R),c,none,none,none]/\Ac H1 b) ⟨none,rfl,Ac.refl _⟩ (λi σ b _ A=>by obtain⟨_,_,s⟩:=A;exact Ad.of (s _ _ N)) ?_ ?_⟩;rintro i x σ O m ⟨c,rfl,d⟩;obtain⟨x,ae,rfl⟩:=GL m;have U:BA x:=(by rcases ab x (CB ae) with⟨s,o,⟨p,g,e⟩|⟨p,g,e⟩⟩|⟨z,hz,e⟩;rw[e];exact a.nst s o p g;rcases e with e|e;rw[e];exact(a.ntl s o p g).1;rw[e];exact(a.ntl s o p g).2;exact a.nq z hz x e);have h8:=U.2.1;refine⟨_,rfl,.str x,rfl,r4 ⟨x,rfl,by lia,λW s3=>?_⟩⟩;rw[U.name];exact⟨_,rfl,Ar ⟨_,rfl,d.trans s3⟩⟩;rintro σ O ⟨c,rfl,d⟩;have r:=l.same (M.trans d);refine⟨_,rfl,R,rfl,⟨_,Ad.of r.er⟩,CQ (xs:=j.map V.ref) (λi σ b=>∃u v y,σ=[some (.ref S),some (.ref R),c,u,v,y]/\b=O) ⟨none,none,none,rfl,rfl⟩ (λi σ b _ A=>by obtain⟨_,_,_,_,e⟩:=A;exact by rw[e];exact Ad.of r.er) ?_ ?_⟩;rintro i x σ W m ⟨u,v,y,rfl,rfl⟩;obtain⟨t,X,rfl⟩:=getm m;have Y:i<k.length:=by rw[<-l.tq.len];exact(AS.mp X).1
 obtain⟨ah,a1,a2⟩:=r.tq.at_ i t _ X (AQ Y);have k1:=(a.p6 _ (Di Y)).1;refine⟨t,_,rfl,Am.of a1,rfl,_,_,rfl,_,_,rfl,_,_,rfl,rfl,?_⟩;refine⟨_,rfl,_,_,rfl,r6 ⟨_,Am.of a2,rfl⟩,rfl,_,rfl,CS (λh=>?_) (λ_=>⟨_,_,_,rfl,rfl⟩)⟩;have h:=V.int.inj (FL h);rw[Al] at h;lia;rintro σ W ⟨u,v,y,rfl,rfl⟩;exact q _ (M.trans d)
def YF(B:A0 mg)(a:A1 K mg)(e:Py P w K mg base)(d:LH P w K mg base)(F:AW K "refuse_no_names" "refuse_no_names" JQ f fd)(b:mg "refuse_no_names_nets" = some (.ref f)):AU P w K mg base "refuse_no_names_nets" 2 ["scopes", "questions"] (Pz K):=
 ⟨f,fd,YE B a e d F,b,F.kp,F.binds λ_ _ _ _ _ _ us c=>(by obtain⟨g,h,rfl⟩:=Lz c;rfl)⟩
inductive BQ (K:Ah) (vs:R') (H:Hp) (Q:VK):Prop where
 |mk (a:Addr) (kvs:List (AL×V)) (k:Str) (n m:Int) (h0:vs=[.ref a,.str k,.int n]) (h1:H a=some (.dK kvs)) (h2:AE kvs (.inr k)=some (.int m)) (h3:0<=n) (h4:n<m) (h5:Q .non H):BQ K vs H Q
def YG (K:Ah):Sp:=λvs H Q _=>BQ K vs H Q
abbrev PB(P w K mg base):=AU P w K mg base "refuse_no_place" 3 ["kinds", "kind", "number"] (YG K)
def YH(B:A0 mg)(r:A1 K mg)(o:Jw P w K mg base)(F:AW K "refuse_no_place" "refuse_no_place" Mr f fd)(e:mg "refuse_no_place" = some (.ref f)):PB P w K mg base:=by
 refine Bn F e WI (λg H Q E h=>?_) (λt A u s H g Q E b h=>?_);obtain⟨a,p,k,n,m,rfl,_⟩:=h;rfl;obtain⟨a,p,k,n,m,rfl,c,d,i,j,q⟩:=h
 refine⟨_,(Ai (Bi (Cc (Tj (Ic b)) (pv 1) (pv 0) (by with_unfolding_all rfl)) (Ao Cg) Bj)
  (Ao (Bi (E6 (Dq (AK o (Ab (pv 2) (Ab (SO (Ic b) (pv 0) (pv 1) (λ_ _=>rfl)) Af))))) (Ao Cg) Bj))),?_⟩
 rfl';refine⟨_,rfl,_,rfl,a,_,rfl,B2.k (k:=.inr k) c,_,rfl,?_⟩;rw[d];refine Ar ?_;have l:B2 H a (.str k) (some (.int m)):=(by rw[<-d];exact B2.k (k:=.inr k) c);refine⟨_,rfl,_,rfl,_,rfl,a,_,rfl,l,n,m,rfl,i,j,_,rfl,Ar q⟩
def EI{kvs:List (AL×V)}{k j:Str}{v:V}:AE (AI kvs (.inr k) v) (.inr j:AL)=if j=k then some v else AE kvs (.inr j):=by rw[U1];by_cases e:j=k;rw[AC e,AC (by rw[e])];rw[AA e,AA λz=>e (Sum.inr.inj z)]
def Ul{x y:Str}(h:x≠y)(a b:V):AE (EW [] [((.inr x:AL),a),(.inr y,b)]) (.inr x)=some a/\AE (EW [] [((.inr x:AL),a),(.inr y,b)]) (.inr y)=some b:=by constructor;show AE (AI (AI [] (.inr x) a) (.inr y) b) (.inr x:AL)=_;rw[EI,AA h,EI,AC rfl];show AE (AI (AI [] (.inr x) a) (.inr y) b) (.inr y:AL)=_;rw[EI,AC rfl]
def YI{x y z:Str}(h:x≠y)(d:x≠z)(e:y≠z)(a b c:V):AE (EW [] [((.inr x:AL),a),(.inr y,b),(.inr z,c)]) (.inr x)=some a/\AE (EW [] [((.inr x:AL),a),(.inr y,b),(.inr z,c)]) (.inr y)=some b/\AE (EW [] [((.inr x:AL),a),(.inr y,b),(.inr z,c)]) (.inr z)=some c:=by refine⟨?_,?_,?_⟩;show AE (AI (AI (AI [] (.inr x) a) (.inr y) b) (.inr z) c) (.inr x:AL)=_;rw[EI,AA d,EI,AA h,EI,AC rfl];show AE (AI (AI (AI [] (.inr x) a) (.inr y) b) (.inr z) c) (.inr y:AL)=_;rw[EI,AA e,EI,AC rfl];show AE (AI (AI (AI [] (.inr x) a) (.inr y) b) (.inr z) c) (.inr z:AL)=_;rw[EI,AC rfl]
inductive BJ (K:Ah) (vs:R') (H:Hp) (Q:VK):Prop where
 |mk (S T R:Addr) (us Gs Es ts qt:E') (ss:List AO) (gs:G') (qs:U') (h0:vs=[.ref S,.ref T,.ref R]) (h1:Co H S T R us Gs Es ts qt ss gs qs) (h2:EF ss gs qs) (h3:∀H',Ac H H'->Q .non H'):BJ K vs H Q
def PD (K:Ah):Sp:=λvs H Q _=>BJ K vs H Q
theorem YJ(B:A0 mg)(ER:A1 K mg)(an:PB P w K mg base)(a4:Jw P w K mg base)(a5:Oc P w K mg base)(F:AW K "refuse_no_places" "refuse_no_places" JR f fd):Cm P w K mg base E8 4 f fd ["scopes", "things", "questions"] (PD K):=by
 refine F.ok ET (λvs H ay az aa=>?_) (λaD a9 aE aA H vs ay az hr aa=>?_);obtain⟨S,T,R,us,Gs,Es,J,x,D,Y,Z,rfl,_⟩:=aa;rfl;obtain⟨S,T,R,us,Gs,Es,J,x,D,Y,Z,rfl,d,hF,a0⟩:=aa;have lu:(us.map V.ref).length=D.length:=(by rw[Al,d.sc.lu]);have lt:(J.map V.ref).length=Y.length:=(by rw[Al,d.tg.len]);have lq:(x.map V.ref).length=Z.length:=(by rw[Al,d.tq.len])
 refine⟨_,(Ai (AM (i:=3) ET.nd (Qs (Ky B0 (Bh CH B.b_len (Ab (pv 0) Af)) (Ky B0 (Bh CH B.b_len (Ab (pv 2) Af)) Qr)) rfl rfl (by simp) (Hv rfl)))
  (Ai (AM (i:=4) ET.nd (Qs (Ky B0 (Bh CH B.b_len (Ab (pv 1) Af)) (Ky B0 (Bh CH B.b_len (Ab (pv 2) Af)) Qr)) rfl rfl (by simp) (Hv rfl)))
  (Ai (AM (i:=5) ET.nd (Qs (Ky B0 At (Ky B0 (Bh CH B.b_len (Ab (pv 0) Af)) (Ky B0 (Bh CH B.b_len (Ab (pv 2) Af)) Qr))) rfl rfl (by simp) (Hv rfl)))
  (Ai (Bt Bl rfl (Bm (pv 0)) (Bf (n:=2) rfl (Av (An (i:=6) ET.nd) (Av (An (i:=7) ET.nd) Be))) (Ai (Bt Bl rfl (Bm (pv 6)) (Bf (n:=3) rfl (Av (An (i:=8) ET.nd) (Av (An (i:=9) ET.nd) (Av (An (i:=10) ET.nd) Be)))) (Ao (BN (AK an (Ab (pv 3) (Ab (pv 9) (Ab (pv 10) Af)))))))
   (Ao (Bt Bl rfl (Bm (pv 7)) (Bf (n:=4) rfl (Av (An (i:=8) ET.nd) (Av (An (i:=11) ET.nd) (Av (An (i:=9) ET.nd) (Av (An (i:=10) ET.nd) Be))))) (Ao (BN (AK an (Ab (pv 4) (Ab (pv 9) (Ab (pv 10) Af))))))))))
  (Ai (Bt Bl rfl (Bm (pv 1)) (Bf (n:=2) rfl (Av (An (i:=9) ET.nd) (Av (An (i:=10) ET.nd) Be))) (Ao (BN (AK an (Ab (pv 5) (Ab (pv 9) (Ab (pv 10) Af)))))))
  (Ao (Bt Bl rfl (Bm (pv 2)) (Bf (n:=3) rfl (Av (An (i:=12) ET.nd) (Av (An (i:=13) ET.nd) (Av (An (i:=14) ET.nd) Be)))) (Ao (Bi (PW.pt (Ja (E6 (Dq (AK a4 (Ab (pv 12) (Ab (Bh CH B.b_len (Ab (pv 0) Af)) Af))))) (Ja (E6 (Dq (AK a5 (Ab (pv 13) Af)))) (Mt (Cc Mv (pv 13) At (BY _)))))) (Ao Cg) Bj))))))))),?_⟩
 rfl';refine λm ae=>?_;obtain⟨H1,a6,s1,e1⟩:=new_at (o:=.dK []) ae;rw[<-a6];refine⟨_,rfl,_,_,rfl,r4 ⟨_,Ad.of (s1 _ _ d.sc.top),rfl⟩,_,rfl,_,_,rfl,r4 ⟨_,Ad.of (s1 _ _ d.er),rfl⟩,e1,[(.inr "to",.int _),(.inr "by",.int _)],rfl,show 2<=15 by decide,?_⟩;obtain⟨vt,vb⟩:=Ul (show("to":Str)≠n' by decide +kernel) (V.int ((us.map V.ref).length:Nat)) (V.int ((x.map V.ref).length:Nat));generalize EW [] [((.inr "to" : AL),V.int ((us.map V.ref).length:Nat)),(.inr "by",V.int ((x.map V.ref).length:Nat))]=G at vt vb ⊢;have L:Ac H (upd H1 m (.dK G)):=λao o e=>by rw[Ax (AN e ae)];exact s1 _ _ e
 have e2:(upd H1 m (.dK G)) m=some (.dK G):=Aa;generalize upd H1 m (.dK G)=H2 at L e2 ⊢;refine Ap ?_;cbv;refine λq af=>?_;obtain⟨H3,a7,s3,e3⟩:=new_at (o:=.dK []) af;rw[<-a7];have ag:=L.trans s3;refine⟨_,rfl,_,_,rfl,r4 ⟨_,Ad.of (ag _ _ d.et),rfl⟩,_,rfl,_,_,rfl,r4 ⟨_,Ad.of (ag _ _ d.er),rfl⟩,e3,[(.inr "thing",.int _),(.inr "by",.int _)],rfl,show 2<=15 by decide,?_⟩;obtain⟨xt,xb⟩:=Ul (show("thing":Str)≠n' by decide +kernel) (V.int ((J.map V.ref).length:Nat)) (V.int ((x.map V.ref).length:Nat));generalize EW [] [((.inr "thing" : AL),V.int ((J.map V.ref).length:Nat)),(.inr "by",V.int ((x.map V.ref).length:Nat))]=I at xt xb ⊢;have M:Ac H2 (upd H3 q (.dK I)):=λao o e=>by rw[Ax (AN e af)];exact s3 _ _ e
 have e4:(upd H3 q (.dK I)) q=some (.dK I):=Aa;generalize upd H3 q (.dK I)=H4 at M e4 ⊢;refine Ap ?_;cbv;refine λk ah=>?_;obtain⟨H5,a8,s5,e5⟩:=new_at (o:=.dK []) ah;rw[<-a8];have ai:=(L.trans M).trans s5;refine⟨_,rfl,_,_,rfl,r4 ⟨_,Ad.of (ai _ _ d.sc.top),rfl⟩,_,rfl,_,_,rfl,r4 ⟨_,Ad.of (ai _ _ d.er),rfl⟩,e5,[(.inr "plain",.int 1),(.inr "part",.int _),(.inr "sort",.int _)],rfl,show 3<=15 by decide,?_⟩;obtain⟨y1,y2,y3⟩:=YI (show("plain":Str)≠a' by decide +kernel) (show("plain":Str)≠("sort":Str) by decide +kernel) (show a'≠("sort":Str) by decide +kernel) (V.int 1) (V.int ((us.map V.ref).length:Nat)) (V.int ((x.map V.ref).length:Nat));generalize EW [] [((.inr "plain" : AL),V.int 1),(.inr "part",V.int ((us.map V.ref).length:Nat)),(.inr "sort",V.int ((x.map V.ref).length:Nat))]=E at y1 y2 y3 ⊢;have N:Ac H4 (upd H5 k (.dK E)):=λao o e=>by rw[Ax (AN e ah)];exact s5 _ _ e
 have e6:(upd H5 k (.dK E)) k=some (.dK E):=Aa;generalize upd H5 k (.dK E)=H6 at N e6 ⊢;refine Ap ?_;cbv;have ax:=(L.trans M).trans N;have u:=d.same ax;have au:=(M.trans N) _ _ e2;have av:=N _ _ e4;clear s1 e1 L e2 s3 e3 M e4 s5 e5 N ag ai ae af ah;refine⟨_,rfl,S,rfl,⟨_,Ad.of u.sc.top⟩,CQ (xs:=us.map V.ref) (λi σ c=>∃O Q g a b v,σ=[some (.ref S),some (.ref T),some (.ref R),some (.ref m),some (.ref q),some (.ref k),O,Q,g,a,b,v,none,none,none]/\c=H6) ⟨none,none,none,none,none,none,rfl,rfl⟩ (λi σ c _ y=>by obtain⟨_,_,_,_,_,_,_,e⟩:=y;exact by rw[e];exact Ad.of u.sc.top) ?_ ?_⟩;rintro i aq σ H7 U ⟨O,Q,g,a,b,v,rfl,rfl⟩;obtain⟨ar,hu,rfl⟩:=getm U;have z:i<D.length:=by rw[<-d.sc.lu];exact(AS.mp hu).1
 obtain⟨u',ab,E1,aw,aB,aC,g4,⟨a1,⟨tG,b1,b2⟩,⟨tE,c1,c2⟩⟩⟩:=u.sc.get z;rw[hu] at aw;cases aw;refine⟨ar,_,rfl,Am.of a1,rfl,_,_,rfl,_,_,rfl,rfl,?_⟩;refine⟨_,rfl,ab,rfl,⟨_,Ad.of b1⟩,CQ (xs:=tG.map V.ref) (λj σ c=>∃g a b,σ=[some (.ref S),some (.ref T),some (.ref R),some (.ref m),some (.ref q),some (.ref k),some (.ref ab),some (.ref E1),g,a,b,v,none,none,none]/\c=H7) ⟨_,_,_,rfl,rfl⟩ (λi σ c _ y=>by obtain⟨_,_,_,_,e⟩:=y;exact by rw[e];exact Ad.of b1) ?_ ?_⟩;rintro j a3 σ W hy ⟨g,a,b,rfl,rfl⟩;obtain⟨t,r,rfl⟩:=getm hy;have X:j<D[i].1.length:=by rw[<-b2.len];exact(AS.mp r).1
 have A:=b2.at_ j t _ r (AQ X);have C:=hF.kst _ (Di z) _ (Di X);generalize D[i].1[j]=p at A C;refine⟨t,_,rfl,Am.of A,rfl,_,_,rfl,_,_,rfl,_,_,rfl,rfl,?_⟩;rcases C with⟨h,l,s⟩|⟨h,l,s⟩;exact⟨_,rfl,_,rfl,_,rfl,m,G,p.2.1,p.2.2,_,rfl,au,by rw[h];exact vt,l,by rw[lu];exact s,⟨_,_,_,rfl,rfl⟩⟩;exact⟨_,rfl,_,rfl,_,rfl,m,G,p.2.1,p.2.2,_,rfl,au,by rw[h];exact vb,l,by rw[lq];exact s,⟨_,_,_,rfl,rfl⟩⟩;rintro σ W ⟨g,a,b,rfl,rfl⟩;refine⟨_,rfl,E1,rfl,⟨_,Ad.of c1⟩,CQ (xs:=tE.map V.ref) (λj σ c=>∃g a b v,σ=[some (.ref S),some (.ref T),some (.ref R),some (.ref m),some (.ref q),some (.ref k),some (.ref ab),some (.ref E1),g,a,b,v,none,none,none]/\c=W) ⟨_,_,_,_,rfl,rfl⟩ (λi σ c _ y=>by obtain⟨_,_,_,_,_,e⟩:=y;exact by rw[e];exact Ad.of c1) ?_ ?_⟩;rintro j a3 σ H9 hy ⟨g,a,b,v,rfl,rfl⟩;obtain⟨t,r,rfl⟩:=getm hy;have X:j<D[i].2.length:=by rw[<-c2.len];exact(AS.mp r).1
 have A:=c2.at_ j t _ r (AQ X);have C:=hF.ktl _ (Di z) _ (Di X);generalize D[i].2[j]=p at A C;refine⟨t,_,rfl,Am.of A,rfl,_,_,rfl,_,_,rfl,_,_,rfl,_,_,rfl,rfl,?_⟩;rcases C with⟨h,l,s⟩|⟨h,l,s⟩;exact⟨_,rfl,_,rfl,_,rfl,q,I,p.2.2.1,p.2.2.2,_,rfl,av,by rw[h];exact xt,l,by rw[lt];exact s,⟨_,_,_,_,rfl,rfl⟩⟩;exact⟨_,rfl,_,rfl,_,rfl,q,I,p.2.2.1,p.2.2.2,_,rfl,av,by rw[h];exact xb,l,by rw[lq];exact s,⟨_,_,_,_,rfl,rfl⟩⟩;rintro σ H9 ⟨g,a,b,v,rfl,rfl⟩;exact⟨_,_,_,_,_,_,rfl,rfl⟩;rintro σ H7 ⟨O,Q,g,a,b,v,rfl,rfl⟩;refine⟨_,rfl,T,rfl,⟨_,Ad.of u.et⟩,CQ (xs:=J.map V.ref) (λi σ c=>∃a b,σ=[some (.ref S),some (.ref T),some (.ref R),some (.ref m),some (.ref q),some (.ref k),O,Q,g,a,b,v,none,none,none]/\c=H7) ⟨_,_,rfl,rfl⟩ (λi σ c _ y=>by obtain⟨_,_,_,e⟩:=y;exact by rw[e];exact Ad.of u.et) ?_ ?_⟩;rintro i aq σ W U ⟨a,b,rfl,rfl⟩;obtain⟨t,r,rfl⟩:=getm U;have z:i<Y.length:=by rw[<-d.tg.len];exact(AS.mp r).1
 have A:=u.tg.at_ i t _ r (AQ z);have C:=hF.kth _ (Di z);generalize Y[i]=p at A C;refine⟨t,_,rfl,Am.of A,rfl,_,_,rfl,_,_,rfl,rfl,?_⟩;rcases C with⟨h,l⟩|⟨h,l,s⟩|⟨h,l,s⟩;exact⟨_,rfl,_,rfl,_,rfl,k,E,p.1,p.2,_,rfl,e6,by rw[h];exact y1,by lia,by lia,⟨_,_,rfl,rfl⟩⟩;exact⟨_,rfl,_,rfl,_,rfl,k,E,p.1,p.2,_,rfl,e6,by rw[h];exact y2,l,by rw[lu];exact s,⟨_,_,rfl,rfl⟩⟩;exact⟨_,rfl,_,rfl,_,rfl,k,E,p.1,p.2,_,rfl,e6,by rw[h];exact y3,l,by rw[lq];exact s,⟨_,_,rfl,rfl⟩⟩;rintro σ W ⟨a,b,rfl,rfl⟩;refine⟨_,rfl,R,rfl,⟨_,Ad.of u.er⟩,CQ (xs:=x.map V.ref) (λi σ c=>∃aj ak al,σ=[some (.ref S),some (.ref T),some (.ref R),some (.ref m),some (.ref q),some (.ref k),O,Q,g,a,b,v,aj,ak,al]/\c=W) ⟨none,none,none,rfl,rfl⟩ (λi σ c _ y=>by obtain⟨_,_,_,_,e⟩:=y;exact by rw[e];exact Ad.of u.er) ?_ ?_⟩;rintro i aq σ H9 U ⟨aj,ak,al,rfl,rfl⟩;obtain⟨t,r,rfl⟩:=getm U;have z:i<Z.length:=by rw[<-d.tq.len];exact(AS.mp r).1
 obtain⟨ar,a1,a2⟩:=u.tq.at_ i t _ r (AQ z);obtain⟨q0,q1,q2⟩:=hF.kq _ (Di z);refine⟨t,_,rfl,Am.of a1,rfl,_,_,rfl,_,_,rfl,_,_,rfl,rfl,?_⟩;refine⟨_,rfl,_,rfl,_,_,rfl,r4 ⟨_,Ad.of u.sc.top,rfl⟩,_,_,rfl,q0,by rw[lu];exact q1,_,rfl,Ar ?_⟩;refine⟨_,rfl,_,.int,rfl,.int _,_,rfl,Ar ?_⟩;refine⟨_,rfl,_,_,rfl,rfl,_,rfl,?_⟩;rw[BM (show ¬Z[i].2.1<0 by lia)];exact Ar ⟨_,_,_,rfl,rfl⟩;rintro σ H9 ⟨aj,ak,al,rfl,rfl⟩;exact a0 _ ax
def YK(B:A0 mg)(a:A1 K mg)(g:PB P w K mg base)(d:Jw P w K mg base)(e:Oc P w K mg base)(F:AW K "refuse_no_places" "refuse_no_places" JR f fd)(b:mg "refuse_no_places_nets" = some (.ref f)):AU P w K mg base "refuse_no_places_nets" 4 ["scopes", "things", "questions"] (PD K):=
 ⟨f,fd,YJ B a g d e F,b,F.kp,F.binds λ_ _ _ _ _ _ us c=>(by obtain⟨h,i,j,rfl⟩:=Pa c;rfl)⟩
inductive EZ (K:Ah) (vs:R') (H:Hp) (Q:VK):Prop where
 |mk (S T R:Addr) (us Gs Es ts qt:E') (ss:List AO) (gs:G') (qs:U') (h0:vs=[.ref S,.ref T,.ref R]) (h1:Co H S T R us Gs Es ts qt ss gs qs) (h2:EF ss gs qs) (h3:∀(nt S2 T2 R2:Addr)(u2 G2 E2:E')(H':Hp),Ac H H'->H' nt=some (.tup [.ref S2,.ref T2,.ref R2])->Co H' S2 T2 R2 u2 G2 E2 ts qt ss gs qs->(S2::(G2++E2)).Nodup->H S2=none->H T2=none->H R2=none->(∀x∈G2++E2,H x=none)->T2≠R2->S2≠T2->S2≠R2->(∀x∈G2++E2,x≠S2/\x≠T2/\x≠R2)->Q (.ref nt) H'):EZ K vs H Q
def YL (K:Ah):Sp:=λvs H Q _=>EZ K vs H Q
abbrev RW(P w K mg base):=AU P w K mg base "net_of" 5 ["scopes", "things", "questions"] (YL K)
theorem YM(B:A0 mg)(ER:A1 K mg)(a9:AU P w K mg base "refuse_too_great_nets" 2 ["scopes", "things", "questions"] (Px K))(aA:AU P w K mg base "refuse_no_names_nets" 2 ["scopes", "questions"] (Pz K))(aB:AU P w K mg base "refuse_no_places_nets" 4 ["scopes", "things", "questions"] (PD K))(F:AW K "net_of" "net_of" JS f fd)(hm:mg "net_of" = some (.ref f)):RW P w K mg base:=by
 refine Bn F hm WJ (λvs H an ao h=>?_) (λaI aD aJ aE H vs an ao hr h=>?_);obtain⟨S,T,R,us,N,O,A,C,c,Q,U,rfl,_⟩:=h;rfl;obtain⟨S,T,R,us,N,O,A,C,c,Q,U,rfl,hN,W,aq⟩:=h;have l1:=W.ls
 refine⟨_,(Ai (BN (AK a9 (Ab (pv 0) (Ab (pv 1) (Ab (pv 2) Af)))))
  (Ai (BN (AK aA (Ab (pv 0) (Ab (pv 2) Af))))
  (Ai (BN (AK aB (Ab (pv 0) (Ab (pv 1) (Ab (pv 2) Af)))))
  (Ao (Ba (BR (Ab (EQ (g:=DP K 2 (D8 (Dl 0) (D8 (Dl 1) DO))) (te:=FQ (DQ (Kk (NC K) (DQ (Bg 0) CZ)) (DQ (Kk (NC K) (DQ (Bg 1) CZ)) CZ))) rfl CW (Bm (pv 0)) (λ_ _ _ _ _=>(Bf (n:=2) rfl (Av (An (i:=0) CW.nd) (Av (An (i:=1) CW.nd) Be)))) (λ_ _ _ _ _=>EC) (λ_ _ _ _ _=>(BR (Ab (EO Hl B.b_list (Ab (pv 0) Af)) (Ab (EO Hl B.b_list (Ab (pv 1) Af)) Af))))) (Ab (EO Hl B.b_list (Ab (pv 1) Af)) (Ab (EO Hl B.b_list (Ab (pv 2) Af)) Af))))))))),?_⟩
 rfl';refine⟨_,rfl,_,rfl,_,rfl,S,T,R,us,N,O,A,C,c,Q,U,rfl,hN,W,?_⟩;refine⟨_,rfl,_,rfl,S,T,R,us,N,O,A,C,c,Q,U,rfl,hN,W,λH1 s1=>?_⟩;have N1:=hN.same s1;refine⟨_,rfl,_,rfl,_,rfl,S,T,R,us,N,O,A,C,c,Q,U,rfl,N1,W,λH2 s2=>?_⟩;have l:=N1.same s2;have L:=s1.trans s2
 refine⟨_,rfl,S,rfl,⟨_,Ad.of l.sc.top⟩,KN (xs:=us.map V.ref) (λD i X H'=>∃t m p:E',X=t.map V.ref/\Ac H2 H'/\Cy H' D t m p (c.take i)/\(D::(m++p)).Nodup/\∀x∈m++p,H2 x=none)
  (λD hD=>⟨[],[],[],rfl,A3 hD,by rw[IW];exact Cy.nil Aa,by simp,λx a=>by simp at a⟩) (λD i X H' av=>by obtain⟨_,_,_,_,b,_⟩:=av;exact Ad.of (b _ _ l.sc.top)) (λD i x X H9 RR hD a hv k=>?_) (λD2 X H9 aw hv=>?_)⟩
 obtain⟨t,m,p,rfl,b,j,E,Z⟩:=hv;obtain⟨ar,hu,rfl⟩:=getm a;have ax:i<c.length:=by rw[<-l.sc.lu];exact(AS.mp hu).1
 obtain⟨u',au,E1,ah,aG,aH,g4,g5⟩:=(l.sc.same b).get ax;rw[hu] at ah;cases ah;obtain⟨a1,⟨tG,b1,b2⟩,⟨tE,c1,c2⟩⟩:=g5;have ay:c.take (i+1)=c.take i++[c[i]]:=by rw[FK,g4];rfl
 have ai:=j.lu;rw[DM] at ai;refine⟨ar,_,rfl,Am.of a1,rfl,_,_,rfl,_,_,rfl,rfl,?_⟩;refine⟨_,rfl,au,_,rfl,r4 (Ad.of b1),λG v=>?_⟩;obtain⟨az,ae,d,aj⟩:=new_at (o:=.lst (tG.map V.ref)) v;rw[<-ae];refine⟨_,rfl,E1,_,rfl,r4 (Ad.of (d _ _ c1)),λI r=>?_⟩;obtain⟨a0,af,Y,a2⟩:=new_at (o:=.lst (tE.map V.ref)) r;rw[<-af];refine⟨DS,λu3 a3=>?_⟩;obtain⟨ab,ag,u,a4⟩:=new_at (o:=.tup [.ref G,.ref I]) a3;rw[<-ag];have q:=(d.trans Y).trans u;have aa:=Y.trans u;have al:=j.same q;have J:=j.alive
 have nG:G∉D::(m++p):=λy=>by
  rcases Cj.mp y with y|y;rw[y,j.top] at v;cases v;obtain⟨xs,e⟩:=J _ y;rw[e] at v;cases v
 have nE:I∉D::(m++p):=λy=>by
  rcases Cj.mp y with y|y;rw[y,d _ _ j.top] at r;cases r;obtain⟨xs,e⟩:=J _ y;rw[d _ _ e] at r;cases r
 have a5:G≠I:=λy=>by rw[<-y,aj] at r;cases r
 have aC:Fz ab u3 G I c[i]:=⟨a4,⟨tG,aa _ _ aj,b2.same q⟩,⟨tE,u _ _ a2,c2.same q⟩⟩;refine k _ _ al.top (by rw[Al,ai];exact Bz (by lia)) ⟨t++[u3],m++[G],p++[I],by rw[By];rfl,λaF o e=>?_,?_,QU E nG nE a5,λx a=>?_⟩;rw[Ax (AN e hD)];exact q _ _ (b _ _ e);rw[ay];exact al.snoc aC (λz=>nG (z▸Ea)) (λz=>nE (z▸Ea)) (λx a z=>(DN.mp E).1 (z▸a));simp only[EJ,D7] at a;rcases a with(h|h)|(h|h);exact Z x (Ht _ h);rw[h];exact b.free v;exact Z x (Eb _ h);rw[h];exact(b.trans d).free r;obtain⟨t,m,p,rfl,b,j,E,Z⟩:=hv;rw[show(us.map V.ref).length=c.length by rw[Al,l.sc.lu],Jz] at j;refine⟨_,rfl,T,_,rfl,r4 (Ad.of (b _ _ l.et)),λT2 M=>?_⟩;obtain⟨az,ae,d,ak⟩:=new_at (o:=.lst (A.map V.ref)) M;rw[<-ae];refine⟨_,rfl,R,_,rfl,r4 (Ad.of (d _ _ (b _ _ l.er))),λR2 s=>?_⟩;obtain⟨a0,af,Y,a6⟩:=new_at (o:=.lst (C.map V.ref)) s;rw[<-af];refine⟨Fx,λkt a7=>?_⟩;obtain⟨ab,ag,u,a8⟩:=new_at (o:=.tup [.ref D2,.ref T2,.ref R2]) a7;rw[<-ag];have aa:=Y.trans u;have q:=d.trans aa;have sA:=L.trans <| b.trans q;have J:=j.alive;refine aq kt D2 T2 R2 t m p ab sA a8 ⟨j.same q,aa _ _ ak,l.tg.same (b.trans q),u _ _ a6,l.tq.same (b.trans q)⟩ E (L.free aw) (L.free (b.free M)) (L.free ((b.trans d).free s)) (λx a=>L.free (Z x a)) (λz=>by rw[<-z,ak] at s;cases s) (λz=>by rw[<-z,j.top] at M;cases M) (λz=>by rw[<-z,d _ _ j.top] at s;cases s) (λx a=>⟨λz=>(DN.mp E).1 (z▸a),λz=>?_,λz=>?_⟩);obtain⟨xs,e⟩:=J x a;rw[z,M] at e;cases e;obtain⟨xs,e⟩:=J x a;rw[z] at e;rw[d _ _ e] at s;cases s
inductive Dh (K:Ah) (vs:R') (H:Hp) (Q:VK):Prop where
 |mk (nt Tr:Addr) (lab lbt a c:Str) (rest:F') (ss:List AO) (gs:G') (qs:U') (l:Nat) (F:Addr->Prop) (h0:vs=[.ref nt,.ref Tr,.int (l:Int),.int 0,.str c]) (h1:B9 H nt ss gs qs) (h2:DV ss gs lab lbt l (a::rest)) (h3:Fp ss.length qs) (h4:NV F H Tr (DW ss.length l (a::rest) qs)) (h5:EF (ss.set l (([],(c::rest).map λx=>(lbt,x, "thing",0)):AO)) gs (qs.map λq=>(q.1,q.2.1,AD (a::rest) c q.2.2))) (h6:∀(nt2 S2 T2 R2:Addr)(u2 G2 E2 ts qt:E')(H':Hp),Ac H H'->H' nt2=some (.tup [.ref S2,.ref T2,.ref R2])->Co H' S2 T2 R2 u2 G2 E2 ts qt (ss.set l (([],(c::rest).map λx=>(lbt,x, "thing",0)):AO)) gs (qs.map λq=>(q.1,q.2.1,AD (a::rest) c q.2.2))->Q (.ref nt2) H'):Dh K vs H Q
def YN (K:Ah):Sp:=λvs H Q _=>Dh K vs H Q
abbrev RX(P w K mg base):=AU P w K mg base "named_anew" 6 ["net", "trails", "scope", "index", "name"] (YN K)
def YO(av:A0 mg)(ER:A1 K mg)(bA:RV P w K mg base)(bB:RW P w K mg base)(F:AW K "named_anew" "named_anew" IZ f fd)(hm:mg "named_anew" = some (.ref f)):RX P w K mg base:=by
 refine Bn F hm FG (λvs H a9 aA ab=>?_) (λbI bG bO s H vs a9 aA hr ab=>?_);obtain⟨O,Q,aH,B,a,c,p,ss,gs,h,l,F,rfl,_⟩:=ab;rfl;obtain⟨O,Q,aH,B,a,c,p,ss,gs,h,l,F,rfl,aB,C,hQ,⟨ds,_,ax,aI,aJ⟩,hF,qk⟩:=ab;obtain⟨S,T,R,us,Gs,Es,ts,qt,en,d⟩:=id aB;obtain⟨aw,G,I,aF,aG,bH,g4,⟨a1,⟨tG,b1,b2⟩,⟨tE,c1,Z⟩⟩⟩:=d.sc.get C.hl;have ay:=C.la;rw[g4] at ay;rw[Ce ay] at b2 Z;have bJ:=hQ.le;have bK:=C.m40;have n2:=C.n2
 refine⟨_,(Ai (Dm (pv 0) (Bf (n:=3) rfl (Av (An (i:=5) FG.nd) (Av (An (i:=6) FG.nd) (Av (An (i:=7) FG.nd) Be)))))
  (Ai (Dm (AF AG (pv 5) (pv 2)) (Bf (n:=2) rfl (Av (An (i:=8) FG.nd) (Av (An (i:=9) FG.nd) Be))))
  (Ai (Dm (AF AG (pv 9) (pv 3)) (Bf (n:=4) rfl (Av (An (i:=10) FG.nd) (Av (An (i:=11) FG.nd) (Av (An (i:=12) FG.nd) (Av (An (i:=13) FG.nd) Be))))))
  (Ai (AM (i:=14) FG.nd (A9 Ji (A9 Ji (Km Nc (pv 9) My (Jg (pv 3))) (Ch (Ab (BR (Ab (pv 10) (Ab (pv 4) (Ab (pv 12) (Ab (pv 13) Af))))) Af))) (Km Nc (pv 9) (Jg (A9 Fj (pv 3) At)) My)))
  (Ai (AM (i:=15) FG.nd (BR (Ab (pv 2) (Ab B0 (Ab (pv 3) Af)))))
  (Ai (OE (i:=16) FG.nd rfl (r4 rfl) (g:=DP K 2 (D8 (Dl 0) (D8 (Dl 1) DO))) (te:=Gx (Uk K) [] E0 (DQ (EN (Hk K) (Bg 0) (tC (.int 2))) (DQ (Bg 1) (DQ (Bg 2) (DQ (Bg 3) CZ))))) rfl BD (GJ rfl av.b_zip (Ab (pv 7) (Ab (pv 1) Af))) (λ_ _ _ _ _=>(Bf (n:=2) rfl (Av (An (i:=0) BD.nd) (Av (An (i:=1) BD.nd) Be)))) (λ_ _ _ _ _=>EC) (λ_ _ _ _ _=>(AK bA (Ab (AF AG (pv 0) At) (Ab (pv 1) (Ab (pv 2) (Ab (pv 3) Af)))))))
  (Ai (OE (i:=17) FG.nd rfl (r4 rfl) (g:=DP K 2 (D8 (Dl 0) (D8 (Dl 1) DO))) (te:=FQ (DQ (EN (Hk K) (Bg 0) (tC (.int 0))) (DQ (EN (Hk K) (Bg 0) (tC (.int 1))) (DQ (Bg 1) CZ)))) rfl BE (GJ rfl av.b_zip (Ab (pv 7) (Ab (pv 16) Af))) (λ_ _ _ _ _=>(Bf (n:=2) rfl (Av (An (i:=0) BE.nd) (Av (An (i:=1) BE.nd) Be)))) (λ_ _ _ _ _=>EC) (λ_ _ _ _ _=>(BR (Ab (AF AG (pv 0) At) (Ab (AF AG (pv 0) At) (Ab (pv 1) Af))))))
  (Ao (Ba (AK bB (Ab (A9 Ji (A9 Ji (Km Nc (pv 5) My (Jg (pv 2))) (Ch (Ab (BR (Ab (pv 8) (Ab (pv 14) Af))) Af))) (Km Nc (pv 5) (Jg (A9 Fj (pv 2) At)) My)) (Ab (pv 6) (Ab (pv 17) Af))))))))))))),?_⟩
 rfl';refine Rh λNx m=>?_;refine⟨_,rfl,O,_,rfl,Am.of en,rfl,_,_,rfl,_,_,rfl,_,_,rfl,rfl,?_⟩;cbv;refine CV m λNx m=>?_;refine⟨_,rfl,_,rfl,r4 ⟨S,_,_,.ref aw,rfl,rfl,Ad.of d.sc.top,Ck (by rw[AV,aF];rfl),aw,_,rfl,Am.of a1,rfl,_,_,rfl,_,_,rfl,rfl,?_⟩⟩;cbv;refine CV m λNx m=>?_
 obtain⟨y,b,rfl⟩:∃y b,tE=y::b:=by
  cases tE with|nil=>have:=Z.len;simp at this|cons y b=>exact⟨y,b,rfl⟩
 have aK:H y=some (.tup [.str B,.str a,.str "thing",.int 0]):=Z.at_ 0 y _ rfl rfl;refine⟨_,rfl,_,rfl,r4 ⟨I,_,_,.ref y,rfl,rfl,Ad.of c1,Ck (j:=0) rfl,y,_,rfl,Am.of aK,rfl,_,_,rfl,_,_,rfl,_,_,rfl,_,_,rfl,rfl,?_⟩⟩;cbv;refine ES (σ':=[some (.ref O),some (.ref Q),some (.int (l:Int)),some (.int 0),some (.str c),some (.ref S),some (.ref T),some (.ref R),some (.ref G),some (.ref I),some (.str B),some (.str a),some (.str "thing"),some (.int 0),none,none,none,none]) rfl ?_;refine CV m λNx m=>?_;refine⟨_,rfl,_,rfl,_,rfl,I,_,rfl,Ad.of c1,λZ0 aL=>?_⟩;rw[show Cn ((y::b).map V.ref) none (some 0)=[] from OG _ 0];obtain⟨H1,aM,s1,aN⟩:=new_at (o:=.lst []) aL;rw[<-aM];refine⟨_,rfl,_,rfl,_,rfl,_,rfl,Ld,λz aO=>?_⟩;obtain⟨H2,aP,s2,aQ⟩:=new_at (o:=.tup [.str B,.str c,.str "thing",.int 0]) aO;rw[<-aP];refine⟨Fa,λZ1 aR=>?_⟩;obtain⟨H3,aS,s3,aT⟩:=new_at (o:=.lst [.ref z]) aR;rw[<-aS];refine⟨Z0,Z1,_,_,rfl,rfl,s3 _ _ (s2 _ _ aN),aT,by show 0+1<=sizeLine;decide,λZ2 aU=>?_⟩;have s4:=A3 (o:=.lst ([]++[V.ref z])) aU;have az:(upd H3 Z2 (.lst ([]++[V.ref z]))) Z2=some (.lst [.ref z]):=Aa;generalize upd H3 Z2 (.lst ([]++[V.ref z]))=H4 at s4 az ⊢;have a0:=((s1.trans s2).trans s3).trans s4;refine⟨_,rfl,_,rfl,_,_,rfl,rfl,_,rfl,I,_,rfl,Ad.of (a0 _ _ c1),λZ3 aV=>?_⟩;rw[show Cn ((y::b).map V.ref) (some (0+1)) none=b.map V.ref from Ta _ 1];obtain⟨H5,aW,s5,aX⟩:=new_at (o:=.lst (b.map V.ref)) aV;rw[<-aW];have bL:b.length<=2:=by have:=Z.len;rw[EU,Al] at this;lia
 refine⟨Z2,Z3,_,_,rfl,rfl,s5 _ _ az,aX,by rw[Al];show 1+b.length<=sizeLine;exact Dk (Bz (by lia)),λJ aY=>?_⟩;have s6:=A3 (o:=.lst ([V.ref z]++b.map V.ref)) aY;have a2:(upd H5 J (.lst ([V.ref z]++b.map V.ref))) J=some (.lst ((z::b).map V.ref)):=Aa;generalize upd H5 J (.lst ([V.ref z]++b.map V.ref))=H6 at s6 a2 ⊢;have aZ:=(a0.trans s5).trans s6;refine Ap ?_;cbv;refine ES (σ':=[some (.ref O),some (.ref Q),some (.int (l:Int)),some (.int 0),some (.str c),some (.ref S),some (.ref T),some (.ref R),some (.ref G),some (.ref I),some (.str B),some (.str a),some (.str "thing"),some (.int 0),some (.ref J),none,none,none]) rfl ?_;refine CV m λNx m=>?_;refine⟨_,rfl,_,rfl,Fx,λmk ba=>?_⟩;obtain⟨H7,bb,s7,bc⟩:=new_at (o:=.tup [.int (l:Int),.str "told",.int 0]) ba;rw[<-bb];have aa:=aZ.trans s7;refine Ap ?_;cbv;refine ES (σ':=[some (.ref O),some (.ref Q),some (.int (l:Int)),some (.int 0),some (.str c),some (.ref S),some (.ref T),some (.ref R),some (.ref G),some (.ref I),some (.str B),some (.str a),some (.str "thing"),some (.int 0),some (.ref J),some (.ref mk),none,none]) rfl ?_;refine CV m λNx m=>?_;have bd:=d.tq.len;have bN:ds.length=h.length:=(by rw[aI,Al]);refine⟨_,rfl,_,rfl,R,Q,rfl,⟨_,Ad.of (aa _ _ d.er)⟩,⟨_,Ad.of (aa _ _ ax)⟩,TY (xs:=qt.map V.ref) (us:=ds.map V.ref) (λD i u v=>∃E:E',u=E.map V.ref/\Ac H7 v/\v D=some (.lst u)/\E.length=i/\∀(n:Nat)(w:Addr)(q:Qu),E[n]?=some w->h[n]?=some q->v w=some (.tup ((AD (a::p) c q.2.2).map V.str))) (by rw[Al,Al];lia) (λD hD=>⟨[],rfl,A3 hD,Aa,rfl,λn w q ab=>by simp at ab⟩) (λD i u v al=>by obtain⟨_,_,s,_⟩:=al;exact⟨Ad.of (s _ _ (aa _ _ d.er)),Ad.of (s _ _ (aa _ _ ax))⟩) (λD i x aC Te u H8 R8 hD hx hy an U k=>?_) (λD u H8 hD U=>?_)⟩;obtain⟨E,rfl,s8,eD,lw,hw⟩:=U;rw[AV] at hx hy;obtain⟨L,ae,rfl⟩:=CD.mp hx;obtain⟨da,be,rfl⟩:=CD.mp hy;have hi:i<h.length:=by have:=(AS.mp ae).1;lia
 have A:=AQ hi;generalize h[i]=q at A;obtain⟨pa,k1,k2⟩:=d.tq.at_ i L q ae A;have bf:(DW ss.length l (a::p) h)[i]?=some (BU ss.length l (a::p) q.2.2 q.1.toNat):=by rw[AV,A];rfl
 have tr:=aJ i da _ be bf;obtain⟨H9,bg,M,ao⟩:=new_at (o:=.tup [.ref L,.ref da]) an;rw[<-bg];have aq:=s8.trans M;have X:=aa.trans aq;obtain⟨_,_,_,_,_,p6⟩:=hQ.at_ q (CB A);refine⟨Te,_,rfl,Am.of ao,rfl,_,_,rfl,_,_,rfl,rfl,?_⟩;refine⟨_,rfl,r6 (r4 ⟨L,_,_,.ref pa,rfl,rfl,Am.of (X _ _ k1),rfl,_,rfl,_,rfl,_,rfl,pa,da,mk,ss.length,l,q.1.toNat,a::p,q.2.2,c,F,rfl,X _ _ k2,p6,tr.same X,aq _ _ bc,λr ar Y bC=>?_⟩)⟩;have a6:=Y _ _ (M _ _ eD);have kt:∀{x:Addr}{zs:R'}{o:HO},ar x=some (.tup zs)->(upd ar D o) x=some (.tup zs):=λ{x zs o}e=>by rw[Ax λaD=>by rw[aD,a6] at e;cases e];exact e
 refine k _ _ a6 (by rw[Al,lw];exact Bz (by lia)) ⟨E++[r],by rw[By];rfl,λaE o e=>?_,Aa,by rw[BC,lw];rfl,λn w q' N h2=>?_⟩;rw[Ax (AN e hD)];exact Y _ _ (aq _ _ e);rcases v9 n E.length with c|c;rw[DH c] at N;exact kt (Y _ _ (M _ _ (hw n w q' N h2)));have hn:n<(E++[r]).length:=(AS.mp N).1;rw[BC,Ff] at hn;have e:n=i:=(by lia);subst e;rw[DJ (by lia),lw,Nat.sub_self] at N;cases N;rw[A] at h2;cases h2;exact kt bC;obtain⟨E,rfl,s8,eW,lw,hw⟩:=U;rw[Al] at lw;have ah:=aa.trans s8;refine Ap ?_;cbv;refine ES (σ':=[some (.ref O),some (.ref Q),some (.int (l:Int)),some (.int 0),some (.str c),some (.ref S),some (.ref T),some (.ref R),some (.ref G),some (.ref I),some (.str B),some (.str a),some (.str "thing"),some (.int 0),some (.ref J),some (.ref mk),some (.ref D),none]) rfl ?_;refine CV m λNx m=>?_;refine⟨_,rfl,_,rfl,R,D,rfl,⟨_,Ad.of (ah _ _ d.er)⟩,⟨_,Ad.of eW⟩,TY (xs:=qt.map V.ref) (us:=E.map V.ref) (λW i u v=>∃xs:E',u=xs.map V.ref/\Ac H8 v/\v W=some (.lst u)/\QT v xs ((h.map λq=>(q.1,q.2.1,AD (a::p) c q.2.2)).take i)) (by rw[Al,Al];lia) (λW ai=>⟨[],rfl,A3 ai,Aa,by rw[IW];exact QT.nil⟩) (λW i u v al=>by obtain⟨_,_,s,_⟩:=al;exact⟨Ad.of (s _ _ (ah _ _ d.er)),Ad.of (s _ _ eW)⟩) (λW i x aC Te u H9 R9 ai hx hy an U k=>?_) (λW u H9 ai U=>?_)⟩;obtain⟨xs,rfl,M,bh,af⟩:=U;rw[AV] at hx hy;obtain⟨L,ae,rfl⟩:=CD.mp hx;obtain⟨wa,bi,rfl⟩:=CD.mp hy;have hi:i<h.length:=by have:=(AS.mp ae).1;lia
 have A:=AQ hi;have a3:(h.map λq=>((q.1,q.2.1,AD (a::p) c q.2.2):Qu)).take (i+1)=(h.map λq=>((q.1,q.2.1,AD (a::p) c q.2.2):Qu)).take i++[((h[i].1,h[i].2.1,AD (a::p) c h[i].2.2):Qu)]:=by rw[FK,AV,A];rfl
 generalize h[i]=q at A a3;obtain⟨pa,k1,k2⟩:=d.tq.at_ i L q ae A;have bj:=hw i wa q bi A;obtain⟨ar,bD,Y,ao⟩:=new_at (o:=.tup [.ref L,.ref wa]) an;rw[<-bD];have au:=M.trans Y;have a7:=ah.trans au;refine⟨Te,_,rfl,Am.of ao,rfl,_,_,rfl,_,_,rfl,rfl,?_⟩;refine⟨_,rfl,r6 (r4 ⟨L,_,_,.int q.1,rfl,rfl,Am.of (a7 _ _ k1),rfl,_,rfl,r6 (r4 ⟨L,_,_,.int q.2.1,rfl,rfl,Am.of (a7 _ _ k1),rfl,_,rfl,Fx,λr hr=>?_⟩)⟩)⟩;obtain⟨bM,bE,aj,b⟩:=new_at (o:=.tup [.int q.1,.int q.2.1,.ref wa]) hr;rw[<-bE];have a8:=aj _ _ (Y _ _ bh);have lx:xs.length=i:=by rw[af.len,DM,Al];lia
 refine k _ _ a8 (by rw[Al,lx];exact Bz (by lia)) ⟨xs++[r],by rw[By];rfl,λaE o e=>?_,Aa,?_⟩;rw[Ax (AN e ai)];exact aj _ _ (au _ _ e);rw[a3];exact(((af.same Y).same aj).snoc (q:=(q.1,q.2.1,AD (a::p) c q.2.2)) b (aj _ _ (au _ _ bj))).keeps (Keeps.one a8);obtain⟨xs,rfl,M,eX,af⟩:=U;rw[Al,bd,List.take_of_length_le (by rw[Al];exact AB _)] at af;have X:=ah.trans M;refine Ap ?_;cbv;refine ES (σ':=[some (.ref O),some (.ref Q),some (.int (l:Int)),some (.int 0),some (.str c),some (.ref S),some (.ref T),some (.ref R),some (.ref G),some (.ref I),some (.str B),some (.str a),some (.str "thing"),some (.int 0),some (.ref J),some (.ref mk),some (.ref D),some (.ref W)]) rfl ?_;refine Ri m ?_;refine⟨_,rfl,_,rfl,_,rfl,S,_,rfl,Ad.of (X _ _ d.sc.top),λY0 bk=>?_⟩;rw[OG];obtain⟨K1,bl,t1,bm⟩:=new_at (o:=.lst ((us.map V.ref).take l)) bk;rw[<-bl];refine⟨_,rfl,_,rfl,DS,λu' bn=>?_⟩;obtain⟨K2,bo,t2,bp⟩:=new_at (o:=.tup [.ref G,.ref J]) bn;rw[<-bo];refine⟨Fa,λY1 bq=>?_⟩;obtain⟨K3,br,t3,bs⟩:=new_at (o:=.lst [.ref u']) bq;rw[<-br];have bt:us.length=ss.length:=d.sc.lu;refine⟨Y0,Y1,_,_,rfl,rfl,t3 _ _ (t2 _ _ bm),bs,by rw[DM,Al];exact Dk (Bz (show min l us.length+1<=1000 by lia)),λY2 bu=>?_⟩;obtain⟨K4,bv,t4,bw⟩:=new_at (o:=.lst ((us.map V.ref).take l++[V.ref u'])) bu;rw[<-bv];have a4:=((t1.trans t2).trans t3).trans t4;refine⟨_,rfl,_,rfl,_,_,rfl,rfl,_,rfl,S,_,rfl,Ad.of (a4 _ _ (X _ _ d.sc.top)),λY3 bx=>?_⟩;rw[show Cn (us.map V.ref) (some ((l:Int)+1)) none=(us.map V.ref).drop (l+1) from Ta _ (l+1)];obtain⟨K5,bz,t5,b0⟩:=new_at (o:=.lst ((us.map V.ref).drop (l+1))) bx;rw[<-bz];refine⟨Y2,Y3,_,_,rfl,rfl,t5 _ _ bw,b0,by rw[BC,DM,IX,Al];exact Dk (Bz (show min l us.length+1+(us.length-(l+1))<=1000 by lia)),λS5 b3=>?_⟩;have bF:(us.map V.ref).take l++[V.ref u']++(us.map V.ref).drop (l+1)=(us.set l u').map V.ref:=(by rw[List.map_set,List.set_eq_take_append_cons_drop,AC (by rw[Al,bt];exact C.hl),JA];rfl);rw[bF];obtain⟨K6,b4,t6,b5⟩:=new_at (o:=.lst ((us.set l u').map V.ref)) b3;rw[<-b4];have ak:=(a4.trans t5).trans t6;have ag:=X.trans ak;have a5:Ac H6 K6:=((s7.trans s8).trans M).trans ak
 have b6:RT DF K6 (z::b) ((c::p).map λx=>(B,x, "thing",0)):=by
  refine⟨by have:=Z.len;simpa using this,λn t r N h2=>?_⟩;cases n with|zero=>cases N;cases h2;exact a5 _ _ (s6 _ _ (s5 _ _ (s4 _ _ (s3 _ _ aQ))))|succ n=>exact ag _ _ (Z.at_ (n+1) t r (by simpa using N) (by simpa using h2))
 have b7:=d.sc.put ag (s:=(([],(a::p).map λx=>(B,x, "thing",0)):AO)) C.la aG b5 (t6 _ _ (t5 _ _ (t4 _ _ (t3 _ _ bp)))) (a5 _ _ a2) b6;refine⟨_,rfl,_,rfl,S5,T,W,_,_,_,_,_,_,_,_,rfl,⟨b7,ag _ _ d.et,d.tg.same ag,ak _ _ eX,af.same ak⟩,hF,λb8 S2 T2 R2 u2 G2 E3 v sF b9 N' _ _ _ _ _ _ _ _ _=>?_⟩;exact qk b8 S2 T2 R2 u2 G2 E3 _ _ v (ag.trans sF) b9 N'
inductive Ew (K:Ah) (vs:R') (H:Hp) (Q:VK):Prop where
 |mk (nt t:Addr) (lab lbt a c:Str) (rest:F') (ss:List AO) (gs:G') (qs:U') (l:Nat) (h0:vs=[.ref nt,.ref t,.int (l:Int),.int 0,.str c]) (h1:B9 H nt ss gs qs) (h2:DV ss gs lab lbt l (a::rest)) (h3:BB K H t lab lbt) (h4:Fp ss.length qs) (h5:BA c) (h6:c∉a::rest) (h7:NX (a::rest) c qs) (h8:EF (ss.set l (([],(c::rest).map λx=>(lbt,x, "thing",0)):AO)) gs (qs.map λq=>(q.1,q.2.1,AD (a::rest) c q.2.2))) (h9:∀(nt2:Addr)(H':Hp),Ac H H'->B9 H' nt2 (ss.set l (([],(c::rest).map λx=>(lbt,x, "thing",0)):AO)) gs (qs.map λq=>(q.1,q.2.1,AD (a::rest) c q.2.2))->Q (.ref nt2) H'):Ew K vs H Q
def YQ (K:Ah):Sp:=λvs H Q _=>Ew K vs H Q
abbrev PH(P w K mg base):=AU P w K mg base "renamed" 9 ["net", "table", "scope", "index", "name"] (YQ K)
def YR(af:A0 mg)(ER:A1 K mg)(aK:Rx P w K mg base)(a5:LH P w K mg base)(a0:RQ P w K mg base)(a1:RU P w K mg base)(aL:RX P w K mg base)(F:AW K "renamed" "renamed" Ms f fd)(hm:mg "renamed" = some (.ref f)):PH P w K mg base:=by
 refine Bn F hm Ly (λvs H a3 a4 h=>?_) (λaR aP aT aQ H vs a3 a4 hr h=>?_);obtain⟨j,t,v,o,a,c,d,g,k,b,l,rfl,_⟩:=h;rfl
 . obtain⟨j,t,v,o,a,c,d,g,k,b,l,rfl,N,C,s,y,ag,Q,ah,hF,qk⟩:=h
   have R:=C.anew Q;have M:Fp (g.set l (([],(c::d).map λx=>(o,x, "thing",0)):AO)).length (b.map λq=>(q.1,q.2.1,AD (a::d) c q.2.2)):=by rw[Dj];exact y.anew
   have ea:=Wr Q ah;have et:=Ws (m:=g.length) (l:=l) Q ah;have aS:=y.le;obtain⟨O,D⟩:∃x,x=g.set l (([],(c::d).map λx=>(o,x, "thing",0)):AO):=⟨_,rfl⟩;obtain⟨E,G⟩:∃x,x=b.map λq=>((q.1,q.2.1,AD (a::d) c q.2.2):Qu):=⟨_,rfl⟩;have a6:O.length=g.length:=(by rw[D,Dj]);have a7:E.length=b.length:=(by rw[G,Al])
   refine⟨_,(Ai (BN (AK aK (Ab (pv 0) (Ab (pv 2) (Ab (pv 3) Af)))))
    (Ai (Bi (E6 (Dq (AK a5 (Ab (pv 4) Af)))) (Ao Cg) Bj)
    (Ai (AM (i:=5) Ly.nd (AF AG (AK a0 (Ab (pv 0) (Ab (pv 1) Af))) At))
    (Ai (AM (i:=6) Ly.nd (AK a1 (Ab (pv 0) (Ab (pv 5) (Ab (pv 1) Af)))))
    (Ai (AM (i:=7) Ly.nd (AK aL (Ab (pv 0) (Ab (pv 6) (Ab (pv 2) (Ab (pv 3) (Ab (pv 4) Af)))))))
    (Ai (AM (i:=8) Ly.nd (AF AG (AK a0 (Ab (pv 7) (Ab (pv 1) Af))) At))
    (Ai (AM (i:=9) Ly.nd (AK a1 (Ab (pv 7) (Ab (pv 8) (Ab (pv 1) Af)))))
    (Ai (Bt Bl rfl (Jd rfl af.b_range (Ab (Bh CH af.b_len (Ab (pv 5) Af)) Af)) (An (i:=10) Ly.nd) (Ao (Bi (PW.pt (Ja (Cc (QG hr.units) (AF AG (pv 5) (pv 10)) (AF AG (pv 8) (pv 10)) (BY _)) (Mt (Cc (QG hr.units) (AF AG (pv 6) (pv 10)) (AF AG (pv 9) (pv 10)) (BY _))))) (Ao Cg) Bj)))
    (Ao (Ba (pv 7))))))))))),?_⟩
   rfl';refine Rh λp e=>?_;refine⟨_,rfl,_,rfl,_,rfl,j,l,0,g,k,b,_,rfl,N,C.la,by rw[Al];exact Nat.succ_pos _,?_⟩;cbv;refine CV e λp e=>?_;refine⟨_,rfl,.str c,rfl,r4 ⟨c,rfl,Fg ag.2.1 (by decide),λH0 S=>?_⟩⟩;have N:=N.same S;have s:=s.same S;rw[ag.name];refine⟨true,rfl,Ar ?_⟩;refine Ds ?_;cbv;refine CV e λp e=>?_;refine⟨_,rfl,_,rfl,j,t,v,o,g,k,b,l,a::d,rfl,N,C,s,y,λr1 u T1 X H1 T a8 ai aj=>?_⟩;refine r6 (r4 ⟨r1,_,_,.ref u,rfl,rfl,Am.of a8,rfl,?_⟩);refine Ap ?_;cbv;refine CV e λp e=>?_;have Y:(X.map V.ref).length=b.length:=(by rw[Al,aj.len,Al]);refine⟨_,rfl,_,rfl,_,rfl,j,t,u,_,v,o,g,k,b,l,a::d,rfl,N.same T,C,s.same T,y,ai,Y,λA H2 s2 ak=>?_⟩;refine Ap ?_;cbv;refine CV e λp e=>?_;have al:=T.trans s2;refine⟨_,rfl,_,rfl,_,rfl,_,rfl,_,rfl,j,A,v,o,a,c,d,g,k,b,l,_,rfl,N.same al,C,y,ak,hF,λr S2 T2 R2 u2 G2 E2 a9 aA H3 s3 aB N3=>?_⟩;refine Ap ?_;cbv;rw[<-D,<-G] at N3;rw[<-D] at R M;rw[<-G] at M ea et;rw[<-D,<-G] at qk;clear hF D G;have U:B9 H3 r O k E:=⟨S2,T2,R2,u2,G2,E2,a9,aA,aB,N3⟩;have an:=al.trans s3;refine ES (σ':=[some (.ref j),some (.ref t),some (.int (l:Int)),some (.int 0),some (.str c),some (.ref u),some (.ref A),some (.ref r),none,none,none]) rfl ?_;refine CV e λp e=>?_;refine⟨_,rfl,_,rfl,r,t,v,o,O,k,E,l,c::d,rfl,U,R,s.same an,M,λr2 B T3 Z H4 W aC ao aa=>?_⟩;refine r6 (r4 ⟨r2,_,_,.ref B,rfl,rfl,Am.of aC,rfl,?_⟩);refine Ap ?_;cbv;refine CV e λp e=>?_;rw[ea] at aa;have aq:=an.trans W;have ar:(Z.map V.ref).length=E.length:=(by rw[Al,aa.len,Al,a7]);refine⟨_,rfl,_,rfl,_,rfl,r,t,B,_,v,o,O,k,E,l,c::d,rfl,U.same W,R,s.same aq,M,ao,ar,λab H5 I au=>?_⟩;rw[a6,et] at au;refine Ap ?_;cbv;have aD:=aq.trans I;have av:=W.trans I;have aw:=s3.trans av;have ax:=s2.trans aw;refine ES (σ':=[some (.ref j),some (.ref t),some (.int (l:Int)),some (.int 0),some (.str c),some (.ref u),some (.ref A),some (.ref r),some (.ref B),some (.ref ab),none]) rfl ?_;refine CV e λp e=>?_;have aM:=aj.same ax;have a2:=ax _ _ ai;have aN:=aa.same I;have aO:=I _ _ ao;obtain⟨ay,_,aE,aF,aG⟩:=ak.same aw;obtain⟨az,_,aH,aI,aJ⟩:=au;rw[Al] at Y ar aF aI;refine⟨_,rfl,_,_,rfl,r4 ⟨_,Ad.of a2,rfl⟩,_,rfl,by lia,by rw[Al];lia,?_⟩;rw[Al,Y,Ex];refine Mu (lo:=0) (n:=b.length) (λi σ H'=>∃ae,σ=[some (.ref j),some (.ref t),some (.int (l:Int)),some (.int 0),some (.str c),some (.ref u),some (.ref A),some (.ref r),some (.ref B),some (.ref ab),ae]/\H'=H5) ⟨none,rfl,rfl⟩ ?_ ?_;rotate_left;rintro σ H6 ⟨ae,rfl,rfl⟩;refine Ri e ?_;exact⟨_,rfl,qk r H6 (S.trans aD) (U.same av)⟩;rintro i σ H6 J ⟨ae,rfl,rfl⟩;refine Ap ?_;cbv;rw[Int.zero_add];have h1:=AQ (show i<X.length by lia);have h2:=AQ (show i<Z.length by lia);have ha:(CU (a::d) b)[i]?=some ((CU (a::d) b)[i]'(by rw[Al];exact J)):=AQ _;have k1:=aM.at_ i _ _ h1 ha;have k2:=aN.at_ i _ _ h2 ha;generalize (CU (a::d) b)[i]'(by rw[Al];exact J)=L at k1 k2;have j1:=AQ (show i<ay.length by lia);have j2:=AQ (show i<az.length by lia);have ht:(DW g.length l (a::d) b)[i]?=some ((DW g.length l (a::d) b)[i]'(by rw[Al];exact J)):=AQ _;have m1:=(aG i _ _ j1 ht).dt (K:=K);have m2:=(aJ i _ _ j2 ht).dt (K:=K);generalize (DW g.length l (a::d) b)[i]'(by rw[Al];exact J)=z at m1 m2;refine⟨_,rfl,_,rfl,r4 ⟨u,_,_,.ref (X[i]'(by lia)),rfl,rfl,Ad.of a2,Ck (by rw[AV,h1];rfl),_,rfl,_,rfl,r4 ⟨B,_,_,.ref (Z[i]'(by lia)),rfl,rfl,Ad.of aO,Ck (by rw[AV,h2];rfl),1,.tup [.str L.1,.int (L.2:Int)],.tup [.str L.1,.int (L.2:Int)],.tup (.cons (.str _ _) (.cons (.int _ _) (.nil _))),by decide,.tup (Am.of k1) (.cons (.str _) (.cons (.int _) .nil)),.tup (Am.of k2) (.cons (.str _) (.cons (.int _) .nil)),_,rfl,?_⟩⟩⟩;rw[ED rfl];refine Ar ⟨_,rfl,_,rfl,r4 ⟨A,_,_,.ref (ay[i]'(by lia)),rfl,rfl,Ad.of aE,Ck (by rw[AV,j1];rfl),_,rfl,_,rfl,r4 ⟨ab,_,_,.ref (az[i]'(by lia)),rfl,rfl,Ad.of aH,Ck (by rw[AV,j2];rfl),5,NU z,NU z,IJ z z,by decide,m1,m2,_,rfl,?_⟩⟩⟩;rw[ED rfl];exact Ar ⟨_,rfl,rfl⟩
def PJ (K:Ah) (n:Nat):Sp:=λvs H Q _=>∃(x y:V)(b:Bool),vs=[x,y]/\Fc K H n x y b/\∀H',Ac H H'->Q (.bl b) H'
abbrev YS (K:Ah):Sp:=PJ K 6
theorem YT(B:A0 mg)(W:A1 K mg)(n:Nat)(U:AU P w K mg base "_law_alike" (0+n) ["_law_told", "_law_due"] (PJ K n))(F:AW K "_law_alike" "_law_alike" HA f fd):Cm P w K mg base E8 (0+n+1) f fd ["_law_told", "_law_due"] (PJ K (n+1)):=by
 refine F.ok WK (λN H Q E h=>?_) (λX A Y s H N Q E O h=>?_);obtain⟨x,y,b,rfl,_⟩:=h;rfl;obtain⟨x,y,b,rfl,m,q⟩:=h
 refine⟨_,(Ai (Bi (Hh (HF (pv 1))) (Ao (Ba (Gn (HF (pv 0))))) Bj)
  (Ai (Bi (Dq (Bh Ga B.b_isinstance (Ab (pv 1) (Ab (Gb "str" rfl B.b_str (by decide +kernel)) Af)))) (Ao (Ba (J5 (Bh Ga B.b_isinstance (Ab (pv 0) (Ab (Gb "str" rfl B.b_str (by decide +kernel)) Af))) (JZ (Hi DE (pv 0) (pv 1) (BY _)))))) Bj)
  (Ai (Bi (Dq (Bh Ga B.b_isinstance (Ab (pv 1) (Ab (Gb "int" rfl B.b_int (by decide +kernel)) Af)))) (Ao (Ba (J5 (Bh Ga B.b_isinstance (Ab (pv 0) (Ab (Gb "int" rfl B.b_int (by decide +kernel)) Af))) (J5 (Go (Bh Ga B.b_isinstance (Ab (pv 0) (Ab (Gb "bool" rfl B.b_bool (by decide +kernel)) Af)))) (JZ (Hi DE (pv 0) (pv 1) (BY _))))))) Bj)
  (Ai (Bi (PW.pt (HH (Dq (Bh Ga B.b_isinstance (Ab (pv 1) (Ab (Gb "list" rfl B.b_list (by decide +kernel)) Af)))) (HG (E6 (Dq (Bh Ga B.b_isinstance (Ab (pv 0) (Ab (Gb "list" rfl B.b_list (by decide +kernel)) Af)))))))) (Ao (Ba MR)) Bj)
  (Ai (Bi (PW.pt (HH (Dq (Bh Ga B.b_isinstance (Ab (pv 1) (Ab (Gb "tuple" rfl B.b_tuple (by decide +kernel)) Af)))) (HG (E6 (Dq (Bh Ga B.b_isinstance (Ab (pv 0) (Ab (Gb "tuple" rfl B.b_tuple (by decide +kernel)) Af)))))))) (Ao (Ba MR)) Bj)
  (Ao (Ba (J5 (Hi DE (Bh CH B.b_len (Ab (pv 0) Af)) (Bh CH B.b_len (Ab (pv 1) Af)) (BY _)) (JZ (Bh (OA rfl) B.b_all (Ab (EQ (g:=DP K 2 (D8 (Dl 0) (D8 (Dl 1) DO))) rfl BF (Iy rfl B.b_zip (Ab (pv 0) (Ab (pv 1) Af))) (λ_ _ _ _ _=>(Bf (n:=2) rfl (Av (An (i:=0) BF.nd) (Av (An (i:=1) BF.nd) Be)))) (λ_ _ _ _ _=>EC) (λ_ _ _ _ _=>(AK U (Ab (pv 0) (Ab (pv 1) Af)) (O.mono (by lia))))) Af))))))))))),?_⟩
 try dsimp only[Ay,Cx.nox,Cx.wish]
 cases m with
 |str _ x y=>refine⟨_,rfl,_,rfl,Ar ?_⟩;refine Ds ?_;cbv;refine⟨_,rfl,_,.str,.str,rfl,.str y,_,rfl,AR ?_⟩;refine⟨_,rfl,_,.str,.str,rfl,.str x,_,rfl,AR ?_⟩;refine⟨_,rfl,_,rfl,rfl,?_⟩;have:=q H (Ac.refl _);rw[show decide (V.str x=V.str y)=decide (x=y) by rw[Bool.eq_iff_iff,decide_eq_true_eq,decide_eq_true_eq];exact⟨λh=>V.str.inj h,λh=>by rw[h]⟩];exact this
 |int _ i j=>refine⟨_,rfl,_,rfl,Ar ?_⟩;refine Ds ?_;cbv;refine⟨_,rfl,_,.str,.int,rfl,.int j,_,rfl,Ar ?_⟩;refine Ds ?_;cbv;refine⟨_,rfl,_,.int,.int,rfl,.int j,_,rfl,AR ?_⟩;refine⟨_,rfl,_,.int,.int,rfl,.int i,_,rfl,AR ?_⟩;refine⟨_,rfl,_,.bool,.int,rfl,.int i,_,rfl,_,rfl,AR ?_⟩;refine⟨_,rfl,_,rfl,rfl,?_⟩;have:=q H (Ac.refl _);rw[show decide (V.int i=V.int j)=decide (i=j) by rw[Bool.eq_iff_iff,decide_eq_true_eq,decide_eq_true_eq];exact⟨λh=>V.int.inj h,λh=>by rw[h]⟩];exact this
 |@tup _ p J d r f c a e u m=>refine⟨_,rfl,_,rfl,Ar ?_⟩;refine Ds ?_;cbv;refine⟨_,rfl,_,.str,.tup,rfl,.tup a,_,rfl,Ar ?_⟩;refine Ds ?_;cbv;refine⟨_,rfl,_,.int,.tup,rfl,.tup a,_,rfl,Ar ?_⟩;refine Ds ?_;cbv;refine⟨_,rfl,_,.lst,.tup,rfl,.tup a,_,rfl,Ar (Ar ?_)⟩;refine Ds ?_;cbv;refine⟨_,rfl,_,.tup,.tup,rfl,.tup a,_,rfl,AR ?_⟩;refine⟨_,rfl,_,.tup,.tup,rfl,.tup c,_,rfl,Ar ?_⟩;refine Ds ?_;cbv;refine⟨_,rfl,_,_,rfl,r6 ⟨_,c,rfl⟩,_,rfl,_,_,rfl,r6 ⟨_,a,rfl⟩,rfl,_,rfl,?_⟩;rw[Ca (show V.int ((d.length:Nat):Int)=V.int ((r.length:Nat):Int) by rw[e])];refine AR ⟨_,rfl,_,rfl,p,J,rfl,r6 ⟨⟨_,c⟩,⟨_,a⟩,Wu (f:=λi=>V.bl (f i)) (Fg u (by decide)) e c a (λi x y T t R v C G l k=>?_) (λt D l S I=>?_)⟩⟩;have L:=A3 (o:=.tup [x,y]) G;refine⟨T,_,rfl,Am.of Aa,rfl,_,_,rfl,_,_,rfl,rfl,?_⟩;exact⟨_,rfl,_,rfl,x,y,f i,rfl,(m i x y v C).same (l.trans L),λM s=>k M s⟩;refine⟨D,(List.range d.length).map f,rfl,Ad.of (by rw[DI];exact I),?_⟩;exact q t l
 |@lst _ p J d r f c a e u m=>refine⟨_,rfl,_,rfl,Ar ?_⟩;refine Ds ?_;cbv;refine⟨_,rfl,_,.str,.lst,rfl,.lst a,_,rfl,Ar ?_⟩;refine Ds ?_;cbv;refine⟨_,rfl,_,.int,.lst,rfl,.lst a,_,rfl,Ar ?_⟩;refine Ds ?_;cbv;refine⟨_,rfl,_,.lst,.lst,rfl,.lst a,_,rfl,AR ?_⟩;refine⟨_,rfl,_,.lst,.lst,rfl,.lst c,_,rfl,Ar ?_⟩;refine Ds ?_;cbv;refine⟨_,rfl,_,.tup,.lst,rfl,.lst a,_,rfl,Ar (Ar ?_)⟩;refine Ds ?_;cbv;refine⟨_,rfl,_,_,rfl,r4 ⟨_,c,rfl⟩,_,rfl,_,_,rfl,r4 ⟨_,a,rfl⟩,rfl,_,rfl,?_⟩;rw[Ca (show V.int ((d.length:Nat):Int)=V.int ((r.length:Nat):Int) by rw[e])];refine AR ⟨_,rfl,_,rfl,p,J,rfl,r4 ⟨⟨_,c⟩,⟨_,a⟩,Wt (f:=λi=>V.bl (f i)) (Fg u (by decide)) e c a (λi x y T t R v C G l k=>?_) (λt D l S I=>?_)⟩⟩;have L:=A3 (o:=.tup [x,y]) G;refine⟨T,_,rfl,Am.of Aa,rfl,_,_,rfl,_,_,rfl,rfl,?_⟩;exact⟨_,rfl,_,rfl,x,y,f i,rfl,(m i x y v C).same (l.trans L),λM s=>k M s⟩;refine⟨D,(List.range d.length).map f,rfl,Ad.of (by rw[DI];exact I),?_⟩;exact q t l
 |@lstN _ p J d r c a e=>
  refine⟨_,rfl,_,rfl,Ar ?_⟩;refine Ds ?_;cbv;refine⟨_,rfl,_,.str,.lst,rfl,.lst a,_,rfl,Ar ?_⟩;refine Ds ?_;cbv;refine⟨_,rfl,_,.int,.lst,rfl,.lst a,_,rfl,Ar ?_⟩;refine Ds ?_;cbv;refine⟨_,rfl,_,.lst,.lst,rfl,.lst a,_,rfl,AR ?_⟩;refine⟨_,rfl,_,.lst,.lst,rfl,.lst c,_,rfl,Ar ?_⟩;refine Ds ?_;cbv;refine⟨_,rfl,_,.tup,.lst,rfl,.lst a,_,rfl,Ar (Ar ?_)⟩;refine Ds ?_;cbv;refine⟨_,rfl,_,_,rfl,r4 ⟨_,c,rfl⟩,_,rfl,_,_,rfl,r4 ⟨_,a,rfl⟩,rfl,_,rfl,?_⟩;rw[BM (show ¬V.int ((d.length:Nat):Int)=V.int ((r.length:Nat):Int) from λz=>e (by have:=V.int.inj z;lia))];exact Ar (q H (Ac.refl _))
def YU(B:A0 mg)(c:A1 K mg)(F:AW K "_law_alike" "_law_alike" HA f fd)(a:mg "_law_alike" = some (.ref f))(n:Nat):AU P w K mg base "_law_alike" (0+n) ["_law_told", "_law_due"] (PJ K n):=by
 have b:Binds K fd ["_law_told", "_law_due"] []:=F.binds λ_ _ _ _ _ _ us d=>(by obtain⟨i,j,rfl⟩:=Lz d;rfl)
 induction n with|zero=>exact⟨f,fd,⟨λe H Q E h=>(by obtain⟨_,_,_,_,h,_⟩:=h;cases h),λA l s H k us e Q E _ _ _ _ h=>(by obtain⟨_,_,_,_,h,_⟩:=h;cases h)⟩,a,F.kp,b⟩|succ n g=>exact⟨f,fd,YT B c n g F,a,F.kp,b⟩
abbrev PK(P w K mg base):=AU P w K mg base "_law_alike" 6 ["_law_told", "_law_due"] (YS K)
def YV(B:A0 mg)(a:A1 K mg)(F:AW K "_law_alike" "_law_alike" HA f fd)(b:mg "_law_alike" = some (.ref f)):PK P w K mg base:=
 YU B a F b 6
def YW{xs ys:List α}{x:α}(b:xs.length=ys.length)(a:xs[i]?=some x):(xs.take i++ys.drop i).set i x=xs.take (i+1)++ys.drop (i+1):=by have c:i<xs.length:=(AS.mp a).1;rw[List.set_append_right _ _ (by rw[DM];lia),DM,show i-min i xs.length=0 by lia,FK,a,PL (show i<ys.length by lia),List.set_cons_zero,JA];rfl
inductive Jy (K:Ah) (vs:R') (H:Hp) (Q:VK):Prop where
 |mk (a:Addr) (ns:C') (h0:vs=[.ref a]) (h1:Ad K H a (ns.map V.int)) (h2:ns.length<=63) (h3:∀H',Q (.bl true) H'):Jy K vs H Q
def Og (K:Ah):Sp:=λvs H Q _=>Jy K vs H Q
def He(aG:A0 mg)(ER:A1 K mg)(aT:Pb P w K mg base)(cA:Pe P w K mg base)(ei:Pl P w K mg base)(cY:Oa P w K mg base)(ej:Po P w K mg base)(cB:Pp P w K mg base)(ek:Pq P w K mg base)(cC:PH P w K mg base)(cD:PK P w K mg base)(F:AW K "law" "law" Gj f fd):Cm P w K mg base E8 10 f fd ["_law_script"] (Og K):=by
 refine F.ok Ei (λvs H cV cW h=>?_) (λeH eD fc eE H vs cV cW hr h=>?_);obtain⟨a,ns,rfl,_⟩:=h;rfl
 . obtain⟨a,ns,rfl,hS,eI,kq⟩:=h
   refine⟨_,(Ai (AM (i:=1) Ei.nd (AK aT (Ab (pv 0) (Ab At Af))))
    (Ai (AM (i:=2) Ei.nd (A9 Fj At (A9 EB (A9 Gp (pv 1) At) (AF AG (Ch (Ab At (Ab At (Ab At (Ab At (Ab At (Ab At (Ab At (Ab At Af))))))))) (A9 EB (pv 1) At)))))
    (Ai (AM (i:=3) Ei.nd (AK cA (Ab (AK aT (Ab (pv 0) (Ab At Af))) (Ab At Af))))
    (Ai (AM (i:=4) Ei.nd (AK cA (Ab (AK aT (Ab (pv 0) (Ab At Af))) (Ab At Af))))
    (Ai (AM (i:=5) Ei.nd (AK ei (Ab (Ch (Ab (BR (Ab (Ch (Ab (BR (Ab (AF AG (pv 4) At) (Ab At Af))) Af)) (Ab (Ch (Ab (AF AG (pv 4) At) Af)) Af))) Af)) (Ab At (Ab (Ch (Ab (BR (Ab (AF AG (pv 4) At) (Ab (AF AG (pv 4) At) Af))) Af)) Af)))))
    (Ai (AM (i:=6) Ei.nd (A9 EB (AK aT (Ab (pv 0) (Ab At Af))) (pv 2)))
    (Ai (AM (i:=7) Ei.nd (Hi DE (A9 EB (A9 Gp (AK aT (Ab (pv 0) (Ab At Af))) At) At) At (BY _)))
    (Ai (AM (i:=8) Ei.nd (A9 EB (A9 Qa (A9 Fj (pv 6) (pv 2)) At) (pv 2)))
    (Ai (OE (i:=9) Ei.nd rfl (r4 rfl) (te:=FQ (DQ (Ki (DQ (FQ (DQ (EN (Hk K) (Bg 1) (tC (.int 1))) (DQ (tC (.str "to")) (DQ (EN (rI (λ_ az=>0<az) λi az=>V.int (i%az)) (EN QL (Bg 0) (tC (.int 1))) (Bg 2)) CZ)))) CZ)) (DQ (Ki CZ) CZ))) rfl FH (Jd rfl aG.b_range (Ab (pv 2) Af)) (λ_ _ _ _ _=>(An (i:=0) FH.nd)) (λ_ _ _ _ _=>EC) (λ_ _ _ _ _=>(BR (Ab (Ch (Ab (BR (Ab (AF AG (pv 1) At) (Ab B0 (Ab (A9 EB (A9 Fj (pv 0) At) (pv 2)) Af)))) Af)) (Ab (Ch Af) Af)))))
    (Ai (BN (Kr DC PySem.F.slot_list_clear PySem.F.type_list_clear Vt (AF AG (AF AG (pv 9) (pv 8)) At)))
    (Ai (BN (Do DC Ej Ek Em (AF AG (AF AG (pv 9) (pv 8)) At) (Ab (BR (Ab (AF AG (pv 4) At) (Ab (AF AG (pv 3) At) (Ab B0 (Ab At Af))))) Af)))
    (Ai (Bi (Dq (pv 7)) (Ao (BN (Do DC Ej Ek Em (AF AG (AF AG (pv 9) (pv 8)) At) (Ab (BR (Ab (AF AG (pv 4) At) (Ab (AF AG (pv 3) At) (Ab B0 (Ab At Af))))) Af)))) Bj)
    (Ai (AM (i:=10) Ei.nd (Km Nc (pv 0) (Jg At) (Jg At)))
    (Ai (Bt Bl rfl (Jd rfl aG.b_range (Ab (A9 Qa At (Bh CH aG.b_len (Ab (pv 10) Af))) Af)) (An (i:=11) Ei.nd) (Ao (AM (i:=10) Ei.nd (A9 Ji (pv 10) (Ch (Ab (A9 Fj (A9 EB (pv 1) At) (A9 Kg (A9 Kg At (pv 11)) (pv 11))) Af))))))
    (Ai (AM (i:=12) Ei.nd (Ch Af))
    (Ai (Bt Bl rfl (Bm (pv 10)) (An (i:=13) Ei.nd) (Ai (AM (i:=14) Ei.nd (AK cY (Ab (pv 13) (Ab At Af))))
     (Ao (BN (Do DC Ej Ek Em (pv 12) (Ab (BR (Ab (A9 EB (A9 Gp (pv 14) At) (pv 2)) (Ab At (Ab (AK ej (Ab (pv 14) (Ab (pv 3) Af))) Af)))) Af))))))
    (Ai (AM (i:=15) Ei.nd (BR (Ab (pv 9) (Ab (Ch (Ab (BR (Ab B0 (Ab (pv 8) Af))) Af)) (Ab (pv 12) Af)))))
    (Ai (AM (i:=16) Ei.nd (AK cB (Ab (pv 15) Af)))
    (Ai (Dm (BR (Ab (AF AG (pv 4) At) (Ab (AF AG (pv 3) At) (Ab B0 (Ab At Af))))) (HJ (AF AG (AF AG (AF AG (pv 16) At) (pv 8)) At) At Jh))
    (Ai (Bt Bl rfl (Jd rfl aG.b_range (Ab (Bh CH aG.b_len (Ab (pv 12) Af)) Af)) (An (i:=11) Ei.nd) (Ao (Dm (BR (Ab (AF AG (AF AG (pv 12) (pv 11)) At) (Ab At (Ab (AK ek (Ab (AF AG (AF AG (pv 12) (pv 11)) At) (Ab (pv 3) (Ab (pv 7) Af)))) Af)))) (HJ (AF AG (pv 16) At) (pv 11) Jh))))
    (Ai (AM (i:=17) Ei.nd (AK cB (Ab (pv 15) Af)))
    (Ai (AM (i:=18) Ei.nd (AK cC (Ab (pv 17) (Ab (pv 5) (Ab (pv 8) (Ab At (Ab (AF AG (pv 3) At) Af)))))))
    (Ai (Bi (PW.pt (Ja (E6 (Dq (AK cD (Ab (pv 18) (Ab (pv 16) Af))))) (Mt (Cc (QG hr.units) (pv 17) (pv 15) (BY _))))) (Ao (Ba MR)) Bj)
    (Ao (Ba (AK cD (Ab (AK cC (Ab (pv 18) (Ab (pv 5) (Ab (pv 8) (Ab At (Ab (AF AG (pv 3) At) Af)))))) (Ab (pv 15) Af)))))))))))))))))))))))))))),?_⟩
   rfl';refine Rh λA b=>?_;refine⟨_,rfl,a,ns,0,rfl,by decide,hS,?_⟩;refine Ap ?_;cbv;refine CV b λA b=>?_;obtain⟨hd,cZ⟩:∃hd,hd=KE ns 0:=⟨_,rfl⟩;rw[<-cZ];refine⟨_,rfl,_,_,rfl,rfl,⟨by decide,by decide⟩,(by show 8<=sizeLine;decide),λcX hZ=>?_⟩;obtain⟨H1,da,s1,eZ⟩:=new_at (o:=.lst [.int 9,.int 9,.int 9,.int 9,.int 9,.int 9,.int 9,.int 39]) hZ;rw[<-da];obtain⟨i8,e8,h8⟩:∃n:Nat,hd%8=(n:Int)/\n<8:=⟨(hd%8).toNat,by lia,by lia⟩
   obtain⟨ai,bL,d1,eJ⟩:∃ai:Nat,[V.int 9,V.int 9,V.int 9,V.int 9,V.int 9,V.int 9,V.int 9,V.int 39][i8]?=some (.int (ai:Int))/\1<=ai/\ai<=39:=by
    match i8,h8 with
    |0,_=>exact⟨9,rfl,by decide,by decide⟩
    |1,_=>exact⟨9,rfl,by decide,by decide⟩
    |2,_=>exact⟨9,rfl,by decide,by decide⟩
    |3,_=>exact⟨9,rfl,by decide,by decide⟩
    |4,_=>exact⟨9,rfl,by decide,by decide⟩
    |5,_=>exact⟨9,rfl,by decide,by decide⟩
    |6,_=>exact⟨9,rfl,by decide,by decide⟩
    |7,_=>exact⟨39,rfl,by decide,by decide⟩
   refine⟨_,rfl,_,_,rfl,rfl,(by show(0:Int)<8;decide),?_⟩;cbv;rw[e8];refine r4 ⟨cX,_,_,_,rfl,rfl,Ad.of eZ,Ck bL,_,_,rfl,rfl,(by show(0:Int)<(ai:Int);lia),_,_,rfl,rfl,?_⟩;refine Ap ?_;cbv;have y0:=Hg (hd/8) (show(ai:Int)≠0 by lia);have y1:=Hf (hd/8) (show(0:Int)<(ai:Int) by lia);obtain⟨m,bK,m1,eK⟩:∃m:Nat,1+hd/8%(ai:Int)=(m:Int)/\1<=m/\m<=39:=⟨(1+hd/8%(ai:Int)).toNat,by lia,by lia,by lia⟩;rw[bK];clear y0 y1 bK bL e8 eZ;refine ES (σ':=[some (.ref a),some (.int hd),some (.int (m:Int)),none,none,none,none,none,none,none,none,none,none,none,none,none,none,none,none]) rfl ?_;refine CV b λA b=>?_;refine⟨_,rfl,a,ns,1,rfl,by decide,s1.seq hS,_,4,rfl,by decide,by decide,λW ws H2 hW s2 eW lw aX nd=>?_⟩
   obtain⟨d,I,X,p,rfl⟩:∃d I X p,ws=[d,I,X,p]:=by
    match ws,lw with
    |[d,I,X,p],_=>exact⟨d,I,X,p,rfl⟩
   have eW:H2 W=some (.lst [.str d,.str I,.str X,.str p]):=eW;refine Ap ?_;cbv;refine CV b λA b=>?_;have bM:=s1.trans s2;refine⟨_,rfl,a,ns,2,rfl,by decide,bM.seq hS,_,2,rfl,by decide,by decide,λL ls H3 hL s3 Z ll bN bO=>?_⟩
   obtain⟨s,C,rfl⟩:∃s C,ls=[s,C]:=by
    match ls,ll with
    |[s,C],_=>exact⟨s,C,rfl⟩
   have Z:H3 L=some (.lst [.str s,.str C]):=Z;have hl:C≠s:=λz=>by rw[z] at bO;simp at bO
   have bv:=bN s (by simp);have bw:=bN C (by simp);refine Ap ?_;cbv;refine ES (σ':=[some (.ref a),some (.int hd),some (.int (m:Int)),some (.ref W),some (.ref L),none,none,none,none,none,none,none,none,none,none,none,none,none,none]) rfl ?_;refine CV b λA b=>?_;refine⟨_,rfl,r4 ⟨L,_,_,_,rfl,rfl,Ad.of Z,rfl,DS,λgt bP=>?_⟩⟩;obtain⟨K3,db,t3,cE⟩:=new_at (o:=.tup [.str C,.int 0]) bP;rw[<-db];refine⟨Fa,λbI hg=>?_⟩;obtain⟨K4,dc,t4,bQ⟩:=new_at (o:=.lst [.ref gt]) hg;rw[<-dc];refine⟨_,rfl,r4 ⟨L,_,_,_,rfl,rfl,Ad.of (t4 _ _ (t3 _ _ Z)),rfl,Fa,λe he=>?_⟩⟩;obtain⟨K5,dd,t5,bR⟩:=new_at (o:=.lst [.str s]) he;rw[<-dd];refine⟨DS,λbJ hu=>?_⟩;obtain⟨K6,de,t6,bS⟩:=new_at (o:=.tup [.ref bI,.ref e]) hu;rw[<-de];refine⟨Fa,λaa bT=>?_⟩;obtain⟨K7,df,t7,cF⟩:=new_at (o:=.lst [.ref bJ]) bT;rw[<-df];have aY:=(((t3.trans t4).trans t5).trans t6).trans t7;refine⟨_,rfl,r4 ⟨L,_,_,_,rfl,rfl,Ad.of (aY _ _ Z),rfl,⟨_,rfl,r4 ⟨L,_,_,_,rfl,rfl,Ad.of (aY _ _ Z),rfl,DS,λpr bU=>?_⟩⟩⟩⟩;obtain⟨K8,dg,t8,cG⟩:=new_at (o:=.tup [.str s,.str C]) bU;rw[<-dg];refine⟨Fa,λoo bV=>?_⟩;obtain⟨K9,dh,t9,cH⟩:=new_at (o:=.lst [.ref pr]) bV;rw[<-dh];refine⟨aa,oo,C,s,rfl,Ne.symm hl,⟨bJ,bI,e,gt,t9 _ _ (t8 _ _ cF),t9 _ _ (t8 _ _ (t7 _ _ bS)),t9 _ _ (t8 _ _ (t7 _ _ (t6 _ _ (t5 _ _ bQ)))),t9 _ _ (t8 _ _ (t7 _ _ (t6 _ _ (t5 _ _ (t4 _ _ cE))))),t9 _ _ (t8 _ _ (t7 _ _ (t6 _ _ bR)))⟩,⟨pr,cH,t9 _ _ cG⟩,bw.name,bv.name,λt a5 ht bW TK=>?_⟩;have bm:Ac H3 a5:=((aY.trans t8).trans t9).trans bW;have Z:=bm _ _ Z;have eW:=bm _ _ (s3 _ _ eW);have hS:=bm.seq (s3.seq (bM.seq hS));clear bm aY t3 t4 t5 t6 t7 t8 t9 bW cE bQ bR bS cF cG cH bP hg he hu bT bU bV;refine Ap ?_;cbv;refine ES (σ':=[some (.ref a),some (.int hd),some (.int (m:Int)),some (.ref W),some (.ref L),some (.ref t),none,none,none,none,none,none,none,none,none,none,none,none,none]) rfl ?_;refine CV b λA b=>?_;obtain⟨c3,bX⟩:∃c,c=KE ns 3:=⟨_,rfl⟩;refine⟨_,rfl,a,ns,3,rfl,by decide,hS,_,rfl,_,_,rfl,rfl,(by show(0:Int)<(m:Int);lia),?_⟩;refine Ap ?_;cbv;rw[<-bX];have o0:=Hg c3 (show(m:Int)≠0 by lia);have o1:=Hf c3 (show(0:Int)<(m:Int) by lia);obtain⟨J,cI,fa⟩:∃n:Nat,c3%(m:Int)=(n:Int)/\n<m:=⟨(c3%(m:Int)).toNat,by lia,by lia⟩;rw[cI];refine CV b λA b=>?_;refine⟨_,rfl,a,ns,3,rfl,by decide,hS,_,_,rfl,rfl,⟨by decide,by decide⟩,_,_,rfl,rfl,(by show(0:Int)<2;decide),rfl,?_⟩;refine Ap ?_;cbv;obtain⟨two,cJ⟩:∃an,an=decide (V.int (KE ns 3/39%2)=V.int 1):=⟨_,rfl⟩;rw[<-cJ];refine CV b λA b=>?_;refine⟨_,rfl,_,rfl,_,_,rfl,rfl,_,_,rfl,rfl,_,rfl,_,_,rfl,rfl,(by show(0:Int)<(m:Int);lia),?_⟩;refine Ap ?_;cbv;have p0:=Hg ((J:Int)+(m:Int)-1) (show(m:Int)≠0 by lia);have p1:=Hf ((J:Int)+(m:Int)-1) (show(0:Int)<(m:Int) by lia);obtain⟨l,el,di⟩:∃n:Nat,((J:Int)+(m:Int)-1)%(m:Int)=(n:Int)/\n<m:=⟨(((J:Int)+(m:Int)-1)%(m:Int)).toNat,by lia,by lia⟩;rw[el];clear p0 p1 o0 o1 cI el cJ bX;refine ES (σ':=[some (.ref a),some (.int hd),some (.int (m:Int)),some (.ref W),some (.ref L),some (.ref t),some (.int (J:Int)),some (.bl two),some (.int (l:Int)),none,none,none,none,none,none,none,none,none,none]) rfl ?_;refine CV b λA b=>?_;obtain⟨ag,ay⟩:∃f:Nat->List AO,∀i,f i=(List.range i).map λk=>(([(C, "to",((Bv m k 1:Nat):Int))],[]):AO):=⟨λi=>(List.range i).map λk=>(([(C, "to",((Bv m k 1:Nat):Int))],[]):AO),λ_=>rfl⟩;refine⟨_,rfl,_,rfl,by lia,by lia,?_⟩;rw[Ex];refine TU (lo:=0) (n:=m) (λD i ys j=>∃u2 G2 E2:E',ys=u2.map V.ref/\Ac a5 j/\Cy j D u2 G2 E2 (ag i)/\(D::(G2++E2)).Nodup/\∀x∈G2++E2,a5 x=none) (λD hD=>⟨[],[],[],rfl,A3 hD,by rw[ay];exact Cy.nil Aa,by simp,λx u=>by simp at u⟩) (λD i ys H9 R1 R0 hD hi hv k k0=>?_) (λD ys bY hD hv=>?_);obtain⟨u2,G2,E2,rfl,s9,aI,nd,a6⟩:=hv;have dj:u2.length=i:=(by rw[aI.lu,ay,Al,r9]);refine Ap (G6 ?_);cbv;rw[AC rfl];refine⟨_,rfl,r4 ⟨L,_,_,_,rfl,rfl,Ad.of (s9 _ _ Z),rfl,_,rfl,_,_,rfl,rfl,_,rfl,_,_,rfl,rfl,(by show(0:Int)<(m:Int);lia),Fx,λtp dk=>?_⟩⟩;have dm:(0+(i:Int)+1)%(m:Int)=((Bv m i 1:Nat):Int):=by unfold Bv;rw[Int.zero_add];exact(Int.natCast_emod (i+1) m).symm
   cbv;rw[dm];obtain⟨J1,dn,q1,dp⟩:=new_at (o:=.tup [.str C,.str "to",.int ((Bv m i 1:Nat):Int)]) dk;rw[<-dn];refine⟨Fa,λG3 a7=>?_⟩;obtain⟨J2,dq,q2,bZ⟩:=new_at (o:=.lst [.ref tp]) a7;rw[<-dq];refine⟨B8 _,λE3 ao=>?_⟩;obtain⟨J3,ds,q3,dt⟩:=new_at (o:=.lst []) ao;rw[<-ds];refine⟨DS,λu3 dv=>?_⟩;obtain⟨J4,dw,q4,dx⟩:=new_at (o:=.tup [.ref G3,.ref E3]) dv;rw[<-dw];have ca:=((q1.trans q2).trans q3).trans q4;have cK:=aI.same ca;have al:=aI.alive
   have nG:G3∉D::(G2++E2):=λy=>by
    rcases Cj.mp y with y|y;rw[y,q1 _ _ aI.top] at a7;cases a7;obtain⟨xs,e⟩:=al _ y;rw[q1 _ _ e] at a7;cases a7
   have nE:E3∉D::(G2++E2):=λy=>by
    rcases Cj.mp y with y|y;rw[y,q2 _ _ (q1 _ _ aI.top)] at ao;cases ao;obtain⟨xs,e⟩:=al _ y;rw[q2 _ _ (q1 _ _ e)] at ao;cases ao
   have cb:G3≠E3:=λy=>by rw[<-y,bZ] at ao;cases ao
   have en:Fz J4 u3 G3 E3 (([(C, "to",((Bv m i 1:Nat):Int))],[]):AO):=⟨dx,⟨[tp],q4 _ _ (q3 _ _ bZ),RT.one (r:=((C, "to",((Bv m i 1:Nat):Int)):KR)) (q4 _ _ (q3 _ _ (q2 _ _ dp)))⟩,⟨[],q4 _ _ dt,RT.nil⟩⟩;refine k _ _ cK.top (by rw[Al,dj];exact Bz (by lia)) ⟨u2++[u3],G2++[G3],E2++[E3],by rw[By];rfl,λan o e=>?_,?_,QU nd nG nE cb,λx u=>?_⟩;rw[Ax (AN e hD)];exact ca _ _ (s9 _ _ e);have e:ag (i+1)=ag i++[(([(C, "to",((Bv m i 1:Nat):Int))],[]):AO)]:=by rw[ay,ay,List.range_succ,By];rfl
   rw[e];exact cK.snoc en (λz=>nG (z▸Ea)) (λz=>nE (z▸Ea)) (λx u z=>(DN.mp nd).1 (z▸u));simp only[EJ,D7] at u;rcases u with(h|h)|(h|h);exact a6 x (Ht _ h);rw[h];exact s9.free (q1.free a7);exact a6 x (Eb _ h);rw[h];exact s9.free (q1.free (q2.free ao));obtain⟨us,Gs,Es,rfl,cd,SC,aZ,a6⟩:=hv;refine Ap ?_;cbv;refine ES (σ':=[some (.ref a),some (.int hd),some (.int (m:Int)),some (.ref W),some (.ref L),some (.ref t),some (.int (J:Int)),some (.bl two),some (.int (l:Int)),some (.ref D),none,none,none,none,none,none,none,none,none]) rfl ?_;refine CV b λA b=>?_;have dy:(ag m).length=m:=(by rw[ay,Al,r9]);have dz:(ag m)[l]?=some (([(C, "to",((Bv m l 1:Nat):Int))],[]):AO):=by rw[ay,AV,s' di];rfl
   obtain⟨a0,Gl,Q,aH,bu,a4,g4,⟨a1,⟨tG,b1,b2⟩,⟨tE,c1,c2⟩⟩⟩:=SC.get (show l<(ag m).length by lia);refine⟨_,rfl,_,rfl,r4 ⟨D,_,_,.ref a0,rfl,rfl,Ad.of SC.top,Ck (by rw[AV,aH];rfl),r6 (r4 ⟨a0,_,_,.ref Gl,rfl,rfl,Am.of a1,rfl,r4 ⟨rfl,_,Ad.of b1⟩,Gl,_,rfl,rfl,b1,?_⟩)⟩⟩;have aJ:=SC.gput aZ (ts:=[]) (gl:=[]) dz bu b1 RT.nil;have d3:Gl∈Gs++Es:=Ht _ (CB bu);have cf:Q∈Gs++Es:=Eb _ (CB a4)
   have cb:Gl≠Q:=λz=>by
    have:=(List.nodup_append.mp (DN.mp aZ).2).2.2;exact this Gl (CB bu) Q (CB a4) z
   have aK:Ac a5 (upd bY Gl (.lst (([]:E').map V.ref))):=λan o e=>by rw[Ax λz=>by rw[z,a6 Gl d3] at e;cases e];exact cd _ _ e
   rw[show HO.lst []=HO.lst (([]:E').map V.ref) from rfl];generalize upd bY Gl (.lst (([]:E').map V.ref))=eL at aJ aK ⊢;cbv;refine CV b λA b=>?_;have cg:((ag m).set l (([],[]):AO))[l]?=some (([],[]):AO):=w4 (by lia);obtain⟨u1,G1,E1,k1,k2,k3,k4,⟨a2,_,⟨d4,d1,d2⟩⟩⟩:=aJ.get (show l<((ag m).set l (([],[]):AO)).length by rw[Dj];lia);rw[aH] at k1;cases k1;rw[a4] at k3;cases k3;obtain rfl:d4=[]:=List.length_eq_zero_iff.mp (by have:=d2.len;rw[cg] at k4;rw[<-Ce k4] at this;exact this);refine⟨_,rfl,_,rfl,r4 ⟨D,_,_,.ref a0,rfl,rfl,Ad.of aJ.top,Ck (by rw[AV,aH];rfl),r6 (r4 ⟨a0,_,_,.ref Q,rfl,rfl,Am.of a2,rfl,r4 ⟨rfl,_,Ad.of d1⟩,?_⟩)⟩⟩;refine⟨_,rfl,r4 ⟨L,_,_,_,rfl,rfl,Ad.of (aK _ _ Z),rfl,_,rfl,r4 ⟨W,_,_,_,rfl,rfl,Ad.of (aK _ _ eW),rfl,Ld,λR d5=>?_⟩⟩⟩;obtain⟨ba,eo,a8,bb⟩:=new_at (o:=.tup [.str s,.str d,.str "thing",.int 0]) d5;rw[<-eo];have av:=(aJ.same a8).eput aZ (ts:=[R]) (tl:=[(s,d, "thing",0)]) cg a4 (a8 _ _ d1) (RT.one bb);rw[List.set_set] at av;refine⟨Q,_,_,rfl,rfl,a8 _ _ d1,(by show 0<sizeLine;decide),?_⟩;have a9:Ac a5 (upd ba Q (.lst ([R].map V.ref))):=λan o e=>by rw[Ax λz=>by rw[z,a6 Q cf] at e;cases e];exact a8 _ _ (aK _ _ e)
   have b8:(upd ba Q (.lst ([R].map V.ref))) R=some (.tup [.str s,.str d,.str "thing",.int 0]):=by rw[Ax λz=>by have y:=a8 _ _ d1;rw[<-z,bb] at y;cases y];exact bb
   have aL:(upd ba Q (.lst ([R].map V.ref))) Q=some (.lst ([R].map V.ref)):=Aa;rw[show HO.lst (([]:E').map V.ref++[V.ref R])=HO.lst ([R].map V.ref) from rfl];generalize upd ba Q (.lst ([R].map V.ref))=eM at av a9 b8 aL ⊢;cbv;obtain⟨B,aF⟩:∃r,r=if two=true then[I] else[]:=⟨_,rfl⟩;obtain⟨M,aM⟩:∃x,x=(ag m).set l (([],(d::B).map λx=>(s,x, "thing",0)):AO):=⟨_,rfl⟩;refine OX b (λσ j=>σ=[some (.ref a),some (.int hd),some (.int (m:Int)),some (.ref W),some (.ref L),some (.ref t),some (.int (J:Int)),some (.bl two),some (.int (l:Int)),some (.ref D),none,none,none,none,none,none,none,none,none]/\Ac a5 j/\Cy j D us Gs Es M) (λA b=>?_) (λbt hN=>?_);rotate_left;refine⟨_,rfl,two,rfl,?_⟩
   cases bn:two with
   |true=>refine AR ?_;have d6:((ag m).set l (([],[(s,d, "thing",0)]):AO))[l]?=some (([],[(s,d, "thing",0)]):AO):=w4 (by lia);obtain⟨u1,G1,E1,k1,k2,k3,k4,⟨a3,_⟩⟩:=av.get (show l<((ag m).set l (([],[(s,d, "thing",0)]):AO)).length by rw[Dj];lia);rw[aH] at k1;cases k1;rw[a4] at k3;cases k3;refine⟨_,rfl,_,rfl,r4 ⟨D,_,_,.ref a0,rfl,rfl,Ad.of av.top,Ck (by rw[AV,aH];rfl),r6 (r4 ⟨a0,_,_,.ref Q,rfl,rfl,Am.of a3,rfl,r4 ⟨rfl,_,Ad.of aL⟩,?_⟩)⟩⟩;refine⟨_,rfl,r4 ⟨L,_,_,_,rfl,rfl,Ad.of (a9 _ _ Z),rfl,_,rfl,r4 ⟨W,_,_,_,rfl,rfl,Ad.of (a9 _ _ eW),rfl,Ld,λe1 d7=>?_⟩⟩⟩;obtain⟨bc,ep,ab,d8⟩:=new_at (o:=.tup [.str s,.str I,.str "thing",.int 0]) d7;rw[<-ep];have aN:=(av.same ab).eput aZ (ts:=[R,e1]) (tl:=[(s,d, "thing",0),(s,I, "thing",0)]) d6 a4 (ab _ _ aL) (RT.two (ab _ _ b8) d8);rw[List.set_set] at aN;refine⟨Q,_,_,rfl,rfl,ab _ _ aL,(by show 1<sizeLine;decide),?_⟩;refine hN _ _ ⟨by rw[bn],λan o e=>?_,?_⟩;rw[Ax λz=>by rw[z,a6 Q cf] at e;cases e];exact ab _ _ (a9 _ _ e);rw[aM,aF,AC bn];exact aN
   |false=>refine Ar (hN _ _ ⟨by rw[bn],a9,?_⟩);rw[aM,aF,AA (by rw[bn];decide)];exact av
   rintro σ bc ⟨rfl,ab,aN⟩;clear aJ av SC a9 aK cd b8 aL bb a8 d1 d2 c1 c2 b1 b2 a1 a2;have eN:M.length=m:=by rw[aM,Dj];exact dy
   have ah:d≠I/\d≠X/\d≠p/\I≠X/\I≠p/\X≠p:=(by simp only[DN,Cj,List.not_mem_nil,or_false,not_or,List.nodup_nil,and_true,not_false_eq_true] at nd;exact⟨nd.1.1,nd.1.2.1,nd.1.2.2,nd.2.1.1,nd.2.1.2,nd.2.2⟩)
   have bo:∀x∈B,x=I:=λx u=>by
    rw[aF] at u;split at u;exact D7.mp u;cases u
   have fe:B.length<=1:=by rw[aF];split<;>simp
   have au:DV M [(a',(l:Int))] C s l (d::B):=(by refine⟨by lia,by lia,λaf hv hn=>?_,?_,by rw[EU];lia,DN.mpr ⟨λz=>ah.1 (bo _ z),?_⟩,rfl,hl⟩;rw[aM,u8 (Ne.symm hn),Dj,ay,AV,s' (by lia),Al,r9];rfl;rw[aM];exact w4 (by lia);rw[aF];split<;>simp);refine CV b λA b=>?_;have es:=ab.seq hS;refine⟨_,rfl,_,rfl,_,rfl,a,_,rfl,es,λY hY=>?_⟩
   rw[show Cn (ns.map V.int) (some 4) (some 16)=((ns.drop 4).take 12).map V.int from by
    rw[show Cn (ns.map V.int) (some 4) (some 16)=((ns.map V.int).drop 4).take (16-4) from Vg _ 4 16 (by decide),<-List.map_drop,<-PM]]
   have d9:((ns.drop 4).take 12).length<=12:=by rw[DM];lia
   generalize (ns.drop 4).take 12=bd at d9;obtain⟨eO,et,bx,eY⟩:=new_at (o:=.lst (bd.map V.int)) hY;rw[<-et];have fb:=ab.trans bx;refine Ap ?_;cbv;refine OX b (λσ j=>∃(Y:Addr)(N:C')(v:S'),σ=[some (.ref a),some (.int hd),some (.int (m:Int)),some (.ref W),some (.ref L),some (.ref t),some (.int (J:Int)),some (.bl two),some (.int (l:Int)),some (.ref D),some (.ref Y),v,none,none,none,none,none,none,none]/\Ac bc j/\j Y=some (.lst (N.map V.int))/\5<=N.length/\N.length<=12) (λA b=>?_) (λbt hN=>?_);rotate_left
   . refine⟨_,rfl,_,_,rfl,r4 ⟨_,Ad.of eY,rfl⟩,_,_,rfl,rfl,?_⟩
     cbv;rw[Al];refine⟨_,rfl,by lia,by lia,?_⟩;refine Mu (lo:=0) (n:=((5:Int)-(bd.length:Int)).toNat) (λi σ j=>∃(Y:Addr)(N:C')(v:S'),σ=[some (.ref a),some (.int hd),some (.int (m:Int)),some (.ref W),some (.ref L),some (.ref t),some (.int (J:Int)),some (.bl two),some (.int (l:Int)),some (.ref D),some (.ref Y),v,none,none,none,none,none,none,none]/\Ac bc j/\j Y=some (.lst (N.map V.int))/\N.length=bd.length+i) ⟨Y,bd,none,rfl,bx,eY,rfl⟩ ?_ ?_;rotate_left;rintro σ be ⟨Y,N,v,rfl,aw,eY,lc⟩;exact hN _ _ ⟨Y,N,v,rfl,aw,eY,by lia,by lia⟩;rintro i σ be hi ⟨Y,N,v,rfl,aw,eY,lc⟩;refine Ap ?_;cbv;refine⟨_,rfl,_,rfl,_,_,rfl,rfl,(by show(0:Int)<1000003;decide),_,rfl,_,_,rfl,rfl,r4 ⟨by decide,by decide⟩,_,rfl,_,_,rfl,rfl,r6 ⟨by lia,by lia⟩,_,_,rfl,rfl,Fa,λz1 dA=>?_⟩;cbv;generalize hd%1000003+69621*(0+(i:Int))*(0+(i:Int))=nv;obtain⟨dB,b9,aA,dC⟩:=new_at (o:=.lst [.int nv]) dA;rw[<-b9];refine⟨Y,z1,_,_,rfl,rfl,aA _ _ eY,dC,by rw[Al];exact Dk (Bz (show _+1<=1000 by lia)),λY2 dD=>?_⟩;have aj:=A3 (o:=.lst (N.map V.int++[V.int nv])) dD;exact⟨Y2,N++[nv],_,rfl,aw.trans (aA.trans aj),by rw[Aa,By];rfl,by rw[BC,lc];rfl⟩
   rintro σ be ⟨Y,N,v,rfl,aw,eY,c5,eP⟩;refine CV b λA b=>?_;have eu:=ab.trans aw;have ev:=eu _ _ eW;refine⟨B8 _,λE bz=>?_⟩;obtain⟨dB,b9,aA,ew⟩:=new_at (o:=.lst []) bz;rw[<-b9];refine Ap ?_;cbv;have cL:=aA _ _ eY;refine OX b (λσ j=>∃(G:E')(g:U')(S T:S'),σ=[some (.ref a),some (.int hd),some (.int (m:Int)),some (.ref W),some (.ref L),some (.ref t),some (.int (J:Int)),some (.bl two),some (.int (l:Int)),some (.ref D),some (.ref Y),v,some (.ref E),S,T,none,none,none,none]/\Ac be j/\j E=some (.lst (G.map V.ref))/\QT j G g/\g.length=N.length/\∀q∈g,∃af:Nat,q.1=(af:Int)/\af<m/\q.2.1=0/\1<=q.2.2.length/\q.2.2.length<=6/\∀x∈q.2.2,x=d\/x=I\/x=X) (λA b=>?_) (λbt hN=>?_);rotate_left
   . refine⟨_,rfl,Y,rfl,⟨_,Ad.of cL⟩,CQ (xs:=N.map V.int) (λi σ j=>∃(G:E')(g:U')(S T:S'),σ=[some (.ref a),some (.int hd),some (.int (m:Int)),some (.ref W),some (.ref L),some (.ref t),some (.int (J:Int)),some (.bl two),some (.int (l:Int)),some (.ref D),some (.ref Y),v,some (.ref E),S,T,none,none,none,none]/\Ac be j/\j Y=some (.lst (N.map V.int))/\j E=some (.lst (G.map V.ref))/\QT j G g/\g.length=i/\∀q∈g,∃af:Nat,q.1=(af:Int)/\af<m/\q.2.1=0/\1<=q.2.2.length/\q.2.2.length<=6/\∀x∈q.2.2,x=d\/x=I\/x=X)
      ⟨[],[],_,_,rfl,aA,cL,ew,QT.nil,rfl,λq hq=>by cases hq⟩ (λi σ j _ dE=>by obtain⟨_,_,_,_,_,_,e,_⟩:=dE;exact Ad.of e) ?_ ?_⟩
     rotate_left;rintro σ ch ⟨G,g,S,T,rfl,aj,_,eQ,ae,lq,hq⟩;exact hN _ _ ⟨G,g,S,T,rfl,aj,eQ,ae,by rw[lq,Al],hq⟩;rintro i x σ ch u ⟨G,g,S,T,rfl,aj,ex,aU,ae,lq,hq⟩;obtain⟨cc,dF,rfl⟩:=getm u;have hi:i<12:=by have:=(AS.mp dF).1;lia
     refine Ap ?_;cbv;refine⟨_,rfl,cc,2147483543,rfl,by decide,by decide,λdr d0 d1=>?_⟩;refine Ap ?_;cbv;have eF:=Hg (dr/1296) (show(m:Int)≠0 by lia);have eG:=Hf (dr/1296) (show(0:Int)<(m:Int) by lia);refine⟨_,rfl,r4 ⟨rfl,_,Ad.of aU⟩,_,rfl,_,_,rfl,rfl,⟨by decide,by decide⟩,_,rfl,_,_,rfl,rfl,(by show(0:Int)<(m:Int);lia),_,rfl,_,rfl,dr,W,d,I,X,p,rfl,d0,by lia,aj _ _ ev,λpa cj dG bf dH p1 p6 dI=>?_⟩;cbv;refine⟨Fx,λqa dJ=>?_⟩;obtain⟨dK,bA,aB,dL⟩:=new_at (o:=.tup [.int (dr/1296%(m:Int)),.int 0,.ref pa]) dJ;rw[<-bA];have bp:=bf.trans aB;have cM:=bp _ _ aU;have dM:G.length=i:=ae.len.trans lq;have dN:Y≠E:=AN eY bz;refine⟨E,_,_,rfl,rfl,cM,by rw[Al,dM];exact Bz (by lia),?_⟩;refine⟨G++[qa],g++[(dr/1296%(m:Int),0,cj)],_,_,rfl,λan o e=>?_,?_,by rw[Aa,By];rfl,((ae.same bp).snoc (q:=(dr/1296%(m:Int),0,cj)) dL (aB _ _ dH)).keeps (Keeps.one cM),by rw[BC,lq];rfl,λq dO=>?_⟩;rw[Ax (AN e bz)];exact bp _ _ (aj _ _ e);rw[Ax dN];exact bp _ _ ex;rcases EJ.mp dO with h|h;exact hq q h;rw[D7.mp h];exact⟨(dr/1296%(m:Int)).toNat,by show dr/1296%(m:Int)=_;lia,by lia,rfl,p1,p6,dI⟩
   rintro σ ch ⟨G,g,S,T,rfl,aj,aU,ae,lq,hq⟩;refine ES (σ':=[some (.ref a),some (.int hd),some (.int (m:Int)),some (.ref W),some (.ref L),some (.ref t),some (.int (J:Int)),some (.bl two),some (.int (l:Int)),some (.ref D),some (.ref Y),v,some (.ref E),S,T,none,none,none,none]) rfl ?_;refine CV b λA b=>?_;refine⟨_,rfl,_,rfl,DS,λgp dP=>?_⟩;obtain⟨dG,ey,bf,dQ⟩:=new_at (o:=.tup [.str "part",.int (l:Int)]) dP;rw[<-ey];refine⟨Fa,λT0 dR=>?_⟩;obtain⟨dK,bA,aB,dS⟩:=new_at (o:=.lst [.ref gp]) dR;rw[<-bA];refine⟨_,rfl,Fx,λnt dT=>?_⟩;obtain⟨aO,ez,bg,b0⟩:=new_at (o:=.tup [.ref D,.ref T0,.ref E]) dT;rw[<-ez];have bq:=(bf.trans aB).trans bg;have aV:Ac bc aO:=(aw.trans aj).trans bq
   have N3:Co aO D T0 E us Gs Es [gp] G M [(a',(l:Int))] g:=⟨aN.same aV,bg _ _ dS,⟨rfl,λn t aW h1 h2=>by
    cases n with
    |zero=>cases h1;cases h2;exact bg _ _ (aB _ _ dQ)
    |succ n=>simp at h1⟩,bq _ _ aU,ae.same bq⟩
   have hQ:Fp M.length g:=⟨by lia,by lia,λq h=>by
    obtain⟨af,e1,e2,e3,e4,e5,_⟩:=hq q h;exact⟨af,e1,by lia,e3,e4,e5⟩⟩
   have cN:=TK.same (ab.trans aV);have bB:=(ab.trans aV) _ _ eW;have e0:=(ab.trans aV) _ _ Z;clear bf aB bg bq aV aj aw aA bx aN aU ae;refine Ap ?_;cbv;refine ES (σ':=[some (.ref a),some (.int hd),some (.int (m:Int)),some (.ref W),some (.ref L),some (.ref t),some (.int (J:Int)),some (.bl two),some (.int (l:Int)),some (.ref D),some (.ref Y),v,some (.ref E),S,T,some (.ref nt),none,none,none]) rfl ?_;refine CV b λA b=>?_;refine⟨_,rfl,nt,D,T0,E,us,Gs,Es,[gp],G,M,_,g,rfl,b0,N3,by lia,λdu S2 T2 R2 u2 G2 E2 eR bh ax aq ck dU dV cl fx cm dW cn bi=>?_⟩;refine Ap ?_;cbv;refine CV b λA b=>?_;have cp:=au.la;obtain⟨ud,Gd,Ed,x1,x2,x3,x4,⟨y1,_,⟨tE,z1,z2⟩⟩⟩:=aq.sc.get au.hl;rw[cp] at x4;have x4:=Ce x4;rw[<-x4] at z2
   obtain⟨dX,er,rfl⟩:∃R er,tE=R::er:=by
    cases tE with|nil=>have:=z2.len;simp at this|cons R er=>exact⟨R,er,rfl⟩
   have b3:Ed∈G2++E2:=Eb _ (CB x3);refine⟨_,rfl,r4 ⟨L,_,_,_,rfl,rfl,Ad.of (bh _ _ e0),rfl,_,rfl,r4 ⟨W,_,_,_,rfl,rfl,Ad.of (bh _ _ bB),rfl,Ld,λn0 dY=>?_⟩⟩⟩;obtain⟨aP,e6,O,cq⟩:=new_at (o:=.tup [.str s,.str p,.str "thing",.int 0]) dY;rw[<-e6];refine⟨_,rfl,r6 (r4 ⟨du,_,_,.ref S2,rfl,rfl,Am.of (O _ _ ax),rfl,_,rfl,r4 ⟨S2,_,_,.ref ud,rfl,rfl,Ad.of (O _ _ aq.sc.top),Ck (by rw[AV,x1];rfl),r6 (r4 ⟨ud,_,_,.ref Ed,rfl,rfl,Am.of (O _ _ y1),rfl,Ed,_,_,0,rfl,rfl,O _ _ z1,by rw[Al,EU];exact Jm (by decide) (by lia),?_⟩)⟩⟩)⟩;obtain⟨aC,aE⟩:∃x,x=M.set l (([],(p::B).map λx=>(s,x, "thing",0)):AO):=⟨_,rfl⟩
   have cs:RT DF aP (n0::er) ((p::B).map λx=>(s,x, "thing",0)):=by
    refine⟨by have:=z2.len;simpa using this,λn t r h1 h2=>?_⟩;cases n with|zero=>cases h1;cases h2;exact cq|succ n=>exact O _ _ (z2.at_ (n+1) t r (by simpa using h1) (by simpa using h2))
   have bj:=(aq.sc.same O).eput ck cp x3 (O _ _ z1) cs;rw[<-aE] at bj;rw[show((dX::er).map V.ref).set 0 (V.ref n0)=(n0::er).map V.ref from rfl];have kE:Keeps (·=Ed) aP (upd aP Ed (.lst ((n0::er).map V.ref))):=Keeps.one (O _ _ z1);have bk:Ac aO (upd aP Ed (.lst ((n0::er).map V.ref))):=λan o e=>by rw[Ax λz=>by rw[z,fx Ed b3] at e;cases e];exact O _ _ (bh _ _ e)
   have bG:=kE.tup (O _ _ ax);have bC:=kE.at_ _ _ (O _ _ aq.et) (λz=>(bi Ed b3).2.1 z.symm);have bD:=(aq.tg.same O).keeps kE;have bE:=kE.at_ _ _ (O _ _ aq.er) (λz=>(bi Ed b3).2.2 z.symm);have bF:=(aq.tq.same O).keeps kE;generalize upd aP Ed (.lst ((n0::er).map V.ref))=eS at bj bk bG bC bD bE bF ⊢;clear kE O cs cq bh aq y1 z1 z2;cbv;refine ES (σ':=[some (.ref a),some (.int hd),some (.int (m:Int)),some (.ref W),some (.ref L),some (.ref t),some (.int (J:Int)),some (.bl two),some (.int (l:Int)),some (.ref D),some (.ref Y),v,some (.ref E),S,T,some (.ref nt),some (.ref du),none,none]) rfl ?_;obtain⟨ak,ar⟩:∃x,x=g.map λq=>((q.1,q.2.1,AD (d::B) p q.2.2):Qu):=⟨_,rfl⟩;have dZ:ak.length=g.length:=(by rw[ar,Al]);refine OX b (λσ j=>∃(v:S'),σ=[some (.ref a),some (.int hd),some (.int (m:Int)),some (.ref W),some (.ref L),some (.ref t),some (.int (J:Int)),some (.bl two),some (.int (l:Int)),some (.ref D),some (.ref Y),v,some (.ref E),S,T,some (.ref nt),some (.ref du),none,none]/\Ac aO j/\B9 j du aC [(a',(l:Int))] ak) (λA b=>?_) (λbt hN=>?_);rotate_left
   . refine⟨_,rfl,_,_,rfl,r4 ⟨_,Ad.of (bk _ _ N3.er),rfl⟩,_,rfl,by lia,by rw[Al,N3.tq.len];lia,?_⟩
     rw[Al,N3.tq.len,Ex];refine Mu (lo:=0) (n:=g.length) (λi σ j=>∃(v:S')(xs:E'),σ=[some (.ref a),some (.int hd),some (.int (m:Int)),some (.ref W),some (.ref L),some (.ref t),some (.int (J:Int)),some (.bl two),some (.int (l:Int)),some (.ref D),some (.ref Y),v,some (.ref E),S,T,some (.ref nt),some (.ref du),none,none]/\Ac aO j/\j du=some (.tup [.ref S2,.ref T2,.ref R2])/\Co j S2 T2 R2 u2 G2 E2 [gp] xs aC [(a',(l:Int))] (ak.take i++g.drop i)) ⟨v,G,rfl,bk,bG,⟨bj,bC,bD,bE,by rw[IW,List.drop_zero];exact bF⟩⟩ ?_ ?_;rotate_left;rintro σ ct ⟨v,xs,rfl,U,ax,aQ⟩;rw[List.drop_length,Ft,List.take_of_length_le (by lia)] at aQ;exact hN _ _ ⟨v,rfl,U,S2,T2,R2,u2,G2,E2,[gp],xs,ax,aQ⟩;rintro i σ ct hi ⟨v,xs,rfl,U,ax,aQ⟩;refine Ap ?_;cbv;rw[Int.zero_add];have bl:=AQ hi;have cO:ak[i]?=some ((g[i].1,g[i].2.1,AD (d::B) p g[i].2.2):Qu):=by rw[ar,AV,bl];rfl
     obtain⟨af,_,_,f3,_,f5,f6⟩:=hq _ (CB bl);generalize g[i]=q at bl cO f3 f5 f6;have ae:=AQ (show i<G.length by rw[N3.tq.len];exact hi);obtain⟨pa,k1,k2⟩:=N3.tq.at_ i _ q ae bl;generalize G[i]'(by rw[N3.tq.len];exact hi)=qa at ae k1;have ea:(if two=true then[d,I] else[d])=d::B:=by rw[aF];split<;>rfl
     refine⟨_,rfl,_,rfl,r4 ⟨E,_,_,.ref qa,rfl,rfl,Ad.of (U _ _ N3.er),Ck (by rw[AV,ae];rfl),r6 (r4 ⟨qa,_,_,.int q.1,rfl,rfl,Am.of (U _ _ k1),rfl,_,rfl,_,rfl,r4 ⟨E,_,_,.ref qa,rfl,rfl,Ad.of (U _ _ N3.er),Ck (by rw[AV,ae];rfl),r6 (r4 ⟨qa,_,_,.ref pa,rfl,rfl,Am.of (U _ _ k1),rfl,_,rfl,_,rfl,pa,W,q.2.2,d,I,X,p,two,rfl,U _ _ k2,f5,U _ _ bB,f6,ah.1,ah.2.1,ah.2.2.2.1,λr eb aR cP=>?_⟩)⟩⟩)⟩⟩;rw[ea] at cP;refine⟨Fx,λnq ec=>?_⟩;obtain⟨b4,e7,aS,ed⟩:=new_at (o:=.tup [.int q.1,.int 0,.ref r]) ec;rw[<-e7];have br:=aR.trans aS;have aD:=aQ.same br;have lx:xs.length=g.length:=by rw[aQ.tq.len,BC,DM,IX];lia
     refine⟨_,rfl,r6 (r4 ⟨du,_,_,.ref R2,rfl,rfl,Am.of (br _ _ ax),rfl,_,rfl,R2,_,_,i,rfl,rfl,aD.er,by rw[Al,lx];exact Jm (by lia) (by lia),?_⟩)⟩;have k:Keeps (·=R2) b4 (upd b4 R2 (.lst ((xs.map V.ref).set i (V.ref nq)))):=Keeps.one aD.er;refine⟨_,xs.set i nq,rfl,λan o e=>?_,k.tup (br _ _ ax),⟨aD.sc.keeps k cn λx u=>(bi x u).2.2,k.at_ _ _ aD.et cm,aD.tg.keeps k,by rw[Aa,List.map_set],?_⟩⟩;rw[Ax λz=>by rw[z,cl] at e;cases e];exact br _ _ (U _ _ e);rw[<-YW dZ cO];exact(aD.tq.put (q:=(q.1,q.2.1,AD (d::B) p q.2.2)) (by rw[f3];exact ed) (aS _ _ cP)).keeps k
   rintro σ ct ⟨v,rfl,U,ee⟩;clear bj bG bC bD bE bF bk bi cn dW cm fx cl dV dU ck;refine CV b λA b=>?_;have cu:=N3.same U;refine⟨_,rfl,nt,D,T0,E,us,Gs,Es,[gp],G,M,_,g,rfl,U _ _ b0,cu,by lia,λhn S3 T3 R3 u3 G3 E3 eb aR cv cw _ _ _ _ _ _ _ _ _=>?_⟩;refine Ap ?_;cbv;refine ES (σ':=[some (.ref a),some (.int hd),some (.int (m:Int)),some (.ref W),some (.ref L),some (.ref t),some (.int (J:Int)),some (.bl two),some (.int (l:Int)),some (.ref D),some (.ref Y),v,some (.ref E),S,T,some (.ref nt),some (.ref du),some (.ref hn),none]) rfl ?_;refine CV b λA b=>?_;have bH:=U.trans aR;have cQ:=bH _ _ bB;have cx:=aX d (by simp);have ef:=aX I (by simp);have eT:=aX X (by simp);have b5:=aX p (by simp)
   have c3:p∉d::B:=λz=>by
    rcases Cj.mp z with z|z;exact ah.2.2.1 z.symm;exact ah.2.2.2.2.1 (bo _ z).symm
   have c0:d∉p::B:=λz=>by
    rcases Cj.mp z with z|z;exact ah.2.2.1 z;exact ah.1 (bo _ z)
   have b6:NX (d::B) p g:=λq h cy z=>by
    obtain⟨af,_,_,_,_,_,f6⟩:=hq q h;have hm:q.2.2.getD (Bd (d::B) q.2.2) "" ∈ q.2.2:=(by rw[BZ,AQ cy];exact Di cy);rw[z] at hm;rcases f6 _ hm with e|e|e;exact ah.2.2.1 e.symm;exact ah.2.2.2.2.1 e.symm;exact ah.2.2.2.2.2 e.symm
   have cR:∀x∈B,BA x:=λx u=>by rw[bo x u];exact ef
   have cS:∀q∈g,∀x∈q.2.2,BA x:=λq h x u=>by
    obtain⟨af,_,_,_,_,_,f6⟩:=hq q h;rcases f6 x u with e|e|e<;>rw[e]<;>assumption
   have C2:=au.anew c3;rw[<-aE] at C2;have l2:aC.length=M.length:=(by rw[aE,Dj]);have cz:Fp aC.length ak:=by rw[l2,ar];exact hQ.anew
   have e9:∀(c4:F')(c:Str)(aW:F'),BA c->(∀x∈aW,BA x)->∀x∈AD c4 c aW,BA x:=λc4 c aW h1 h2 x u=>by
    obtain⟨az,hj,rfl⟩:=Bo.mp u;have hj:=List.mem_range.mp hj;unfold C4;split;exact h1;rw[BZ,AQ hj];exact h2 _ (Di hj)
   have eB:∀q∈ak,∀x∈q.2.2,BA x:=λq h=>by
    rw[ar] at h;obtain⟨q0,h0,rfl⟩:=Bo.mp h;exact e9 _ _ _ b5 (cS q0 h0)
   have F1:=T8 au hQ bw bv (λx u=>(Cj.mp u).elim (λe=>e▸cx) (cR x)) cS;have F2:=T8 C2 cz bw bv (λx u=>(Cj.mp u).elim (λe=>e▸b5) (cR x)) eB;refine⟨_,rfl,_,rfl,_,rfl,_,rfl,r4 ⟨W,_,_,.str p,rfl,rfl,Ad.of cQ,rfl,hn,t,C,s,d,p,B,M,_,g,l,rfl,⟨S3,T3,R3,u3,G3,E3,[gp],G,cv,cw⟩,au,cN.same bH,hQ,b5,c3,b6,by rw[<-aE,<-ar];exact F2,λmd b4 aS b7=>?_⟩⟩;rw[<-aE,<-ar] at b7;refine Ap ?_;cbv;refine ES (σ':=[some (.ref a),some (.int hd),some (.int (m:Int)),some (.ref W),some (.ref L),some (.ref t),some (.int (J:Int)),some (.bl two),some (.int (l:Int)),some (.ref D),some (.ref Y),v,some (.ref E),S,T,some (.ref nt),some (.ref du),some (.ref hn),some (.ref md)]) rfl ?_;refine CV b λA b=>?_;have eC:=(ee.same aR).same aS;refine⟨_,rfl,_,rfl,.ref md,.ref du,true,rfl,O2 (G9 F2) b7.dt eC.dt,λc6 c7=>⟨true,rfl,Ar ?_⟩⟩;have bs:=aS.trans c7;have eg:B9 c6 hn M [(a',(l:Int))] g:=B9.same bs ⟨S3,T3,R3,u3,G3,E3,[gp],G,cv,cw⟩;have c8:B9 c6 nt M [(a',(l:Int))] g:=B9.same (aR.trans bs) ⟨D,T0,E,us,Gs,Es,[gp],G,U _ _ b0,cu⟩;refine⟨_,rfl,_,rfl,6,Fn M [(a',(l:Int))] g,Fn M [(a',(l:Int))] g,Iu _ _ _ _ _ _,by decide,eg.dt,c8.dt,_,rfl,?_⟩;rw[ED rfl];refine Ar ?_;refine Ds ?_;cbv;refine Ri b ?_
   have eA:NX (p::B) d ak:=λq h=>by
    rw[ar] at h;obtain⟨q0,h0,rfl⟩:=Bo.mp h;exact II (b6 q0 h0) c3
   have cT:aC.set l (([],(d::B).map λx=>(s,x, "thing",0)):AO)=M:=(by rw[aE,List.set_set];refine v5 λaz=>?_;by_cases e:l=az;subst e;rw[w4 au.hl];exact au.la.symm;rw[u8 e])
   have cU:(ak.map λq=>((q.1,q.2.1,AD (p::B) d q.2.2):Qu))=g:=by
    rw[ar,DI]
    conv=>rhs;rw[<-List.map_id g]
    exact List.map_congr_left λq h=>by
     show((q.1,q.2.1,AD (p::B) d (AD (d::B) p q.2.2)):Qu)=q;rw[Wq c0 c3 (b6 q h)]
   refine⟨_,rfl,_,rfl,_,rfl,_,rfl,r4 ⟨W,_,_,.str d,rfl,rfl,Ad.of (bs _ _ cQ),rfl,md,t,C,s,p,d,B,aC,_,ak,l,rfl,b7.same c7,C2,cN.same (bH.trans bs),cz,cx,c0,eA,by rw[cT,cU];exact F1,λm2 eU eh c9=>?_⟩⟩;rw[cT,cU] at c9;exact⟨_,rfl,.ref m2,.ref nt,true,rfl,O2 (G9 F1) c9.dt (c8.same eh).dt,λeV eX=>kq _⟩
abbrev Oh(P w K mg base):=AU P w K mg base "law" 10 ["_law_script"] (Og K)
def Oi(B:A0 mg)(a:A1 K mg)(e:Pb P w K mg base)(g:Pe P w K mg base)(h:Pl P w K mg base)(d:Oa P w K mg base)(i:Po P w K mg base)(j:Pp P w K mg base)(k:Pq P w K mg base)(l:PH P w K mg base)(m:PK P w K mg base)(F:AW K "law" "law" Gj f fd)(b:mg "law" = some (.ref f)):Oh P w K mg base:=
 ⟨f,fd,He B a e g h d i j k l m F,b,F.kp,F.binds λ_ _ _ _ _ _ us c=>(by obtain⟨n,rfl⟩:=Ha c;rfl)⟩
end
def all_mk{l:PySem.W.OpenLaw}{w:World}{K:Ah}{h:Heap}{a:Str->I'}{i:Addr}(X:K.In h)(G:h.Ns mainGlobals a)(aa:a "law" = some (.ref i))(q:Fu K)
 : ∃j:FuncData,(∀(s:Shared)(v:Value),BindsTo s j ⟨[v],[]⟩ [("_law_script",v)])/\∀b:Heap,K.In b->b.Ns mainGlobals a->Cm l.prog w K a b E8 10 i j ["_law_script"] (Og K):=by
 obtain @⟨f0,gl,gm,gn,gp,gq,gr,gs,gu,gv,gj,gw,gx,gy,gz,g0,g4,g5,g6,g7,gk,g8,g9,gA,gB,gC,gD,gE,gF,gG,f3,gH,gI,gJ,gK,gL,gM,gN,gO,gP,f4,gQ,gR,gS,gT,gU,gV,gW,gX,gY,f5,gZ,ha,hb,hc,he,hf,hg,hh,hi,f6,hj,hk,hl,hm,hn,ho,hp,hq,hr,f7,hs,ht,hu,hv,hw,hx,hy,hz,h0,f8,h1,h2,h3,h4,h5,h6,h7,h8,h9,f9,hA,hB,hC,hD,hE,hF,hG,hH,hI,hJ,iH,iI,iJ,iK,iL,iM,iN,iO,iP,hK,iQ,iR,iS,iT,iU,iV,iW,iX,iY,hL,iZ,ja,jb,jc,jd,je,jf,jg,jh,hM,ji,jj,jk,jl,jm,jn,jo,jq,jr,hN,js,jt,ju,jv,jw,jx,jy,jz,j0,hO,j1,j2,j3,j4,j5,j6,j7,j8,j9,hP,jA,jB,jC,jD,jE,jF,jG,jH,jI,hQ,jJ,jK,jL,jM,jN,jO,jP,jQ,jR,hR,jS,jT,jU,jV,jW,jX,jY,jZ,ka,hS,kb,kc,kd,ke,kf,kg,kh,ki,kj,hT,kk,kl,km,kn,ko,kp,kq,kr,ks,hU,kt,ku,kv,kw,kx,ky,kz,k0,k1,hV,k2,k3,k4,k5,kA,kB,kC,kD,kE,hW,kF,kG,kH,kI,kJ,kK,kL,kM,kN,hX,kO,kP,kQ,kR,kS,kT,kU,kV,kW,hY,kX,kY,kZ,la,lb,lc,lg,lh,li,hZ,lj,ll,lm,ln,lp,lq,lr,ls,lu,ia,lv,lw,lx,ly,lz,l0,l1,l2,l3,ib,l4,l5,l6,lA,lB,lC,lD,lE,lF,ic,lG,lH,lI,lJ,lK,lL,lM,lN,lO,ie,lP,lQ,lR,lS,lT,lU,lV,lW,lX,ig,lY,lZ,ma,mb,mc,md,me,mf,mg,ih,mh,mi,mj,ml,mm,mn,mo,mq,mr,ij,ms,mu,mv,mw,mx,my,mz,m0,m1,ik,m2,m3,m4,m5,m6,m7,m8,m9,mA,il,mB,mC,mD,mE,mF,mG,mH,mI,mJ,im,mK,mL,mM,mN,mO,mP,mQ,mR,mS,ip,mT,mU,mV,mW,mX,mY,mZ,na,nb,iq,nc,nd,nf,ng,nh,ni,nj,nk,nm,ir,nn,nq,nr,ns,nt,nu,nv,nw,nx,it,ny,nz,n0,n1,n2,n3,n4,n5,n6,iu,n7,n8,n9,nA,nB,nC,nD,nE,nF,iv,nG,nH,nI,nJ,nK,nL,nM,nN,nO,iw,nP,nQ,nR,nS,nT,nU,nV,nW,nX,ix,nY,nZ,oa,ob,oc,od,oe,og,oh,iy,oi,oj,om,oo,oq,ot,ou,ov,ow,iz,ox,oy,oz,o0,o1,o2,o3,o4,o5,i0,o6,o7,o8,o9,oA,oB,oC,oD,oE,i1,oF,oG,oH,oI,oJ,oK,oL,oM,oN,i2,oO,oP,oQ,oR,oS,oT,oU,oV,oW,i3,oX,oY,oZ,pa,pb,pc,pd,pe,pf,i4,pg,ph,pj,pk,pl,pn,pp,pq,pr,i5,ps,pt,pu,pv,pw,px,pz,p0,p1,i6,p2,p3,p4,p5,p6,p7,p8,p9,pA,i7,pB,pC,pD,pE,pF,pG,pH,pI,pJ,i8,pK,pL,pM,pN,pO,pP,pQ,pR,pS,i9,pT,pU,pV,pW,pX,pY,pZ,qa,qb,iA,qc,qd,qe,qf,qg,qh,qi,qj,qk,iB,ql,qm,qn,qo,qp,qq,qr,qs,qt,iC,qu,qv,qw,qx,qy,qz,q0,q1,q2,iD,q3,q4,q5,q6,q7,q8,q9,qA,qB,iE,qC,e9,qD,qE,eA,eB,eC,eD,eE,qM,qN,qQ,qF,qG,qH,qP,qJ,qK,qI,qO,qL,u,x,y,z,A,C,D,E,F,H,I,J,L,M,N,O,P,Q,R,S,T,U,V,W,Y,Z,c6,k6,a7,l7,c7,k7,a8,l8,c8,k8,a9,l9,c9,k9,ab,ae,af,ag,ah,ai,aj,ak,al,an,ao,aq,ar,au,av,aw,ax,ay,az,a0,a1,a2,a3,a4,a5,a6,aA,aB,aC,aD,aE,aF,aG,aH,aI,aJ,aK,aL,aM,aN,aO,aP,aQ,aR,aS,aT,aU,aV,aW,aX,aY,aZ,ba,bb,bc,bd,be,bf,bg,bh,bi,bj,bk,bl,bm,bn,bo,bp,bq,br,bs,bt,bu,bv,bw,bx,bz,b0,b1,b2,b3,b4,b5,b6,b7,b8,b9,bA,bB,bC,bD,bE,bF,bG,bH,bI,bJ,bK,bL,bM,bN,bO,bP,bQ,bR,bS,bT,bU,bV,bW,bX,bY,bZ,ca,cb,cc,cd,cf,cg,ch,cj,ck,cl,cm,cn,cp,cq,cs,ct,cu,cv,cw,cx,cy,cz,c0,c1,c2,c3,c4,c5,cA,cB,cC,cD,cE,cF,cG,cH,cI,cJ,cK,cL,cM,cN,cO,cP,cQ,cR,cS,cT,cU,cV,cW,cX,cY,cZ,da,db,dc,dd,de,df,dg,dh,di,dj,dk,dm,dn,dp,dq,dr,ds,dt,du,dv,dw,dx,dy,dz,d0,d1,d2,d3,d4,d5,d6,d7,d8,d9,dA,dB,dC,dD,dE,dF,dG,fG,fH,fO,fP,fU,fI,fX,fJ,fQ,fK,fR,fL,fT,fM,fS,fN,gd,gf,gi,fV,fW,fY,gh,ga,gb,fZ,gg,gc,iF,iG⟩:=q;have e:=aa.symm.trans (PySem.W.mg_of X G dD);cases e;have B:A0 a:=⟨E4 X G fG,E4 X G fH,E4 X G fO,E4 X G fP,E4 X G fU,E4 X G fI,E4 X G fX,E4 X G fJ,E4 X G fQ,E4 X G fK,E4 X G fR,E4 X G fL,E4 X G fT,E4 X G fM,E4 X G fS,E4 X G fN,⟨_,PySem.W.mg_of X G gd⟩,⟨_,PySem.W.mg_of X G gf⟩,⟨_,PySem.W.mg_of X G gi⟩,⟨_,PySem.W.mg_of X G fV⟩,⟨_,PySem.W.mg_of X G fW⟩,⟨_,PySem.W.mg_of X G fY⟩,⟨_,PySem.W.mg_of X G gh⟩,⟨_,PySem.W.mg_of X G ga⟩,⟨_,PySem.W.mg_of X G gb⟩,⟨_,PySem.W.mg_of X G fZ⟩,⟨_,PySem.W.mg_of X G gg⟩,⟨_,PySem.W.mg_of X G gc⟩⟩;have c:A1 K a:=⟨⟩;have F0:=Bc (st:=LN) x y z;have F1:=Bc (st:=LO) C D E;have F2:=Bc (st:=LP) H I J;have F3:=Bc (st:=JB) M N O;have F4:=Bc (st:=JC) Q R S;have F5:=Bc (st:=LQ) U V W;have F6:=Bc (st:=JD) Z c6 k6;have F7:=Bc (st:=JE) l7 c7 k7;have F8:=Bc (st:=LR) l8 c8 k8;have F9:=Bc (st:=LS) l9 c9 k9;have dH:=Bc (st:=JF) ae af ag;have dI:=Bc (st:=LU) ai aj ak;have dJ:=Bc (st:=LV) an ao aq;have dK:=Bc (st:=LW) au av aw;have dL:=Bc (st:=LX) ay az a0;have dM:=Bc (st:=LY) a2 a3 a4;have dN:=Bc (st:=LZ) a6 aA aB;have dO:=Bc (st:=JG) aD aE aF;have dP:=Bc (st:=JH) aH aI aJ;have dQ:=Bc (st:=L0) aL aM aN;have dR:=Bc (st:=JI) aP aQ aR;have dS:=Bc (st:=L3) aT aU aV;have dT:=Bc (st:=L4) aX aY aZ;have dU:=Bc (st:=L5) bb bc bd;have dV:=Bc (st:=L6) bf bg bh;have dW:=Bc (st:=L7) bj bk bl;have dX:=Bc (st:=JJ) bn bo bp;have dY:=Bc (st:=L8) br bs bt;have dZ:=Bc (st:=L9) bv bw bx;have ea:=Bc (st:=Ma) b0 b1 b2;have eb:=Bc (st:=JK) b4 b5 b6;have ec:=Bc (st:=Mb) b8 b9 bA;have ed:=Bc (st:=Mc) bC bD bE;have ee:=Bc (st:=Md) bG bH bI;have ef:=Bc (st:=JL) bK bL bM;have eg:=Bc (st:=Me) bO bP bQ;have eh:=Bc (st:=Mf) bS bT bU;have ei:=Bc (st:=Mg) bW bX bY;have ej:=Bc (st:=Mh) ca cb cc;have ek:=Bc (st:=Mi) cf cg ch;have el:=Bc (st:=Hy) ck cl cm;have en:=Bc (st:=Mj) cp cq cs;have eo:=Bc (st:=Mk) cu cv cw;have ep:=Bc (st:=Ml) cy cz c0;have er:=Bc (st:=Mm) c2 c3 c4;have es:=Bc (st:=Mn) cA cB cC;have et:=Bc (st:=Hz) cE cF cG;have eu:=Bc (st:=Mo) cI cJ cK;have ev:=Bc (st:=JM) cM cN cO;have ew:=Bc (st:=JN) cQ cR cS;have ex:=Bc (st:=JO) cU cV cW;have ey:=Bc (st:=Mp) cY cZ da;have ez:=Bc (st:=JP) dc dd de;have e0:=Bc (st:=Mq) dg dh di;have e1:=Bc (st:=JQ) dk dm dn;have e2:=Bc (st:=Mr) dq dr ds;have e3:=Bc (st:=JR) du dv dw;have e4:=Bc (st:=JS) dy dz d0;have e5:=Bc (st:=IZ) d2 d3 d4;have e6:=Bc (st:=Ms) d6 d7 d8;have e7:=Bc (st:=HA) dA dB dC;have e8:=Bc (st:=Gj) dE dF dG;refine⟨PySem.W.fnOf "law" "law" (A4 Gj) (A2 Gj) (As Gj) .none eA eB eC e9 eD eE,λs v=>.of_eq rfl,λb _ _=>?_⟩;have eF:Pb l.prog w K a b:=WO B c F0 (PySem.W.mg_of X G u);have k:Oa l.prog w K a b:=WQ B c F1 (PySem.W.mg_of X G A);have eG:Pe l.prog w K a b:=WS B c k F2 (PySem.W.mg_of X G F);have eH:AU l.prog w K a b "refuse_too_great_tables" 1 ["states", "pairs"] (Pf K):=WU B c F3 (PySem.W.mg_of X G L);have m:Pg l.prog w K a b:=WW B c F4 (PySem.W.mg_of X G P);have eI:Ph l.prog w K a b:=WY B c m F5 (PySem.W.mg_of X G T);have f:LH l.prog w K a b:=W0 B c F6 (PySem.W.mg_of X G Y);have eJ:AU l.prog w K a b "refuse_no_names_tables" 3 ["states", "pairs"] (Pj K):=W2 B c eI f F7 (PySem.W.mg_of X G a7);have n:Oc l.prog w K a b:=W4 B c F8 (PySem.W.mg_of X G a8);have d:Jw l.prog w K a b:=W6 B c n F9 (PySem.W.mg_of X G a9);have eK:AU l.prog w K a b "refuse_no_places_tables" 3 ["states", "inner"] (Pk K):=W8 B c d dH (PySem.W.mg_of X G ab);have eL:Rq l.prog w K a b:=Xa B c dI (PySem.W.mg_of X G ah);have eM:Rr l.prog w K a b:=Xc B c eL m dJ (PySem.W.mg_of X G al);have eN:Rs l.prog w K a b:=Xe B c dK (PySem.W.mg_of X G ar);have eO:Rt l.prog w K a b:=Xg B c dL (PySem.W.mg_of X G ax);have eP:Ru l.prog w K a b:=Xi B c eN eO dM (PySem.W.mg_of X G a1);have eQ:Rv l.prog w K a b:=Xk B c eP dN (PySem.W.mg_of X G a5);have eR:Rw l.prog w K a b:=Xm B c dO (PySem.W.mg_of X G aC);have eS:Pl l.prog w K a b:=Xo B c eH eJ eK eM eQ eR dP (PySem.W.mg_of X G aG);have eT:Po l.prog w K a b:=Xq B c dQ (PySem.W.mg_of X G aK);have eU:Pp l.prog w K a b:=Xs B c dR (PySem.W.mg_of X G aO);have eV:Pq l.prog w K a b:=Xw B c dS (PySem.W.mg_of X G aS);have eW:Rx l.prog w K a b:=Xy B c d dT (PySem.W.mg_of X G aW);have eX:Ry l.prog w K a b:=XA B c dU (PySem.W.mg_of X G ba);have eY:Rz l.prog w K a b:=XB B c dV (PySem.W.mg_of X G be);have o:Pr l.prog w K a b:=XD B c eX eY dW (PySem.W.mg_of X G bi);have eZ:RA l.prog w K a b:=XF B c o dX (PySem.W.mg_of X G bm);have fa:RB l.prog w K a b:=XH B c eZ dY (PySem.W.mg_of X G bq);have fb:RC l.prog w K a b:=XJ B c dZ (PySem.W.mg_of X G bu);have fc:RD l.prog w K a b:=XN B c fb ea (PySem.W.mg_of X G bz);have p:Ps l.prog w K a b:=XQ B c eb (PySem.W.mg_of X G b3);have r:Pt l.prog w K a b:=XS B c ec (PySem.W.mg_of X G b7);have fe:RE l.prog w K a b:=XV B c ed (PySem.W.mg_of X G bB);have ff:RF l.prog w K a b:=XX B c fe ee (PySem.W.mg_of X G bF);have fg:RG l.prog w K a b:=XZ B c p r ff ef (PySem.W.mg_of X G bJ);have fh:RH l.prog w K a b:=X1 B c fc fg eg (PySem.W.mg_of X G bN);have fi:RI l.prog w K a b:=X3 B c p r eh (PySem.W.mg_of X G bR);have t:Pu l.prog w K a b:=X5 B c ei (PySem.W.mg_of X G bV);have fj:RJ l.prog w K a b:=X7 B c t ej (PySem.W.mg_of X G bZ);have fk:RK l.prog w K a b:=X9 B c t ek (PySem.W.mg_of X G cd);have fl:Hc l.prog w K a b:=Yb B c fi fj fk el (PySem.W.mg_of X G cj);have fm:RL l.prog w K a b:=Yd B c o en (PySem.W.mg_of X G cn);have fo:RM l.prog w K a b:=Yg B c eo (PySem.W.mg_of X G ct);have g:Oe l.prog w K a b:=Yi B c fa fh fl fm fo ep (PySem.W.mg_of X G cx);have fp:RN l.prog w K a b:=Yk B c g er (PySem.W.mg_of X G c1);have fq:RO l.prog w K a b:=Ym B c g es (PySem.W.mg_of X G c5);have fr:RP l.prog w K a b:=Yp B c fp fq et (PySem.W.mg_of X G cD);have fs:RQ l.prog w K a b:=Yr B c fr eu (PySem.W.mg_of X G cH);have ft:RS l.prog w K a b:=Yt B c g ev (PySem.W.mg_of X G cL);have fu:RU l.prog w K a b:=Yv B c ft ew (PySem.W.mg_of X G cP);have fv:RV l.prog w K a b:=Yx B c ex (PySem.W.mg_of X G cT);have fw:Pw l.prog w K a b:=Yz B c ey (PySem.W.mg_of X G cX);have fx:AU l.prog w K a b "refuse_too_great_nets" 2 ["scopes", "things", "questions"] (Px K):=YB B c fw ez (PySem.W.mg_of X G db);have fy:Py l.prog w K a b:=YD B c e0 (PySem.W.mg_of X G df);have fz:AU l.prog w K a b "refuse_no_names_nets" 2 ["scopes", "questions"] (Pz K):=YF B c fy f e1 (PySem.W.mg_of X G dj);have fA:PB l.prog w K a b:=YH B c d e2 (PySem.W.mg_of X G dp);have fB:AU l.prog w K a b "refuse_no_places_nets" 4 ["scopes", "things", "questions"] (PD K):=YK B c fA d n e3 (PySem.W.mg_of X G dt);have fC:RW l.prog w K a b:=YM B c fx fz fB e4 (PySem.W.mg_of X G dx);have fD:RX l.prog w K a b:=YO B c fv fC e5 (PySem.W.mg_of X G d1);have fE:PH l.prog w K a b:=YR B c eW f fs fu fD e6 (PySem.W.mg_of X G d5);have fF:PK l.prog w K a b:=YV B c e7 (PySem.W.mg_of X G d9);exact He B c eF eG eS k eT eU eV fE fF e8
def walk{l:PySem.W.OpenLaw}{q:Program}{loose:F'}{XP:(Str->I')->Heap->Prop}{YP:World->Heap->Prop}{d:DefRec}{K:Params->Ah}(i:l.most=some 63)(r:d.params.defaults=[])
 (j:∀(w:World)(h:Heap),YP w h->(K w.params).In h)
 (F:∀(w:World)(b:Str->I')(e:Addr)(h:Heap),(K w.params).In h->h.Ns mainGlobals b->b d.name=some (.ref e) ->
  ∃g:FuncData,(∀(s:Shared)(u:Value),BindsTo s g ⟨[u],[]⟩ [("_law_script",u)])/\∀c:Heap,(K w.params).In c->c.Ns mainGlobals b->Cm l.prog w (K w.params) b c E8 10 e g ["_law_script"] (Og (K w.params))) :
 PySem.W.WalkO q loose XP YP l.row.toRowW d [] (λf vs=>PySem.call f vs):=
 L2.Ib (n:=63) (k:=10) (x:= "_law_script") (CX:=λ_=>E8) (sp:=λw=>Og (K w.params)) i (by decide) r ⟨rfl,by decide,by decide,rfl⟩ j F (λ_ _ a m o _ p=>⟨a,m,rfl,p,o,λ_=>rfl⟩) λ_ _ _ _ _ z=>z
end K69
open PySem PySem.W PyProof.Rows in
theorem PySem.Challenge.cw_namepaths_k69_named_anew_along_a_row_holds : PySem.Challenge.rw_namepaths_k69_named_anew_along_a_row.Holds :=
 K69.hd λK q YP d h1 h2 hY=>K69.walk (l:=PySem.Challenge.rw_namepaths_k69_named_anew_along_a_row) rfl h1 hY λw mg fa h X G hm=>K69.all_mk X G (h2▸hm) (q w)
