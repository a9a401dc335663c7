import PyProof.Rows.All
import Wide.All
import OpenK.AllK
import Wide.FinOn
import Lean
import PyProof.EqAt
import PyProof.EqKinds
import PyProof.TupleCall
import PySem.Challenge.RW_namepaths_k09_long_chains
set_option Elab.async false
set_option linter.all false
set_option maxRecDepth 100000
set_option maxHeartbeats 1000000
set_option Elab.async false
set_option linter.all false
set_option maxRecDepth 100000
namespace L2
open PySem PySem.Spec PyProof.Rows
abbrev Key:=Sum Int Str
def keyIs:Key→Value→Bool
 | .inl k,v=>Value.isInt k v
 | .inr x,v=>Value.isStrOf x v
def keyH (w:World):Key→Int
 | .inl k=>hashInt k
 | .inr x=>hashStr w x
theorem keyIs_shape:∀ {k:Key} {v:Value},keyIs k v=true→(∃ i t,k=Sum.inl i∧v=Value.int i t)∨(∃ x t,k=Sum.inr x∧v=Value.str x t)
 | .inl i,v,h=>by
   obtain ⟨t,e⟩:=Value.isInt_shape (k:=i) (v:=v) h
   exact .inl ⟨i,t,rfl,e⟩
 | .inr x,v,h=>by
   obtain ⟨t,e⟩:=Value.isStrOf_shape (x:=x) (v:=v) h
   exact .inr ⟨x,t,rfl,e⟩
theorem keyIs_int (i:Int) (t:Tok):keyIs (.inl i) (.int i t)=true:=by simp [keyIs,Value.isInt]
theorem keyIs_str (x:Str) (t:Tok):keyIs (.inr x) (.str x t)=true:=by simp [keyIs,Value.isStrOf]
theorem key_ll (a b:Int):decide ((Sum.inl a:Key)=Sum.inl b)=(a == b):=by
 by_cases e:a=b
 · subst e; simp
 · have h:¬ (Sum.inl a:Key)=Sum.inl b:=fun q=>e (Sum.inl.inj q)
   rw [decide_eq_false h]
   exact (beq_eq_false_iff_ne.mpr e).symm
theorem key_rr (a b:Str):decide ((Sum.inr a:Key)=Sum.inr b)=decide (a=b):=by
 by_cases e:a=b
 · subst e; simp
 · have h:¬ (Sum.inr a:Key)=Sum.inr b:=fun q=>e (Sum.inr.inj q)
   rw [decide_eq_false h,decide_eq_false e]
theorem key_lr (a:Int) (b:Str):decide ((Sum.inl a:Key)=Sum.inr b)=false:=decide_eq_false (fun q=>nomatch q)
theorem key_rl (a:Str) (b:Int):decide ((Sum.inr a:Key)=Sum.inl b)=false:=decide_eq_false (fun q=>nomatch q)
def mixKind (prog : Program) (w : World) : PySem.KeyKind prog w Key where
 is:=keyIs
 hash:=keyH w
 inj:=fun v a b ha hb=>by
  rcases keyIs_shape ha with ⟨i,t,rfl,rfl⟩ | ⟨x,t,rfl,rfl⟩
  · rcases keyIs_shape hb with ⟨j,u,rfl,e⟩ | ⟨y,u,rfl,e⟩
    · injection e with e1 _; rw [e1]
    · exact nomatch e
  · rcases keyIs_shape hb with ⟨j,u,rfl,e⟩ | ⟨y,u,rfl,e⟩
    · exact nomatch e
    · injection e with e1 _; rw [e1]
 byValue:=fun k v h=>by
  rcases keyIs_shape h with ⟨i,t,rfl,rfl⟩ | ⟨x,t,rfl,rfl⟩ <;> rfl
 pyHash:=fun hv h=>by
  rcases keyIs_shape hv with ⟨i,t,rfl,rfl⟩ | ⟨x,t,rfl,rfl⟩
  · exact wpAny_pyHash_int h
  · exact wpAny_pyHash_str h
 eqBool:=fun hu hv h=>by
  rcases keyIs_shape hu with ⟨i,t,rfl,rfl⟩ | ⟨x,t,rfl,rfl⟩
  · rcases keyIs_shape hv with ⟨j,u,rfl,rfl⟩ | ⟨y,u,rfl,rfl⟩
    · rw [key_ll] at h; exact wpAny_eqBool_int h
    · rw [key_lr] at h; exact SeqAt.EqAt.int_str i t y u _ _ _ _ h
  · rcases keyIs_shape hv with ⟨j,u,rfl,rfl⟩ | ⟨y,u,rfl,rfl⟩
    · rw [key_rl] at h; exact SeqAt.EqAt.str_int x t j u _ _ _ _ h
    · rw [key_rr] at h; exact wpAny_eqBool_str h
 «strs»:=fun k x t v h=>by
  rcases keyIs_shape h with ⟨i,u,rfl,e⟩ | ⟨y,u,rfl,e⟩
  · exact nomatch e
  · injection e with e1 _
    subst e1
    cases v <;> rfl
theorem mixKind_int (prog:Program) (w:World) (i:Int) (t:Tok):(mixKind prog w).is (.inl i) (.int i t)=true:=keyIs_int i t
theorem mixKind_str (prog:Program) (w:World) (x:Str) (t:Tok):(mixKind prog w).is (.inr x) (.str x t)=true:=keyIs_str x t
end L2
namespace L2
open PySem PySem.Spec PyProof.Rows
inductive V where
 | non | bl (b:Bool) | int (i:Int) | str (x:Str) | byt (b:Array UInt8) | flt (b:UInt64) | ref (a:Addr) | ty (n:String)
 deriving DecidableEq
def RelV:V→Value→Prop
 | .non,u=>u=Value.none
 | .bl b,u=>u=Value.bool b
 | .int i,u=>∃ t,u=Value.int i t
 | .str x,u=>∃ t,u=Value.str x t
 | .byt b,u=>∃ t,u=Value.bytes b t
 | .flt b,u=>∃ t,u=Value.float b t
 | .ref a,u=>u=Value.ref a
 | .ty n,u=>u=Value.type n
abbrev Vals:List V→List Value→Prop:=Paired RelV
theorem Vals.length {xs:List V} {us:List Value} (r:Vals xs us):xs.length=us.length:=Paired.length r
theorem Vals.get:∀ {xs:List V} {us:List Value} {i:Nat} {x:V},Vals xs us→xs[i]?=some x→∃ u,us[i]?=some u∧RelV x u
 | _,_,_,_,.nil,e=>by simp at e
 | _,_,0,_,.cons r _,e=>by simp at e; subst e; exact ⟨_,rfl,r⟩
 | _,_,i + 1,x,.cons _ t,e=>by
   obtain ⟨u,h1,h2⟩:=Vals.get (i:=i) (x:=x) t (by simpa using e)
   exact ⟨u,by simpa using h1,h2⟩
theorem Vals.append:∀ {xs ys:List V} {us ws:List Value},Vals xs us→Vals ys ws→Vals (xs++ys) (us++ws)
 | _,_,_,_,.nil,s=>s
 | _,_,_,_,.cons r t,s=>.cons r (Vals.append t s)
theorem Vals.take:∀ {xs:List V} {us:List Value} (n:Nat),Vals xs us→Vals (xs.take n) (us.take n)
 | _,_,0,_=>.nil
 | _,_,_ + 1,.nil=>.nil
 | _,_,n + 1,.cons r t=>.cons r (Vals.take n t)
theorem Vals.drop:∀ {xs:List V} {us:List Value} (n:Nat),Vals xs us→Vals (xs.drop n) (us.drop n)
 | _,_,0,r=>r
 | _,_,_ + 1,.nil=>.nil
 | _,_,n + 1,.cons _ t=>Vals.drop n t
def RelO:Option V→Option Value→Prop
 | some v,some u=>RelV v u
 | none,none=>True
 | _,_=>False
def KV {κ:Type}:List (κ × V)→List (κ × Value)→Prop:=Paired fun (p:κ × V) (q:κ × Value)=>p.1=q.1∧RelV p.2 q.2
def kV:Key→V
 | .inl i=>.int i
 | .inr x=>.str x
inductive HO where
 | lst (xs:List V)
 | tup (xs:List V)
 | dK (kvs:List (Key × V)) | dT (kvs:List (List Key × V))
 | set (S:Int→Bool) (n:Nat)
 | ins (C dx:Addr) (fs:List (Str × V))
 | own (x:Addr)
 | xd (fs:List (Str × V))
 | met (f x:Addr)
 | rng (lo hi:Int)
 | frz (o:Obj) (u:HO)
 | tbl (ps:Array Value)
 | ext (φ:Heap→Prop)
abbrev Hp:=Addr→Option HO
def upd (H:Hp) (a:Addr) (o:HO):Hp:=fun b=>if b=a then some o else H b
theorem upd_same {H:Hp} {a:Addr} {o:HO}:upd H a o a=some o:=by unfold upd; rw [if_pos rfl]
theorem upd_ne {H:Hp} {a b:Addr} {o:HO} (h:b≠a):upd H a o b=H b:=by unfold upd; rw [if_neg h]
theorem upd_upd {H:Hp} {a:Addr} {o u:HO}:upd (upd H a o) a u=upd H a u:=by
 funext b; unfold upd; split <;> rfl
theorem ne_of {H:Hp} {a b:Addr} {o u:HO} (h:H a=some o) (h':H b=some u) (d:o≠u):a≠b:=by
 intro e; subst e; rw [h] at h'; exact d (Option.some.inj h')
theorem ne_of_none {H:Hp} {a b:Addr} {o:HO} (h:H a=some o) (h':H b=none):a≠b:=by
 intro e; subst e; rw [h] at h'; cases h'
section
variable (P:Program) (w:World)
def ObjOk (H:Hp) (h:Heap) (a:Addr):HO→Prop
 | .lst xs=>xs.length≤sizeLine∧∃ (its:List Value) (n:Nat),Vals xs its∧h.get? a=some { cls:=.type "list",data:=.seq its.toArray n }
 | .tup xs=>xs.length≤sizeLine∧∃ its:List Value,Vals xs its∧IsTup h a its.toArray
 | .dK kvs=>kvs.length≤sizeLine∧(a == sysModules)=false∧∃ vs,KV kvs vs∧h.DictOf (mixKind P w) a vs
 | .dT kvs=>kvs.length≤sizeLine∧(a == sysModules)=false∧∃ xs:List (List Key × Addr × Value),
  Paired (fun (p:List Key × V) (q:List Key × Addr × Value)=>p.1=q.1∧H q.2.1=some (.tup (p.1.map kV))∧RelV p.2 q.2.2) kvs xs ∧
  ∃ o es ep,h.get? a=some o∧o.ExactDict∧o.data=.dict es ep∧es.toList=xs.map (entryOfKey (tupleKind (mixKind P w)))∧(xs.map (·.1)).Nodup
 | .set S n=>h.SetOf (intKind P w) a S n
 | .ins C dx fs=>H dx=some (.own a)∧fs.length≤1000∧dx≠a∧h.get? a=some (PySem.W.instObj C dx) ∧
  ∃ mA,h.Ns1 dx mA∧(∀ f,RelO (fs.lookup f) (mA f))∧PySem.Within mA (fs.map (·.1))
 | .own _=>∃ o,h.get? a=some o
 | .xd fs=>∃ mA,h.Ns1 a mA∧∀ f,RelO (fs.lookup f) (mA f)
 | .rng lo hi=>∃ t u v,h.get? a=some { cls:=.type "range",data:=.fields #[.int lo t,.int hi u,.int 1 v] }
 | .frz o u=>h.get? a=some o∧ObjOk H h a u
 | .tbl ps=>h.get? a=some { cls:=.none,data:=.fields ps }
 | .met f x=>h.get? a=some (PySem.W.methodObj (.ref f) (.ref x))
 | .ext φ=>φ h∧(∃ o,h.get? a=some o)∧∀ h1 h2:Heap,φ h1→(∀ o,h1.get? a=some o→h2.get? a=some o)→φ h2
def HOk (H:Hp) (h:Heap):Prop:=∀ a o,H a=some o→ObjOk P w H h a o
end
section
variable {P:Program} {w:World} {H H':Hp} {h h':Heap} {a:Addr} {o:HO}
theorem ObjOk.lt (x:ObjOk P w H h a o):a < h.objs.size:=by
 cases o with
 | lst xs=>obtain ⟨_,_,_,_,e⟩:=x; exact Heap.lt_size e
 | tup xs=>obtain ⟨_,_,_,p⟩:=x; exact p.lt
 | dK kvs=>obtain ⟨_,_,_,_,o,_,_,e,_⟩:=x; exact Heap.lt_size e
 | dT kvs=>obtain ⟨_,_,_,_,o,_,_,e,_⟩:=x; exact Heap.lt_size e
 | set S n=>obtain ⟨o,_,_,_,e,_⟩:=x; exact Heap.lt_size e
 | ins C dx fs=>obtain ⟨_,_,_,e,_⟩:=x; exact Heap.lt_size e
 | own y=>obtain ⟨_,e⟩:=x; exact Heap.lt_size e
 | xd fs=>obtain ⟨_,⟨_,_,_,e,_⟩,_⟩:=x; exact Heap.lt_size e
 | rng lo hi=>obtain ⟨_,_,_,e⟩:=x; exact Heap.lt_size e
 | frz ob u=>obtain ⟨e,_⟩:=x; exact Heap.lt_size e
 | tbl ps=>exact Heap.lt_size (show h.get? a=some _ from x)
 | met f y=>exact Heap.lt_size (show h.get? a=some _ from x)
 | ext φ=>obtain ⟨_,⟨_,e⟩,_⟩:=x; exact Heap.lt_size e
theorem Paired.mapP {α β:Type} {F G:α→β→Prop}:∀ {l₁:List α} {l₂:List β},Paired F l₁ l₂→(∀ a b,F a b→G a b)→Paired G l₁ l₂
 | _,_,.nil,_=>.nil
 | _,_,.cons r t,f=>.cons (f _ _ r) (Paired.mapP t f)
theorem ObjOk.stay (x:ObjOk P w H h a o) (k:∀ b u,(b=a∨H b=some (.own a))→h.get? b=some u→h'.get? b=some u)
 (ho:∀ b,H b=some (.own a)→H' b=some (.own a)) (ht:∀ b xs,H b=some (.tup xs)→H' b=some (.tup xs)):ObjOk P w H' h' a o:=by
 induction o with
 | lst xs=>obtain ⟨z,its,n,r,e⟩:=x; exact ⟨z,its,n,r,k _ _ (.inl rfl) e⟩
 | tup xs=>obtain ⟨z,its,r,ob,e,c⟩:=x; exact ⟨z,its,r,ob,k _ _ (.inl rfl) e,c⟩
 | dK kvs=>obtain ⟨z,y,vs,r,ob,es,ep,e,c⟩:=x; exact ⟨z,y,vs,r,ob,es,ep,k _ _ (.inl rfl) e,c⟩
 | dT kvs =>
   obtain ⟨z,y,xs,r,ob,es,ep,e,c⟩:=x
   exact ⟨z,y,xs,Paired.mapP r fun p q z=>⟨z.1,ht _ _ z.2.1,z.2.2⟩,ob,es,ep,k _ _ (.inl rfl) e,c⟩
 | set S n=>obtain ⟨ob,es,ep,t,e,c⟩:=x; exact ⟨ob,es,ep,t,k _ _ (.inl rfl) e,c⟩
 | ins C dx fs =>
   obtain ⟨d,z,ne,e,mA,⟨od,es,ep,e2,c⟩,r⟩:=x
   exact ⟨ho _ d,z,ne,k _ _ (.inl rfl) e,mA,⟨od,es,ep,k _ _ (.inr d) e2,c⟩,r⟩
 | own y=>obtain ⟨ob,e⟩:=x; exact ⟨ob,k _ _ (.inl rfl) e⟩
 | xd fs=>obtain ⟨mA,⟨od,es,ep,e,c⟩,r⟩:=x; exact ⟨mA,⟨od,es,ep,k _ _ (.inl rfl) e,c⟩,r⟩
 | rng lo hi=>obtain ⟨t,u,v,e⟩:=x; exact ⟨t,u,v,k _ _ (.inl rfl) e⟩
 | frz ob u ih=>obtain ⟨e,q⟩:=x; exact ⟨k _ _ (.inl rfl) e,ih q⟩
 | tbl ps =>
   have e:h.get? a=some { cls:=.none,data:=.fields ps }:=x
   show h'.get? a=some { cls:=.none,data:=.fields ps }
   exact k a _ (.inl rfl) e
 | met f y =>
   have e:h.get? a=some (PySem.W.methodObj (.ref f) (.ref y)):=x
   show h'.get? a=some (PySem.W.methodObj (.ref f) (.ref y))
   exact k a _ (.inl rfl) e
 | ext φ=>obtain ⟨p,⟨o,e⟩,st⟩:=x; exact ⟨st _ _ p fun o q=>k _ _ (.inl rfl) q,⟨o,k _ _ (.inl rfl) e⟩,st⟩
theorem HOk.lt (x:HOk P w H h) (e:H a=some o):a < h.objs.size:=(x a o e).lt
theorem HOk.fresh (x:HOk P w H h) (e:h.objs.size≤a):H a=none:=by
 cases q:H a with
 | none=>rfl
 | some u=>exact absurd (Nat.lt_of_lt_of_le (x.lt q) e) (Nat.lt_irrefl _)
theorem HOk.kept (x:HOk P w H h) (k:∀ b u,h.get? b=some u→h'.get? b=some u):HOk P w H h':=fun a o e =>
 (x a o e).stay (fun b u _ q=>k b u q) (fun _ q=>q) fun _ _ q=>q
theorem HOk.laid (x:HOk P w H h) (k:∀ b u,h.get? b=some u→h'.get? b=some u) (hp:h.objs.size≤a) (new:ObjOk P w (upd H a o) h' a o):HOk P w (upd H a o) h':=fun b u e=>by
 have hn:=x.fresh hp
 by_cases hb:b=a
 · subst hb; rw [upd_same] at e; cases e; exact new
 · rw [upd_ne hb] at e
   exact (x b u e).stay (fun c v _ q=>k c v q) (fun c q=>by rw [upd_ne (ne_of_none q hn)]; exact q) fun c xs q=>by rw [upd_ne (ne_of_none q hn)]; exact q
end
def Rd (H:Hp) (a:Addr) (u:HO):Prop:=H a=some u∨∃ o,H a=some (.frz o u)
theorem Rd.ok {P:Program} {w:World} {H:Hp} {h:Heap} {a:Addr} {u:HO} (r:Rd H a u) (x:HOk P w H h):ObjOk P w H h a u:=by
 rcases r with r | ⟨o,r⟩
 · exact x a u r
 · obtain ⟨_,q⟩:=x a _ r
   exact q
def Mut:Option HO→Prop
 | some (.lst _)=>True
 | some (.dK _)=>True
 | some (.dT _)=>True
 | some (.set _ _)=>True
 | some (.ins _ _ _)=>True
 | some (.ext _)=>True
 | _=>False
section
variable {P:Program} {w:World} {H:Hp} {h h':Heap} {x e:Addr} {o':HO}
theorem HOk.write (ok:HOk P w H h) (mu:Mut (H x)) (he:e=x∨H e=some (.own x)) (k:∀ b u,b≠e→h.get? b=some u→h'.get? b=some u) (heo:∃ u,h'.get? e=some u)
 (new:ObjOk P w (upd H x o') h' x o'):HOk P w (upd H x o') h':=fun b u q=>by
 have nown:∀ c y,H c=some (.own y)→c≠x:=fun c y r z=>by subst z; rw [r] at mu; exact mu
 have ntup:∀ c xs,H c=some (.tup xs)→c≠x:=fun c xs r z=>by subst z; rw [r] at mu; exact mu
 by_cases hb:b=x
 · subst hb; rw [upd_same] at q; cases q; exact new
 · rw [upd_ne hb] at q
   by_cases hbe:b=e
   · have q':H b=some (.own x):=by
      rcases he with z | z
      · exact absurd (hbe.trans z) hb
      · rw [hbe]; exact z
     rw [q] at q'; cases q'
     obtain ⟨v,hv⟩:=heo
     exact ⟨v,by rw [hbe]; exact hv⟩
   · refine (ok b u q).stay (fun c v hc r=>k c v ?_ r) (fun c r=>by rw [upd_ne (nown c b r)]; exact r) fun c xs r=>by rw [upd_ne (ntup c xs r)]; exact r
     rcases hc with rfl | hc
     · exact hbe
     · rintro rfl
       rcases he with z | z
       · exact nown c b hc z
       · rw [hc] at z; cases z; exact hb rfl
end
structure Un (fs ex:List Addr) (H H':Hp) (h h':Heap):Prop where
 keep:∀ b o,h.get? b=some o→H b=none→b ∉ fs→b ∉ ex→h'.get? b=some o
 slot:∀ b o,h.get? b=some o→H b=none→b∈fs→b ∉ ex→∃ sl,h'.get? b=some { o with slots:=sl }
 free:∀ b o,h.get? b=some o→H b=none→b ∉ ex→H' b=none
 there:∀ b o,h.get? b=some o→b ∉ ex→∃ o',h'.get? b=some o'
 tups:∀ b xs,H b=some (.tup xs)→H' b=some (.tup xs)
 frzs:∀ b o u,H b=some (.frz o u)→H' b=some (.frz o u)
 tbls:∀ b ps,H b=some (.tbl ps)→∃ more,H' b=some (.tbl (ps++more))
section
variable {fs fs' ex ex':List Addr} {H H1 H2:Hp} {h h1 h2 h':Heap} {a x e:Addr} {o:HO}
theorem Un.any (u:Un fs ex H H1 h h1) {b:Addr} {ob:Obj} (q:h.get? b=some ob) (n:H b=none) (hx:b ∉ ex):∃ sl,h1.get? b=some { ob with slots:=sl }:=by
 by_cases hb:b∈fs
 · exact u.slot b ob q n hb hx
 · exact ⟨ob.slots,u.keep b ob q n hb hx⟩
theorem Un.trans (a:Un fs ex H H1 h h1) (b:Un fs ex H1 H2 h1 h2):Un fs ex H H2 h h2 where
 keep:=fun c ob q n hc hx=>b.keep c ob (a.keep c ob q n hc hx) (a.free c ob q n hx) hc hx
 slot:=fun c ob q n hc hx=>by
  obtain ⟨sl,e1⟩:=a.slot c ob q n hc hx
  obtain ⟨sl',e2⟩:=b.slot c _ e1 (a.free c ob q n hx) hc hx
  exact ⟨sl',e2⟩
 free:=fun c ob q n hx=>by
  obtain ⟨o',e1⟩:=a.there c ob q hx
  exact b.free c o' e1 (a.free c ob q n hx) hx
 there:=fun c ob q hx=>by
  obtain ⟨o',e1⟩:=a.there c ob q hx
  exact b.there c o' e1 hx
 tups:=fun c xs q=>b.tups c xs (a.tups c xs q)
 frzs:=fun c ob xs q=>b.frzs c ob xs (a.frzs c ob xs q)
 tbls:=fun c ps q=>by
  obtain ⟨m1,e1⟩:=a.tbls c ps q
  obtain ⟨m2,e2⟩:=b.tbls c _ e1
  exact ⟨m1++m2,by rw [e2,Array.append_assoc]⟩
theorem Un.kept (k:∀ b u,h.get? b=some u→h'.get? b=some u):Un fs ex H H h h' :=
 ⟨fun b ob q _ _ _=>k b ob q,fun b ob q _ _ _=>⟨ob.slots,k b ob q⟩,fun _ _ _ n _=>n,fun b ob q _=>⟨ob,k b ob q⟩,fun _ _ q=>q,fun _ _ _ q=>q,fun _ ps q=>⟨#[],by rw [q]; simp⟩⟩
theorem Un.refl:Un fs ex H H h h:=Un.kept fun _ _ q=>q
theorem Un.laid (k:∀ b u,h.get? b=some u→h'.get? b=some u) (hp:h.objs.size≤a) (hn:H a=none):Un fs ex H (upd H a o) h h' where
 keep:=fun b u q _ _ _=>k b u q
 slot:=fun b u q _ _ _=>⟨u.slots,k b u q⟩
 free:=fun b u q n _=>by rw [upd_ne (Nat.ne_of_lt (Nat.lt_of_lt_of_le (Heap.lt_size q) hp))]; exact n
 there:=fun b u q _=>⟨u,k b u q⟩
 tups:=fun b xs q=>by rw [upd_ne (ne_of_none q hn)]; exact q
 frzs:=fun b u xs q=>by rw [upd_ne (ne_of_none q hn)]; exact q
 tbls:=fun b ps q=>⟨#[],by rw [upd_ne (ne_of_none q hn),q]; simp⟩
theorem Un.write (mu:Mut (H x)) (he:e=x∨H e=some (.own x)) (k:∀ b u,b≠e→h.get? b=some u→h'.get? b=some u) (heo:∃ u,h'.get? e=some u):Un fs ex H (upd H x o) h h':=by
 have hx:∀ b,H b=none→b≠x:=fun b n z=>by subst z; rw [n] at mu; exact mu
 have hb:∀ b,H b=none→b≠e:=fun b n z=>by
  subst z
  rcases he with r | r
  · exact hx b n r
  · rw [n] at r; cases r
 have hm:∀ b u,H b=some u→¬ Mut (some u)→b≠x:=fun b u q nm z=>by subst z; rw [q] at mu; exact nm mu
 refine ⟨fun b u q n _ _=>k b u (hb b n) q,fun b u q n _ _=>⟨u.slots,k b u (hb b n) q⟩,fun b u q n _=>by rw [upd_ne (hx b n)]; exact n,fun b u q _=>?_,
  fun b xs q=>by rw [upd_ne (hm b _ q fun z=>z)]; exact q,fun b u xs q=>by rw [upd_ne (hm b _ q fun z=>z)]; exact q,fun b ps q=>⟨#[],by rw [upd_ne (hm b _ q fun z=>z),q]; simp⟩⟩
 by_cases hbe:b=e
 · subst hbe; exact heo
 · exact ⟨u,k b u hbe q⟩
end
def trk (h:Heap) (H:Hp):List Addr:=(List.range h.objs.size).filter fun a=>(H a).isSome
def hidT (h:Heap) (H:Hp):Heap:=PySem.W.hideAll h (trk h H)
theorem hidT_size (h:Heap) (H:Hp):(hidT h H).objs.size=h.objs.size:=PySem.W.hideAll_size _ _
theorem hidT_get {h:Heap} {H:Hp} {b:Addr} {o:Obj} (e:h.get? b=some o) (n:H b=none):(hidT h H).get? b=some o :=
 PySem.W.hideAll_get _ e fun hm=>by
  have q:(H b).isSome=true:=(List.mem_filter.mp hm).2
  rw [n] at q; simp at q
theorem of_hidT {h:Heap} {H:Hp} {b:Addr} {o:Obj} (e:(hidT h H).get? b=some o):h.get? b=some o∧H b=none:=by
 have e':h.get? b=some o:=PySem.W.of_hideAll (trk h H) e
 refine ⟨e',?_⟩
 cases q:H b with
 | none=>rfl
 | some x =>
   have hm:b∈trk h H:=List.mem_filter.mpr ⟨List.mem_range.mpr (Heap.lt_size e'),by simp [q]⟩
   have z:(hidT h H).get? b=none:=PySem.W.hideAll_none (trk h H) hm
   rw [z] at e; cases e
end L2
namespace L2
open PySem PySem.Spec PyProof.Rows
structure Mod (K:PySem.W.Frag) (mg:Str→Option Value) (base:Heap):Prop where
 kin:K.In base
 glob:base.Ns mainGlobals mg
 blt:∃ mb,base.Ns builtinsNs mb∧∀ x:Str,x ≠ "__name__" → mb x=bootBuiltins x
 nolimit:base.NoLimit
structure Cx where
 prog:Program
 w:World
 K:PySem.W.Frag
 mg:Str→Option Value
 base:Heap
 A:Around
 N:List Str
 s₀:Shared
 H₀:Hp
 env:Env
 outer:List Env
 stack:List Env
 ex:List Addr
 fn:Str→Bool
 calm:Bool
 pn:List (Addr × Obj)
 xe:Value→Shared→Prop
def frs (l:List Env):List Addr:=l.filterMap (·.frame)
abbrev Cx.fs (X:Cx):List Addr:=frs X.outer
def Vis (sc:Scope) (x:Str):Prop:=sc.names.lookup x=some .local∨sc.names.lookup x=some .cell∨sc.names.lookup x=some .free
def Loc (sc:Scope) (x:Str):Prop:=sc.names.lookup x=some .local∨sc.names.lookup x=some .cell
def Look (env:Env) (h:Heap) (m:Str→Option Value) (x:Str) (u:Value):Prop :=
 (env.kindOf x=some .local∧m x=some u)∨((env.kindOf x=some .cell∨env.kindOf x=some .free)∧∃ c,env.cells.lookup x=some c∧h.IsCell c (some u))
structure Cx.Ok (X:Cx):Prop where
 mod:Mod X.K X.mg X.base
 kind:X.env.scope.kind=.function
 glob:X.env.globals=mainGlobals
 blt:X.env.builtins=builtinsNs
 above:X.s₀.heap.objs.size≤X.env.locals
 inj:∀ x y c,X.env.cells.lookup x=some c→X.env.cells.lookup y=some c→x=y
 has:∀ x,(X.env.kindOf x=some .cell∨X.env.kindOf x=some .free)→∃ c,X.env.cells.lookup x=some c
 cab:∀ x c,X.fn x=true→X.env.cells.lookup x=some c→X.s₀.heap.objs.size≤c
 hd:X.calm=true→X.A.handled=none
 frames:X.A.frames=some X.stack
 stk:X.stack=X.outer∨(X.stack=X.env :: X.outer∧X.env.frame=some X.env.locals)
 exf:∀ b∈X.ex,b≠X.env.locals∧∀ x c,X.env.cells.lookup x=some c→c≠b
 bs:∀ b o,X.base.get? b=some o→X.s₀.heap.get? b=some o∧X.H₀ b=none
 bsz:X.base.objs.size≤X.s₀.heap.objs.size
 noex:∀ b o,X.base.get? b=some o→b ∉ X.ex
 exfs:∀ b∈X.ex,b ∉ X.fs
 funs:X.s₀.heap.FunFrames X.base X.outer
 frf:∀ b∈X.fs,X.H₀ b=none
structure Inv (X:Cx) (pins:List (Addr × Obj)) (σ:List (Option V)) (H:Hp) (s:Shared):Prop where
 ok:X.Ok
 os:s.os=X.s₀.os
 bare:AllBare s.gens
 base:Un X.fs X.ex X.H₀ H X.s₀.heap s.heap
 loc:∃ m,s.heap.Ns X.env.locals m∧∀ (i:Nat) (x:Str) (v:V),X.N[i]?=some x→σ[i]?=some (some v)→Vis X.env.scope x→∃ u,RelV v u∧Look X.env s.heap m x u
 cell:∀ x c,X.env.cells.lookup x=some c→∃ v,s.heap.IsCell c v
 free:H X.env.locals=none
 freeC:∀ x c,X.env.cells.lookup x=some c→H c=none
 pin:∀ p∈X.pn++pins,s.heap.get? p.1=some p.2∧H p.1=none∧p.1≠X.env.locals∧p.1 ∉ X.fs∧∀ v,p.2.data≠.cell v
 hok:HOk X.prog X.w H s.heap
 len:σ.length=X.N.length
section
variable {X:Cx} {pins:List (Addr × Obj)} {σ:List (Option V)} {H H':Hp} {s:Shared} {h':Heap}
theorem Cx.Ok.nofr (ok:X.Ok) {b:Addr} {o:Obj} (e:X.base.get? b=some o):b ∉ X.fs:=fun hb=>by
 have:=(ok.funs.mem hb).1
 rw [e] at this; cases this
theorem Inv.bs (I:Inv X pins σ H s):∀ b o,X.base.get? b=some o→s.heap.get? b=some o∧H b=none:=fun b o e =>
 ⟨I.base.keep b o (I.ok.bs b o e).1 (I.ok.bs b o e).2 (I.ok.nofr e) (I.ok.noex b o e),I.base.free b o (I.ok.bs b o e).1 (I.ok.bs b o e).2 (I.ok.noex b o e)⟩
theorem Inv.bk (I:Inv X pins σ H s):∀ b o,X.base.get? b=some o→s.heap.get? b=some o:=fun b o e=>(I.bs b o e).1
theorem Inv.mod (I:Inv X pins σ H s):Mod X.K X.mg X.base:=I.ok.mod
theorem Inv.kIn (I:Inv X pins σ H s):X.K.In s.heap:=I.ok.mod.kin.keeps I.bk
theorem Inv.nolimit (I:Inv X pins σ H s):s.heap.NoLimit:=I.ok.mod.nolimit.keeps I.bk
theorem Inv.lt (I:Inv X pins σ H s):X.env.locals < s.heap.objs.size:=let ⟨_,hn,_⟩:=I.loc; hn.lt
theorem Inv.sz (I:Inv X pins σ H s):X.s₀.heap.objs.size≤s.heap.objs.size:=Nat.le_trans I.ok.above (Nat.le_of_lt I.lt)
theorem Inv.nofs (I:Inv X pins σ H s) {a:Addr} (h:s.heap.objs.size≤a):a ∉ X.fs:=fun hb=>by
 obtain ⟨_,o,ho,_⟩:=I.ok.funs.mem hb
 exact absurd (Nat.lt_of_lt_of_le (Heap.lt_size ho) (Nat.le_trans I.sz h)) (Nat.lt_irrefl _)
theorem Inv.cne (I:Inv X pins σ H s):∀ x c,X.env.cells.lookup x=some c→c≠X.env.locals:=fun x c e z=>by
 obtain ⟨v,o,ho,hd⟩:=I.cell x c e
 obtain ⟨m,⟨o',es,ep,ho',hd',_⟩,_⟩:=I.loc
 rw [z,ho'] at ho; cases ho; rw [hd'] at hd; cases hd
theorem Inv.funs (I:Inv X pins σ H s):s.heap.FunFrames X.base X.outer:=by
 have all:∀ (l:List Env),(∀ b∈frs l,b∈X.fs)→X.s₀.heap.FunFrames X.base l→s.heap.FunFrames X.base l:=by
  intro l
  induction l with
  | nil=>intro _ _; trivial
  | cons env r ih =>
    intro hs hl
    obtain ⟨hk,⟨L,o,hf,hn,ho,hd⟩,hr⟩:=hl
    have hL:L∈X.fs:=hs L (by unfold frs; rw [List.filterMap_cons,hf]; exact List.mem_cons_self)
    obtain ⟨sl,e⟩:=I.base.slot L o ho (I.ok.frf L hL) hL fun z=>I.ok.exfs L z hL
    exact ⟨hk,⟨L,_,hf,hn,e,hd⟩,ih (fun b hb=>hs b (by unfold frs; rw [List.filterMap_cons,hf]; exact List.mem_cons_of_mem _ hb)) hr⟩
 exact all X.outer (fun _ hb=>hb) I.ok.funs
theorem Inv.stack (I:Inv X pins σ H s):s.heap.FunFrames X.base X.stack:=by
 rcases I.ok.stk with e | ⟨e,hf⟩
 · rw [e]; exact I.funs
 · rw [e]
   obtain ⟨m,hn,_⟩:=I.loc
   refine .cons (by rw [I.ok.kind]; decide) hf hn ?_ I.funs
   exact Heap.get?_none_of_le (Nat.le_trans I.ok.bsz I.ok.above)
theorem Inv.stkSub (I:Inv X pins σ H s):∀ b∈frs X.stack,b∈X.env.locals :: X.fs:=fun b hb=>by
 rcases I.ok.stk with e | ⟨e,hf⟩
 · rw [e] at hb; exact List.mem_cons_of_mem _ hb
 · rw [e] at hb
   unfold frs at hb
   rw [List.filterMap_cons,hf] at hb
   exact hb
theorem Inv.stkFree (I:Inv X pins σ H s):∀ b∈frs X.stack,H b=none:=fun b hb=>by
 rcases List.mem_cons.mp (I.stkSub b hb) with e | hb
 · rw [e]; exact I.free
 · obtain ⟨_,o,ho,_⟩:=I.ok.funs.mem hb
   exact I.base.free b o ho (I.ok.frf b hb) fun z=>I.ok.exfs b z hb
theorem Inv.step {g':Array GenState} {t':Nat} {d':Drawn} {ch:List Addr} (I:Inv X pins σ H s)
 (hch:∀ b∈ch,(b∈X.ex∨X.s₀.heap.objs.size≤b)∧b≠X.env.locals∧(∀ x c,X.env.cells.lookup x=some c→c≠b)∧∀ p∈X.pn++pins,p.1≠b)
 (keep:∀ b o,b≠X.env.locals→b ∉ X.fs→b ∉ ch→s.heap.get? b=some o→H b=none→h'.get? b=some o)
 (slot:∀ b o,b≠X.env.locals→b∈X.fs→b ∉ ch→s.heap.get? b=some o→H b=none→∃ sl,h'.get? b=some { o with slots:=sl }) (free:∀ b o,b ∉ ch→s.heap.get? b=some o→H b=none→H' b=none)
 (there:∀ b o,b ∉ ch→s.heap.get? b=some o→∃ o',h'.get? b=some o')
 (tups:∀ b xs,H b=some (.tup xs)→H' b=some (.tup xs)) (frzs:∀ b o u,H b=some (.frz o u)→H' b=some (.frz o u)) (tbls:∀ b ps,H b=some (.tbl ps)→∃ more,H' b=some (.tbl (ps++more)))
 (ns:∀ m,s.heap.Ns X.env.locals m→h'.Ns X.env.locals m) (hok:HOk X.prog X.w H' h') (hg:AllBare g') :
 Inv X pins σ H' { s with heap:=h',gens:=g',drawn:=d',toks:=t' }:=by
 have neL:∀ b o,X.s₀.heap.get? b=some o→b≠X.env.locals:=fun b o e=>Nat.ne_of_lt (Nat.lt_of_lt_of_le (Heap.lt_size e) I.ok.above)
 have neC:∀ b o,X.s₀.heap.get? b=some o→b ∉ X.ex→b ∉ ch:=fun b o e hx hb=>by
  rcases (hch b hb).1 with z | z
  · exact hx z
  · exact absurd (Nat.lt_of_lt_of_le (Heap.lt_size e) z) (Nat.lt_irrefl _)
 have cellK:∀ x c,X.env.cells.lookup x=some c→∀ v,s.heap.IsCell c v→h'.IsCell c v:=fun x c e v ⟨o,ho,hd⟩=>by
  have nch:c ∉ ch:=fun z=>(hch c z).2.2.1 x c e rfl
  by_cases hc:c∈X.fs
  · obtain ⟨sl,q⟩:=slot c o (I.cne x c e) hc nch ho (I.freeC x c e)
    exact ⟨_,q,hd⟩
  · exact ⟨o,keep c o (I.cne x c e) hc nch ho (I.freeC x c e),hd⟩
 refine ⟨I.ok,I.os,hg,⟨fun b o e n hb hx=>?_,fun b o e n hb hx=>?_,fun b o e n hx=>?_,fun b o e hx=>?_,fun b xs e=>tups b xs (I.base.tups b xs e),fun b o xs e=>frzs b o xs (I.base.frzs b o xs e),fun b ps e=>?_⟩,?_,fun x c e=>?_,?_,fun x c e=>?_,fun p hp=>?_,hok,I.len⟩
 · exact keep b o (neL b o e) hb (neC b o e hx) (I.base.keep b o e n hb hx) (I.base.free b o e n hx)
 · obtain ⟨sl,e1⟩:=I.base.slot b o e n hb hx
   obtain ⟨sl',e2⟩:=slot b _ (neL b o e) hb (neC b o e hx) e1 (I.base.free b o e n hx)
   exact ⟨sl',e2⟩
 · obtain ⟨o',e1⟩:=I.base.there b o e hx
   exact free b o' (neC b o e hx) e1 (I.base.free b o e n hx)
 · obtain ⟨o',e1⟩:=I.base.there b o e hx
   exact there b o' (neC b o e hx) e1
 · obtain ⟨m1,e1⟩:=I.base.tbls b ps e
   obtain ⟨m2,e2⟩:=tbls b _ e1
   exact ⟨m1++m2,by rw [e2,Array.append_assoc]⟩
 · obtain ⟨m,hn,hl⟩:=I.loc
   refine ⟨m,ns m hn,fun i x v e1 e2 e3=>?_⟩
   obtain ⟨u,r,l⟩:=hl i x v e1 e2 e3
   refine ⟨u,r,?_⟩
   rcases l with l | ⟨k,c,e,z⟩
   · exact .inl l
   · exact .inr ⟨k,c,e,cellK x c e _ z⟩
 · obtain ⟨v,z⟩:=I.cell x c e
   exact ⟨v,cellK x c e v z⟩
 · obtain ⟨m,⟨o,_,_,ho,_⟩,_⟩:=I.loc
   exact free _ o (fun z=>(hch _ z).2.1 rfl) ho I.free
 · obtain ⟨v,o,ho,hd⟩:=I.cell x c e
   exact free c o (fun z=>(hch c z).2.2.1 x c e rfl) ho (I.freeC x c e)
 · obtain ⟨e,n,ne,nf,d⟩:=I.pin p hp
   have nch:p.1 ∉ ch:=fun z=>(hch p.1 z).2.2.2 p hp rfl
   exact ⟨keep p.1 p.2 ne nf nch e n,free p.1 p.2 nch e n,ne,nf,d⟩
theorem Inv.un {t':Nat} (I:Inv X pins σ H s) (u:Un X.fs [] H H' s.heap h') (hok:HOk X.prog X.w H' h'):Inv X pins σ H' { s with heap:=h',toks:=t' }:=by
 obtain ⟨m,⟨o,es,ep,ho,r⟩,_⟩:=id I.loc
 obtain ⟨sl,hL⟩:=u.any ho I.free (by simp)
 exact I.step (g':=s.gens) (d':=s.drawn) (ch:=[]) (fun _ z=>nomatch z) (fun b o _ hb _ e n=>u.keep b o e n hb (by simp)) (fun b o _ hb _ e n=>u.slot b o e n hb (by simp)) (fun b o _ e n=>u.free b o e n (by simp)) (fun b o _ e=>u.there b o e (by simp)) u.tups u.frzs u.tbls (fun m' hm=>by
  obtain ⟨o',es',ep',ho',r'⟩:=hm
  rw [ho] at ho'; cases ho'
  exact ⟨_,es',ep',hL,r'⟩) hok I.bare
theorem Inv.call {g':Array GenState} {t':Nat} {d':Drawn} {ch:List Addr} (I:Inv X pins σ H s) (u:Un (frs X.stack) ch H H' s.heap h') (hok:HOk X.prog X.w H' h') (hg:AllBare g')
 (hch:∀ b∈ch,(b∈X.ex∨X.s₀.heap.objs.size≤b)∧b≠X.env.locals∧(∀ x c,X.env.cells.lookup x=some c→c≠b)∧∀ p∈X.pn++pins,p.1≠b) :
 Inv X pins σ H' { s with heap:=h',gens:=g',drawn:=d',toks:=t' }:=by
 obtain ⟨m,⟨o,es,ep,ho,r⟩,_⟩:=id I.loc
 obtain ⟨sl,hL⟩:=u.any ho I.free fun z=>(hch _ z).2.1 rfl
 exact I.step (ch:=ch) hch (fun b o hL hb hc e n=>u.keep b o e n (fun z=>(List.mem_cons.mp (I.stkSub b z)).elim hL hb) hc) (fun b o _ _ hc e n=>u.any e n hc) (fun b o hc e n=>u.free b o e n hc) (fun b o hc e=>u.there b o e hc) u.tups u.frzs u.tbls (fun m' hm=>by
  obtain ⟨o',es',ep',ho',r'⟩:=hm
  rw [ho] at ho'; cases ho'
  exact ⟨_,es',ep',hL,r'⟩) hok hg
theorem Inv.turned {t':Nat} {it:Addr} (I:Inv X pins σ H s) (k:∀ b o,b≠it→s.heap.get? b=some o→h'.get? b=some o) (hn:H it=none) (hL:it≠X.env.locals)
 (h1:it∈X.ex∨X.s₀.heap.objs.size≤it) (h2:∀ x c,X.env.cells.lookup x=some c→c≠it) (h3:∀ p∈X.pn++pins,p.1≠it):Inv X pins σ H { s with heap:=h',toks:=t' }:=by
 have nit:∀ b u,H b=some u→b≠it:=fun b u e z=>by rw [z,hn] at e; cases e
 refine I.step (g':=s.gens) (d':=s.drawn) (ch:=[it]) (fun b hb=>?_) (fun b o _ _ hc e _=>k b o (fun z=>hc (by simp [z])) e) (fun b o _ _ hc e _=>⟨o.slots,k b o (fun z=>hc (by simp [z])) e⟩) (fun _ _ _ _ n=>n)
  (fun b o hc e=>⟨o,k b o (fun z=>hc (by simp [z])) e⟩) (fun _ _ e=>e) (fun _ _ _ e=>e) (fun b ps e=>⟨#[],by rw [e]; simp⟩) (fun m hm=>?_) (fun b u e=>?_) I.bare
 · have e:b=it:=by simpa using hb
   subst e
   exact ⟨h1,hL,h2,h3⟩
 · obtain ⟨o,es,ep,ho,r⟩:=hm
   exact ⟨o,es,ep,k _ o (Ne.symm hL) ho,r⟩
 · refine (I.hok b u e).stay (fun c v hc q=>k c v ?_ q) (fun _ q=>q) fun _ _ q=>q
   rcases hc with z | z
   · rw [z]; exact nit b u e
   · exact nit c _ z
theorem Inv.tok (I:Inv X pins σ H s) (t:Nat):Inv X pins σ H { s with toks:=t }:=I.un (h':=s.heap) (t':=t) Un.refl I.hok
theorem Inv.kept {t':Nat} (I:Inv X pins σ H s) (k:∀ b u,s.heap.get? b=some u→h'.get? b=some u):Inv X pins σ H { s with heap:=h',toks:=t' }:=I.un (Un.kept k) (I.hok.kept k)
theorem Inv.laid {a:Addr} {o:HO} {t':Nat} (I:Inv X pins σ H s) (k:∀ b u,s.heap.get? b=some u→h'.get? b=some u) (hp:s.heap.objs.size≤a) (new:ObjOk X.prog X.w (upd H a o) h' a o) :
 Inv X pins σ (upd H a o) { s with heap:=h',toks:=t' }:=I.un (Un.laid k hp (I.hok.fresh hp)) (I.hok.laid k hp new)
theorem Inv.write {x e:Addr} {o:HO} {t':Nat} (I:Inv X pins σ H s) (mu:Mut (H x)) (he:e=x∨H e=some (.own x)) (k:∀ b u,b≠e→s.heap.get? b=some u→h'.get? b=some u) (heo:∃ u,h'.get? e=some u)
 (new:ObjOk X.prog X.w (upd H x o) h' x o):Inv X pins σ (upd H x o) { s with heap:=h',toks:=t' }:=I.un (Un.write mu he k heo) (I.hok.write mu he k heo new)
theorem Inv.pins_of {pins':List (Addr × Obj)} (I:Inv X pins σ H s) (h:∀ p∈pins',s.heap.get? p.1=some p.2∧H p.1=none∧p.1≠X.env.locals∧p.1 ∉ X.fs∧∀ v,p.2.data≠.cell v):Inv X pins' σ H s :=
 ⟨I.ok,I.os,I.bare,I.base,I.loc,I.cell,I.free,I.freeC,fun p hp=>(List.mem_append.mp hp).elim (fun z=>I.pin p (List.mem_append_left _ z)) (h p),I.hok,I.len⟩
theorem nodup_ix {N:List Str} (hN:N.Nodup) {i j:Nat} {x:Str} (a:N[i]?=some x) (b:N[j]?=some x):i=j:=by
 obtain ⟨h1,e1⟩:=List.getElem?_eq_some_iff.mp a
 obtain ⟨h2,e2⟩:=List.getElem?_eq_some_iff.mp b
 exact (List.getElem_inj hN).mp (e1.trans e2.symm)
theorem store_ok2 {M:Model} {A:Around} {E:Value→Shared→Prop} {i:Nat} {x:Str} {v:V} {u:Value} {Q:Unit→Shared→Prop} (I:Inv X pins σ H s) (hN:X.N.Nodup) (hi:X.N[i]?=some x) (hx:Loc X.env.scope x) (r:RelV v u)
 (h:∀ s',Inv X pins (σ.set i (some v)) H s'→(∃ a,Heap.SameBut a s.heap s'.heap∧(a=X.env.locals∨X.env.cells.lookup x=some a))→Q () s') (hf:X.fn x=true∨X.env.scope.names.lookup x=some .local:=by first | exact .inl rfl | exact .inr rfl | assumption):wpAny M A (storeName X.env x u) Q E s:=by
 obtain ⟨m,hn,hl⟩:=id I.loc
 have hcls:(X.env.scope.kind == .class || (X.env.scope.kind == .module && X.env.locals != X.env.globals))=false:=by rw [I.ok.kind]; rfl
 have hiσ:i < σ.length:=by rw [I.len]; exact (List.getElem?_eq_some_iff.mp hi).1
 have cne:=I.cne
 have tracked:∀ {a:Addr} {h':Heap},(∃ o,s.heap.get? a=some o∧H a=none)→Heap.SameBut a s.heap h'→HOk X.prog X.w H h':=fun {a h'} ha hs b ob e=>by
  obtain ⟨_,_,hfree⟩:=ha
  refine (I.hok b ob e).stay (fun c w' hc q=>(hs.2 c ?_).trans q) (fun _ q=>q) fun _ _ q=>q
  rintro rfl
  rcases hc with rfl | hc
  · rw [hfree] at e; cases e
  · rw [hfree] at hc; cases hc
 rcases hx with hk | hk
 · refine wpAny_storeName_local hk hn (fun h' hn' hs=>?_) hcls
   obtain ⟨oL,_,_,hoL,_⟩:=id hn
   refine h _ ⟨I.ok,I.os,I.bare,⟨fun b o e n hb hx=>?_,fun b o e n hb hx=>?_,I.base.free,fun b o e hx=>?_,I.base.tups,I.base.frzs,I.base.tbls⟩,⟨_,hn',fun j y v' e1 e2 e3=>?_⟩,fun y c e=>?_,I.free,I.freeC,fun p hp=>?_,tracked ⟨oL,hoL,I.free⟩ hs,by simpa using I.len⟩ ⟨_,hs,.inl rfl⟩
   · exact (hs.2 b (Nat.ne_of_lt (Nat.lt_of_lt_of_le (Heap.lt_size e) I.ok.above))).trans (I.base.keep b o e n hb hx)
   · obtain ⟨sl,e1⟩:=I.base.slot b o e n hb hx
     exact ⟨sl,(hs.2 b (Nat.ne_of_lt (Nat.lt_of_lt_of_le (Heap.lt_size e) I.ok.above))).trans e1⟩
   · obtain ⟨o',e1⟩:=I.base.there b o e hx
     exact ⟨o',(hs.2 b (Nat.ne_of_lt (Nat.lt_of_lt_of_le (Heap.lt_size e) I.ok.above))).trans e1⟩
   · by_cases hj:j=i
     · subst hj
       rw [hi] at e1; cases e1
       rw [List.getElem?_set_self hiσ] at e2
       cases e2
       exact ⟨u,r,.inl ⟨hk,by simp⟩⟩
     · rw [List.getElem?_set_ne (Ne.symm hj)] at e2
       obtain ⟨u',r',q⟩:=hl j y v' e1 e2 e3
       refine ⟨u',r',?_⟩
       rcases q with ⟨k,e⟩ | ⟨k,c,e,z⟩
       · refine .inl ⟨k,?_⟩
         have:y≠x:=fun e=>hj (nodup_ix hN e1 (e ▸ hi))
         simp [this,e]
       · exact .inr ⟨k,c,e,z.sameBut hs (cne y c e)⟩
   · obtain ⟨w',z⟩:=I.cell y c e
     exact ⟨w',z.sameBut hs (cne y c e)⟩
   · obtain ⟨e,n,ne,nf,d⟩:=I.pin p hp
     exact ⟨(hs.2 p.1 ne).trans e,n,ne,nf,d⟩
 · have hfn:X.fn x=true:=by
    rcases hf with z | z
    · exact z
    · rw [z] at hk; cases hk
   obtain ⟨c,hc⟩:=I.ok.has x (.inl hk)
   obtain ⟨w',z⟩:=I.cell x c hc
   refine wpAny_storeName_cell I.ok.kind hk hc z (fun h' hc' hs=>?_)
   obtain ⟨oc,hoc,hocd⟩:=id z
   refine h { s with heap:=h' } ⟨I.ok,I.os,I.bare,⟨fun b o e n hb hx=>?_,fun b o e n hb hx=>?_,I.base.free,fun b o e hx=>?_,I.base.tups,I.base.frzs,I.base.tbls⟩,⟨m,hn.sameBut hs (Ne.symm (cne x c hc)),fun j y v' e1 e2 e3=>?_⟩,fun y c' e=>?_,I.free,I.freeC,fun p hp=>?_,tracked ⟨oc,hoc,I.freeC x c hc⟩ hs,by simpa using I.len⟩ ⟨c,hs,.inr hc⟩
   · exact (hs.2 b (Nat.ne_of_lt (Nat.lt_of_lt_of_le (Heap.lt_size e) (I.ok.cab x c hfn hc)))).trans (I.base.keep b o e n hb hx)
   · obtain ⟨sl,e1⟩:=I.base.slot b o e n hb hx
     exact ⟨sl,(hs.2 b (Nat.ne_of_lt (Nat.lt_of_lt_of_le (Heap.lt_size e) (I.ok.cab x c hfn hc)))).trans e1⟩
   · obtain ⟨o',e1⟩:=I.base.there b o e hx
     exact ⟨o',(hs.2 b (Nat.ne_of_lt (Nat.lt_of_lt_of_le (Heap.lt_size e) (I.ok.cab x c hfn hc)))).trans e1⟩
   · by_cases hj:j=i
     · subst hj
       rw [hi] at e1; cases e1
       rw [List.getElem?_set_self hiσ] at e2
       cases e2
       exact ⟨u,r,.inr ⟨.inl hk,c,hc,hc'⟩⟩
     · rw [List.getElem?_set_ne (Ne.symm hj)] at e2
       obtain ⟨u',r',q⟩:=hl j y v' e1 e2 e3
       refine ⟨u',r',?_⟩
       rcases q with q | ⟨k,c',e,z'⟩
       · exact .inl q
       · refine .inr ⟨k,c',e,z'.sameBut hs ?_⟩
         rintro rfl
         exact hj (nodup_ix hN e1 (I.ok.inj _ _ _ e hc ▸ hi))
   · by_cases hcc:c'=c
     · subst hcc; exact ⟨_,hc'⟩
     · obtain ⟨w2,z2⟩:=I.cell y c' e
       exact ⟨w2,z2.sameBut hs hcc⟩
   · obtain ⟨e,n,ne,nf,d⟩:=I.pin p hp
     refine ⟨(hs.2 p.1 ?_).trans e,n,ne,nf,d⟩
     intro q
     rw [q,hoc] at e
     have q':oc=p.2:=Option.some.inj e
     exact d w' (by rw [←q']; exact hocd)
theorem store_ok {M:Model} {A:Around} {E:Value→Shared→Prop} {i:Nat} {x:Str} {v:V} {u:Value} {Q:Unit→Shared→Prop} (I:Inv X pins σ H s) (hN:X.N.Nodup) (hi:X.N[i]?=some x) (hx:Loc X.env.scope x) (r:RelV v u)
 (h:∀ s',Inv X pins (σ.set i (some v)) H s'→Q () s') (hf:X.fn x=true∨X.env.scope.names.lookup x=some .local:=by first | exact .inl rfl | exact .inr rfl | assumption):wpAny M A (storeName X.env x u) Q E s :=
 store_ok2 I hN hi hx r (fun s' I' _=>h s' I') hf
theorem Inv.call' {s':Shared} {ch:List Addr} (I:Inv X pins σ H s) (ho:s'.os=s.os) (u:Un (frs X.stack) ch H H' s.heap s'.heap) (hok:HOk X.prog X.w H' s'.heap) (hg:AllBare s'.gens)
 (hch:∀ b∈ch,(b∈X.ex∨X.s₀.heap.objs.size≤b)∧b≠X.env.locals∧(∀ x c,X.env.cells.lookup x=some c→c≠b)∧∀ p∈X.pn++pins,p.1≠b):Inv X pins σ H' s':=by
 obtain ⟨h',g',d',t',o'⟩:=s'
 have e:o'=s.os:=ho
 subst e
 exact I.call (g':=g') (t':=t') (d':=d') u hok hg hch
end
abbrev XK:=Value→Option Addr→Hp→Prop
abbrev St:=List (Option V)
abbrev VK:=V→Hp→Prop
abbrev TE:=St→Hp→VK→Prop
abbrev TT:=St→Hp→(Bool→Hp→Prop)→Prop
abbrev TA:=St→Hp→(List V→Hp→Prop)→Prop
structure Ends where
 nx:St→Hp→Prop
 rt:VK
 bk:St→Hp→Prop:=fun _ _=>False
 ct:St→Hp→Prop:=fun _ _=>False
abbrev TS:=Ends→St→Hp→Prop
def EP (X:Cx) (pins:List (Addr × Obj)) (σ:St) (Q:VK) (u:Value) (s':Shared):Prop:=∃ v H',Inv X pins σ H' s'∧RelV v u∧Q v H'
def TP (X:Cx) (pins:List (Addr × Obj)) (σ:St) (Q:Bool→Hp→Prop) (b:Bool) (s':Shared):Prop:=∃ H',Inv X pins σ H' s'∧Q b H'
def AP (X:Cx) (pins:List (Addr × Obj)) (σ:St) (Q:List V→Hp→Prop) (us:List Value) (s':Shared):Prop:=∃ vs H',Inv X pins σ H' s'∧Vals vs us∧Q vs H'
def SP (X:Cx) (pins:List (Addr × Obj)) (D:Ends) (f:Flow) (s':Shared):Prop :=
 match f with
 | .next=>∃ σ' H',Inv X pins σ' H' s'∧D.nx σ' H'
 | .brk=>∃ σ' H',Inv X pins σ' H' s'∧D.bk σ' H'
 | .cont=>∃ σ' H',Inv X pins σ' H' s'∧D.ct σ' H'
 | .ret u=>∃ v σ' H',Inv X pins σ' H' s'∧RelV v u∧D.rt v H'
def PE (X:Cx) (e:Expr) (t:TE):Prop :=
 ∀ (pins:List (Addr × Obj)) (s:Shared) (σ:St) (H:Hp) (Q:VK),Inv X pins σ H s→t σ H Q→wpAny (model X.prog X.w) X.A (eval e X.env) (EP X pins σ Q) X.xe s
def PT (X:Cx) (e:Expr) (t:TT):Prop :=
 ∀ (pins:List (Addr × Obj)) (s:Shared) (σ:St) (H:Hp) (Q:Bool→Hp→Prop),Inv X pins σ H s→t σ H Q→wpAny (model X.prog X.w) X.A (isTrue e X.env (eval e X.env)) (TP X pins σ Q) X.xe s
def PW (X:Cx) (e:Expr) (t:TT):Prop :=
 ∀ (whole:Sem Value) (pins:List (Addr × Obj)) (s:Shared) (σ:St) (H:Hp) (Q:Bool→Hp→Prop),Inv X pins σ H s→t σ H Q→wpAny (model X.prog X.w) X.A (isTrue e X.env whole) (TP X pins σ Q) X.xe s
theorem PW.pt {X:Cx} {e:Expr} {t:TT} (h:PW X e t):PT X e t:=h _
def PA (X:Cx) (es:List Expr) (t:TA):Prop :=
 ∀ (pos:Pos) (pins:List (Addr × Obj)) (s:Shared) (σ:St) (H:Hp) (Q:List V→Hp→Prop),Inv X pins σ H s→t σ H Q→wpAny (model X.prog X.w) X.A (spliced (backTo pos (starEach es X.env))) (AP X pins σ Q) X.xe s
def PS (X:Cx) (st:Stmt) (t:TS):Prop :=
 ∀ (pins:List (Addr × Obj)) (s:Shared) (σ:St) (H:Hp) (D:Ends),Inv X pins σ H s→t D σ H→wpAny (model X.prog X.w) X.A (exec st X.env) (SP X pins D) X.xe s
def PSs (X:Cx) (st:List Stmt) (t:TS):Prop :=
 ∀ (pins:List (Addr × Obj)) (s:Shared) (σ:St) (H:Hp) (D:Ends),Inv X pins σ H s→t D σ H→wpAny (model X.prog X.w) X.A (execs st X.env) (SP X pins D) X.xe s
theorem thn {α:Type} {t:Sem α} {Q Q':α→Shared→Prop} {M:Model} {A:Around} {E:Value→Shared→Prop} {s:Shared} (h:wpAny M A t Q E s) (hQ:∀ a s,Q a s→Q' a s):wpAny M A t Q' E s:=wpAny_mono h hQ fun _ _ x=>x
end L2
namespace L2
open PySem PySem.Spec PyProof.Rows
section
variable {X:Cx}
def tVar (i:Nat):TE:=fun σ H Q=>∃ v,σ[i]?=some (some v)∧Q v H
def tC (v:V):TE:=fun _ H Q=>Q v H
theorem pe_var {i:Nat} {x:Str} {pos:Pos} (hN:X.N[i]?=some x) (hv:Vis X.env.scope x) (hd:(x == ("__debug__" : Str))=false:=by decide) (hcd:(x == ("__classdict__" : Str))=false:=by decide):PE X (.Name x pos) (tVar i):=by
 intro pins s σ H Q I h
 obtain ⟨v,e,h⟩:=h
 obtain ⟨m,hn,hl⟩:=I.loc
 obtain ⟨u,r,l⟩:=hl i x v hN e hv
 have fin:EP X pins σ Q u s:=⟨v,H,I,r,h⟩
 rcases l with ⟨hk,hm⟩ | ⟨hk,c,hc,hcell⟩
 · exact wpAny_Name (wpAny_loadName_local I.ok.kind hk hn hm fin) hd
 · rcases hk with hk | hk
   · exact wpAny_Name (wpAny_loadName_cell I.ok.kind hk hc hcell fin) hd
   · exact wpAny_Name (wpAny_loadName_free I.ok.kind hk hc hcell fin hcd) hd
theorem pe_int {i j pos}:PE X (.Constant (.int i) j pos) (tC (.int i)):=fun _ _ _ H _ I h=>wpAny_Constant_int ⟨.int i,H,I.tok _,⟨_,rfl⟩,h⟩
theorem pe_bl {b j pos}:PE X (.Constant (.bool b) j pos) (tC (.bl b)):=fun _ _ _ H _ I h=>Constant_bool ⟨.bl b,H,I,rfl,h⟩
theorem pe_non {j pos}:PE X (.Constant .none j pos) (tC .non):=fun _ _ _ H _ I h=>Constant_none ⟨.non,H,I,rfl,h⟩
theorem pe_str {x j pos}:PE X (.Constant (.str x) j pos) (tC (.str x)):=fun _ _ _ H _ I h=>Calls.Constant_str ⟨.str x,H,I.tok _,⟨_,rfl⟩,h⟩
def Gl (X:Cx) (x:Str):Prop:=X.env.kindOf x=some .globalImplicit
theorem ld_glob {E:Value→Shared→Prop} {pins:List (Addr × Obj)} {s:Shared} {σ:St} {H:Hp} {x:Str} {u:Value} {pos:Pos} {Q:Value→Shared→Prop} (I:Inv X pins σ H s) (hg:Gl X x) (hm:X.mg x=some u) (h:Q u s)
 (hd:(x == ("__debug__" : Str))=false:=by decide):wpAny (model X.prog X.w) X.A (eval (.Name x pos) X.env) Q E s :=
 Calls.Name_function_global I.ok.kind hg (Calls.loadGlobal_global (by rw [I.ok.glob]; exact I.mod.glob.keeps I.bk) hm h) hd
theorem ld_blt {E:Value→Shared→Prop} {pins:List (Addr × Obj)} {s:Shared} {σ:St} {H:Hp} {x:Str} {u:Value} {pos:Pos} {Q:Value→Shared→Prop} (I:Inv X pins σ H s) (hg:Gl X x) (hm:X.mg x=none) (hv:bootBuiltins x=some u) (h:Q u s)
 (hn:x ≠ "__name__" := by decide) (hd:(x == ("__debug__" : Str))=false:=by decide):wpAny (model X.prog X.w) X.A (eval (.Name x pos) X.env) Q E s:=by
 obtain ⟨mb,h1,h2⟩:=I.mod.blt
 exact Calls.Name_function_global I.ok.kind hg (Calls.loadGlobal_builtin (by rw [I.ok.glob]; exact I.mod.glob.keeps I.bk) hm (by rw [I.ok.blt]; exact h1.keeps I.bk) ((h2 x hn).trans hv) h) hd
theorem pe_glob {x:Str} {v:V} {u:Value} {pos:Pos} (hg:Gl X x) (hm:X.mg x=some u) (r:RelV v u) (hd:(x == ("__debug__" : Str))=false:=by decide):PE X (.Name x pos) (tC v) :=
 fun _ _ _ H _ I h=>ld_glob I hg hm ⟨v,H,I,r,h⟩ hd
theorem pe_bltn {x:Str} {v:V} {u:Value} {pos:Pos} (hg:Gl X x) (hm:X.mg x=none) (hv:bootBuiltins x=some u) (r:RelV v u) (hn:x ≠ "__name__" := by decide) (hd:(x == ("__debug__" : Str))=false:=by decide):PE X (.Name x pos) (tC v) :=
 fun _ _ _ H _ I h=>ld_blt I hg hm hv ⟨v,H,I,r,h⟩ hn hd
variable {a b:Expr} {ta tb:TE} {pos:Pos}
def PC (X:Cx) (op:CmpOp) (a b:Expr) (t:TE):Prop :=
 ∀ (pins:List (Addr × Obj)) (s:Shared) (σ:St) (H:Hp) (Q:VK),Inv X pins σ H s→t σ H Q →
  wpAny (model X.prog X.w) X.A (eval a X.env) (fun v s₁=>wpAny (model X.prog X.w) X.A (eval b X.env) (fun u s₂=>wpAny (model X.prog X.w) X.A (compareOp op v u) (EP X pins σ Q) X.xe s₂) X.xe s₁) X.xe s
theorem nobehind (b:Expr) {op:CmpOp} (h:op≠.In) (h2:op≠.NotIn):behindInMarks op b=false:=by
 have e1:(op == CmpOp.In)=false:=by cases op <;> first | rfl | exact absurd rfl h
 have e2:(op == CmpOp.NotIn)=false:=by cases op <;> first | rfl | exact absurd rfl h2
 cases b <;> simp [behindInMarks,e1,e2]
def tIsN (ta:TE):TE:=fun σ H Q=>ta σ H fun x H1=>Q (.bl (decide (x=.non))) H1
theorem RelV.none_iff {x:V} {v:Value} (r:RelV x v):(v == Value.none)=decide (x=.non):=by
 cases x with
 | non=>cases r; rfl
 | bl _=>cases r; rfl
 | int _=>obtain ⟨t,rfl⟩:=r; rfl
 | str _=>obtain ⟨t,rfl⟩:=r; rfl
 | byt _=>obtain ⟨t,rfl⟩:=r; rfl
 | flt _=>obtain ⟨t,rfl⟩:=r; rfl
 | ref _=>cases r; rfl
 | ty _=>cases r; rfl
theorem pc_isN {j pos'} (ha:PE X a ta):PC X .Is a (.Constant .none j pos') (tIsN ta):=by
 intro pins s σ H Q I h
 refine thn (ha pins s σ H _ I h) fun v s1 ⟨x,H1,I1,r1,q1⟩=>?_
 exact Constant_none (is_none_gen ⟨.bl _,H1,I1,by rw [r1.none_iff]; rfl,q1⟩)
def tB (t:TE):TT:=fun σ H Q=>t σ H fun x H1=>∃ c,x=.bl c∧Q c H1
theorem pt_cmp {op:CmpOp} {t:TE} (h:PC X op a b t) (h1:behindInMarks op b=false:=by first | exact nobehind _ (by decide) (by decide) | rfl):PT X (.Compare a [op] [b] pos) (tB t):=by
 intro pins s σ H Q I hw
 refine wpAny_isTrue_Compare1 (thn (h pins s σ H _ I hw) fun v s1 h1=>thn h1 fun u s2 h2=>thn h2 fun c s3 ⟨x,H1,I1,r1,q1⟩=>?_) h1
 obtain ⟨d,rfl,q⟩:=q1
 cases r1
 exact wpAny_truthy_bool ⟨H1,I1,q⟩
theorem pt_val {e:Expr} {t:TE} (h:PE X e t) (he:∀ whole,isTrue e X.env whole=(do let v ←whole; standAt e.pos; holding [v] (truthy v)):=by intro _; rfl):PT X e (tB t):=by
 intro pins s σ H Q I hw
 refine isTrue_plain (thn (h pins s σ H _ I hw) fun v s1 ⟨x,H1,I1,r1,q1⟩=>?_) (he _)
 obtain ⟨d,rfl,q⟩:=q1
 cases r1
 exact wpAny_truthy_bool ⟨H1,I1,q⟩
variable {tA tB':TT} {rest:List Expr}
def tAnd (t u:TT):TT:=fun σ H Q=>t σ H fun c H1=>if c=true then u σ H1 Q else Q false H1
def tOr (t u:TT):TT:=fun σ H Q=>t σ H fun c H1=>if c=true then Q true H1 else u σ H1 Q
def tNot (t:TT):TT:=fun σ H Q=>t σ H fun c H1=>Q (!c) H1
theorem pw_and1 (ha:PT X a tA):PW X (.BoolOp .And [a] pos) tA:=by
 intro wh pins s σ H Q I h
 refine isTrue_and (thn (ha pins s σ H Q I h) fun c s1 e=>?_)
 cases c with
 | true=>exact isTrue_and_nil e
 | false=>exact e
theorem pw_or1 (ha:PT X a tA):PW X (.BoolOp .Or [a] pos) tA:=by
 intro wh pins s σ H Q I h
 refine isTrue_or (thn (ha pins s σ H Q I h) fun c s1 e=>?_)
 cases c with
 | false=>exact isTrue_or_nil e
 | true=>exact e
theorem pw_and (ha:PT X a tA) (hb:PW X (.BoolOp .And (b :: rest) pos) tB'):PW X (.BoolOp .And (a :: b :: rest) pos) (tAnd tA tB'):=by
 intro wh pins s σ H Q I h
 refine isTrue_and (thn (ha pins s σ H _ I h) fun c s1 ⟨H1,I1,q1⟩=>?_)
 cases c with
 | true=>exact hb wh pins s1 σ H1 Q I1 q1
 | false=>exact ⟨H1,I1,q1⟩
theorem pw_or (ha:PT X a tA) (hb:PW X (.BoolOp .Or (b :: rest) pos) tB'):PW X (.BoolOp .Or (a :: b :: rest) pos) (tOr tA tB'):=by
 intro wh pins s σ H Q I h
 refine isTrue_or (thn (ha pins s σ H _ I h) fun c s1 ⟨H1,I1,q1⟩=>?_)
 cases c with
 | true=>exact ⟨H1,I1,q1⟩
 | false=>exact hb wh pins s1 σ H1 Q I1 q1
theorem pt_not (ha:PT X a tA):PT X (.UnaryOp .Not a pos) (tNot tA):=by
 intro pins s σ H Q I h
 exact isTrue_not (ha pins s σ H (fun c H1=>Q (!c) H1) I h)
def tAndV (ta tb:TE):TE:=fun σ H Q=>ta σ H fun x H1=>∃ c,x=.bl c∧if c=true then tb σ H1 Q else Q (.bl false) H1
def tNotV (ta:TE):TE:=fun σ H Q=>ta σ H fun x H1=>∃ c,x=.bl c∧Q (.bl (!c)) H1
theorem pe_one {op} {t:TE} (h:PE X a t):PE X (.BoolOp op [a] pos) t:=fun pins s σ H Q I hw=>BoolOp_one (h pins s σ H Q I hw)
theorem pe_and (ha:PE X a ta) (hb:PE X (.BoolOp .And (b :: rest) pos) tb):PE X (.BoolOp .And (a :: b :: rest) pos) (tAndV ta tb):=by
 intro pins s σ H Q I h
 refine BoolOp_and (thn (ha pins s σ H _ I h) fun v s1 ⟨x,H1,I1,r1,q1⟩=>?_)
 obtain ⟨c,rfl,q1⟩:=q1
 cases r1
 refine wpAny_truthy_bool ?_
 cases c with
 | true=>exact hb pins s1 σ H1 Q I1 q1
 | false=>exact ⟨.bl false,H1,I1,rfl,q1⟩
theorem pe_not (ha:PE X a ta):PE X (.UnaryOp .Not a pos) (tNotV ta):=by
 intro pins s σ H Q I h
 refine UnaryOp_ (thn (ha pins s σ H _ I h) fun v s1 ⟨x,H1,I1,r1,q1⟩=>?_)
 obtain ⟨c,rfl,q1⟩:=q1
 cases r1
 exact not_of (wpAny_truthy_bool ⟨.bl (!c),H1,I1,rfl,q1⟩)
end
end L2
namespace L2
open PySem PySem.Spec PyProof.Rows
def SqL (K:PySem.W.Frag) (H:Hp) (a:Addr) (xs:List V):Prop :=
 Rd H a (.lst xs) ∨
  ∃ (o:Obj) (its:Array Value) (n:Nat),K.lookup a=some o∧o.cls=.type "list" ∧ o.dict=none∧o.data=.seq its n∧its.size≤sizeLine∧Vals xs its.toList
def SqT (K:PySem.W.Frag) (H:Hp) (a:Addr) (xs:List V):Prop :=
 Rd H a (.tup xs) ∨
  ∃ (o:Obj) (its:Array Value) (n:Nat),K.lookup a=some o∧o.cls=.type "tuple" ∧ o.data=.seq its n∧its.size≤sizeLine∧Vals xs its.toList
def absV:Value→Option V
 | .none=>some .non
 | .bool b=>some (.bl b)
 | .int i _=>some (.int i)
 | .str x _=>some (.str x)
 | .bytes b _=>some (.byt b)
 | .float b _=>some (.flt b)
 | .ref a=>some (.ref a)
 | .type n=>some (.ty n)
 | _=>none
theorem RelV.abs {x:V} {u:Value} (r:RelV x u):absV u=some x:=by
 cases x with
 | non=>cases r; rfl
 | bl _=>cases r; rfl
 | int _=>obtain ⟨t,rfl⟩:=r; rfl
 | str _=>obtain ⟨t,rfl⟩:=r; rfl
 | byt _=>obtain ⟨t,rfl⟩:=r; rfl
 | flt _=>obtain ⟨t,rfl⟩:=r; rfl
 | ref _=>cases r; rfl
 | ty _=>cases r; rfl
theorem RelV.inj {x y:V} {u:Value} (r:RelV x u) (q:RelV y u):x=y:=Option.some.inj (r.abs.symm.trans q.abs)
theorem Vals.inj:∀ {xs ys:List V} {us:List Value},Vals xs us→Vals ys us→xs=ys
 | _,_,_,.nil,.nil=>rfl
 | _,_,_,.cons r t,.cons r' t'=>by rw [r.inj r',Vals.inj t t']
section
variable {X:Cx} {pins:List (Addr × Obj)} {σ:St} {H:Hp} {s:Shared} {a:Addr} {xs ys:List V}
theorem SqL.of {K:PySem.W.Frag} (h:H a=some (.lst xs)):SqL K H a xs:=.inl (.inl h)
theorem SqT.of {K:PySem.W.Frag} (h:H a=some (.tup xs)):SqT K H a xs:=.inl (.inl h)
theorem Inv.list (I:Inv X pins σ H s) (h:SqL X.K H a xs):∃ its:List Value,Vals xs its∧PlainL s.heap a its.toArray∧xs.length≤sizeLine:=by
 rcases h with h | ⟨o,its,n,hk,hc,hd,hs,hz,r⟩
 · obtain ⟨z,its,n,r,e⟩:=h.ok I.hok
   exact ⟨its,r,⟨_,n,e,rfl,rfl,rfl⟩,z⟩
 · refine ⟨its.toList,r,⟨o,n,I.kIn a o hk,hc,hd,by simpa using hs⟩,?_⟩
   have e:=r.length
   simp only [Array.length_toList] at e
   omega
theorem Inv.tuple (I:Inv X pins σ H s) (h:SqT X.K H a xs):∃ its:List Value,Vals xs its∧IsTup s.heap a its.toArray∧xs.length≤sizeLine:=by
 rcases h with h | ⟨o,its,n,hk,hc,hs,hz,r⟩
 · obtain ⟨z,its,r,p⟩:=h.ok I.hok
   exact ⟨its,r,p,z⟩
 · refine ⟨its.toList,r,⟨o,I.kIn a o hk,hc,n,by simpa using hs⟩,?_⟩
   have e:=r.length
   simp only [Array.length_toList] at e
   omega
theorem Inv.list_inj (I:Inv X pins σ H s) (h:SqL X.K H a xs) (h':SqL X.K H a ys):xs=ys:=by
 obtain ⟨its,r,⟨o,n,e,_,_,d⟩,_⟩:=I.list h
 obtain ⟨its',r',⟨o',n',e',_,_,d'⟩,_⟩:=I.list h'
 rw [e] at e'; cases e'
 rw [d] at d'
 injection d' with d1 _
 have:its=its':=by simpa using congrArg Array.toList d1
 subst this
 exact r.inj r'
theorem Inv.tuple_inj (I:Inv X pins σ H s) (h:SqT X.K H a xs) (h':SqT X.K H a ys):xs=ys:=by
 obtain ⟨its,r,⟨o,e,_,n,d⟩,_⟩:=I.tuple h
 obtain ⟨its',r',⟨o',e',_,n',d'⟩,_⟩:=I.tuple h'
 rw [e] at e'; cases e'
 rw [d] at d'
 injection d' with d1 _
 have:its=its':=by simpa using congrArg Array.toList d1
 subst this
 exact r.inj r'
end
abbrev Cx.wish (X:Cx) (E:Value→Shared→Prop):Cx:={ X with xe:=E }
abbrev Cx.nox (X:Cx):Cx:=X.wish fun _ _=>False
theorem Cx.Ok.wish {X:Cx} (ok:X.Ok) (E:Value→Shared→Prop):(X.wish E).Ok :=
 ⟨ok.mod,ok.kind,ok.glob,ok.blt,ok.above,ok.inj,ok.has,ok.cab,ok.hd,ok.frames,ok.stk,ok.exf,ok.bs,ok.bsz,ok.noex,ok.exfs,ok.funs,ok.frf⟩
theorem Cx.Ok.unwish {X:Cx} {E:Value→Shared→Prop} (ok:(X.wish E).Ok):X.Ok :=
 ⟨ok.mod,ok.kind,ok.glob,ok.blt,ok.above,ok.inj,ok.has,ok.cab,ok.hd,ok.frames,ok.stk,ok.exf,ok.bs,ok.bsz,ok.noex,ok.exfs,ok.funs,ok.frf⟩
section
variable {X:Cx} {pins:List (Addr × Obj)} {σ:St} {H:Hp} {s:Shared} {E:Value→Shared→Prop}
theorem Inv.wish (I:Inv X pins σ H s) (E:Value→Shared→Prop):Inv (X.wish E) pins σ H s:=⟨I.ok.wish E,I.os,I.bare,I.base,I.loc,I.cell,I.free,I.freeC,I.pin,I.hok,I.len⟩
theorem Inv.unwish (I:Inv (X.wish E) pins σ H s):Inv X pins σ H s:=⟨I.ok.unwish,I.os,I.bare,I.base,I.loc,I.cell,I.free,I.freeC,I.pin,I.hok,I.len⟩
theorem SP.unwish {D:Ends} {f:Flow} {s':Shared} (h:SP (X.wish E) pins D f s'):SP X pins D f s':=by
 cases f with
 | next=>obtain ⟨σ',H',I,q⟩:=h; exact ⟨σ',H',I.unwish,q⟩
 | brk=>obtain ⟨σ',H',I,q⟩:=h; exact ⟨σ',H',I.unwish,q⟩
 | cont=>obtain ⟨σ',H',I,q⟩:=h; exact ⟨σ',H',I.unwish,q⟩
 | ret u=>obtain ⟨v,σ',H',I,r,q⟩:=h; exact ⟨v,σ',H',I.unwish,r,q⟩
theorem PSs.nox {st:List Stmt} {t:TS} (h:PSs X.nox st t):PSs X st t:=fun pins s σ H D I hw =>
 wpAny_mono (h pins s σ H D (I.wish _) hw) (fun _ _ q=>q.unwish) fun _ _ z=>False.elim z
end
section
variable {X:Cx} {st:Stmt} {rest:List Stmt} {t u:TS} {e:Expr} {te:TE} {pos:Pos}
def tNext:TS:=fun D σ H=>D.nx σ H
def tSeq (t u:TS):TS:=fun D σ H=>t { D with nx:=u D } σ H
theorem pss_nil:PSs X [] tNext:=fun _ _ σ H _ I h=>wpAny_execs_nil ⟨σ,H,I,h⟩
theorem pss_cons (h1:PS X st t) (h2:PSs X rest u):PSs X (st :: rest) (tSeq t u):=by
 intro pins s σ H D I h
 refine wpAny_execs_cons (thn (h1 pins s σ H { D with nx:=u D } I h) fun f s1 q=>?_)
 cases f with
 | next =>
   obtain ⟨σ',H',I',q⟩:=q
   exact h2 pins s1 σ' H' D I' q
 | ret v=>exact q
 | brk=>exact q
 | cont=>exact q
theorem pss_one (h1:PS X st t):PSs X [st] t:=by
 intro pins s σ H D I h
 refine wpAny_execs_cons (thn (h1 pins s σ H D I h) fun f s1 q=>?_)
 cases f with
 | next=>exact wpAny_execs_nil q
 | ret v=>exact q
 | brk=>exact q
 | cont=>exact q
theorem Inv.quiet {pins:List (Addr × Obj)} {σ:St} {H:Hp} {s:Shared} (I:Inv X pins σ H s):interactive X.env=false:=by simp [interactive,I.ok.kind]
def tDrop (te:TE):TS:=fun D σ H=>te σ H fun _ H1=>D.nx σ H1
theorem ps_expr (he:PE X e te) (hs:swapsWith e none pos.line X.env=pure false:=by rfl):PS X (.Expr e pos) (tDrop te):=by
 intro pins s σ H D I h
 exact wpAny_Expr_any (thn (he pins s σ H _ I h) fun v s1 ⟨x,H1,I1,r1,q1⟩=>⟨σ,H1,I1,q1⟩) I.quiet hs
def tRet (te:TE):TS:=fun D σ H=>te σ H D.rt
theorem ps_ret (he:PE X e te):PS X (.Return (some e) pos) (tRet te):=by
 intro pins s σ H D I h
 exact wpAny_Return_some (thn (he pins s σ H _ I h) fun v s1 ⟨x,H1,I1,r1,q1⟩=>⟨x,σ,H1,I1,r1,q1⟩)
def tIfS (c:TT) (t u:TS):TS:=fun D σ H=>c σ H fun b H1=>if b=true then t D σ H1 else u D σ H1
theorem ps_if {c:Expr} {a b:List Stmt} {tc:TT} (hc:PT X c tc) (ha:PSs X a t) (hb:PSs X b u):PS X (.If c a b pos) (tIfS tc t u):=by
 intro pins s σ H D I h
 refine wpAny_If (thn (hc pins s σ H _ I h) fun d s1 ⟨H1,I1,q1⟩=>?_)
 cases d with
 | true=>exact ha pins s1 σ H1 D I1 q1
 | false=>exact hb pins s1 σ H1 D I1 q1
def tNever:TS:=fun _ _ _=>False
theorem ps_never:PS X st tNever:=fun _ _ _ _ _ _ h=>h.elim
end
abbrev TG:=V→St→Hp→(St→Hp→Prop)→Prop
abbrev TGs:=List V→St→Hp→(St→Hp→Prop)→Prop
def PG (X:Cx) (target:Expr) (t:TG):Prop :=
 ∀ (pins:List (Addr × Obj)) (s:Shared) (σ:St) (H:Hp) (v:V) (u:Value) (Q:St→Hp→Prop),Inv X pins σ H s→RelV v u→t v σ H Q →
  wpAny (model X.prog X.w) X.A (assign target X.env u) (fun _ s'=>∃ σ' H',Inv X pins σ' H' s'∧Q σ' H') X.xe s
def PGs (X:Cx) (ts:List Expr) (t:TGs):Prop :=
 ∀ (pins:List (Addr × Obj)) (s:Shared) (σ:St) (H:Hp) (vs:List V) (us:List Value) (Q:St→Hp→Prop),Inv X pins σ H s→Vals vs us→t vs σ H Q →
  wpAny (model X.prog X.w) X.A (assignInOrder ((assignEach ts X.env).map (·.2)) us) (fun _ s'=>∃ σ' H',Inv X pins σ' H' s'∧Q σ' H') X.xe s
abbrev TSet:=V→V→V→Hp→(Hp→Prop)→Prop
def PSet (X:Cx) (t:TSet):Prop :=
 ∀ (pins:List (Addr × Obj)) (s:Shared) (σ:St) (H:Hp) (o i v:V) (ov iv u:Value) (Q:Hp→Prop),Inv X pins σ H s→RelV o ov→RelV i iv→RelV v u→t o i v H Q →
  wpAny (model X.prog X.w) X.A (setItem ov iv u) (fun _ s'=>∃ H',Inv X pins σ H' s'∧Q H') X.xe s
abbrev TIp:=V→V→Hp→VK→Prop
section
variable {X:Cx} {pos:Pos}
def gName (i:Nat):TG:=fun v σ H Q=>Q (σ.set i (some v)) H
theorem pg_name {i:Nat} {x:Str} (hN:X.N.Nodup) (hi:X.N[i]?=some x:=by rfl) (hx:Loc X.env.scope x:=by first | exact .inl rfl | exact .inr rfl) (hf:X.fn x=true∨X.env.scope.names.lookup x=some .local:=by first | exact .inl rfl | exact .inr rfl | assumption):PG X (.Name x pos) (gName i):=by
 intro pins s σ H v u Q I r h
 exact wpAny_assign_Name (store_ok I hN hi hx r (fun s' I'=>⟨_,H,I',h⟩) hf)
def gNil:TGs:=fun vs σ H Q=>vs=[]∧Q σ H
def gCons (t:TG) (u:TGs):TGs:=fun vs σ H Q=>∃ v r,vs=v :: r∧t v σ H fun σ' H'=>u r σ' H' Q
theorem pgs_nil:PGs X [] gNil:=by
 intro pins s σ H vs us Q I r h
 obtain ⟨e,h⟩:=h
 subst e
 cases r
 exact assignInOrder_nil ⟨σ,H,I,h⟩
theorem pgs_cons {e:Expr} {es:List Expr} {t:TG} {u:TGs} (h1:PG X e t) (h2:PGs X es u)
 (hs:(assignEach (e :: es) X.env).map (·.2)=assign e X.env :: (assignEach es X.env).map (·.2):=by rfl):PGs X (e :: es) (gCons t u):=by
 intro pins s σ H vs us Q I r h
 obtain ⟨v,vr,e1,h⟩:=h
 subst e1
 cases r with
 | cons r rr =>
   rw [hs]
   refine assignInOrder_cons (thn (h1 pins s σ H _ _ _ I r h) fun _ s1 ⟨σ1,H1,I1,q1⟩=>?_)
   exact h2 pins s1 σ1 H1 _ _ Q I1 rr q1
def gTup (K:PySem.W.Frag) (n:Nat) (t:TGs):TG:=fun v σ H Q=>∃ a xs,v=.ref a∧SqT K H a xs∧xs.length=n∧t xs σ H Q
theorem pg_tup {es:List Expr} {k:Nat} {t:TGs} {n:Nat} (hc:X.calm=true) (h:PGs X es t)
 (hn:(assignEach es X.env).length=n:=by rfl) (hst:(assignEach es X.env).findIdx? (·.1)=none:=by rfl):PG X (.Tuple es k pos) (gTup X.K n t):=by
 intro pins s σ H v u Q I r hw
 obtain ⟨a,xs,e1,hq,hl,hw⟩:=hw
 subst e1
 cases r
 obtain ⟨its,rv,ht,hz⟩:=I.tuple hq
 refine assign_Tuple_tuple (I.ok.hd hc) ht (by simp [hn,←hl,rv.length]) hst fun h' hx=>?_
 have I1:Inv X pins σ H { s with heap:=h' }:=I.kept (t':=s.toks) fun b o e=>hx b o (Nat.ne_of_lt (Heap.lt_size e)) e
 exact h pins _ σ H xs _ Q I1 (by simpa using rv) hw
def gSub (to ti:TE) (t:TSet):TG:=fun v σ H Q=>to σ H fun o H1=>ti σ H1 fun i H2=>t o i v H2 fun H3=>Q σ H3
theorem pg_sub {o i:Expr} {to ti:TE} {t:TSet} (ho:PE X o to) (hi:PE X i ti) (hs:PSet X t)
 (ha:∀ v,assign (.Subscript o i pos) X.env v=(do
  let ov ←holding [v] (eval o X.env)
  let iv ←holding [v,ov] (eval i X.env)
  standAt pos
  holding [v,ov,iv] (setItem ov iv v)
  release [v,ov,iv] []):=by intro _; rfl):PG X (.Subscript o i pos) (gSub to ti t):=by
 intro pins s σ H v u Q I r h
 rw [ha]
 refine wpAny_bind (wpAny_holding (thn (ho pins s σ H _ I h) fun ov s1 ⟨x,H1,I1,r1,q1⟩=>?_))
 refine wpAny_bind (wpAny_holding (thn (hi pins s1 σ H1 _ I1 q1) fun iv s2 ⟨y,H2,I2,r2,q2⟩=>?_))
 refine wpAny_bind (wpAny_standAt (wpAny_bind (wpAny_holding (thn (hs pins s2 σ H2 x y v ov iv u _ I2 r1 r2 r q2) fun _ s3 ⟨H3,I3,q3⟩=>?_))))
 exact wpAny_release ⟨σ,H3,I3,q3⟩
def tAsg (te:TE) (g:TG):TS:=fun D σ H=>te σ H fun x H1=>g x σ H1 D.nx
theorem ps_asg {tg e:Expr} {te:TE} {g:TG} (he:PE X e te) (hg:PG X tg g) (hs:swapsWithSole [tg] e pos.line X.env=pure false:=by rfl) (hw:swappedStores [tg] e X.env=pure none:=by rfl)
 (h1:(assignEach [tg] X.env).map (·.2)=[assign tg X.env]:=by rfl):PS X (.Assign [tg] e pos) (tAsg te g):=by
 intro pins s σ H D I h
 refine wpAny_Assign_stores (thn (he pins s σ H _ I h) fun v s1 ⟨x,H1,I1,r1,q1⟩=>?_) hs hw
 rw [h1]
 exact thn (hg pins s1 σ H1 x v _ I1 r1 q1) fun _ s2 q=>q
theorem ps_set {i:Nat} {x:Str} {e:Expr} {te:TE} {pos':Pos} (hN:X.N.Nodup) (he:PE X e te) (hi:X.N[i]?=some x:=by rfl) (hx:Loc X.env.scope x:=by first | exact .inl rfl | exact .inr rfl) (hs:swapsWith e (some (.Name x pos')) pos.line X.env=pure false:=by rfl) (hf:X.fn x=true∨X.env.scope.names.lookup x=some .local:=by first | exact .inl rfl | exact .inr rfl | assumption) :
 PS X (.Assign [.Name x pos'] e pos) (tAsg te (gName i)):=by
 intro pins s σ H D I h
 refine wpAny_Assign_Name (thn (he pins s σ H _ I h) fun v s1 ⟨y,H1,I1,r1,q1⟩=>?_) hs
 exact store_ok I1 hN hi hx r1 (fun s2 I2=>⟨_,H1,I2,q1⟩) hf
end
section
variable {X:Cx} {pos:Pos}
def tWhile (c:TT) (tb:TS):TS:=fun D σ H=>∃ W:Nat→St→Hp→Prop,(∃ m,W m σ H)∧∀ m σ H,W m σ H →
 c σ H fun b H1=>if b=true then ∃ N:St→Hp→Prop,(∀ σ' H',N σ' H'→∃ m',m' < m∧W m' σ' H')∧tb { D with nx:=N,ct:=N,bk:=D.nx } σ H1 else D.nx σ H1
theorem ps_while {c:Expr} {body:List Stmt} {tc:TT} {tb:TS} (hp:PassesOwn (model X.prog X.w) X.A X.env X.xe) (hc:PT X c tc) (hb:PSs X body tb):PS X (.While c body [] pos) (tWhile tc tb):=by
 intro pins s σ H D I h
 obtain ⟨W,⟨m0,w0⟩,turn⟩:=h
 refine wpAny_While (codeAny_whileLoop (fun n s'=>∃ σ' H',Inv X pins σ' H' s'∧W n σ' H') ?_ m0 ⟨σ,H,I,w0⟩)
 rintro n s1 ⟨σ1,H1,I1,w1⟩
 refine wpAny_passesOwn hp (thn (hc pins s1 σ1 H1 _ I1 (turn n σ1 H1 w1)) fun b s2 ⟨H2,I2,q2⟩=>?_)
 cases b with
 | true =>
   obtain ⟨N,hN,q2⟩:=q2
   rw [if_pos rfl]
   refine wpAny_passesOwn hp (thn (hb pins s2 σ1 H2 _ I2 q2) fun f s3 q3=>?_)
   cases f with
   | next =>
     obtain ⟨σ3,H3,I3,n3⟩:=q3
     obtain ⟨m',hm,w3⟩:=hN σ3 H3 n3
     exact ⟨m',hm,σ3,H3,I3,w3⟩
   | cont =>
     obtain ⟨σ3,H3,I3,n3⟩:=q3
     obtain ⟨m',hm,w3⟩:=hN σ3 H3 n3
     exact ⟨m',hm,σ3,H3,I3,w3⟩
   | brk=>exact q3
   | ret v=>exact q3
 | false =>
   rw [if_neg Bool.false_ne_true]
   exact wpAny_execs_nil ⟨σ1,H2,I2,q2⟩
end
structure It where
 go:Nat→Hp→Prop
 yld:Nat→Hp→V→Hp→Prop
 stop:Nat→Hp→Prop
def FpOk (X:Cx) (pins:List (Addr × Obj)) (H:Hp) (b:Addr):Prop :=
 H b=none∧b≠X.env.locals∧b ∉ X.fs∧(b∈X.ex∨X.s₀.heap.objs.size≤b)∧(∀ x c,X.env.cells.lookup x=some c→c≠b)∧∀ p∈X.pn++pins,p.1≠b
theorem Inv.fpOk {X:Cx} {pins:List (Addr × Obj)} {σ:St} {H H':Hp} {s:Shared} {b:Addr} (I:Inv X pins σ H s) (hb:s.heap.objs.size≤b) (hn:H' b=none):FpOk X pins H' b:=by
 refine ⟨hn,Nat.ne_of_gt (Nat.lt_of_lt_of_le I.lt hb),I.nofs hb,.inr (Nat.le_trans I.sz hb),fun x c e z=>?_,fun p hp z=>?_⟩
 · obtain ⟨v,q⟩:=I.cell x c e
   exact absurd (Nat.lt_of_lt_of_le q.lt (by rw [z]; exact hb)) (Nat.lt_irrefl _)
 · exact absurd (Nat.lt_of_lt_of_le (Heap.lt_size (I.pin p hp).1) (by rw [z]; exact hb)) (Nat.lt_irrefl _)
structure Turn (P:Program) (w:World) (K:PySem.W.Frag) (tg:Expr) (J:It) (fp:List Addr) (it:Addr) (tn:Nat→Heap→Prop):Prop where
 mem:it∈fp
 obj:∀ i h,tn i h→∀ b∈fp,∃ o,h.get? b=some o∧∀ v,o.data≠.cell v
 keep:∀ i h h',tn i h→(∀ b∈fp,∀ o,h.get? b=some o→h'.get? b=some o)→tn i h'
 item:∀ (X:Cx),X.prog=P→X.w=w→X.K=K→X.calm=true→∀ (i:Nat) (pins:List (Addr × Obj)) (s:Shared) (σ:St) (H:Hp) (E:Value→Shared→Prop),Inv X pins σ H s→(∀ b∈fp,FpOk X pins H b)→tn i s.heap→J.go i H →
  wpAny (model P w) X.A (pyNext (.ref it)) (fun r s1=>∃ u,r=some u ∧
   wpAny (model P w) X.A (letOwnedTupleGo tg (.ref it) u) (fun _ s2=>∃ x H',Inv X pins σ H' s2∧RelV x u∧J.yld i H x H'∧tn (i + 1) s2.heap∧∀ b∈fp,H' b=none) E s1) E s
 done:∀ (X:Cx),X.prog=P→X.w=w→X.K=K→X.calm=true→∀ (i:Nat) (pins:List (Addr × Obj)) (s:Shared) (σ:St) (H:Hp) (E:Value→Shared→Prop),Inv X pins σ H s→(∀ b∈fp,FpOk X pins H b)→tn i s.heap→J.stop i H →
  wpAny (model P w) X.A (pyNext (.ref it)) (fun r s1=>r=none∧Inv X pins σ H s1) E s
 self:∀ (A:Around) (i:Nat) (s:Shared) (Q:Value→Shared→Prop) (E:Value→Shared→Prop),tn i s.heap→Q (.ref it) s→wpAny (model P w) A (pyIter (.ref it)) Q E s
abbrev TI:=St→Hp→(It→Hp→Prop)→Prop
def PIE (X:Cx) (pins:List (Addr × Obj)) (σ:St) (tg:Expr) (R:It→Hp→Prop) (itv:Value) (s2:Shared):Prop :=
 ∃ (it:Addr) (fp:List Addr) (tn:Nat→Heap→Prop) (J:It) (H':Hp),itv=.ref it∧Inv X pins σ H' s2∧Turn X.prog X.w X.K tg J fp it tn∧tn 0 s2.heap∧(∀ b∈fp,FpOk X pins H' b)∧R J H'
def PI (X:Cx) (tg iter:Expr) (wi:TI):Prop :=
 ∀ (pins:List (Addr × Obj)) (s:Shared) (σ:St) (H:Hp) (R:It→Hp→Prop),Inv X pins σ H s→wi σ H R →
  wpAny (model X.prog X.w) X.A (eval iter X.env) (fun v s1=>wpAny (model X.prog X.w) X.A (pyIter v) (PIE X pins σ tg R) X.xe s1) X.xe s
theorem go_of {M:Model} {A:Around} {E:Value→Shared→Prop} {s:Shared} {tg:Expr} {it:Addr} {u:Value} {o:Obj} {n:String} {vs:Array Value} {Q:Unit→Shared→Prop} (ho:s.heap.get? it=some o) (hc:o.cls=.type n) (hd:o.data=.fields vs)
 (hn:["enumerate", "zip", "dict_itemiterator", "dict_reverseitemiterator", "odict_iterator", "itertools.zip_longest", "itertools.pairwise"].contains n=false) (hQ:Q () s):wpAny M A (letOwnedTupleGo tg (.ref it) u) Q E s:=by
 unfold letOwnedTupleGo
 cases tg <;> first
  | exact wpAny_pure hQ
  | (cases u <;> first
   | exact wpAny_pure hQ
   | (refine wpAny_bind (wpAny_load ho ?_)
      rw [hc,hd]
      show wpAny M A (if (["enumerate", "zip", "dict_itemiterator", "dict_reverseitemiterator", "odict_iterator", "itertools.zip_longest", "itertools.pairwise"].contains n && vs[0]? == some (rawInt _))=true then _ else _) Q E s
      rw [if_neg (by intro h; rw [hn,Bool.false_and] at h; cases h)]
      exact wpAny_pure hQ))
def Itl (K:PySem.W.Frag) (a:Addr):It :=
 ⟨fun i H=>∃ xs x,SqL K H a xs∧xs[i]?=some x,fun i H x H'=>H'=H∧∀ xs,SqL K H a xs→xs[i]?=some x,fun i H=>∃ xs,SqL K H a xs∧xs.length≤i⟩
def Itr (lo:Int) (n:Nat):It:=⟨fun i _=>i < n,fun i H x H'=>H'=H∧x=.int (lo + i),fun i _=>n≤i⟩
theorem turn_list {P:Program} {w:World} {K:PySem.W.Frag} {tg:Expr} (a it:Addr):Turn P w K tg (Itl K a) [it] it (fun i h=>h.IsListIter it a i) where
 mem:=by simp
 obj:=fun i h st b hb=>by
  have e:b=it:=by simpa using hb
  subst e
  obtain ⟨o,e,c,d⟩:=st
  exact ⟨o,e,fun v z=>by rw [d] at z; cases z⟩
 keep:=fun i h h' st k=>st.at fun o e=>k it (by simp) o e
 item:=by
  intro X hP hw hK hc i pins s σ H E I hf st hg
  subst hP hw hK
  obtain ⟨xs,x,hq,hx⟩:=hg
  obtain ⟨its,rv,p,hz⟩:=I.list hq
  obtain ⟨u,hu,ru⟩:=rv.get hx
  obtain ⟨f0,f1,f2,f3,f4,f5⟩:=hf it (by simp)
  refine wpAny_pyNext_list_item st p.isList (x:=u) (by simpa using hu) fun h' st' sb=>?_
  have I1:Inv X pins σ H { s with heap:=h' }:=I.turned (t':=s.toks) (fun b o hb e=>(sb.2 b hb).trans e) f0 f1 f3 f4 f5
  obtain ⟨o,e,c,d⟩:=id st'
  exact ⟨u,rfl,go_of (s:={ s with heap:=h' }) e c d (by decide) ⟨x,H,I1,ru,⟨rfl,fun ys hy=>by rw [I.list_inj hy hq]; exact hx⟩,st',fun b hb=>(hf b hb).1⟩⟩
 done:=by
  intro X hP hw hK hc i pins s σ H E I hf st hg
  subst hP hw hK
  obtain ⟨xs,hq,hx⟩:=hg
  obtain ⟨its,rv,p,hz⟩:=I.list hq
  obtain ⟨f0,f1,f2,f3,f4,f5⟩:=hf it (by simp)
  have hl:=rv.length
  exact wpAny_pyNext_list_end (I.ok.hd hc) st p.isList (by simp; omega) fun h' eb=>⟨rfl,I.turned (t':=s.toks) (fun b o hb e=>eb b o hb e) f0 f1 f3 f4 f5⟩
 self:=fun _ _ _ _ _ st h=>wpAny_pyIter_listiter st h
theorem turn_range {P:Program} {w:World} {K:PySem.W.Frag} {tg:Expr} (it:Addr) (lo:Int) (n:Nat):Turn P w K tg (Itr lo n) [it] it (fun i h=>IsRangeIter h it (lo + (i:Nat) * 1) ((n:Int) - (i:Nat)) 1) where
 mem:=by simp
 obj:=fun i h st b hb=>by
  have e:b=it:=by simpa using hb
  subst e
  exact ⟨_,st,fun v z=>by
   have z':Data.fields _=Data.cell v:=z
   cases z'⟩
 keep:=fun i h h' st k=>k it (by simp) _ st
 item:=by
  intro X hP hw hK hc i pins s σ H E I hf st hg
  subst hP hw hK
  obtain ⟨f0,f1,f2,f3,f4,f5⟩:=hf it (by simp)
  have W:=Walks.range (prog:=X.prog) (w:=X.w) (I.ok.hd hc) it lo 1 n
  refine W.item i s _ _ hg st fun v h' tk hv st' kk=>?_
  obtain ⟨t,rfl⟩:=hv
  have I1:Inv X pins σ H { s with heap:=h',toks:=tk }:=I.turned (fun b o hb e=>kk b o (by simpa using hb) e) f0 f1 f3 f4 f5
  refine ⟨_,rfl,go_of (s:={ s with heap:=h',toks:=tk }) (n := "range_iterator") st' rfl rfl (by decide) ⟨.int (lo + i),H,I1,⟨t,?_⟩,⟨rfl,rfl⟩,st',fun b hb=>(hf b hb).1⟩⟩
  rw [Int.mul_one]
 done:=by
  intro X hP hw hK hc i pins s σ H E I hf st hg
  subst hP hw hK
  obtain ⟨f0,f1,f2,f3,f4,f5⟩:=hf it (by simp)
  exact wpAny_pyNext_range_end (I.ok.hd hc) st (by have:n≤i:=hg; omega) fun h' eb=>⟨rfl,I.turned (t':=s.toks) (fun b o hb e=>eb b o hb e) f0 f1 f3 f4 f5⟩
 self:=fun _ _ _ _ _ st h=>wpAny_pyIter_rangeiter st h
end L2
namespace L2
open PySem PySem.Spec PyProof.Rows
section
variable {X:Cx} {tg:Expr}
def iList (K:PySem.W.Frag) (tl:TE):TI:=fun σ H R=>tl σ H fun x H1=>∃ a,x=.ref a∧(∃ xs,SqL K H1 a xs)∧R (Itl K a) H1
theorem pi_list {l:Expr} {tl:TE} (hl:PE X l tl):PI X tg l (iList X.K tl):=by
 intro pins s σ H R I h
 refine thn (hl pins s σ H _ I h) fun v s1 ⟨x,H1,I1,r1,q1⟩=>?_
 obtain ⟨a,e,⟨xs,hq⟩,q⟩:=q1
 subst e
 cases r1
 obtain ⟨its,rv,p,hz⟩:=I1.list hq
 refine wpAny_pyIter_list p.isList ?_
 refine ⟨s1.heap.objs.size,[s1.heap.objs.size],_,_,H1,rfl,I1.kept (t':=s1.toks) fun b o e=>Heap.get?_push_of_some _ e,turn_list a _,⟨_,Heap.get?_push_size _ rfl,rfl,rfl⟩,fun b hb=>?_,q⟩
 have e:b=s1.heap.objs.size:=by simpa using hb
 subst e
 exact I1.fpOk (Nat.le_refl _) (I1.hok.fresh (Nat.le_refl _))
theorem range_it {pins:List (Addr × Obj)} {σ:St} {H:Hp} {s:Shared} {R:It→Hp→Prop} {E:Value→Shared→Prop} {lo hi:Int} {t u v:Tok} {tk:Nat} (I:Inv X pins σ H s) (h1:-(2 ^ 62)≤lo) (h2:lo < 2 ^ 62) (h3:-(2 ^ 62)≤hi) (h4:hi < 2 ^ 62)
 (q:R (Itr lo (hi - lo).toNat) H):wpAny (model X.prog X.w) X.A (pyIter (.ref s.heap.objs.size)) (PIE X pins σ tg R) E { s with heap:=s.heap.push { cls:=.type "range",data:=.fields #[.int lo t,.int hi u,.int 1 v] },toks:=tk }:=by
 refine wpAny_pyIter_range (IsRange.new ..) (small_one h1 h2 h3 h4) ?_
 have I1:Inv X pins σ H { s with heap:=s.heap.push { cls:=.type "range",data:=.fields #[.int lo t,.int hi u,.int 1 v] },toks:=tk }:=I.kept fun b o e=>Heap.get?_push_of_some _ e
 refine ⟨(s.heap.push { cls:=.type "range",data:=.fields #[.int lo t,.int hi u,.int 1 v] }).objs.size,[(s.heap.push { cls:=.type "range",data:=.fields #[.int lo t,.int hi u,.int 1 v] }).objs.size],_,_,H,rfl,
  I1.kept (t':=tk) fun b o e=>Heap.get?_push_of_some _ e,turn_range _ lo (hi - lo).toNat,?_,fun b hb=>?_,q⟩
 · have e1:lo + ((0:Nat):Int) * 1=lo:=by simp
   have e2:(((hi - lo).toNat:Nat):Int) - ((0:Nat):Int)=Builtin.Range.rangeSize lo hi 1:=by rw [rangeSize_one]; split <;> omega
   show IsRangeIter _ _ (lo + ((0:Nat):Int) * 1) ((((hi - lo).toNat:Nat):Int) - ((0:Nat):Int)) 1
   rw [e1,e2]
   exact Heap.get?_push_size _ rfl
 · have e:b=(s.heap.push { cls:=.type "range",data:=.fields #[.int lo t,.int hi u,.int 1 v] }).objs.size:=by simpa using hb
   subst e
   exact I1.fpOk (Nat.le_refl _) (I1.hok.fresh (Nat.le_refl _))
def iRng1 (ta:TA):TI:=fun σ H R=>ta σ H fun vs H1=>∃ j:Int,vs=[.int j]∧-(2 ^ 62)≤j∧j < 2 ^ 62∧R (Itr 0 j.toNat) H1
def iRng2 (ta:TA):TI:=fun σ H R=>ta σ H fun vs H1=>∃ i j:Int,vs=[.int i,.int j]∧(-(2 ^ 62)≤i∧i < 2 ^ 62∧-(2 ^ 62)≤j∧j < 2 ^ 62)∧R (Itr i (j - i).toNat) H1
theorem pi_range1 {a:Expr} {ta:TA} {p pos:Pos} (hg:Gl X "range") (hm:X.mg "range" = none) (ha:PA X [a] ta) (hs:starEach [a] X.env=[(false,eval a X.env)]:=by rfl):PI X tg (.Call (.Name "range" p) [a] [] pos) (iRng1 ta):=by
 intro pins s σ H R I h
 refine Call_ (ld_blt I hg hm boot_range (PyProof.Rows.callWith_type1 (thn (ha pos pins s σ H _ I h) fun us s1 ⟨vs,H1,I1,r1,q1⟩=>?_) hs rfl))
 obtain ⟨j,e,q1,q2,q⟩:=q1
 subst e
 cases r1 with
 | cons r rr =>
   cases rr
   obtain ⟨t,rfl⟩:=r
   exact call_range_1 (range_it I1 (by omega) (by omega) q1 q2 (by simpa using q))
theorem pi_range2 {a b:Expr} {ta:TA} {p pos:Pos} (hg:Gl X "range") (hm:X.mg "range" = none) (ha:PA X [a,b] ta) (hs:starEach [a,b] X.env=[(false,eval a X.env),(false,eval b X.env)]:=by rfl) (hs2:starEach [b] X.env=[(false,eval b X.env)]:=by rfl) :
 PI X tg (.Call (.Name "range" p) [a,b] [] pos) (iRng2 ta):=by
 intro pins s σ H R I h
 refine Call_ (ld_blt I hg hm boot_range (PyProof.Rows.callWith_type1 (thn (ha pos pins s σ H _ I h) fun us s1 ⟨vs,H1,I1,r1,q1⟩=>?_) (by rw [hs,hs2]) (by rw [hs2]; rfl)))
 obtain ⟨i,j,e,⟨q1,q2,q3,q4⟩,q⟩:=q1
 subst e
 cases r1 with
 | cons r rr =>
   cases rr with
   | cons r' rr =>
     cases rr
     obtain ⟨t,rfl⟩:=r
     obtain ⟨t',rfl⟩:=r'
     exact call_range_2 (range_it I1 q1 q2 q3 q4 q)
def Loop (J:It) (g:TG) (tb:TS) (D:Ends) (σ:St) (H1:Hp):Prop:=∃ W:Nat→Nat→St→Hp→Prop,(∃ m,W 0 m σ H1)∧∀ i m σ H,W i m σ H →
 (J.stop i H∧D.nx σ H)∨(J.go i H∧∃ N:St→Hp→Prop,(∀ σ' H',N σ' H'→∃ m',m' < m∧W (i + 1) m' σ' H')∧∀ x H',J.yld i H x H'→g x σ H' fun σ2 H2=>tb { D with nx:=N,ct:=N,bk:=D.nx } σ2 H2)
def tFor (wi:TI) (g:TG) (tb:TS):TS:=fun D σ H=>wi σ H fun J H1=>Loop J g tb D σ H1
def pinsAt (fp:List Addr) (h:Heap):List (Addr × Obj):=fp.filterMap fun b=>(h.get? b).map fun o=>(b,o)
theorem mem_pinsAt {fp:List Addr} {h:Heap} {b:Addr} {o:Obj} (hb:b∈fp) (e:h.get? b=some o):(b,o)∈pinsAt fp h:=List.mem_filterMap.mpr ⟨b,hb,by rw [e]; rfl⟩
theorem of_pinsAt {fp:List Addr} {h:Heap} {p:Addr × Obj} (hp:p∈pinsAt fp h):p.1∈fp∧h.get? p.1=some p.2:=by
 obtain ⟨b,hb,e⟩:=List.mem_filterMap.mp hp
 cases q:h.get? b with
 | none=>rw [q] at e; cases e
 | some o =>
   rw [q] at e
   have e':(b,o)=p:=Option.some.inj e
   subst e'
   exact ⟨hb,q⟩
theorem Inv.pinned {pins:List (Addr × Obj)} {σ:St} {H:Hp} {s:Shared} {fp:List Addr} (I:Inv X pins σ H s) (hf:∀ b∈fp,FpOk X pins H b) (ho:∀ b∈fp,∃ o,s.heap.get? b=some o∧∀ v,o.data≠.cell v):Inv X (pins++pinsAt fp s.heap) σ H s :=
 I.pins_of fun p hp=>(List.mem_append.mp hp).elim (fun z=>I.pin p (List.mem_append_right _ z)) fun z=>by
  obtain ⟨hb,e⟩:=of_pinsAt z
  obtain ⟨f0,f1,f2,_⟩:=hf p.1 hb
  obtain ⟨o,e',d⟩:=ho p.1 hb
  rw [e] at e'; cases e'
  exact ⟨e,f0,f1,f2,d⟩
theorem Inv.unpinned {pins pl:List (Addr × Obj)} {σ:St} {H:Hp} {s:Shared} (I:Inv X (pins++pl) σ H s):Inv X pins σ H s:=I.pins_of fun p hp=>I.pin p (List.mem_append_right _ (List.mem_append_left _ hp))
theorem ps_for {iter:Expr} {body:List Stmt} {wi:TI} {g:TG} {tb:TS} {pos:Pos} (hp:PassesOwn (model X.prog X.w) X.A X.env X.xe) (hc:X.calm=true) (hi:PI X tg iter wi) (hg:PG X tg g) (hb:PSs X body tb)
 (hs:∀ x,foldedSetIterable iter X.env x=pure x:=by intro _; rfl):PS X (.For tg iter body [] pos) (tFor wi g tb):=by
 intro pins s σ H D I h
 refine wpAny_For (thn (hi pins s σ H _ I h) fun v s1 h1=>thn h1 fun itv s2 h2=>?_) hs
 obtain ⟨it,fp,tn,J,H2,e,I2,T,st2,f2,W,⟨m0,w0⟩,turn⟩:=h2
 subst e
 have stat:∀ {H':Hp},(∀ b∈fp,H' b=none)→∀ b∈fp,FpOk X pins H' b:=fun hn b hb=>⟨hn b hb,(f2 b hb).2⟩
 refine codeAny_forLoop_any (fun n s'=>∃ i σ' H',Inv X pins σ' H' s'∧tn i s'.heap∧(∀ b∈fp,H' b=none)∧W i n σ' H') ?_ m0 ⟨0,σ,H2,I2,st2,fun b hb=>(f2 b hb).1,w0⟩
 rintro n s3 ⟨i,σ3,H3,I3,st3,fr3,w3⟩
 rcases turn i n σ3 H3 w3 with ⟨stop,qn⟩ | ⟨go,N,hN,step⟩
 · refine wpAny_passesOwn hp (thn (T.done X rfl rfl rfl hc i pins s3 σ3 H3 X.xe I3 (stat fr3) st3 stop) fun r s4 ⟨hr,I4⟩=>?_)
   subst hr
   exact wpAny_execs_nil ⟨σ3,H3,I4,qn⟩
 · refine wpAny_passesOwn hp (thn (T.item X rfl rfl rfl hc i pins s3 σ3 H3 X.xe I3 (stat fr3) st3 go) fun r s4 ⟨u,hr,h4⟩=>?_)
   subst hr
   refine wpAny_passesOwn hp (thn h4 fun _ s5 ⟨x,H5,I5,r5,y5,st5,fr5⟩=>?_)
   have I5':=I5.pinned (stat fr5) (T.obj _ _ st5)
   refine wpAny_passesOwn hp (thn (hg _ s5 σ3 H5 x u _ I5' r5 (step x H5 y5)) fun _ s6 ⟨σ6,H6,I6,q6⟩=>?_)
   refine wpAny_passesOwn hp (thn (hb _ s6 σ6 H6 _ I6 q6) fun f s7 q7=>?_)
   have again:∀ {σ7:St} {H7:Hp},Inv X (pins++pinsAt fp s5.heap) σ7 H7 s7→N σ7 H7→∃ m,m < n∧∃ i σ' H',Inv X pins σ' H' s7∧tn i s7.heap∧(∀ b∈fp,H' b=none)∧W i m σ' H':=fun {σ7 H7} I7 n7=>by
    obtain ⟨m',hm,w7⟩:=hN σ7 H7 n7
    refine ⟨m',hm,i + 1,σ7,H7,I7.unpinned,T.keep _ _ _ st5 fun b hb o e=>(I7.pin (b,o) (List.mem_append_right _ (List.mem_append_right _ (mem_pinsAt hb e)))).1,fun b hb=>?_,w7⟩
    obtain ⟨o,e,d⟩:=T.obj _ _ st5 b hb
    exact (I7.pin (b,o) (List.mem_append_right _ (List.mem_append_right _ (mem_pinsAt hb e)))).2.1
   cases f with
   | next=>obtain ⟨σ7,H7,I7,n7⟩:=q7; exact again I7 n7
   | cont=>obtain ⟨σ7,H7,I7,n7⟩:=q7; exact again I7 n7
   | brk=>obtain ⟨σ7,H7,I7,q7⟩:=q7; exact ⟨σ7,H7,I7.unpinned,q7⟩
   | ret v=>obtain ⟨x7,σ7,H7,I7,r7,q7⟩:=q7; exact ⟨x7,σ7,H7,I7.unpinned,r7,q7⟩
end
theorem for_turns {J:It} {g:TG} {tb:TS} {D:Ends} {σ:St} {H:Hp} (n:Nat) (Pv:Nat→St→Hp→Prop) (h0:Pv 0 σ H) (go:∀ i σ H,Pv i σ H→i < n→J.go i H) (stop:∀ σ H,Pv n σ H→J.stop n H)
 (hs:∀ i v σ H H',Pv i σ H→i < n→J.yld i H v H'→g v σ H' fun σ2 H2=>tb { D with nx:=Pv (i + 1),ct:=Pv (i + 1),bk:=D.nx } σ2 H2) (hd:∀ σ H,Pv n σ H→D.nx σ H):Loop J g tb D σ H:=by
 unfold Loop
 refine ⟨fun i m σ H=>m=n - i∧i≤n∧Pv i σ H,⟨_,rfl,Nat.zero_le _,h0⟩,?_⟩
 rintro i m σ H ⟨rfl,hi,p⟩
 by_cases hlt:i < n
 · exact .inr ⟨go i σ H p hlt,Pv (i + 1),fun σ' H' p'=>⟨n - (i + 1),by omega,rfl,hlt,p'⟩,fun v H' y=>hs i v σ H H' p hlt y⟩
 · obtain rfl:i=n:=by omega
   exact .inl ⟨stop σ H p,hd σ H p⟩
theorem for_list {K:PySem.W.Frag} {a:Addr} {xs:List V} {g:TG} {tb:TS} {D:Ends} {σ:St} {H:Hp} (Pv:Nat→St→Hp→Prop) (h0:Pv 0 σ H) (hl:∀ i σ H,i≤xs.length→Pv i σ H→SqL K H a xs)
 (hs:∀ i x σ H,xs[i]?=some x→Pv i σ H→g x σ H fun σ2 H2=>tb { D with nx:=Pv (i + 1),ct:=Pv (i + 1),bk:=D.nx } σ2 H2) (hd:∀ σ H,Pv xs.length σ H→D.nx σ H):Loop (Itl K a) g tb D σ H:=for_turns xs.length Pv h0 (fun i σ H p hi=>⟨xs,xs[i],hl i σ H (Nat.le_of_lt hi) p,by simp [hi]⟩) (fun σ H p=>⟨xs,hl _ σ H (Nat.le_refl _) p,Nat.le_refl _⟩) (fun i v σ H H' p hi y=>by obtain ⟨rfl,y⟩:=y; exact hs i v σ _ (y xs (hl i σ _ (Nat.le_of_lt hi) p)) p) hd
theorem for_range {lo:Int} {n:Nat} {g:TG} {tb:TS} {D:Ends} {σ:St} {H:Hp} (Pv:Nat→St→Hp→Prop) (h0:Pv 0 σ H)
 (hs:∀ i σ H,i < n→Pv i σ H→g (.int (lo + i)) σ H fun σ2 H2=>tb { D with nx:=Pv (i + 1),ct:=Pv (i + 1),bk:=D.nx } σ2 H2) (hd:∀ σ H,Pv n σ H→D.nx σ H):Loop (Itr lo n) g tb D σ H:=for_turns n Pv h0 (fun i σ H p hi=>hi) (fun σ H p=>Nat.le_refl _) (fun i v σ H H' p hi y=>by obtain ⟨rfl,rfl⟩:=y; exact hs i σ _ hi p) hd
end L2
namespace L2
open PySem PySem.Spec PyProof.Rows
abbrev R2:=V→V→Hp→VK→Prop
def OpR (X:Cx) (f:Value→Value→Sem Value) (r:R2):Prop :=
 ∀ (pins:List (Addr × Obj)) (s:Shared) (σ:St) (H:Hp) (x y:V) (v u:Value) (Q:VK),Inv X pins σ H s→RelV x v→RelV y u→r x y H Q →
  wpAny (model X.prog X.w) X.A (f v u) (EP X pins σ Q) X.xe s
def UnR (X:Cx) (f:Value→Sem Value) (r:V→Hp→VK→Prop):Prop :=
 ∀ (pins:List (Addr × Obj)) (s:Shared) (σ:St) (H:Hp) (x:V) (v:Value) (Q:VK),Inv X pins σ H s→RelV x v→r x H Q →
  wpAny (model X.prog X.w) X.A (f v) (EP X pins σ Q) X.xe s
def CallR (X:Cx) (f:Value) (r:List V→Hp→VK→Prop):Prop :=
 ∀ (pins:List (Addr × Obj)) (s:Shared) (σ:St) (H:Hp) (xs:List V) (us:List Value) (Q:VK),Inv X pins σ H s→Vals xs us→r xs H Q →
  wpAny (model X.prog X.w) X.A (call f us) (EP X pins σ Q) X.xe s
def TruR (X:Cx) (r:V→Hp→(Bool→Hp→Prop)→Prop):Prop :=
 ∀ (pins:List (Addr × Obj)) (s:Shared) (σ:St) (H:Hp) (x:V) (v:Value) (Q:Bool→Hp→Prop),Inv X pins σ H s→RelV x v→r x H Q →
  wpAny (model X.prog X.w) X.A (truthy v) (TP X pins σ Q) X.xe s
def tOp (r:R2) (ta tb:TE):TE:=fun σ H Q=>ta σ H fun x H1=>tb σ H1 fun y H2=>r x y H2 Q
def tUn (r:V→Hp→VK→Prop) (ta:TE):TE:=fun σ H Q=>ta σ H fun x H1=>r x H1 Q
def rI (C:Int→Int→Prop) (g:Int→Int→V):R2:=fun x y H Q=>∃ i j,x=.int i∧y=.int j∧C i j∧Q (g i j) H
def rI0 (g:Int→Int→V):R2:=fun x y H Q=>∃ i j,x=.int i∧y=.int j∧Q (g i j) H
def rU (g:Int→V):V→Hp→VK→Prop:=fun x H Q=>∃ i,x=.int i∧Q (g i) H
section
variable {X:Cx} {a b c:Expr} {ta tb tc:TE} {pos:Pos}
theorem binT (ha:PE X a ta) (hb:PE X b tb) {pins:List (Addr × Obj)} {s:Shared} {σ:St} {H:Hp} {R:V→V→Hp→Prop} (I:Inv X pins σ H s)
 (h:ta σ H fun x H1=>tb σ H1 fun y H2=>R x y H2) {Q:Value→Shared→Prop} {f:Value→Value→Sem Value}
 (hf:∀ v u s2 x y H2,Inv X pins σ H2 s2→RelV x v→RelV y u→R x y H2→wpAny (model X.prog X.w) X.A (f v u) Q X.xe s2) :
 wpAny (model X.prog X.w) X.A (eval a X.env) (fun v s₁=>wpAny (model X.prog X.w) X.A (eval b X.env) (fun u s₂=>wpAny (model X.prog X.w) X.A (f v u) Q X.xe s₂) X.xe s₁) X.xe s:=by
 refine thn (ha pins s σ H _ I h) fun v s1 ⟨x,H1,I1,r1,q1⟩=>?_
 refine thn (hb pins s1 σ H1 _ I1 q1) fun u s2 ⟨y,H2,I2,r2,q2⟩=>?_
 exact hf v u s2 x y H2 I2 r1 r2 q2
theorem pe_op {op:Operator} {r:R2} (ho:OpR X (binaryOp op) r) (ha:PE X a ta) (hb:PE X b tb):PE X (.BinOp a op b pos) (tOp r ta tb):=by
 intro pins s σ H Q I h
 exact wpAny_BinOp (binT ha hb I h fun v u s2 x y H2 I2 rx ry q=>ho pins s2 σ H2 x y v u Q I2 rx ry q)
theorem pe_un {op:UnaryOp} {r:V→Hp→VK→Prop} (ho:UnR X (unaryOp op) r) (ha:PE X a ta):PE X (.UnaryOp op a pos) (tUn r ta):=by
 intro pins s σ H Q I h
 exact UnaryOp_ (thn (ha pins s σ H _ I h) fun v s1 ⟨x,H1,I1,r1,q1⟩=>ho pins s1 σ H1 x v Q I1 r1 q1)
theorem opI {f:Value→Value→Sem Value} {C:Int→Int→Prop} {g:Int→Int→Int}
 (rule:∀ (i j:Int) (t u:Tok) (s:Shared) (Q:Value→Shared→Prop) (E:Value→Shared→Prop),C i j→Q (.int (g i j) s.toks) { s with toks:=s.toks + 1 }→wpAny (model X.prog X.w) X.A (f (.int i t) (.int j u)) Q E s) :
 OpR X f (rI C fun i j=>.int (g i j)):=by
 intro pins s σ H x y v u Q I rx ry h
 obtain ⟨i,j,rfl,rfl,hc,q⟩:=h
 obtain ⟨t,rfl⟩:=rx
 obtain ⟨t',rfl⟩:=ry
 exact rule i j t t' s _ _ hc ⟨.int (g i j),H,I.tok _,⟨_,rfl⟩,q⟩
theorem opI0 {f:Value→Value→Sem Value} {g:Int→Int→Int}
 (rule:∀ (i j:Int) (t u:Tok) (s:Shared) (Q:Value→Shared→Prop) (E:Value→Shared→Prop),Q (.int (g i j) s.toks) { s with toks:=s.toks + 1 }→wpAny (model X.prog X.w) X.A (f (.int i t) (.int j u)) Q E s) :
 OpR X f (rI0 fun i j=>.int (g i j)):=by
 intro pins s σ H x y v u Q I rx ry h
 obtain ⟨i,j,rfl,rfl,q⟩:=h
 obtain ⟨t,rfl⟩:=rx
 obtain ⟨t',rfl⟩:=ry
 exact rule i j t t' s _ _ ⟨.int (g i j),H,I.tok _,⟨_,rfl⟩,q⟩
theorem opB0 {f:Value→Value→Sem Value} {g:Int→Int→Bool}
 (rule:∀ (i j:Int) (t u:Tok) (s:Shared) (Q:Value→Shared→Prop) (E:Value→Shared→Prop),Q (.bool (g i j)) s→wpAny (model X.prog X.w) X.A (f (.int i t) (.int j u)) Q E s) :
 OpR X f (rI0 fun i j=>.bl (g i j)):=by
 intro pins s σ H x y v u Q I rx ry h
 obtain ⟨i,j,rfl,rfl,q⟩:=h
 obtain ⟨t,rfl⟩:=rx
 obtain ⟨t',rfl⟩:=ry
 exact rule i j t t' s _ _ ⟨.bl (g i j),H,I,rfl,q⟩
def CDiv (i j:Int):Prop:=0 < j∧j < 1073741824
def CPow (i j:Int):Prop:=0≤j∧j≤1000000∧i.natAbs < 2 ^ 64
def CMul (i j:Int):Prop:=(-(2 ^ 64) < i∧i < 2 ^ 64)∨(-(2 ^ 64) < j∧j < 2 ^ 64)
theorem CMul.ok {i j:Int} (h:CMul i j):IntMulOk i j:=by
 rcases h with ⟨h1,h2⟩ | ⟨h1,h2⟩
 · exact .of_left (intBits_le_64 h1 h2)
 · exact .of_right (intBits_le_64 h1 h2)
theorem op_add:OpR X (binaryOp .Add) (rI0 fun i j=>.int (i + j)):=opI0 fun _ _ _ _ _ _ _ q=>add_int q
theorem op_sub:OpR X (binaryOp .Sub) (rI0 fun i j=>.int (i - j)):=opI0 fun _ _ _ _ _ _ _ q=>sub_int q
theorem op_mul:OpR X (binaryOp .Mult) (rI CMul fun i j=>.int (i * j)):=opI fun _ _ _ _ _ _ _ hc q=>mul_int q hc.ok
theorem op_fdiv:OpR X (binaryOp .FloorDiv) (rI CDiv fun i j=>.int (i / j)):=opI fun i j _ _ _ _ _ hc q=>by
 have h1:(0:Int) < j:=hc.1
 have h2:j < 1073741824:=hc.2
 exact floordiv_int (by omega) (by rw [Int.fdiv_eq_ediv_of_nonneg i (by omega)]; exact q) (.inl (PyProof.noPylong_small (by omega)))
theorem op_mod:OpR X (binaryOp .Mod) (rI (fun _ j=>0 < j) fun i j=>.int (i % j)):=opI fun i j _ _ _ _ _ hc q=>by
 have h1:(0:Int) < j:=hc
 exact mod_int' (by omega) (by rw [Int.fmod_eq_emod_of_nonneg i (by omega)]; exact q)
theorem op_pow:OpR X (binaryOp .Pow) (rI CPow fun i j=>.int (i ^ j.toNat)):=opI fun _ _ _ _ _ _ _ hc q=>pow_int_small hc.1 hc.2.1 hc.2.2 q
theorem unI {f:Value→Sem Value} {g:Int→Int}
 (rule:∀ (i:Int) (t:Tok) (s:Shared) (Q:Value→Shared→Prop) (E:Value→Shared→Prop),Q (.int (g i) s.toks) { s with toks:=s.toks + 1 }→wpAny (model X.prog X.w) X.A (f (.int i t)) Q E s) :
 UnR X f (rU fun i=>.int (g i)):=by
 intro pins s σ H x v Q I rx h
 obtain ⟨i,rfl,q⟩:=h
 obtain ⟨t,rfl⟩:=rx
 exact rule i t s _ _ ⟨.int (g i),H,I.tok _,⟨_,rfl⟩,q⟩
theorem un_neg:UnR X (unaryOp .USub) (rU fun i=>.int (-i)):=unI fun _ _ _ _ _ q=>neg_int q
end
def scal:V→V→Bool
 | .non,.non=>true | .non,.int _=>true | .int _,.non=>true | .non,.bl _=>true | .bl _,.non=>true | .non,.str _=>true | .str _,.non=>true
 | .int _,.int _=>true | .bl _,.bl _=>true | .str _,.str _=>true | .byt _,.byt _=>true
 | .int _,.str _=>true | .str _,.int _=>true | .bl _,.str _=>true | .str _,.bl _=>true
 | _,_=>false
def rEq:R2:=fun x y H Q=>scal x y=true∧Q (.bl (decide (x=y))) H
def rNe:R2:=fun x y H Q=>scal x y=true∧Q (.bl (!decide (x=y))) H
theorem dec_int {i j:Int}:decide (V.int i=V.int j)=(i == j):=by
 rw [Bool.eq_iff_iff]
 simp
theorem dec_bl {i j:Bool}:decide (V.bl i=V.bl j)=(i == j):=by
 rw [Bool.eq_iff_iff]
 simp
theorem dec_str {i j:Str}:decide (V.str i=V.str j)=(i == j):=by
 rw [Bool.eq_iff_iff]
 simp
theorem dec_byt {i j:Array UInt8}:decide (V.byt i=V.byt j)=(i.toList == j.toList):=by
 rw [Bool.eq_iff_iff]
 cases i
 cases j
 simp
section
variable {X:Cx} {a b c:Expr} {ta tb tc:TE} {pos:Pos}
theorem fin_bl {pins:List (Addr × Obj)} {σ:St} {H:Hp} {s:Shared} {Q:VK} {k k':Bool} (I:Inv X pins σ H s) (q:Q (.bl k) H) (e:k=k'):EP X pins σ Q (.bool k') s:=by
 subst e
 exact ⟨.bl k,H,I,rfl,q⟩
theorem op_eq:OpR X (compareOp .Eq) rEq:=by
 intro pins s σ H x y v u Q I rx ry h
 obtain ⟨hs,q⟩:=h
 cases x with
 | non =>
   cases rx
   cases y with
   | non=>cases ry; exact PySem.EqNone.eq_none_none (fin_bl I q (by simp))
   | bl j=>cases ry; exact PySem.EqNone.eq_none_bool (fin_bl I q (by simp))
   | int j=>obtain ⟨t',rfl⟩:=ry; exact PySem.EqNone.eq_none_int (fin_bl I q (by simp))
   | str j=>obtain ⟨t',rfl⟩:=ry; exact PySem.EqNone.eq_none_str (fin_bl I q (by simp))
   | _=>exact absurd (show false=true from hs) Bool.false_ne_true
 | bl i =>
   cases rx
   cases y with
   | non=>cases ry; exact PySem.EqNone.eq_bool_none (fin_bl I q (by simp))
   | bl j=>cases ry; exact eq_bool (fin_bl I q dec_bl)
   | str j=>obtain ⟨t',rfl⟩:=ry; exact PySem.EqMixed.eq_bool_str (fin_bl I q (by simp))
   | _=>exact absurd (show false=true from hs) Bool.false_ne_true
 | int i =>
   obtain ⟨t,rfl⟩:=rx
   cases y with
   | non=>cases ry; exact PySem.EqNone.eq_int_none (fin_bl I q (by simp))
   | int j=>obtain ⟨t',rfl⟩:=ry; exact eq_int (fin_bl I q dec_int)
   | str j=>obtain ⟨t',rfl⟩:=ry; exact PySem.EqMixed.eq_int_str (fin_bl I q (by simp))
   | _=>exact absurd (show false=true from hs) Bool.false_ne_true
 | str i =>
   obtain ⟨t,rfl⟩:=rx
   cases y with
   | non=>cases ry; exact PySem.EqNone.eq_str_none (fin_bl I q (by simp))
   | bl j=>cases ry; exact PySem.EqMixed.eq_str_bool (fin_bl I q (by simp))
   | int j=>obtain ⟨t',rfl⟩:=ry; exact PySem.EqMixed.eq_str_int (fin_bl I q (by simp))
   | str j=>obtain ⟨t',rfl⟩:=ry; exact eq_str (fin_bl I q dec_str)
   | _=>exact absurd (show false=true from hs) Bool.false_ne_true
 | byt i =>
   obtain ⟨t,rfl⟩:=rx
   cases y with
   | byt j=>obtain ⟨t',rfl⟩:=ry; exact PySem.W.eq_bytes (fin_bl I q dec_byt)
   | _=>exact absurd (show false=true from hs) Bool.false_ne_true
 | _=>cases y <;> exact absurd (show false=true from hs) Bool.false_ne_true
theorem op_ne:OpR X (compareOp .NotEq) rNe:=by
 intro pins s σ H x y v u Q I rx ry h
 obtain ⟨hs,q⟩:=h
 cases x with
 | non =>
   cases rx
   cases y with
   | non=>cases ry; exact PySem.EqNone.ne_none_none (fin_bl I q (by simp))
   | bl j=>cases ry; exact PySem.EqNone.ne_none_bool (fin_bl I q (by simp))
   | int j=>obtain ⟨t',rfl⟩:=ry; exact PySem.EqNone.ne_none_int (fin_bl I q (by simp))
   | str j=>obtain ⟨t',rfl⟩:=ry; exact PySem.EqNone.ne_none_str (fin_bl I q (by simp))
   | _=>exact absurd (show false=true from hs) Bool.false_ne_true
 | bl i =>
   cases rx
   cases y with
   | non=>cases ry; exact PySem.EqNone.ne_bool_none (fin_bl I q (by simp))
   | bl j=>cases ry; exact ne_bool (fin_bl I q (congrArg not dec_bl))
   | str j=>obtain ⟨t',rfl⟩:=ry; exact PySem.EqMixed.ne_bool_str (fin_bl I q (by simp))
   | _=>exact absurd (show false=true from hs) Bool.false_ne_true
 | int i =>
   obtain ⟨t,rfl⟩:=rx
   cases y with
   | non=>cases ry; exact PySem.EqNone.ne_int_none (fin_bl I q (by simp))
   | int j=>obtain ⟨t',rfl⟩:=ry; exact ne_int (fin_bl I q (congrArg not dec_int))
   | str j=>obtain ⟨t',rfl⟩:=ry; exact PySem.EqMixed.ne_int_str (fin_bl I q (by simp))
   | _=>exact absurd (show false=true from hs) Bool.false_ne_true
 | str i =>
   obtain ⟨t,rfl⟩:=rx
   cases y with
   | non=>cases ry; exact PySem.EqNone.ne_str_none (fin_bl I q (by simp))
   | bl j=>cases ry; exact PySem.EqMixed.ne_str_bool (fin_bl I q (by simp))
   | int j=>obtain ⟨t',rfl⟩:=ry; exact PySem.EqMixed.ne_str_int (fin_bl I q (by simp))
   | str j=>obtain ⟨t',rfl⟩:=ry; exact ne_str (fin_bl I q (congrArg not dec_str))
   | _=>exact absurd (show false=true from hs) Bool.false_ne_true
 | byt i =>
   obtain ⟨t,rfl⟩:=rx
   cases y with
   | byt j=>obtain ⟨t',rfl⟩:=ry; exact PySem.W.ne_bytes (fin_bl I q (congrArg not dec_byt))
   | _=>exact absurd (show false=true from hs) Bool.false_ne_true
 | _=>cases y <;> exact absurd (show false=true from hs) Bool.false_ne_true
theorem op_lt:OpR X (compareOp .Lt) (rI0 fun i j=>.bl (decide (i < j))):=opB0 fun _ _ _ _ _ _ _ q=>lt_int q
theorem op_le:OpR X (compareOp .LtE) (rI0 fun i j=>.bl (decide (i≤j))):=opB0 fun _ _ _ _ _ _ _ q=>le_int q
theorem op_gt:OpR X (compareOp .Gt) (rI0 fun i j=>.bl (decide (j < i))):=opB0 fun _ _ _ _ _ _ _ q=>gt_int q
theorem op_ge:OpR X (compareOp .GtE) (rI0 fun i j=>.bl (decide (j≤i))):=opB0 fun _ _ _ _ _ _ _ q=>ge_int q
theorem nomark (b:Expr) {op:CmpOp} (h:op≠.In:=by decide) (h2:op≠.NotIn:=by decide):behindInMarks op b=false:=by
 have e1:(op == CmpOp.In)=false:=by cases op <;> first | rfl | exact absurd rfl h
 have e2:(op == CmpOp.NotIn)=false:=by cases op <;> first | rfl | exact absurd rfl h2
 cases b <;> simp [behindInMarks,e1,e2]
theorem pe_cmpR {op:CmpOp} {r:R2} (ho:OpR X (compareOp op) r) (ha:PE X a ta) (hb:PE X b tb) (hm:behindInMarks op b=false):PE X (.Compare a [op] [b] pos) (tOp r ta tb):=by
 intro pins s σ H Q I h
 exact wpAny_Compare1 (binT ha hb I h fun v u s2 x y H2 I2 rx ry q=>ho pins s2 σ H2 x y v u Q I2 rx ry q) hm
def tTest (t:TE):TT:=fun σ H Q=>t σ H fun x H'=>∃ k,x=.bl k∧Q k H'
theorem pt_cmpR {op:CmpOp} {r:R2} (ho:OpR X (compareOp op) r) (ha:PE X a ta) (hb:PE X b tb) (hm:behindInMarks op b=false):PT X (.Compare a [op] [b] pos) (tTest (tOp r ta tb)):=by
 intro pins s σ H Q I h
 refine wpAny_isTrue_Compare1 (thn (ha pins s σ H _ I h) fun v s1 ⟨x,H1,I1,r1,q1⟩=>thn (hb pins s1 σ H1 _ I1 q1) fun u s2 ⟨y,H2,I2,r2,q2⟩ =>
  thn (ho pins s2 σ H2 x y v u _ I2 r1 r2 q2) fun c s3 ⟨z,H3,I3,r3,k,e,q3⟩=>?_) hm
 subst e
 cases r3
 exact wpAny_truthy_bool ⟨H3,I3,q3⟩
def tChain (r r':R2) (ta tb tc:TE):TE:=fun σ H Q=>ta σ H fun x H1=>tb σ H1 fun y H2=>r x y H2 fun z H3=>∃ k,z=.bl k ∧
 (if k=true then tc σ H3 fun w' H4=>r' y w' H4 Q else Q (.bl false) H3)
theorem pe_chain {op op':CmpOp} {r r':R2} (ho:OpR X (compareOp op) r) (ho':OpR X (compareOp op') r') (ha:PE X a ta) (hb:PE X b tb) (hc:PE X c tc)
 (hm:lastMarks [op,op'] [b,c]=false:=by with_unfolding_all rfl):PE X (.Compare a [op,op'] [b,c] pos) (tChain r r' ta tb tc):=by
 intro pins s σ H Q I h
 refine Compare_chain (thn (ha pins s σ H _ I h) fun v s1 ⟨x,H1,I1,r1,q1⟩=>chain_link (thn (hb pins s1 σ H1 _ I1 q1) fun u s2 ⟨y,H2,I2,r2,q2⟩ =>
  thn (ho pins s2 σ H2 x y v u _ I2 r1 r2 q2) fun d s3 ⟨z,H3,I3,r3,k,e,q3⟩=>?_)) hm
 subst e
 cases r3
 refine wpAny_truthy_bool ?_
 cases k with
 | false=>exact ite_ff ⟨.bl false,H3,I3,rfl,q3⟩
 | true=>exact ite_tt (chain_last (thn (hc pins s3 σ H3 _ I3 q3) fun w' s4 ⟨z',H4,I4,r4,q4⟩=>ho' pins s4 σ H4 y z' u w' Q I4 r2 r4 q4))
theorem pt_chain {op op':CmpOp} {r r':R2} (ho:OpR X (compareOp op) r) (ho':OpR X (compareOp op') r') (ha:PE X a ta) (hb:PE X b tb) (hc:PE X c tc)
 (hm:lastMarks [op,op'] [b,c]=false:=by with_unfolding_all rfl):PT X (.Compare a [op,op'] [b,c] pos) (tTest (tChain r r' ta tb tc)):=by
 intro pins s σ H Q I h
 refine isTrue_chain (thn (ha pins s σ H _ I h) fun v s1 ⟨x,H1,I1,r1,q1⟩=>test_link (thn (hb pins s1 σ H1 _ I1 q1) fun u s2 ⟨y,H2,I2,r2,q2⟩ =>
  thn (ho pins s2 σ H2 x y v u _ I2 r1 r2 q2) fun d s3 ⟨z,H3,I3,r3,k,e,q3⟩=>?_)) hm
 subst e
 cases r3
 refine wpAny_truthy_bool ?_
 cases k with
 | false =>
   obtain ⟨k',e',q'⟩:=q3
   cases e'
   exact ite_ff ⟨H3,I3,q'⟩
 | true =>
   refine ite_tt (test_last (thn (hc pins s3 σ H3 _ I3 q3) fun w' s4 ⟨z',H4,I4,r4,q4⟩=>thn (ho' pins s4 σ H4 y z' u w' _ I4 r2 r4 q4) fun d' s5 ⟨z2,H5,I5,r5,k2,e2,q5⟩=>?_))
   subst e2
   cases r5
   exact wpAny_truthy_bool ⟨H5,I5,q5⟩
def TruV (K:PySem.W.Frag) (x:V) (H:Hp) (k:Bool):Prop :=
 match x with
 | .non=>k=false
 | .bl b=>k=b
 | .int i=>k=(i != 0)
 | .str y=>y.length≤sizeLine∧k=((y.length:Int) != 0)
 | .byt y=>y.size≤sizeLine∧k=((y.size:Int) != 0)
 | .ref p=>(∃ xs,SqL K H p xs∧k=!xs.isEmpty)∨(∃ xs,SqT K H p xs∧k=!xs.isEmpty)∨∃ kvs,H p=some (.dK kvs)∧k=!kvs.isEmpty
 | _=>False
theorem isEmpty_kv {κ:Type} {kvs:List (κ × V)} {vs:List (κ × Value)} (r:KV kvs vs):(!vs.isEmpty)=!kvs.isEmpty:=by
 cases r <;> rfl
theorem isEmpty_of {xs:List V} {its:List Value} (r:Vals xs its):(!its.toArray.isEmpty)=!xs.isEmpty:=by
 cases r <;> simp
theorem line63:(sizeLine:Nat) < 2 ^ 63:=by rw [sizeLine_eq]; decide
theorem tru_ok:TruR X (fun x H Q=>∃ k,TruV X.K x H k∧Q k H):=by
 intro pins s σ H x v Q I rx h
 obtain ⟨k,e,q⟩:=h
 have hl:=line63
 have hs:sizeLine=16777216:=sizeLine_eq
 cases x with
 | non =>
   cases rx
   have e':k=false:=e
   subst e'
   exact truthy_none ⟨H,I,q⟩
 | bl b =>
   cases rx
   have e':k=b:=e
   subst e'
   exact wpAny_truthy_bool ⟨H,I,q⟩
 | int i =>
   obtain ⟨t,rfl⟩:=rx
   have e':k=(i != 0):=e
   subst e'
   exact PySem.P.truthy_int ⟨H,I,q⟩
 | str y =>
   obtain ⟨t,rfl⟩:=rx
   obtain ⟨hy,e'⟩:y.length≤sizeLine∧k=((y.length:Int) != 0):=e
   subst e'
   exact PySem.P.truthy_str (by omega) ⟨H,I.tok _,q⟩
 | byt y =>
   obtain ⟨t,rfl⟩:=rx
   obtain ⟨hy,e'⟩:y.size≤sizeLine∧k=((y.size:Int) != 0):=e
   subst e'
   exact PySem.W.truthy_bytes (by omega) ⟨H,I.tok _,q⟩
 | ref p =>
   cases rx
   have e':(∃ xs,SqL X.K H p xs∧k=!xs.isEmpty)∨(∃ xs,SqT X.K H p xs∧k=!xs.isEmpty)∨∃ kvs,H p=some (.dK kvs)∧k=!kvs.isEmpty:=e
   rcases e' with ⟨xs,hx,e'⟩ | ⟨xs,hx,e'⟩ | ⟨kvs,hx,e'⟩
   · subst e'
     obtain ⟨its,r,pl,hz⟩:=I.list hx
     have hlen:=r.length
     exact wpAny_truthy_list pl.isList (by simp only [List.size_toArray]; omega) ⟨H,I.tok _,by rw [isEmpty_of r]; exact q⟩
   · subst e'
     obtain ⟨its,r,pl,hz⟩:=I.tuple hx
     have hlen:=r.length
     exact truthy_tuple pl (by simp only [List.size_toArray]; omega) ⟨H,I.tok _,by rw [isEmpty_of r]; exact q⟩
   · subst e'
     obtain ⟨hz,hS,vs,r,m⟩:kvs.length≤sizeLine∧(p == sysModules)=false∧∃ vs,KV kvs vs∧s.heap.DictOf (mixKind X.prog X.w) p vs:=I.hok p _ hx
     have hlen:kvs.length=vs.length:=Paired.length r
     exact wpAny_truthy_dict hS m (by omega) ⟨H,I.tok _,by rw [isEmpty_kv r]; exact q⟩
 | _=>exact (show False from e).elim
theorem op_add_str:OpR X (binaryOp .Add) (fun x y H Q=>∃ i j,x=.str i∧y=.str j∧i.length + j.length≤sizeLine∧Q (.str (i++j)) H):=by
 intro pins s σ H x y v u Q I rx ry h
 obtain ⟨i,j,rfl,rfl,hz,q⟩:=h
 obtain ⟨t,rfl⟩:=rx
 obtain ⟨t',rfl⟩:=ry
 exact add_str (fun t' tk=>⟨.str (i++j),H,I.tok _,⟨_,rfl⟩,q⟩) hz
theorem vals1 {x:V} {us:List Value} (r:Vals [x] us):∃ u,us=[u]∧RelV x u:=by
 cases r with
 | cons r1 r2=>cases r2; exact ⟨_,rfl,r1⟩
theorem vals2 {x y:V} {us:List Value} (r:Vals [x,y] us):∃ u w',us=[u,w']∧RelV x u∧RelV y w':=by
 cases r with
 | cons r1 r2 =>
   cases r2 with
   | cons r3 r4=>cases r4; exact ⟨_,_,rfl,r1,r3⟩
def LenV (K:PySem.W.Frag) (x:V) (H:Hp) (n:Nat):Prop :=
 match x with
 | .str y=>y.length≤sizeLine∧n=y.length
 | .byt y=>y.size≤sizeLine∧n=y.size
 | .ref p=>(∃ xs,SqL K H p xs∧n=xs.length)∨∃ xs,SqT K H p xs∧n=xs.length
 | _=>False
theorem call_len:CallR X (.builtin "len") (fun xs H Q=>∃ x n,xs=[x]∧LenV X.K x H n∧Q (.int n) H):=by
 intro pins s σ H xs us Q I r h
 obtain ⟨x,n,rfl,e,q⟩:=h
 obtain ⟨u,rfl,rx⟩:=vals1 r
 have hl:=line63
 have hs:sizeLine=16777216:=sizeLine_eq
 cases x with
 | str y =>
   obtain ⟨t,rfl⟩:=rx
   obtain ⟨hy,e'⟩:y.length≤sizeLine∧n=y.length:=e
   subst e'
   exact len_str (by omega) ⟨.int _,H,I.tok _,⟨_,rfl⟩,q⟩
 | byt y =>
   obtain ⟨t,rfl⟩:=rx
   obtain ⟨hy,e'⟩:y.size≤sizeLine∧n=y.size:=e
   subst e'
   exact PySem.W.len_bytes (by omega) ⟨.int _,H,I.tok _,⟨_,rfl⟩,q⟩
 | ref p =>
   cases rx
   have e':(∃ xs,SqL X.K H p xs∧n=xs.length)∨∃ xs,SqT X.K H p xs∧n=xs.length:=e
   rcases e' with ⟨xs,hx,e'⟩ | ⟨xs,hx,e'⟩
   · subst e'
     obtain ⟨its,r',pl,hz⟩:=I.list hx
     have hlen:=r'.length
     exact Calls.call_len_list pl.isList (by simp only [List.size_toArray]; omega) ⟨.int xs.length,H,I.tok _,⟨_,by simp only [List.size_toArray]; rw [hlen]⟩,q⟩
   · subst e'
     obtain ⟨its,r',pl,hz⟩:=I.tuple hx
     have hlen:=r'.length
     exact len_tuple pl (by simp only [List.size_toArray]; omega) ⟨.int xs.length,H,I.tok _,⟨_,by simp only [List.size_toArray]; rw [hlen]⟩,q⟩
 | _=>exact (show False from e).elim
end
end L2
namespace L2
open PySem PySem.Spec PyProof.Rows
theorem lookIn_ns {h:Heap} {dx:Addr} {mA:Str→Option Value} (n:h.Ns1 dx mA):∃ od,h.get? dx=some od∧∀ name,PySem.W.lookIn name od=some (mA name):=by
 obtain ⟨o,es,ep,ho,hd,hk,_,hm⟩:=n
 refine ⟨o,ho,fun name=>?_⟩
 have e:=hm name
 unfold nsFind findBy at e
 rw [←Array.find?_toList] at e
 unfold PySem.W.lookIn
 rw [hd]
 dsimp only
 split
 · rename_i y q
   rw [q] at e
   exact congrArg some e
 · rename_i q
   rw [q] at e
   have a:es.toList.any (·.refKey)=false:=by
    rw [List.any_eq_false]
    intro y hy
    obtain ⟨z,t,hkey⟩:=hk y (Array.mem_toList_iff.mp hy)
    simp [DictEntry.refKey,hkey]
   have a':¬ es.toList.any (·.refKey)=true:=by rw [a]; exact Bool.false_ne_true
   rw [if_neg a']
   exact congrArg some e
section
variable {prog:Program} {w:World} {A:Around} {E:Value→Shared→Prop} {s:Shared} {K:PySem.W.Frag} {x dx C f:Addr} {mA:Str→Option Value} {name:Str} {v:Value}
end
theorem RelO.some_of {v:V} {o:Option Value} (r:RelO (some v) o):∃ u,o=some u∧RelV v u:=by
 cases o with
 | none=>exact (show False from r).elim
 | some u=>exact ⟨u,rfl,r⟩
theorem handed_of {v:V} {u:Value} (r:RelV v u):PySem.W.handedIn u=true:=by
 cases v with
 | non=>cases (show u=Value.none from r); rfl
 | bl b=>cases (show u=Value.bool b from r); rfl
 | int i=>obtain ⟨t,e⟩:=(show ∃ t,u=Value.int i t from r); cases e; rfl
 | str x=>obtain ⟨t,e⟩:=(show ∃ t,u=Value.str x t from r); cases e; rfl
 | byt b=>obtain ⟨t,e⟩:=(show ∃ t,u=Value.bytes b t from r); cases e; rfl
 | flt b=>obtain ⟨t,e⟩:=(show ∃ t,u=Value.float b t from r); cases e; rfl
 | ref a=>cases (show u=Value.ref a from r); rfl
 | ty n=>cases (show u=Value.type n from r); rfl
section
variable {P:Program} {w:World} {H H':Hp} {h h':Heap} {a C dx:Addr} {fs fs':List (Str × V)}
end
section
variable {X:Cx} {pins:List (Addr × Obj)} {σ:St} {H:Hp} {s:Shared} {a C dx:Addr} {fs:List (Str × V)} {f:Str} {v:V} {A:Around} {E:Value→Shared→Prop}
theorem attr_of {prog:Program} {w:World} {env:Env} {e:Expr} {f:Str} {pos:Pos} {s:Shared} {Q:Value→Shared→Prop} (hb:attributeBase e f env (eval e env)=eval e env)
 (h:wpAny (model prog w) A (eval e env) (fun o s₁=>wpAny (model prog w) A (getAttr o f true) Q E s₁) E s):wpAny (model prog w) A (eval (.Attribute e f pos) env) Q E s :=
 Attribute_any_ h (by rw [arm_eval_Attribute,hb])
end
section
variable {X:Cx} {o e value:Expr} {f:Str} {pos pos' tpos:Pos} {ta tv:TE}
end
section
variable {X:Cx} {pins:List (Addr × Obj)} {σ:St} {H:Hp} {s:Shared} {A:Around} {E:Value→Shared→Prop} {Q:Value→Shared→Prop} {c:Value} {b:Bool}
end
end L2
namespace L2
open PySem PySem.Spec PyProof.Rows
structure Room (k:Nat) (A:Around):Prop where
 hd:A.handled=none
 dp:A.depth + 3 * k + 5 < recursionLimit
 un:A.units + 16 * k + 200 < cLine
 gd:A.guards=some []
theorem Room.mono {j k:Nat} {A:Around} (r:Room k A) (h:j≤k):Room j A:=⟨r.hd,by have:=r.dp; omega,by have:=r.un; omega,r.gd⟩
theorem Room.deeper {k:Nat} {A:Around} (r:Room (k + 1) A) (env:Env):Room k (A.deeper env) :=
 ⟨r.hd,by have:=r.dp; show A.depth + 1 + 3 * k + 5 < _; omega,by have:=r.un; show A.units + 3 + 16 * k + 200 < _; omega,by first | exact r.gd | (simpa [Around.deeper] using r.gd)⟩
theorem make_depth {A:Around} {C:Addr} {us:List Value} {kw:List (Str × Value)}:(A.under (.builtin "type.__call__" ⟨.ref C :: us,kw⟩)).depth=A.depth + 1:=by
 first | rfl | simp [Around.under,Code.weight,Code.isCreation,Code.isGuard,Code.isCaller,Code.frames,Code.isFrame,guardIds]
theorem make_units {A:Around} {C:Addr} {us:List Value} {kw:List (Str × Value)}:(A.under (.builtin "type.__call__" ⟨.ref C :: us,kw⟩)).units=A.units + 1:=by
 first | rfl | simp [Around.under,Code.cUnits,Code.frames,Code.isFrame]
theorem Room.make {k:Nat} {A:Around} (r:Room (k + 1) A) (C:Addr) (us:List Value) (kw:List (Str × Value)):Room k (A.under (.builtin "type.__call__" ⟨.ref C :: us,kw⟩)) :=
 ⟨r.hd,by have:=r.dp; rw [make_depth]; omega,by have:=r.un; rw [make_units]; omega,by first | exact r.gd | (simpa [Around.under,Code.isGuard,guardIds] using r.gd)⟩
theorem Room.depth {k:Nat} {A:Around} (r:Room k A):A.depth < recursionLimit:=by have:=r.dp; omega
theorem Room.units {k:Nat} {A:Around} (r:Room k A):A.units + 64 < cLine:=by have:=r.un; omega
def tNil:TA:=fun _ H Q=>Q [] H
def tCons (ta:TE) (tr:TA):TA:=fun σ H Q=>ta σ H fun x H1=>tr σ H1 fun xs H2=>Q (x :: xs) H2
section
variable {X:Cx} {e:Expr} {es:List Expr} {te:TE} {t:TA} {pos:Pos}
theorem pa_nil:PA X [] tNil:=fun _ _ _ _ H Q I h=>Calls.spliced_nil ⟨[],H,I,.nil,h⟩
theorem pa_cons (ha:PE X e te) (hr:PA X es t) (hs:starEach (e :: es) X.env=(false,eval e X.env) :: starEach es X.env:=by rfl):PA X (e :: es) (tCons te t):=by
 intro pos pins s σ H Q I h
 rw [hs]
 show wpAny _ _ (spliced ((false,eval e X.env) :: backTo pos (starEach es X.env))) _ _ s
 refine Calls.spliced_cons (thn (ha pins s σ H _ I h) fun u s1 ⟨x,H1,I1,r1,q1⟩=>?_)
 exact thn (hr pos pins s1 σ H1 _ I1 q1) fun us s2 ⟨xs,H2,I2,r2,q2⟩=>⟨x :: xs,H2,I2,.cons r1 r2,q2⟩
def tTup (t:TA):TE:=fun σ H Q=>t σ H fun xs H1=>xs.length≤sizeLine∧∀ p,H1 p=none→Q (.ref p) (upd H1 p (.tup xs))
def tLst (t:TA):TE:=fun σ H Q=>t σ H fun xs H1=>xs.length≤sizeLine∧∀ p,H1 p=none→Q (.ref p) (upd H1 p (.lst xs))
theorem pe_tup {x1} (h:PA X es t):PE X (.Tuple es x1 pos) (tTup t):=by
 intro pins s σ H Q I hq
 refine wpAny_Tuple_spliced (thn (h pos pins s σ H _ I hq) fun us s1 ⟨xs,H1,I1,r,z,q⟩=>⟨by rw [←r.length]; exact z,?_⟩)
 have hf:H1 s1.heap.objs.size=none:=I1.hok.fresh (Nat.le_refl _)
 refine ⟨.ref s1.heap.objs.size,upd H1 s1.heap.objs.size (.tup xs),I1.laid (t':=s1.toks) (fun b u e=>Heap.get?_push_of_some _ e) (Nat.le_refl _) ?_,rfl,q _ hf⟩
 exact ⟨z,us,r,⟨_,Heap.get?_push_size _ rfl,rfl,_,rfl⟩⟩
theorem pe_lst (h:PA X es t):PE X (.List es pos) (tLst t):=by
 intro pins s σ H Q I hq
 refine wpAny_List_spliced (thn (h pos pins s σ H _ I hq) fun us s1 ⟨xs,H1,I1,r,z,q⟩=>⟨by rw [←r.length]; exact z,?_⟩)
 have hf:H1 s1.heap.objs.size=none:=I1.hok.fresh (Nat.le_refl _)
 refine ⟨.ref s1.heap.objs.size,upd H1 s1.heap.objs.size (.lst xs),I1.laid (t':=s1.toks) (fun b u e=>Heap.get?_push_of_some _ e) (Nat.le_refl _) ?_,rfl,q _ hf⟩
 exact ⟨z,us,0,r,Heap.get?_push_size _ rfl⟩
end
abbrev Sp:=List V→Hp→VK→XK→Prop
abbrev CXT:=List Env→Hp→Shared→XK→Value→Shared→Prop
structure Env0 (P:Program) (w:World) (K:PySem.W.Frag) (mg:Str→Option Value) (base:Heap) (A:Around) (outer:List Env) (s:Shared) (H:Hp):Prop where
 frames:A.frames=some outer
 mod:Mod K mg base
 bs:∀ b o,base.get? b=some o→s.heap.get? b=some o∧H b=none
 bsz:base.objs.size≤s.heap.objs.size
 funs:s.heap.FunFrames base outer
 frf:∀ b∈frs outer,H b=none
 hok:HOk P w H s.heap
 bare:AllBare s.gens
def CE (outer:List Env) (P:Program) (w:World) (H:Hp) (s:Shared) (Q:VK) (u:Value) (s':Shared):Prop :=
 ∃ v H',s'.os=s.os∧AllBare s'.gens∧Un (frs outer) [] H H' s.heap s'.heap∧HOk P w H' s'.heap∧RelV v u∧Q v H'
def CR (CX:CXT) (outer:List Env) (P:Program) (w:World) (H:Hp) (s:Shared) (Q:VK) (E:XK) (r:Result) (s':Shared):Prop :=
 match r with
 | .ok (.ret u)=>CE outer P w H s Q u s'
 | .ok _=>False
 | .error e=>CX outer H s E e s'
structure FnOk (P:Program) (w:World) (K:PySem.W.Frag) (mg:Str→Option Value) (base:Heap) (CX:CXT) (k:Nat) (f:Addr) (fd:FuncData) (ps:List Str) (sp:Sp):Prop where
 len:∀ vs H Q E,sp vs H Q E→vs.length=ps.length
 run:∀ (A:Around) (outer:List Env) (s:Shared) (H:Hp) (args:Args) (us:List Value) (vs:List V) (Q:VK) (E:XK),Room k A→Env0 P w K mg base A outer s H→BindsTo s fd args (ps.zip us)→Vals vs us→sp vs H Q E →
  codeAny (model P w) A (.call (.ref f) args) (CR CX outer P w H s Q E) s
theorem Env0.make {P:Program} {w:World} {K:PySem.W.Frag} {mg:Str→Option Value} {base:Heap} {A:Around} {outer:List Env} {s:Shared} {H:Hp} (e:Env0 P w K mg base A outer s H) (C:Addr) (us:List Value) (kw:List (Str × Value)) :
 Env0 P w K mg base (A.under (.builtin "type.__call__" ⟨.ref C :: us,kw⟩)) outer s H:=⟨by first | exact e.frames | (simpa [Around.under,Code.envs,Code.isFrame,pushEnvs] using e.frames),e.mod,e.bs,e.bsz,e.funs,e.frf,e.hok,e.bare⟩
section
variable {X:Cx} {pins:List (Addr × Obj)} {σ:St} {H:Hp} {s s':Shared}
theorem Inv.env0 (I:Inv X pins σ H s):Env0 X.prog X.w X.K X.mg X.base X.A X.stack s H :=
 ⟨I.ok.frames,I.ok.mod,I.bs,Nat.le_trans I.ok.bsz I.sz,I.stack,I.stkFree,I.hok,I.bare⟩
theorem Inv.after {Q:VK} {u:Value} (I:Inv X pins σ H s) (h:CE X.stack X.prog X.w H s Q u s'):EP X pins σ Q u s':=by
 obtain ⟨v,H',os,bare,un,hok,r,q⟩:=h
 obtain ⟨hh,g,d,t,os'⟩:=s'
 obtain rfl:os'=s.os:=os
 exact ⟨v,H',I.call (h':=hh) (g':=g) (d':=d) (t':=t) (ch:=[]) un hok bare (fun b z=>absurd z (by simp)),r,q⟩
end
def tCall (sp:Sp) (dvs:List V) (E:XK) (t:TA):TE:=fun σ H Q=>t σ H fun vs H1=>sp (vs++dvs) H1 Q E
def Binds (K:PySem.W.Frag) (fd:FuncData) (ps:List Str) (ds:List Value):Prop :=
 ∀ (s:Shared) (us:List Value),K.In s.heap→(us++ds).length=ps.length→BindsTo s fd ⟨us,[]⟩ (ps.zip (us++ds))
theorem Binds.all {K:PySem.W.Frag} {fd:FuncData} {ps:List Str} (h:∀ us:List Value,us.length=ps.length→bindArgs fd ⟨us,[]⟩=pure (ps.zip us)):Binds K fd ps []:=fun s us _ hl=>by
 rw [List.append_nil] at hl ⊢
 exact .of_eq (h us hl)
def Passes (CX:CXT) (X:Cx) (E:XK):Prop:=∀ (pins:List (Addr × Obj)) (σ:St) (H:Hp) (s:Shared) (e:Value) (s':Shared),Inv X pins σ H s→CX X.stack H s E e s'→X.xe e s'
section
variable {X:Cx} {CX:CXT} {k:Nat} {f C:Addr} {fd:FuncData} {ps:List Str} {sp:Sp} {dvs:List V} {ds:List Value} {E:XK} {x m:Str} {p pos apos:Pos} {e o:Expr} {es:List Expr} {ta:TE} {t:TA}
theorem run_fn {pins:List (Addr × Obj)} {σ:St} {H:Hp} {s:Shared} {Q:VK} {us:List Value} {vs:List V} (F:FnOk X.prog X.w X.K X.mg X.base CX k f fd ps sp) (hr:Room k X.A) (hb:Binds X.K fd ps ds) (hd:Vals dvs ds) (hx:Passes CX X E)
 (I:Inv X pins σ H s) (r:Vals vs us) (h:sp (vs++dvs) H Q E):wpAny (model X.prog X.w) X.A (call (.ref f) us) (EP X pins σ Q) X.xe s:=by
 have r2:Vals (vs++dvs) (us++ds):=r.append hd
 have hl:(us++ds).length=ps.length:=by rw [←r2.length]; exact F.len _ _ _ _ h
 refine wpAny_call (codeAny_mono (F.run X.A X.stack s H ⟨us,[]⟩ (us++ds) (vs++dvs) Q E hr I.env0 (hb s us I.kIn hl) r2 h) fun r s' hq=>?_)
 cases r with
 | error e=>exact hx pins σ H s e s' I hq
 | ok fl =>
   cases fl with
   | ret u=>exact I.after hq
   | next=>exact False.elim hq
   | brk=>exact False.elim hq
   | cont=>exact False.elim hq
theorem pe_call (F:FnOk X.prog X.w X.K X.mg X.base CX k f fd ps sp) (hr:Room k X.A) (hg:Gl X x) (hm:X.mg x=some (.ref f)) (hk:PySem.W.keepIn X.K (.ref f)=true) (hb:Binds X.K fd ps ds) (hd:Vals dvs ds) (hx:Passes CX X E)
 (ha:PA X (e :: es) t) (hdb:(x == ("__debug__" : Str))=false:=by decide) (he:starEach (e :: es) X.env=(false,eval e X.env) :: starEach es X.env:=by rfl) (hpl:(backTo pos (starEach es X.env)).any (·.1)=false:=by rfl) :
 PE X (.Call (.Name x p) (e :: es) [] pos) (tCall sp dvs E t):=by
 intro pins s σ H Q I h
 refine wpAny_Call_Name_kw (ld_glob I hg hm ?_ hdb)
 refine PySem.W.callWith_K (h₀:=X.base) I.ok.mod.kin hk (thn (ha pos pins s σ H _ I h) fun us s1 ⟨vs,H1,I1,r,q⟩=>⟨I1.kIn,?_⟩) he hpl
 exact run_fn F hr hb hd hx I1 r q
end
section
variable {X:Cx} {CX:CXT} {k:Nat} {f C:Addr} {fd:FuncData} {ps ks:List Str} {sp:Sp} {E:XK} {x m:Str} {p pos apos kpos:Pos} {e o:Expr} {es:List Expr} {kws:List Keyword} {te ta:TE} {t tk:TA} {nm:Option Str}
variable {g:List Value→List Value→List Value} {gV:List V→List V→List V}
end
structure FnScope (N P:List Str) (sc:Scope):Prop where
 kind:sc.kind=.function
 co:sc.isCoroutine=false
 gen:sc.isGenerator=false
 nd:N.Nodup
 pre:N.take P.length=P
 par:∀ x∈P,sc.names.lookup x=some .local∨sc.names.lookup x=some .cell
 nofree:∀ y∈sc.names,y.2≠.free
theorem bindL_out {kindOf:Str→Option NameKind} {x:Str}:∀ {binds:List (Str × Value)} {m:Str→Option Value},(∀ v,(x,v) ∉ binds)→bindL kindOf binds m x=m x
 | [],_,_=>rfl
 | (n,v) :: r,m,h=>by
   unfold bindL
   rw [bindL_out fun w hw=>h w (List.mem_cons_of_mem _ hw)]
   split
   · have:x≠n:=by rintro rfl; exact h v List.mem_cons_self
     simp [this]
   · rfl
theorem bindC_out {kindOf:Str→Option NameKind} {x:Str}:∀ {binds:List (Str × Value)} {m:Str→Option Value},(∀ v,(x,v) ∉ binds)→bindC kindOf binds m x=m x
 | [],_,_=>rfl
 | (n,v) :: r,m,h=>by
   unfold bindC
   rw [bindC_out fun w hw=>h w (List.mem_cons_of_mem _ hw)]
   split
   · rfl
   · have:x≠n:=by rintro rfl; exact h v List.mem_cons_self
     simp [this]
theorem bindL_get {kindOf:Str→Option NameKind} {x:Str} {v:Value}:∀ {P:List Str} {vs:List Value} {i:Nat} {m:Str→Option Value},P.Nodup→P[i]?=some x→vs[i]?=some v→kindOf x=some .local →
 bindL kindOf (P.zip vs) m x=some v
 | [],_,_,_,_,h,_,_=>by simp at h
 | _ :: _,[],_,_,_,_,h,_=>by simp at h
 | p :: P,w :: vs,0,m,nd,h1,h2,hk=>by
   simp at h1 h2; subst h1; subst h2
   show bindL kindOf ((p,w) :: P.zip vs) m p=_
   unfold bindL
   rw [bindL_out fun v hv=>(List.nodup_cons.mp nd).1 (List.of_mem_zip hv).1,if_pos hk]
   simp
 | p :: P,w :: vs,i + 1,m,nd,h1,h2,hk=>by
   show bindL kindOf ((p,w) :: P.zip vs) m x=_
   unfold bindL
   exact bindL_get (i:=i) (List.nodup_cons.mp nd).2 (by simpa using h1) (by simpa using h2) hk
theorem bindC_get {kindOf:Str→Option NameKind} {x:Str} {v:Value}:∀ {P:List Str} {vs:List Value} {i:Nat} {m:Str→Option Value},P.Nodup→P[i]?=some x→vs[i]?=some v→kindOf x≠some .local →
 bindC kindOf (P.zip vs) m x=some v
 | [],_,_,_,_,h,_,_=>by simp at h
 | _ :: _,[],_,_,_,_,h,_=>by simp at h
 | p :: P,w :: vs,0,m,nd,h1,h2,hk=>by
   simp at h1 h2; subst h1; subst h2
   show bindC kindOf ((p,w) :: P.zip vs) m p=_
   unfold bindC
   rw [bindC_out fun v hv=>(List.nodup_cons.mp nd).1 (List.of_mem_zip hv).1,if_neg hk]
   simp
 | p :: P,w :: vs,i + 1,m,nd,h1,h2,hk=>by
   show bindC kindOf ((p,w) :: P.zip vs) m x=_
   unfold bindC
   exact bindC_get (i:=i) (List.nodup_cons.mp nd).2 (by simpa using h1) (by simpa using h2) hk
def start (N:List Str) (vs:List V):St:=vs.map some++List.replicate (N.length - vs.length) none
def cxOf (CX:CXT) (P:Program) (w:World) (K:PySem.W.Frag) (mg:Str→Option Value) (base:Heap) (N:List Str) (qual:Str) (scope:Scope) (f:Addr) (cd:Value) (A:Around) (outer:List Env) (s:Shared) (H:Hp) (E:XK):Cx where
 prog:=P
 w:=w
 K:=K
 mg:=mg
 base:=base
 A:=A.deeper (envOfC qual scope s.heap.objs.size f cd)
 N:=N
 s₀:=s
 H₀:=H
 env:=envOfC qual scope s.heap.objs.size f cd
 outer:=outer
 stack:=envOfC qual scope s.heap.objs.size f cd :: outer
 ex:=[]
 calm:=true
 fn:=fun _=>true
 pn:=[]
 xe:=fun e s'=>wpAny (model P w) (A.deeper (envOfC qual scope s.heap.objs.size f cd)) (leaving (envOfC qual scope s.heap.objs.size f cd) e) (fun _ s''=>CX outer H s E e s'') (fun e' s''=>CX outer H s E e' s'') s'
theorem cell_has {sc:Scope} {n:Nat} {x:Str} (h:sc.names.lookup x=some .cell):∃ c,(cellsFrom n sc.names []).lookup x=some c:=by
 have q:=PySem.W.cellsFrom_some sc.names n [] (.inl h)
 exact Option.isSome_iff_exists.mp q
theorem inv_start {CX:CXT} {P:Program} {w:World} {K:PySem.W.Frag} {mg:Str→Option Value} {base:Heap} {N ps:List Str} {qual:Str} {scope:Scope} {f:Addr} {cd:Value} {A:Around} {outer:List Env} {s s1:Shared} {H:Hp} {E:XK} {us:List Value} {vs:List V}
 (S:FnScope N ps scope) (hd:A.handled=none) (e0:Env0 P w K mg base A outer s H) (hl:vs.length=ps.length) (r:Vals vs us)
 (x:InCallC s s.heap.objs.size (bindL (envOfC qual scope s.heap.objs.size f cd).kindOf (ps.zip us) fun _=>none) (cellsFrom (s.heap.objs.size + 1) scope.names []) (bindC (envOfC qual scope s.heap.objs.size f cd).kindOf (ps.zip us) fun _=>none) s1) :
 Inv (cxOf CX P w K mg base N qual scope f cd A outer s H E) [] (start N vs) H s1:=by
 have hpl:ps.length≤N.length:=by have:=congrArg List.length S.pre; rw [List.length_take] at this; omega
 obtain ⟨h1,tk,rfl,hk⟩:=x.done
 have noA:∀ b:Addr,b ∉ (cxOf CX P w K mg base N qual scope f cd A outer s H E).ex:=fun b z=>absurd (show b∈([]:List Addr) from z) (by simp)
 refine ⟨⟨e0.mod,S.kind,rfl,rfl,Nat.le_refl _,fun y z c h1 h2=>?_,fun y hy=>?_,fun y c _ h=>?_,fun _=>hd,Around.frames_deeper e0.frames,.inr ⟨rfl,rfl⟩,fun b z=>absurd z (noA b),e0.bs,e0.bsz,fun b _ _=>noA b,fun b z=>absurd z (noA b),e0.funs,e0.frf⟩,
  rfl,e0.bare,Un.kept hk,⟨_,x.toInCall.ns,fun i y v h1 h2 h3=>?_⟩,fun y c h=>⟨_,x.cell y c h⟩,e0.hok.fresh (Nat.le_refl _),fun y c h=>?_,fun p hp=>absurd (show p∈([]:List (Addr × Obj)) from hp) (by simp),e0.hok.kept hk,?_⟩
 · exact name_of_addr x.apart (PySem.mem_of_lookup h1) (PySem.mem_of_lookup h2)
 · have hy:scope.names.lookup y=some .cell∨scope.names.lookup y=some .free:=hy
   rcases hy with hy | hy
   · exact cell_has hy
   · exact absurd rfl (S.nofree _ (PySem.mem_of_lookup hy))
 · exact Nat.le_of_lt (x.above y c (PySem.mem_of_lookup h))
 · have hi:i < vs.length:=by
    unfold start at h2
    by_cases hi:i < vs.length
    · exact hi
    · rw [List.getElem?_append_right (by simpa using hi)] at h2
      rw [List.getElem?_replicate] at h2
      split at h2 <;> cases h2
   have ha:vs[i]?=some v:=by
    unfold start at h2
    rw [List.getElem?_append_left (by simpa using hi),List.getElem?_map] at h2
    cases e:vs[i]? with
    | none=>rw [e] at h2; cases h2
    | some a=>rw [e] at h2; cases h2; rfl
   obtain ⟨u,hu,rv⟩:=r.get ha
   have hp:ps[i]?=some y:=by
    rw [←S.pre,List.getElem?_take_of_lt (by omega)]; exact h1
   have ndP:ps.Nodup:=by rw [←S.pre]; exact S.nd.sublist (List.take_sublist _ _)
   refine ⟨u,rv,?_⟩
   rcases S.par y (List.mem_of_getElem? hp) with k | k
   · exact .inl ⟨k,bindL_get ndP hp hu k⟩
   · obtain ⟨c,e⟩:=cell_has (n:=s.heap.objs.size + 1) k
     refine .inr ⟨.inl k,c,e,?_⟩
     have q:=x.cell y c e
     rw [bindC_get ndP hp hu (by show scope.names.lookup y≠_; rw [k]; decide)] at q
     exact q
 · exact e0.hok.fresh (Nat.le_of_lt (x.above y c (PySem.mem_of_lookup h)))
 · unfold start
   show _=N.length
   rw [List.length_append,List.length_map,List.length_replicate]
   omega
theorem fn_of {CX:CXT} {P:Program} {w:World} {K:PySem.W.Frag} {mg:Str→Option Value} {base:Heap} {k:Nat} {f:Addr} {name qual:Str} {params:Arguments} {body:List Stmt} {scope:Scope} {dV kV doc pm cdv ct oc:Value} {an od:Option Addr}
 {osl:Array (Option Value)} {N ps:List Str} {sp:Sp} (lk:K.lookup f=some ⟨oc,od,.func (PySem.W.fnOf name qual params body scope dV kV doc pm an cdv ct),osl⟩) (hcd:PySem.W.codeIn K cdv qual=true) (S:FnScope N ps scope)
 (len:∀ vs H Q E,sp vs H Q E→vs.length=ps.length)
 (hbody:∀ (A:Around) (outer:List Env) (s:Shared) (H:Hp) (vs:List V) (Q:VK) (E:XK),Room k (A.deeper (envOfC qual scope s.heap.objs.size f cdv))→sp vs H Q E →
  ∃ t,PSs (cxOf CX P w K mg base N qual scope f cdv A outer s H E) body t∧t { nx:=fun _ H'=>Q .non H',rt:=Q } (start N vs) H) :
 FnOk P w K mg base CX (k + 1) f (PySem.W.fnOf name qual params body scope dV kV doc pm an cdv ct) ps sp:=by
 refine ⟨len,fun A outer s H args us vs Q E hr e0 hb r hsp=>?_⟩
 have hl:=len _ _ _ _ hsp
 have KX:K.In s.heap:=e0.mod.kin.keeps fun b o e=>(e0.bs b o e).1
 have lim:s.heap.NoLimit:=e0.mod.nolimit.keeps fun b o e=>(e0.bs b o e).1
 have hkind:∀ y∈ps.zip us,scope.names.lookup y.1=some .local∨(scope.names.lookup y.1=some .cell∧((cellsFrom (s.heap.objs.size + 1) scope.names []).lookup y.1).isSome=true):=fun ⟨n,v⟩ hy=>by
  rcases S.par n (List.of_mem_zip hy).1 with q | q
  · exact .inl q
  · exact .inr ⟨q,PySem.W.cellsFrom_some _ _ _ (.inl q)⟩
 refine codeAny_call_function hr.depth (KX _ _ lk) rfl S.co S.gen rfl (PySem.W.codeRec_of KX hcd) (hb _ _ _ _ ?_)
 refine wpAny_newFunctionEnv_cells S.kind hkind fun env he s1 x=>?_
 subst he
 refine ⟨lim.keeps x.toInCall.keep,codeAny_func ?_⟩
 obtain ⟨t,ht,hq⟩:=hbody A outer s H vs Q E (hr.deeper _) hsp
 have I:Inv (cxOf CX P w K mg base N qual scope f cdv A outer s H E) [] (start N vs) H s1:=inv_start S hr.hd e0 hl r x
 refine wpAny_mono (ht [] s1 (start N vs) H _ I hq) (fun fl s' hs=>?_) fun e s' hs=>hs
 have fin:∀ {σ':St} {H':Hp} {v:V} {u:Value},Inv (cxOf CX P w K mg base N qual scope f cdv A outer s H E) [] σ' H' s'→RelV v u→Q v H'→CE outer P w H s Q u s' :=
  fun {σ' H' v u} J rv q=>⟨v,H',J.os,J.bare,J.base,J.hok,rv,q⟩
 cases fl with
 | ret u =>
   obtain ⟨v,σ',H',J,rv,q⟩:=hs
   exact fin J rv q
 | next =>
   obtain ⟨σ',H',J,q⟩:=hs
   exact fin (v:=V.non) (u:=Value.none) J rfl q
 | brk =>
   obtain ⟨_,_,_,q⟩:=hs
   exact False.elim q
 | cont =>
   obtain ⟨_,_,_,q⟩:=hs
   exact False.elim q
end L2
namespace L2
open PySem PySem.Spec PyProof.Rows
section
variable {X:Cx} {x:Str} {p pos:Pos} {e:Expr} {es:List Expr} {t:TA} {id T:String} {r:List V→Hp→VK→Prop}
def tCB (r:List V→Hp→VK→Prop) (t:TA):TE:=fun σ H Q=>t σ H fun vs H1=>r vs H1 Q
theorem pe_callB (hc:CallR X (.builtin id) r) (hm:X.mg x=none) (ha:PA X (e :: es) t) (hg:Gl X x:=by rfl) (hv:bootBuiltins x=some (.builtin id):=by decide +kernel) (hn:x ≠ "__name__" := by decide) (hdb:(x == ("__debug__" : Str))=false:=by decide)
 (he:starEach (e :: es) X.env=(false,eval e X.env) :: starEach es X.env:=by rfl) (hpl:(backTo pos (starEach es X.env)).any (·.1)=false:=by rfl):PE X (.Call (.Name x p) (e :: es) [] pos) (tCB r t):=by
 intro pins s σ H Q I h
 refine wpAny_Call_Name_kw (ld_blt I hg hm hv ?_ hn hdb)
 exact PyProof.Rows.callWith_builtin1 (thn (ha pos pins s σ H _ I h) fun us s1 ⟨vs,H1,I1,r1,q1⟩=>hc pins s1 σ H1 vs us Q I1 r1 q1) he hpl
theorem pe_callTy (hc:CallR X (.type T) r) (hm:X.mg x=none) (ha:PA X (e :: es) t) (hg:Gl X x:=by rfl) (hv:bootBuiltins x=some (.type T):=by decide +kernel) (hn:x ≠ "__name__" := by decide) (hdb:(x == ("__debug__" : Str))=false:=by decide)
 (he:starEach (e :: es) X.env=(false,eval e X.env) :: starEach es X.env:=by rfl) (hpl:(backTo pos (starEach es X.env)).any (·.1)=false:=by rfl):PE X (.Call (.Name x p) (e :: es) [] pos) (tCB r t):=by
 intro pins s σ H Q I h
 refine wpAny_Call_Name_kw (ld_blt I hg hm hv ?_ hn hdb)
 exact PyProof.Rows.callWith_type1 (thn (ha pos pins s σ H _ I h) fun us s1 ⟨vs,H1,I1,r1,q1⟩=>hc pins s1 σ H1 vs us Q I1 r1 q1) he hpl
end
end L2
namespace HT
open PySem PyProof.Rows
section
open PySem.SeqAt
open PySem.AutoSeq1 (wpAny_loadPart')
open PySem.MeetsSeq PySem.MeetsSeq2 PySem.MeetsSeq3
end
section
variable {prog:Program} {w:World} {A:Around} {E:Value→Shared→Prop} {s:Shared}
def sIx (n d:Nat):Option Int→Nat
 | none=>d
 | some v=>if v < 0 then (v + (n:Int)).toNat else min v.toNat n
theorem sIx_none (n d:Nat):sIx n d none=d:=rfl
theorem sIx_nat (n d k:Nat):sIx n d (some (k:Int))=min k n:=by
 show (if (k:Int) < 0 then ((k:Int) + (n:Int)).toNat else min (k:Int).toNat n)=min k n
 rw [if_neg (by omega),Int.toNat_natCast]
end
end HT
namespace L2
open PySem PySem.Spec PyProof.Rows
abbrev TO:=St→Hp→(Option Int→Hp→Prop)→Prop
def PO (X:Cx) (e:Option Expr) (t:TO):Prop :=
 ∀ (pins:List (Addr × Obj)) (s:Shared) (σ:St) (H:Hp) (Q:Option Int→Hp→Prop),Inv X pins σ H s→t σ H Q →
  wpAny (model X.prog X.w) X.A (evalPart e X.env) (fun u s'=>∃ o H',Inv X pins σ H' s'∧IsPart u o∧Q o H') X.xe s
def tNoPart:TO:=fun _ H Q=>Q none H
def tPart (t:TE):TO:=fun σ H Q=>t σ H fun x H1=>∃ i,x=.int i∧Q (some i) H1
section
variable {X:Cx} {e:Expr} {te:TE} {lo hi:Option Expr} {tl th:TO} {pos p2:Pos}
theorem po_none:PO X none tNoPart:=by
 intro pins s σ H Q I h
 rw [evalPart_none]
 exact wpAny_pure ⟨none,H,I,.none,h⟩
theorem po_some (h:PE X e te):PO X (some e) (tPart te):=by
 intro pins s σ H Q I hw
 rw [evalPart_some]
 refine thn (h pins s σ H _ I hw) fun u s1 ⟨x,H1,I1,r1,q1⟩=>?_
 obtain ⟨i,rfl,q⟩:=q1
 obtain ⟨t,rfl⟩:=r1
 exact ⟨some i,H1,I1,.int i t,q⟩
def SlR (X:Cx) (r:V→Option Int→Option Int→Hp→VK→Prop):Prop :=
 ∀ (pins:List (Addr × Obj)) (s:Shared) (σ:St) (H:Hp) (x:V) (v vl vu:Value) (lo hi:Option Int) (sl:Addr) (Q:VK),Inv X pins σ H s→RelV x v→s.heap.IsSliceOf sl vl vu .none→IsPart vl lo→IsPart vu hi→r x lo hi H Q →
  ∃ T id,typeLookup (.type T) "__getitem__" = pure (some (.builtin id))∧s.TypeIs v T∧wpAny (model X.prog X.w) X.A (getItem v (.ref sl)) (EP X pins σ Q) X.xe s
def tSl (r:V→Option Int→Option Int→Hp→VK→Prop) (te:TE) (tl th:TO):TE:=fun σ H Q=>te σ H fun x H1=>tl σ H1 fun l H2=>th σ H2 fun u H3=>r x l u H3 Q
theorem pe_slice {r:V→Option Int→Option Int→Hp→VK→Prop} (hr:SlR X r) (he:PE X e te) (hl:PO X lo tl) (hu:PO X hi th):PE X (.Subscript e (.Slice lo hi none p2) pos) (tSl r te tl th):=by
 intro pins s σ H Q I h
 refine Subscript_ (thn (he pins s σ H _ I h) fun v s1 ⟨x,H1,I1,r1,q1⟩=>?_)
 refine wpAny_Slice (thn (hl pins s1 σ H1 _ I1 q1) fun vl s2 ⟨l,H2,I2,pl,q2⟩=>thn (hu pins s2 σ H2 _ I2 q2) fun vu s3 ⟨u,H3,I3,pu,q3⟩=>?_)
 rw [evalPart_none]
 refine wpAny_pure ?_
 have I4:Inv X pins σ H3 { s3 with heap:=s3.heap.push { cls:=.type "slice",data:=.fields #[vl,vu,.none] } }:=I3.kept (t':=s3.toks) fun b ob q=>Heap.get?_push_of_some _ q
 obtain ⟨T,id,hT,ht,hg⟩:=hr pins { s3 with heap:=s3.heap.push { cls:=.type "slice",data:=.fields #[vl,vu,.none] } } σ H3 x v vl vu l u s3.heap.objs.size Q I4 r1 (Heap.IsSliceOf.new ..) pl pu q3
 show wpAny (model X.prog X.w) X.A (subscriptTail e (.Slice lo hi none p2) v (.ref s3.heap.objs.size)) (EP X pins σ Q) X.xe { s3 with heap:=s3.heap.push { cls:=.type "slice",data:=.fields #[vl,vu,.none] } }
 exact tail_any (ops:=[.ref s3.heap.objs.size,v]) ht hT hg (by with_unfolding_all rfl)
def cutV (xs:List V) (lo hi:Option Int):List V:=(xs.drop (HT.sIx xs.length 0 lo)).take (HT.sIx xs.length xs.length hi - HT.sIx xs.length 0 lo)
theorem cutV_length (xs:List V) (lo hi:Option Int):(cutV xs lo hi).length≤xs.length:=by
 unfold cutV
 rw [List.length_take,List.length_drop]
 omega
end
end L2
namespace L2
open PySem PySem.Spec PyProof.Rows
def ixN (n:Nat) (i:Int):Option Nat:=if 0≤i then (if i < n then some i.toNat else none) else if -(n:Int)≤i then some (i + n).toNat else none
def atI {α:Type} (xs:List α) (i:Int):Option α:=(ixN xs.length i).bind fun j=>xs[j]?
theorem ixN_seq {n:Nat} {i:Int} {j:Nat} (h:ixN n i=some j):seqIndex? i n=some j∧j < n∧-(n:Int)≤i∧i < n:=by
 unfold ixN at h
 by_cases h0:0≤i
 · rw [if_pos h0] at h
   by_cases h1:i < n
   · rw [if_pos h1] at h
     have e:i.toNat=j:=Option.some.inj h
     exact ⟨by rw [seqIndex_of h0 h1,e],by omega,by omega,h1⟩
   · rw [if_neg h1] at h; cases h
 · rw [if_neg h0] at h
   by_cases h1:-(n:Int)≤i
   · rw [if_pos h1] at h
     have e:(i + n).toNat=j:=Option.some.inj h
     exact ⟨by rw [seqIndex_neg (by omega) h1,e],by omega,h1,by omega⟩
   · rw [if_neg h1] at h; cases h
theorem atI_get {α:Type} {xs:List α} {i:Int} {v:α} (h:atI xs i=some v):∃ j,seqIndex? i xs.length=some j∧xs[j]?=some v∧j < xs.length∧-(xs.length:Int)≤i∧i < xs.length:=by
 unfold atI at h
 cases e:ixN xs.length i with
 | none=>rw [e] at h; cases h
 | some j =>
   rw [e] at h
   obtain ⟨h1,h2,h3,h4⟩:=ixN_seq e
   exact ⟨j,h1,h,h2,h3,h4⟩
theorem atI_nat {α:Type} {xs:List α} {j:Nat} {v:α} (h:xs[j]?=some v):atI xs (j:Int)=some v:=by
 have hj:j < xs.length:=(List.getElem?_eq_some_iff.mp h).1
 have e:ixN xs.length (j:Int)=some j:=by
  unfold ixN
  rw [if_pos (by omega),if_pos (by omega)]; simp
 unfold atI; rw [e]; exact h
def PlainIx (b:Expr):Prop:=∀ o i,subscripted b false o i=operate [o,i] (getItem o i)
def IxR (X:Cx) (r:R2):Prop :=
 ∀ (value slice:Expr) (pins:List (Addr × Obj)) (s:Shared) (σ:St) (H:Hp) (x y:V) (v u:Value) (Q:VK),Inv X pins σ H s→RelV x v→RelV y u→r x y H Q →
  subscripted slice false v u=operate [v,u] (getItem v u)→wpAny (model X.prog X.w) X.A (subscriptTail value slice v u) (EP X pins σ Q) X.xe s
def MtR (X:Cx) (id:String) (r:V→List V→Hp→VK→Prop):Prop :=
 ∀ (pins:List (Addr × Obj)) (s:Shared) (σ:St) (H:Hp) (x:V) (xs:List V) (v:Value) (us:List Value) (Q:VK),Inv X pins σ H s→RelV x v→Vals xs us→r x xs H Q →
  wpAny (model X.prog X.w) X.A (call (.builtin id) (v :: us)) (EP X pins σ Q) X.xe s
section
variable {X:Cx} {a b:Expr} {ta tb:TE} {pos:Pos}
theorem IxR.or {r r':R2} (h:IxR X r) (h':IxR X r'):IxR X (fun x y H Q=>r x y H Q∨r' x y H Q):=by
 intro value slice pins s σ H x y v u Q I rx ry q hs
 rcases q with q | q
 · exact h value slice pins s σ H x y v u Q I rx ry q hs
 · exact h' value slice pins s σ H x y v u Q I rx ry q hs
theorem pe_ix {r:R2} (hr:IxR X r) (ha:PE X a ta) (hb:PE X b tb) (hs:PlainIx b:=by exact fun _ _=>rfl):PE X (.Subscript a b pos) (tOp r ta tb):=by
 intro pins s σ H Q I h
 exact Subscript_ (binT ha hb I h fun v u s2 x y H2 I2 rx ry q=>hr a b pins s2 σ H2 x y v u Q I2 rx ry q (hs _ _))
def rIxL (K:PySem.W.Frag):R2:=fun x y H Q=>∃ p xs i v,x=.ref p∧y=.int i∧SqL K H p xs∧atI xs i=some v∧Q v H
def rIxT (K:PySem.W.Frag):R2:=fun x y H Q=>∃ p xs i v,x=.ref p∧y=.int i∧SqT K H p xs∧atI xs i=some v∧Q v H
def rIxS:R2:=fun x y H Q=>∃ z i c,x=.str z∧y=.int i∧z.length≤sizeLine∧atI z.cps.toList i=some c∧Q (.str ⟨#[c]⟩) H
theorem ix_list:IxR X (rIxL X.K):=by
 intro value slice pins s σ H x y v u Q I rx ry h hs
 obtain ⟨p,xs,i,z,rfl,rfl,hq,he,q⟩:=h
 cases rx
 obtain ⟨t,rfl⟩:=ry
 obtain ⟨its,r,pl,hz⟩:=I.list hq
 obtain ⟨j,h1,h2,h3,h4,h5⟩:=atI_get he
 obtain ⟨w,ew,rw'⟩:=r.get h2
 have hl:=r.length
 have hn:=line63
 have fin:EP X pins σ Q w s:=⟨z,H,I,rw',q⟩
 by_cases h0:0≤i
 · have hj:i.toNat=j:=by
    rw [seqIndex_of h0 h5] at h1
    exact Option.some.inj h1
   exact item_listR pl.isList h0 (by omega) (by rw [hj]; simpa using ew) fin hs
 · have hj:(i + (its.toArray.size:Int)).toNat=j:=by
    rw [seqIndex_neg (by omega) h4] at h1
    rw [List.size_toArray,←hl]
    exact Option.some.inj h1
   exact subscriptTail_builtinR (x:=w) pl.isList.typeIs slot_list_getitem.lookup
    (wpAny_getItem_list_neg (Q:=fun r s'=>r=w∧EP X pins σ Q r s') pl.isList (by omega) (by rw [List.size_toArray] <;> omega) (by omega) (by rw [hj]; simpa using ew) ⟨rfl,fin⟩) hs
theorem ix_tup:IxR X (rIxT X.K):=by
 intro value slice pins s σ H x y v u Q I rx ry h hs
 obtain ⟨p,xs,i,z,rfl,rfl,hq,he,q⟩:=h
 cases rx
 obtain ⟨t,rfl⟩:=ry
 obtain ⟨its,r,pl,hz⟩:=I.tuple hq
 obtain ⟨j,h1,h2,h3,h4,h5⟩:=atI_get he
 obtain ⟨w,ew,rw'⟩:=r.get h2
 have hl:=r.length
 have hn:=line63
 have fin:EP X pins σ Q w s:=⟨z,H,I,rw',q⟩
 exact subscriptTail_builtinR (x:=w) pl.typeIs slot_tuple_getitem.lookup
  (getItem_tuple (j:=j) (Q:=fun r s'=>r=w∧EP X pins σ Q r s') pl (by omega) (by omega) (by rw [List.size_toArray,←hl]; exact h1) (by simpa using ew) ⟨rfl,fin⟩) hs
theorem ix_str:IxR X rIxS:=by
 intro value slice pins s σ H x y v u Q I rx ry h hs
 obtain ⟨z,i,c,rfl,rfl,hz,he,q⟩:=h
 obtain ⟨t,rfl⟩:=rx
 obtain ⟨t',rfl⟩:=ry
 obtain ⟨j,h1,h2,h3,h4,h5⟩:=atI_get he
 have hl:z.cps.toList.length=z.length:=by simp [Str.length]
 rw [hl] at h1 h4 h5
 have hn:=line63
 exact tail_any (typeIs_str s z t) slot_str_getitem.lookup (getItem_str (c:=c) (by
  have e1:decide (i < -(2 ^ 63:Int))=false:=decide_eq_false (by omega)
  have e2:decide (i ≥ 2 ^ 63)=false:=decide_eq_false (by omega)
  rw [e1,e2,Bool.or_false]) (by rw [h1]; simpa using h2) ⟨.str ⟨#[c]⟩,H,I.tok _,⟨_,rfl⟩,q⟩) hs
def rIx (K:PySem.W.Frag):R2:=fun x y H Q=>rIxL K x y H Q∨rIxT K x y H Q∨rIxS x y H Q
theorem ix_seq:IxR X (rIx X.K):=ix_list.or (ix_tup.or ix_str)
theorem slice_bounds (lo hi:Option Int) (n:Nat):(sliceBounds lo hi none n).1=((HT.sIx n 0 lo:Nat):Int)∧(sliceBounds lo hi none n).2.1=((HT.sIx n n hi:Nat):Int)∧(sliceBounds lo hi none n).2.2=1:=by
 refine ⟨?_,?_,rfl⟩
 · cases lo with
   | none=>simp [sliceBounds,HT.sIx]
   | some i =>
     simp only [sliceBounds,HT.sIx,Option.getD_none,show (1:Int) > 0 by decide,if_true]
     by_cases h:i < 0
     · simp only [h,if_true] <;> omega
     · simp only [h,if_false] <;> omega
 · cases hi with
   | none=>simp [sliceBounds,HT.sIx]
   | some i =>
     simp only [sliceBounds,HT.sIx,Option.getD_none,show (1:Int) > 0 by decide,if_true]
     by_cases h:i < 0
     · simp only [h,if_true] <;> omega
     · simp only [h,if_false] <;> omega
theorem slicePick_cut (its:List Value) (lo hi:Option Int):slicePick its.toArray lo hi none=((its.drop (HT.sIx its.length 0 lo)).take (HT.sIx its.length its.length hi - HT.sIx its.length 0 lo)).toArray:=by
 obtain ⟨h1,h2,h3⟩:=slice_bounds lo hi its.toArray.size
 unfold slicePick
 rw [h1,h2,h3]
 simp only [sliceRange_one,pick_run,List.size_toArray] <;> rfl
def rSlL (K:PySem.W.Frag):V→Option Int→Option Int→Hp→VK→Prop:=fun x lo hi H Q=>∃ a xs,x=.ref a∧SqL K H a xs∧∀ p,H p=none→Q (.ref p) (upd H p (.lst (cutV xs lo hi)))
theorem sl_list:SlR X (rSlL X.K):=by
 intro pins s σ H x v vl vu lo hi sl Q I rx hs pl pu h
 obtain ⟨a,xs,rfl,hx,q⟩:=h
 cases rx
 obtain ⟨its,r,ht,hz⟩:=I.list hx
 have hlen:=r.length
 refine ⟨"list",_,slot_list_getitem.lookup,ht.isList.typeIs,?_⟩
 refine wpAny_getItem_list_slice ht.isList hs pl pu .none (by simp) ?_ (by rw [List.size_toArray] <;> omega)
 rw [slicePick_cut,←hlen]
 refine ⟨.ref s.heap.objs.size,_,I.laid (t':=s.toks) (o:=.lst (cutV xs lo hi)) (fun b ob q=>Heap.get?_push_of_some _ q) (Nat.le_refl _) ?_,rfl,q _ (I.hok.fresh (Nat.le_refl _))⟩
 exact ⟨Nat.le_trans (cutV_length xs lo hi) hz,_,0,(r.drop (HT.sIx xs.length 0 lo)).take (HT.sIx xs.length xs.length hi - HT.sIx xs.length 0 lo),Heap.get?_push_size _ rfl⟩
theorem call_list_of:CallR X (.type "list") (fun xs H Q=>∃ p ys,xs=[.ref p]∧(SqL X.K H p ys∨SqT X.K H p ys)∧∀ l,H l=none→Q (.ref l) (upd H l (.lst ys))):=by
 intro pins s σ H xs us Q I r h
 obtain ⟨p,ys,rfl,hq,q⟩:=h
 obtain ⟨u,rfl,rx⟩:=vals1 r
 cases rx
 have fin:∀ (its:List Value),Vals ys its→ys.length≤sizeLine→∀ (h':Heap) (c':Nat),(∀ b o',s.heap.get? b=some o'→h'.get? b=some o') →
  h'.get? s.heap.objs.size=some { cls:=.type "list",dict:=none,data:=.seq its.toArray c',slots:=#[] }→EP X pins σ Q (.ref s.heap.objs.size) { s with heap:=h' }:=fun its r' hz h' c' kp e =>
  ⟨.ref s.heap.objs.size,_,I.laid (t':=s.toks) kp (Nat.le_refl _) (show ObjOk X.prog X.w _ h' _ (.lst ys) from ⟨hz,its,c',r',e⟩),rfl,q _ (I.hok.fresh (Nat.le_refl _))⟩
 rcases hq with hq | hq
 · obtain ⟨its,r',pl,hz⟩:=I.list hq
   have hlen:=r'.length
   obtain ⟨o,ho,hc,n,hd⟩:=pl.isList
   exact call_list_seq p (.inl rfl) ho hc hd (fun h' c' kp e=>fin its r' hz h' c' kp e) (by simp only [List.size_toArray] <;> omega)
 · obtain ⟨its,r',pl,hz⟩:=I.tuple hq
   have hlen:=r'.length
   obtain ⟨o,ho,hc,n,hd⟩:=pl
   exact call_list_seq p (.inr rfl) ho hc hd (fun h' c' kp e=>fin its r' hz h' c' kp e) (by simp only [List.size_toArray] <;> omega)
theorem call_tuple_of:CallR X (.type "tuple") (fun xs H Q=>∃ p ys,xs=[.ref p]∧((SqL X.K H p ys∧∀ l,H l=none→Q (.ref l) (upd H l (.tup ys)))∨(SqT X.K H p ys∧Q (.ref p) H))):=by
 intro pins s σ H xs us Q I r h
 obtain ⟨p,ys,rfl,h⟩:=h
 obtain ⟨u,rfl,rx⟩:=vals1 r
 cases rx
 rcases h with ⟨hq,q⟩ | ⟨hq,q⟩
 · obtain ⟨its,r',pl,hz⟩:=I.list hq
   have hlen:=r'.length
   refine call_tuple_list pl.isList (fun h' kp=>?_) (by simp only [List.size_toArray] <;> omega)
   have I1:Inv X pins σ H { s with heap:=h' }:=I.kept (t':=s.toks) kp
   have I2:Inv X pins σ (upd H h'.objs.size (.tup ys)) { s with heap:=h'.push { cls:=.type "tuple",data:=.seq its.toArray } } :=
    I1.laid (t':=s.toks) (fun b o e=>Heap.get?_push_of_some _ e) (Nat.le_refl _) (show ObjOk X.prog X.w _ _ _ (.tup ys) from ⟨hz,its,r',IsTup.new _ _⟩)
   exact ⟨.ref h'.objs.size,_,I2,rfl,q _ (I1.hok.fresh (Nat.le_refl _))⟩
 · obtain ⟨its,r',pl,hz⟩:=I.tuple hq
   exact call_tuple_same pl ⟨.ref p,H,I,rfl,q⟩
def tyV (K:PySem.W.Frag) (T:String) (x:V) (H:Hp):Prop:=match x with
 | .str _=>T = "str"
 | .int _=>T = "int"
 | .ref p=>(T = "list" ∧ ∃ xs,SqL K H p xs)∨(T = "tuple" ∧ ∃ o,K.lookup p=some o∧o.cls=.type "tuple" ∧ o.dict=none) ∨
  (T = "dict" ∧ ((∃ kvs,H p=some (.dK kvs))∨∃ kvs,H p=some (.dT kvs)))∨(T = "set" ∧ ∃ S n,H p=some (.set S n))
 | _=>False
theorem tyV_is {pins : List (Addr × Obj)} {σ : St} {H : Hp} {s : Shared} {T : String} {x : V} {v : Value} (I : Inv X pins σ H s) (r : RelV x v) (ty : tyV X.K T x H) :
 s.TypeIs v T∧∀ a,v=.ref a→∃ ob,s.heap.get? a=some ob∧ob.dict=none:=by
 cases x with
 | str z =>
   obtain ⟨t,rfl⟩:=r
   cases (show T = "str" from ty)
   exact ⟨typeIs_str s z t,fun _ e=>nomatch e⟩
 | int i =>
   obtain ⟨t,rfl⟩:=r
   cases (show T = "int" from ty)
   exact ⟨typeIs_int s i t,fun _ e=>nomatch e⟩
 | ref p =>
   cases r
   rcases ty with ⟨rfl,xs,hq⟩ | ⟨rfl,o,hk,hc,hd⟩ | ⟨rfl,hk⟩ | ⟨rfl,S,n,hk⟩
   · obtain ⟨its,_,pl,_⟩:=I.list hq
     refine ⟨pl.isList.typeIs,fun a e=>?_⟩
     cases e
     obtain ⟨o,n,e,c,hd,_⟩:=pl
     exact ⟨o,e,hd⟩
   · refine ⟨⟨o,I.kIn p o hk,hc⟩,fun a e=>?_⟩
     cases e
     exact ⟨o,I.kIn _ o hk,hd⟩
   · have z:∃ o,s.heap.get? p=some o∧o.ExactDict:=by
      rcases hk with ⟨kvs,hk⟩ | ⟨kvs,hk⟩
      · obtain ⟨_,_,_,_,o,_,_,e,ex,_⟩:=I.hok p _ hk
        exact ⟨o,e,ex⟩
      · obtain ⟨_,_,_,_,o,_,_,e,ex,_⟩:=I.hok p _ hk
        exact ⟨o,e,ex⟩
     obtain ⟨o,e,ex⟩:=z
     refine ⟨⟨o,e,ex.1⟩,fun a e2=>?_⟩
     cases e2
     exact ⟨o,e,ex.2.1⟩
   · obtain ⟨o,_,_,_,e,ex,_⟩:=I.hok p _ hk
     refine ⟨⟨o,e,ex.1⟩,fun a e2=>?_⟩
     cases e2
     exact ⟨o,e,ex.2.1⟩
 | _=>exact False.elim ty
def tBM0 (K:PySem.W.Frag) (T:String) (r:V→List V→Hp→VK→Prop) (to:TE):TE:=fun σ H Q=>to σ H fun x H1=>tyV K T x H1∧r x [] H1 Q
def tBM (K:PySem.W.Frag) (T:String) (r:V→List V→Hp→VK→Prop) (to:TE) (t:TA):TE:=fun σ H Q=>to σ H fun x H1=>tyV K T x H1∧t σ H1 fun xs H2=>r x xs H2 Q
variable {o e:Expr} {es:List Expr} {to:TE} {t:TA} {name:Str} {apos cpos:Pos} {T id:String} {r:V→List V→Hp→VK→Prop}
theorem pe_bm0 (pa:PlainAttrs T) (slot:Slot T name id) (hty:typeOf (.builtin id)=pure (.type "method_descriptor")) (hm:MtR X id r) (ho:PE X o to)
 (hbase:attributeBase o name X.env (eval o X.env)=eval o X.env:=by rfl) (hline:(apos.endLine == cpos.line)=true:=by rfl):PE X (.Call (.Attribute o name apos) [] [] cpos) (tBM0 X.K T r to):=by
 intro pins s σ H Q I h
 refine wpAny_Call_method0_late hbase hline (thn (ho pins s σ H _ I h) fun v s1 ⟨x,H1,I1,r1,ty,q1⟩=>?_)
 obtain ⟨h1,h2⟩:=tyV_is I1 r1 ty
 exact ⟨T,id,pa,slot,hty,h1,h2,Calls.callWith_builtin rfl (PySem.evalArgs_none (hm pins s1 σ H1 x [] v [] Q I1 r1 .nil q1))⟩
theorem pe_bm (pa:PlainAttrs T) (slot:Slot T name id) (hty:typeOf (.builtin id)=pure (.type "method_descriptor")) (hm:MtR X id r) (ho:PE X o to) (ha:PA X (e :: es) t)
 (hbase:attributeBase o name X.env (eval o X.env)=eval o X.env:=by rfl)
 (hfew:((backTo cpos (starEach (e :: es) X.env)).all (fun x=>!x.1) && (backToKw cpos (keywordEach [] X.env)).all (fun x=>x.1.isSome)
  && decide ((e :: es).length + ([]:List Keyword).length + (if ([]:List Keyword).isEmpty then 0 else 1) < 30))=true:=by rfl)
 (hline:(apos.endLine == cpos.line)=true:=by rfl) (hs:starEach (e :: es) X.env=(false,eval e X.env) :: starEach es X.env:=by rfl) (hplain:(backTo cpos (starEach es X.env)).any (·.1)=false:=by rfl) :
 PE X (.Call (.Attribute o name apos) (e :: es) [] cpos) (tBM X.K T r to t):=by
 intro pins s σ H Q I h
 refine wpAny_Call_method_late hbase hfew hline rfl (thn (ho pins s σ H _ I h) fun v s1 ⟨x,H1,I1,r1,ty,q1⟩=>?_)
 obtain ⟨h1,h2⟩:=tyV_is I1 r1 ty
 refine ⟨T,id,pa,slot,hty,h1,h2,?_⟩
 have hA:=ha cpos pins s1 σ H1 _ I1 q1
 rw [hs] at hA ⊢
 refine Calls.callWith_builtin (by show (false || (backTo cpos (starEach es X.env)).any (·.1))=false; rw [hplain] <;> rfl) (Calls.evalArgs_plain ?_)
 exact thn hA fun us s2 ⟨vs,H2,I2,r2,q2⟩=>hm pins s2 σ H2 x vs v us Q I2 r1 r2 q2
end
end L2
namespace L2
open PySem PySem.Spec PyProof.Rows
def MtM (X:Cx) (id:String) (r:V→List V→Hp→VK→Prop):Prop :=
 ∀ (pins:List (Addr × Obj)) (s:Shared) (σ:St) (H:Hp) (x:V) (xs:List V) (v:Value) (us:List Value) (Q:VK),Inv X pins σ H s→RelV x v→Vals xs us→r x xs H Q →
  wpAny (model X.prog X.w) X.A (call (.builtin id) (v :: us)) (EP X pins σ Q) X.xe s
theorem Vals.one:∀ {x:V} {us:List Value},Vals [x] us→∃ u,us=[u]∧RelV x u
 | _,_,.cons r .nil=>⟨_,rfl,r⟩
theorem Vals.zero:∀ {us:List Value},Vals [] us→us=[]
 | _,.nil=>rfl
theorem Vals.reverse {xs:List V} {us:List Value} (h:Vals xs us):Vals xs.reverse us.reverse:=by
 induction h with
 | nil=>exact .nil
 | cons r t ih=>rw [List.reverse_cons,List.reverse_cons]; exact Vals.append ih (.cons r .nil)
section
variable {X:Cx} {pins:List (Addr × Obj)} {σ:St} {H:Hp} {s:Shared} {l b:Addr} {xs ys zs:List V}
theorem Inv.lset {its its':List Value} {n:Nat} {f:Array Value→Array Value} {t':Nat} (I:Inv X pins σ H s) (hH:H l=some (.lst xs))
 (e:s.heap.get? l=some { cls:=.type "list",data:=.seq its.toArray n }) (hf:f its.toArray=its'.toArray) (hv:Vals ys its') (hz:ys.length≤sizeLine) :
 Inv X pins σ (upd H l (.lst ys)) { s with heap:=s.heap.update l (Obj.mapSeq f),toks:=t' }:=by
 have q:=PySem.IsL.update e f
 rw [hf] at q
 refine I.write (x:=l) (e:=l) (by rw [hH]; exact trivial) (.inl rfl) (fun b' u hb hu=>(Heap.get?_update_other s.heap (Obj.mapSeq f) (Ne.symm hb)).trans hu) ⟨_,q⟩ ?_
 exact ⟨hz,its',_,hv,q⟩
theorem Inv.lnew {its:List Value} {t':Nat} (I:Inv X pins σ H s) (hv:Vals ys its) (hz:ys.length≤sizeLine) :
 Inv X pins σ (upd H s.heap.objs.size (.lst ys)) { s with heap:=s.heap.push { cls:=.type "list",data:=.seq its.toArray },toks:=t' } :=
 I.laid (fun _ _ q=>Heap.get?_push_of_some _ q) (Nat.le_refl _) ⟨hz,its,0,hv,Heap.get?_push_size _ rfl⟩
theorem Inv.fresh (I:Inv X pins σ H s):H s.heap.objs.size=none:=I.hok.fresh (Nat.le_refl _)
theorem Inv.lstM (I:Inv X pins σ H s) (hH:H l=some (.lst xs)):xs.length≤sizeLine∧∃ (its:List Value) (n:Nat),Vals xs its∧xs.length=its.length∧s.heap.get? l=some { cls:=.type "list",data:=.seq its.toArray n }:=by
 obtain ⟨z,its,n,r,e⟩:=I.hok l _ hH
 exact ⟨z,its,n,r,r.length,e⟩
theorem notLongL {n:Nat} (h:n≤sizeLine):Builtin.List.listTooLong n=false:=by
 unfold Builtin.List.listTooLong
 exact decide_eq_false (by omega)
end
section
variable {X:Cx}
def rAppend:V→List V→Hp→VK→Prop:=fun x vs H Q=>∃ l xs y,x=.ref l∧vs=[y]∧H l=some (.lst xs)∧xs.length < sizeLine∧Q .non (upd H l (.lst (xs++[y])))
theorem mt_append:MtM X "list.append" rAppend:=by
 intro pins s σ H x vs v us Q I rx rv h
 obtain ⟨l,xs,y,rfl,rfl,hH,hz,q⟩:=h
 cases rx
 obtain ⟨u,rfl,ru⟩:=rv.one
 obtain ⟨z,its,n,r,hl,e⟩:=I.lstM hH
 refine call_meets F.slot_list_append ⟨_,e,rfl⟩ F.entry_list_append (F.args_list_append_2 _ _) (PySem.list_append l its.toArray n u (by rw [List.size_toArray]; omega)) ⟨e,?_⟩
 refine ⟨.non,_,I.lset (its':=its++[u]) hH e (by simp) (r.append (.cons ru .nil)) ?_,rfl,q⟩
 rw [List.length_append,List.length_singleton]
 omega
def rExtend:V→List V→Hp→VK→Prop:=fun x vs H Q=>∃ l b xs zs,x=.ref l∧vs=[.ref b]∧H l=some (.lst xs)∧H b=some (.lst zs)∧xs.length + zs.length≤sizeLine∧Q .non (upd H l (.lst (xs++zs)))
theorem mt_extend:MtM X "list.extend" rExtend:=by
 intro pins s σ H x vs v us Q I rx rv h
 obtain ⟨l,b,xs,zs,rfl,rfl,hH,hB,hz,q⟩:=h
 cases rx
 obtain ⟨u,rfl,ru⟩:=rv.one
 cases ru
 obtain ⟨z,its,n,r,hl,e⟩:=I.lstM hH
 obtain ⟨z2,its2,n2,r2,hl2,e2⟩:=I.lstM hB
 have hsz:its.toArray.size + its2.toArray.size≤sizeLine:=by rw [List.size_toArray,List.size_toArray]; omega
 have hlong:¬ (!its.toArray.isEmpty && Builtin.List.listTooLong (its.toArray.size + its2.toArray.size))=true:=by
  rw [notLongL hsz,Bool.and_false]
  exact Bool.false_ne_true
 refine call_meets F.slot_list_extend ⟨_,e,rfl⟩ F.entry_list_extend (F.args_list_extend_2 _ _)
  (AutoSeq1.list_extend_list_list_0 l its.toArray n b its2.toArray n2 hlong (by rw [List.size_toArray]; omega) (by omega)) ⟨e,e2,?_⟩
 refine ⟨.non,_,I.lset (its':=its++its2) hH e (by simp) (r.append r2) ?_,rfl,q⟩
 rw [List.length_append]
 omega
def rReverse:V→List V→Hp→VK→Prop:=fun x vs H Q=>∃ l xs,x=.ref l∧vs=[]∧H l=some (.lst xs)∧Q .non (upd H l (.lst xs.reverse))
theorem mt_reverse:MtM X "list.reverse" rReverse:=by
 intro pins s σ H x vs v us Q I rx rv h
 obtain ⟨l,xs,rfl,rfl,hH,q⟩:=h
 cases rx
 have hus:=rv.zero
 subst hus
 obtain ⟨z,its,n,r,hl,e⟩:=I.lstM hH
 refine call_meets F.slot_list_reverse ⟨_,e,rfl⟩ F.entry_list_reverse (F.args_list_reverse_1 _) (AutoSeq1.list_reverse_list_0 l its.toArray n (by rw [List.size_toArray]; omega)) ⟨e,?_⟩
 refine ⟨.non,_,I.lset (its':=its.reverse) hH e (by simp) r.reverse ?_,rfl,q⟩
 rw [List.length_reverse]
 omega
def rCat:R2:=fun x y H Q=>∃ l b xs zs,x=.ref l∧y=.ref b∧H l=some (.lst xs)∧H b=some (.lst zs)∧xs.length + zs.length≤sizeLine∧∀ p,H p=none→Q (.ref p) (upd H p (.lst (xs++zs)))
theorem op_cat:OpR X (binaryOp .Add) rCat:=by
 intro pins s σ H x y v u Q I rx ry h
 obtain ⟨l,b,xs,zs,rfl,rfl,hH,hB,hz,q⟩:=h
 cases rx
 cases ry
 obtain ⟨z,its,n,r,hl,e⟩:=I.lstM hH
 obtain ⟨z2,its2,n2,r2,hl2,e2⟩:=I.lstM hB
 refine PySem.P.add_list e e2 ?_ (by rw [List.size_toArray,List.size_toArray]; omega)
 have ea:its.toArray++its2.toArray=(its++its2).toArray:=by simp
 rw [ea]
 exact ⟨.ref _,_,I.lnew (t':=s.toks) (r.append r2) (by rw [List.length_append]; omega),rfl,q _ I.fresh⟩
end
section
variable {prog:Program} {w:World} {A:Around} {E:Value→Shared→Prop} {s:Shared}
end
section
variable {X:Cx}
end
end L2
namespace L2
open PySem PySem.Spec PyProof.Rows
section
variable {κ:Type} [DecidableEq κ]
def valV (kvs:List (κ × V)) (k:κ):Option V:=(kvs.find? fun kv=>decide (kv.1=k)).map (·.2)
def putK (kvs:List (κ × V)) (k:κ) (v:V):List (κ × V) :=
 if (kvs.any fun kv=>decide (kv.1=k))=true then kvs.map (fun kv=>if kv.1=k then (kv.1,v) else kv) else kvs++[(k,v)]
theorem valV_pos {p:κ × V} {r:List (κ × V)} {k:κ} (e:p.1=k):valV (p :: r) k=some p.2:=by simp [valV,List.find?_cons,e]
theorem valV_neg {p:κ × V} {r:List (κ × V)} {k:κ} (e:¬ p.1=k):valV (p :: r) k=valV r k:=by simp [valV,List.find?_cons,e]
theorem valV_any (k:κ):∀ kvs:List (κ × V),(kvs.any fun kv=>decide (kv.1=k))=(valV kvs k).isSome
 | []=>rfl
 | p :: r=>by
   rw [List.any_cons]
   by_cases e:p.1=k
   · simp only [valV_pos e,decide_eq_true e,Bool.true_or,Option.isSome_some]
   · rw [valV_neg e,decide_eq_false e,Bool.false_or]; exact valV_any k r
theorem valV_map (k j:κ) (y:V):∀ kvs:List (κ × V),valV (kvs.map fun kv=>if kv.1=k then (kv.1,y) else kv) j=(valV kvs j).map fun x=>if j=k then y else x
 | []=>rfl
 | p :: r => by
   have ih:=valV_map k j y r
   rw [List.map_cons]
   by_cases h:p.1=k
   · rw [if_pos h]
     by_cases e:p.1=j
     · rw [valV_pos (p:=(p.1,y)) e,valV_pos e,Option.map_some,if_pos (e.symm.trans h)]
     · rw [valV_neg (p:=(p.1,y)) e,valV_neg e,ih]
   · rw [if_neg h]
     by_cases e:p.1=j
     · rw [valV_pos (p:=p) e,valV_pos e,Option.map_some,if_neg (fun z=>h (e.trans z))]
     · rw [valV_neg (p:=p) e,valV_neg e,ih]
theorem valV_snoc (k j:κ) (y:V):∀ kvs:List (κ × V),valV kvs k=none→valV (kvs++[(k,y)]) j=if j=k then some y else valV kvs j
 | [],_=>by
   by_cases e:k=j
   · rw [if_pos e.symm]; exact valV_pos (p:=(k,y)) e
   · rw [if_neg (fun z=>e z.symm)]; exact valV_neg (p:=(k,y)) e
 | p :: r,hn=>by
   rw [List.cons_append]
   have hk:¬ p.1=k:=fun z=>by rw [valV_pos z] at hn; cases hn
   rw [valV_neg hk] at hn
   have ih:=valV_snoc k j y r hn
   by_cases e:p.1=j
   · rw [valV_pos e,valV_pos e,if_neg (fun z=>hk (e.trans z))]
   · rw [valV_neg e,valV_neg e,ih]
theorem valV_put (kvs:List (κ × V)) (k j:κ) (y:V):valV (putK kvs k y) j=if j=k then some y else valV kvs j:=by
 unfold putK
 by_cases a:(kvs.any fun kv=>decide (kv.1=k))=true
 · rw [if_pos a,valV_map]
   rw [valV_any] at a
   by_cases e:j=k
   · obtain ⟨x,hx⟩:=Option.isSome_iff_exists.mp a
     rw [if_pos e,e,hx,Option.map_some,if_pos rfl]
   · rw [if_neg e]
     cases valV kvs j with
     | none=>rfl
     | some x=>rw [Option.map_some,if_neg e]
 · rw [if_neg a]
   refine valV_snoc k j y kvs ?_
   rw [valV_any] at a
   cases q:valV kvs k with
   | none=>rfl
   | some x=>rw [q] at a; exact (a rfl).elim
theorem length_putK (kvs:List (κ × V)) (k:κ) (v:V):(putK kvs k v).length≤kvs.length + 1:=by
 unfold putK
 split
 · rw [List.length_map]; omega
 · rw [List.length_append,List.length_cons,List.length_nil]; omega
theorem putK_new {kvs:List (κ × V)} {k:κ} (v:V) (h:valV kvs k=none):putK kvs k v=kvs++[(k,v)]:=by
 unfold putK
 rw [valV_any,h]
 exact if_neg (by decide)
theorem RelO.isSome_eq {o:Option V} {u:Option Value} (r:RelO o u):o.isSome=u.isSome:=by
 cases o with
 | none=>cases u with
   | none=>rfl
   | some _=>exact (show False from r).elim
 | some _=>cases u with
   | none=>exact (show False from r).elim
   | some _=>rfl
theorem RelO.getD {o:Option V} {u:Option Value} {d:V} {d':Value} (r:RelO o u) (rd:RelV d d'):RelV (o.getD d) (u.getD d'):=by
 cases o with
 | none=>cases u with
   | none=>exact rd
   | some _=>exact (show False from r).elim
 | some _=>cases u with
   | none=>exact (show False from r).elim
   | some _=>exact r
theorem KV.val {kvs:List (κ × V)} {vs:List (κ × Value)} (r:KV kvs vs) (k:κ):RelO (valV kvs k) (valueAt vs k):=by
 unfold KV at r
 induction r with
 | nil=>exact True.intro
 | @cons p q ps qs h t ih =>
   obtain ⟨h1,h2⟩:=h
   by_cases e:p.1=k
   · have e':q.1=k:=h1.symm.trans e
     have b:valueAt (q :: qs) k=some q.2:=by simp [valueAt,List.find?_cons,e']
     rw [valV_pos e,b]; exact h2
   · have e':¬ q.1=k:=fun z=>e (h1.trans z)
     have b:valueAt (q :: qs) k=valueAt qs k:=by simp [valueAt,List.find?_cons,e']
     rw [valV_neg e,b]; exact ih
theorem KV.any {kvs:List (κ × V)} {vs:List (κ × Value)} (r:KV kvs vs) (k:κ):(kvs.any fun kv=>decide (kv.1=k))=vs.any fun kv=>decide (kv.1=k):=by
 unfold KV at r
 induction r with
 | nil=>rfl
 | cons h t ih=>rw [List.any_cons,List.any_cons,ih,h.1]
theorem KV.repl {kvs:List (κ × V)} {vs:List (κ × Value)} (r:KV kvs vs) (k:κ) {y:V} {u:Value} (ry:RelV y u) :
 KV (kvs.map fun kv=>if kv.1=k then (kv.1,y) else kv) (vs.map fun kv=>if kv.1=k then (kv.1,u) else kv):=by
 unfold KV at r ⊢
 induction r with
 | nil=>exact .nil
 | @cons p q ps qs h t ih =>
   rw [List.map_cons,List.map_cons]
   refine .cons ?_ ih
   obtain ⟨h1,h2⟩:=h
   by_cases e:p.1=k
   · rw [if_pos e,if_pos (h1.symm.trans e)]; exact ⟨h1,ry⟩
   · rw [if_neg e,if_neg (fun z=>e (h1.trans z))]; exact ⟨h1,h2⟩
theorem KV.put {kvs:List (κ × V)} {vs:List (κ × Value)} (r:KV kvs vs) (k:κ) {y:V} {u:Value} (ry:RelV y u):KV (putK kvs k y) (stored vs k u):=by
 unfold putK stored
 rw [r.any k]
 by_cases e:(vs.any fun kv=>decide (kv.1=k))=true
 · rw [if_pos e,if_pos e]; exact r.repl k ry
 · rw [if_neg e,if_neg e]; exact Paired.snoc r ⟨rfl,ry⟩
theorem KV.keys {kvs:List (κ × V)} {vs:List (κ × Value)} (r:KV kvs vs):kvs.map (·.1)=vs.map (·.1):=by
 unfold KV at r
 induction r with
 | nil=>rfl
 | cons h t ih=>rw [List.map_cons,List.map_cons,ih,h.1]
theorem KV.length {kvs:List (κ × V)} {vs:List (κ × Value)} (r:KV kvs vs):kvs.length=vs.length:=Paired.length r
end
theorem kV_is {P:Program} {w:World} {k:Key} {u:Value} (r:RelV (kV k) u):(mixKind P w).is k u=true:=by
 cases k with
 | inl i=>obtain ⟨t,e⟩:=(show ∃ t,u=Value.int i t from r); subst e; exact mixKind_int P w i t
 | inr x=>obtain ⟨t,e⟩:=(show ∃ t,u=Value.str x t from r); subst e; exact mixKind_str P w x t
theorem items_are {P:Program} {w:World}:∀ {ks:List Key} {us:List Value},Vals (ks.map kV) us→ItemsAre (mixKind P w) ks us
 | [],_,r=>by rw [List.map_nil] at r; cases r; exact .nil
 | k :: ks,_,r=>by
   rw [List.map_cons] at r
   cases r with
   | cons h t=>exact .cons (kV_is h) (items_are t)
abbrev KT (H:Hp):List (List Key × V)→List (List Key × Addr × Value)→Prop:=Paired fun p q=>p.1=q.1∧H q.2.1=some (.tup (p.1.map kV))∧RelV p.2 q.2.2
theorem KT.val {H:Hp} {kvs:List (List Key × V)} {xs:List (List Key × Addr × Value)} (r:KT H kvs xs) (k:List Key):RelO (valV kvs k) ((atKey xs k).map (·.2)):=by
 induction r with
 | nil=>exact True.intro
 | @cons p q ps qs h t ih =>
   obtain ⟨h1,_,h2⟩:=h
   by_cases e:p.1=k
   · have e':q.1=k:=h1.symm.trans e
     have b:atKey (q :: qs) k=some q.2:=by simp [atKey,List.find?_cons,e']
     rw [valV_pos e,b]; exact h2
   · have e':¬ q.1=k:=fun z=>e (h1.trans z)
     have b:atKey (q :: qs) k=atKey qs k:=by simp [atKey,List.find?_cons,e']
     rw [valV_neg e,b]; exact ih
theorem KT.repl {H:Hp} {kvs:List (List Key × V)} {xs:List (List Key × Addr × Value)} (r:KT H kvs xs) (k:List Key) {y:V} {u:Value} (ry:RelV y u) :
 KT H (kvs.map fun kv=>if kv.1=k then (kv.1,y) else kv) (xs.map (putAt k u)):=by
 induction r with
 | nil=>exact .nil
 | @cons p q ps qs h t ih =>
   rw [List.map_cons,List.map_cons]
   refine .cons ?_ ih
   obtain ⟨h1,h2,h3⟩:=h
   unfold putAt
   by_cases e:p.1=k
   · rw [if_pos e,if_pos (h1.symm.trans e)]; exact ⟨h1,h2,ry⟩
   · rw [if_neg e,if_neg (fun z=>e (h1.trans z))]; exact ⟨h1,h2,h3⟩
theorem KT.put {H:Hp} {kvs:List (List Key × V)} {xs:List (List Key × Addr × Value)} (r:KT H kvs xs) (k:List Key) {b:Addr} {y:V} {u:Value} (hb:H b=some (.tup (k.map kV))) (ry:RelV y u) :
 KT H (putK kvs k y) (storedH xs k b u):=by
 have e:(kvs.any fun kv=>decide (kv.1=k))=(atKey xs k).isSome:=by
  rw [valV_any,(r.val k).isSome_eq,Option.isSome_map]
 unfold putK storedH
 rw [e]
 by_cases q:(atKey xs k).isSome=true
 · rw [if_pos q,if_pos q]; exact r.repl k ry
 · rw [if_neg q,if_neg q]; exact Paired.snoc r ⟨rfl,hb,ry⟩
theorem KT.keeps {H H':Hp} {kvs:List (List Key × V)} {xs:List (List Key × Addr × Value)} (r:KT H kvs xs) (ht:∀ b ys,H b=some (.tup ys)→H' b=some (.tup ys)):KT H' kvs xs :=
 Paired.mapP r fun _ _ z=>⟨z.1,ht _ _ z.2.1,z.2.2⟩
section
variable {P:Program} {w:World} {H:Hp} {h:Heap} {a:Addr}
theorem rd_of {u:HO} (ok:HOk P w H h) (e:Rd H a u):ObjOk P w H h a u:=e.ok ok
theorem dk_rd {kvs:List (Key × V)} (ok:HOk P w H h) (e:Rd H a (.dK kvs)):kvs.length≤sizeLine∧(a == sysModules)=false∧∃ vs,KV kvs vs∧h.DictOf (mixKind P w) a vs :=
 show ObjOk P w H h a (.dK kvs) from rd_of ok e
theorem dk_of {kvs:List (Key × V)} (ok:HOk P w H h) (e:H a=some (.dK kvs)):kvs.length≤sizeLine∧(a == sysModules)=false∧∃ vs,KV kvs vs∧h.DictOf (mixKind P w) a vs:=dk_rd ok (.inl e)
theorem key_of {ks:List Key} (ok:HOk P w H h) (e:H a=some (.tup (ks.map kV))):(tupleKind (mixKind P w)).is h ks a:=by
 obtain ⟨_,its,r,o,h1,h2,n,h3⟩:=(show ObjOk P w H h a (.tup (ks.map kV)) from ok a _ e)
 exact ⟨o,its.toArray,n,h1,h2,h3,by simpa using items_are r⟩
theorem dt_rd {kvs:List (List Key × V)} (ok:HOk P w H h) (e:Rd H a (.dT kvs)):kvs.length≤sizeLine∧(a == sysModules)=false ∧
 ∃ xs,KT H kvs xs∧h.DictOfH (tupleKind (mixKind P w)) a xs:=by
 obtain ⟨z,y,xs,r,o,es,ep,h1,h2,h3,h4,h5⟩:=(show ObjOk P w H h a (.dT kvs) from rd_of ok e)
 refine ⟨z,y,xs,r,o,es,ep,h1,h2,h3,h4,fun x hx=>?_,h5⟩
 have all : ∀ {l : List (List Key × V)} {m : List (List Key × Addr × Value)}, KT H l m → ∀ x ∈ m, (tupleKind (mixKind P w)).is h x.1 x.2.1 := by
  intro l m q
  induction q with
  | nil=>intro x hx; exact nomatch hx
  | @cons p q ps qs hq t ih =>
    intro x hx
    rcases List.mem_cons.mp hx with e | hx
    · subst e
      exact key_of ok (by rw [←hq.1]; exact hq.2.1)
    · exact ih x hx
 exact all r x hx
theorem dt_of {kvs:List (List Key × V)} (ok:HOk P w H h) (e:H a=some (.dT kvs)):kvs.length≤sizeLine∧(a == sysModules)=false ∧
 ∃ xs,KT H kvs xs∧h.DictOfH (tupleKind (mixKind P w)) a xs:=dt_rd ok (.inl e)
end
def DGet (H:Hp) (a:Addr) (y:V) (r:Option V):Prop :=
 (∃ kvs k,Rd H a (.dK kvs)∧y=kV k∧r=valV kvs k)∨∃ kvs k b,Rd H a (.dT kvs)∧y=.ref b∧H b=some (.tup (k.map kV))∧r=valV kvs k
def DPut (H:Hp) (a:Addr) (y v:V) (H':Hp):Prop :=
 (∃ kvs k,H a=some (.dK kvs)∧y=kV k∧kvs.length < sizeLine∧H'=upd H a (.dK (putK kvs k v))) ∨
 ∃ kvs k b,H a=some (.dT kvs)∧y=.ref b∧H b=some (.tup (k.map kV))∧kvs.length < sizeLine∧H'=upd H a (.dT (putK kvs k v))
theorem DGet.k {H:Hp} {a:Addr} {kvs:List (Key × V)} {k:Key} (e:H a=some (.dK kvs)):DGet H a (kV k) (valV kvs k):=.inl ⟨kvs,k,.inl e,rfl,rfl⟩
theorem DPut.k {H:Hp} {a:Addr} {kvs:List (Key × V)} {k:Key} {v:V} (e:H a=some (.dK kvs)) (hl:kvs.length < sizeLine):DPut H a (kV k) v (upd H a (.dK (putK kvs k v))):=.inl ⟨kvs,k,e,rfl,hl,rfl⟩
section
variable {X:Cx} {pins:List (Addr × Obj)} {σ:St} {H:Hp} {s:Shared} {a:Addr} {y v:V} {u r:Value} {o:Option V} {A:Around} {E:Value→Shared→Prop}
theorem Inv.big (I:Inv X pins σ H s):sysModules < s.heap.objs.size:=by
 have h:mainGlobals < s.heap.objs.size:=(I.mod.glob.keeps I.bk).lt
 exact Nat.lt_trans (by decide) h
theorem d_getItem {Q:Value→Shared→Prop} (hu:A.units + 1 < cLine) (I:Inv X pins σ H s) (g:DGet H a y (some v)) (ry:RelV y u) (h:∀ w' s',Inv X pins σ H s'→RelV v w'→Q w' s') :
 wpAny (model X.prog X.w) A (getItem (.ref a) u) Q E s:=by
 rcases g with ⟨kvs,k,e,ey,l⟩ | ⟨kvs,k,b,e,ey,eb,l⟩
 · subst ey
   obtain ⟨z,hd,vs,rel,dd⟩:=dk_rd I.hok e
   obtain ⟨w',hw,rw'⟩:=RelO.some_of (v:=v) (o:=valueAt vs k) (by rw [l]; exact rel.val k)
   exact wpAny_getItem_of (kV_is ry) dd.mapOf hw (h w' _ (I.tok _) rw')
 · subst ey
   cases (show u=Value.ref b from ry)
   obtain ⟨z,hd,xs,rel,dd⟩:=dt_rd I.hok e
   obtain ⟨w',hw,rw'⟩:=RelO.some_of (v:=v) (o:=(atKey xs k).map (·.2)) (by rw [l]; exact rel.val k)
   obtain ⟨p,hp,hp2⟩:=Option.map_eq_some_iff.mp hw
   refine wpAny_getItem_heap (tupleKind_room_in1 hu) (key_of I.hok eb) dd hp ?_
   rw [hp2]
   exact h w' _ (I.tok _) rw'
theorem d_in {Q:Value→Shared→Prop} (hu:A.units + 1 < cLine) (I:Inv X pins σ H s) (g:DGet H a y o) (ry:RelV y u) (h:∀ s',Inv X pins σ H s'→Q (.bool o.isSome) s') :
 wpAny (model X.prog X.w) A (compareOp .In u (.ref a)) Q E s:=by
 rcases g with ⟨kvs,k,e,ey,l⟩ | ⟨kvs,k,b,e,ey,eb,l⟩
 · subst ey
   obtain ⟨z,hd,vs,rel,dd⟩:=dk_rd I.hok e
   refine wpAny_in_of (kV_is ry) hd dd.mapOf ?_
   rw [←(rel.val k).isSome_eq,←l]
   exact h _ (I.tok _)
 · subst ey
   cases (show u=Value.ref b from ry)
   obtain ⟨z,hd,xs,rel,dd⟩:=dt_rd I.hok e
   refine wpAny_in_heap (tupleKind_room_in1 hu) (key_of I.hok eb) hd dd ?_
   have q:=(rel.val k).isSome_eq
   rw [Option.isSome_map] at q
   rw [←q,←l]
   exact h _ (I.tok _)
theorem d_notIn {Q:Value→Shared→Prop} (hu:A.units + 1 < cLine) (I:Inv X pins σ H s) (g:DGet H a y o) (ry:RelV y u) (h:∀ s',Inv X pins σ H s'→Q (.bool (!o.isSome)) s') :
 wpAny (model X.prog X.w) A (compareOp .NotIn u (.ref a)) Q E s:=by
 rcases g with ⟨kvs,k,e,ey,l⟩ | ⟨kvs,k,b,e,ey,eb,l⟩
 · subst ey
   obtain ⟨z,hd,vs,rel,dd⟩:=dk_rd I.hok e
   refine wpAny_notIn_of (kV_is ry) hd dd.mapOf ?_
   rw [←(rel.val k).isSome_eq,←l]
   exact h _ (I.tok _)
 · subst ey
   cases (show u=Value.ref b from ry)
   obtain ⟨z,hd,xs,rel,dd⟩:=dt_rd I.hok e
   refine wpAny_notIn_heap (tupleKind_room_in1 hu) (key_of I.hok eb) hd dd ?_
   have q:=(rel.val k).isSome_eq
   rw [Option.isSome_map] at q
   rw [←q,←l]
   exact h _ (I.tok _)
theorem d_write {h':Heap} {t':Nat} {ob:HO} (I:Inv X pins σ H s) (mu:Mut (H a)) (hs:Heap.SameBut a s.heap h') (he:∃ q,h'.get? a=some q) (new:ObjOk X.prog X.w (upd H a ob) h' a ob) :
 Inv X pins σ (upd H a ob) { s with heap:=h',toks:=t' } :=
 I.write (x:=a) (e:=a) mu (.inl rfl) (fun b q hb z=>(hs.2 b hb).trans z) he new
theorem dk_new {P:Program} {w:World} {H':Hp} {h':Heap} {kvs:List (Key × V)} {vs:List (Key × Value)} (z:kvs.length≤sizeLine) (hd:(a == sysModules)=false) (rel:KV kvs vs) (dd:h'.DictOf (mixKind P w) a vs) :
 ObjOk P w H' h' a (.dK kvs):=⟨z,hd,vs,rel,dd⟩
theorem d_setItem {H':Hp} {Q:Unit→Shared→Prop} (hu:A.units + 1 < cLine) (I:Inv X pins σ H s) (g:DPut H a y v H') (ry:RelV y u) (rv:RelV v r) (h:∀ s',Inv X pins σ H' s'→Q () s') :
 wpAny (model X.prog X.w) A (setItem (.ref a) u r) Q E s:=by
 rcases g with ⟨kvs,k,e,ey,l,eH⟩ | ⟨kvs,k,b,e,ey,eb,l,eH⟩
 · subst ey eH
   obtain ⟨z,hd,vs,rel,dd⟩:=dk_of I.hok e
   have hz:vs.length≤sizeLine:=by rw [←rel.length]; exact z
   have hl:(putK kvs k v).length≤sizeLine:=by have:=length_putK kvs k v; omega
   refine wpAny_setItem_pairs (hsz:=hz) (kV_is ry) dd fun h' dd' hs=>h _ ?_
   have he:∃ q,h'.get? a=some q:=let ⟨q,_,_,hq,_⟩:=dd'; ⟨q,hq⟩
   exact d_write I (by rw [e]; exact True.intro) hs he (dk_new hl hd (rel.put k rv) dd')
 · subst ey eH
   cases (show u=Value.ref b from ry)
   obtain ⟨z,hd,xs,rel,dd⟩:=dt_of I.hok e
   have hz:xs.length≤sizeLine:=by rw [←Paired.length rel]; exact z
   have hl:(putK kvs k v).length≤sizeLine:=by have:=length_putK kvs k v; omega
   refine wpAny_setItem_heap (hsz:=hz) (tupleKind_room_in1 hu) (key_of I.hok eb) dd fun h' dd' hs=>h _ ?_
   obtain ⟨q,es,ep,hq,h2,h3,h4,_,h5⟩:=dd'
   refine d_write I (by rw [e]; exact True.intro) hs ⟨q,hq⟩ ⟨hl,hd,_,(rel.put k eb rv).keeps fun c ys ec=>?_,q,es,ep,hq,h2,h3,h4,h5⟩
   rw [upd_ne (ne_of ec e (fun z=>nomatch z))]
   exact ec
end
section
variable {X:Cx} {pins:List (Addr × Obj)} {σ:St} {H:Hp} {s:Shared} {a:Addr} {kvs:List (Key × V)} {k:Key} {u:Value} {A:Around} {E:Value→Shared→Prop}
end
def NoSl (i:Expr):Prop:=∀ ov iv,subscripted i false ov iv=operate [ov,iv] (getItem ov iv)
theorem subD_of {prog:Program} {w:World} {A:Around} {E:Value→Shared→Prop} {s:Shared} {env:Env} {value slice:Expr} {pos:Pos} {T id:String} {Q:Value→Shared→Prop}
 (hl:typeLookup (.type T) "__getitem__" = pure (some (.builtin id))) (hs:NoSl slice)
 (h:wpAny (model prog w) A (eval value env) (fun o s₁=>wpAny (model prog w) A (eval slice env) (fun i s₂=>s₂.TypeIs o T∧wpAny (model prog w) A (getItem o i) Q E s₂) E s₁) E s) :
 wpAny (model prog w) A (eval (.Subscript value slice pos) env) Q E s:=by
 refine Subscript_ (wpAny_mono h (fun o s₁ h₁=>wpAny_mono h₁ (fun i s₂ h₂=>?_) fun _ _ x=>x) fun _ _ x=>x)
 obtain ⟨hT,h₂⟩:=h₂
 unfold subscriptTail
 refine wpAny_bind ?_
 rw [getitemInPython_of_ne hT.not_modules]
 refine wpAny_bind (wpAny_specialOf hT hl ?_)
 have fin:wpAny (model prog w) A (subscripted slice false o i) (fun r s₃=>wpAny (model prog w) A (letTemporaryGo value o r >>= fun _=>pure r) Q E s₃) E s₂:=by
  rw [hs o i]
  exact wpAny_operating (wpAny_mono h₂ (fun r s₃ h₃=>wpAny_bind (wpAny_letTemporaryGo (wpAny_pure h₃))) fun _ _ x=>x)
 first
  | exact wpAny_pure (wpAny_bind fin)
  | exact wpAny_bind (wpAny_pure (wpAny_bind fin))
  | exact wpAny_bind fin
theorem dict_typeIs {X:Cx} {pins:List (Addr × Obj)} {σ:St} {H:Hp} {s:Shared} {a:Addr} {y:V} {o:Option V} (I:Inv X pins σ H s) (g:DGet H a y o):s.TypeIs (.ref a) "dict" := by
 rcases g with ⟨kvs,k,e,_,_⟩ | ⟨kvs,k,b,e,_,_,_⟩
 · obtain ⟨_,_,vs,_,dd⟩:=dk_rd I.hok e
   exact dd.typeIs
 · obtain ⟨_,_,xs,_,dd⟩:=dt_rd I.hok e
   exact dd.typeIs
def tDGet (td ty:TE):TE:=fun σ H Q=>td σ H fun x H1=>ty σ H1 fun y H2=>∃ a v,x=.ref a∧DGet H2 a y (some v)∧Q v H2
section
variable {X:Cx} {o i e value:Expr} {pos pos' tpos:Pos} {td ty tv:TE}
theorem pe_dget (hu:X.A.units + 1 < cLine) (ho:PE X o td) (hi:PE X i ty) (hs:NoSl i):PE X (.Subscript o i pos) (tDGet td ty):=by
 intro pins s σ H Q I h
 refine subD_of PySem.F.slot_dict_getitem.lookup hs (thn (ho pins s σ H _ I h) fun u s1 ⟨x,H1,I1,rx,q1⟩=>thn (hi pins s1 σ H1 _ I1 q1) fun iv s2 ⟨y,H2,I2,ry,a,v,ex,g,q2⟩=>?_)
 subst ex
 obtain rfl:u=Value.ref a:=rx
 exact ⟨dict_typeIs I2 g,d_getItem hu I2 g ry fun w' s3 I3 rw'=>⟨v,H2,I3,rw',q2⟩⟩
end
theorem dk_empty {P:Program} {w:World} {H:Hp} (h:Heap) (hb:sysModules < h.objs.size):ObjOk P w H (h.push { cls:=.type "dict",data:=.dict #[] }) h.objs.size (.dK []) :=
 ⟨Nat.zero_le _,beq_eq_false_iff_ne.mpr (Ne.symm (Nat.ne_of_lt hb)),[],.nil,Heap.DictOf.new h⟩
theorem dt_empty {P:Program} {w:World} {H:Hp} (h:Heap) (hb:sysModules < h.objs.size):ObjOk P w H (h.push { cls:=.type "dict",data:=.dict #[] }) h.objs.size (.dT []) :=
 ⟨Nat.zero_le _,beq_eq_false_iff_ne.mpr (Ne.symm (Nat.ne_of_lt hb)),[],.nil,_,#[],0,Heap.get?_push_size _ rfl,⟨rfl,rfl,rfl⟩,rfl,rfl,List.nodup_nil⟩
def tDNewK:TE:=fun _ H Q=>∀ p,H p=none→Q (.ref p) (upd H p (.dK []))
section
variable {X:Cx} {pos:Pos}
theorem pe_dnewK:PE X (.Dict [] [] pos) tDNewK:=fun pins s σ H Q I h =>
 wpAny_Dict_empty ⟨.ref s.heap.objs.size,_,I.laid (a:=s.heap.objs.size) (o:=.dK []) (t':=s.toks) (fun _ _ q=>Heap.get?_push_of_some _ q) (Nat.le_refl _) (dk_empty s.heap I.big),rfl,h _ (I.hok.fresh (Nat.le_refl _))⟩
end
section
variable {X:Cx} {pins:List (Addr × Obj)} {σ:St} {H:Hp} {s:Shared} {a:Addr} {y d:V} {u r:Value} {o:Option V} {A:Around} {E:Value→Shared→Prop}
theorem d_get2 {Q:Value→Shared→Prop} (hu:A.units + 1 < cLine) (I:Inv X pins σ H s) (g:DGet H a y o) (ry:RelV y u) (rd:RelV d r) (h:∀ w' s',Inv X pins σ H s'→RelV (o.getD d) w'→Q w' s') :
 wpAny (model X.prog X.w) A (call (.builtin "dict.get") [.ref a,u,r]) Q E s:=by
 rcases g with ⟨kvs,k,e,ey,l⟩ | ⟨kvs,k,b,e,ey,eb,l⟩
 · subst ey
   obtain ⟨z,hd,vs,rel,dd⟩:=dk_rd I.hok e
   refine call_meetsIn PySem.F.slot_dict_get dd.typeIs PySem.F.entry_dict_get (PySem.F.args_dict_get_3 _ _ _) (meets_dict_get_default (mixKind X.prog X.w) a (kV_is ry) hd r) ⟨_,dd.mapOf,h _ _ (I.tok _) ?_⟩
   rw [l]
   exact (rel.val k).getD rd
 · subst ey
   cases (show u=Value.ref b from ry)
   obtain ⟨z,hd,xs,rel,dd⟩:=dt_rd I.hok e
   refine call_meetsIn PySem.F.slot_dict_get dd.typeIs PySem.F.entry_dict_get (PySem.F.args_dict_get_3 _ _ _) (meetsH_dict_get_default (tupleKind (mixKind X.prog X.w)) a b hd r) ⟨tupleKind_room_in1 hu,k,xs,key_of I.hok eb,dd,h _ _ (I.tok _) ?_⟩
   rw [l]
   exact (rel.val k).getD rd
end
section
variable {X:Cx} {o e f:Expr} {apos cpos:Pos} {td ty tx:TE}
end
section
variable {X:Cx} {pins:List (Addr × Obj)} {σ:St} {H:Hp} {s:Shared} {a:Addr} {kvs:List (Key × V)} {A:Around} {E:Value→Shared→Prop}
end
section
variable {X:Cx} {pins:List (Addr × Obj)} {σ:St} {H:Hp} {s:Shared} {a:Addr} {y:V} {u:Value} {A:Around} {E:Value→Shared→Prop}
end
end L2
namespace Att
open PySem PySem.W PySem.Calls PyProof.Rows
theorem ints_of_wellAll {P:Params} {h:Heap}:∀ (ns:List Int) (vs:List Value),WellAll P h vs (ns.map WData.int)→IntsAre vs ns:=by
 intro ns
 induction ns with
 | nil =>
   intro vs w
   rw [List.map_nil] at w
   cases w
   exact .nil
 | cons n ns ih =>
   intro vs w
   rw [List.map_cons] at w
   cases w with
   | cons a b =>
     cases a
     exact .cons _ _ (ih _ b)
theorem script_of {l:OpenLaw} {n:Nat} (hn:l.most=some n) {P:Params} {h:Heap} {args:List WData} {vals:List Value}
 (hpre:l.row.toRowW.claim.pre args=true) (hwl:WellAll P h vals args) :
 ∃ a vs ns,vals=[Value.ref a]∧args=[WData.list (ns.map WData.int)]∧h.get? a=some { cls:=.type "list",data:=.seq vs.toArray }∧IntsAre vs ns∧ns.length≤n:=by
 have hsh:WShape.hasAll [] args [.list .int]=true:=(pre_splitW hpre).1
 have hc:l.pre.holds [] { args:=args }=true:=(pre_splitW hpre).2
 obtain ⟨d,r,rfl,h1,h2⟩:=hasAllW_cons hsh
 obtain rfl:=hasAllW_nil h2
 obtain ⟨xs,rfl,h3⟩:=hasW_list h1
 obtain ⟨ns,rfl⟩:=items_int h3
 have hlen:ns.length≤n:=by
  unfold OpenLaw.pre at hc
  have h4:(WTm.not (.lt (.lit (.int (n:Int))) (.len (.arg 0)))).holds [] { args:=[.list (ns.map .int)] }=true:=by
   have h4:=(holds_andW hc).1
   rw [hn] at h4
   exact h4
  have h5:=condW_of h4 (w_not (w_lt w_lit (w_len_list (w_arg rfl))))
  rw [List.length_map] at h5
  refine Nat.le_of_not_lt fun q=>?_
  have q':(n:Int) < ((ns.length:Nat):Int):=by omega
  first
   | (rw [decide_eq_true q'] at h5; exact absurd h5 (by decide))
   | (simp at h5; omega)
 cases hwl with
 | cons w1 w2 =>
   cases w2
   cases w1 with
   | list ho hall=>exact ⟨_,_,ns,rfl,rfl,ho,ints_of_wellAll ns _ hall,hlen⟩
theorem post_true (l:OpenLaw) (args:List WData):l.row.toRowW.claim.post args (.bool true) args=true :=
 postW_of (r:=l.row.toRowW) (X:=(true == true))
  (show WShape.has [] (.bool true) .bool=true by first | rfl | decide | simp [WShape.has,WShape.arms,WShape.armsAll])
  (show (WTm.eq .res (.lit (.bool true))).value [] { args:=args,res:=some (.bool true),after:=args }=some (.bool (true == true)) from w_eq_bool (w_res rfl) w_lit) rfl
theorem attach_call {l:OpenLaw} {n:Nat} {q:Program} {loose:List Str} {XP:(Str→Option Value)→Heap→Prop} {YP:World→Heap→Prop} {d:DefRec}
 (hn:l.most=some n) (hdf:d.params.defaults=[])
 (call:∀ (w:World) (s₀ s₁:Shared) (mg mb:Str→Option Value) (fa:Addr) (o:Obj) (pm cd doc:Value) (a:Addr) (vs:List Value) (ns:List Int),
  Ground q loose [] XP w s₀ mg mb s₁.heap→YP w s₁.heap →
  s₁.heap.get? fa=some o→o.data=.func (docDef d.name d.params d.body d.scope pm cd doc)→s₁.heap.CodeRec cd d.name→mg d.name=some (.ref fa) →
  s₁.heap.get? a=some { cls:=.type "list",data:=.seq vs.toArray }→IntsAre vs ns→ns.length≤n→s₁.gens=#[] →
  codeAny (model l.prog w) callerA (.call (.ref fa) ⟨[.ref a],[]⟩) (fun r s'=>r=.ok (.ret (.bool true))∧OldK s₁.heap s'.heap∧s'.os=s₁.os∧AllBare s'.gens) s₁) :
 WalkO q loose XP YP l.row.toRowW d [] (fun f vs=>PySem.call f vs):=by
 intro w s₀ s₁ mg mb G Y fa o pm cd doc dV kV ho hd hcd hD hmg hg args vals as hpre hlay hrd hwl hlo
 obtain rfl:dV=.none:=Dflts.none hD hdf
 obtain rfl:kV=.none:=Dflts.noKw hD
 obtain ⟨a,vs,ns,rfl,rfl,hobj,hints,hlen⟩:=script_of hn hpre hwl
 refine enter_call (codeAny_mono (call w s₀ s₁ mg mb fa o pm cd doc a vs ns G Y ho (fd_plain hd) hcd hmg hobj hints hlen hg) fun r s' hq=>?_)
 obtain ⟨rfl,h2,h3,h4⟩:=hq
 exact ⟨.inl ⟨.bool true,.bool true,[],rfl,fun _=>rfl,.bool true,post_true l _,fun _=>⟨List.Pairwise.nil,fun _ hm=>(nomatch hm)⟩⟩,h2,h3,h4⟩
section
variable {prog:Program} {w:World} {A:Around} {E:Value→Shared→Prop} {s:Shared} {K:Frag}
end
end Att
namespace L2
open PySem PySem.Spec PyProof.Rows
theorem vals_ints:∀ {vs:List Value} {ns:List Int},IntsAre vs ns→Vals (ns.map V.int) vs
 | _,_,.nil=>.nil
 | _,_,.cons n t h=>.cons ⟨t,rfl⟩ (vals_ints h)
end L2
namespace L2
open PySem PySem.Spec PyProof.Rows
end L2
namespace L2
open PySem PySem.Spec PyProof.Rows
def defArgs (s:Stmt):Arguments:=match s with
 | .FunctionDef _ a _ _ _ _ _ _ _ _=>a
 | _=>{ posonlyargs:=[],args:=[],vararg:=none,kwonlyargs:=[],kw_defaults:=[],kwarg:=none,defaults:=[] }
def defBody (s:Stmt):List Stmt:=match s with
 | .FunctionDef _ _ b _ _ _ _ _ _ _=>b
 | _=>[]
def defScope (s:Stmt):Scope:=match s with
 | .FunctionDef _ _ _ _ _ _ sc _ _ _=>sc
 | _=>{ kind:=.function,names:=[],isGenerator:=false,isCoroutine:=false }
abbrev CX0:CXT:=fun _ _ _ _ _ _=>False
abbrev E0:XK:=fun _ _ _=>False
theorem pass0 {X:Cx}:Passes CX0 X E0:=fun _ _ _ _ _ _ _ h=>h.elim
structure Fun (K:PySem.W.Frag) (x qual:Str) (st:Stmt) (f:Addr) (fd:FuncData):Prop where
 ex:∃ (oc:Value) (od:Option Addr) (kV doc pm:Value) (an:Option Addr) (cdv ct:Value) (osl:Array (Option Value)),
  fd=PySem.W.fnOf x qual (defArgs st) (defBody st) (defScope st) .none kV doc pm an cdv ct∧K.lookup f=some ⟨oc,od,.func fd,osl⟩∧PySem.W.codeIn K cdv qual=true
 kp:PySem.W.keepIn K (.ref f)=true
section
variable {P:Program} {w:World} {K:PySem.W.Frag} {mg:Str→Option Value} {base:Heap}
theorem Fun.ok {x qual:Str} {st:Stmt} {f:Addr} {fd:FuncData} {N ps:List Str} {k:Nat} {sp:Sp} (F:Fun K x qual st f fd) (S:FnScope N ps (defScope st)) (len:∀ vs H Q E,sp vs H Q E→vs.length=ps.length)
 (hbody:∀ (cdv:Value) (A:Around) (outer:List Env) (s:Shared) (H:Hp) (vs:List V) (Q:VK) (E:XK),Room k (A.deeper (envOfC qual (defScope st) s.heap.objs.size f cdv))→sp vs H Q E →
  ∃ t,PSs (cxOf CX0 P w K mg base N qual (defScope st) f cdv A outer s H E).nox (defBody st) t∧t { nx:=fun _ H'=>Q .non H',rt:=Q } (start N vs) H):FnOk P w K mg base CX0 (k + 1) f fd ps sp:=by
 obtain ⟨oc,od,kV,doc,pm,an,cdv,ct,osl,rfl,lk,hcd⟩:=F.ex
 refine fn_of lk hcd S len fun A outer s H vs Q E hr hsp=>?_
 obtain ⟨t,h,q⟩:=hbody cdv A outer s H vs Q E hr hsp
 exact ⟨t,h.nox,q⟩
theorem Fun.binds {x qual:Str} {st:Stmt} {f:Addr} {fd:FuncData} {ps:List Str} (F:Fun K x qual st f fd)
 (h:∀ (kV doc pm:Value) (an:Option Addr) (cdv ct:Value) (us:List Value),us.length=ps.length→bindArgs (PySem.W.fnOf x qual (defArgs st) (defBody st) (defScope st) .none kV doc pm an cdv ct) ⟨us,[]⟩=pure (ps.zip us)):Binds K fd ps []:=by
 obtain ⟨oc,od,kV,doc,pm,an,cdv,ct,osl,rfl,lk,hcd⟩:=F.ex
 exact .all (h kV doc pm an cdv ct)
theorem fun_mk {x qual:Str} {st:Stmt} {f:Addr} {oc:Value} {od an:Option Addr} {osl:Array (Option Value)} {kV doc pm cdv ct:Value} (l:K.lookup f=some ⟨oc,od,.func (PySem.W.fnOf x qual (defArgs st) (defBody st) (defScope st) .none kV doc pm an cdv ct),osl⟩)
 (c:PySem.W.codeIn K cdv qual=true) (k:PySem.W.keepIn K (.ref f)=true):Fun K x qual st f (PySem.W.fnOf x qual (defArgs st) (defBody st) (defScope st) .none kV doc pm an cdv ct):=⟨⟨oc,od,kV,doc,pm,an,cdv,ct,osl,rfl,l,c⟩,k⟩
end
theorem hu_of {A:Around} {k:Nat} (hr:Room k A):A.units + 1 < cLine:=Nat.lt_of_le_of_lt (Nat.add_le_add_left (by decide:1≤64) _) hr.units
theorem small1000 {n:Nat} (h:n≤1000):n < sizeLine:=Nat.lt_of_le_of_lt h (by decide)
section
variable {X:Cx}
theorem pv (i:Nat) {x:Str} {pos:Pos} (hN:X.N[i]?=some x:=by rfl) (hv:Vis X.env.scope x:=by first | exact Or.inl rfl | exact Or.inr (Or.inl rfl) | exact Or.inr (Or.inr rfl)) (hd:(x == ("__debug__" : Str))=false:=by decide)
 (hcd:(x == ("__classdict__" : Str))=false:=by decide):PE X (.Name x pos) (tVar i):=pe_var hN hv hd hcd
end
theorem iteF {A B:Prop} (h:B):if false=true then A else B:=by
 rw [if_neg Bool.false_ne_true]
 exact h
theorem iteT {A B:Prop} (h:A):if true=true then A else B:=by
 rw [if_pos rfl]
 exact h
theorem ite2 {c A B:Prop} [Decidable c] (h1:c→A) (h2:¬ c→B):if c then A else B:=by
 by_cases h:c
 · rw [if_pos h]
   exact h1 h
 · rw [if_neg h]
   exact h2 h
def Same (H H':Hp):Prop:=∀ b o,H b=some o→H' b=some o
theorem Same.refl (H:Hp):Same H H:=fun _ _ h=>h
theorem Same.trans {H H1 H2:Hp} (a:Same H H1) (b:Same H1 H2):Same H H2:=fun c o h=>b c o (a c o h)
theorem Same.free {H H':Hp} (e:Same H H') {l:Addr} (h:H' l=Option.none):H l=Option.none:=by
 cases q:H l with
 | none=>rfl
 | some o =>
   rw [e l o q] at h
   cases h
theorem Same.seq {K:PySem.W.Frag} {H H':Hp} {a:Addr} {xs:List V} (e:Same H H') (h:SqL K H a xs):SqL K H' a xs:=by
 rcases h with (h | ⟨o,h⟩) | h
 · exact .inl (.inl (e _ _ h))
 · exact .inl (.inr ⟨o,e _ _ h⟩)
 · exact .inr h
section
variable {κ:Type} [DecidableEq κ]
end
end L2
namespace L2
open PySem PySem.Spec PyProof.Rows
inductive Ty where
 | int | bool | str | non | lst | tup | dct
 deriving DecidableEq
def Ty.name:Ty→String
 | .int => "int" | .bool => "bool" | .str => "str" | .non => "NoneType" | .lst => "list" | .tup => "tuple" | .dct => "dict"
inductive TyN (K:PySem.W.Frag) (H:Hp):V→Ty→Prop where
 | int (i:Int):TyN K H (.int i) .int
 | bl (b:Bool):TyN K H (.bl b) .bool
 | str (x:Str):TyN K H (.str x) .str
 | non:TyN K H .non .non
 | lst {a:Addr} {xs:List V} (h:SqL K H a xs):TyN K H (.ref a) .lst
 | tup {a:Addr} {xs:List V} (h:SqT K H a xs):TyN K H (.ref a) .tup
 | dk {a:Addr} {kvs:List (Key × V)} (h:H a=some (.dK kvs)):TyN K H (.ref a) .dct
def isiB:Ty→Ty→Bool
 | .int,.int=>true | .bool,.bool=>true | .bool,.int=>true | .str,.str=>true | .non,.non=>true | .lst,.lst=>true | .tup,.tup=>true | .dct,.dct=>true | _,_=>false
def rIsi (K:PySem.W.Frag):List V→Hp→VK→Prop:=fun vs H Q=>∃ x T T',vs=[x,.ty (Ty.name T)]∧TyN K H x T'∧Q (.bl (isiB T' T)) H
theorem call_isi {X:Cx}:CallR X (.builtin "isinstance") (rIsi X.K):=by
 intro pins s σ H vs us Q I r h
 obtain ⟨x,T,T',rfl,ty,q⟩:=h
 obtain ⟨u,u2,rfl,ru,ru2⟩:=vals2 r
 have e2:u2=Value.type (Ty.name T):=ru2
 subst e2
 cases ty with
 | int i =>
   obtain ⟨t,rfl⟩:=ru
   cases T with
   | int=>exact IsiPair.int_int ⟨.bl true,H,I,rfl,q⟩
   | bool=>exact IsiPair.int_bool ⟨.bl false,H,I.tok _,rfl,q⟩
   | str=>exact IsiPair.int_str ⟨.bl false,H,I.tok _,rfl,q⟩
   | non=>exact IsiPair.int_NoneType ⟨.bl false,H,I.tok _,rfl,q⟩
   | lst=>exact IsiPair.int_list ⟨.bl false,H,I.tok _,rfl,q⟩
   | tup=>exact IsiPair.int_tuple ⟨.bl false,H,I.tok _,rfl,q⟩
   | dct=>exact IsiPair.int_dict ⟨.bl false,H,I.tok _,rfl,q⟩
 | bl b =>
   obtain rfl:u=Value.bool b:=ru
   cases T with
   | int=>exact IsiPair.bool_int ⟨.bl true,H,I,rfl,q⟩
   | bool=>exact IsiPair.bool_bool ⟨.bl true,H,I,rfl,q⟩
   | str=>exact IsiPair.bool_str ⟨.bl false,H,I.tok _,rfl,q⟩
   | non=>exact IsiPair.bool_NoneType ⟨.bl false,H,I.tok _,rfl,q⟩
   | lst=>exact IsiPair.bool_list ⟨.bl false,H,I.tok _,rfl,q⟩
   | tup=>exact IsiPair.bool_tuple ⟨.bl false,H,I.tok _,rfl,q⟩
   | dct=>exact IsiPair.bool_dict ⟨.bl false,H,I.tok _,rfl,q⟩
 | str y =>
   obtain ⟨t,rfl⟩:=ru
   cases T with
   | int=>exact IsiPair.str_int ⟨.bl false,H,I.tok _,rfl,q⟩
   | bool=>exact IsiPair.str_bool ⟨.bl false,H,I.tok _,rfl,q⟩
   | str=>exact IsiPair.str_str ⟨.bl true,H,I,rfl,q⟩
   | non=>exact IsiPair.str_NoneType ⟨.bl false,H,I.tok _,rfl,q⟩
   | lst=>exact IsiPair.str_list ⟨.bl false,H,I.tok _,rfl,q⟩
   | tup=>exact IsiPair.str_tuple ⟨.bl false,H,I.tok _,rfl,q⟩
   | dct=>exact IsiPair.str_dict ⟨.bl false,H,I.tok _,rfl,q⟩
 | non =>
   obtain rfl:u=Value.none:=ru
   cases T with
   | int=>exact IsiPair.NoneType_int ⟨.bl false,H,I.tok _,rfl,q⟩
   | bool=>exact IsiPair.NoneType_bool ⟨.bl false,H,I.tok _,rfl,q⟩
   | str=>exact IsiPair.NoneType_str ⟨.bl false,H,I.tok _,rfl,q⟩
   | non=>exact IsiPair.NoneType_NoneType ⟨.bl true,H,I,rfl,q⟩
   | lst=>exact IsiPair.NoneType_list ⟨.bl false,H,I.tok _,rfl,q⟩
   | tup=>exact IsiPair.NoneType_tuple ⟨.bl false,H,I.tok _,rfl,q⟩
   | dct=>exact IsiPair.NoneType_dict ⟨.bl false,H,I.tok _,rfl,q⟩
 | lst hq =>
   obtain rfl:u=Value.ref _:=ru
   obtain ⟨its,rv,⟨o,n,e,hc,hd,hs⟩,hz⟩:=I.list hq
   cases T with
   | int=>exact IsiPair.list_int e hc ⟨.bl false,H,I.tok _,rfl,q⟩
   | bool=>exact IsiPair.list_bool e hc ⟨.bl false,H,I.tok _,rfl,q⟩
   | str=>exact IsiPair.list_str e hc ⟨.bl false,H,I.tok _,rfl,q⟩
   | non=>exact IsiPair.list_NoneType e hc ⟨.bl false,H,I.tok _,rfl,q⟩
   | lst=>exact IsiPair.list_list e hc ⟨.bl true,H,I,rfl,q⟩
   | tup=>exact IsiPair.list_tuple e hc ⟨.bl false,H,I.tok _,rfl,q⟩
   | dct=>exact IsiPair.list_dict e hc ⟨.bl false,H,I.tok _,rfl,q⟩
 | tup hq =>
   obtain rfl:u=Value.ref _:=ru
   obtain ⟨its,rv,⟨o,e,hc,n,hs⟩,hz⟩:=I.tuple hq
   cases T with
   | int=>exact IsiPair.tuple_int e hc ⟨.bl false,H,I.tok _,rfl,q⟩
   | bool=>exact IsiPair.tuple_bool e hc ⟨.bl false,H,I.tok _,rfl,q⟩
   | str=>exact IsiPair.tuple_str e hc ⟨.bl false,H,I.tok _,rfl,q⟩
   | non=>exact IsiPair.tuple_NoneType e hc ⟨.bl false,H,I.tok _,rfl,q⟩
   | lst=>exact IsiPair.tuple_list e hc ⟨.bl false,H,I.tok _,rfl,q⟩
   | tup=>exact IsiPair.tuple_tuple e hc ⟨.bl true,H,I,rfl,q⟩
   | dct=>exact IsiPair.tuple_dict e hc ⟨.bl false,H,I.tok _,rfl,q⟩
 | dk hq =>
   obtain rfl:u=Value.ref _:=ru
   obtain ⟨hz,hm,vs,rel,o,es,ep,e,ex,hr⟩:=I.hok _ _ hq
   have hc:=ex.1
   cases T with
   | int=>exact IsiPair.dict_int e hc ⟨.bl false,H,I.tok _,rfl,q⟩
   | bool=>exact IsiPair.dict_bool e hc ⟨.bl false,H,I.tok _,rfl,q⟩
   | str=>exact IsiPair.dict_str e hc ⟨.bl false,H,I.tok _,rfl,q⟩
   | non=>exact IsiPair.dict_NoneType e hc ⟨.bl false,H,I.tok _,rfl,q⟩
   | lst=>exact IsiPair.dict_list e hc ⟨.bl false,H,I.tok _,rfl,q⟩
   | tup=>exact IsiPair.dict_tuple e hc ⟨.bl false,H,I.tok _,rfl,q⟩
   | dct=>exact IsiPair.dict_dict e hc ⟨.bl true,H,I,rfl,q⟩
theorem truth_bl {P:Program} {w:World} {A:Around} {bs:List Bool} {its:List Value} (r:Vals (bs.map V.bl) its):TruthOf P w A (fun i v=>its.toArray[i]?=some v) (fun i=>bs.getD i false):=by
 intro i v s Q E hv hq
 have hv':its[i]?=some v:=by simpa using hv
 have hl:=r.length
 rw [List.length_map] at hl
 have hi:i < its.length:=(List.getElem?_eq_some_iff.mp hv').1
 have hb:(bs.map V.bl)[i]?=some (V.bl (bs.getD i false)):=by
  rw [List.getElem?_map,List.getD_eq_getElem?_getD]
  have:bs[i]?=some bs[i]:=List.getElem?_eq_getElem (by omega)
  rw [this]; rfl
 obtain ⟨u,hu,ru⟩:=r.get hb
 rw [hv'] at hu
 cases hu
 have e:v=Value.bool (bs.getD i false):=ru
 subst e
 exact wpAny_truthy_bool hq
theorem range_all {bs:List Bool}:(List.range bs.length).all (fun i=>bs.getD i false)=bs.all id:=by
 rw [Bool.eq_iff_iff,List.all_eq_true,List.all_eq_true]
 constructor
 · intro h b hb
   obtain ⟨i,hi,e⟩:=List.mem_iff_getElem.mp hb
   have:=h i (List.mem_range.mpr hi)
   rw [List.getD_eq_getElem?_getD,List.getElem?_eq_getElem hi] at this
   rw [←e]; exact this
 · intro h i hi
   have hi':=List.mem_range.mp hi
   rw [List.getD_eq_getElem?_getD,List.getElem?_eq_getElem hi']
   exact h _ (List.getElem_mem hi')
def rAll (K:PySem.W.Frag):List V→Hp→VK→Prop:=fun vs H Q=>∃ (a:Addr) (bs:List Bool),vs=[.ref a]∧SqL K H a (bs.map V.bl)∧Q (.bl (bs.all id)) H
theorem call_allL {X:Cx} (hc:X.calm=true):CallR X (.builtin "all") (rAll X.K):=by
 intro pins s σ H vs us Q I r h
 obtain ⟨a,bs,rfl,hq,q⟩:=h
 obtain ⟨u,rfl,ru⟩:=vals1 r
 obtain rfl:u=Value.ref a:=ru
 obtain ⟨its,rv,p,hz⟩:=I.list hq
 have hl:=rv.length
 rw [List.length_map] at hl
 have hlt:a < s.heap.objs.size:=by obtain ⟨_,e,_⟩:=p.isList; exact Heap.lt_size e
 refine call_all_walk (wpAny_pyIter_list p.isList ?_)
 refine ⟨s.heap.objs.size,[s.heap.objs.size,a],[s.heap.objs.size],its.toArray.size,(fun i v=>its.toArray[i]?=some v),(fun i h=>h.IsListIter s.heap.objs.size a i∧h.IsList a its.toArray),(fun i=>bs.getD i false),rfl,Walks.list (A:=X.A.in1) (I.ok.hd hc) s.heap.objs.size a (Nat.ne_of_lt hlt) its.toArray,⟨⟨_,Heap.get?_push_size _ rfl,rfl,rfl⟩,p.isList.push _⟩,truth_bl rv,fun h' tk hk=>?_⟩
 refine ⟨.bl (bs.all id),H,I.kept fun b o e=>hk b o (fun z=>?_) (Heap.get?_push_of_some _ e),?_,q⟩
 · have z':b=s.heap.objs.size:=by simpa using z
   exact absurd (Heap.lt_size e) (by rw [z']; exact Nat.lt_irrefl _)
 · have e:its.toArray.size=bs.length:=by rw [List.size_toArray,hl]
   show Value.bool _=Value.bool _
   rw [e,range_all]
def rS (g:Str→Str→Bool):R2:=fun x y H Q=>∃ a b,x=.str a∧y=.str b∧Q (.bl (g a b)) H
theorem op_leS {X:Cx}:OpR X (compareOp .LtE) (rS fun a b=>!decide (b.cps.toList < a.cps.toList)):=by
 intro pins s σ H x y v u Q I rx ry h
 obtain ⟨a,b,rfl,rfl,q⟩:=h
 obtain ⟨t,rfl⟩:=rx
 obtain ⟨t',rfl⟩:=ry
 exact P.le_str ⟨.bl _,H,I,rfl,q⟩
theorem vals_strs:∀ {xs:List Str} {its:List Value},Vals (xs.map V.str) its→∃ l:List (Str × Tok),its=strValues l∧l.map (·.1)=xs
 | [],_,.nil=>⟨[],rfl,rfl⟩
 | x :: xs,_,.cons r t=>by
   obtain ⟨tk,rfl⟩:=r
   obtain ⟨l,rfl,rfl⟩:=vals_strs t
   exact ⟨(x,tk) :: l,rfl,rfl⟩
def rJoin (K:PySem.W.Frag):V→List V→Hp→VK→Prop:=fun x vs H Q=>∃ sep a xs,x=.str sep∧vs=[.ref a]∧SqL K H a (xs.map V.str)∧JoinOk sep xs=true∧Q (.str (Txt.join sep xs)) H
theorem mt_join {X:Cx}:MtR X "str.join" (rJoin X.K):=by
 intro pins s σ H x vs v us Q I rx rv h
 obtain ⟨sep,a,xs,rfl,rfl,hq,hok,q⟩:=h
 obtain ⟨t,rfl⟩:=rx
 obtain ⟨u,rfl,ru⟩:=vals1 rv
 obtain rfl:u=Value.ref a:=ru
 obtain ⟨its,r,p,hz⟩:=I.list hq
 obtain ⟨l,rfl,hl⟩:=vals_strs r
 exact SC.join p.isList hl hok fun t' k=>⟨.str _,H,I.tok k,⟨t',rfl⟩,q⟩
def Its (x:Str):It:=⟨fun i _=>i < x.cps.size,fun i H v H'=>H'=H∧∃ c,x.cps[i]?=some c∧v=.str ⟨#[c]⟩,fun i _=>i=x.cps.size⟩
theorem turn_str {P:Program} {w:World} {K:PySem.W.Frag} {tg:Expr} {x:Str} {t:Tok} {ty:String} (it:Addr) (hn:["enumerate", "zip", "dict_itemiterator", "dict_reverseitemiterator", "odict_iterator", "itertools.zip_longest", "itertools.pairwise"].contains ty=false)
 (W:∀ A:Around,A.handled=none→Walks P w A it [it] [it] x.cps.size (SignAt x) (fun i h=>h.IsStrIter it ty x t i))
 (hself:∀ (A:Around) (i:Nat) (s:Shared) (Q:Value→Shared→Prop) (E:Value→Shared→Prop),s.heap.IsStrIter it ty x t i→Q (.ref it) s→wpAny (model P w) A (pyIter (.ref it)) Q E s):Turn P w K tg (Its x) [it] it (fun i h=>h.IsStrIter it ty x t i) where
 mem:=by simp
 obj:=fun i h st b hb=>by
  have e:b=it:=by simpa using hb
  subst e
  obtain ⟨o,e,c,d⟩:=st
  exact ⟨o,e,fun v z=>by rw [d] at z; cases z⟩
 keep:=fun i h h' st k=>by
  obtain ⟨o,e,r⟩:=st
  exact ⟨o,k it (by simp) o e,r⟩
 item:=by
  intro X hP hw hK hc i pins s σ H E I hf st hg
  subst hP hw hK
  obtain ⟨f0,f1,f2,f3,f4,f5⟩:=hf it (by simp)
  refine (W X.A (I.ok.hd hc)).item i s _ _ hg st fun v h' tk hv st' kk=>?_
  obtain ⟨c,u,hc',rfl⟩:=hv
  have I1:Inv X pins σ H { s with heap:=h',toks:=tk }:=I.turned (fun b o hb e=>kk b o (by simpa using hb) e) f0 f1 f3 f4 f5
  obtain ⟨o,e,c1,d⟩:=id st'
  exact ⟨_,rfl,go_of (s:={ s with heap:=h',toks:=tk }) e c1 d hn ⟨.str ⟨#[c]⟩,H,I1,⟨u,rfl⟩,⟨rfl,c,hc',rfl⟩,st',fun b hb=>(hf b hb).1⟩⟩
 done:=by
  intro X hP hw hK hc i pins s σ H E I hf st hg
  subst hP hw hK
  obtain ⟨f0,f1,f2,f3,f4,f5⟩:=hf it (by simp)
  have hg':i=x.cps.size:=hg
  subst hg'
  exact (W X.A (I.ok.hd hc)).done s _ _ st fun h' tk kk=>⟨rfl,I.turned (fun b o hb e=>kk b o (by simpa using hb) e) f0 f1 f3 f4 f5⟩
 self:=hself
def iStr (te:TE):TI:=fun σ H R=>te σ H fun x H1=>∃ y,x=.str y∧R (Its y) H1
theorem pi_str {X:Cx} {tg e:Expr} {te:TE} (he:PE X e te):PI X tg e (iStr te):=by
 intro pins s σ H R I h
 refine thn (he pins s σ H _ I h) fun v s1 ⟨x,H1,I1,r1,q1⟩=>?_
 obtain ⟨y,rfl,q⟩:=q1
 obtain ⟨t,rfl⟩:=r1
 have fin:∀ b∈[s1.heap.objs.size],FpOk X pins H1 b:=fun b hb=>by
  have e:b=s1.heap.objs.size:=by simpa using hb
  subst e
  exact I1.fpOk (Nat.le_refl _) (I1.hok.fresh (Nat.le_refl _))
 cases ha:y.cps.all (· < 128)
 · refine wpAny_pyIter_wide ha ⟨s1.heap.objs.size,[s1.heap.objs.size],_,_,H1,rfl,I1.kept (t':=s1.toks) fun b o e=>Heap.get?_push_of_some _ e,turn_str (ty := "str_iterator") (t:=t) _ (by decide) (fun A hA=>Walks.strWide hA _ y t) (fun A i s Q E st hQ=>wpAny_pyIter_striter_wide st hQ),⟨_,Heap.get?_push_size _ rfl,rfl,rfl⟩,fin,q⟩
 · refine wpAny_pyIter_ascii ha ⟨s1.heap.objs.size,[s1.heap.objs.size],_,_,H1,rfl,I1.kept (t':=s1.toks) fun b o e=>Heap.get?_push_of_some _ e,turn_str (ty := "str_ascii_iterator") (t:=t) _ (by decide) (fun A hA=>Walks.strAscii hA _ y t) (fun A i s Q E st hQ=>wpAny_pyIter_striter_ascii st hQ),⟨_,Heap.get?_push_size _ rfl,rfl,rfl⟩,fin,q⟩
theorem Inv.track {X:Cx} {pins:List (Addr × Obj)} {σ:St} {H:Hp} {s:Shared} {T:Addr} {o:HO} (I:Inv X pins σ H s) (hn:FpOk X pins H T) (hT:∃ ob,s.heap.get? T=some ob) (new:ObjOk X.prog X.w (upd H T o) s.heap T o):Inv X pins σ (upd H T o) s:=by
 obtain ⟨f0,f1,f2,f3,f4,f5⟩:=hn
 refine I.step (g':=s.gens) (t':=s.toks) (d':=s.drawn) (h':=s.heap) (ch:=[T]) (fun b hb=>?_) (fun b ob _ _ _ e _=>e) (fun b ob _ _ _ e _=>⟨ob.slots,e⟩) (fun b ob hb e n=>?_) (fun b ob _ e=>⟨ob,e⟩) (fun b xs e=>?_) (fun b ob u e=>?_) (fun b ps e=>?_) (fun m hm=>hm) (fun b u e=>?_) I.bare
 · have e:b=T:=by simpa using hb
   subst e
   exact ⟨f3,f1,f4,f5⟩
 · rw [upd_ne (by simpa using hb)]; exact n
 · rw [upd_ne (ne_of_none e f0)]; exact e
 · rw [upd_ne (ne_of_none e f0)]; exact e
 · exact ⟨#[],by rw [upd_ne (ne_of_none e f0),e]; simp⟩
 · by_cases hb:b=T
   · subst hb; rw [upd_same] at e; cases e; exact new
   · rw [upd_ne hb] at e
     exact (I.hok b u e).stay (fun c v _ q=>q) (fun c q=>by rw [upd_ne (ne_of_none q f0)]; exact q) fun c xs q=>by rw [upd_ne (ne_of_none q f0)]; exact q
def Itz (K:PySem.W.Frag) (l1 l2:Addr):It :=
 ⟨fun i H=>∃ xs ys x y,SqL K H l1 xs∧SqL K H l2 ys∧xs[i]?=some x∧ys[i]?=some y,
  fun i H v H'=>∃ T x y,H T=none∧v=.ref T∧H'=upd H T (.tup [x,y])∧(∀ xs,SqL K H l1 xs→xs[i]?=some x)∧∀ ys,SqL K H l2 ys→ys[i]?=some y,
  fun i H=>∃ xs ys,SqL K H l1 xs∧SqL K H l2 ys∧(xs.length≤i∨ys.length≤i)⟩
def ZipSt (z TI TO i1 i2 l1 l2:Addr) (i:Nat) (h:Heap):Prop:=IsZip h z TI TO .none∧IsPair h TI (.ref i1) (.ref i2)∧(∃ a b,IsPair h TO a b)∧h.IsListIter i1 l1 i∧h.IsListIter i2 l2 i
theorem turn_zip {P:Program} {w:World} {K:PySem.W.Frag} {es:List Expr} {k:Nat} {pos:Pos} {z TI TO i1 i2 l1 l2:Addr} (D:ZipApart z TI TO i1 i2 l1 l2) :
 Turn P w K (.Tuple es k pos) (Itz K l1 l2) [z,TI,TO,i1,i2] z (ZipSt z TI TO i1 i2 l1 l2) where
 mem:=by simp
 obj:=fun i h st b hb=>by
  obtain ⟨hz,hTI,⟨a,c,hTO⟩,⟨o1,e1,c1,d1⟩,⟨o2,e2,c2,d2⟩⟩:=st
  simp at hb
  rcases hb with rfl | rfl | rfl | rfl | rfl
  · exact ⟨_,hz,fun v q=>by cases q⟩
  · exact ⟨_,hTI,fun v q=>by cases q⟩
  · exact ⟨_,hTO,fun v q=>by cases q⟩
  · exact ⟨_,e1,fun v q=>by rw [d1] at q; cases q⟩
  · exact ⟨_,e2,fun v q=>by rw [d2] at q; cases q⟩
 keep:=fun i h h' st kk=>by
  obtain ⟨hz,hTI,⟨a,c,hTO⟩,h1,h2⟩:=st
  exact ⟨kk z (by simp) _ hz,kk TI (by simp) _ hTI,⟨a,c,kk TO (by simp) _ hTO⟩,h1.at fun o e=>kk i1 (by simp) o e,h2.at fun o e=>kk i2 (by simp) o e⟩
 item := by
  intro X hP hw hK hc i pins s σ H E I hf st hg
  subst hP hw hK
  obtain ⟨xs,ys,x,y,hq1,hq2,hx,hy⟩:=hg
  obtain ⟨hz,hTI,⟨a,c,hTO⟩,h1,h2⟩:=st
  obtain ⟨its1,rv1,p1,hz1⟩:=I.list hq1
  obtain ⟨its2,rv2,p2,hz2⟩:=I.list hq2
  obtain ⟨u1,hu1,ru1⟩:=rv1.get hx
  obtain ⟨u2,hu2,ru2⟩:=rv2.get hy
  refine wpAny_pyNext_zip_item D hz hTI hTO h1 h2 p1.isList p2.isList (x:=u1) (y:=u2) (by simpa using hu1) (by simpa using hu2) fun h' a1 a2 a3 a4 a5 a6 hk=>?_
  refine ⟨_,rfl,wpAny_letOwnedTupleGo_zip (s:={ s with heap:=h' }) a1 fun h'' hz'' hs''=>?_⟩
  have fz:=hf z (by simp)
  have fTO:=hf TO (by simp)
  have f1:=hf i1 (by simp)
  have f2:=hf i2 (by simp)
  have trk:∀ b u,H b=some u→b≠z∧b≠TO∧b≠i1∧b≠i2:=fun b u e=>⟨ne_of_none e fz.1,ne_of_none e fTO.1,ne_of_none e f1.1,ne_of_none e f2.1⟩
  have keep:∀ b o,b≠z→b≠TO→b≠i1→b≠i2→s.heap.get? b=some o→h''.get? b=some o:=fun b o n1 n2 n3 n4 e=>(hs''.2 b n1).trans (hk b o n1 n2 n3 n4 e)
  have nch:∀ {b:Addr},b ∉ [z,TO,i1,i2]→b≠z∧b≠TO∧b≠i1∧b≠i2:=fun {b} hb=>by simpa using hb
  have I1:Inv X pins σ H { s with heap:=h'' }:=by
   refine I.step (g':=s.gens) (t':=s.toks) (d':=s.drawn) (h':=h'') (ch:=[z,TO,i1,i2]) (fun b hb=>?_) (fun b ob _ _ hb e _=>keep b ob (nch hb).1 (nch hb).2.1 (nch hb).2.2.1 (nch hb).2.2.2 e) (fun b ob _ _ hb e _=>⟨ob.slots,keep b ob (nch hb).1 (nch hb).2.1 (nch hb).2.2.1 (nch hb).2.2.2 e⟩)
    (fun _ _ _ _ n=>n) (fun b ob hb e=>⟨ob,keep b ob (nch hb).1 (nch hb).2.1 (nch hb).2.2.1 (nch hb).2.2.2 e⟩) (fun _ _ e=>e) (fun _ _ _ e=>e) (fun b ps e=>⟨#[],by rw [e]; simp⟩) (fun m hm=>?_) (fun b u e=>?_) I.bare
   · have:b=z∨b=TO∨b=i1∨b=i2:=by simpa using hb
     rcases this with rfl | rfl | rfl | rfl
     · exact ⟨fz.2.2.2.1,fz.2.1,fz.2.2.2.2.1,fz.2.2.2.2.2⟩
     · exact ⟨fTO.2.2.2.1,fTO.2.1,fTO.2.2.2.2.1,fTO.2.2.2.2.2⟩
     · exact ⟨f1.2.2.2.1,f1.2.1,f1.2.2.2.2.1,f1.2.2.2.2.2⟩
     · exact ⟨f2.2.2.2.1,f2.2.1,f2.2.2.2.2.1,f2.2.2.2.2.2⟩
   · obtain ⟨o,es,ep,ho,r⟩:=hm
     exact ⟨o,es,ep,keep _ o (Ne.symm fz.2.1) (Ne.symm fTO.2.1) (Ne.symm f1.2.1) (Ne.symm f2.2.1) ho,r⟩
   · refine (I.hok b u e).stay (fun c v hc q=>?_) (fun _ q=>q) fun _ _ q=>q
     have hc':∃ u',H c=some u':=by
      rcases hc with rfl | hc
      · exact ⟨_,e⟩
      · exact ⟨_,hc⟩
     obtain ⟨u',e'⟩:=hc'
     obtain ⟨n1,n2,n3,n4⟩:=trk c u' e'
     exact keep c v n1 n2 n3 n4 q
  have hTz:s.heap.objs.size≠z:=Nat.ne_of_gt (Heap.lt_size hz)
  have hT0:H s.heap.objs.size=none:=I.hok.fresh (Nat.le_refl _)
  have hTget:h''.get? s.heap.objs.size=some { cls:=.type "tuple",data:=.seq #[u1,u2] }:=(hs''.2 _ hTz).trans a5
  have I2:Inv X pins σ (upd H s.heap.objs.size (.tup [x,y])) { s with heap:=h'' }:=by
   refine I1.track (I.fpOk (Nat.le_refl _) hT0) ⟨_,hTget⟩ ?_
   exact ⟨by show 2≤sizeLine; decide,[u1,u2],.cons ru1 (.cons ru2 .nil),⟨_,hTget,rfl,_,rfl⟩⟩
  refine ⟨.ref s.heap.objs.size,_,I2,rfl,⟨s.heap.objs.size,x,y,hT0,rfl,rfl,fun zs hzs=>by rw [I.list_inj hzs hq1]; exact hx,fun zs hzs=>by rw [I.list_inj hzs hq2]; exact hy⟩,?_,fun b hb=>?_⟩
  · refine ⟨hz'',hs''.extBut _ _ D.TIz (hk _ _ D.TIz D.TITO D.TIi1 D.TIi2 hTI),⟨u1,u2,hs''.extBut _ _ D.TOz a2⟩,a3.extBut hs''.extBut D.i1z,a4.extBut hs''.extBut D.i2z⟩
  · have hb':=(hf b hb).1
    rw [upd_ne (fun q=>?_)]
    · exact hb'
    · have hb2:b=z∨b=TI∨b=TO∨b=i1∨b=i2:=by simpa using hb
      obtain ⟨o1,e1,_⟩:=h1
      obtain ⟨o2,e2,_⟩:=h2
      have lt:b < s.heap.objs.size:=by
       rcases hb2 with rfl | rfl | rfl | rfl | rfl
       · exact Heap.lt_size hz
       · exact Heap.lt_size hTI
       · exact Heap.lt_size hTO
       · exact Heap.lt_size e1
       · exact Heap.lt_size e2
      rw [q] at lt
      exact absurd lt (Nat.lt_irrefl _)
 done:=by
  intro X hP hw hK hc i pins s σ H E I hf st hg
  subst hP hw hK
  obtain ⟨xs,ys,hq1,hq2,hend⟩:=hg
  obtain ⟨hz,hTI,⟨a,c,hTO⟩,h1,h2⟩:=st
  obtain ⟨its1,rv1,p1,hz1⟩:=I.list hq1
  obtain ⟨its2,rv2,p2,hz2⟩:=I.list hq2
  have l1':=rv1.length
  have l2':=rv2.length
  refine wpAny_pyNext_zip_end (I.ok.hd hc) D hz hTI hTO h1 h2 p1.isList p2.isList (by simp; omega) fun h' hk=>⟨rfl,?_⟩
  have fz:=hf z (by simp)
  have fTO:=hf TO (by simp)
  have f1:=hf i1 (by simp)
  have f2:=hf i2 (by simp)
  have nch:∀ {b:Addr},b ∉ [z,TO,i1,i2]→b≠z∧b≠TO∧b≠i1∧b≠i2:=fun {b} hb=>by simpa using hb
  refine I.step (g':=s.gens) (t':=s.toks) (d':=s.drawn) (h':=h') (ch:=[z,TO,i1,i2]) (fun b hb=>?_) (fun b ob _ _ hb e _=>hk b ob (nch hb).1 (nch hb).2.1 (nch hb).2.2.1 (nch hb).2.2.2 e) (fun b ob _ _ hb e _=>⟨ob.slots,hk b ob (nch hb).1 (nch hb).2.1 (nch hb).2.2.1 (nch hb).2.2.2 e⟩)
   (fun _ _ _ _ n=>n) (fun b ob hb e=>⟨ob,hk b ob (nch hb).1 (nch hb).2.1 (nch hb).2.2.1 (nch hb).2.2.2 e⟩) (fun _ _ e=>e) (fun _ _ _ e=>e) (fun b ps e=>⟨#[],by rw [e]; simp⟩) (fun m hm=>?_) (fun b u e=>?_) I.bare
  · have:b=z∨b=TO∨b=i1∨b=i2:=by simpa using hb
    rcases this with rfl | rfl | rfl | rfl
    · exact ⟨fz.2.2.2.1,fz.2.1,fz.2.2.2.2.1,fz.2.2.2.2.2⟩
    · exact ⟨fTO.2.2.2.1,fTO.2.1,fTO.2.2.2.2.1,fTO.2.2.2.2.2⟩
    · exact ⟨f1.2.2.2.1,f1.2.1,f1.2.2.2.2.1,f1.2.2.2.2.2⟩
    · exact ⟨f2.2.2.2.1,f2.2.1,f2.2.2.2.2.1,f2.2.2.2.2.2⟩
  · obtain ⟨o,es,ep,ho,r⟩:=hm
    exact ⟨o,es,ep,hk _ o (Ne.symm fz.2.1) (Ne.symm fTO.2.1) (Ne.symm f1.2.1) (Ne.symm f2.2.1) ho,r⟩
  · refine (I.hok b u e).stay (fun c v hc q=>?_) (fun _ q=>q) fun _ _ q=>q
    have hc':∃ u',H c=some u':=by
     rcases hc with rfl | hc
     · exact ⟨_,e⟩
     · exact ⟨_,hc⟩
    obtain ⟨u',e'⟩:=hc'
    exact hk c v (ne_of_none e' fz.1) (ne_of_none e' fTO.1) (ne_of_none e' f1.1) (ne_of_none e' f2.1) q
 self:=fun _ _ _ _ _ st h=>wpAny_pyIter_zip st.1 h
def iZip (K:PySem.W.Frag) (ta:TA):TI:=fun σ H R=>ta σ H fun vs H1=>∃ l1 l2,vs=[.ref l1,.ref l2]∧(∃ xs,SqL K H1 l1 xs)∧(∃ ys,SqL K H1 l2 ys)∧R (Itz K l1 l2) H1
theorem pi_zip {X:Cx} {es:List Expr} {k:Nat} {tpos:Pos} {a b:Expr} {ta:TA} {p pos:Pos} (hg:Gl X "zip") (hm:X.mg "zip" = none) (ha:PA X [a,b] ta) (hs:starEach [a,b] X.env=[(false,eval a X.env),(false,eval b X.env)]:=by rfl) (hs2:starEach [b] X.env=[(false,eval b X.env)]:=by rfl) :
 PI X (.Tuple es k tpos) (.Call (.Name "zip" p) [a,b] [] pos) (iZip X.K ta):=by
 intro pins s σ H R I h
 refine Call_ (ld_blt I hg hm (u:=.type "zip") (by decide +kernel) (PyProof.Rows.callWith_type1 (thn (ha pos pins s σ H _ I h) fun us s1 ⟨vs,H1,I1,r1,q1⟩=>?_) (by rw [hs,hs2]) (by rw [hs2]; rfl)))
 obtain ⟨l1,l2,rfl,⟨xs,hq1⟩,⟨ys,hq2⟩,q⟩:=q1
 obtain ⟨u1,u2,rfl,ru1,ru2⟩:=vals2 r1
 obtain rfl:u1=Value.ref l1:=ru1
 obtain rfl:u2=Value.ref l2:=ru2
 obtain ⟨its1,rv1,p1,hz1⟩:=I1.list hq1
 obtain ⟨its2,rv2,p2,hz2⟩:=I1.list hq2
 have a1:l1 < s1.heap.objs.size:=by obtain ⟨_,e,_⟩:=p1.isList; exact Heap.lt_size e
 have a2:l2 < s1.heap.objs.size:=by obtain ⟨_,e,_⟩:=p2.isList; exact Heap.lt_size e
 refine call_zip_2 p1.isList p2.isList fun h' hz hTI hTO hi1 hi2 hsz hk=>?_
 refine wpAny_pyIter_zip (s:={ s1 with heap:=h' }) hz ?_
 refine ⟨_,[s1.heap.objs.size + 4,s1.heap.objs.size + 2,s1.heap.objs.size + 3,s1.heap.objs.size,s1.heap.objs.size + 1],_,_,H1,rfl,I1.kept (t':=s1.toks) hk,turn_zip (zipApart_new a1 a2),⟨hz,hTI,⟨_,_,hTO⟩,hi1,hi2⟩,fun b hb=>?_,q⟩
 have hb':s1.heap.objs.size≤b:=by
  have hb2:b=s1.heap.objs.size + 4∨b=s1.heap.objs.size + 2∨b=s1.heap.objs.size + 3∨b=s1.heap.objs.size∨b=s1.heap.objs.size + 1:=by simpa using hb
  rcases hb2 with rfl | rfl | rfl | rfl | rfl
  · exact Nat.le_add_right _ _
  · exact Nat.le_add_right _ _
  · exact Nat.le_add_right _ _
  · exact Nat.le_refl _
  · exact Nat.le_add_right _ _
 exact I1.fpOk hb' (I1.hok.fresh hb')
theorem for_zip {K:PySem.W.Frag} {l1 l2:Addr} {xs ys:List V} {g:TG} {tb:TS} {D:Ends} {σ:St} {H:Hp} (Pv:Nat→St→Hp→Prop) (h0:Pv 0 σ H) (hl:∀ i σ H,Pv i σ H→SqL K H l1 xs∧SqL K H l2 ys)
 (hs:∀ i x y T σ H,xs[i]?=some x→ys[i]?=some y→H T=none→Pv i σ H→g (.ref T) σ (upd H T (.tup [x,y])) fun σ2 H2=>tb { D with nx:=Pv (i + 1),ct:=Pv (i + 1),bk:=D.nx } σ2 H2) (hd:∀ σ H,Pv (min xs.length ys.length) σ H→D.nx σ H) :
 ∃ W:Nat→Nat→St→Hp→Prop,(∃ m,W 0 m σ H)∧∀ i m σ H,W i m σ H →
  ((Itz K l1 l2).stop i H∧D.nx σ H)∨((Itz K l1 l2).go i H∧∃ N:St→Hp→Prop,(∀ σ' H',N σ' H'→∃ m',m' < m∧W (i + 1) m' σ' H')∧∀ x H',(Itz K l1 l2).yld i H x H'→g x σ H' fun σ2 H2=>tb { D with nx:=N,ct:=N,bk:=D.nx } σ2 H2):=by
 refine ⟨fun i m σ H=>m=min xs.length ys.length - i∧i≤min xs.length ys.length∧Pv i σ H,⟨_,rfl,Nat.zero_le _,h0⟩,?_⟩
 rintro i m σ H ⟨rfl,hi,p⟩
 obtain ⟨q1,q2⟩:=hl i σ H p
 by_cases hlt:i < min xs.length ys.length
 · have hx:i < xs.length:=by omega
   have hy:i < ys.length:=by omega
   refine .inr ⟨⟨xs,ys,xs[i],ys[i],q1,q2,by simp [hx],by simp [hy]⟩,Pv (i + 1),fun σ' H' p'=>⟨min xs.length ys.length - (i + 1),by omega,rfl,hlt,p'⟩,fun v H' y=>?_⟩
   obtain ⟨T,x,y',hT,rfl,rfl,e1,e2⟩:=y
   exact hs i x y' T σ H (e1 xs q1) (e2 ys q2) hT p
 · have e:i=min xs.length ys.length:=by omega
   refine .inl ⟨⟨xs,ys,q1,q2,by omega⟩,?_⟩
   rw [e] at p
   exact hd σ H p
end L2
namespace L2
open PySem PySem.Spec PyProof.Rows
def closOf (env:Env):List (Str × NameKind)→List (Str × Addr)→List (Str × Addr)
 | [],acc=>acc
 | (n,k) :: r,acc=>if k == .free then closOf env r ((n,(env.cells.lookup n).getD 0) :: acc) else closOf env r acc
theorem forIn_clos {env:Env} (f:Str × NameKind→List (Str × Addr)→Sem (ForInStep (List (Str × Addr))))
 (hf:∀ n k cs,f (n,k) cs=if (k == NameKind.free)=true then (cellOf env n >>= fun a=>pure (.yield ((n,a) :: cs))) else pure (.yield cs)) :
 ∀ (names:List (Str × NameKind)) (acc:List (Str × Addr)),(∀ x∈names,x.2=.free→∃ c,env.cells.lookup x.1=some c)→forIn names acc f=pure (closOf env names acc)
 | [],acc,_=>by rw [List.forIn_nil]; rfl
 | (n,k) :: r,acc,h=>by
   rw [List.forIn_cons,hf]
   unfold closOf
   by_cases hk:(k == NameKind.free)=true
   · rw [if_pos hk,if_pos hk]
     obtain ⟨c,hc⟩:=h (n,k) List.mem_cons_self (beq_iff_eq.mp hk)
     have e:cellOf env n=pure c:=by unfold cellOf; rw [hc]
     rw [e,hc]
     exact forIn_clos f hf r _ fun x hx=>h x (List.mem_cons_of_mem _ hx)
   · rw [if_neg hk,if_neg hk]
     exact forIn_clos f hf r _ fun x hx=>h x (List.mem_cons_of_mem _ hx)
theorem closureFor_of {scope:Scope} {env:Env} (h:∀ x∈scope.names,x.2=.free→∃ c,env.cells.lookup x.1=some c):closureFor scope env=pure (closOf env scope.names []):=by
 simp only [closureFor]
 rw [forIn_clos (env:=env) _ (fun n k cs=>by cases hk:k == NameKind.free <;> simp [hk]) scope.names [] h]
 rfl
theorem closOf_mem {env:Env}:∀ {names:List (Str × NameKind)} {acc:List (Str × Addr)} {x:Str} {c:Addr},(x,c)∈closOf env names acc→(x,c)∈acc∨((x,NameKind.free)∈names∧c=(env.cells.lookup x).getD 0)
 | [],_,_,_,h=>.inl h
 | (n, k) :: r, acc, x, c, h => by
   unfold closOf at h
   by_cases hk:(k == NameKind.free)=true
   · rw [if_pos hk] at h
     rcases closOf_mem h with h | ⟨h,e⟩
     · rcases List.mem_cons.mp h with h | h
       · cases h
         rw [beq_iff_eq.mp hk]
         exact .inr ⟨List.mem_cons_self,rfl⟩
       · exact .inl h
     · exact .inr ⟨List.mem_cons_of_mem _ h,e⟩
   · rw [if_neg hk] at h
     rcases closOf_mem h with h | ⟨h,e⟩
     · exact .inl h
     · exact .inr ⟨List.mem_cons_of_mem _ h,e⟩
theorem closOf_acc {env:Env}:∀ {names:List (Str × NameKind)} {acc:List (Str × Addr)} {p:Str × Addr},p∈acc→p∈closOf env names acc
 | [],_,_,h=>h
 | (n,k) :: r,acc,p,h=>by
   unfold closOf
   by_cases hk:(k == NameKind.free)=true
   · rw [if_pos hk]; exact closOf_acc (List.mem_cons_of_mem _ h)
   · rw [if_neg hk]; exact closOf_acc h
theorem closOf_has {env:Env}:∀ {names:List (Str × NameKind)} {acc:List (Str × Addr)} {x:Str},(x,NameKind.free)∈names→∃ c,(x,c)∈closOf env names acc
 | (n,k) :: r,acc,x,h=>by
   unfold closOf
   rcases List.mem_cons.mp h with h | h
   · cases h
     rw [if_pos (show (NameKind.free == NameKind.free)=true by rfl)]
     exact ⟨_,closOf_acc List.mem_cons_self⟩
   · by_cases hk:(k == NameKind.free)=true
     · rw [if_pos hk]; exact closOf_has h
     · rw [if_neg hk]; exact closOf_has h
theorem look_of_mem {α:Type}:∀ {l:List (Str × α)} {x:Str} {c:α},(x,c)∈l→∃ c',l.lookup x=some c'
 | (n, d) :: r, x, c, h => by
   rw [List.lookup_cons]
   cases hb:x == n with
   | true=>exact ⟨d,rfl⟩
   | false =>
     rcases List.mem_cons.mp h with h | h
     · cases h
       simp at hb
     · exact look_of_mem h
theorem cellsFrom_app:∀ (names:List (Str × NameKind)) (n:Nat) (acc:List (Str × Addr)),cellsFrom n names acc=cellsFrom n names []++acc
 | [],_,_=>rfl
 | (x,k) :: r,n,acc=>by
   unfold cellsFrom
   by_cases hk:(k == NameKind.cell)=true
   · rw [if_pos hk,if_pos hk,cellsFrom_app r (n + 1) ((x,n) :: acc),cellsFrom_app r (n + 1) [(x,n)],List.append_assoc]
     rfl
   · rw [if_neg hk,if_neg hk]; exact cellsFrom_app r n acc
theorem cellsFrom_cell:∀ {names:List (Str × NameKind)} {n:Nat} {acc:List (Str × Addr)} {x:Str} {c:Addr},(x,c)∈cellsFrom n names acc→(x,c)∈acc∨(x,NameKind.cell)∈names
 | [],_,_,_,_,h=>.inl h
 | (y, k) :: r, n, acc, x, c, h => by
   unfold cellsFrom at h
   by_cases hk:(k == NameKind.cell)=true
   · rw [if_pos hk] at h
     rcases cellsFrom_cell h with h | h
     · rcases List.mem_cons.mp h with h | h
       · cases h
         rw [beq_iff_eq.mp hk]
         exact .inr List.mem_cons_self
       · exact .inl h
     · exact .inr (List.mem_cons_of_mem _ h)
   · rw [if_neg hk] at h
     rcases cellsFrom_cell h with h | h
     · exact .inl h
     · exact .inr (List.mem_cons_of_mem _ h)
section
variable {M:Model} {A:Around} {E:Value→Shared→Prop} {s:Shared}
theorem nfe_comp {scope:Scope} {env:Env} {cl:List (Str × Addr)} {Q:Env→Shared→Prop}
 (hQ:Q (newEnv scope s.heap.objs.size env.globals (cellsFrom (s.heap.objs.size + 1) scope.names cl) env.qual none .none (some env) builtinsNs) { s with heap:=pushCells (s.heap.push { cls:=.type "dict",data:=.dict #[] }) scope.names }) :
 wpAny M A (newFunctionEnv scope env.globals cl [] env.qual none .none (some env)) Q E s:=by
 simp only [newFunctionEnv,Option.isSome_some,if_true]
 refine wpAny_bind (wpAny_alloc ?_)
 refine wpAny_bind (wpAny_layCells _ (fun name kind cells=>by cases hkc:kind == NameKind.cell <;> simp [hkc]) _ _ _ _ ?_)
 rw [show ({ s with heap:=s.heap.push { cls:=.type "dict",data:=.dict #[] } }:Shared).heap.objs.size=s.heap.objs.size + 1 from Heap.size_push ..]
 exact wpAny_bind (wpAny_pure (wpAny_pure hQ))
end
abbrev cxComp (X:Cx) (N:List Str) (scope:Scope) (cs:List (Str × Addr)) (C:Addr) (s:Shared) (H:Hp) (ex:List Addr):Cx where
 prog:=X.prog
 w:=X.w
 K:=X.K
 mg:=X.mg
 base:=X.base
 A:=X.A
 N:=N
 s₀:=s
 H₀:=H
 env:=compEnvC scope cs C X.env
 outer:=X.stack
 stack:=X.stack
 ex:=ex
 fn:=fun x=>decide (scope.names.lookup x≠some .free)
 calm:=X.calm
 pn:=[]
 xe:=fun _ _=>False
structure CompScope (psc:Scope) (PN:List Str) (scope:Scope) (N:List Str) (k:Nat) (caps:List Nat):Prop where
 kind:scope.kind=.function
 loc:∀ x∈scope.names,x.2=.local→scope.names.lookup x.1=some .local
 ndn:(scope.names.map (·.1)).Nodup
 nd:N.Nodup
 len:N.length=k + caps.length
 free:∀ x∈scope.names,x.2=.free→psc.names.lookup x.1=some .cell∨psc.names.lookup x.1=some .free
 cap:∀ p∈(N.drop k).zip caps,PN[p.2]?=some p.1∧scope.names.lookup p.1=some .free
def compSt (k:Nat) (caps:List Nat) (σ:St):St:=List.replicate k none++caps.map fun j=>(σ[j]?).getD none
theorem compSt_at {k:Nat} {caps:List Nat} {σ:St} {i:Nat} {v:V} (h:(compSt k caps σ)[i]?=some (some v)):∃ j,k≤i∧caps[i - k]?=some j∧σ[j]?=some (some v):=by
 unfold compSt at h
 by_cases hi:i < k
 · rw [List.getElem?_append_left (by simpa using hi),List.getElem?_replicate,if_pos hi] at h
   cases h
 · rw [List.getElem?_append_right (by simpa using hi),List.length_replicate,List.getElem?_map] at h
   cases e:caps[i - k]? with
   | none=>rw [e] at h; cases h
   | some j =>
     rw [e] at h
     have h':(σ[j]?).getD none=some v:=Option.some.inj h
     refine ⟨j,by omega,rfl,?_⟩
     cases q:σ[j]? with
     | none=>rw [q] at h'; cases h'
     | some o=>rw [q] at h'; exact congrArg some h'
theorem relabel_look {scope:Scope} {env:Env} {x:Str} {k':NameKind} (h:(relabel scope env).names.lookup x=some k'):∃ k,(x,k)∈scope.names∧(k'=k∨(k=.free∧k'=.cell)):=by
 have hm:=PySem.mem_of_lookup h
 have hm':(x,k')∈scope.names.map (fun (n,k)=>if (k == NameKind.free && env.scope.kind == .function && env.kindOf n == some .cell) then (n,NameKind.cell) else (n,k)):=hm
 obtain ⟨⟨n,k⟩,h1,h2⟩:=List.mem_map.mp hm'
 dsimp only at h2
 by_cases hc:(k == NameKind.free && env.scope.kind == .function && env.kindOf n == some .cell)=true
 · rw [if_pos hc] at h2
   cases h2
   simp only [Bool.and_eq_true,beq_iff_eq] at hc
   exact ⟨k,h1,.inr ⟨hc.1.1,rfl⟩⟩
 · rw [if_neg hc] at h2
   cases h2
   exact ⟨k',h1,.inl rfl⟩
theorem map_free {f:Str × NameKind→Str × NameKind} (hf:∀ n k,f (n,k)=(n,k)∨(k=.free∧f (n,k)=(n,NameKind.cell))):∀ {names:List (Str × NameKind)} {x:Str},names.lookup x=some .free→(names.map f).lookup x=some .cell∨(names.map f).lookup x=some .free
 | [],_,h=>by simp at h
 | (n,k) :: r,x,h=>by
   have ih:=@map_free f hf r x
   rw [List.lookup_cons] at h
   rw [List.map_cons]
   cases hx:x == n with
   | true =>
     rw [hx] at h
     cases h
     rcases hf n .free with e | ⟨_,e⟩
     · right; rw [e,List.lookup_cons,hx]
     · left; rw [e,List.lookup_cons,hx]
   | false =>
     rw [hx] at h
     have h':=ih h
     rcases hf n k with e | ⟨_,e⟩
     · rw [e,List.lookup_cons,hx]; exact h'
     · rw [e,List.lookup_cons,hx]; exact h'
theorem relabel_free {scope:Scope} {env:Env} {x:Str} (h:scope.names.lookup x=some .free):(relabel scope env).names.lookup x=some .cell∨(relabel scope env).names.lookup x=some .free:=by
 refine map_free (fun n k=>?_) h
 by_cases hc:(k == NameKind.free && env.scope.kind == .function && env.kindOf n == some .cell)=true
 · right
   refine ⟨?_,if_pos hc⟩
   simp only [Bool.and_eq_true,beq_iff_eq] at hc
   exact hc.1.1
 · left; exact if_neg hc
theorem nodup_key {names:List (Str × NameKind)} (h:(names.map (·.1)).Nodup) {x:Str} {k k':NameKind} (h1:(x,k)∈names) (h2:(x,k')∈names):k=k':=by
 induction names with
 | nil=>simp at h1
 | cons p r ih =>
   rw [List.map_cons] at h
   obtain ⟨ha,hb⟩:=List.nodup_cons.mp h
   rcases List.mem_cons.mp h1 with e1 | h1 <;> rcases List.mem_cons.mp h2 with e2 | h2
   · rw [←e1] at e2; exact (Prod.mk.inj e2).2.symm
   · exact absurd (List.mem_map.mpr ⟨_,h2,by rw [←e1]⟩) ha
   · exact absurd (List.mem_map.mpr ⟨_,h1,by rw [←e2]⟩) ha
   · exact ih hb h1 h2
theorem Un.but {fs ex:List Addr} {H H':Hp} {h h1 h2:Heap} {C:Addr} (u:Un fs ex H H' h h1) (hs:Heap.SameBut C h1 h2) (hC:h.objs.size≤C):Un fs ex H H' h h2:=by
 have ne:∀ b o,h.get? b=some o→b≠C:=fun b o e=>Nat.ne_of_lt (Nat.lt_of_lt_of_le (Heap.lt_size e) hC)
 refine ⟨fun b o e n hb hx=>(hs.2 b (ne b o e)).trans (u.keep b o e n hb hx),fun b o e n hb hx=>?_,u.free,fun b o e hx=>?_,u.tups,u.frzs,u.tbls⟩
 · obtain ⟨sl,q⟩:=u.slot b o e n hb hx
   exact ⟨sl,(hs.2 b (ne b o e)).trans q⟩
 · obtain ⟨o',q⟩:=u.there b o e hx
   exact ⟨o',(hs.2 b (ne b o e)).trans q⟩
theorem HOk.but {P:Program} {w:World} {H:Hp} {h1 h2:Heap} {C:Addr} (x:HOk P w H h1) (hs:Heap.SameBut C h1 h2) (hn:H C=none):HOk P w H h2:=fun b u e=>by
 refine (x b u e).stay (fun c v hc q=>(hs.2 c ?_).trans q) (fun _ q=>q) fun _ _ q=>q
 rintro rfl
 rcases hc with rfl | hc
 · rw [hn] at e; cases e
 · rw [hn] at hc; cases hc
section
variable {X:Cx} {scope:Scope} {N:List Str} {k:Nat} {caps:List Nat} {psc:Scope} {PN:List Str} {pins:List (Addr × Obj)} {σ:St} {H:Hp} {s:Shared}
abbrev cellsC (X:Cx) (scope:Scope) (C:Addr):List (Str × Addr):=cellsFrom (C + 1) scope.names (closOf X.env scope.names [])
theorem cellsC_split {C:Addr} (I:Inv X pins σ H s) (S:CompScope X.env.scope X.N scope N k caps) {x:Str} {c:Addr} (h:(x,c)∈cellsC X scope C) :
 (x,c)∈cellsFrom (C + 1) scope.names []∨X.env.cells.lookup x=some c:=by
 unfold cellsC at h
 rw [cellsFrom_app] at h
 rcases List.mem_append.mp h with h | h
 · exact .inl h
 · rcases closOf_mem h with h | ⟨h,e⟩
   · simp at h
   · obtain ⟨c',hc⟩:=I.ok.has x (S.free _ h rfl)
     rw [hc] at e
     exact .inr (by rw [hc]; exact congrArg some e.symm)
theorem comp_start {fp:List Addr} (I:Inv X pins σ H s) (S:CompScope X.env.scope X.N scope N k caps) (hf:∀ b∈fp,FpOk X pins H b) (hfo:∀ b∈fp,∃ o,s.heap.get? b=some o) {D C:Nat} {h1:Heap} {t':Nat} (hD:D=s.heap.objs.size) (hC:C=D + 1)
 (hh:h1=pushCells ((s.heap.push { cls:=.type "list",data:=.seq #[] }).push { cls:=.type "dict",data:=.dict #[] }) scope.names) :
 Inv (cxComp X N scope (cellsC X scope C) C s H fp) [] (compSt k caps σ) (upd H D (.lst [])) { s with heap:=h1,toks:=t' }:=by
 have hsz1:(s.heap.push { cls:=.type "list",data:=.seq #[] }).objs.size=C:=by rw [Heap.size_push,hC,hD]
 have hsz2:((s.heap.push { cls:=.type "list",data:=.seq #[] }).push { cls:=.type "dict",data:=.dict #[] }).objs.size=C + 1:=by rw [Heap.size_push,hsz1]
 have old:∀ b o,s.heap.get? b=some o→h1.get? b=some o:=fun b o e=>by
  rw [hh]; exact pushCells_keeps _ _ b o (Heap.get?_push_of_some _ (Heap.get?_push_of_some _ e))
 have hacc:h1.get? D=some { cls:=.type "list",data:=.seq #[] }:=by
  rw [hh,hD]; exact pushCells_keeps _ _ _ _ (Heap.get?_push_of_some _ (Heap.get?_push_size _ rfl))
 have hns:h1.Ns C (fun _=>none):=by
  rw [hh,←hsz1]
  exact (Heap.Ns.new _ (.type "dict")).keeps (pushCells_keeps _ _)
 have ok:=cellsFrom_ok scope.names ((s.heap.push { cls:=.type "list",data:=.seq #[] }).push { cls:=.type "dict",data:=.dict #[] }) (C + 1) [] ⟨fun _ _ hm=>(nomatch hm),List.Pairwise.nil⟩ (by rw [hsz2]; exact Nat.le_refl _)
 rw [hsz2] at ok
 have own:∀ x c,(x,c)∈cellsFrom (C + 1) scope.names []→h1.IsCell c none∧C + 1≤c:=fun x c h=>by rw [hh]; exact ok.empty x c h
 have par:∀ x c,X.env.cells.lookup x=some c→c < D:=fun x c e=>by
  obtain ⟨v,q⟩:=I.cell x c e
  rw [hD]; exact q.lt
 have fpD:∀ b∈fp,b < D:=fun b hb=>by
  obtain ⟨o,e⟩:=hfo b hb
  rw [hD]; exact Heap.lt_size e
 have hCfree:H C=none:=I.hok.fresh (by rw [hC,hD]; exact Nat.le_succ _)
 have split:=fun x c (h:(cellsC X scope C).lookup x=some c)=>cellsC_split (C:=C) I S (PySem.mem_of_lookup h)
 have updn:∀ b,b≠D→H b=none→(upd H D (.lst [])) b=none:=fun b hb e=>by rw [upd_ne hb]; exact e
 have capt:∀ x,scope.names.lookup x=some .free→∃ c,X.env.cells.lookup x=some c∧(cellsC X scope C).lookup x=some c:=fun x hx=>by
  have hm:=PySem.mem_of_lookup hx
  obtain ⟨c0,h0⟩:=closOf_has (env:=X.env) (acc:=[]) hm
  obtain ⟨c,hc⟩:=look_of_mem (l:=cellsC X scope C) (x:=x) (c:=c0) (by unfold cellsC; rw [cellsFrom_app]; exact List.mem_append_right _ h0)
  refine ⟨c,?_,hc⟩
  rcases split x c hc with q | q
  · rcases cellsFrom_cell q with z | z
    · simp at z
    · have:=nodup_key S.ndn hm z; cases this
  · exact q
 have okX : (cxComp X N scope (cellsC X scope C) C s H fp).Ok := by
  refine ⟨I.ok.mod,S.kind,I.ok.glob,I.ok.blt,?above,?inj,?has,?cab,I.ok.hd,I.ok.frames,.inl rfl,?exf,fun b o e=>I.bs b o e,Nat.le_trans I.ok.bsz I.sz,?noex,?exfs,I.stack,I.stkFree⟩
  case above =>
   show s.heap.objs.size≤C
   rw [hC,hD]; exact Nat.le_succ _
  case inj =>
   intro x y c e1 e2
   rcases split x c e1 with q1 | q1 <;> rcases split y c e2 with q2 | q2
   · exact name_of_addr ok.apart q1 q2
   · have h1:@LE.le Nat _ (C + 1) c:=(own x c q1).2
     have h2:@LT.lt Nat _ c D:=par y c q2
     exfalso; omega
   · have h1:@LE.le Nat _ (C + 1) c:=(own y c q2).2
     have h2:@LT.lt Nat _ c D:=par x c q1
     exfalso; omega
   · exact I.ok.inj x y c q1 q2
  case has =>
   intro x hx
   have hx':(relabel scope X.env).names.lookup x=some .cell∨(relabel scope X.env).names.lookup x=some .free:=hx
   have hk:∃ k',(x,k')∈scope.names∧(k'=.cell∨k'=.free):=by
    rcases hx' with q | q
    · obtain ⟨k',h1,h2⟩:=relabel_look q
      rcases h2 with h2 | ⟨h2,_⟩
      · exact ⟨k',h1,.inl h2.symm⟩
      · exact ⟨k',h1,.inr h2⟩
    · obtain ⟨k',h1,h2⟩:=relabel_look q
      rcases h2 with h2 | ⟨_,h2⟩
      · exact ⟨k',h1,.inr h2.symm⟩
      · cases h2
   obtain ⟨k',hm,hk | hk⟩:=hk
   · subst hk
     have q:=PySem.W.cellsFrom_some scope.names (C + 1) (closOf X.env scope.names []) (x:=x) (.inl (by
      obtain ⟨k2,hk2⟩:=look_of_mem hm
      rw [hk2,nodup_key S.ndn (PySem.mem_of_lookup hk2) hm]))
     exact Option.isSome_iff_exists.mp q
   · subst hk
     obtain ⟨c0,h0⟩:=closOf_has (env:=X.env) (acc:=[]) hm
     exact look_of_mem (c:=c0) (by show (x,c0)∈cellsC X scope C; unfold cellsC; rw [cellsFrom_app]; exact List.mem_append_right _ h0)
  case cab =>
   intro x c hx e
   have hx':decide (scope.names.lookup x≠some .free)=true:=hx
   have hx2:=of_decide_eq_true hx'
   show s.heap.objs.size≤c
   have e':(cellsC X scope C).lookup x=some c:=e
   have hm:=PySem.mem_of_lookup e'
   unfold cellsC at hm
   rw [cellsFrom_app] at hm
   rcases List.mem_append.mp hm with z | z
   · have h1:@LE.le Nat _ (C + 1) c:=(own x c z).2
     have h2:@LE.le Nat _ s.heap.objs.size c:=by omega
     exact h2
   · rcases closOf_mem z with z | ⟨z,_⟩
     · simp at z
     · obtain ⟨k2,hk2⟩:=look_of_mem z
       exact absurd (by rw [hk2,nodup_key S.ndn (PySem.mem_of_lookup hk2) z]) hx2
  case exf =>
   intro b hb
   refine ⟨?_,fun x c e z=>?_⟩
   · have h1:@LT.lt Nat _ b D:=fpD b hb
     exact Nat.ne_of_lt (show @LT.lt Nat _ b C by omega)
   · rcases split x c e with q | q
     · have h1:@LE.le Nat _ (C + 1) c:=(own x c q).2
       have h2:@LT.lt Nat _ b D:=fpD b hb
       have z':@Eq Nat c b:=z
       omega
     · exact (hf b hb).2.2.2.2.1 x c q z
  case noex =>
   intro b o e hb
   rcases (hf b hb).2.2.2.1 with q | q
   · exact I.ok.noex b o e q
   · exact absurd (Nat.lt_of_lt_of_le (Heap.lt_size e) (Nat.le_trans I.ok.bsz q)) (Nat.lt_irrefl _)
  case exfs =>
   intro b hb z
   have z':b∈frs X.stack:=z
   rcases List.mem_cons.mp (I.stkSub b z') with q | q
   · exact (hf b hb).2.1 q
   · exact (hf b hb).2.2.1 q
 refine ⟨okX,rfl,I.bare,Un.laid old (by rw [hD]; exact Nat.le_refl _) (I.hok.fresh (by rw [hD]; exact Nat.le_refl _)),⟨_,hns,?loc⟩,?cell,updn _ (show @Ne Nat C D by omega) hCfree,?freeC,fun p hp=>absurd hp (by simp),?hok,?len⟩
 case loc =>
  intro i x v e1 e2 e3
  obtain ⟨j,hi,hj,hv⟩:=compSt_at e2
  have hz:(x,j)∈(N.drop k).zip caps:=by
   refine List.mem_iff_getElem?.mpr ⟨i - k,?_⟩
   rw [List.getElem?_zip_eq_some]
   refine ⟨?_,hj⟩
   rw [List.getElem?_drop,show k + (i - k)=i by omega]
   exact e1
  obtain ⟨hp,hfr⟩:=S.cap (x,j) hz
  have hk:=S.free (x,.free) (PySem.mem_of_lookup hfr) rfl
  obtain ⟨m,hn,hl⟩:=I.loc
  obtain ⟨u,r,l⟩:=hl j x v hp hv (by rcases hk with q | q; exact .inr (.inl q); exact .inr (.inr q))
  refine ⟨u,r,?_⟩
  obtain ⟨c,hc1,hc2⟩:=capt x hfr
  have hcell:s.heap.IsCell c (some u):=by
   rcases l with ⟨q,_⟩ | ⟨_,c',q1,q2⟩
   · have q':X.env.scope.names.lookup x=some .local:=q
     rcases hk with z | z
     · rw [q'] at z; cases z
     · rw [q'] at z; cases z
   · rw [hc1] at q1; cases q1; exact q2
  exact .inr ⟨relabel_free hfr,c,hc2,hcell.keeps old⟩
 case cell =>
  intro x c e
  rcases split x c e with q | q
  · exact ⟨_,(own x c q).1⟩
  · obtain ⟨v,z⟩:=I.cell x c q
    exact ⟨v,z.keeps old⟩
 case freeC =>
  intro x c e
  rcases split x c e with q | q
  · have h1:@LE.le Nat _ (C + 1) c:=(own x c q).2
    have h2:@LE.le Nat _ s.heap.objs.size c:=by omega
    exact updn c (show @Ne Nat c D by omega) (I.hok.fresh h2)
  · exact updn c (Nat.ne_of_lt (par x c q)) (I.freeC x c q)
 case hok =>
  exact I.hok.laid old (by rw [hD]; exact Nat.le_refl _) ⟨Nat.zero_le _,[],0,.nil,hacc⟩
 case len =>
  show (compSt k caps σ).length=N.length
  unfold compSt
  rw [List.length_append,List.length_replicate,List.length_map,S.len]
theorem comp_again {fp:List Addr} (I:Inv X pins σ H s) (S:CompScope X.env.scope X.N scope N k caps) {C:Addr} {pins':List (Addr × Obj)} {σ':St} {H':Hp} {s':Shared} (hfc:∀ x c,X.env.cells.lookup x=some c→c ∉ fp) (hD:s.heap.objs.size≤C)
 (J:Inv (cxComp X N scope (cellsC X scope C) C s H fp) pins' σ' H' s'):Inv (cxComp X N scope (cellsC X scope C) C s H fp) pins' (compSt k caps σ) H' s':=by
 obtain ⟨m,hn,_⟩:=id J.loc
 refine ⟨J.ok,J.os,J.bare,J.base,⟨m,hn,fun i x v e1 e2 e3=>?_⟩,J.cell,J.free,J.freeC,J.pin,J.hok,?_⟩
 · obtain ⟨j,hi,hj,hv⟩:=compSt_at e2
   have hz:(x,j)∈(N.drop k).zip caps:=by
    refine List.mem_iff_getElem?.mpr ⟨i - k,?_⟩
    rw [List.getElem?_zip_eq_some]
    refine ⟨?_,hj⟩
    rw [List.getElem?_drop,show k + (i - k)=i by omega]
    exact e1
   obtain ⟨hp,hfr⟩:=S.cap (x,j) hz
   have hk:=S.free (x,.free) (PySem.mem_of_lookup hfr) rfl
   obtain ⟨m2,hn2,hl⟩:=I.loc
   obtain ⟨u,r,l⟩:=hl j x v hp hv (by rcases hk with q | q; exact .inr (.inl q); exact .inr (.inr q))
   refine ⟨u,r,?_⟩
   have hcell:∃ c,X.env.cells.lookup x=some c∧s.heap.IsCell c (some u):=by
    rcases l with ⟨q,_⟩ | ⟨_,c',q1,q2⟩
    · have q':X.env.scope.names.lookup x=some .local:=q
      rcases hk with z | z
      · rw [q'] at z; cases z
      · rw [q'] at z; cases z
    · exact ⟨c',q1,q2⟩
   obtain ⟨c,hc1,o,ho,hd⟩:=hcell
   have hc2:(cellsC X scope C).lookup x=some c:=by
    have hm:=PySem.mem_of_lookup hfr
    obtain ⟨c0,h0⟩:=closOf_has (env:=X.env) (acc:=[]) hm
    obtain ⟨c',hc'⟩:=look_of_mem (l:=cellsC X scope C) (x:=x) (c:=c0) (by unfold cellsC; rw [cellsFrom_app]; exact List.mem_append_right _ h0)
    rcases cellsC_split (C:=C) I S (PySem.mem_of_lookup hc') with q | q
    · rcases cellsFrom_cell q with z | z
      · simp at z
      · have:=nodup_key S.ndn hm z; cases this
    · rw [hc1] at q; cases q; exact hc'
   obtain ⟨sl,q⟩:=J.base.any ho (I.freeC x c hc1) (hfc x c hc1)
   exact .inr ⟨relabel_free hfr,c,hc2,_,q,hd⟩
 · show (compSt k caps σ).length=N.length
   unfold compSt
   rw [List.length_append,List.length_replicate,List.length_map,S.len]
end
def PF (X:Cx) (ifs:List Expr) (t:TT):Prop :=
 ∀ (pins:List (Addr × Obj)) (s:Shared) (σ:St) (H:Hp) (Q:Bool→Hp→Prop),Inv X pins σ H s→t σ H Q →
  wpAny (model X.prog X.w) X.A (forIn ifs true fun c r=>if r=true then do let ok ←isTrue c X.env (eval c X.env); pure (ForInStep.yield ok) else pure (ForInStep.yield r)) (TP X pins σ Q) X.xe s
def tYes:TT:=fun _ H Q=>Q true H
theorem pf_nil {X:Cx}:PF X [] tYes:=fun _ _ _ H _ I h=>wpAny_tests_nil ⟨H,I,h⟩
theorem comp_loop {prog:Program} {w:World} {A:Around} {R:Result→Shared→Prop} {s:Shared} {elt target iter:Expr} {ifs:List Expr} {scope:Scope} {pos:Pos} {it acc:Value} {env:Env} (I:Nat→Shared→Prop)
 (turn:∀ n s,I n s→wpAny (model prog w) A (pyNext it) (fun r s₁=>match r with
  | none=>R (.ok .next) s₁
  | some v=>wpAny (model prog w) A (letOwnedTupleGo target it v) (fun _ s₁=>wpAny (model prog w) A (assign target env v) (fun _ s₂ =>
   wpAny (model prog w) A (forIn ifs true fun c r=>if r=true then do let ok ←isTrue c env (eval c env); pure (ForInStep.yield ok) else pure (ForInStep.yield r)) (fun ok s₃ =>
    if ok=true then wpAny (model prog w) A (eval elt env) (fun x s₄ =>
     wpAny (model prog w) A (call (.builtin "list.append") [acc,x]) (fun _ s₅=>∃ m,m < n∧I m s₅) (fun _ _=>False) s₄) (fun _ _=>False) s₃
    else ∃ m,m < n∧I m s₃) (fun _ _=>False) s₂) (fun _ _=>False) s₁) (fun _ _=>False) s₁) (fun _ _=>False) s)
 (n:Nat) (h:I n s) :
 codeAny (model prog w) A (.compLoop (.ListComp elt [⟨target,iter,ifs,0⟩] scope pos) 0 it acc env) R s:=by
 refine codeAny_loop rfl I (fun n s hI=>?_) n h
 show wpAny _ A ((compTurn (.ListComp elt [⟨target,iter,ifs,0⟩] scope pos) 0 it acc env).onRaise (fun x=>do noteFrame x env; theTreesLotGoes x)) _ _ s
 refine wpAny_noted ?_
 rw [compTurn_list]
 refine wpAny_bind (wpAny_standAt (wpAny_bind (wpAny_mono (turn n s hI) (fun r s₁ h₁=>?_) fun _ _ h'=>h'.elim)))
 cases r with
 | none=>exact wpAny_pure h₁
 | some v =>
   refine wpAny_bind (wpAny_mono h₁ (fun _ s₁ h₁=>?_) fun _ _ h'=>h'.elim)
   refine wpAny_bind (wpAny_mono h₁ (fun _ s₂ h₂=>wpAny_bind (wpAny_mono h₂ (fun ok s₃ h₃=>?_) fun _ _ h'=>h'.elim)) fun _ _ h'=>h'.elim)
   cases ok with
   | false=>exact wpAny_pure ⟨rfl,h₃⟩
   | true =>
     exact wpAny_bind (wpAny_bind (wpAny_mono h₃ (fun x s₄ h₄=>wpAny_bind (wpAny_mono h₄ (fun _ s₅ h₅=>wpAny_pure (wpAny_pure ⟨rfl,h₅⟩)) fun _ _ h'=>h'.elim)) fun _ _ h'=>h'.elim))
def tComp (k:Nat) (caps:List Nat) (wi:TI) (g:TG) (tc:TT) (te:TE):TE:=fun σ H Q=>wi σ H fun J H1=>∀ D,H1 D=none→∃ W:Nat→Nat→List V→Hp→Prop,(∃ m,W 0 m [] (upd H1 D (.lst [])))∧∀ i m ys H2,W i m ys H2 →
 (J.stop i H2∧Q (.ref D) H2)∨(J.go i H2∧∀ x H3,J.yld i H2 x H3→g x (compSt k caps σ) H3 fun σ4 H4=>tc σ4 H4 fun b H5 =>
  if b=true then te σ4 H5 fun y H6=>H6 D=some (.lst ys)∧ys.length < sizeLine∧∃ m',m' < m∧W (i + 1) m' (ys++[y]) (upd H6 D (.lst (ys++[y]))) else ∃ m',m' < m∧W (i + 1) m' ys H5)
theorem comp_block {X:Cx} {elt iter tg:Expr} {ifs:List Expr} {scope:Scope} {pos:Pos} {N:List Str} {k:Nat} {caps:List Nat} {g:TG} {tc:TT} {te:TE} {pins:List (Addr × Obj)} {σ:St} {H:Hp} {s:Shared} {E:Value→Shared→Prop} {Q:VK}
 {it:Addr} {fp:List Addr} {tn:Nat→Heap→Prop} {J:It} {RR:Value→Addr→Result→Shared→Prop} (hc:X.calm=true) (S:CompScope X.env.scope X.N scope N k caps) (I:Inv X pins σ H s)
 (T:Turn X.prog X.w X.K tg J fp it tn) (st:tn 0 s.heap) (hf:∀ b∈fp,FpOk X pins H b)
 (hg:∀ cs C s H ex,PG (cxComp X N scope cs C s H ex) tg g) (ht:∀ cs C s H ex,PF (cxComp X N scope cs C s H ex) ifs tc) (he:∀ cs C s H ex,PE (cxComp X N scope cs C s H ex) elt te)
 (q:∀ D,H D=none→∃ W:Nat→Nat→List V→Hp→Prop,(∃ m,W 0 m [] (upd H D (.lst [])))∧∀ i m ys H2,W i m ys H2 →
  (J.stop i H2∧Q (.ref D) H2)∨(J.go i H2∧∀ x H3,J.yld i H2 x H3→g x (compSt k caps σ) H3 fun σ4 H4=>tc σ4 H4 fun b H5 =>
   if b=true then te σ4 H5 fun y H6=>H6 D=some (.lst ys)∧ys.length < sizeLine∧∃ m',m' < m∧W (i + 1) m' (ys++[y]) (upd H6 D (.lst (ys++[y]))) else ∃ m',m' < m∧W (i + 1) m' ys H5))
 (hRR:∀ D C H' s' m,C≠X.env.locals→(∀ x c,X.env.cells.lookup x=some c→c≠C)→s'.heap.Ns C m→(∀ h',Heap.SameBut C s'.heap h'→Inv X pins σ H' { s' with heap:=h' })→H' C=none→s.heap.objs.size≤C→Q (.ref D) H'→RR (.ref D) C (.ok .next) s') :
 wpAny (model X.prog X.w) X.A (newList []) (fun acc s₃=>wpAny (model X.prog X.w) X.A (newFunctionEnv scope X.env.globals (closOf X.env scope.names []) [] X.env.qual none .none (some X.env)) (fun cenv s₄ =>
  codeAny (model X.prog X.w) X.A (.compStart (.ListComp elt [⟨tg,iter,ifs,0⟩] scope pos) 0 (.ref it) acc { cenv with scope:=relabel scope X.env }) (RR acc cenv.locals) s₄) E s₃) E s:=by
 refine wpAny_newObj_type (nfe_comp ?_)
 generalize hD:s.heap.objs.size=D
 have hsz1:(s.heap.push { cls:=.type "list",dict:=none,data:=.seq ([]:List Value).toArray }).objs.size=D + 1:=by rw [Heap.size_push,hD]
 dsimp only
 rw [hsz1]
 have hfo:∀ b∈fp,∃ o,s.heap.get? b=some o:=fun b hb=>let ⟨o,e,_⟩:=T.obj 0 _ st b hb; ⟨o,e⟩
 have hHD:H D=none:=I.hok.fresh (by rw [hD]; exact Nat.le_refl _)
 have J0:=comp_start (t':=s.toks) I S hf hfo (D:=D) (C:=D + 1) hD.symm rfl rfl
 have hfc:∀ x c,X.env.cells.lookup x=some c→c ∉ fp:=fun x c e hb=>(hf c hb).2.2.2.2.1 x c e rfl
 have fpo:∀ {pins':List (Addr × Obj)} {H':Hp},(∀ b∈fp,H' b=none)→pins'=[]→∀ b∈fp,FpOk (cxComp X N scope (cellsC X scope (D + 1)) (D + 1) s H fp) pins' H' b:=fun {pins' H'} hn hp b hb=>by
  obtain ⟨o,e⟩:=hfo b hb
  have hlt:@LT.lt Nat _ b D:=by rw [←hD]; exact Heap.lt_size e
  subst hp
  refine ⟨hn b hb,?_,fun z=>?_,.inl hb,fun x c e=>(J0.ok.exf b hb).2 x c e,fun p hp=>absurd hp (by simp)⟩
  · show @Ne Nat b (D + 1)
    omega
  · have z':b∈frs X.stack:=z
    rcases List.mem_cons.mp (I.stkSub b z') with w | w
    · exact (hf b hb).2.1 w
    · exact (hf b hb).2.2.1 w
 obtain ⟨W,⟨m0,w0⟩,turn⟩:=q D hHD
 have st1:tn 0 (pushCells ((s.heap.push { cls:=.type "list",data:=.seq #[] }).push { cls:=.type "dict",data:=.dict #[] }) scope.names):=T.keep 0 _ _ st fun b hb o e=>pushCells_keeps _ _ b o (Heap.get?_push_of_some _ (Heap.get?_push_of_some _ e))
 have fr0:∀ b∈fp,(upd H D (.lst [])) b=none:=fun b hb=>by
  obtain ⟨o,e⟩:=hfo b hb
  have hlt:@LT.lt Nat _ b D:=by rw [←hD]; exact Heap.lt_size e
  rw [upd_ne (show @Ne Nat b D by omega)]
  exact (hf b hb).1
 have fin:∀ {H':Hp} {s':Shared} {σ':St} {pins':List (Addr × Obj)},Inv (cxComp X N scope (cellsC X scope (D + 1)) (D + 1) s H fp) pins' σ' H' s'→Q (.ref D) H'→RR (.ref D) (D + 1) (.ok .next) s':=fun {H' s' σ' pins'} J q=>by
  obtain ⟨m,hn,_⟩:=id J.loc
  refine hRR D (D + 1) H' s' m (fun z=>?_) (fun x c e z=>?_) hn (fun h' hs=>?_) J.free (by rw [hD]; exact Nat.le_succ _) q
  · have h1:@LT.lt Nat _ X.env.locals D:=by rw [←hD]; exact I.lt
    have z':@Eq Nat (D + 1) X.env.locals:=z
    omega
  · obtain ⟨v,y⟩:=I.cell x c e
    have h1:@LT.lt Nat _ c D:=by rw [←hD]; exact y.lt
    have z':@Eq Nat c (D + 1):=z
    omega
  · refine I.call' (ch:=fp) J.os (J.base.but hs (by rw [hD]; exact Nat.le_succ _)) (J.hok.but hs J.free) J.bare fun b hb=>?_
    exact ⟨(hf b hb).2.2.2.1,(hf b hb).2.1,(hf b hb).2.2.2.2.1,(hf b hb).2.2.2.2.2⟩
 have loop : codeAny (model X.prog X.w) X.A (.compLoop (.ListComp elt [⟨tg, iter, ifs, 0⟩] scope pos) 0 (.ref it) (.ref D) (compEnvC scope (cellsC X scope (D + 1)) (D + 1) X.env)) (RR (.ref D) (D + 1))
  { s with heap:=pushCells ((s.heap.push { cls:=.type "list",data:=.seq #[] }).push { cls:=.type "dict",data:=.dict #[] }) scope.names }:=by
  refine comp_loop (fun n s'=>∃ i ys H',Inv (cxComp X N scope (cellsC X scope (D + 1)) (D + 1) s H fp) [] (compSt k caps σ) H' s'∧tn i s'.heap∧(∀ b∈fp,H' b=none)∧W i n ys H') ?_ m0 ⟨0,[],_,J0,st1,fr0,w0⟩
  rintro n s3 ⟨i,ys,H3,I3,st3,fr3,w3⟩
  rcases turn i n ys H3 w3 with ⟨stop,qn⟩ | ⟨go,step⟩
  · refine thn (T.done (cxComp X N scope (cellsC X scope (D + 1)) (D + 1) s H fp) rfl rfl rfl hc i [] s3 _ H3 _ I3 (fpo fr3 rfl) st3 stop) fun r s4 ⟨hr,I4⟩=>?_
    subst hr
    exact fin I4 qn
  · refine thn (T.item (cxComp X N scope (cellsC X scope (D + 1)) (D + 1) s H fp) rfl rfl rfl hc i [] s3 _ H3 _ I3 (fpo fr3 rfl) st3 go) fun r s4 ⟨u,hr,h4⟩=>?_
    subst hr
    refine thn h4 fun _ s5 ⟨x,H5,I5,r5,y5,st5,fr5⟩=>?_
    have I5':=I5.pinned (fpo fr5 rfl) (T.obj _ _ st5)
    have again:∀ {σ7:St} {H7:Hp} {s7:Shared} {m':Nat} {zs:List V},Inv (cxComp X N scope (cellsC X scope (D + 1)) (D + 1) s H fp) ([]++pinsAt fp s5.heap) σ7 H7 s7→m' < n→W (i + 1) m' zs H7 →
     ∃ m,m < n∧∃ i ys H',Inv (cxComp X N scope (cellsC X scope (D + 1)) (D + 1) s H fp) [] (compSt k caps σ) H' s7∧tn i s7.heap∧(∀ b∈fp,H' b=none)∧W i m ys H':=fun {σ7 H7 s7 m' zs} I7 hm w7=>by
     refine ⟨m',hm,i + 1,zs,H7,comp_again I S hfc (by rw [hD]; exact Nat.le_succ _) I7.unpinned,T.keep _ _ _ st5 fun b hb o e=>(I7.pin (b,o) (List.mem_append_right _ (List.mem_append_right _ (mem_pinsAt hb e)))).1,fun b hb=>?_,w7⟩
     obtain ⟨o,e,d⟩:=T.obj _ _ st5 b hb
     exact (I7.pin (b,o) (List.mem_append_right _ (List.mem_append_right _ (mem_pinsAt hb e)))).2.1
    refine thn (hg _ _ _ _ _ _ s5 _ H5 x u _ I5' r5 (step x H5 y5)) fun _ s6 ⟨σ6,H6,I6,q6⟩=>?_
    refine thn (ht _ _ _ _ _ _ s6 σ6 H6 _ I6 q6) fun b s7 ⟨H7,I7,q7⟩=>?_
    cases b with
    | false =>
      rw [if_neg Bool.false_ne_true] at q7 ⊢
      obtain ⟨m',hm,w7⟩:=q7
      exact again I7 hm w7
    | true =>
      rw [if_pos rfl] at q7 ⊢
      refine thn (he _ _ _ _ _ _ s7 σ6 H7 _ I7 q7) fun y s8 ⟨yv,H8,I8,r8,hD8,hz8,m',hm,w8⟩=>?_
      refine thn (mt_append (X:=cxComp X N scope (cellsC X scope (D + 1)) (D + 1) s H fp) _ s8 σ6 H8 (.ref D) [yv] (.ref D) [y] (fun _ H9=>W (i + 1) m' (ys++[yv]) H9) I8 rfl (.cons r8 .nil) ⟨D,ys,yv,rfl,rfl,hD8,hz8,w8⟩) fun _ s9 ⟨_,H9,I9,_,w9⟩=>?_
      exact again I9 hm w9
 exact codeAny_compStart_list loop (T.self _ 0 _ _ _ st1 loop)
theorem pe_comp {X:Cx} {elt iter tg:Expr} {ifs:List Expr} {scope:Scope} {pos:Pos} {N:List Str} {k:Nat} {caps:List Nat} {wi:TI} {g:TG} {tc:TT} {te:TE} (hc:X.calm=true) (S:CompScope X.env.scope X.N scope N k caps) (hi:PI X tg iter wi)
 (hg:∀ cs C s H ex,PG (cxComp X N scope cs C s H ex) tg g) (ht:∀ cs C s H ex,PF (cxComp X N scope cs C s H ex) ifs tc) (he:∀ cs C s H ex,PE (cxComp X N scope cs C s H ex) elt te)
 (hs:∀ x,foldedSetIterable iter X.env x=pure x:=by intro _; rfl):PE X (.ListComp elt [⟨tg,iter,ifs,0⟩] scope pos) (tComp k caps wi g tc te):=by
 intro pins s σ H Q I h
 have hcl:closureFor scope X.env=pure (closOf X.env scope.names []):=closureFor_of fun x hx hfr=>I.ok.has x.1 (S.free x hx hfr)
 rw [eval_ListComp]
 refine wpAny_comprehension_free (use:=none) rfl hs hcl S.kind S.loc (thn (hi pins s σ H _ I h) fun v s1 h1=>thn h1 fun itv s2 h2=>?_)
 obtain ⟨it,fp,tn,J,H2,e,I2,T,st2,f2,q⟩:=h2
 subst e
 refine comp_block (Q:=Q) hc S I2 T st2 f2 hg ht he q ?_
 intro D C H' s' m _ _ hn hI _ _ hq
 exact ⟨m,hn,fun h' hs'=>⟨.ref D,H',hI h' hs',rfl,hq⟩⟩
end L2
namespace L2
open PySem PySem.Spec PyProof.Rows
def Callee (P:Program) (w:World) (K:PySem.W.Frag) (mg:Str→Option Value) (base:Heap) (x:Str) (k:Nat) (ps:List Str) (sp:Sp):Prop :=
 ∃ f fd,FnOk P w K mg base CX0 k f fd ps sp∧mg x=some (.ref f)∧PySem.W.keepIn K (.ref f)=true∧Binds K fd ps []
section
variable {X:Cx} {x:Str} {k:Nat} {ps:List Str} {sp:Sp} {e:Expr} {es:List Expr} {t:TA} {p pos:Pos}
theorem pe_fn (C:Callee X.prog X.w X.K X.mg X.base x k ps sp) (ha:PA X (e :: es) t) (hr:Room k X.A:=by exact Room.mono (by assumption) (by decide)) (hg:Gl X x:=by rfl) (hdb:(x == ("__debug__" : Str))=false:=by decide)
 (he:starEach (e :: es) X.env=(false,eval e X.env) :: starEach es X.env:=by rfl) (hpl:(backTo pos (starEach es X.env)).any (·.1)=false:=by rfl):PE X (.Call (.Name x p) (e :: es) [] pos) (tCall sp [] E0 t):=by
 obtain ⟨f,fd,F,hm,hk,hb⟩:=C
 exact pe_call F hr hg hm hk hb .nil pass0 ha hdb he hpl
end
theorem pe_ty {X:Cx} {x:Str} {pos:Pos} (n:String) (hg:Gl X x) (hm:X.mg x=none) (hv:bootBuiltins x=some (.type n)) (hn:x ≠ "__name__" := by decide) (hd:(x == ("__debug__" : Str))=false:=by decide):PE X (.Name x pos) (tC (.ty n)):=pe_bltn (v:=.ty n) hg hm hv rfl hn hd
theorem seq_cut {t u:TS} {D:Ends} {σ:L2.St} {H:Hp} (P:L2.St→Hp→Prop) (hu:∀ σ' H',P σ' H'→u D σ' H') (ht:∀ N:L2.St→Hp→Prop,(∀ σ' H',P σ' H'→N σ' H')→t { D with nx:=N } σ H):tSeq t u D σ H:=ht (u D) hu
theorem Same.upd {H H':Hp} {D:Addr} {o:HO} (h:Same H H') (hn:H D=none):Same H (upd H' D o):=fun b u e=>by
 rw [upd_ne (ne_of_none e hn)]; exact h b u e
theorem Same.seqT {K:PySem.W.Frag} {H H':Hp} {a:Addr} {xs:List V} (e:Same H H') (h:SqT K H a xs):SqT K H' a xs:=by
 rcases h with (h | ⟨o,h⟩) | h
 · exact .inl (.inl (e _ _ h))
 · exact .inl (.inr ⟨o,e _ _ h⟩)
 · exact .inr h
theorem comp_range {k:Nat} {caps:List Nat} {g:TG} {te:TE} {σ:St} {H1:Hp} {Q:Addr→Hp→Prop} {lo:Int} {n:Nat} (f:Nat→V) (hn:n≤sizeLine)
 (hs:∀ (i:Nat) (H2:Hp) (D:Addr) (R:VK),i < n→Same H1 H2→H1 D=none→(∀ H3,Same H2 H3→R (f i) H3)→g (.int (lo + i)) (compSt k caps σ) H2 fun σ4 H4=>te σ4 H4 R)
 (hd:∀ (H2:Hp) (D:Addr),Same H1 H2→H1 D=none→H2 D=some (.lst ((List.range n).map f))→Q D H2) :
 ∀ D,H1 D=none→∃ W:Nat→Nat→List V→Hp→Prop,(∃ m,W 0 m [] (upd H1 D (.lst [])))∧∀ i m ys H2,W i m ys H2 →
  ((Itr lo n).stop i H2∧Q D H2)∨((Itr lo n).go i H2∧∀ x H3,(Itr lo n).yld i H2 x H3→g x (compSt k caps σ) H3 fun σ4 H4=>tYes σ4 H4 fun b H5 =>
   if b=true then te σ4 H5 fun y H6=>H6 D=some (.lst ys)∧ys.length < sizeLine∧∃ m',m' < m∧W (i + 1) m' (ys++[y]) (upd H6 D (.lst (ys++[y]))) else ∃ m',m' < m∧W (i + 1) m' ys H5):=by
 intro D hD
 refine ⟨fun i m ys H2=>m=n - i∧i≤n∧ys=(List.range i).map f∧Same H1 H2∧H2 D=some (.lst ys),⟨n,rfl,Nat.zero_le _,rfl,(Same.refl _).upd hD,upd_same⟩,?_⟩
 rintro i m ys H2 ⟨rfl,hi,rfl,s2,e2⟩
 by_cases hlt:i < n
 · refine .inr ⟨hlt,fun x H3 y=>?_⟩
   obtain ⟨rfl,rfl⟩:=y
   refine hs i H3 D _ hlt s2 hD fun H4 s4=>?_
   refine ⟨s4 _ _ e2,by rw [List.length_map,List.length_range]; omega,n - (i + 1),by omega,rfl,hlt,?_,(s2.trans s4).upd hD,upd_same⟩
   rw [List.range_succ,List.map_append]
   rfl
 · have e:i=n:=by omega
   subst e
   exact .inl ⟨Nat.le_refl _,hd H2 D s2 hD e2⟩
theorem comp_list {K:PySem.W.Frag} {a:Addr} {xs:List V} {k:Nat} {caps:List Nat} {g:TG} {te:TE} {σ:St} {H1:Hp} {Q:Addr→Hp→Prop} (f:V→V) (hn:xs.length≤sizeLine) (hq:SqL K H1 a xs)
 (hs:∀ (i:Nat) (x:V) (H2:Hp) (D:Addr) (R:VK),xs[i]?=some x→Same H1 H2→H1 D=none→(∀ H3,Same H2 H3→R (f x) H3)→g x (compSt k caps σ) H2 fun σ4 H4=>te σ4 H4 R)
 (hd:∀ (H2:Hp) (D:Addr),Same H1 H2→H1 D=none→H2 D=some (.lst (xs.map f))→Q D H2) :
 ∀ D,H1 D=none→∃ W:Nat→Nat→List V→Hp→Prop,(∃ m,W 0 m [] (upd H1 D (.lst [])))∧∀ i m ys H2,W i m ys H2 →
  ((Itl K a).stop i H2∧Q D H2)∨((Itl K a).go i H2∧∀ x H3,(Itl K a).yld i H2 x H3→g x (compSt k caps σ) H3 fun σ4 H4=>tYes σ4 H4 fun b H5 =>
   if b=true then te σ4 H5 fun y H6=>H6 D=some (.lst ys)∧ys.length < sizeLine∧∃ m',m' < m∧W (i + 1) m' (ys++[y]) (upd H6 D (.lst (ys++[y]))) else ∃ m',m' < m∧W (i + 1) m' ys H5):=by
 intro D hD
 refine ⟨fun i m ys H2=>m=xs.length - i∧i≤xs.length∧ys=(xs.take i).map f∧Same H1 H2∧H2 D=some (.lst ys),⟨xs.length,rfl,Nat.zero_le _,rfl,(Same.refl _).upd hD,upd_same⟩,?_⟩
 rintro i m ys H2 ⟨rfl,hi,rfl,s2,e2⟩
 have q2:=s2.seq hq
 by_cases hlt:i < xs.length
 · refine .inr ⟨⟨xs,xs[i],q2,by simp [hlt]⟩,fun x H3 y=>?_⟩
   obtain ⟨rfl,y⟩:=y
   have hx:=y xs q2
   refine hs i x H3 D _ hx s2 hD fun H4 s4=>?_
   refine ⟨s4 _ _ e2,by rw [List.length_map,List.length_take]; omega,xs.length - (i + 1),by omega,rfl,hlt,?_,(s2.trans s4).upd hD,upd_same⟩
   rw [List.take_succ,hx,List.map_append]
   rfl
 · have e:i=xs.length:=by omega
   subst e
   rw [List.take_length] at e2
   exact .inl ⟨⟨xs,q2,Nat.le_refl _⟩,hd H2 D s2 hD e2⟩
theorem comp_str {x:Str} {k:Nat} {caps:List Nat} {g:TG} {te:TE} {σ:St} {H1:Hp} {Q:Addr→Hp→Prop} (f:Nat→V) (hn:x.cps.size≤sizeLine)
 (hs:∀ (i c:Nat) (H2:Hp) (D:Addr) (R:VK),x.cps[i]?=some c→Same H1 H2→H1 D=none→(∀ H3,Same H2 H3→R (f c) H3)→g (.str ⟨#[c]⟩) (compSt k caps σ) H2 fun σ4 H4=>te σ4 H4 R)
 (hd:∀ (H2:Hp) (D:Addr),Same H1 H2→H1 D=none→H2 D=some (.lst (x.cps.toList.map f))→Q D H2) :
 ∀ D,H1 D=none→∃ W:Nat→Nat→List V→Hp→Prop,(∃ m,W 0 m [] (upd H1 D (.lst [])))∧∀ i m ys H2,W i m ys H2 →
  ((Its x).stop i H2∧Q D H2)∨((Its x).go i H2∧∀ y H3,(Its x).yld i H2 y H3→g y (compSt k caps σ) H3 fun σ4 H4=>tYes σ4 H4 fun b H5 =>
   if b=true then te σ4 H5 fun y H6=>H6 D=some (.lst ys)∧ys.length < sizeLine∧∃ m',m' < m∧W (i + 1) m' (ys++[y]) (upd H6 D (.lst (ys++[y]))) else ∃ m',m' < m∧W (i + 1) m' ys H5):=by
 intro D hD
 refine ⟨fun i m ys H2=>m=x.cps.size - i∧i≤x.cps.size∧ys=(x.cps.toList.take i).map f∧Same H1 H2∧H2 D=some (.lst ys),⟨x.cps.size,rfl,Nat.zero_le _,rfl,(Same.refl _).upd hD,upd_same⟩,?_⟩
 rintro i m ys H2 ⟨rfl,hi,rfl,s2,e2⟩
 by_cases hlt:i < x.cps.size
 · refine .inr ⟨hlt,fun y H3 hy=>?_⟩
   obtain ⟨rfl,c,hc,rfl⟩:=hy
   have hc':x.cps.toList[i]?=some c:=by simpa using hc
   refine hs i c H3 D _ hc s2 hD fun H4 s4=>?_
   refine ⟨s4 _ _ e2,by rw [List.length_map,List.length_take]; omega,x.cps.size - (i + 1),by omega,rfl,hlt,?_,(s2.trans s4).upd hD,upd_same⟩
   rw [List.take_succ,hc',List.map_append]
   rfl
 · have e:i=x.cps.size:=by omega
   rw [e,List.take_of_length_le (by simp)] at e2
   exact .inl ⟨e,hd H2 D s2 hD e2⟩
end L2
namespace L2
open PySem PySem.Spec PyProof.Rows
abbrev tx (cs:List Nat):Str:=⟨cs.toArray⟩
theorem tx_list (cs:List Nat):(tx cs).cps.toList=cs:=by simp [tx]
theorem tx_len (cs:List Nat):(tx cs).length=cs.length:=by simp [tx,Str.length]
theorem tx_inj {a b:List Nat} (h:tx a=tx b):a=b:=by
 have:=congrArg (fun s=>s.cps.toList) h
 simpa [tx] using this
theorem app_lst (a y:Str):(a++y).cps.toList=a.cps.toList++y.cps.toList:=by rw [PySem.Str.cps_append,Array.toList_append]
theorem join_tx (ys:List Str):(Txt.join (Str.ofString "") ys).cps.toList=(ys.map fun y=>y.cps.toList).flatten:=by
 show (Builtin.Str.glued (Str.ofString "") ys).cps.toList=_
 rw [StrLaws.glued_eq_join]
 induction ys with
 | nil=>rfl
 | cons a r ih =>
   cases r with
   | nil=>simp [Str.join]
   | cons b r =>
     rw [join_cons_cons,app_lst,app_lst,ih]
     have z:(Str.ofString "").cps.toList=[]:=by decide +kernel
     rw [z]
     simp
theorem join_sing (cs:List Nat):Txt.join (Str.ofString "") (cs.map fun c=>(⟨#[c]⟩:Str))=tx cs:=by
 refine ext_toList ?_
 rw [join_tx,tx_list,List.map_map]
 induction cs with
 | nil=>rfl
 | cons c r ih =>
   rw [List.map_cons,List.flatten_cons,ih]
   rfl
theorem joinOk_small {ys:List Str} (h:∀ y∈ys,y.length≤8) (hn:ys.length≤100):JoinOk (Str.ofString "") ys=true:=by
 refine joinOk_of_weight ?_ (by decide +kernel)
 have:(ys.map (·.length)).sum≤8 * ys.length:=by
  clear hn
  induction ys with
  | nil=>simp
  | cons a r ih =>
    have h1:=h a (by simp)
    have h2:=ih fun y hy=>h y (by simp [hy])
    simp only [List.map_cons,List.sum_cons,List.length_cons]
    omega
 omega
theorem lt_sing {c d:Nat}:(decide (([c]:List Nat) < [d]))=decide (c < d):=by
 by_cases h:c < d
 · rw [decide_eq_true h,decide_eq_true]
   exact List.Lex.rel h
 · rw [decide_eq_false h,decide_eq_false]
   intro q
   cases q with
   | rel q=>exact h q
   | cons q=>cases q
def cellAt (ns:List Int) (k:Int):Int:=(ns[k.toNat]?).getD 0
theorem seq_setC {v:V} {i:Nat} {u:TS} {D:Ends} {σ:St} {H:Hp} (h:u D (σ.set i (some v)) H):tSeq (tAsg (tC v) (gName i)) u D σ H:=h
end L2
namespace L2
open PySem PySem.Spec PyProof.Rows
theorem cutV_take (xs:List V) (n:Nat):cutV xs none (some (n:Int))=xs.take n:=by
 unfold cutV
 rw [HT.sIx_none,HT.sIx_nat,List.drop_zero,Nat.sub_zero]
 by_cases h:n≤xs.length
 · rw [Nat.min_eq_left h]
 · rw [Nat.min_eq_right (by omega),List.take_of_length_le (Nat.le_refl _),List.take_of_length_le (by omega)]
theorem cutV_drop (xs:List V) (n:Nat):cutV xs (some (n:Int)) none=xs.drop n:=by
 unfold cutV
 rw [HT.sIx_none,HT.sIx_nat]
 by_cases h:n≤xs.length
 · rw [Nat.min_eq_left h,List.take_of_length_le (by rw [List.length_drop]; exact Nat.le_refl _)]
 · rw [Nat.min_eq_right (by omega),List.drop_of_length_le (Nat.le_refl _),List.drop_of_length_le (by omega)]
   simp
theorem cutV_init (xs:List V):cutV xs none (some (-1))=xs.dropLast:=by
 unfold cutV
 rw [HT.sIx_none,List.drop_zero,Nat.sub_zero,List.dropLast_eq_take]
 congr 1
 simp [HT.sIx]
 omega
theorem cutV_mid (xs:List V) (a b:Nat) (hab:a≤b):cutV xs (some (a:Int)) (some (b:Int))=(xs.drop a).take (b - a):=by
 unfold cutV
 rw [HT.sIx_nat,HT.sIx_nat]
 by_cases ha:a≤xs.length
 · rw [Nat.min_eq_left ha]
   by_cases hb:b≤xs.length
   · rw [Nat.min_eq_left hb]
   · rw [Nat.min_eq_right (show xs.length≤b by omega),List.take_of_length_le (by rw [List.length_drop]; exact Nat.le_refl _),List.take_of_length_le (by rw [List.length_drop]; omega)]
 · rw [Nat.min_eq_right (show xs.length≤a by omega),List.drop_of_length_le (Nat.le_refl _),List.drop_of_length_le (show xs.length≤a by omega)]
   simp
theorem same_new {H:Hp} {p:Addr} {o:HO} (h:H p=none):Same H (upd H p o):=(Same.refl H).upd h
end L2
namespace L2
open PySem PySem.Spec PyProof.Rows
theorem g_in {i:Nat} {v:V} {σ:L2.St} {H:Hp} {N:L2.St→Hp→Prop} (h:N (σ.set i (some v)) H):gName i v σ H N:=h
section
variable {X:Cx}
theorem mr_append:MtR X "list.append" rAppend:=mt_append
theorem mr_extend:MtR X "list.extend" rExtend:=mt_extend
theorem mr_reverse:MtR X "list.reverse" rReverse:=mt_reverse
end
abbrev xMod:R2:=rI (fun _ j=>0 < j) fun i j=>.int (i % j)
abbrev xDiv:R2:=rI CDiv fun i j=>.int (i / j)
abbrev xMul:R2:=rI CMul fun i j=>.int (i * j)
abbrev xAdd:R2:=rI0 fun i j=>.int (i + j)
end L2
namespace L2
open PySem PySem.Spec PyProof.Rows
section
variable {X:Cx}
def rSetD:V→List V→Hp→VK→Prop:=fun x vs H Q=>∃ a kvs k d,x=.ref a∧vs=[kV k,d]∧H a=some (.dK kvs)∧kvs.length < sizeLine∧(∀ v,valV kvs k=some v→Q v H)∧(valV kvs k=none→Q d (upd H a (.dK (putK kvs k d))))
theorem mt_setdefault:MtR X "dict.setdefault" rSetD:=by
 intro pins s σ H x vs v us Q I rx rv h
 obtain ⟨a,kvs,k,d,rfl,rfl,hd,hz,q1,q2⟩:=h
 cases rx
 obtain ⟨u,r,rfl,ru,rr⟩:=vals2 rv
 obtain ⟨z,hm,ws,rel,dd⟩:=dk_of I.hok hd
 have hl:ws.length≤sizeLine:=by rw [←rel.length]; exact z
 have hv:=rel.val k
 refine call_meetsIn PySem.F.slot_dict_setdefault dd.typeIs PySem.F.entry_dict_setdefault (PySem.F.args_dict_setdefault_3 _ _ _) (kt_meets_setdefault (mixKind X.prog X.w) a (kV_is ru) hm r)
  ⟨ws,dd,hl,fun y hy=>?_,fun hn h' dd' hs=>?_⟩
 · rw [hy] at hv
   cases e:valV kvs k with
   | none=>rw [e] at hv; exact False.elim hv
   | some v0 =>
     rw [e] at hv
     exact ⟨v0,H,I.tok _,hv,q1 v0 e⟩
 · rw [hn] at hv
   cases e:valV kvs k with
   | some v0=>rw [e] at hv; exact False.elim hv
   | none =>
     have hl:(putK kvs k d).length≤sizeLine:=by have:=length_putK kvs k d; omega
     have he:∃ q,h'.get? a=some q:=let ⟨q,_,_,hq,_⟩:=dd'; ⟨q,hq⟩
     exact ⟨d,_,d_write I (by rw [hd]; exact True.intro) hs he (dk_new hl hm (rel.put k rr) dd'),rr,q2 e⟩
def rGetD:V→List V→Hp→VK→Prop:=fun x vs H Q=>∃ a y z o,x=.ref a∧vs=[y,z]∧DGet H a y o∧Q (o.getD z) H
theorem mt_get (hu:X.A.units + 1 < cLine):MtR X "dict.get" rGetD:=by
 intro pins s σ H x vs v us Q I rx rv h
 obtain ⟨a,y,z,o,rfl,rfl,g,q⟩:=h
 cases rx
 obtain ⟨u,r,rfl,ru,rr⟩:=vals2 rv
 exact d_get2 hu I g ru rr fun w' s' I' rw'=>⟨_,H,I',rw',q⟩
def rInDict (neg:Bool):R2:=fun x y H Q=>∃ a o,y=.ref a∧DGet H a x o∧Q (.bl (o.isSome != neg)) H
theorem op_inDict (hu:X.A.units + 1 < cLine):OpR X (compareOp .In) (rInDict false):=by
 intro pins s σ H x y v u Q I rx ry h
 obtain ⟨a,o,rfl,g,q⟩:=h
 cases ry
 refine d_in hu I g rx fun s' I'=>⟨.bl _,H,I',?_,q⟩
 cases o <;> rfl
theorem op_notinDict (hu:X.A.units + 1 < cLine):OpR X (compareOp .NotIn) (rInDict true):=by
 intro pins s σ H x y v u Q I rx ry h
 obtain ⟨a,o,rfl,g,q⟩:=h
 cases ry
 refine d_notIn hu I g rx fun s' I'=>⟨.bl _,H,I',?_,q⟩
 cases o <;> rfl
def rSetDict:V→V→V→Hp→(Hp→Prop)→Prop:=fun o i v H Q=>∃ a H',o=.ref a∧DPut H a i v H'∧Q H'
theorem set_dict (hu:X.A.units + 1 < cLine):PSet X rSetDict:=by
 intro pins s σ H o i v ov iv u Q I ro ri rv h
 obtain ⟨a,H',rfl,g,q⟩:=h
 cases ro
 exact d_setItem hu I g ri rv fun s' I'=>⟨H',I',q⟩
theorem pt_list {a:Expr} {ta:TE} (ha:PE X a ta) (he:∀ whole,isTrue a X.env whole=(do let v ←whole; standAt a.pos; holding [v] (truthy v)):=by intro _; rfl) :
 PT X a (fun σ H Q=>ta σ H fun x H1=>∃ p xs,x=.ref p∧SqL X.K H1 p xs∧Q (!xs.isEmpty) H1):=by
 intro pins s σ H Q I hw
 refine isTrue_plain (thn (ha pins s σ H _ I hw) fun v s1 ⟨x,H1,I1,r1,q1⟩=>?_) (he _)
 obtain ⟨p,xs,rfl,hq,q⟩:=q1
 exact tru_ok pins s1 σ H1 _ v Q I1 r1 ⟨_,Or.inl ⟨xs,hq,rfl⟩,q⟩
end
end L2
namespace L2
open PySem PySem.Spec PyProof.Rows
def metS (f:Nat→Str) (i:Nat):List Str:=((List.range i).map f).foldl step_dedup []
theorem metS_succ (f:Nat→Str) (i:Nat):metS f (i + 1)=step_dedup (metS f i) (f i):=by
 unfold metS
 rw [List.range_succ,List.map_append,List.foldl_append]
 rfl
theorem dd_len (l:List Str) (x:Str):(step_dedup l x).length=if l.any (· == x) then l.length else l.length + 1:=by
 unfold step_dedup
 split <;> simp
theorem dd_any (l:List Str) (x y:Str):(step_dedup l x).any (· == y)=(l.any (· == y) || decide (y=x)):=by
 unfold step_dedup
 by_cases h:l.any (· == x)=true
 · rw [if_pos h]
   by_cases e:y=x
   · subst e; rw [h]; rfl
   · rw [decide_eq_false e,Bool.or_false]
 · rw [if_neg h,List.any_append]
   congr 1
   by_cases e:y=x
   · subst e; simp
   · rw [decide_eq_false e]
     simp
     exact fun z=>e z.symm
theorem metS_le (f:Nat→Str):∀ i,(metS f i).length≤i
 | 0=>Nat.le_refl _
 | i + 1=>by
   have:=metS_le f i
   rw [metS_succ,dd_len]
   split <;> omega
theorem metS_any (f:Nat→Str):∀ (i:Nat) (y:Str),(metS f i).any (· == y)=true↔∃ j,j < i∧f j=y
 | 0,y=>by
   constructor
   · intro h; cases h
   · rintro ⟨j,h,_⟩; omega
 | i + 1, y => by
   rw [metS_succ,dd_any,Bool.or_eq_true,metS_any f i y,decide_eq_true_iff]
   constructor
   · rintro (⟨j,h,e⟩ | e)
     · exact ⟨j,by omega,e⟩
     · exact ⟨i,by omega,e.symm⟩
   · rintro ⟨j,h,e⟩
     by_cases hj:j=i
     · subst hj; exact .inr e.symm
     · exact .inl ⟨j,by omega,e⟩
theorem metS_iff (f:Nat→Str):∀ i,(metS f i).length=i↔∀ a b,a < b→b < i→f a≠f b
 | 0=>⟨fun _ a b _ h=>by omega,fun _=>rfl⟩
 | i + 1 => by
   have ih:=metS_iff f i
   have hle:=metS_le f i
   rw [metS_succ,dd_len]
   constructor
   · intro h a b hab hb e
     split at h
     · omega
     · rename_i hn
       have hi:(metS f i).length=i:=by omega
       by_cases hbi:b=i
       · subst hbi
         exact hn ((metS_any f b _).mpr ⟨a,hab,e⟩)
       · exact ih.mp hi a b hab (by omega) e
   · intro h
     have hi:(metS f i).length=i:=ih.mpr fun a b hab hb=>h a b hab (by omega)
     rw [if_neg,hi]
     intro hn
     obtain ⟨j,hj,e⟩:=(metS_any f i _).mp hn
     exact h j i hj (by omega) e
section
variable {prog:Program} {w:World} {A:Around} {R:Result→Shared→Prop} {It:Addr} {fp wr:List Addr} {G:Array GenState→Array GenState→Prop} {n:Nat} {Pn:Nat→Value→Prop} {Sn:Nat→Shared→Prop}
theorem set_loopS (Wk:WalksS prog w A.in1 It fp wr G n Pn Sn) (D:Addr) (nD:D ∉ fp) (f:Nat→Str) (hf:∀ i v,Pn i v→∃ t,v=.str (f i) t) (small:n + 1 < scanBound) :
 ∀ (k i:Nat) (s:Shared),n - i=k→i≤n→Sn i s→s.heap.SetOf (strKind prog w) D (fun y=>(metS f i).any (· == y)) (metS f i).length →
  (∀ s',Moved (D :: wr) G s s'→s'.heap.SetOf (strKind prog w) D (fun y=>(metS f n).any (· == y)) (metS f n).length→R (.ok (.ret .none)) s') →
  codeAny (model prog w) A (.builtin "set.update.loop" ⟨[.ref D,.ref It],[]⟩) R s:=by
 have nDw:D ∉ wr:=fun z=>nD (Wk.sub _ z)
 have sub:∀ b∈wr,b∈D :: wr:=fun b z=>List.mem_cons_of_mem _ z
 intro k
 induction k with
 | zero =>
   intro i s hk hi st hS fin
   obtain rfl:i=n:=by omega
   refine codeAny_builtin F.entry_set_update_loop ?_
   rw [Around.under_plainId F.plain_set_update_loop _]
   show wpAny _ A.in1 (pyNext (.ref It) >>= _) _ _ s
   refine wpAny_bind (Wk.done s _ _ st fun s2 mv=>?_)
   show wpAny _ A.in1 (ret Value.none) _ _ s2
   refine wpAny_pure (fin s2 (mv.mono sub) ?_)
   obtain ⟨ob,es,ep,tb,e,more⟩:=hS
   exact ⟨ob,es,ep,tb,mv.heap D _ nDw e,more⟩
 | succ k ih =>
   intro i s hk hi st hS fin
   have lt:i < n:=by omega
   refine codeAny_builtin F.entry_set_update_loop ?_
   rw [Around.under_plainId F.plain_set_update_loop _]
   show wpAny _ A.in1 (pyNext (.ref It) >>= _) _ _ s
   refine wpAny_bind (Wk.item i s _ _ lt st fun v s2 pv st2 mv=>?_)
   obtain ⟨t,rfl⟩:=hf i v pv
   have hS2:s2.heap.SetOf (strKind prog w) D (fun y=>(metS f i).any (· == y)) (metS f i).length:=by
    obtain ⟨ob,es,ep,tb,e,more⟩:=hS
    exact ⟨ob,es,ep,tb,mv.heap D _ nDw e,more⟩
   show wpAny _ A.in1 (holding [Value.str (f i) t] (setAdd D (.str (f i) t)) >>= _) _ _ s2
   refine wpAny_bind (wpAny_holding ?_)
   unfold setAdd
   refine wpAny_holding ?_
   have isk:(strKind prog w).is (f i) (.str (f i) t)=true:=strKind_is _ _ _ _
   refine wpAny_bind ((strKind prog w).pyHash (k:=f i) isk ?_)
   have room:(metS f i).length + 1 < scanBound:=by have:=metS_le f i; omega
   refine wpAny_setAddHashed_of (knd:=strKind prog w) (s:={ s2 with toks:=s2.toks + 1 }) isk rfl hS2 room fun h3 sb hS3=>?_
   have hS4:h3.SetOf (strKind prog w) D (fun y=>(metS f (i + 1)).any (· == y)) (metS f (i + 1)).length :=
    SetOf_congr hS3 (fun y=>by rw [metS_succ,dd_any]) (by rw [metS_succ,dd_len])
   refine wpAny_pure ⟨plainId_quiet F.plain_set_update_loop _,ih (i + 1) _ (by omega) lt (Wk.frame _ s2 _ _ st2 (Nat.le_succ _) fun b hb o e=>?_) hS4 fun s5 mv5 hS5=>?_⟩
   · rw [sb.2 b fun z:b=D=>nD (by rw [←z]; exact hb)]
     exact e
   · refine fin s5 (Moved.trans Wk.gtrans ((mv.mono sub).then_heap (Nat.le_succ _) fun b o hb e=>?_) mv5) hS5
     rw [sb.2 b fun z:b=D=>hb (by rw [z]; exact List.mem_cons_self)]
     exact e
end
abbrev setNew (b:Bool):Obj:={ cls:=.type "set",dict:=none,data:=.set #[] 0 (.fresh 0 0 b) }
section
variable {prog:Program} {w:World} {A:Around} {E:Value→Shared→Prop} {s:Shared}
set_option maxRecDepth 100000 in
set_option maxHeartbeats 3200000 in
theorem call_set_strs {l : Addr} {its : Array Value} {f : Nat → Str} {Q : Value → Shared → Prop} (hh : A.handled = none) (hl : s.heap.IsList l its) (hi : ∀ (i : Nat) (v : Value), its[i]? = some v → ∃ t, v = .str (f i) t) (hb : its.size + 1 < scanBound)
 (h:∀ (h':Heap) (tk:Nat),h'.SetOf (strKind prog w) s.heap.objs.size (fun y=>(metS f its.size).any (· == y)) (metS f its.size).length →
  (∀ b o,b < s.heap.objs.size→s.heap.get? b=some o→h'.get? b=some o)→Q (.ref s.heap.objs.size) { s with heap:=h',toks:=tk }) :
 wpAny (model prog w) A (call (.type "set") [.ref l]) Q E s:=by
 obtain ⟨c,tl,hmro⟩:=F.called_set.mro
 have hmade:=F.called_set.made
 have hsub:=F.called_set.sub
 refine wpAny_call (codeAny_of_tree ?_)
 show wpAny _ _ (callAny (.type "set") _) _ _ _
 refine wpAny_pure ⟨Code.quiet_builtin _ (by decide +kernel),codeAny_builtin F.entry_type_call ?_⟩
 rw [Around.under_plain (weight_type_call_type "set" [.ref l] []) rfl]
 have h1:=F.called_set.notType
 have h2:=F.called_set.canCreate
 have hct:=F.typeCall_set_1 (.ref l)
 repeat (any_goals (first | assumption | wp_step))
 refine codeAny_mono (code_set_new_1 (.ref l) (E:=E) (Q₁:=fun ob s1=>∃ b:Bool,ob=.ref s.heap.objs.size∧s1={ s with heap:=s.heap.push (setNew b) }) fun b=>⟨b,rfl,rfl⟩) fun r s1 hr=>?_
 cases r with
 | error e=>exact hr
 | ok fl =>
   cases fl with
   | ret ob =>
     obtain ⟨b0,rfl,rfl⟩:=hr
     have hS:(s.heap.push (setNew b0)).get? s.heap.objs.size=some (setNew b0):=Heap.get?_push_size _ rfl
     have hT:Shared.TypeIs { s with heap:=s.heap.push (setNew b0) } (.ref s.heap.objs.size) "set" := ⟨_,hS,rfl⟩
     have hli:=F.called_set.init.lookup
     have hbi:=F.called_set.init.bind (.ref s.heap.objs.size)
     repeat (any_goals (first | assumption | wp_step))
     refine codeAny_mono (codeAny_call_builtin (R:=wants (fun r s2=>r=.none∧∃ h' tk,s2={ s with heap:=h',toks:=tk }∧h'.SetOf (strKind prog w) s.heap.objs.size (fun y=>(metS f its.size).any (· == y)) (metS f its.size).length ∧
      (∀ b o,b < s.heap.objs.size→s.heap.get? b=some o→h'.get? b=some o)) E) F.called_set.init.plain F.entry_set_init (check_set_init_1 hT ?_)) fun r2 s2 hr2=>?_
     · obtain ⟨⟨oc,od,oda,osl⟩,hol,hcl,nl,hdl⟩:=hl
       simp only at hcl hdl
       subst hcl; subst hdl
       have hol2:(s.heap.push (setNew b0)).get? l=some { cls:=.type "list",dict:=od,data:=.seq its nl,slots:=osl }:=Heap.get?_push_of_some _ hol
       have hsls:=F.sub_list_set
       have hslf:=F.sub_list_frozenset
       have hne:(Value.type "list" == Value.type "dict")=false:=by decide
       have hl1:(s.heap.push (setNew b0)).IsList l its:=⟨_,hol2,rfl,nl,rfl⟩
       unfold Builtin.«set.__init__» noKeywords Builtin.Frozenset.updateFrom
       generalize hPI:pyIter=PI
       wp_walk
       subst hPI
       refine wpAny_pyIter_list hl1 (wpAny_bind (wpAny_runValue ?_))
       have ltl:l < s.heap.objs.size:=Heap.lt_size hol
       have hh3:A.in1.in1.in1.handled=none:=by simp [hh]
       have neI:l≠(s.heap.push (setNew b0)).objs.size:=by
        rw [Heap.size_push]
        exact Nat.ne_of_lt (Nat.lt_succ_of_lt ltl)
       have nSf:s.heap.objs.size ∉ [(s.heap.push (setNew b0)).objs.size,l]:=by
        rw [Heap.size_push]
        intro z
        rcases List.mem_cons.mp z with z | z
        · exact absurd z (Nat.ne_of_lt (Nat.lt_succ_self _))
        · exact absurd (List.mem_singleton.mp z) (Nat.ne_of_gt ltl)
       refine set_loopS ((Walks.list hh3 _ l neI its).toS) s.heap.objs.size nSf f hi hb (its.size - 0) 0 _ (by omega) (Nat.zero_le _) ⟨⟨_,Heap.get?_push_size _ rfl,rfl,rfl⟩,(hl1.push _)⟩ ?hS0 ?hR
       case hS0 =>
        have hg:((s.heap.push (setNew b0)).push { cls:=.type "list_iterator",data:=.fields #[.ref l,.int 0 0] }).get? s.heap.objs.size=some (setNew b0):=Heap.get?_push_of_some _ hS
        exact SetOf_congr ((setObjOf_fresh (knd:=strKind prog w) b0).setOf hg (by unfold scanBound; omega)) (fun _=>rfl) rfl
       case hR =>
        rintro ⟨h',g',d',tk',os'⟩ mv hS'
        obtain rfl:g'=s.gens:=mv.gens
        obtain rfl:d'=s.drawn:=mv.drawn
        obtain rfl:os'=s.os:=mv.os
        show wpAny _ _ _ _ _ _
        refine wpAny_pure ?_
        show wpAny _ _ (ret Value.none) _ _ _
        refine wpAny_pure ⟨rfl,h',tk',rfl,hS',fun b o hb e=>?_⟩
        refine mv.heap b o (fun z=>?_) (Heap.get?_push_of_some _ (Heap.get?_push_of_some _ e))
        rcases List.mem_cons.mp z with z | z
        · exact absurd z (Nat.ne_of_lt hb)
        · have z':=List.mem_singleton.mp z
          rw [Heap.size_push] at z'
          exact absurd z' (Nat.ne_of_lt (Nat.lt_succ_of_lt hb))
     · cases r2 with
       | error e=>exact hr2
       | ok fl2 =>
         cases fl2 with
         | ret r =>
           obtain ⟨rfl,h',tk,rfl,hS',hk'⟩:=hr2
           repeat (any_goals (first | assumption | wp_step))
           exact h _ _ hS' hk'
         | _=>exact hr2.elim
   | _=>exact hr.elim
end
end L2
namespace L2
open PySem PySem.Spec PyProof.Rows
def SetS (P:Program) (w:World) (a:Addr) (n:Nat):HO:=.ext fun h=>∃ S,h.SetOf (strKind P w) a S n
section
variable {X:Cx}
def rSetS (P:Program) (w:World) (K:PySem.W.Frag):List V→Hp→VK→Prop:=fun vs H Q=>∃ (p:Addr) (xs:List Str),vs=[.ref p]∧SqL K H p (xs.map V.str)∧xs.length≤1000∧∀ q n,(n=xs.length↔xs.Nodup)→H q=none→Q (.ref q) (upd H q (SetS P w q n))
theorem strs_at {xs:List Str} {its:List Value} (r:Vals (xs.map V.str) its):∀ (i:Nat) (v:Value),its.toArray[i]?=some v→∃ t,v=.str (xs.getD i default) t:=by
 intro i v hv
 have hv':its[i]?=some v:=by simpa using hv
 have hl:=r.length
 rw [List.length_map] at hl
 have hi:i < xs.length:=by
  have:=(List.getElem?_eq_some_iff.mp hv').1
  omega
 obtain ⟨u,hu,ru⟩:=r.get (i:=i) (x:=.str xs[i]) (by rw [List.getElem?_map,List.getElem?_eq_getElem hi]; rfl)
 rw [hv'] at hu
 cases hu
 rw [List.getD_eq_getElem?_getD,List.getElem?_eq_getElem hi]
 exact ru
theorem nodup_at {xs:List Str}:(∀ a b,a < b→b < xs.length→xs.getD a default≠xs.getD b default)↔xs.Nodup:=by
 unfold List.Nodup
 rw [List.pairwise_iff_getElem]
 constructor
 · intro h i j hi hj hij
   have:=h i j hij hj
   rwa [List.getD_eq_getElem?_getD,List.getD_eq_getElem?_getD,List.getElem?_eq_getElem hi,List.getElem?_eq_getElem hj] at this
 · intro h a b hab hb
   have:=h a b (by omega) hb hab
   rw [List.getD_eq_getElem?_getD,List.getD_eq_getElem?_getD,List.getElem?_eq_getElem (by omega),List.getElem?_eq_getElem hb]
   exact this
theorem call_set_of (hc:X.calm=true):CallR X (.type "set") (rSetS X.prog X.w X.K):=by
 intro pins s σ H vs us Q I r h
 obtain ⟨p,xs,rfl,hq,hz,q⟩:=h
 obtain ⟨u,rfl,ru⟩:=vals1 r
 obtain rfl:u=Value.ref p:=ru
 obtain ⟨its,rv,pl,_⟩:=I.list hq
 have hl:=rv.length
 rw [List.length_map] at hl
 have hsz:its.toArray.size=xs.length:=by rw [List.size_toArray,hl]
 refine call_set_strs (f:=fun i=>xs.getD i default) (I.ok.hd hc) pl.isList (strs_at rv) (by rw [hsz]; unfold scanBound; omega) fun h' tk hS k=>?_
 have hn:(metS (fun i=>xs.getD i default) its.toArray.size).length=xs.length↔xs.Nodup:=by
  rw [hsz,metS_iff,nodup_at]
 have kk:∀ b u,s.heap.get? b=some u→h'.get? b=some u:=fun b u e=>k b u (Heap.lt_size e) e
 refine ⟨.ref s.heap.objs.size,upd H s.heap.objs.size (SetS X.prog X.w s.heap.objs.size _),I.laid (t':=tk) kk (Nat.le_refl _) ?_,rfl,q _ _ hn I.fresh⟩
 refine ⟨⟨_,hS⟩,?_,fun h1 h2 ⟨S,o,es,ep,t,e,more⟩ hk=>⟨S,o,es,ep,t,hk o e,more⟩⟩
 obtain ⟨o,_,_,_,e,_⟩:=hS
 exact ⟨o,e⟩
theorem call_len_setS:CallR X (.builtin "len") (fun vs H Q=>∃ q n,vs=[.ref q]∧H q=some (SetS X.prog X.w q n)∧n≤1000∧Q (.int n) H):=by
 intro pins s σ H vs us Q I r h
 obtain ⟨a,n,rfl,e,hn,q⟩:=h
 obtain ⟨u,rfl,ru⟩:=vals1 r
 obtain rfl:u=Value.ref a:=ru
 obtain ⟨⟨S,o,es,ep,t,ho,hex,hd,_,_,_,hf,hsz⟩,_,_⟩:=I.hok a _ e
 subst hsz
 exact PySem.call_len_set ho hex hd hf (by omega) ⟨.int _,H,I.tok _,⟨_,rfl⟩,q⟩
end
end L2
namespace L2
open PySem PySem.Spec PyProof.Rows PySem.SeqAt
inductive Dt where
 | non | bl (b:Bool) | int (i:Int) | str (x:Str) | tup (l:List Dt) | lst (l:List Dt)
mutual
inductive IsDt (K:PySem.W.Frag) (H:Hp):V→Dt→Prop where
 | non:IsDt K H .non .non
 | bl (b:Bool):IsDt K H (.bl b) (.bl b)
 | int (i:Int):IsDt K H (.int i) (.int i)
 | str (x:Str):IsDt K H (.str x) (.str x)
 | tup {a:Addr} {vs:List V} {ds:List Dt} (h:SqT K H a vs) (t:IsDts K H vs ds):IsDt K H (.ref a) (.tup ds)
 | lst {a:Addr} {vs:List V} {ds:List Dt} (h:SqL K H a vs) (t:IsDts K H vs ds):IsDt K H (.ref a) (.lst ds)
inductive IsDts (K:PySem.W.Frag) (H:Hp):List V→List Dt→Prop where
 | nil:IsDts K H [] []
 | cons {v:V} {d:Dt} {vs:List V} {ds:List Dt} (h:IsDt K H v d) (t:IsDts K H vs ds):IsDts K H (v :: vs) (d :: ds)
end
mutual
theorem IsDt.same {K:PySem.W.Frag} {H H':Hp} (e:Same H H') {v:V} {d:Dt} (h:IsDt K H v d):IsDt K H' v d:=by
 cases h with
 | non=>exact .non
 | bl b=>exact .bl b
 | int i=>exact .int i
 | str x=>exact .str x
 | tup h t=>exact .tup (e.seqT h) (IsDts.same e t)
 | lst h t=>exact .lst (e.seq h) (IsDts.same e t)
theorem IsDts.same {K:PySem.W.Frag} {H H':Hp} (e:Same H H') {vs:List V} {ds:List Dt} (h:IsDts K H vs ds):IsDts K H' vs ds:=by
 cases h with
 | nil=>exact .nil
 | cons h t=>exact .cons (IsDt.same e h) (IsDts.same e t)
end
theorem IsDts.length {K:PySem.W.Frag} {H:Hp}:∀ {vs:List V} {ds:List Dt},IsDts K H vs ds→vs.length=ds.length
 | _,_,.nil=>rfl
 | _,_,.cons _ t=>congrArg (· + 1) t.length
theorem IsDts.get {K:PySem.W.Frag} {H:Hp}:∀ {vs:List V} {ds:List Dt} {i:Nat} {v:V},IsDts K H vs ds→vs[i]?=some v→∃ d,ds[i]?=some d∧IsDt K H v d
 | _,_,_,_,.nil,e=>by simp at e
 | _,_,0,_,.cons h _,e=>by simp at e; subst e; exact ⟨_,rfl,h⟩
 | _,_,i + 1,v,.cons _ t,e=>by
   obtain ⟨d,h1,h2⟩:=IsDts.get (i:=i) (v:=v) t (by simpa using e)
   exact ⟨d,by simpa using h1,h2⟩
theorem IsDts.get' {K:PySem.W.Frag} {H:Hp}:∀ {vs:List V} {ds:List Dt} {i:Nat} {d:Dt},IsDts K H vs ds→ds[i]?=some d→∃ v,vs[i]?=some v∧IsDt K H v d
 | _,_,_,_,.nil,e=>by simp at e
 | _,_,0,_,.cons h _,e=>by simp at e; subst e; exact ⟨_,rfl,h⟩
 | _,_,i + 1,v,.cons _ t,e=>by
   obtain ⟨d,h1,h2⟩:=IsDts.get' (i:=i) (d:=v) t (by simpa using e)
   exact ⟨d,by simpa using h1,h2⟩
section
variable {X:Cx} {pins:List (Addr × Obj)} {σ:St} {H:Hp} {s:Shared}
theorem Inv.not_both (I:Inv X pins σ H s) {a:Addr} {xs ys:List V} (h:SqL X.K H a xs) (h':SqT X.K H a ys):False:=by
 obtain ⟨_,_,⟨o,n,e,c,_⟩,_⟩:=I.list h
 obtain ⟨_,_,⟨o',e',c',_⟩,_⟩:=I.tuple h'
 rw [e] at e'; cases e'
 rw [c] at c'
 exact absurd c' (by decide)
mutual
theorem IsDt.inj (I:Inv X pins σ H s) {v:V} {d e:Dt} (h:IsDt X.K H v d) (h':IsDt X.K H v e):d=e:=by
 cases h with
 | non=>cases h'; rfl
 | bl _=>cases h'; rfl
 | int _=>cases h'; rfl
 | str _=>cases h'; rfl
 | tup h t=>cases h' with
   | tup h' t' =>
     have e:=I.tuple_inj h h'
     subst e
     rw [IsDts.inj I t t']
   | lst h' _=>exact (I.not_both h' h).elim
 | lst h t=>cases h' with
   | lst h' t' =>
     have e:=I.list_inj h h'
     subst e
     rw [IsDts.inj I t t']
   | tup h' _=>exact (I.not_both h h').elim
theorem IsDts.inj (I:Inv X pins σ H s) {vs:List V} {ds es:List Dt} (h:IsDts X.K H vs ds) (h':IsDts X.K H vs es):ds=es:=by
 cases h with
 | nil=>cases h'; rfl
 | cons h t=>cases h' with
   | cons h' t'=>rw [IsDt.inj I h h',IsDts.inj I t t']
end
end
def Dt.kd:Dt→Nat
 | .non=>0 | .bl _=>1 | .int _=>2 | .str _=>3 | .tup _=>4 | .lst _=>5
def Apart (a b:Nat):Bool:=a != b && !(a == 1 && b == 2) && !(a == 2 && b == 1)
mutual
inductive Cmp:Nat→Dt→Dt→Prop where
 | non {n:Nat}:Cmp n .non .non
 | bl {n:Nat} (a b:Bool):Cmp n (.bl a) (.bl b)
 | int {n:Nat} (a b:Int):Cmp n (.int a) (.int b)
 | str {n:Nat} (a b:Str):Cmp n (.str a) (.str b)
 | tup {n:Nat} {ds es:List Dt} (t:Cmps n ds es):Cmp (n + 1) (.tup ds) (.tup es)
 | lst {n:Nat} {ds es:List Dt} (t:Cmps n ds es):Cmp (n + 1) (.lst ds) (.lst es)
 | apart {n:Nat} {d e:Dt} (h:Apart d.kd e.kd=true):Cmp (n + 1) d e
inductive Cmps:Nat→List Dt→List Dt→Prop where
 | nil {n:Nat} (es:List Dt):Cmps n [] es
 | nil' {n:Nat} (ds:List Dt):Cmps n ds []
 | cons {n:Nat} {d e:Dt} {ds es:List Dt} (h:Cmp n d e) (t:Cmps n ds es):Cmps n (d :: ds) (e :: es)
end
theorem Cmps.of {n:Nat}:∀ {ds es:List Dt},(∀ d∈ds,∀ e∈es,Cmp n d e)→Cmps n ds es
 | [],es,_=>.nil es
 | d :: ds,[],_=>.nil' _
 | d :: ds,e :: es,h=>.cons (h d (by simp) e (by simp)) (Cmps.of fun x hx y hy=>h x (by simp [hx]) y (by simp [hy]))
open Classical in
noncomputable def dec (p:Prop):Bool:=decide p
theorem dec_true {p:Prop} (h:p):dec p=true:=@decide_eq_true p (Classical.propDecidable p) h
theorem dec_false {p:Prop} (h:¬ p):dec p=false:=@decide_eq_false p (Classical.propDecidable p) h
theorem dec_iff {p:Prop}:dec p=true↔p:=⟨fun h=>@of_decide_eq_true p (Classical.propDecidable p) h,dec_true⟩
theorem dec_congr {p q:Prop} (h:p↔q):dec p=dec q:=by rw [propext h]
theorem dec_beq {α:Type} [BEq α] [LawfulBEq α] {a b:α} {p:Prop} (h:p↔a=b):(a == b)=dec p:=by
 by_cases e:a=b
 · subst e; rw [dec_true (h.mpr rfl)]; exact beq_self_eq_true _
 · rw [dec_false fun q=>e (h.mp q)]; exact beq_false_of_ne e
theorem list_ext_iff {ds es:List Dt} (hl:ds.length=es.length) (h:∀ i,i < ds.length→ds[i]?=es[i]?):ds=es:=List.ext_getElem? fun i=>by
 by_cases hi:i < ds.length
 · exact h i hi
 · rw [List.getElem?_eq_none (by omega),List.getElem?_eq_none (by omega)]
section
variable {X:Cx} {pins:List (Addr × Obj)} {σ:St} {H:Hp} {s:Shared}
theorem in1_units (A:Around):A.in1.units=A.units + 1:=rfl
theorem eq_items (I:Inv X pins σ H s) {A:Around} {vs us:List V} {ds es:List Dt} {ivs ius:List Value} (rv:Vals vs ivs) (ru:Vals us ius) (tv:IsDts X.K H vs ds) (tu:IsDts X.K H us es)
 (hc:∀ (i:Nat) (d e:Dt) (v u:V) (x y:Value),ds[i]?=some d→es[i]?=some e→RelV v x→RelV u y→IsDt X.K H v d→IsDt X.K H u e→EqAt A s x y (dec (d=e))) :
 ∀ j (h1:j < ivs.toArray.size) (h2:j < ius.toArray.size),EqAt A s ivs.toArray[j] ius.toArray[j] (dec (ds[j]?=es[j]?)):=by
 intro j h1 h2
 have l1:=rv.length
 have l2:=ru.length
 have h1':j < ivs.length:=by simpa using h1
 have h2':j < ius.length:=by simpa using h2
 obtain ⟨x,hx,rx⟩:=rv.get (i:=j) (x:=vs[j]'(by omega)) (List.getElem?_eq_getElem (by omega))
 obtain ⟨y,hy,ry⟩:=ru.get (i:=j) (x:=us[j]'(by omega)) (List.getElem?_eq_getElem (by omega))
 obtain ⟨d,hd,td⟩:=tv.get (i:=j) (v:=vs[j]'(by omega)) (List.getElem?_eq_getElem (by omega))
 obtain ⟨e,he,te⟩:=tu.get (i:=j) (v:=us[j]'(by omega)) (List.getElem?_eq_getElem (by omega))
 have ex:ivs.toArray[j]=x:=by
  rw [List.getElem?_eq_getElem h1'] at hx
  simpa using hx
 have ey:ius.toArray[j]=y:=by
  rw [List.getElem?_eq_getElem h2'] at hy
  simpa using hy
 rw [ex,ey,hd,he]
 have:=hc j d e _ _ x y hd he rx ry td te
 rw [dec_congr (p:=some d=some e) (q:=d=e) (by simp)]
 exact this
theorem range_dec {ds es:List Dt} {n:Nat} (hn:n=ds.length) (hl:ds.length=es.length):(List.range n).all (fun j=>dec (ds[j]?=es[j]?))=dec (ds=es):=by
 subst hn
 by_cases h:ds=es
 · subst h
   rw [dec_true rfl,List.all_eq_true]
   exact fun i _=>dec_true rfl
 · rw [dec_false h,Bool.eq_false_iff]
   intro q
   rw [List.all_eq_true] at q
   exact h (list_ext_iff hl fun i hi=>dec_iff.mp (q i (List.mem_range.mpr hi)))
theorem apart_all (I:Inv X pins σ H s) {d e:Dt} {v u:V} {x y:Value} {A:Around} (h:Apart d.kd e.kd=true) (td:IsDt X.K H v d) (te:IsDt X.K H u e) (rx:RelV v x) (ry:RelV u y) (hu:A.units < cLine):EqAt A s x y false∧RcAt A s x y false∧RcNeAt A s x y true:=by
 cases td with
 | non =>
   cases rx
   cases te with
   | non=>exact absurd h (by simp [Apart,Dt.kd])
   | bl b =>
     cases ry
     exact ⟨EqAt.none_bool _,RcAt.none_bool _,RcNeAt.none_bool _⟩
   | int b =>
     obtain ⟨t2,rfl⟩:=ry
     exact ⟨EqAt.none_int _ _,RcAt.none_int _ _,RcNeAt.none_int _ _⟩
   | str b =>
     obtain ⟨t2,rfl⟩:=ry
     exact ⟨EqAt.none_str _ _,RcAt.none_str _ _,RcNeAt.none_str _ _⟩
   | tup h2 t2 =>
     cases ry
     obtain ⟨_,_,p2,_⟩:=I.tuple h2
     exact ⟨EqAt.none_tuple  p2 hu,RcAt.none_tuple  p2 hu,RcNeAt.none_tuple  p2 hu⟩
   | lst h2 t2 =>
     cases ry
     obtain ⟨_,_,p2,_⟩:=I.list h2
     have p2:=p2.isList
     exact ⟨EqAt.none_list  p2 hu,RcAt.none_list  p2 hu,RcNeAt.none_list  p2 hu⟩
 | bl a =>
   cases rx
   cases te with
   | non =>
     cases ry
     exact ⟨EqAt.bool_none _,RcAt.bool_none _,RcNeAt.bool_none _⟩
   | bl b=>exact absurd h (by simp [Apart,Dt.kd])
   | int b=>exact absurd h (by simp [Apart,Dt.kd])
   | str b =>
     obtain ⟨t2,rfl⟩:=ry
     exact ⟨EqAt.bool_str _ _ _,RcAt.bool_str _ _ _,RcNeAt.bool_str _ _ _⟩
   | tup h2 t2 =>
     cases ry
     obtain ⟨_,_,p2,_⟩:=I.tuple h2
     exact ⟨EqAt.bool_tuple _ p2 hu,RcAt.bool_tuple _ p2 hu,RcNeAt.bool_tuple _ p2 hu⟩
   | lst h2 t2 =>
     cases ry
     obtain ⟨_,_,p2,_⟩:=I.list h2
     have p2:=p2.isList
     exact ⟨EqAt.bool_list _ p2 hu,RcAt.bool_list _ p2 hu,RcNeAt.bool_list _ p2 hu⟩
 | int a =>
   obtain ⟨t,rfl⟩:=rx
   cases te with
   | non =>
     cases ry
     exact ⟨EqAt.int_none _ _,RcAt.int_none _ _,RcNeAt.int_none _ _⟩
   | bl b=>exact absurd h (by simp [Apart,Dt.kd])
   | int b=>exact absurd h (by simp [Apart,Dt.kd])
   | str b =>
     obtain ⟨t2,rfl⟩:=ry
     exact ⟨EqAt.int_str _ _ _ _,RcAt.int_str _ _ _ _,RcNeAt.int_str _ _ _ _⟩
   | tup h2 t2 =>
     cases ry
     obtain ⟨_,_,p2,_⟩:=I.tuple h2
     exact ⟨EqAt.int_tuple _ _ p2 hu,RcAt.int_tuple _ _ p2 hu,RcNeAt.int_tuple _ _ p2 hu⟩
   | lst h2 t2 =>
     cases ry
     obtain ⟨_,_,p2,_⟩:=I.list h2
     have p2:=p2.isList
     exact ⟨EqAt.int_list _ _ p2 hu,RcAt.int_list _ _ p2 hu,RcNeAt.int_list _ _ p2 hu⟩
 | str a =>
   obtain ⟨t,rfl⟩:=rx
   cases te with
   | non =>
     cases ry
     exact ⟨EqAt.str_none _ _,RcAt.str_none _ _,RcNeAt.str_none _ _⟩
   | bl b =>
     cases ry
     exact ⟨EqAt.str_bool _ _ _,RcAt.str_bool _ _ _,RcNeAt.str_bool _ _ _⟩
   | int b =>
     obtain ⟨t2,rfl⟩:=ry
     exact ⟨EqAt.str_int _ _ _ _,RcAt.str_int _ _ _ _,RcNeAt.str_int _ _ _ _⟩
   | str b=>exact absurd h (by simp [Apart,Dt.kd])
   | tup h2 t2 =>
     cases ry
     obtain ⟨_,_,p2,_⟩:=I.tuple h2
     exact ⟨EqAt.str_tuple _ _ p2 hu,RcAt.str_tuple _ _ p2 hu,RcNeAt.str_tuple _ _ p2 hu⟩
   | lst h2 t2 =>
     cases ry
     obtain ⟨_,_,p2,_⟩:=I.list h2
     have p2:=p2.isList
     exact ⟨EqAt.str_list _ _ p2 hu,RcAt.str_list _ _ p2 hu,RcNeAt.str_list _ _ p2 hu⟩
 | tup h1 t1 =>
   cases rx
   obtain ⟨_,_,p,_⟩:=I.tuple h1
   cases te with
   | non =>
     cases ry
     exact ⟨EqAt.tuple_none  p hu,RcAt.tuple_none  p hu,RcNeAt.tuple_none  p hu⟩
   | bl b =>
     cases ry
     exact ⟨EqAt.tuple_bool _ p hu,RcAt.tuple_bool _ p hu,RcNeAt.tuple_bool _ p hu⟩
   | int b =>
     obtain ⟨t2,rfl⟩:=ry
     exact ⟨EqAt.tuple_int _ _ p hu,RcAt.tuple_int _ _ p hu,RcNeAt.tuple_int _ _ p hu⟩
   | str b =>
     obtain ⟨t2,rfl⟩:=ry
     exact ⟨EqAt.tuple_str _ _ p hu,RcAt.tuple_str _ _ p hu,RcNeAt.tuple_str _ _ p hu⟩
   | tup h2 t2=>exact absurd h (by simp [Apart,Dt.kd])
   | lst h2 t2 =>
     cases ry
     obtain ⟨_,_,p2,_⟩:=I.list h2
     have p2:=p2.isList
     exact ⟨EqAt.tuple_list p p2 hu,RcAt.tuple_list p p2 hu,RcNeAt.tuple_list p p2 hu⟩
 | lst h1 t1 =>
   cases rx
   obtain ⟨_,_,p,_⟩:=I.list h1
   have p:=p.isList
   cases te with
   | non =>
     cases ry
     exact ⟨EqAt.list_none  p hu,RcAt.list_none  p hu,RcNeAt.list_none  p hu⟩
   | bl b =>
     cases ry
     exact ⟨EqAt.list_bool _ p hu,RcAt.list_bool _ p hu,RcNeAt.list_bool _ p hu⟩
   | int b =>
     obtain ⟨t2,rfl⟩:=ry
     exact ⟨EqAt.list_int _ _ p hu,RcAt.list_int _ _ p hu,RcNeAt.list_int _ _ p hu⟩
   | str b =>
     obtain ⟨t2,rfl⟩:=ry
     exact ⟨EqAt.list_str _ _ p hu,RcAt.list_str _ _ p hu,RcNeAt.list_str _ _ p hu⟩
   | tup h2 t2 =>
     cases ry
     obtain ⟨_,_,p2,_⟩:=I.tuple h2
     exact ⟨EqAt.list_tuple p p2 hu,RcAt.list_tuple p p2 hu,RcNeAt.list_tuple p p2 hu⟩
   | lst h2 t2=>exact absurd h (by simp [Apart,Dt.kd])
theorem eq_of_rc (I:Inv X pins σ H s) {d e:Dt} {v u:V} {x y:Value} {A:Around} (td:IsDt X.K H v d) (te:IsDt X.K H u e) (rx:RelV v x) (ry:RelV u y) (h:RcAt A s x y (dec (d=e))):EqAt A s x y (dec (d=e)):=by
 by_cases hxy:x=y
 · subst hxy
   have e1:=rx.inj ry
   subst e1
   rw [dec_true (IsDt.inj I td te)]
   exact EqAt.same _
 · intro prog w E Q hq
   unfold eqBool
   refine wpAny_holding ?_
   refine wpAny_ite_split (fun hab=>absurd (eq_of_beq hab) hxy) (fun _=>?_)
   cases td with
   | non=>cases rx; exact wpAny_bind (h prog w E _ (wpAny_truthy_bool hq))
   | bl a=>cases rx; exact wpAny_bind (h prog w E _ (wpAny_truthy_bool hq))
   | int a=>obtain ⟨t,rfl⟩:=rx; exact wpAny_bind (h prog w E _ (wpAny_truthy_bool hq))
   | str a=>obtain ⟨t,rfl⟩:=rx; exact wpAny_bind (h prog w E _ (wpAny_truthy_bool hq))
   | tup _ _=>cases rx; exact wpAny_bind (h prog w E _ (wpAny_truthy_bool hq))
   | lst _ _=>cases rx; exact wpAny_bind (h prog w E _ (wpAny_truthy_bool hq))
theorem kd_ne {d e:Dt} (h:Apart d.kd e.kd=true):¬ d=e:=fun z=>by
 subst z
 simp [Apart] at h
mutual
theorem rcD (I:Inv X pins σ H s) {n:Nat} {d e:Dt} {v u:V} {x y:Value} {A:Around} (c:Cmp n d e) (td:IsDt X.K H v d) (te:IsDt X.K H u e) (rx:RelV v x) (ry:RelV u y) (hu:A.units + n < cLine):RcAt A s x y (dec (d=e))∧RcNeAt A s x y (!dec (d=e)):=by
 cases c with
 | non =>
   cases td; cases te
   cases rx; cases ry
   rw [dec_true rfl]
   exact ⟨RcAt.none_none,RcNeAt.none_none⟩
 | bl a b =>
   cases td; cases te
   cases rx; cases ry
   rw [←dec_beq (a:=a) (b:=b) (by simp)]
   exact ⟨RcAt.bool_bool a b,RcNeAt.bool_bool a b⟩
 | int a b =>
   cases td; cases te
   obtain ⟨t,rfl⟩:=rx
   obtain ⟨t',rfl⟩:=ry
   rw [←dec_beq (a:=a) (b:=b) (by simp)]
   exact ⟨RcAt.int_int a t b t',RcNeAt.int_int a t b t'⟩
 | str a b =>
   cases td; cases te
   obtain ⟨t,rfl⟩:=rx
   obtain ⟨t',rfl⟩:=ry
   rw [←dec_beq (a:=a) (b:=b) (by simp)]
   exact ⟨RcAt.str_str a t b t',RcNeAt.str_str a t b t'⟩
 | @tup n ds es c =>
   cases td; cases te
   rename_i a vs h t b us h' t'
   cases rx; cases ry
   obtain ⟨its,r,p,_⟩:=I.tuple h
   obtain ⟨its',r',p',_⟩:=I.tuple h'
   have l1:=r.length
   have l2:=r'.length
   have l3:=t.length
   have l4:=t'.length
   have he:=eq_items (A:=A.in1) I r r' t t' (eqDs I c (by rw [in1_units]; omega))
   have e:dec (Dt.tup ds=Dt.tup es)=((List.range (min its.toArray.size its'.toArray.size)).all (fun j=>dec (ds[j]?=es[j]?)) && its.toArray.size == its'.toArray.size):=by
    rw [dec_congr (p:=Dt.tup ds=Dt.tup es) (q:=ds=es) (by simp)]
    simp only [List.size_toArray]
    by_cases hl:ds.length=es.length
    · rw [show (its.length == its'.length)=true from beq_iff_eq.mpr (by omega),Bool.and_true,range_dec (by omega) hl]
    · rw [show (its.length == its'.length)=false from beq_false_of_ne (by omega),Bool.and_false,dec_false fun z=>hl (by rw [z])]
   rw [e]
   exact ⟨RcAt.tuples (A:=A) p p' (by omega) he,RcNeAt.tuples (A:=A) p p' (by omega) he⟩
 | @lst n ds es c =>
   cases td; cases te
   rename_i a vs h t b us h' t'
   cases rx; cases ry
   obtain ⟨its,r,p,_⟩:=I.list h
   obtain ⟨its',r',p',_⟩:=I.list h'
   have l1:=r.length
   have l2:=r'.length
   have l3:=t.length
   have l4:=t'.length
   by_cases hl:ds.length=es.length
   · have he:=eq_items (A:=A.in1) I r r' t t' (eqDs I c (by rw [in1_units]; omega))
     rw [dec_congr (p:=Dt.lst ds=Dt.lst es) (q:=ds=es) (by simp),←range_dec (n:=its.toArray.size) (by simp only [List.size_toArray]; omega) hl]
     exact ⟨RcAt.lists (A:=A) p.isList p'.isList (by simp only [List.size_toArray]; omega) (by omega) he,RcNeAt.lists (A:=A) p.isList p'.isList (by simp only [List.size_toArray]; omega) (by omega) he⟩
   · rw [dec_false (show ¬ Dt.lst ds=Dt.lst es from fun z=>hl (by cases z; rfl))]
     have hz:(its.toArray.size != its'.toArray.size)=true:=by simp only [List.size_toArray]; rw [bne_iff_ne]; omega
     exact ⟨RcAt.lists_lengths p.isList p'.isList hz (by omega),RcNeAt.lists_lengths p.isList p'.isList hz (by omega)⟩
 | apart h =>
   obtain ⟨_,h1,h2⟩:=apart_all (A:=A) I h td te rx ry (by omega)
   rw [dec_false (kd_ne h)]
   exact ⟨h1,h2⟩
theorem eqDs (I:Inv X pins σ H s) {n:Nat} {ds es:List Dt} {A:Around} (c:Cmps n ds es) (hu:A.units + n < cLine)
 (i:Nat) (d e:Dt) (v u:V) (x y:Value) (h:ds[i]?=some d) (h':es[i]?=some e) (rx:RelV v x) (ry:RelV u y) (td:IsDt X.K H v d) (te:IsDt X.K H u e):EqAt A s x y (dec (d=e)):=by
 cases c with
 | nil=>simp at h
 | nil'=>simp at h'
 | cons c t=>cases i with
   | zero =>
     simp at h h'; subst h; subst h'
     have hrc:=rcD (A:=A) I c td te rx ry hu
     exact eq_of_rc I td te rx ry hrc.1
   | succ i=>exact eqDs I t hu i d e v u x y (by simpa using h) (by simpa using h') rx ry td te
end
theorem eqD (I:Inv X pins σ H s) {n:Nat} {d e:Dt} {v u:V} {x y:Value} {A:Around} (c:Cmp n d e) (td:IsDt X.K H v d) (te:IsDt X.K H u e) (rx:RelV v x) (ry:RelV u y) (hu:A.units + n < cLine):EqAt A s x y (dec (d=e)) :=
 eq_of_rc I td te rx ry (rcD I c td te rx ry hu).1
end
section
variable {X:Cx}
def rEqD (K:PySem.W.Frag):R2:=fun x y H Q=>∃ n d e,Cmp n d e∧n≤60∧IsDt K H x d∧IsDt K H y e∧Q (.bl (dec (d=e))) H
def rNeD (K:PySem.W.Frag):R2:=fun x y H Q=>∃ n d e,Cmp n d e∧n≤60∧IsDt K H x d∧IsDt K H y e∧Q (.bl (!dec (d=e))) H
theorem op_eqD (hu:X.A.units + 64 < cLine):OpR X (compareOp .Eq) (rEqD X.K):=by
 intro pins s σ H x y v u Q I rx ry h
 obtain ⟨n,d,e,c,hn,td,te,q⟩:=h
 exact (rcD (A:=X.A) I c td te rx ry (by omega)).1 _ _ _ _ ⟨.bl _,H,I,rfl,q⟩
theorem op_neD (hu:X.A.units + 64 < cLine):OpR X (compareOp .NotEq) (rNeD X.K):=by
 intro pins s σ H x y v u Q I rx ry h
 obtain ⟨n,d,e,c,hn,td,te,q⟩:=h
 exact (rcD (A:=X.A) I c td te rx ry (by omega)).2 _ _ _ _ ⟨.bl _,H,I,rfl,q⟩
def rNotInD (K:PySem.W.Frag):R2:=fun x y H Q=>∃ n d ds a vs,(∀ e∈ds,Cmp n e d)∧n≤60∧IsDt K H x d∧y=.ref a∧SqL K H a vs∧IsDts K H vs ds∧Q (.bl (!dec (d∈ds))) H
theorem in_items {pins:List (Addr × Obj)} {σ:St} {H:Hp} {s:Shared} (I:Inv X pins σ H s) {n:Nat} {d:Dt} {ds:List Dt} {vs:List V} {its:List Value} {v:V} {x:Value} {A:Around} (r:Vals vs its) (t:IsDts X.K H vs ds) (hc:∀ e∈ds,Cmp n e d) (td:IsDt X.K H v d) (rx:RelV v x) (hu:A.units + n < cLine) :
 (∀ y,y∈its.toArray→EqAt A s y x (dec (∃ u,RelV u y∧IsDt X.K H u d)))∧its.toArray.any (fun y=>dec (∃ u,RelV u y∧IsDt X.K H u d))=dec (d∈ds):=by
 have ll:=r.length
 have lt:=t.length
 have one:∀ y,y∈its→∃ e∈ds,∃ u,RelV u y∧IsDt X.K H u e:=fun y hy=>by
  obtain ⟨i,hi,e⟩:=List.mem_iff_getElem.mp hy
  obtain ⟨y',hy',ry⟩:=r.get (i:=i) (x:=vs[i]'(by omega)) (List.getElem?_eq_getElem (by omega))
  obtain ⟨e',he,te⟩:=t.get (i:=i) (v:=vs[i]'(by omega)) (List.getElem?_eq_getElem (by omega))
  rw [List.getElem?_eq_getElem hi,e] at hy'
  cases hy'
  exact ⟨e',List.mem_of_getElem? he,_,ry,te⟩
 refine ⟨fun y hy=>?_,?_⟩
 · obtain ⟨e,he,u,ru,te⟩:=one y (by simpa using hy)
   have:=eqD (A:=A) I (hc e he) te td ru rx hu
   rw [dec_congr (p:=∃ u,RelV u y∧IsDt X.K H u d) (q:=e=d) ⟨fun ⟨u',ru',te'⟩=>by
    have e1:=ru.inj ru'
    subst e1
    exact IsDt.inj I te te',fun z=>⟨u,ru,by rw [←z]; exact te⟩⟩]
   exact this
 · by_cases hm:d∈ds
   · rw [dec_true hm,Array.any_eq_true]
     obtain ⟨i,hi,e⟩:=List.mem_iff_getElem.mp hm
     obtain ⟨u,hu',te⟩:=t.get' (i:=i) (d:=d) (by rw [List.getElem?_eq_getElem hi,e])
     obtain ⟨y,hy,ry⟩:=r.get hu'
     have hi':i < its.length:=(List.getElem?_eq_some_iff.mp hy).1
     refine ⟨i,by simpa using hi',?_⟩
     have:its.toArray[i]'(by simpa using hi')=y:=by
      rw [List.getElem?_eq_getElem hi'] at hy
      simpa using hy
     rw [this]
     exact dec_true ⟨u,ry,te⟩
   · rw [dec_false hm,Bool.eq_false_iff]
     intro q
     obtain ⟨i,hi,q⟩:=Array.any_eq_true.mp q
     obtain ⟨u,ru,te⟩:=dec_iff.mp q
     obtain ⟨e,he,u',ru',te'⟩:=one (its.toArray[i]) (by simp)
     have e1:=ru.inj ru'
     subst e1
     have e2:=IsDt.inj I te te'
     subst e2
     exact hm he
theorem op_notinD (hu:X.A.units + 64 < cLine):OpR X (compareOp .NotIn) (rNotInD X.K):=by
 intro pins s σ H x y v u Q I rx ry h
 obtain ⟨n,d,ds,a,vs,hc,hn,td,rfl,hq,t,q⟩:=h
 cases ry
 obtain ⟨its,r,p,_⟩:=I.list hq
 obtain ⟨h1,h2⟩:=in_items (A:=X.A.in1) I r t hc td rx (by rw [in1_units]; omega)
 exact notIn_listAt _ p.isList h1 (by rw [h2]; exact ⟨.bl _,H,I,rfl,q⟩)
end
end L2
namespace Ord
variable {α:Type} [DecidableEq α]
inductive Path (ps:List (α × α)):α→α→Prop where
 | one {a b}:(a,b)∈ps→Path ps a b
 | snoc {a b c}:Path ps a b→(b,c)∈ps→Path ps a c
theorem Path.trans {ps:List (α × α)} {a b c:α} (h:Path ps a b) (k:Path ps b c):Path ps a c:=by
 induction k with
 | one e=>exact .snoc h e
 | snoc _ e ih=>exact .snoc ih e
theorem Path.snd {ps:List (α × α)} {a b:α} (h:Path ps a b):b∈ps.map (·.2):=by
 cases h with
 | one e=>exact List.mem_map.mpr ⟨_,e,rfl⟩
 | snoc _ e=>exact List.mem_map.mpr ⟨_,e,rfl⟩
theorem Path.fst {ps:List (α × α)} {a b:α} (h:Path ps a b):a∈ps.map (·.1):=by
 induction h with
 | one e=>exact List.mem_map.mpr ⟨_,e,rfl⟩
 | snoc _ _ ih=>exact ih
def worseOf (ps:List (α × α)) (a:α):List α:=(ps.filter (fun p=>decide (p.1=a))).map (·.2)
theorem mem_worseOf {ps:List (α × α)} {a b:α}:b∈worseOf ps a↔(a,b)∈ps:=by
 unfold worseOf
 rw [List.mem_map]
 constructor
 · rintro ⟨⟨x,y⟩,h,rfl⟩
   obtain ⟨h1,h2⟩:=List.mem_filter.mp h
   have e:x=a:=of_decide_eq_true h2
   subst e; exact h1
 · intro h
   exact ⟨(a,b),List.mem_filter.mpr ⟨h,decide_eq_true rfl⟩,rfl⟩
theorem worseOf_snoc {ps:List (α × α)} {x y a:α}:worseOf (ps++[(x,y)]) a=if x=a then worseOf ps a++[y] else worseOf ps a:=by
 unfold worseOf
 rw [List.filter_append]
 by_cases e:x=a
 · simp [e]
 · simp [e]
structure Tree (ps:List (α × α)) (st:α) (cf:List (α × α)):Prop where
 nd:(cf.map (·.1)).Nodup
 par:∀ (i:Nat) (p:α × α),cf[i]?=some p→(p.2,p.1)∈ps∧(p.2=st∨∃ (j:Nat) (q:α × α),j < i∧cf[j]?=some q∧q.1=p.2)
theorem Tree.nil {ps:List (α × α)} {st:α}:Tree ps st []:=⟨List.nodup_nil,fun i p h=>by simp at h⟩
theorem nodup_snoc {l:List α} {x:α} (h:l.Nodup) (hx:x ∉ l):(l++[x]).Nodup:=by
 rw [List.nodup_append]
 refine ⟨h,by simp,?_⟩
 intro a ha b hb e
 rw [List.mem_singleton] at hb
 subst hb; subst e
 exact hx ha
theorem Tree.snoc {ps:List (α × α)} {st:α} {cf:List (α × α)} (T:Tree ps st cf) {w b:α} (hw:w ∉ cf.map (·.1)) (hb:(b,w)∈ps) (hp:b=st∨b∈cf.map (·.1)):Tree ps st (cf++[(w,b)]):=by
 refine ⟨?_,fun i p h=>?_⟩
 · rw [List.map_append]
   exact nodup_snoc T.nd hw
 · by_cases hi:i < cf.length
   · rw [List.getElem?_append_left hi] at h
     obtain ⟨h1,h2⟩:=T.par i p h
     refine ⟨h1,?_⟩
     rcases h2 with h2 | ⟨j,q,hj,hq,e⟩
     · exact .inl h2
     · exact .inr ⟨j,q,hj,by rw [List.getElem?_append_left (by omega)]; exact hq,e⟩
   · have hi':i=cf.length:=by
      have:=(List.getElem?_eq_some_iff.mp h).1
      simp at this; omega
     subst hi'
     have e:p=(w,b):=by simpa using h.symm
     subst e
     refine ⟨hb,?_⟩
     rcases hp with hp | hp
     · exact .inl hp
     · obtain ⟨q,hq,e⟩:=List.mem_map.mp hp
       obtain ⟨j,hj,e2⟩:=List.mem_iff_getElem.mp hq
       refine .inr ⟨j,q,hj,?_,e⟩
       rw [List.getElem?_append_left hj]
       exact List.getElem?_eq_some_iff.mpr ⟨hj,e2⟩
theorem Tree.path {ps:List (α × α)} {st:α} {cf:List (α × α)} (T:Tree ps st cf):∀ (n i:Nat) (p:α × α),i < n→cf[i]?=some p→Path ps st p.1:=by
 intro n
 induction n with
 | zero=>intro i p h; omega
 | succ n ih =>
   intro i p hi h
   obtain ⟨h1,h2⟩:=T.par i p h
   rcases h2 with h2 | ⟨j,q,hj,hq,e⟩
   · rw [h2] at h1; exact .one h1
   · have:=ih j q (by omega) hq
     rw [e] at this
     exact .snoc this h1
theorem Tree.path_mem {ps:List (α × α)} {st:α} {cf:List (α × α)} (T:Tree ps st cf) {k:α} (h:k∈cf.map (·.1)):Path ps st k:=by
 obtain ⟨q,hq,e⟩:=List.mem_map.mp h
 obtain ⟨j,hj,e2⟩:=List.mem_iff_getElem.mp hq
 have:=T.path (j + 1) j q (by omega) (List.getElem?_eq_some_iff.mpr ⟨hj,e2⟩)
 rw [e] at this; exact this
def Full (ps:List (α × α)) (st:α) (cf:List (α × α)):Prop:=∀ b,(b=st∨b∈cf.map (·.1))→∀ w,(b,w)∈ps→w∈cf.map (·.1)
theorem Tree.iff {ps:List (α × α)} {st:α} {cf:List (α × α)} (T:Tree ps st cf) (F:Full ps st cf) {k:α}:k∈cf.map (·.1)↔Path ps st k:=by
 constructor
 · exact T.path_mem
 · intro h
   induction h with
   | one e=>exact F _ (.inl rfl) _ e
   | snoc _ e ih=>exact F _ (.inr ih) _ e
theorem nodup_sub_length {l m:List α} (h:l.Nodup) (hs:∀ x∈l,x∈m):l.length≤m.length:=by
 induction l generalizing m with
 | nil=>simp
 | cons x r ih =>
   have hx:=hs x (by simp)
   have hn:=(List.nodup_cons.mp h)
   have:r.length≤(m.erase x).length:=ih hn.2 (fun y hy=>by
    have hy':=hs y (by simp [hy])
    have ne:y≠x:=fun e=>hn.1 (e ▸ hy)
    exact (List.mem_erase_of_ne ne).mpr hy')
   rw [List.length_erase_of_mem hx] at this
   have hp:0 < m.length:=List.length_pos_of_mem hx
   simp; omega
theorem Tree.length {ps:List (α × α)} {st:α} {cf:List (α × α)} (T:Tree ps st cf):cf.length≤ps.length:=by
 have:=nodup_sub_length T.nd (m:=ps.map (·.2)) (fun x hx=>(T.path_mem hx).snd)
 simpa using this
structure Lay (ps:List (α × α)) (st:α) (cf:List (α × α)) (rest further:List α):Prop where
 tree:Tree ps st cf
 inR:∀ b∈rest,b=st∨b∈cf.map (·.1)
 inF:∀ b∈further,b∈cf.map (·.1)
 full:∀ b,(b=st∨b∈cf.map (·.1))→b∈rest∨b∈further∨∀ w,(b,w)∈ps→w∈cf.map (·.1)
theorem Lay.start {ps:List (α × α)} {st:α}:Lay ps st [] [st] [] :=
 ⟨Tree.nil,fun b hb=>.inl (by simpa using hb),fun b hb=>by simp at hb,fun b hb=>.inl (by simpa using hb)⟩
theorem Lay.next {ps:List (α × α)} {st:α} {cf:List (α × α)} {further:List α} (L:Lay ps st cf [] further):Lay ps st cf further [] :=
 ⟨L.tree,fun b hb=>.inr (L.inF b hb),fun b hb=>by simp at hb,fun b hb=>by
  rcases L.full b hb with h | h | h
  · simp at h
  · exact .inl h
  · exact .inr (.inr h)⟩
theorem Lay.done {ps:List (α × α)} {st:α} {cf:List (α × α)} (L:Lay ps st cf [] []):Full ps st cf:=fun b hb=>by
 rcases L.full b hb with h | h | h
 · simp at h
 · simp at h
 · exact h
structure LayB (ps:List (α × α)) (st b:α) (pre:List α) (cf:List (α × α)) (rest further:List α):Prop where
 tree:Tree ps st cf
 inR:∀ c∈b :: rest,c=st∨c∈cf.map (·.1)
 inF:∀ c∈further,c∈cf.map (·.1)
 pre:∀ w∈pre,w∈cf.map (·.1)
 full:∀ c,(c=st∨c∈cf.map (·.1))→c=b∨c∈rest∨c∈further∨∀ w,(c,w)∈ps→w∈cf.map (·.1)
theorem Lay.into {ps:List (α × α)} {st b:α} {cf:List (α × α)} {rest further:List α} (L:Lay ps st cf (b :: rest) further):LayB ps st b [] cf rest further :=
 ⟨L.tree,L.inR,L.inF,fun w hw=>by simp at hw,fun c hc=>by
  rcases L.full c hc with h | h | h
  · rcases List.mem_cons.mp h with h | h
    · exact .inl h
    · exact .inr (.inl h)
  · exact .inr (.inr (.inl h))
  · exact .inr (.inr (.inr h))⟩
theorem LayB.out {ps:List (α × α)} {st b:α} {cf:List (α × α)} {rest further:List α} (L:LayB ps st b (worseOf ps b) cf rest further):Lay ps st cf rest further :=
 ⟨L.tree,fun c hc=>L.inR c (by simp [hc]),L.inF,fun c hc=>by
  rcases L.full c hc with h | h | h | h
  · subst h
    exact .inr (.inr fun w hw=>L.pre w (mem_worseOf.mpr hw))
  · exact .inl h
  · exact .inr (.inl h)
  · exact .inr (.inr h)⟩
theorem LayB.known {ps:List (α × α)} {st b w:α} {pre:List α} {cf:List (α × α)} {rest further:List α} (L:LayB ps st b pre cf rest further) (hw:w∈cf.map (·.1)):LayB ps st b (pre++[w]) cf rest further :=
 ⟨L.tree,L.inR,L.inF,fun x hx=>by
  rcases List.mem_append.mp hx with h | h
  · exact L.pre x h
  · rw [List.mem_singleton] at h; subst h; exact hw,L.full⟩
theorem LayB.more {ps:List (α × α)} {st b w:α} {pre:List α} {cf:List (α × α)} {rest further:List α} (L:LayB ps st b pre cf rest further) (hw:w ∉ cf.map (·.1)) (hb:(b,w)∈ps) :
 LayB ps st b (pre++[w]) (cf++[(w,b)]) rest (further++[w]):=by
 have up:∀ c,c∈cf.map (·.1)→c∈(cf++[(w,b)]).map (·.1):=fun c hc=>by rw [List.map_append]; exact List.mem_append_left _ hc
 have upw:w∈(cf++[(w,b)]).map (·.1):=by rw [List.map_append]; exact List.mem_append_right _ (by simp)
 refine ⟨L.tree.snoc hw hb (L.inR b (by simp)),fun c hc=>(L.inR c hc).imp id (up c),fun c hc=>?_,fun c hc=>?_,fun c hc=>?_⟩
 · rcases List.mem_append.mp hc with h | h
   · exact up c (L.inF c h)
   · rw [List.mem_singleton] at h; subst h; exact upw
 · rcases List.mem_append.mp hc with h | h
   · exact up c (L.pre c h)
   · rw [List.mem_singleton] at h; subst h; exact upw
 · have hc':c=st∨c∈cf.map (·.1)∨c=w:=by
    rcases hc with h | h
    · exact .inl h
    · rw [List.map_append] at h
      rcases List.mem_append.mp h with h | h
      · exact .inr (.inl h)
      · exact .inr (.inr (by simpa using h))
   have old:(c=st∨c∈cf.map (·.1))→c=b∨c∈rest∨c∈further++[w]∨∀ x,(c,x)∈ps→x∈(cf++[(w,b)]).map (·.1):=fun hc=>by
    rcases L.full c hc with h | h | h | h
    · exact .inl h
    · exact .inr (.inl h)
    · exact .inr (.inr (.inl (List.mem_append_left _ h)))
    · exact .inr (.inr (.inr fun x hx=>up x (h x hx)))
   rcases hc' with h | h | h
   · exact old (.inl h)
   · exact old (.inr h)
   · exact .inr (.inr (.inl (by rw [h]; exact List.mem_append_right _ (by simp))))
def Links (ps:List (α × α)) (c:List α):Prop:=∀ (i:Nat) (x y:α),c[i]?=some x→c[i + 1]?=some y→(x,y)∈ps
structure Chain (ps:List (α × α)) (one other:α) (c:List α):Prop where
 two:2≤c.length
 hd:c[0]?=some one
 lst:c[c.length - 1]?=some other
 link:Links ps c
 nt:c.tail.Nodup
 nl:c.dropLast.Nodup
end Ord
namespace War
end War
namespace Ord
variable {α:Type} [DecidableEq α]
theorem look_mem {cf:List (α × α)} {w b:α} (h:cf.lookup w=some b):(w,b)∈cf:=by
 induction cf with
 | nil=>simp at h
 | cons p r ih =>
   obtain ⟨x,y⟩:=p
   rw [List.lookup_cons] at h
   by_cases e:w=x
   · subst e
     simp at h; subst h; exact List.mem_cons_self
   · have hb:(w == x)=false:=beq_false_of_ne e
     rw [hb] at h
     exact List.mem_cons_of_mem _ (ih h)
theorem look_some {cf:List (α × α)} {w:α} (h:w∈cf.map (·.1)):∃ b,cf.lookup w=some b:=by
 induction cf with
 | nil=>simp at h
 | cons p r ih =>
   obtain ⟨x,y⟩:=p
   rw [List.lookup_cons]
   by_cases e:w=x
   · subst e; exact ⟨y,by simp⟩
   · have hb:(w == x)=false:=beq_false_of_ne e
     rw [hb]
     refine ih ?_
     rcases List.mem_cons.mp h with h | h
     · exact absurd h e
     · exact h
theorem nodup_rev {l:List α} (h:l.Nodup):l.reverse.Nodup:=by
 unfold List.Nodup at *
 rw [List.pairwise_reverse]
 exact h.imp fun {a b} h e=>h e.symm
def ix (cf:List (α × α)) (k:α):Nat:=(cf.map (·.1)).idxOf k
theorem ix_at {cf:List (α × α)} (hn:(cf.map (·.1)).Nodup) {i:Nat} {p:α × α} (h:cf[i]?=some p):ix cf p.1=i:=by
 obtain ⟨hi,e⟩:=List.getElem?_eq_some_iff.mp h
 unfold ix
 have hi':i < (cf.map (·.1)).length:=by simpa using hi
 have:(cf.map (·.1))[i]=p.1:=by simp [e]
 rw [←this]
 exact hn.idxOf_getElem i hi'
theorem Tree.back {ps:List (α × α)} {st:α} {cf:List (α × α)} (T:Tree ps st cf) {w b:α} (h:cf.lookup w=some b):(b,w)∈ps∧(b=st∨(b∈cf.map (·.1)∧ix cf b < ix cf w)):=by
 have hm:=look_mem h
 obtain ⟨i,hi,e⟩:=List.mem_iff_getElem.mp hm
 have hi':cf[i]?=some (w,b):=by rw [List.getElem?_eq_getElem hi,e]
 obtain ⟨h1,h2⟩:=T.par i _ hi'
 refine ⟨h1,?_⟩
 rcases h2 with h2 | ⟨j,q,hj,hq,e2⟩
 · exact .inl h2
 · refine .inr ⟨?_,?_⟩
   · have:q.1=b:=e2
     rw [←this]
     exact List.mem_map.mpr ⟨q,List.mem_of_getElem? hq,rfl⟩
   · have e3:=ix_at T.nd hq
     have e4:=ix_at T.nd hi'
     have e2':q.1=b:=e2
     rw [e2'] at e3
     have e4':ix cf w=i:=e4
     omega
structure Back (ps:List (α × α)) (cf:List (α × α)) (one other:α) (ls:List α) (lb:α):Prop where
 hd:ls[0]?=some other
 keys:∀ x∈ls,x∈cf.map (·.1)
 dec:ls.Pairwise (fun x y=>ix cf y < ix cf x)
 lnk:∀ (i:Nat) (x y:α),ls[i]?=some x→ls[i + 1]?=some y→(y,x)∈ps
 nx:∃ z,ls[ls.length - 1]?=some z∧cf.lookup z=some lb
 mid:∀ x∈ls.tail,x≠one
theorem Back.start {ps cf:List (α × α)} {one other b:α} (h:cf.lookup other=some b):Back ps cf one other [other] b:=by
 refine ⟨rfl,fun x hx=>?_,by simp,fun i x y h1 h2=>by simp at h2,⟨other,rfl,h⟩,fun x hx=>by simp at hx⟩
 rw [List.mem_singleton] at hx; subst hx
 exact List.mem_map.mpr ⟨_,look_mem h,rfl⟩
theorem Back.next {ps cf:List (α × α)} {one other lb:α} {ls:List α} (T:Tree ps one cf) (B:Back ps cf one other ls lb) (hne:lb≠one):∃ b,cf.lookup lb=some b∧Back ps cf one other (ls++[lb]) b∧ix cf lb < ix cf (ls[ls.length - 1]?.getD other):=by
 obtain ⟨z,hz,hl⟩:=B.nx
 obtain ⟨h1,h2⟩:=T.back hl
 rcases h2 with h2 | ⟨hk,hi⟩
 · exact absurd h2 hne
 obtain ⟨b,hb⟩:=look_some hk
 have hzl:ls.length - 1 < ls.length:=(List.getElem?_eq_some_iff.mp hz).1
 have hlast:∀ x∈ls,ix cf lb < ix cf x:=fun x hx=>by
  obtain ⟨j,hj,e⟩:=List.mem_iff_getElem.mp hx
  by_cases hjl:j=ls.length - 1
  · subst hjl
    rw [List.getElem?_eq_getElem hzl] at hz
    have:ls[ls.length - 1]=z:=Option.some.inj hz
    rw [this] at e; subst e; exact hi
  · have:=List.pairwise_iff_getElem.mp B.dec j (ls.length - 1) hj hzl (by omega)
    rw [List.getElem?_eq_getElem hzl] at hz
    have e3:ls[ls.length - 1]=z:=Option.some.inj hz
    rw [e3,e] at this
    omega
 refine ⟨b,hb,⟨?_,?_,?_,?_,?_,?_⟩,by rw [hz]; exact hi⟩
 · rw [List.getElem?_append_left (by omega)]; exact B.hd
 · intro x hx
   rcases List.mem_append.mp hx with hx | hx
   · exact B.keys x hx
   · rw [List.mem_singleton] at hx; subst hx; exact hk
 · rw [List.pairwise_append]
   refine ⟨B.dec,by simp,fun x hx y hy=>?_⟩
   rw [List.mem_singleton] at hy; subst hy
   exact hlast x hx
 · intro i x y e1 e2
   by_cases hi2:i + 1 < ls.length
   · rw [List.getElem?_append_left (by omega)] at e1
     rw [List.getElem?_append_left hi2] at e2
     exact B.lnk i x y e1 e2
   · have hi3:i + 1=ls.length:=by
      have:=(List.getElem?_eq_some_iff.mp e2).1
      simp at this; omega
     rw [List.getElem?_append_right (by omega),hi3] at e2
     simp at e2; subst e2
     rw [List.getElem?_append_left (by omega),show i=ls.length - 1 by omega,hz] at e1
     cases e1
     exact h1
 · refine ⟨lb,?_,hb⟩
   rw [List.length_append,List.length_singleton,Nat.add_sub_cancel,List.getElem?_append_right (Nat.le_refl _)]
   simp
 · intro x hx
   have:ls≠[]:=fun e=>by rw [e] at hzl; simp at hzl
   rw [List.tail_append_of_ne_nil this] at hx
   rcases List.mem_append.mp hx with hx | hx
   · exact B.mid x hx
   · rw [List.mem_singleton] at hx; subst hx; exact hne
theorem Back.fin {ps cf:List (α × α)} {one other:α} {ls:List α} (T:Tree ps one cf) (B:Back ps cf one other ls one):Chain ps one other (ls++[one]).reverse:=by
 obtain ⟨z,hz,hl⟩:=B.nx
 obtain ⟨h1,_⟩:=T.back hl
 have hzl:ls.length - 1 < ls.length:=(List.getElem?_eq_some_iff.mp hz).1
 have nd:ls.Nodup:=B.dec.imp fun {a b} h e=>by subst e; omega
 have e:(ls++[one]).reverse=one :: ls.reverse:=by simp
 have len:(ls++[one]).reverse.length=ls.length + 1:=by simp
 have at_:∀ i,i < ls.length→ls.reverse[i]?=ls[ls.length - 1 - i]?:=fun i hi=>List.getElem?_reverse hi
 refine ⟨by rw [len]; omega,by rw [e]; rfl,?_,?_,?_,?_⟩
 · rw [len,e,Nat.add_sub_cancel]
   rw [show ls.length=(ls.length - 1) + 1 by omega,List.getElem?_cons_succ,at_ _ (by omega)]
   rw [show ls.length - 1 - (ls.length - 1)=0 by omega]
   exact B.hd
 · intro i x y e1 e2
   rw [e] at e1 e2
   rw [List.getElem?_cons_succ] at e2
   have hi:i < ls.length:=by
    have:=(List.getElem?_eq_some_iff.mp e2).1
    simpa using this
   rw [at_ i hi] at e2
   cases i with
   | zero =>
     simp at e1; subst e1
     rw [Nat.sub_zero,hz] at e2
     cases e2
     exact h1
   | succ i =>
     rw [List.getElem?_cons_succ,at_ i (by omega)] at e1
     refine B.lnk (ls.length - 1 - (i + 1)) y x e2 ?_
     rw [show ls.length - 1 - (i + 1) + 1=ls.length - 1 - i by omega]
     exact e1
 · rw [e]
   exact nodup_rev nd
 · rw [List.dropLast_reverse]
   refine nodup_rev ?_
   cases ls with
   | nil=>simp at hzl
   | cons a r =>
     show (r++[one]).Nodup
     rw [List.nodup_append]
     refine ⟨(List.nodup_cons.mp nd).2,by simp,fun x hx y hy exy=>?_⟩
     rw [List.mem_singleton] at hy
     rw [hy] at exy
     exact B.mid x hx exy
end Ord
namespace L2
open PySem PySem.Spec PyProof.Rows Ord
abbrev prD (p:Str × Str):Dt:=.tup [.str p.1,.str p.2]
def Prs (K:PySem.W.Frag) (H:Hp) (a:Addr) (ps:List (Str × Str)):Prop:=∃ vs,SqL K H a vs∧IsDts K H vs (ps.map prD)
theorem cmp_pair (p q:Str × Str):Cmp 2 (prD p) (prD q):=.tup (.cons (.str _ _) (.cons (.str _ _) (.nil _)))
theorem map_at {ls:List Str} {i:Nat} {x:V} (h:(ls.map V.str)[i]?=some x):∃ z,ls[i]?=some z∧x=V.str z:=by
 rw [List.getElem?_map] at h
 obtain ⟨b,h1,h2⟩:=Option.map_eq_some_iff.mp h
 exact ⟨b,h1,h2.symm⟩
theorem atI_lst {α:Type} {xs:List α} {v:α} (h:xs[xs.length - 1]?=some v):atI xs (-1)=some v:=by
 have hl:xs.length - 1 < xs.length:=(List.getElem?_eq_some_iff.mp h).1
 unfold atI ixN
 rw [if_neg (by decide),if_pos (by omega)]
 show xs[(-1 + (xs.length:Int)).toNat]?=some v
 rw [show (-1 + (xs.length:Int)).toNat=xs.length - 1 by omega]
 exact h
theorem one_le:([]:List V).length + 1≤sizeLine:=by decide
theorem two_le:([]:List V).length + 1 + 1≤sizeLine:=by decide
theorem Prs.same {K:PySem.W.Frag} {H H':Hp} {a:Addr} {ps:List (Str × Str)} (e:Same H H') (h:Prs K H a ps):Prs K H' a ps:=by
 obtain ⟨vs,h1,h2⟩:=h
 exact ⟨vs,e.seq h1,h2.same e⟩
theorem pair_at {K:PySem.W.Frag} {H:Hp} {v:V} {p:Str × Str} (h:IsDt K H v (prD p)):∃ t,v=.ref t∧SqT K H t [.str p.1,.str p.2]:=by
 cases h with
 | tup h t =>
   cases t with
   | cons h1 t =>
     cases t with
     | cons h2 t =>
       cases t
       cases h1; cases h2
       exact ⟨_,rfl,h⟩
theorem IsDts.pairs_get {K:PySem.W.Frag} {H:Hp} {vs:List V} {ps:List (Str × Str)} (h:IsDts K H vs (ps.map prD)) {i:Nat} {v:V} (hv:vs[i]?=some v):∃ p t,ps[i]?=some p∧v=.ref t∧SqT K H t [.str p.1,.str p.2]:=by
 obtain ⟨d,hd,hi⟩:=h.get hv
 rw [List.getElem?_map] at hd
 cases e:ps[i]? with
 | none=>rw [e] at hd; cases hd
 | some p =>
   rw [e] at hd
   cases hd
   obtain ⟨t,h1,h2⟩:=pair_at hi
   exact ⟨p,t,rfl,h1,h2⟩
abbrev kvR (ks:List (Str × Addr)):List (Key × V):=ks.map fun p=>(Sum.inr p.1,V.ref p.2)
abbrev kvS (cf:List (Str × Str)):List (Key × V):=cf.map fun p=>(Sum.inr p.1,V.str p.2)
theorem val_gen {β:Type} (g:β→V):∀ (ks:List (Str × β)) (k:Str),valV (ks.map fun p=>((Sum.inr p.1:Key),g p.2)) (Sum.inr k)=(ks.lookup k).map g
 | [],_=>rfl
 | p :: r, k => by
   obtain ⟨x,y⟩:=p
   rw [List.map_cons,List.lookup_cons]
   by_cases e:k=x
   · subst e
     rw [valV_pos rfl]
     simp
   · have e':¬ ((Sum.inr x:Key)=Sum.inr k):=fun z=>e (Sum.inr.inj z).symm
     rw [valV_neg e',val_gen g r k]
     have hb:(k == x)=false:=beq_false_of_ne e
     rw [hb]
theorem val_R (ks:List (Str × Addr)) (k:Str):valV (kvR ks) (Sum.inr k)=(ks.lookup k).map V.ref:=val_gen V.ref ks k
theorem val_S (cf:List (Str × Str)) (k:Str):valV (kvS cf) (Sum.inr k)=(cf.lookup k).map V.str:=val_gen V.str cf k
theorem lookA_mem {β:Type} {ks:List (Str × β)} {k:Str} {a:β} (h:ks.lookup k=some a):(k,a)∈ks:=by
 induction ks with
 | nil=>simp at h
 | cons p r ih =>
   obtain ⟨x,y⟩:=p
   rw [List.lookup_cons] at h
   by_cases e:k=x
   · subst e
     simp at h; subst h; exact List.mem_cons_self
   · have hb:(k == x)=false:=beq_false_of_ne e
     rw [hb] at h
     exact List.mem_cons_of_mem _ (ih h)
theorem lookA_none {β:Type} {ks:List (Str × β)} {k:Str} (h:ks.lookup k=none):k ∉ ks.map (·.1):=by
 induction ks with
 | nil=>simp
 | cons p r ih =>
   obtain ⟨x,y⟩:=p
   rw [List.lookup_cons] at h
   by_cases e:k=x
   · subst e; simp at h
   · have hb:(k == x)=false:=beq_false_of_ne e
     rw [hb] at h
     intro z
     rcases List.mem_cons.mp z with z | z
     · exact e z
     · exact ih h z
structure WBB (H:Hp) (d:Addr) (ps:List (Str × Str)) (ks:List (Str × Addr)):Prop where
 dict:H d=some (.dK (kvR ks))
 nd:(ks.map (·.1)).Nodup
 lst:∀ p∈ks,H p.2=some (.lst ((worseOf ps p.1).map V.str))
 all:∀ p∈ps,p.1∈ks.map (·.1)
 adr:(ks.map (·.2)).Nodup
theorem WBB.same {H H':Hp} {d:Addr} {ps:List (Str × Str)} {ks:List (Str × Addr)} (e:Same H H') (W:WBB H d ps ks):WBB H' d ps ks :=
 ⟨e _ _ W.dict,W.nd,fun p hp=>e _ _ (W.lst p hp),W.all,W.adr⟩
theorem WBB.ne {H:Hp} {d:Addr} {ps:List (Str × Str)} {ks:List (Str × Addr)} (W:WBB H d ps ks) {p:Str × Addr} (hp:p∈ks):p.2≠d:=ne_of (W.lst p hp) W.dict (by intro z; cases z)
theorem WBB.start {H:Hp} {d:Addr} (h:H d=some (.dK [])):WBB H d [] []:=⟨h,List.nodup_nil,fun p hp=>by simp at hp,fun p hp=>by simp at hp,List.nodup_nil⟩
theorem WBB.worse {H:Hp} {d:Addr} {ps:List (Str × Str)} {ks:List (Str × Addr)} (W:WBB H d ps ks) {b:Str}:(∀ a,ks.lookup b=some a→H a=some (.lst ((worseOf ps b).map V.str)))∧(ks.lookup b=none→worseOf ps b=[]):=by
 refine ⟨fun a h=>W.lst _ (lookA_mem h),fun h=>?_⟩
 cases e:worseOf ps b with
 | nil=>rfl
 | cons w r =>
   have:w∈worseOf ps b:=by rw [e]; exact List.mem_cons_self
   exact absurd (W.all _ (mem_worseOf.mp this)) (lookA_none h)
theorem WBB.known {H:Hp} {d a:Addr} {ps:List (Str × Str)} {ks:List (Str × Addr)} (W:WBB H d ps ks) {b w:Str} (h:ks.lookup b=some a):WBB (upd H a (.lst ((worseOf ps b).map V.str++[.str w]))) d (ps++[(b,w)]) ks:=by
 have hm:=lookA_mem h
 refine ⟨by rw [upd_ne (W.ne hm).symm]; exact W.dict,W.nd,fun p hp=>?_,fun p hp=>?_,W.adr⟩
 · rw [worseOf_snoc]
   by_cases e:b=p.1
   · rw [if_pos e]
     have ep:p=(b,a):=by
      obtain ⟨i,hi,e1⟩:=List.mem_iff_getElem.mp hp
      obtain ⟨j,hj,e2⟩:=List.mem_iff_getElem.mp hm
      have h1:(ks.map (·.1))[i]'(by simpa using hi)=(ks.map (·.1))[j]'(by simpa using hj):=by simp [e1,e2,e]
      have h2:=(List.getElem_inj W.nd).mp h1
      subst h2
      rw [←e1,e2]
     subst ep
     rw [upd_same,List.map_append]
     rfl
   · rw [if_neg e]
     have na:p.2≠a:=fun z=>by
      obtain ⟨i,hi,e1⟩:=List.mem_iff_getElem.mp hp
      obtain ⟨j,hj,e2⟩:=List.mem_iff_getElem.mp hm
      have h1:(ks.map (·.2))[i]'(by simpa using hi)=(ks.map (·.2))[j]'(by simpa using hj):=by simp [e1,e2,z]
      have h2:=(List.getElem_inj W.adr).mp h1
      subst h2
      rw [e1] at e2
      exact e (by rw [e2])
     rw [upd_ne na]
     exact W.lst p hp
 · rcases List.mem_append.mp hp with hp | hp
   · exact W.all p hp
   · rw [List.mem_singleton] at hp; subst hp
     exact List.mem_map.mpr ⟨_,hm,rfl⟩
theorem WBB.more {H:Hp} {d a:Addr} {ps:List (Str × Str)} {ks:List (Str × Addr)} (W:WBB H d ps ks) {b w:Str} (h:ks.lookup b=none) (ha:H a=none):WBB (upd (upd (upd H a (.lst [])) d (.dK (putK (kvR ks) (Sum.inr b) (.ref a)))) a (.lst ([]++[.str w]))) d (ps++[(b,w)]) (ks++[(b,a)]):=by
 have nda:d≠a:=ne_of_none W.dict ha
 have hn:=lookA_none h
 have hv:valV (kvR ks) (Sum.inr b)=none:=by rw [val_R,h]; rfl
 refine ⟨?_,?_,fun p hp=>?_,fun p hp=>?_,?_⟩
 · rw [upd_ne nda,upd_same,putK_new _ hv]
   simp [kvR]
 · rw [List.map_append]; exact nodup_snoc W.nd hn
 · rw [worseOf_snoc]
   rcases List.mem_append.mp hp with hp | hp
   · have e:¬ b=p.1:=fun z=>hn (z ▸ List.mem_map.mpr ⟨p,hp,rfl⟩)
     have na:p.2≠a:=ne_of_none (W.lst p hp) ha
     rw [if_neg e,upd_ne na,upd_ne (W.ne hp),upd_ne na]
     exact W.lst p hp
   · rw [List.mem_singleton] at hp; subst hp
     rw [if_pos rfl,W.worse.2 h,upd_same]
     rfl
 · rw [List.map_append]
   rcases List.mem_append.mp hp with hp | hp
   · exact List.mem_append_left _ (W.all p hp)
   · rw [List.mem_singleton] at hp; subst hp
     exact List.mem_append_right _ (by simp)
 · rw [List.map_append]
   refine nodup_snoc W.adr fun z=>?_
   obtain ⟨p,hp,e⟩:=List.mem_map.mp z
   exact ne_of_none (W.lst p hp) ha e
end L2
namespace L2
open PySem PySem.Spec PyProof.Rows Ord
theorem IsDts.of_get {K:PySem.W.Frag} {H:Hp}:∀ {vs:List V} {ds:List Dt},vs.length=ds.length→(∀ (n:Nat) v d,vs[n]?=some v→ds[n]?=some d→IsDt K H v d)→IsDts K H vs ds
 | [],[],_,_=>.nil
 | v :: vs,d :: ds,hl,h=>.cons (h 0 v d rfl rfl) (IsDts.of_get (by simpa using hl) fun n x y e1 e2=>h (n + 1) x y (by simpa using e1) (by simpa using e2))
structure Tups (H:Hp) (ts:List Addr) (ps:List (Str × Str)):Prop where
 len:ts.length=ps.length
 at_:∀ (n:Nat) t p,ts[n]?=some t→ps[n]?=some p→H t=some (.tup [.str p.1,.str p.2])
theorem Tups.nil {H:Hp}:Tups H [] []:=⟨rfl,fun n t p h=>by simp at h⟩
theorem Tups.same {H H':Hp} {ts:List Addr} {ps:List (Str × Str)} (e:Same H H') (h:Tups H ts ps):Tups H' ts ps:=⟨h.len,fun n t p h1 h2=>e _ _ (h.at_ n t p h1 h2)⟩
theorem Tups.dts {K:PySem.W.Frag} {H:Hp} {ts:List Addr} {ps:List (Str × Str)} (h:Tups H ts ps):IsDts K H (ts.map V.ref) (ps.map prD):=by
 refine IsDts.of_get (by simpa using h.len) fun n v d e1 e2=>?_
 rw [List.getElem?_map] at e1 e2
 obtain ⟨t,h1,rfl⟩:=Option.map_eq_some_iff.mp e1
 obtain ⟨p,h2,rfl⟩:=Option.map_eq_some_iff.mp e2
 exact .tup (SqT.of (h.at_ n t p h1 h2)) (.cons (.str _) (.cons (.str _) .nil))
theorem Tups.prs {K:PySem.W.Frag} {H:Hp} {a:Addr} {ts:List Addr} {ps:List (Str × Str)} (h:Tups H ts ps) (e:H a=some (.lst (ts.map V.ref))):Prs K H a ps:=⟨_,SqL.of e,h.dts⟩
theorem Tups.ne {H:Hp} {a:Addr} {xs:List V} {ts:List Addr} {ps:List (Str × Str)} (h:Tups H ts ps) (e:H a=some (.lst xs)):a ∉ ts:=fun z=>by
 obtain ⟨n,hn,e1⟩:=List.mem_iff_getElem.mp z
 have hn':n < ps.length:=by rw [←h.len]; exact hn
 have:=h.at_ n a ps[n] (by rw [List.getElem?_eq_getElem hn,e1]) (List.getElem?_eq_getElem hn')
 rw [e] at this
 cases this
theorem Tups.upd {H:Hp} {a:Addr} {o:HO} {ts:List Addr} {ps:List (Str × Str)} (h:Tups H ts ps) (e:a ∉ ts):Tups (upd H a o) ts ps:=⟨h.len,fun n t p h1 h2=>by
 have ne:t≠a:=fun z=>by
  subst z
  exact e (List.mem_of_getElem? h1)
 rw [L2.upd_ne ne]
 exact h.at_ n t p h1 h2⟩
theorem Tups.snoc {H:Hp} {t:Addr} {ts:List Addr} {ps:List (Str × Str)} {p:Str × Str} (h:Tups H ts ps) (e:H t=some (.tup [.str p.1,.str p.2])):Tups H (ts++[t]) (ps++[p]):=by
 refine ⟨by rw [List.length_append,List.length_append,h.len]; rfl,fun n t' p' h1 h2=>?_⟩
 by_cases hn:n < ts.length
 · rw [List.getElem?_append_left hn] at h1
   rw [List.getElem?_append_left (by rw [←h.len]; exact hn)] at h2
   exact h.at_ n t' p' h1 h2
 · have hn2:n=ts.length:=by
    have:=(List.getElem?_eq_some_iff.mp h1).1
    rw [List.length_append,List.length_singleton] at this; omega
   subst hn2
   rw [List.getElem?_append_right (Nat.le_refl _)] at h1
   rw [List.getElem?_append_right (by rw [h.len]; exact Nat.le_refl _)] at h2
   simp at h1
   simp [h.len] at h2
   subst h1; subst h2
   exact e
end L2
namespace L2
open PySem PySem.Spec PyProof.Rows
theorem at0 {α:Type} {xs:List α} {i:Nat} {v:α} (h:xs[i]?=some v):atI xs (0 + (i:Int))=some v:=by
 rw [Int.zero_add]
 exact atI_nat h
theorem comp_listI {K:PySem.W.Frag} {a:Addr} {xs:List V} {k:Nat} {caps:List Nat} {g:TG} {te:TE} {σ:St} {H1:Hp} {Q:Addr→Hp→Prop} (Pv:Addr→Nat→List V→Hp→Prop)
 (h0:∀ D,H1 D=none→Pv D 0 [] (upd H1 D (.lst []))) (hq:∀ D i ys H2,Pv D i ys H2→SqL K H2 a xs)
 (hs:∀ D i x ys H2 (R:VK),H1 D=none→xs[i]?=some x→Pv D i ys H2→(∀ y H6,H6 D=some (.lst ys)→ys.length < sizeLine→Pv D (i + 1) (ys++[y]) (upd H6 D (.lst (ys++[y])))→R y H6)→g x (compSt k caps σ) H2 fun σ4 H4=>te σ4 H4 R)
 (hd:∀ D ys H2,H1 D=none→Pv D xs.length ys H2→Q D H2) :
 ∀ D,H1 D=none→∃ W:Nat→Nat→List V→Hp→Prop,(∃ m,W 0 m [] (upd H1 D (.lst [])))∧∀ i m ys H2,W i m ys H2 →
  ((Itl K a).stop i H2∧Q D H2)∨((Itl K a).go i H2∧∀ x H3,(Itl K a).yld i H2 x H3→g x (compSt k caps σ) H3 fun σ4 H4=>tYes σ4 H4 fun b H5 =>
   if b=true then te σ4 H5 fun y H6=>H6 D=some (.lst ys)∧ys.length < sizeLine∧∃ m',m' < m∧W (i + 1) m' (ys++[y]) (upd H6 D (.lst (ys++[y]))) else ∃ m',m' < m∧W (i + 1) m' ys H5):=by
 intro D hD
 refine ⟨fun i m ys H2=>m=xs.length - i∧i≤xs.length∧Pv D i ys H2,⟨xs.length,rfl,Nat.zero_le _,h0 D hD⟩,?_⟩
 rintro i m ys H2 ⟨rfl,hi,p⟩
 have q2:=hq D i ys H2 p
 by_cases hlt:i < xs.length
 · refine .inr ⟨⟨xs,xs[i],q2,by simp [hlt]⟩,fun x H3 y=>?_⟩
   obtain ⟨rfl,y⟩:=y
   have hx:=y xs q2
   refine hs D i x ys H3 _ hD hx p fun v H6 e6 hz p6=>?_
   exact ⟨e6,hz,xs.length - (i + 1),by omega,rfl,hlt,p6⟩
 · have e:i=xs.length:=by omega
   subst e
   exact .inl ⟨⟨xs,q2,Nat.le_refl _⟩,hd D ys H2 hD p⟩
end L2
namespace L2
open PySem PySem.Spec PyProof.Rows
theorem ObjOk.ex {P:Program} {w:World} {H:Hp} {h:Heap} {a:Addr} {o:HO} (x:ObjOk P w H h a o):∃ u,h.get? a=some u:=by
 cases o with
 | lst xs=>obtain ⟨_,_,_,_,e⟩:=x; exact ⟨_,e⟩
 | tup xs=>obtain ⟨_,_,_,u,e,_⟩:=x; exact ⟨u,e⟩
 | dK kvs=>obtain ⟨_,_,_,_,u,_,_,e,_⟩:=x; exact ⟨u,e⟩
 | dT kvs=>obtain ⟨_,_,_,_,u,_,_,e,_⟩:=x; exact ⟨u,e⟩
 | set S n=>obtain ⟨u,_,_,_,e,_⟩:=x; exact ⟨u,e⟩
 | ins C dx fs=>obtain ⟨_,_,_,e,_⟩:=x; exact ⟨_,e⟩
 | own y=>exact x
 | xd fs=>obtain ⟨_,⟨u,_,_,e,_⟩,_⟩:=x; exact ⟨u,e⟩
 | rng lo hi=>obtain ⟨_,_,_,e⟩:=x; exact ⟨_,e⟩
 | frz ob u=>obtain ⟨e,_⟩:=x; exact ⟨_,e⟩
 | tbl ps=>exact ⟨_,(show h.get? a=some _ from x)⟩
 | met f y=>exact ⟨_,(show h.get? a=some _ from x)⟩
 | ext φ=>exact x.2.1
theorem Inv.freshN {X:Cx} {pins:List (Addr × Obj)} {σ:L2.St} {H:Hp} {s:Shared} {a:Addr} (I:Inv X pins σ H s) (hne:∀ b u,s.heap.get? b=some u→b≠a):H a=none:=by
 cases e:H a with
 | none=>rfl
 | some o =>
   obtain ⟨u,hu⟩:=(I.hok a o e).ex
   exact absurd rfl (hne a u hu)
theorem Inv.laidN {X:Cx} {pins:List (Addr × Obj)} {σ:L2.St} {H:Hp} {s:Shared} {h':Heap} {a:Addr} {o:HO} {t':Nat} (I:Inv X pins σ H s) (k:∀ b u,s.heap.get? b=some u→h'.get? b=some u) (hne:∀ b u,s.heap.get? b=some u→b≠a) (new:ObjOk X.prog X.w (upd H a o) h' a o) :
 Inv X pins σ (upd H a o) { s with heap:=h',toks:=t' }:=by
 have hn:=I.freshN hne
 refine I.un ⟨fun b u q _ _ _=>k b u q,fun b u q _ _ _=>⟨u.slots,k b u q⟩,fun b u q n _=>by rw [upd_ne (hne b u q)]; exact n,fun b u q _=>⟨u,k b u q⟩,fun b xs q=>by rw [upd_ne (ne_of_none q hn)]; exact q,fun b u xs q=>by rw [upd_ne (ne_of_none q hn)]; exact q,fun b ps q=>⟨#[],by rw [upd_ne (ne_of_none q hn),q]; simp⟩⟩ fun b u e=>?_
 by_cases hb:b=a
 · subst hb; rw [upd_same] at e; cases e; exact new
 · rw [upd_ne hb] at e
   exact (I.hok b u e).stay (fun c v _ q=>k c v q) (fun c q=>by rw [upd_ne (ne_of_none q hn)]; exact q) fun c xs q=>by rw [upd_ne (ne_of_none q hn)]; exact q
def ltS (a b:Str):Prop:=a.cps.toList < b.cps.toList
theorem ltS_irrefl (a:Str):¬ ltS a a:=List.lt_irrefl _
theorem ltS_trans {a b c:Str} (h:ltS a b) (k:ltS b c):ltS a c:=List.lt_trans h k
theorem ltS_total {a b:Str} (h:¬ ltS b a) (ne:a≠b):ltS a b:=by
 have h1:a.cps.toList≤b.cps.toList:=List.not_lt.mp h
 rcases Classical.em (a.cps.toList < b.cps.toList) with h2 | h2
 · exact h2
 · have h3:b.cps.toList≤a.cps.toList:=List.not_lt.mp h2
   exact absurd (ext_toList (List.le_antisymm h1 h3)) ne
theorem rising_pw:∀ (l:List Str) (p:Str),risingS p l=true→(p :: l).Nodup→(p :: l).Pairwise ltS
 | [],p,_,_=>by simp
 | q :: r,p,h,hn=>by
   have h':(!ltCps q.cps.toList p.cps.toList && risingS q r)=true:=by simpa [risingS] using h
   rw [Bool.and_eq_true] at h'
   have hn2:=(List.nodup_cons.mp hn)
   have ih:=rising_pw r q h'.2 hn2.2
   have hpq:ltS p q:=ltS_total (fun z=>by
    have:=h'.1
    rw [ltCps_eq,decide_eq_true (show q.cps.toList < p.cps.toList from z)] at this
    cases this) fun z=>hn2.1 (by rw [z]; exact List.mem_cons_self)
   refine List.pairwise_cons.mpr ⟨fun x hx=>?_,ih⟩
   rcases List.mem_cons.mp hx with e | hx
   · rw [e]; exact hpq
   · exact ltS_trans hpq ((List.pairwise_cons.mp ih).1 x hx)
theorem sorted_pw {l:List Str} (h:sortedS l=true) (hn:l.Nodup):l.Pairwise ltS:=by
 cases l with
 | nil=>exact List.Pairwise.nil
 | cons p r=>exact rising_pw r p h hn
theorem vals_of_strs:∀ {vs:List Value} {ss:List Str},StrsAre vs ss→Vals (ss.map V.str) vs
 | _,_,.nil=>.nil
 | _,_,.cons _ _ h=>.cons ⟨_,rfl⟩ (vals_of_strs h)
theorem strs_of {ss:List Str}:∀ {vs:List Value},vs.length=ss.length→(∀ (i:Nat) (v:Value),vs[i]?=some v→∃ t,v=.str (ss.getD i default) t)→StrsAre vs ss:=by
 induction ss with
 | nil=>intro vs hl _; cases vs with
   | nil=>exact .nil
   | cons _ _=>simp at hl
 | cons x r ih =>
   intro vs hl h
   cases vs with
   | nil=>simp at hl
   | cons v vs =>
     obtain ⟨t,e⟩:=h 0 v rfl
     have e':v=.str x t:=e
     subst e'
     exact .cons _ _ (ih (by simpa using hl) fun i u hu=>h (i + 1) u (by simpa using hu))
section
variable {prog:Program} {w:World} {A:Around} {E:Value→Shared→Prop} {s:Shared}
theorem sorted_dictS {d:Addr} {kvs:List (Key × Value)} {ss:List Str} {Q:Value→Shared→Prop} (hh:A.handled=none) (dd:s.heap.DictOf (mixKind prog w) d kvs) (lo:(d == sysModules)=false)
 (hk:kvs.map (·.1)=ss.map Sum.inr) (h64:ss.length < 64)
 (h:∀ (D:Addr) (h':Heap) (tk n:Nat) (out:List Value) (ss':List Str),(∀ b o,s.heap.get? b=some o→h'.get? b=some o)→(∀ b o,s.heap.get? b=some o→b≠D)→h'.get? D=some { cls:=.type "list",data:=.seq out.toArray n }→Vals (ss'.map V.str) out→ss'.Perm ss→sortedS ss'=true→Q (.ref D) { s with heap:=h',toks:=tk }) :
 wpAny (model prog w) A (call (.builtin "sorted") [.ref d]) Q E s:=by
 have hlk:kvs.length=ss.length:=by have:=congrArg List.length hk; simpa using this
 have hn:kvs.length≤sizeLine:=Nat.le_of_lt (small1000 (by omega))
 obtain ⟨ep,hat⟩:=dd.dictAt
 refine Calls.call_function_entry kind_sorted plain_sorted entry_sorted (args_sorted1 _) ?_
 unfold Builtin.«sorted»
 refine wpAny_bind (m:=checkCount "sorted" 1 1 _) (wpAny_pure ?_)
 refine wpAny_bind (PySem.W.kdu_collect (A:=A.in1) (PySem.W.kdl_dict (knd:=mixKind prog w) (kvs:=kvs) (ep:=ep) lo) hh hat hn fun h1 tk acc k1 hacc=>?_)
 have la:acc.toList.length=ss.length:=by rw [Array.length_toList,hacc.1,hlk]
 have hS:StrsAre acc.toList ss:=strs_of la fun i v hv=>by
  obtain ⟨k,x,e1,e2⟩:=hacc.2 i v (by rw [←Array.getElem?_toList]; exact hv)
  have e3:(kvs.map (·.1))[i]?=some k:=by rw [List.getElem?_map,e1]; rfl
  rw [hk,List.getElem?_map] at e3
  obtain ⟨z,e4,e5⟩:=Option.map_eq_some_iff.mp e3
  have e2':keyIs k v=true:=e2
  rw [←e5] at e2'
  obtain ⟨t,e6⟩:=Value.isStrOf_shape e2'
  exact ⟨t,by rw [e6,List.getD_eq_getElem?_getD,e4]; rfl⟩
 refine wpAny_bind (wpAny_newList ?_ (by rw [la]; exact Nat.le_of_lt (small1000 (by omega))))
 have hoL:(h1.push { cls:=.type "list",data:=.seq acc.toList.toArray }).get? h1.objs.size=some (seqObj "list" acc.toList.toArray 0):=Heap.get?_push_size _ rfl
 refine wpAny_bind (wpAny_holding (wpAny_call_entry slot_list_sort ⟨_,hoL,rfl⟩ entry_list_sort (list_sort_treeK strKind_oneLt hoL hS.keysOf (fun v₁ v₂ rest e=>keyKind_strs (by rw [←e]; exact hS)) (by rw [la]; exact h64) fun st' a1 a2=>⟨_,rfl,?_⟩) (args_list_sort _)))
 obtain ⟨ss',b1,b2,b3⟩:=sorted_out_str hS a1 a2
 obtain ⟨n,hg⟩:=sortedHeap_at (vs:=acc.toList) (out:=(arrOf st').map (·.2)) hoL
 have szle:∀ b o,s.heap.get? b=some o→b≠h1.objs.size:=fun b o e=>Nat.ne_of_lt (Heap.lt_size (k1 b o e))
 refine wpAny_pure ⟨_,rfl,h h1.objs.size _ tk n _ ss' (fun b o e=>?_) szle (by rw [Array.toArray_toList]; exact hg) (vals_of_strs b1) b2 b3⟩
 have hb:=Heap.lt_size (k1 b o e)
 rw [sortedHeap_old (Nat.ne_of_lt hb) (by rw [Heap.size_push]; exact Nat.lt_succ_of_lt hb)]
 exact Heap.get?_push_of_some _ (k1 b o e)
end
section
variable {X:Cx}
def rSortD:List V→Hp→VK→Prop:=fun vs H Q=>∃ (d:Addr) (kvs:List (Key × V)) (ss:List Str),vs=[.ref d]∧H d=some (.dK kvs)∧kvs.map (·.1)=ss.map Sum.inr∧ss.length < 64∧∀ D ss',ss'.Perm ss→sortedS ss'=true→H D=none→Q (.ref D) (upd H D (.lst (ss'.map V.str)))
theorem call_sortD (hc:X.calm=true):CallR X (.builtin "sorted") rSortD:=by
 intro pins s σ H vs us Q I r h
 obtain ⟨d,kvs,ss,rfl,hd,hk,h64,q⟩:=h
 obtain ⟨u,rfl,ru⟩:=vals1 r
 obtain rfl:u=Value.ref d:=ru
 obtain ⟨z,hm,ws,rel,dd⟩:=dk_of I.hok hd
 refine sorted_dictS (I.ok.hd hc) dd hm (ss:=ss) (by rw [←rel.keys]; exact hk) h64 fun D h' tk n out ss' kk hD hg rv hp hs=>?_
 have hlen:(ss'.map V.str).length≤sizeLine:=by rw [List.length_map,hp.length_eq]; exact Nat.le_of_lt (small1000 (by omega))
 exact ⟨.ref D,upd H D (.lst (ss'.map V.str)),I.laidN (t':=tk) kk hD ⟨hlen,out,n,rv,hg⟩,rfl,q D ss' hp hs (I.freshN hD)⟩
end
end L2
namespace HT
open PySem PyProof.Rows
section
open PySem.SeqAt
open PySem.AutoSeq1 (wpAny_loadPart')
open PySem.MeetsSeq PySem.MeetsSeq2 PySem.MeetsSeq3
end
section
variable {prog:Program} {w:World} {A:Around} {E:Value→Shared→Prop} {s:Shared}
end
end HT
namespace L2
open PySem PySem.Spec PyProof.Rows
section
variable {X:Cx}
theorem strsAre_of {ss:List Str}:∀ {us:List Value},Vals (ss.map V.str) us→StrsAre us ss:=by
 induction ss with
 | nil=>intro us h; cases h; exact .nil
 | cons x r ih =>
   intro us h
   cases h with
   | cons a b =>
     obtain ⟨t,rfl⟩:=a
     exact .cons _ _ (ih b)
def tRev (K:PySem.W.Frag) (te ts:TE):TE:=fun σ H Q=>te σ H fun x H1=>ts σ H1 fun y H2=>∃ (a:Addr) (xs:List V),x=.ref a∧y=.int (-1)∧SqL K H2 a xs∧∀ p,H2 p=none→Q (.ref p) (upd H2 p (.lst xs.reverse))
theorem pe_rev {e st:Expr} {te ts:TE} {p2 pos:Pos} (he:PE X e te) (hst:PE X st ts):PE X (.Subscript e (.Slice none none (some st) p2) pos) (tRev X.K te ts):=by
 intro pins s σ H Q I h
 refine Subscript_ (thn (he pins s σ H _ I h) fun v s1 ⟨x,H1,I1,r1,q1⟩=>?_)
 refine wpAny_Slice (thn (po_none pins s1 σ H1 _ I1 (show tNoPart σ H1 (fun l H2=>l=none∧H2=H1) from ⟨rfl,rfl⟩)) fun vl s2 ⟨l,H2,I2,pl,el,eH⟩=>thn (po_none pins s2 σ H2 _ I2 (show tNoPart σ H2 (fun l H3=>l=none∧H3=H2) from ⟨rfl,rfl⟩)) fun vu s3 ⟨u,H3,I3,pu,eu,eH'⟩=>?_)
 subst el; subst eu; subst eH; subst eH'
 rw [evalPart_some]
 refine thn (hst pins s3 σ _ _ I3 q1) fun vst s4 ⟨y,H4,I4,ry,a,xs,ex,ey,hx,q4⟩=>?_
 subst ex; subst ey
 obtain ⟨tk,rfl⟩:=ry
 cases r1
 have I5:Inv X pins σ H4 { s4 with heap:=s4.heap.push { cls:=.type "slice",data:=.fields #[vl,vu,.int (-1) tk] } }:=I4.kept (t':=s4.toks) fun b ob q=>Heap.get?_push_of_some _ q
 obtain ⟨its,r,ht,hz⟩:=I5.list hx
 have hlen:=r.length
 refine tail_any (ops:=[.ref a,.ref s4.heap.objs.size]) ht.isList.typeIs slot_list_getitem.lookup ?_ (by with_unfolding_all rfl)
 refine wpAny_getItem_list_slice ht.isList (Heap.IsSliceOf.new ..) pl pu (.int (-1) tk) (by simp) ?_ (by rw [List.size_toArray] <;> omega)
 rw [PySem.W.krv_pick]
 refine ⟨.ref _,_,I5.laid (t':=s4.toks) (o:=.lst xs.reverse) (fun b ob q=>Heap.get?_push_of_some _ q) (Nat.le_refl _) ?_,rfl,q4 _ (I5.hok.fresh (Nat.le_refl _))⟩
 exact ⟨by rw [List.length_reverse]; exact hz,_,0,r.reverse,Heap.get?_push_size _ rfl⟩
end
end L2
namespace L2
end L2
namespace KasM
open PySem PySem.W PyProof.Rows
set_option autoImplicit false
def Tw {α:Type} (lt:Nat→Nat→Bool) (n:Nat):KasT α→(α→Prop)→Prop
 | .ret a,Q=>Q a
 | .ask i j k,Q=>i < n∧j < n∧Tw lt n (k (lt i j)) Q
theorem Tw_bind {α β:Type} {lt:Nat→Nat→Bool} {n:Nat} {f:α→KasT β} {Q:β→Prop}:∀ (t:KasT α),Tw lt n t (fun a=>Tw lt n (f a) Q)→Tw lt n (t.bind f) Q
 | .ret _,h=>h
 | .ask _ _ k,⟨h1,h2,h3⟩=>⟨h1,h2,Tw_bind (k _) h3⟩
theorem Tw_mono {α:Type} {lt:Nat→Nat→Bool} {n:Nat} {Q Q':α→Prop} (hq:∀ a,Q a→Q' a):∀ (t:KasT α),Tw lt n t Q→Tw lt n t Q'
 | .ret a,h=>hq a h
 | .ask _ _ k,⟨h1,h2,h3⟩=>⟨h1,h2,Tw_mono hq (k _) h3⟩
theorem Tw_wp {α:Type} {lt:Nat→Nat→Bool} {n:Nat} {cmp:Nat→Nat→(Bool→Shared→Prop)→Shared→Prop} {s:Shared} {Q:α→Shared→Prop} (hc:∀ i j C,i < n→j < n→C (lt i j) s→cmp i j C s) :
 ∀ (t:KasT α),Tw lt n t (fun a=>Q a s)→t.kasWp cmp Q s
 | .ret _,h=>h
 | .ask _ _ k,⟨h1,h2,h3⟩=>hc _ _ _ h1 h2 (Tw_wp hc (k _) h3)
section
variable {O:KeyOrd} {key:Nat→O.α} {n:Nat}
def K (key:Nat→O.α) (p:Array Nat) (i:Nat):O.α:=key (p.getD i 0)
def Asc (key:Nat→O.α) (p:Array Nat) (k:Nat):Prop:=∀ i,i + 1 < k→O.kle (K key p i) (K key p (i + 1))
def Dsc (key:Nat→O.α) (p:Array Nat) (k:Nat):Prop:=∀ i,i + 1 < k→O.kle (K key p (i + 1)) (K key p i)
def Pm (n:Nat) (p:Array Nat):Prop:=p.Perm (List.range n).toArray
theorem Pm.size {p:Array Nat} (h:Pm n p):p.size=n:=by have:=h.size_eq; simpa using this
theorem Pm.lt {p:Array Nat} (h:Pm n p) (hn:0 < n) (i:Nat):p.getD i 0 < n:=by
 by_cases hi:i < p.size
 · have e:p.getD i 0=p[i]:=by simp [Array.getD,hi]
   rw [e]
   have:p[i]∈p:=Array.getElem_mem hi
   have h2:=h.mem_iff.mp this
   simpa using h2
 · have e:p.getD i 0=0:=by simp [Array.getD,hi]
   rw [e]; exact hn
theorem getD_rev {p:Array Nat} {i j:Nat} (hj:j≤p.size) (k:Nat):(kas_rev p i j).getD k 0=if i≤k∧k < j then p.getD (i + j - 1 - k) 0 else p.getD k 0:=by
 unfold kas_rev
 simp only [Array.getD_eq_getD_getElem?]
 rw [getElem?_mirror_all hj]
 split <;> rfl
theorem getD_bub {p:Array Nat} {k l:Nat} (hk:k < p.size) (hl:l≤k) (t:Nat):(bubble p k (k - l)).getD t 0=if t=l then p.getD k 0 else if l < t∧t≤k then p.getD (t - 1) 0 else p.getD t 0:=by
 simp only [Array.getD_eq_getD_getElem?]
 rw [getElem?_bubble hk _ (by omega)]
 rw [show k - (k - l)=l by omega]
 split
 · rfl
 · split <;> rfl
theorem Pm.rev {p:Array Nat} (h:Pm n p) (i j:Nat):Pm n (kas_rev p i j):=(mirror_perm _ _ _ _).trans h
theorem Pm.bub {p:Array Nat} (h:Pm n p) (i j:Nat):Pm n (bubble p i j):=(bubble_perm _ _ _).trans h
theorem K_rev {p:Array Nat} {i j:Nat} (hj:j≤p.size) (k:Nat):K key (kas_rev p i j) k=if i≤k∧k < j then K key p (i + j - 1 - k) else K key p k:=by
 unfold K; rw [getD_rev hj]; split <;> rfl
theorem K_rev_eq {p:Array Nat} {i j:Nat} (hj:j≤p.size) (he:∀ k,i≤k→k < j→K key p k=K key p (j - 1)) (k:Nat):K key (kas_rev p i j) k=K key p k:=by
 rw [K_rev hj]
 split
 · rw [he _ (by omega) (by omega),he k (by omega) (by omega)]
 · rfl
theorem K_bub {p:Array Nat} {k l:Nat} (hk:k < p.size) (hl:l≤k) (t:Nat):K key (bubble p k (k - l)) t=if t=l then K key p k else if l < t∧t≤k then K key p (t - 1) else K key p t:=by
 unfold K; rw [getD_bub hk hl]; split
 · rfl
 · split <;> rfl
theorem Asc.le {p:Array Nat} {k:Nat} (h:Asc key p k) {i:Nat}:∀ (d:Nat),i + d < k→O.kle (K key p i) (K key p (i + d))
 | 0,_=>KeyOrd.kle_refl _
 | d + 1,hd=>KeyOrd.kle_trans (h.le d (by omega)) (h (i + d) (by omega))
theorem Asc.le' {p:Array Nat} {k:Nat} (h:Asc key p k) {i j:Nat} (hij:i≤j) (hj:j < k):O.kle (K key p i) (K key p j):=by
 have:=h.le (i:=i) (j - i) (by omega)
 rwa [show i + (j - i)=j by omega] at this
abbrev lt (O:KeyOrd) (key:Nat→O.α) (i j:Nat):Bool:=O.blt (key i) (key j)
theorem asc_ok {p:Array Nat} (hp:Pm n p) (h0:0 < n):∀ (f a:Nat),1≤a→Tw (lt O key) n (kas_asc p f a) fun m=>a≤m∧m≤a + f∧(∀ i,a - 1≤i→i + 1 < m→O.kle (K key p i) (K key p (i + 1)))∧(m < a + f→O.klt (K key p m) (K key p (m - 1)))
 | 0,a,_=>⟨Nat.le_refl _,Nat.le_refl _,fun i h1 h2=>by omega,fun h=>by omega⟩
 | f + 1, a, ha => by
   refine ⟨hp.lt h0 _,hp.lt h0 _,?_⟩
   cases hc:lt O key (p.getD a 0) (p.getD (a - 1) 0) with
   | true =>
     simp only [if_true]
     exact ⟨Nat.le_refl _,by omega,fun i h1 h2=>by omega,fun _=>hc⟩
   | false =>
     simp only [Bool.false_eq_true,if_false]
     refine Tw_mono ?_ _ (asc_ok hp h0 f (a + 1) (by omega))
     rintro m ⟨h1,h2,h3,h4⟩
     refine ⟨by omega,by omega,fun i h5 h6=>?_,fun h=>h4 (by omega)⟩
     by_cases e:i=a - 1
     · subst e
       rw [show a - 1 + 1=a by omega]
       exact hc
     · exact h3 i (by omega) h6
theorem desc_ok (h0 : 0 < n) : ∀ (f : Nat) (p : Array Nat) (a q : Nat), Pm n p → a + f ≤ n → Dsc key p a → q + 1 ≤ a → (∀ k, a - (q + 1) ≤ k → k < a → K key p k = K key p (a - 1)) →
 Tw (lt O key) n (kas_desc f p a q) fun r=>Pm n r.1∧a≤r.2.1∧r.2.1≤a + f∧Dsc key r.1 r.2.1∧r.2.2 + 1≤r.2.1∧(∀ k,r.2.1 - (r.2.2 + 1)≤k→k < r.2.1→K key r.1 k=K key r.1 (r.2.1 - 1))
 | 0,p,a,q,hp,_,hd,hq,he=>⟨hp,Nat.le_refl _,Nat.le_refl _,hd,hq,he⟩
 | f + 1, p, a, q, hp, hf, hd, hq, he => by
   have hz:=hp.size
   refine ⟨hp.lt h0 _,hp.lt h0 _,?_⟩
   cases hc:lt O key (p.getD a 0) (p.getD (a - 1) 0) with
   | true =>
     have hc':O.klt (K key p a) (K key p (a - 1)):=hc
     have hd':Dsc key p (a + 1):=fun i hi=>by
      by_cases e:i + 1=a
      · rw [e]; have:i=a - 1:=by omega
        rw [this]; exact KeyOrd.kle_of_klt hc'
      · exact hd i (by omega)
     simp only [if_true]
     by_cases hq0:q > 0
     · rw [if_pos hq0]
       have kk:=K_rev_eq (key:=key) (p:=p) (i:=a - (q + 1)) (j:=a) (by omega) he
       refine Tw_mono ?_ _ (desc_ok h0 f _ (a + 1) 0 (hp.rev _ _) (by omega) (fun i hi=>by rw [kk,kk]; exact hd' i hi) (by omega) (fun k h1 h2=>by rw [show k=a + 1 - 1 by omega]))
       rintro r ⟨b1,b2,b3,b4,b5,b6⟩
       exact ⟨b1,by omega,by omega,b4,b5,b6⟩
     · rw [if_neg hq0]
       refine Tw_mono ?_ _ (desc_ok h0 f _ (a + 1) 0 hp (by omega) hd' (by omega) (fun k h1 h2=>by rw [show k=a + 1 - 1 by omega]))
       rintro r ⟨b1,b2,b3,b4,b5,b6⟩
       exact ⟨b1,by omega,by omega,b4,b5,b6⟩
   | false =>
     have hc':O.kle (K key p (a - 1)) (K key p a):=hc
     simp only [Bool.false_eq_true,if_false]
     refine ⟨hp.lt h0 _,hp.lt h0 _,?_⟩
     cases hc2:lt O key (p.getD (a - 1) 0) (p.getD a 0) with
     | true =>
       simp only [if_true]
       exact ⟨hp,Nat.le_refl _,Nat.le_add_right _ _,hd,hq,he⟩
     | false =>
       have hc2':O.kle (K key p a) (K key p (a - 1)):=hc2
       have ee:K key p a=K key p (a - 1):=KeyOrd.kle_antisymm hc2' hc'
       simp only [Bool.false_eq_true,if_false]
       refine Tw_mono ?_ _ (desc_ok h0 f _ (a + 1) (q + 1) hp (by omega) (fun i hi=>?_) (by omega) (fun k h1 h2=>?_))
       · rintro r ⟨b1,b2,b3,b4,b5,b6⟩
         exact ⟨b1,by omega,by omega,b4,b5,b6⟩
       · by_cases e:i + 1=a
         · rw [e]; have:i=a - 1:=by omega
           rw [this]; exact hc2'
         · exact hd i (by omega)
       · rw [show a + 1 - 1=a by omega]
         by_cases e:k=a
         · rw [e]
         · rw [he k (by omega) (by omega),ee]
abbrev Cnt (key:Nat→O.α) (n:Nat) (r:Nat × Array Nat):Prop:=Pm n r.2∧1≤r.1∧r.1≤n∧Asc key r.2 r.1
theorem tail3_ok (h0:0 < n) {p:Array Nat} {a:Nat} (hp:Pm n p) (h1:1≤a) (ha:a≤n) (hd:Dsc key p a):Tw (lt O key) n (kas_tail3 a n p) (Cnt key n):=by
 unfold kas_tail3
 have hz:=hp.size
 have kk:=K_rev (key:=key) (p:=p) (i:=0) (j:=a) (by omega)
 refine Tw_bind _ (Tw_mono ?_ _ (asc_ok (O:=O) (key:=key) (hp.rev 0 a) h0 (n - a) a h1))
 rintro m ⟨b1,b2,b3,_⟩
 refine ⟨hp.rev _ _,by show 1≤m; omega,by show m≤n; omega,fun i hi=>?_⟩
 have hi':i + 1 < m:=hi
 by_cases e:a - 1≤i
 · exact b3 i e hi'
 · show O.kle (K key (kas_rev p 0 a) i) (K key (kas_rev p 0 a) (i + 1))
   rw [kk,kk,if_pos (by omega),if_pos (by omega)]
   have:=hd (0 + a - 1 - (i + 1)) (by omega)
   rwa [show 0 + a - 1 - (i + 1) + 1=0 + a - 1 - i by omega] at this
theorem descPart_ok (h0:0 < n) {p:Array Nat} {a:Nat} (hp:Pm n p) (h1:1≤a) (ha:a + 1≤n) (hd:Dsc key p (a + 1)):Tw (lt O key) n (kas_descPart a n p) (Cnt key n):=by
 unfold kas_descPart
 refine Tw_bind _ (Tw_mono ?_ _ (desc_ok (O:=O) (key:=key) h0 (n - (a + 1)) p (a + 1) 0 hp (by omega) hd (by omega) (fun k h1 h2=>by rw [show k=a + 1 - 1 by omega])))
 rintro ⟨p',m,q⟩ ⟨b1,b2,b3,b4,b5,b6⟩
 dsimp only at b1 b2 b3 b4 b5 b6 ⊢
 have hz:=b1.size
 split
 · have kk:=K_rev_eq (key:=key) (p:=p') (i:=m - (q + 1)) (j:=m) (by omega) b6
   exact tail3_ok h0 (b1.rev _ _) (by omega) (by omega) fun i hi=>by rw [kk,kk]; exact b4 i hi
 · exact tail3_ok h0 b1 (by omega) (by omega) b4
theorem count_ok (h0 : 0 < n) {p : Array Nat} (hp : Pm n p) : Tw (lt O key) n (kas_count n p) (Cnt key n) := by
 unfold kas_count
 have hz:=hp.size
 refine Tw_bind _ (Tw_mono ?_ _ (asc_ok (O:=O) (key:=key) hp h0 (n - 1) 1 (Nat.le_refl _)))
 rintro m ⟨b1,b2,b3,b4⟩
 have asc:Asc key p m:=fun i hi=>b3 i (by omega) hi
 by_cases e1:(m == n)=true
 · rw [if_pos e1]
   exact ⟨hp,b1,by show m≤n; omega,asc⟩
 · rw [if_neg e1]
   have hlt:m < n:=by
    have:m≠n:=fun q=>e1 (by rw [q]; exact beq_self_eq_true _)
    omega
   have hk:=b4 (by omega)
   by_cases e2:m > 1
   · rw [if_pos e2]
     refine ⟨hp.lt h0 _,hp.lt h0 _,?_⟩
     cases hc:lt O key (p.getD 0 0) (p.getD (m - 1) 0) with
     | true =>
       simp only [if_true]
       exact ⟨hp,b1,by show m≤n; omega,asc⟩
     | false =>
       have hc':O.kle (K key p (m - 1)) (K key p 0):=hc
       simp only [Bool.false_eq_true,if_false]
       have he:∀ k,0≤k→k < m→K key p k=K key p (m - 1):=fun k _ h2 =>
        KeyOrd.kle_antisymm (asc.le' (by omega) (by omega)) (KeyOrd.kle_trans hc' (asc.le' (by omega) h2))
       have kk:=K_rev_eq (key:=key) (p:=p) (i:=0) (j:=m) (by omega) he
       refine descPart_ok h0 (hp.rev _ _) b1 (by omega) fun i hi=>?_
       rw [kk,kk]
       by_cases e:i + 1=m
       · rw [e,show i=m - 1 by omega]; exact KeyOrd.kle_of_klt hk
       · rw [he i (by omega) (by omega),he (i + 1) (by omega) (by omega)]; exact KeyOrd.kle_refl _
   · rw [if_neg e2]
     refine descPart_ok h0 hp b1 (by omega) fun i hi=>?_
     have:m=1:=by omega
     subst this
     obtain rfl:i=0:=by omega
     exact KeyOrd.kle_of_klt hk
theorem place_ok (h0:0 < n) {p:Array Nat} {k:Nat} (hp:Pm n p) (ha:Asc key p k):∀ (f l r:Nat),r - l≤f→l≤r→r≤k→(∀ i,i < l→O.kle (K key p i) (K key p k))→(∀ i,r≤i→i < k→O.klt (K key p k) (K key p i)) →
 Tw (lt O key) n (kas_place p k f l r) fun m=>m≤k∧(∀ i,i < m→O.kle (K key p i) (K key p k))∧(∀ i,m≤i→i < k→O.klt (K key p k) (K key p i))
 | 0,l,r,hf,hl,hr,h1,h2=>⟨by omega,h1,fun i a b=>h2 i (by omega) b⟩
 | f + 1, l, r, hf, hl, hr, h1, h2 => by
   unfold kas_place
   by_cases e:l ≥ r
   · rw [if_pos e]
     exact ⟨by omega,h1,fun i a b=>h2 i (by omega) b⟩
   · rw [if_neg e]
     refine ⟨hp.lt h0 _,hp.lt h0 _,?_⟩
     cases hc:lt O key (p.getD k 0) (p.getD ((l + r) / 2) 0) with
     | true =>
       have hc':O.klt (K key p k) (K key p ((l + r) / 2)):=hc
       simp only [if_true]
       exact place_ok h0 hp ha f l ((l + r) / 2) (by omega) (by omega) (by omega) h1 fun i a b=>KeyOrd.klt_of_klt_of_kle hc' (ha.le' a b)
     | false =>
       have hc':O.kle (K key p ((l + r) / 2)) (K key p k):=hc
       simp only [Bool.false_eq_true,if_false]
       exact place_ok h0 hp ha f ((l + r) / 2 + 1) r (by omega) (by omega) hr (fun i a=>KeyOrd.kle_trans (ha.le' (by omega) (by omega)) hc') h2
theorem bin_ok (h0:0 < n):∀ (f:Nat) (p:Array Nat) (k:Nat),Pm n p→k + f=n→Asc key p k→Tw (lt O key) n (kas_bin f p k) fun p'=>Pm n p'∧Asc key p' n
 | 0, p, k, hp, hk, ha => ⟨hp, by have : k = n := by omega
                                  rw [←this]; exact ha⟩
 | f + 1, p, k, hp, hk, ha => by
   have hz:=hp.size
   unfold kas_bin
   refine Tw_bind _ (Tw_mono ?_ _ (place_ok (O:=O) (key:=key) h0 hp ha k 0 k (by omega) (by omega) (Nat.le_refl _) (fun i h=>by omega) fun i a b=>by omega))
   rintro l ⟨b1,b2,b3⟩
   have kk:=K_bub (key:=key) (p:=p) (k:=k) (l:=l) (by omega) b1
   refine bin_ok h0 f _ (k + 1) (hp.bub _ _) (by omega) fun i hi=>?_
   rw [kk,kk]
   by_cases e1:i=l
   · rw [if_pos e1,if_neg (by omega)]
     by_cases e2:i + 1≤k
     · rw [if_pos (by omega)]
       exact KeyOrd.kle_of_klt (b3 (i + 1 - 1) (by omega) (by omega))
     · omega
   · rw [if_neg e1]
     by_cases e2:i + 1=l
     · rw [if_pos e2,if_neg (by omega)]
       exact b2 i (by omega)
     · rw [if_neg e2]
       by_cases e3:l < i
       · rw [if_pos (by omega),if_pos (by omega)]
         have:=ha (i - 1) (by omega)
         rwa [show i - 1 + 1=i + 1 - 1 by omega] at this
       · rw [if_neg (by omega),if_neg (by omega)]
         exact ha i (by omega)
theorem sort_ok (h0:0 < n):Tw (lt O key) n (kas_sort n) fun p=>Pm n p∧Asc key p n:=by
 unfold kas_sort
 refine Tw_bind _ (Tw_mono ?_ _ (count_ok (O:=O) (key:=key) h0 (Array.Perm.refl _)))
 rintro ⟨m,p⟩ ⟨b1,b2,b3,b4⟩
 dsimp only at b1 b2 b3 b4 ⊢
 split
 · rw [show max m 1=m by omega]
   exact bin_ok h0 _ _ _ b1 (by omega) b4
 · exact ⟨b1, by have : m = n := by omega
                 rw [←this]; exact b4⟩
end
end KasM
namespace L2
open PySem PySem.Spec PyProof.Rows
section
variable {prog:Program} {w:World} {A:Around} {E:Value→Shared→Prop} {s:Shared}
theorem list_sort_kas {O:KeyOrd} {key:Nat→O.α} {κ:SortKind} {a:Addr} {vs:List Value} {n:Nat} {P:PySem.Fin→Shared→Prop} (ho:s.heap.get? a=some (seqObj "list" vs.toArray n)) (h64:vs.length < 64)
 (hkind:2≤vs.length→∀ (h':Heap),(∀ b o,b≠a→s.heap.get? b=some o→h'.get? b=some o)→∀ (Q:SortKind→Shared→Prop),Q κ { s with heap:=h' }→wpAny (model prog w) A (keyKind' vs.toArray) Q (fun _ _=>False) { s with heap:=h' })
 (hcmp:∀ (h':Heap),(∀ b o,b≠a→s.heap.get? b=some o→h'.get? b=some o)→∀ (i j:Nat) (C:Bool→Shared→Prop),i < vs.length→j < vs.length→C (O.blt (key i) (key j)) { s with heap:=h' }→PySem.W.kas_ask prog w A κ vs i j C { s with heap:=h' })
 (h:∀ is:List Nat,is.Perm (List.range vs.length)→(∀ i,i + 1 < is.length→O.kle (key (is.getD i 0)) (key (is.getD (i + 1) 0)))→P (.done (.ret .none)) { s with heap:=sortedHeap s.heap a vs (is.map fun i=>vs.getD i Value.none).toArray }) :
 wpAny (model prog w) A (Builtin.«list.sort» ⟨[.ref a],[]⟩) P E s:=by
 rw [list_sort_plain]
 have ha:a < s.heap.objs.size:=Heap.lt_size ho
 have hsz:vs.toArray.size=vs.length:=by simp
 refine wpAny_bind (listItems_at ho rfl ?_)
 refine wpAny_bind (listUpdate_at ho rfl ?_ (by rw [List.size_toArray,sizeLine_eq]; omega) (Nat.zero_le _))
 obtain ⟨e1,ho1⟩:∃ e1,(s.heap.update a (Obj.mapSeq fun _=>#[])).get? a=some (seqObj "list" #[] e1):=⟨_,get?_update_seq ho (fun _=>#[])⟩
 refine wpAny_bind (seqEpoch_at ho1 rfl ?_)
 refine wpAny_bind (wpAny_newTuple ?_ (by show vs.length≤_; rw [sizeLine_eq]; omega))
 refine wpAny_bind (wpAny_newList ?_ (Nat.zero_le _))
 refine wpAny_holding ?_
 have ho6:(((s.heap.update a (Obj.mapSeq fun _=>#[])).push (seqObj "tuple" vs.toArray 0)).push (seqObj "list" #[] 0)).get? a=some (seqObj "list" #[] e1):=by
  rw [Heap.get?_push_ne _ _ _ (by rw [size_push',Heap.size_update]; exact Nat.ne_of_lt (Nat.lt_succ_of_lt ha)),Heap.get?_push_ne _ _ _ (by rw [Heap.size_update]; exact Nat.ne_of_lt ha)]
  exact ho1
 have keep:∀ b o,b≠a→s.heap.get? b=some o→(((s.heap.update a (Obj.mapSeq fun _=>#[])).push (seqObj "tuple" vs.toArray 0)).push (seqObj "list" #[] 0)).get? b=some o:=fun b o hb q=>by
  refine Heap.get?_push_of_some _ (Heap.get?_push_of_some _ ?_)
  rw [Heap.get?_update_ne _ _ _ _ hb]; exact q
 show wpAny (model prog w) A _ P E { s with heap:=((s.heap.update a (Obj.mapSeq fun _=>#[])).push (seqObj "tuple" vs.toArray 0)).push (seqObj "list" #[] 0) }
 dsimp only
 by_cases h2:vs.toArray.size < 2
 · rw [if_pos h2,if_pos h2]
   refine wpAny_bind (wpAny_pure ?_)
   rw [StateT.run_pure]
   refine wpAny_bind (wpAny_pure ?_)
   dsimp only
   refine wpAny_bind (seqEpoch_at ho6 rfl ?_)
   refine wpAny_bind (listUpdate_at ho6 rfl ?_ (Nat.zero_le _) (by rw [Array.size_map]; show (pairsOf vs).size≤_; rw [pairsOf_size,sizeLine_eq]; omega))
   simp only [bne_self_eq_false,Bool.false_eq_true,if_false]
   have:=h (List.range vs.length) (List.Perm.refl _) (fun i hi=>by rw [List.length_range] at hi; omega)
   have e:((List.range vs.length).map fun i=>vs.getD i Value.none).toArray=(arrOf (SortSt.mk' general' (vs.toArray.zip vs.toArray) #[] 7 none)).map (·.2):=by
    apply Array.toList_inj.mp
    show (List.range vs.length).map (fun i=>vs.getD i Value.none)=((vs.toArray.zip vs.toArray).map (·.2)).toList
    apply List.ext_getElem?
    intro k
    by_cases hk:k < vs.length
    · simp [hk,List.getD_eq_getElem?_getD]
    · simp [hk]
   rw [e] at this
   exact wpAny_pure this
 · rw [if_neg h2,if_neg h2]
   have h2':2≤vs.length:=by omega
   refine wpAny_bind (wpAny_mono (hkind h2' _ keep (fun κ' s'=>κ'=κ∧s'=_) ⟨rfl,rfl⟩) ?_ fun _ _ x=>x.elim)
   rintro κ' s' ⟨rfl,rfl⟩
   refine wpAny_bind (wpAny_mono (PySem.W.kat_run (Q:=fun st' s'=>∃ p:Array Nat,arrOf st'=p.map (PySem.W.kas_item (vs.toArray.zip vs.toArray))∧failedOf st'=none∧KasM.Pm vs.length p∧KasM.Asc key p vs.length∧s'={ s with heap:=((s.heap.update a (Obj.mapSeq fun _=>#[])).push (seqObj "tuple" vs.toArray 0)).push (seqObj "list" #[] 0) })
    (G:=fun p s'=>KasM.Pm vs.length p∧KasM.Asc key p vs.length∧s'={ s with heap:=((s.heap.update a (Obj.mapSeq fun _=>#[])).push (seqObj "tuple" vs.toArray 0)).push (seqObj "list" #[] 0) })
    rfl h2' h64 (fun p' st' s' a1 a2 a3 a4=>⟨p',a2,a3,a4.1,a4.2.1,a4.2.2⟩)
    (KasM.Tw_wp (lt:=KasM.lt O key) (n:=vs.length) (hcmp _ keep) _ (KasM.Tw_mono (fun p hp=>⟨hp.1,hp.2,rfl⟩) _ (KasM.sort_ok (O:=O) (key:=key) (by omega))))) ?_ fun _ _ e=>e)
   rintro ⟨⟨⟩,st'⟩ s' ⟨p,har,hf,hp,hasc,rfl⟩
   dsimp only
   have hout:=PySem.W.kat_snds (ks:=vs) (vs:=vs) rfl har
   rw [hout]
   refine wpAny_bind (seqEpoch_at ho6 rfl ?_)
   refine wpAny_bind (listUpdate_at ho6 rfl ?_ (Nat.zero_le _) (by rw [List.size_toArray,List.length_map,Array.length_toList,hp.size,sizeLine_eq]; omega))
   rw [hf]
   simp only [bne_self_eq_false,Bool.false_eq_true,if_false]
   refine wpAny_pure (h p.toList (by have:=Array.perm_iff_toList_perm.mp hp; simpa using this) fun i hi=>?_)
   have hz:=hp.size
   have:=hasc i (by simpa [hz] using hi)
   simpa [KasM.K,Array.getD_eq_getD_getElem?,List.getD_eq_getElem?_getD] using this
theorem sorted_kas {O:KeyOrd} {key:Nat→O.α} {κ:SortKind} {l:Addr} {vs:List Value} {Q:Value→Shared→Prop} (hl:s.heap.IsList l vs.toArray) (h64:vs.length < 64)
 (hkind:2≤vs.length→∀ (h':Heap),(∀ b o,s.heap.get? b=some o→h'.get? b=some o)→∀ (Q:SortKind→Shared→Prop),Q κ { s with heap:=h' }→wpAny (model prog w) A.in1.in1 (keyKind' vs.toArray) Q (fun _ _=>False) { s with heap:=h' })
 (hcmp:∀ (h':Heap),(∀ b o,s.heap.get? b=some o→h'.get? b=some o)→∀ (i j:Nat) (C:Bool→Shared→Prop),i < vs.length→j < vs.length→C (O.blt (key i) (key j)) { s with heap:=h' }→PySem.W.kas_ask prog w A.in1.in1 κ vs i j C { s with heap:=h' })
 (h:∀ (D:Addr) (h':Heap) (n:Nat) (is:List Nat),(∀ b o,s.heap.get? b=some o→h'.get? b=some o)→(∀ b o,s.heap.get? b=some o→b≠D)→is.Perm (List.range vs.length)→(∀ i,i + 1 < is.length→O.kle (key (is.getD i 0)) (key (is.getD (i + 1) 0))) →
  h'.get? D=some (seqObj "list" (is.map fun i=>vs.getD i Value.none).toArray n)→Q (.ref D) { s with heap:=h' }) :
 wpAny (model prog w) A (call (.builtin "sorted") [.ref l]) Q E s:=by
 refine Calls.call_function_entry kind_sorted plain_sorted entry_sorted (args_sorted1 _) ?_
 unfold Builtin.«sorted»
 refine wpAny_bind (m:=checkCount "sorted" 1 1 _) (wpAny_pure ?_)
 refine wpAny_bind (collect_list hl ?_ (by rw [sizeLine_eq]; omega))
 refine wpAny_bind (wpAny_newList ?_ (by rw [sizeLine_eq]; omega))
 have hsz:((s.heap.push (seqObj "list" #[] 0)).update s.heap.objs.size (Obj.mapSeq (·++vs.toArray))).objs.size=s.heap.objs.size + 1:=by
  rw [Heap.size_update,size_push']
 have hoL:(((s.heap.push (seqObj "list" #[] 0)).update s.heap.objs.size (Obj.mapSeq (·++vs.toArray))).push (seqObj "list" vs.toArray 0)).get? (s.heap.objs.size + 1)=some (seqObj "list" vs.toArray 0):=by
  rw [←hsz]; exact Heap.get?_push_size _ rfl
 have keep:∀ b o,s.heap.get? b=some o→(((s.heap.push (seqObj "list" #[] 0)).update s.heap.objs.size (Obj.mapSeq (·++vs.toArray))).push (seqObj "list" vs.toArray 0)).get? b=some o:=fun b o q=>by
  have hlt:b < s.heap.objs.size:=Heap.lt_size q
  rw [Heap.get?_push_ne _ _ _ (by rw [hsz]; exact Nat.ne_of_lt (Nat.lt_succ_of_lt hlt)),Heap.get?_update_ne _ _ _ _ (Nat.ne_of_lt hlt),Heap.get?_push_ne _ _ _ (Nat.ne_of_lt hlt)]
  exact q
 have szne:∀ b o,s.heap.get? b=some o→b≠s.heap.objs.size + 1:=fun b o q=>Nat.ne_of_lt (Nat.lt_succ_of_lt (Heap.lt_size q))
 show wpAny _ _ _ _ _ { s with heap:=((s.heap.push (seqObj "list" #[] 0)).update s.heap.objs.size (Obj.mapSeq (·++vs.toArray))).push (seqObj "list" vs.toArray 0) }
 rw [hsz]
 refine wpAny_bind (wpAny_holding (wpAny_call_entry slot_list_sort ⟨_,hoL,rfl⟩ entry_list_sort ?body (args_list_sort _)))
 case body =>
  refine list_sort_kas (s:={ s with heap:=((s.heap.push (seqObj "list" #[] 0)).update s.heap.objs.size (Obj.mapSeq (·++vs.toArray))).push (seqObj "list" vs.toArray 0) }) (key:=key) (κ:=κ) hoL h64
   (fun h2 h' k=>hkind h2 h' fun b o q=>k b o (szne b o q) (keep b o q)) (fun h' k=>hcmp h' fun b o q=>k b o (szne b o q) (keep b o q)) fun is hp hs=>?_
  obtain ⟨n,hg⟩:=sortedHeap_at (vs:=vs) (out:=(is.map fun i=>vs.getD i Value.none).toArray) hoL
  refine ⟨_,rfl,wpAny_pure ⟨_,rfl,h (s.heap.objs.size + 1) _ n is (fun b o q=>?_) szne hp hs hg⟩⟩
  show (sortedHeap (((s.heap.push (seqObj "list" #[] 0)).update s.heap.objs.size (Obj.mapSeq (·++vs.toArray))).push (seqObj "list" vs.toArray 0)) (s.heap.objs.size + 1) vs _).get? b=some o
  rw [sortedHeap_old (szne b o q) (Heap.lt_size (keep b o q))]
  exact keep b o q
end
end L2
namespace L2
open PySem PySem.Spec PyProof.Rows
@[reducible] def lexO (O P:KeyOrd):KeyOrd where
 α:=O.α × P.α
 blt x y:=O.blt x.1 y.1 || (!O.blt y.1 x.1 && P.blt x.2 y.2)
 irrefl x:=by simp [O.irrefl,P.irrefl]
 trans x y z h1 h2:=by
  simp only [Bool.or_eq_true,Bool.and_eq_true,Bool.not_eq_true'] at h1 h2 ⊢
  rcases h1 with h1 | ⟨h1,k1⟩ <;> rcases h2 with h2 | ⟨h2,k2⟩
  · exact .inl (O.trans _ _ _ h1 h2)
  · exact .inl (KeyOrd.klt_of_klt_of_kle h1 h2)
  · exact .inl (KeyOrd.klt_of_kle_of_klt h1 h2)
  · exact .inr ⟨KeyOrd.kle_trans (O:=O) h1 h2,P.trans _ _ _ k1 k2⟩
 negTrans x y z h:=by
  simp only [Bool.or_eq_true,Bool.and_eq_true,Bool.not_eq_true'] at h ⊢
  rcases h with h | ⟨h,k⟩
  · rcases O.negTrans _ y.1 _ h with h | h
    · exact .inl (.inl h)
    · exact .inr (.inl h)
  · cases e1:O.blt x.1 y.1 with
    | true=>exact .inl (.inl rfl)
    | false =>
      cases e2:O.blt y.1 z.1 with
      | true=>exact .inr (.inl rfl)
      | false =>
        have a1:O.kle y.1 x.1:=e1
        have a2:O.kle z.1 y.1:=e2
        have a3:O.kle x.1 z.1:=h
        have b1:O.blt y.1 x.1=false:=KeyOrd.kle_trans (O:=O) a3 a2
        have b2:O.blt z.1 y.1=false:=KeyOrd.kle_trans (O:=O) a1 a3
        rcases P.negTrans _ y.2 _ k with k | k
        · exact .inl (.inr ⟨b1,k⟩)
        · exact .inr (.inr ⟨b2,k⟩)
 total x y h1 h2:=by
  simp only [Bool.or_eq_false_iff,Bool.and_eq_false_iff,Bool.not_eq_false'] at h1 h2
  have e1:x.1=y.1:=O.total _ _ h1.1 h2.1
  have e2:x.2=y.2:=P.total _ _ (by rcases h1.2 with z | z; exact absurd (h2.1.symm.trans z) (by simp); exact z) (by rcases h2.2 with z | z; exact absurd (h1.1.symm.trans z) (by simp); exact z)
  exact Prod.ext e1 e2
@[reducible] def strO:KeyOrd where
 α:=Str
 blt a b:=decide (a.cps.toList < b.cps.toList)
 irrefl a:=by simpa using List.lt_irrefl a.cps.toList
 trans a b c h1 h2:=by simp only [decide_eq_true_eq] at *; exact List.lt_trans h1 h2
 negTrans a b c h:=by
  simp only [decide_eq_true_eq] at *
  by_cases hab:a.cps.toList < b.cps.toList
  · exact .inl hab
  · exact .inr (List.lt_of_le_of_lt (List.not_lt.mp hab) h)
 total a b h1 h2:=by simp only [decide_eq_false_iff_not] at *; exact ext_toList (List.le_antisymm (List.not_lt.mp h2) (List.not_lt.mp h1))
@[reducible] def intO:KeyOrd where
 α:=Int
 blt a b:=decide (a < b)
 irrefl a:=by simp
 trans a b c h1 h2:=by simp only [decide_eq_true_eq] at *; omega
 negTrans a b c h:=by simp only [decide_eq_true_eq] at *; omega
 total a b h1 h2:=by simp only [decide_eq_false_iff_not] at *; omega
structure Col where
 O:KeyOrd
 val:O.α→V
 dflt:O.α
 T:Value
 tT:(T == T)=true
 tN:(T != Value.type "tuple")=true
 look:∀ (M:Model) (h:Heap) (a:O.α) (u:Value),RelV (val a) u→PySem.W.Looks M h (typeOf u) T
 eqB:∀ (prog:Program) (w:World) (A:Around) (E:Value→Shared→Prop) (s:Shared) (a b:O.α) (u v:Value) (Q:Bool→Shared→Prop),RelV (val a) u→RelV (val b) v→(∀ e:Bool,(e=true↔a=b)→Q e s)→wpAny (model prog w) A (eqBool u v) Q E s
 ltB:∀ (prog:Program) (w:World) (A:Around) (E:Value→Shared→Prop) (s:Shared) (a b:O.α) (u v:Value) (Q:Bool→Shared→Prop),RelV (val a) u→RelV (val b) v→Q (O.blt a b) s→wpAny (model prog w) A (oneLt' true u v) Q E s
 ltC:∀ (prog:Program) (w:World) (A:Around) (E:Value→Shared→Prop) (s:Shared) (a b:O.α) (u v:Value) (Q:Bool→Shared→Prop),RelV (val a) u→RelV (val b) v→Q (O.blt a b) s→wpAny (model prog w) A (oneLt' false u v) Q E s
@[reducible] def strC:Col where
 O:=strO
 val:=V.str
 dflt:=default
 T:=.type "str"
 tT:=by decide
 tN:=by decide
 look M h a u r:=by obtain ⟨t,rfl⟩:=r; exact PySem.W.Looks.of_pure rfl
 eqB prog w A E s a b u v Q r r' h:=by
  obtain ⟨t,rfl⟩:=r; obtain ⟨t',rfl⟩:=r'
  exact eqBool_str (h _ (by simp))
 ltB prog w A E s a b u v Q r r' h:=by
  obtain ⟨t,rfl⟩:=r; obtain ⟨t',rfl⟩:=r'
  exact oneLt_str h
 ltC prog w A E s a b u v Q r r' h:=by
  obtain ⟨t,rfl⟩:=r; obtain ⟨t',rfl⟩:=r'
  exact PySem.W.kat_one _ _ (PySem.P.lt_str h)
@[reducible] def intC:Col where
 O:=intO
 val:=V.int
 dflt:=0
 T:=.type "int"
 tT:=by decide
 tN:=by decide
 look M h a u r:=by obtain ⟨t,rfl⟩:=r; exact PySem.W.Looks.of_pure rfl
 eqB prog w A E s a b u v Q r r' h:=by
  obtain ⟨t,rfl⟩:=r; obtain ⟨t',rfl⟩:=r'
  exact wpAny_eqBool_int (h _ (by simp))
 ltB prog w A E s a b u v Q r r' h:=by
  obtain ⟨t,rfl⟩:=r; obtain ⟨t',rfl⟩:=r'
  exact oneLt_int h
 ltC prog w A E s a b u v Q r r' h:=by
  obtain ⟨t,rfl⟩:=r; obtain ⟨t',rfl⟩:=r'
  exact PySem.W.kat_one _ _ (PySem.P.lt_int h)
theorem lexO_eq {c d:Col} (x y:(lexO c.O d.O).α) (e:x.1=y.1):(lexO c.O d.O).blt x y=d.O.blt x.2 y.2:=by
 show (c.O.blt x.1 y.1 || (!c.O.blt y.1 x.1 && d.O.blt x.2 y.2))=_
 rw [e,c.O.irrefl]; rfl
theorem lexO_ne {c d:Col} (x y:(lexO c.O d.O).α) (e:x.1≠y.1):(lexO c.O d.O).blt x y=c.O.blt x.1 y.1:=by
 show (c.O.blt x.1 y.1 || (!c.O.blt y.1 x.1 && d.O.blt x.2 y.2))=_
 cases h1:c.O.blt x.1 y.1 with
 | true=>rfl
 | false =>
   cases h2:c.O.blt y.1 x.1 with
   | true=>rfl
   | false=>exact absurd (c.O.total _ _ h1 h2) e
section
variable {prog:Program} {w:World} {A:Around} {E:Value→Shared→Prop} {s:Shared}
theorem cmp_rowP (c d:Col) {x y:Addr} {p q:(lexO c.O d.O).α} {u1 u2 v1 v2:Value} {Q:Bool→Shared→Prop} (hx:IsTup s.heap x #[u1,u2]) (hy:IsTup s.heap y #[v1,v2]) (r1:RelV (c.val p.1) u1) (r2:RelV (d.val p.2) u2) (s1:RelV (c.val q.1) v1) (s2:RelV (d.val q.2) v2)
 (h:Q ((lexO c.O d.O).blt p q) s):wpAny (model prog w) A (keyLt' (tuples' true) (.ref x) (.ref y)) Q E s:=by
 obtain ⟨ox,hox,_,n,dx⟩:=hx
 obtain ⟨oy,hoy,_,m,dy⟩:=hy
 refine PySem.W.kat_lt hox dx hoy dy (PySem.W.kat_cons (c.eqB _ _ _ _ _ _ _ _ _ _ r1 s1 fun e he=>?_))
 cases e with
 | false =>
   have hne:p.1≠q.1:=fun z=>Bool.false_ne_true (he.mpr z)
   rw [lexO_ne _ _ hne] at h
   exact PySem.W.kat_no (c.ltB _ _ _ _ _ _ _ _ _ _ r1 s1 h)
 | true =>
   rw [lexO_eq _ _ (he.mp rfl)] at h
   refine PySem.W.kat_yes (PySem.W.kat_cons (d.eqB _ _ _ _ _ _ _ _ _ _ r2 s2 fun e he=>?_))
   cases e with
   | false=>exact PySem.W.kat_no (d.ltC _ _ _ _ _ _ _ _ _ _ r2 s2 h)
   | true =>
     refine PySem.W.kat_yes (PySem.W.kat_nil ?_)
     rw [he.mp rfl,d.O.irrefl] at h
     exact h
end
theorem pairwise_of_steps {α:Type} {R:α→α→Prop} (tr:∀ a b c,R a b→R b c→R a c):∀ (l:List α),(∀ i a b,l[i]?=some a→l[i + 1]?=some b→R a b)→l.Pairwise R
 | [],_=>.nil
 | [x],_=>by simp
 | x :: y :: r,h=>by
   have ih:=pairwise_of_steps tr (y :: r) fun i a b h1 h2=>h (i + 1) a b (by simpa using h1) (by simpa using h2)
   have hxy:R x y:=h 0 x y rfl rfl
   refine List.pairwise_cons.mpr ⟨fun z hz=>?_,ih⟩
   rcases List.mem_cons.mp hz with e | hz
   · rw [e]; exact hxy
   · exact tr _ _ _ hxy ((List.pairwise_cons.mp ih).1 z hz)
section
variable {X:Cx}
abbrev Row (c d:Col):Type:=V × (lexO c.O d.O).α
def rSortP (X:Cx) (c d:Col):List V→Hp→VK→Prop:=fun vs H Q=>∃ (l:Addr) (zs:List (Row c d)),vs=[.ref l]∧SqL X.K H l (zs.map (·.1))∧zs.length < 64 ∧
 (∀ z∈zs,∃ t,z.1=.ref t∧SqT X.K H t [c.val z.2.1,d.val z.2.2])∧∀ (D:Addr) (zs':List (Row c d)),zs'.Perm zs→(zs'.map (·.2)).Pairwise (lexO c.O d.O).kle→H D=none→Q (.ref D) (upd H D (.lst (zs'.map (·.1))))
def HR (c d:Col) (h:Heap) (z:Row c d) (v:Value):Prop:=∃ t u1 u2,z.1=.ref t∧v=.ref t∧IsTup h t #[u1,u2]∧RelV (c.val z.2.1) u1∧RelV (d.val z.2.2) u2
theorem HR.keeps {c d:Col} {h h':Heap} {z:Row c d} {v:Value} (k:∀ b o,h.get? b=some o→h'.get? b=some o) (x:HR c d h z v):HR c d h' z v:=by
 obtain ⟨t,u1,u2,a1,a2,a3,a4⟩:=x
 exact ⟨t,u1,u2,a1,a2,a3.keeps k,a4⟩
theorem hr_tups {c d:Col} {h:Heap} (zs:List (Row c d)) (its:List Value) (hp:Paired (HR c d h) zs its):∃ fs,PySem.W.KatTups h its fs∧fs.length=zs.length∧∀ v∈fs,∃ a,RelV (c.val a) v:=by
 induction hp with
 | nil=>exact ⟨[],.nil,rfl,fun _ x=>by cases x⟩
 | cons hx r ih =>
   obtain ⟨t,u1,u2,a1,a2,⟨o,b1,b2,n,b3⟩,a4,a5⟩:=hx
   obtain ⟨fs,k1,k2,k3⟩:=ih
   subst a2
   refine ⟨u1 :: fs,.cons b1 b2 b3 rfl k1,by simp [k2],fun v hv=>?_⟩
   rcases List.mem_cons.mp hv with e | hv
   · exact ⟨_,e ▸ a4⟩
   · exact k3 v hv
theorem paired_at {α β:Type} {R:α→β→Prop} {xs:List α} {ys:List β} (h:Paired R xs ys):∀ (i:Nat) (dx:α) (dy:β),i < xs.length→R (xs.getD i dx) (ys.getD i dy):=by
 induction h with
 | nil=>intro i dx dy h; simp at h
 | cons a r ih =>
   intro i dx dy h
   cases i with
   | zero=>exact a
   | succ i=>simpa using ih i dx dy (by simpa using h)
theorem paired_map {α β γ:Type} {R:α→β→Prop} {f:γ→α} {g:γ→β}:∀ (l:List γ),(∀ x∈l,R (f x) (g x))→Paired R (l.map f) (l.map g)
 | [],_=>.nil
 | x :: l,h=>.cons (h x List.mem_cons_self) (paired_map l fun y hy=>h y (List.mem_cons_of_mem _ hy))
theorem hr_of {c d:Col} {pins:List (Addr × Obj)} {σ:L2.St} {H:Hp} {s:Shared} (I:Inv X pins σ H s):∀ (zs:List (Row c d)) (its:List Value),Vals (zs.map (·.1)) its→(∀ z∈zs,∃ t,z.1=.ref t∧SqT X.K H t [c.val z.2.1,d.val z.2.2])→Paired (HR c d s.heap) zs its
 | [],its,r,_=>by cases r; exact .nil
 | z :: zs, its, r, h => by
   cases r with
   | cons a b =>
     obtain ⟨t,e,sq⟩:=h z List.mem_cons_self
     obtain ⟨us,r1,it,_⟩:=I.tuple sq
     cases r1 with
     | cons r1 r2 =>
       cases r2 with
       | cons r2 r3 =>
         cases r3
         dsimp only at a
         rw [e] at a
         exact .cons ⟨t,_,_,e,a,it,r1,r2⟩ (hr_of I zs _ b fun y hy=>h y (List.mem_cons_of_mem _ hy))
theorem call_sortP (c d:Col):CallR X (.builtin "sorted") (rSortP X c d):=by
 intro pins s σ H vs us Q I r h
 obtain ⟨l,zs,rfl,hl,h64,hr,q⟩:=h
 obtain ⟨u,rfl,ru⟩:=vals1 r
 obtain rfl:u=Value.ref l:=ru
 obtain ⟨its,ri,pl,_⟩:=I.list hl
 have hp:=hr_of I zs its ri hr
 have hlen:zs.length=its.length:=hp.length
 let dz:Row c d:=(V.non,(c.dflt,d.dflt))
 refine sorted_kas (O:=lexO c.O d.O) (key:=fun i=>(zs.getD i dz).2) (κ:=tuples' true) (vs:=its) (by obtain ⟨o,n,a1,a2,a3,a4⟩:=pl; exact ⟨o,a1,a2,n,a4⟩) (by omega) (fun h2 h' k Q' hq=>?_) (fun h' k i j C hi hj hC=>?_) fun D h' n is kk hD hpm hst hg=>?_
 · have hp':Paired (HR c d h') zs its:=Paired.mapP hp fun _ _ x=>x.keeps k
   obtain ⟨fs,k1,k2,k3⟩:=hr_tups _ _ hp'
   refine PySem.W.kat_kind (T:=c.T) k1 (by omega) (fun v hv=>?_) c.tT (by rw [c.tN]; exact hq)
   obtain ⟨a,ha⟩:=k3 v hv
   exact c.look _ _ a v ha
 · obtain ⟨t,u1,u2,a1,a2,a3,a4,a5⟩:=(paired_at hp i dz Value.none (by omega)).keeps k
   obtain ⟨t',v1,v2,b1,b2,b3,b4,b5⟩:=(paired_at hp j dz Value.none (by omega)).keeps k
   unfold PySem.W.kas_ask
   rw [a2,b2]
   exact cmp_rowP c d a3 b3 a4 a5 b4 b5 hC
 · have hin:∀ i∈is,i < zs.length:=fun i hi=>by
    have:=hpm.mem_iff.mp hi
    rw [hlen]; simpa using this
   have hrange:(List.range zs.length).map (fun i=>zs.getD i dz)=zs:=by
    apply List.ext_getElem?
    intro k
    by_cases hk:k < zs.length
    · simp [hk,List.getD_eq_getElem?_getD]
    · simp [hk]
   have hperm:(is.map fun i=>zs.getD i dz).Perm zs:=by
    have:=hpm.map (fun i=>zs.getD i dz)
    rwa [←hlen,hrange] at this
   have hv:Vals ((is.map fun i=>zs.getD i dz).map (·.1)) (is.map fun i=>its.getD i Value.none):=by
    rw [List.map_map]
    refine paired_map is fun i hi=>?_
    obtain ⟨t,u1,u2,a1,a2,_⟩:=paired_at hp i dz Value.none (hin i hi)
    show RelV (zs.getD i dz).1 (its.getD i Value.none)
    rw [a1,a2]; exact rfl
   have hpw:((is.map fun i=>zs.getD i dz).map (·.2)).Pairwise (lexO c.O d.O).kle:=by
    refine pairwise_of_steps (fun _ _ _=>KeyOrd.kle_trans) _ fun i a b h1 h2=>?_
    rw [List.map_map,List.getElem?_map,Option.map_eq_some_iff] at h1 h2
    obtain ⟨x,e1,rfl⟩:=h1
    obtain ⟨y,e2,rfl⟩:=h2
    obtain ⟨hlt,_⟩:=List.getElem?_eq_some_iff.mp e2
    have:=hst i hlt
    have g1:is.getD i 0=x:=by rw [List.getD_eq_getElem?_getD,e1]; rfl
    have g2:is.getD (i + 1) 0=y:=by rw [List.getD_eq_getElem?_getD,e2]; rfl
    rw [g1,g2] at this
    exact this
   exact ⟨.ref D,upd H D (.lst ((is.map fun i=>zs.getD i dz).map (·.1))),I.laidN (t':=s.toks) kk hD ⟨by rw [List.length_map,hperm.length_eq]; exact Nat.le_of_lt (small1000 (by omega)),_,n,hv,hg⟩,rfl,q D _ hperm hpw (I.freshN hD)⟩
end
end L2
namespace L2
open PySem PySem.Spec PyProof.Rows Ord
abbrev goD (p:Str × Int):Dt:=.tup [.str p.1,.int p.2]
abbrev Stt:Type:=List (Str × Int) × List Str
abbrev stD (s:Stt):Dt:=.tup [.lst (s.1.map goD),.lst (s.2.map Dt.str)]
def Goes (K:PySem.W.Frag) (H:Hp) (a:Addr) (gs:List (Str × Int)):Prop:=∃ vs,SqL K H a vs∧IsDts K H vs (gs.map goD)
def Stts (K:PySem.W.Frag) (H:Hp) (a:Addr) (ss:List Stt):Prop:=∃ vs,SqL K H a vs∧IsDts K H vs (ss.map stD)
theorem Goes.same {K:PySem.W.Frag} {H H':Hp} {a:Addr} {gs:List (Str × Int)} (e:Same H H') (h:Goes K H a gs):Goes K H' a gs:=by
 obtain ⟨vs,h1,h2⟩:=h
 exact ⟨vs,e.seq h1,h2.same e⟩
theorem Stts.same {K:PySem.W.Frag} {H H':Hp} {a:Addr} {ss:List Stt} (e:Same H H') (h:Stts K H a ss):Stts K H' a ss:=by
 obtain ⟨vs,h1,h2⟩:=h
 exact ⟨vs,e.seq h1,h2.same e⟩
theorem strs_dts {K:PySem.W.Frag} {H:Hp}:∀ {vs:List V} {xs:List Str},IsDts K H vs (xs.map Dt.str)→vs=xs.map V.str
 | _,[],.nil=>rfl
 | _,_ :: _,.cons h t=>by cases h; rw [strs_dts t]; rfl
theorem go_at {K:PySem.W.Frag} {H:Hp} {v:V} {p:Str × Int} (h:IsDt K H v (goD p)):∃ t,v=.ref t∧SqT K H t [.str p.1,.int p.2]:=by
 cases h with
 | tup h t =>
   cases t with
   | cons h1 t =>
     cases t with
     | cons h2 t =>
       cases t
       cases h1; cases h2
       exact ⟨_,rfl,h⟩
theorem IsDts.goes_get {K:PySem.W.Frag} {H:Hp} {vs:List V} {gs:List (Str × Int)} (h:IsDts K H vs (gs.map goD)) {i:Nat} {v:V} (hv:vs[i]?=some v):∃ p t,gs[i]?=some p∧v=.ref t∧SqT K H t [.str p.1,.int p.2]:=by
 obtain ⟨d,hd,hi⟩:=h.get hv
 rw [List.getElem?_map] at hd
 cases e:gs[i]? with
 | none=>rw [e] at hd; cases hd
 | some p =>
   rw [e] at hd
   cases hd
   obtain ⟨t,h1,h2⟩:=go_at hi
   exact ⟨p,t,rfl,h1,h2⟩
theorem st_at {K:PySem.W.Frag} {H:Hp} {v:V} {s:Stt} (h:IsDt K H v (stD s)):∃ t g e,v=.ref t∧SqT K H t [.ref g,.ref e]∧Goes K H g s.1∧SqL K H e (s.2.map V.str):=by
 cases h with
 | tup h t =>
   cases t with
   | cons h1 t =>
     cases t with
     | cons h2 t =>
       cases t
       cases h1 with
       | lst a1 b1 =>
         cases h2 with
         | lst a2 b2 =>
           rw [strs_dts b2] at a2
           exact ⟨_,_,_,rfl,h,⟨_,a1,b1⟩,a2⟩
theorem IsDts.sts_get {K:PySem.W.Frag} {H:Hp} {vs:List V} {ss:List Stt} (h:IsDts K H vs (ss.map stD)) {i:Nat} {v:V} (hv:vs[i]?=some v) :
 ∃ s t g e,ss[i]?=some s∧v=.ref t∧SqT K H t [.ref g,.ref e]∧Goes K H g s.1∧SqL K H e (s.2.map V.str):=by
 obtain ⟨d,hd,hi⟩:=h.get hv
 rw [List.getElem?_map] at hd
 cases e:ss[i]? with
 | none=>rw [e] at hd; cases hd
 | some p =>
   rw [e] at hd
   cases hd
   obtain ⟨t,g,e,h1,h2,h3,h4⟩:=st_at hi
   exact ⟨p,t,g,e,rfl,h1,h2,h3,h4⟩
theorem IsDts.len_map {K:PySem.W.Frag} {H:Hp} {α:Type} {f:α→Dt} {vs:List V} {xs:List α} (h:IsDts K H vs (xs.map f)):vs.length=xs.length:=by
 have:=h.length
 rwa [List.length_map] at this
def StE (K:PySem.W.Frag) (H:Hp) (a:Addr) (ss:List Stt):Prop:=∃ vs,SqL K H a vs∧vs.length=ss.length∧∀ (i:Nat) (v:V) (s:Stt),vs[i]?=some v→ss[i]?=some s→∃ t g e,v=.ref t∧SqT K H t [.ref g,.ref e]∧Goes K H g s.1∧H e=some (.lst (s.2.map V.str))
structure Fits (ss:List Stt):Prop where
 n:ss.length≤8
 gs:∀ s∈ss,s.1.length≤8
 es:∀ s∈ss,s.2.length≤8
def labelsOf (ss:List Stt):List Str:=ss.flatMap fun s=>s.1.map (·.1)++s.2
def labelsP (ps:List (Str × Str)):List Str:=ps.flatMap fun p=>[p.1,p.2]
theorem labelsOf_snoc (ss:List Stt) (s:Stt):labelsOf (ss++[s])=(labelsOf ss++s.1.map (·.1))++s.2:=by
 unfold labelsOf; rw [List.flatMap_append]; simp
theorem labelsP_snoc (ps:List (Str × Str)) (p:Str × Str):labelsP (ps++[p])=(labelsP ps++[p.1])++[p.2]:=by
 unfold labelsP; rw [List.flatMap_append]; simp
theorem labelsOf_len:∀ (ss:List Stt),(∀ s∈ss,s.1.length≤8)→(∀ s∈ss,s.2.length≤8)→(labelsOf ss).length≤16 * ss.length
 | [],_,_=>Nat.le_refl _
 | s :: r,h1,h2=>by
   have ih:=labelsOf_len r (fun x hx=>h1 x (List.mem_cons_of_mem _ hx)) (fun x hx=>h2 x (List.mem_cons_of_mem _ hx))
   have a1:=h1 s List.mem_cons_self
   have a2:=h2 s List.mem_cons_self
   unfold labelsOf at ih ⊢
   rw [List.flatMap_cons,List.length_append,List.length_append,List.length_map,List.length_cons]
   omega
theorem labelsP_len:∀ (ps:List (Str × Str)),(labelsP ps).length=2 * ps.length
 | []=>rfl
 | p :: r=>by
   have ih:=labelsP_len r
   unfold labelsP at ih ⊢
   rw [List.flatMap_cons,List.length_append,ih,List.length_cons]
   simp; omega
theorem kind_strs2 {its:List Value} {ss:List Str} (hS:StrsAre its ss) (h2:2≤its.length):keyKind' its.toArray=pure oneType':=by
 match its,hS,h2 with
 | [],_,h2=>simp at h2
 | [_],_,h2=>simp at h2
 | v₁ :: v₂ :: rest,hS,_=>exact keyKind_strs hS
section
variable {X:Cx}
def rSortS (X:Cx):List V→Hp→VK→Prop:=fun vs H Q=>∃ (l:Addr) (ss:List Str),vs=[.ref l]∧SqL X.K H l (ss.map V.str)∧ss.length < 64∧∀ (D:Addr) (ss':List Str),ss'.Perm ss→ss'.Pairwise strO.kle→H D=none→Q (.ref D) (upd H D (.lst (ss'.map V.str)))
theorem call_sortS:CallR X (.builtin "sorted") (rSortS X):=by
 intro pins s σ H vs us Q I r h
 obtain ⟨l,ss,rfl,hl,h64,q⟩:=h
 obtain ⟨u,rfl,ru⟩:=vals1 r
 obtain rfl:u=Value.ref l:=ru
 obtain ⟨its,ri,pl,_⟩:=I.list hl
 have hS:=strsAre_of ri
 have hlen:ss.length=its.length:=by have:=ri.length; rwa [List.length_map] at this
 have hat:∀ i,i < ss.length→∃ t,its.getD i Value.none=.str (ss.getD i default) t:=fun i hi=>by
  have:=paired_at ri i V.non Value.none (by rw [List.length_map]; exact hi)
  have e:(ss.map V.str).getD i V.non=V.str (ss.getD i default):=by
   rw [List.getD_eq_getElem?_getD,List.getElem?_map,List.getD_eq_getElem?_getD,List.getElem?_eq_getElem hi]; rfl
  rw [e] at this
  exact this
 refine sorted_kas (O:=strO) (key:=fun i=>ss.getD i default) (κ:=oneType') (vs:=its) pl.isList (by omega) (fun h2 h' k Q' hq=>?_) (fun h' k i j C hi hj hC=>?_) fun D h' n is kk hD hpm hst hg=>?_
 · rw [kind_strs2 hS h2]
   exact wpAny_pure hq
 · obtain ⟨t,e1⟩:=hat i (by omega)
   obtain ⟨t',e2⟩:=hat j (by omega)
   unfold PySem.W.kas_ask
   rw [e1,e2,keyLt'_oneType]
   exact oneLt_str hC
 · have hin:∀ i∈is,i < ss.length:=fun i hi=>by
    have:=hpm.mem_iff.mp hi
    rw [hlen]; simpa using this
   have hrange:(List.range ss.length).map (fun i=>ss.getD i default)=ss:=by
    apply List.ext_getElem?
    intro k
    by_cases hk:k < ss.length
    · simp [hk,List.getD_eq_getElem?_getD]
    · simp [hk]
   have hperm:(is.map fun i=>ss.getD i default).Perm ss:=by
    have:=hpm.map (fun i=>ss.getD i default)
    rwa [←hlen,hrange] at this
   have hv:Vals ((is.map fun i=>ss.getD i default).map V.str) (is.map fun i=>its.getD i Value.none):=by
    rw [List.map_map]
    exact paired_map is fun i hi=>hat i (hin i hi)
   have hpw:(is.map fun i=>ss.getD i default).Pairwise strO.kle:=by
    refine pairwise_of_steps (R:=strO.kle) (fun _ _ _ h k=>KeyOrd.kle_trans (O:=strO) h k) _ fun i a b h1 h2=>?_
    rw [List.getElem?_map,Option.map_eq_some_iff] at h1 h2
    obtain ⟨x,e1,rfl⟩:=h1
    obtain ⟨y,e2,rfl⟩:=h2
    obtain ⟨hlt,_⟩:=List.getElem?_eq_some_iff.mp e2
    have:=hst i hlt
    have g1:is.getD i 0=x:=by rw [List.getD_eq_getElem?_getD,e1]; rfl
    have g2:is.getD (i + 1) 0=y:=by rw [List.getD_eq_getElem?_getD,e2]; rfl
    rw [g1,g2] at this
    exact this
   exact ⟨.ref D,upd H D (.lst ((is.map fun i=>ss.getD i default).map V.str)),I.laidN (t':=s.toks) kk hD ⟨by rw [List.length_map,hperm.length_eq]; exact Nat.le_of_lt (small1000 (by omega)),_,n,hv,hg⟩,rfl,q D _ hperm hpw (I.freshN hD)⟩
end
abbrev RowGo (K:PySem.W.Frag) (H:Hp) (z:Row strC intC):Prop:=∃ t,z.1=.ref t∧SqT K H t [V.str z.2.1,V.int z.2.2]
theorem zip_rows {K:PySem.W.Frag} {H:Hp}:∀ {ts:List Addr} {gs:List (Str × Int)},ts.length=gs.length→(∀ (n:Nat) (a:Addr) (p:Str × Int),ts[n]?=some a→gs[n]?=some p→H a=some (.tup [.str p.1,.int p.2])) →
 ∃ zs:List (Row strC intC),zs.map (·.1)=ts.map V.ref∧zs.map (·.2)=gs∧∀ z∈zs,RowGo K H z
 | [],[],_,_=>⟨[],rfl,rfl,fun z hz=>by cases hz⟩
 | [],_ :: _,h,_=>by simp at h
 | _ :: _,[],h,_=>by simp at h
 | a :: ts,p :: gs,h,k=>by
   obtain ⟨zs,h1,h2,h3⟩:=zip_rows (K:=K) (H:=H) (ts:=ts) (gs:=gs) (by simpa using h) fun n a p h1 h2=>k (n + 1) a p (by simpa using h1) (by simpa using h2)
   refine ⟨(V.ref a,p) :: zs,by rw [List.map_cons,h1]; rfl,by rw [List.map_cons,h2],fun z hz=>?_⟩
   rcases List.mem_cons.mp hz with e | hz
   · rw [e]; exact ⟨a,rfl,SqT.of (k 0 a p rfl rfl)⟩
   · exact h3 z hz
theorem rows_dts {K:PySem.W.Frag} {H:Hp}:∀ (zs:List (Row strC intC)),(∀ z∈zs,RowGo K H z)→IsDts K H (zs.map (·.1)) ((zs.map (·.2)).map goD)
 | [],_=>.nil
 | z :: zs,h=>by
   obtain ⟨t,e,sq⟩:=h z List.mem_cons_self
   refine .cons ?_ (rows_dts zs fun y hy=>h y (List.mem_cons_of_mem _ hy))
   show IsDt K H z.1 (goD z.2)
   rw [e]
   exact .tup sq (.cons (.str _) (.cons (.int _) .nil))
structure SrtOf (s r:Stt):Prop where
 pg:r.1.Perm s.1
 pe:r.2.Perm s.2
 og:r.1.Pairwise (lexO strO intO).kle
 oe:r.2.Pairwise strO.kle
theorem SqL.updN {K:PySem.W.Frag} {H:Hp} {a D:Addr} {o:HO} {xs:List V} (hn:a≠D) (h:SqL K H a xs):SqL K (upd H D o) a xs:=by
 rcases h with (h | ⟨u,h⟩) | h
 · exact .inl (.inl (by rw [upd_ne hn]; exact h))
 · exact .inl (.inr ⟨u,by rw [upd_ne hn]; exact h⟩)
 · exact .inr h
theorem SqT.updL {K:PySem.W.Frag} {H:Hp} {a D:Addr} {o:HO} {xs ys:List V} (hD:H D=some (.lst ys)) (h:SqT K H a xs):SqT K (upd H D o) a xs:=by
 rcases h with (h | ⟨u,h⟩) | h
 · exact .inl (.inl (by rw [upd_ne fun z=>by rw [z,hD] at h; cases h]; exact h))
 · exact .inl (.inr ⟨u,by rw [upd_ne fun z=>by rw [z,hD] at h; cases h]; exact h⟩)
 · exact .inr h
theorem gos_updL {K:PySem.W.Frag} {H:Hp} {D:Addr} {o:HO} {ys:List V} (hD:H D=some (.lst ys)):∀ {vs:List V} {gs:List (Str × Int)},IsDts K H vs (gs.map goD)→IsDts K (upd H D o) vs (gs.map goD)
 | _,[],.nil=>.nil
 | _,p :: gs,.cons h t=>by
   obtain ⟨a,e,sq⟩:=go_at h
   subst e
   exact .cons (.tup (sq.updL hD) (.cons (.str _) (.cons (.int _) .nil))) (gos_updL hD t)
theorem Goes.updL {K:PySem.W.Frag} {H:Hp} {a D:Addr} {o:HO} {ys:List V} {gs:List (Str × Int)} (hD:H D=some (.lst ys)) (hn:a≠D) (h:Goes K H a gs):Goes K (upd H D o) a gs:=by
 obtain ⟨vs,h1,h2⟩:=h
 exact ⟨vs,h1.updN hn,gos_updL hD h2⟩
structure StRows (K:PySem.W.Frag) (F:Addr→Prop) (H:Hp) (D:Addr) (us:List Addr) (rs:List Stt):Prop where
 len:us.length=rs.length
 at_:∀ (i:Nat) (u:Addr) (r:Stt),us[i]?=some u→rs[i]?=some r→∃ G E xs,H u=some (.tup [.ref G,.ref E])∧Goes K H G r.1∧H G=some (.lst xs)∧H E=some (.lst (r.2.map V.str))∧G≠D∧E≠D∧F G∧F E
theorem StRows.nil {K:PySem.W.Frag} {F:Addr→Prop} {H:Hp} {D:Addr}:StRows K F H D [] []:=⟨rfl,fun i u r h=>by simp at h⟩
theorem StRows.same {K:PySem.W.Frag} {F:Addr→Prop} {H H':Hp} {D:Addr} {us:List Addr} {rs:List Stt} (e:Same H H') (h:StRows K F H D us rs):StRows K F H' D us rs:=by
 refine ⟨h.len,fun i u r h1 h2=>?_⟩
 obtain ⟨G,E,xs,a1,a2,a3,a4,a5,a6,a7⟩:=h.at_ i u r h1 h2
 exact ⟨G,E,xs,e _ _ a1,a2.same e,e _ _ a3,e _ _ a4,a5,a6,a7⟩
theorem StRows.updL {K:PySem.W.Frag} {F:Addr→Prop} {H:Hp} {D:Addr} {o:HO} {ys:List V} {us:List Addr} {rs:List Stt} (hD:H D=some (.lst ys)) (h:StRows K F H D us rs):StRows K F (upd H D o) D us rs:=by
 refine ⟨h.len,fun i u r h1 h2=>?_⟩
 obtain ⟨G,E,xs,a1,a2,a3,a4,a5,a6,a7⟩:=h.at_ i u r h1 h2
 exact ⟨G,E,xs,by rw [upd_ne fun z=>by rw [z,hD] at a1; cases a1]; exact a1,a2.updL hD a5,by rw [upd_ne a5]; exact a3,by rw [upd_ne a6]; exact a4,a5,a6,a7⟩
theorem StRows.snoc {K:PySem.W.Frag} {F:Addr→Prop} {H:Hp} {D u G E:Addr} {xs:List V} {us:List Addr} {rs:List Stt} {r:Stt} (h:StRows K F H D us rs) (a1:H u=some (.tup [.ref G,.ref E])) (a2:Goes K H G r.1) (a3:H G=some (.lst xs)) (a4:H E=some (.lst (r.2.map V.str))) (a5:G≠D) (a6:E≠D) (a7:F G) (a8:F E):StRows K F H D (us++[u]) (rs++[r]):=by
 refine ⟨by rw [List.length_append,List.length_append,h.len]; rfl,fun i v q h1 h2=>?_⟩
 rcases Nat.lt_or_ge i us.length with hlt | hge
 · rw [List.getElem?_append_left hlt] at h1
   rw [List.getElem?_append_left (by rw [←h.len]; exact hlt)] at h2
   exact h.at_ i v q h1 h2
 · have hn1:i < (us++[u]).length:=(List.getElem?_eq_some_iff.mp h1).1
   rw [List.length_append,List.length_singleton] at hn1
   have e:i=us.length:=by omega
   subst e
   rw [List.getElem?_append_right (Nat.le_refl _),Nat.sub_self] at h1
   rw [List.getElem?_append_right (by rw [h.len]; exact Nat.le_refl _),h.len,Nat.sub_self] at h2
   cases h1; cases h2
   exact ⟨G,E,xs,a1,a2,a3,a4,a5,a6,a7,a8⟩
theorem three_le:([]:List V).length + 1 + 1 + 1≤sizeLine:=by decide
theorem pair_kle {p q:Str × Str} (h:(lexO strO strO).kle p q) (hn:p≠q):ltS p.1 q.1∨(p.1=q.1∧ltS p.2 q.2):=by
 have h':(lexO strO strO).blt q p=false:=h
 cases e:(lexO strO strO).blt p q with
 | false=>exact absurd ((lexO strO strO).total _ _ e h') hn
 | true =>
   by_cases e1:p.1=q.1
   · rw [lexO_eq (c:=strC) (d:=strC) p q e1] at e
     exact .inr ⟨e1,show p.2.cps.toList < q.2.cps.toList from of_decide_eq_true e⟩
   · rw [lexO_ne (c:=strC) (d:=strC) p q e1] at e
     exact .inl (show p.1.cps.toList < q.1.cps.toList from of_decide_eq_true e)
end L2
namespace L2
open PySem PySem.Spec PyProof.Rows
def FlyAt (h:Heap) (e T:Addr) (cls fl:Value) (dd:Option Addr):Prop :=
 ∃ oe vs oT ts,h.get? e=some oe∧oe.cls=cls∧oe.dict=dd∧oe.data=.fields vs∧vs[1]?=some (.ref T)∧T≠e∧h.get? T=some oT∧oT.data=.fields ts∧ts[3]?=some fl
abbrev Fly (h:Heap) (e T:Addr) (cls:Value) (dd:Option Addr):Prop:=FlyAt h e T cls .none dd
structure GoneAt (l:List Env) (e T T':Addr) (cls fl:Value) (dd:Option Addr) (h h':Heap):Prop where
 fly:FlyAt h' e T' cls fl dd
 tr:T'=T∨h.get? T'=none
 keep:∀ b o,h.get? b=some o→b≠e→b≠T→b ∉ frs l→h'.get? b=some o
 slot:∀ b o,h.get? b=some o→b∈frs l→∃ sl,h'.get? b=some { o with slots:=sl }
abbrev Gone (l:List Env) (e T T':Addr) (cls:Value) (dd:Option Addr) (h h':Heap):Prop:=GoneAt l e T T' cls .none dd h h'
section
variable {M:Model} {A:Around} {E:Value→Shared→Prop} {s:Shared} {base:Heap} {env:Env} {outer:List Env} {L e T:Addr} {cls fl:Value} {dd:Option Addr} {Q:Unit→Shared→Prop}
theorem entry_ok {oe:Obj} {vs:Array Value} {head:Value} {hadNext:Bool} (hfr:A.frames=some (env :: outer)) (hl:s.heap.FunFrames base (env :: outer)) (hf:env.frame=some L) (he:s.heap.get? e=some oe) (hd:oe.data=.fields vs) (hsz:1 < vs.size)
 (h:∀ h' T',(∀ b o,s.heap.get? b=some o→b≠e→b ∉ frs (env :: outer)→h'.get? b=some o)→(∀ b o,s.heap.get? b=some o→b∈frs (env :: outer)→∃ sl,h'.get? b=some { o with slots:=sl })→s.heap.get? T'=none→T'≠e →
  (∃ oe',h'.get? e=some oe'∧oe'.cls=oe.cls∧oe'.dict=oe.dict∧oe'.data=.fields (vs.setIfInBounds 1 (.ref T')))→(∃ oT ts,h'.get? T'=some oT∧oT.data=.fields ts∧ts[3]?=some (rawInt L))→Q () { s with heap:=h' }) :
 wpAny M A (do let a ←frameOf env; let pl ←entryPlaceOf L hadNext; let b ←EntryCells.newEntry head a .none (rawInt L) .none pl; setField (.ref e) 1 b) Q E s:=by
 have ne:e ∉ frs (env :: outer):=fun m=>by
  obtain ⟨_,o,ho,nf⟩:=hl.mem m
  rw [he] at ho; cases ho
  exact nf vs hd
 refine wpAny_bind (wpAny_frameOf_fun hfr hl hf fun g1 so=>?_)
 refine wpAny_bind (wpAny_entryPlaceOf fun pl hpl=>?_)
 unfold EntryCells.newEntry newFields
 refine wpAny_bind (wpAny_newObj_type ?_ (hpl.sizeOk5 _ _ _ _ _))
 generalize hob:({ cls:=.type "traceback",dict:=none,data:=.fields ([head,.ref L,.none,rawInt L,.none]++(if pl.isEmpty then List.replicate 6 Value.none else pl)).toArray }:Obj)=ob
 have q1:g1.get? e=some oe:=(so.2.1 e ne).trans he
 have q2:(g1.push ob).get? e=some oe:=Heap.get?_push_of_some _ q1
 have nz:g1.objs.size≠e:=Nat.ne_of_gt (Heap.lt_size q1)
 refine wpAny_setField q2 hd hsz (h _ g1.objs.size (fun b o q n m=>?_) (fun b o q m=>?_) ?_ nz ?_ ?_)
 · rw [Heap.get?_update_other _ _ (Ne.symm n)]
   exact Heap.get?_push_of_some _ ((so.2.1 b m).trans q)
 · obtain ⟨sl,q'⟩:=so.2.2 b o q
   refine ⟨sl,?_⟩
   rw [Heap.get?_update_other _ _ (fun z=>ne (by rw [z]; exact m))]
   exact Heap.get?_push_of_some _ q'
 · exact Heap.get?_none_of_le (by rw [so.1]; exact Nat.le_refl _)
 · have d3:=Obj.data_mapFields hd (·.setIfInBounds 1 (Value.ref g1.objs.size))
   refine ⟨_,Heap.get?_update_self _ q2 (Obj.isFreed_of_fields d3),Obj.cls_mapFields _ _,?_,d3⟩
   obtain ⟨c,dd,dt,sl⟩:=oe
   cases dt <;> first | rfl | (simp at hd)
 · have q4:(g1.push ob).get? g1.objs.size=some ob:=Heap.get?_push_size _ (by rw [←hob]; rfl)
   refine ⟨ob,_,(Heap.get?_update_other _ _ (Ne.symm nz)).trans q4,by rw [←hob],?_⟩
   first | (simp; done) | (rcases hpl with rfl | ⟨_,_,_,_,_,_,_,rfl⟩ <;> simp)
theorem note_next (hfr:A.frames=some (env :: outer)) (hl:s.heap.FunFrames base (env :: outer)) (hf:env.frame=some L) (ht:Fly s.heap e T cls dd)
 (h:∀ h' T',GoneAt (env :: outer) e T T' cls (rawInt L) dd s.heap h'→Q () { s with heap:=h' }):wpAny M A (noteFrame (.ref e) env) Q E s:=by
 obtain ⟨oe,vs,oT,ts,e1,e2,e2d,e3,e4,e5,e6,e7,e8⟩:=ht
 have hz:3 < ts.size:=(Array.getElem?_eq_some_iff.mp e8).1
 have oth:∀ b,b≠T→(s.heap.update T (Obj.mapFields (·.setIfInBounds 3 Value.none))).get? b=s.heap.get? b:=fun b hb=>Heap.get?_update_other _ _ (Ne.symm hb)
 have nf:∀ b o,s.heap.get? b=some o→(∀ vs,o.data≠.fields vs)→b≠T:=fun b o q n z=>by
  rw [z,e6] at q; cases q
  exact n ts e7
 unfold noteFrame
 simp only [hf]
 refine wpAny_bind (wpAny_field e1 e3 e4 ?_)
 rw [if_pos (show (Value.ref T != Value.none)=true from by simp)]
 refine wpAny_bind (wpAny_field e6 e7 e8 ?_)
 rw [if_neg (show ¬ ((Value.none == rawInt L)=true) from by simp [rawInt])]
 refine wpAny_bind (wpAny_setField e6 e7 hz ?_)
 refine entry_ok (base:=base) hfr (hl.of_keeps fun b o q n=>⟨o,(oth b (nf b o q n)).trans q,rfl⟩) hf ((oth e (Ne.symm e5)).trans e1) e3 (Array.getElem?_eq_some_iff.mp e4).1 fun h' T' k1 k2 k3 k4 ⟨oe',y1,y2,y3,y4⟩ ⟨oT',ts',z1,z2,z3⟩=>?_
 have nT:T'≠T:=fun z=>by
  have:=Heap.get?_update_self (Obj.mapFields (·.setIfInBounds 3 Value.none)) e6 (Obj.isFreed_of_fields (Obj.data_mapFields e7 _))
  rw [←z] at this
  rw [z] at k3 this
  rw [k3] at this; cases this
 refine h h' T' ⟨⟨oe',_,oT',ts',y1,y2.trans e2,y3.trans e2d,y4,?_,k4,z1,z2,z3⟩,.inr ((oth T' nT).symm.trans k3),fun b o q n1 n2 n3=>k1 b o ((oth b n2).trans q) n1 n3,fun b o q m=>?_⟩
 · simp [(Array.getElem?_eq_some_iff.mp e4).1]
 · obtain ⟨_,o',q',n⟩:=hl.mem m
   rw [q] at q'; cases q'
   exact k2 b o ((oth b (nf b o q n)).trans q) m
theorem note_first {oe:Obj} {vs:Array Value} (hfr:A.frames=some (env :: outer)) (hl:s.heap.FunFrames base (env :: outer)) (hf:env.frame=some L) (he:s.heap.get? e=some oe) (hd:oe.data=.fields vs) (h1:vs[1]?=some .none)
 (h:∀ h' T',GoneAt (env :: outer) e e T' oe.cls (rawInt L) oe.dict s.heap h'→Q () { s with heap:=h' }):wpAny M A (noteFrame (.ref e) env) Q E s:=by
 unfold noteFrame
 simp only [hf]
 refine wpAny_bind (wpAny_field he hd h1 ?_)
 rw [if_neg (by decide)]
 refine entry_ok (base:=base) hfr hl hf he hd (Array.getElem?_eq_some_iff.mp h1).1 fun h' T' k1 k2 k3 k4 ⟨oe',y1,y2,y3,y4⟩ ⟨oT',ts',z1,z2,z3⟩=>?_
 refine h h' T' ⟨⟨oe',_,oT',ts',y1,y2,y3,y4,?_,k4,z1,z2,z3⟩,.inr k3,fun b o q n1 _ n3=>k1 b o q n1 n3,k2⟩
 simp [(Array.getElem?_eq_some_iff.mp h1).1]
theorem flight_off (ht:FlyAt s.heap e T cls fl dd) (h:∀ h',Fly h' e T cls dd→(∀ b o,s.heap.get? b=some o→b≠T→h'.get? b=some o)→Q () { s with heap:=h' }):wpAny M A (setFlight (.ref e) none) Q E s:=by
 obtain ⟨oe,vs,oT,ts,e1,e2,e2d,e3,e4,e5,e6,e7,e8⟩:=ht
 have hz:3 < ts.size:=(Array.getElem?_eq_some_iff.mp e8).1
 have oth:∀ b,b≠T→(s.heap.update T (Obj.mapFields (·.setIfInBounds 3 ((none:Option Addr).elim Value.none fun f=>rawInt f)))).get? b=s.heap.get? b:=fun b hb=>Heap.get?_update_other _ _ (Ne.symm hb)
 unfold setFlight
 refine wpAny_bind (wpAny_field e1 e3 e4 ?_)
 rw [if_pos (show (Value.ref T != Value.none)=true from by simp)]
 refine wpAny_setField e6 e7 hz (h _ ?_ fun b o q n=>(oth b n).trans q)
 exact ⟨oe,vs,_,_,(oth e (Ne.symm e5)).trans e1,e2,e2d,e3,e4,e5,Heap.get?_update_self _ e6 (Obj.isFreed_of_fields (Obj.data_mapFields e7 _)),Obj.data_mapFields e7 _,by simp [hz]⟩
theorem gone_off {T':Addr} {h1 h2:Heap} (hl:s.heap.FunFrames base (env :: outer)) (hT:∀ b∈frs (env :: outer),b≠T) (g:GoneAt (env :: outer) e T T' cls fl dd s.heap h1) (f:Fly h2 e T' cls dd) (k:∀ b o,h1.get? b=some o→b≠T'→h2.get? b=some o):Gone (env :: outer) e T T' cls dd s.heap h2:=by
 have nn:∀ b o,s.heap.get? b=some o→b≠T→b≠T':=fun b o q n z=>by
  rcases g.tr with y | y
  · exact n (z.trans y)
  · rw [z,y] at q; cases q
 refine ⟨f,g.tr,fun b o q n1 n2 n3=>k b o (g.keep b o q n1 n2 n3) (nn b o q n2),fun b o q m=>?_⟩
 obtain ⟨sl,q'⟩:=g.slot b o q m
 exact ⟨sl,k b _ q' (nn b o q (hT b m))⟩
theorem leave_next (hfr:A.frames=some (env :: outer)) (hl:s.heap.FunFrames base (env :: outer)) (hf:env.frame=some L) (ht:Fly s.heap e T cls dd)
 (h:∀ h' T',Gone (env :: outer) e T T' cls dd s.heap h'→Q () { s with heap:=h' }):wpAny M A (leaving env (.ref e)) Q E s:=by
 unfold leaving
 refine wpAny_bind (note_next hfr hl hf ht fun h1 T1 g1=>flight_off g1.fly fun h2 f2 k2=>h h2 T1 (gone_off hl (fun b m z=>?_) g1 f2 k2))
 obtain ⟨oe,vs,oT,ts,_,_,_,_,_,_,e6,e7,_⟩:=ht
 obtain ⟨_,o,ho,n⟩:=hl.mem m
 rw [z,e6] at ho; cases ho
 exact n ts e7
theorem leave_first {oe:Obj} {vs:Array Value} (hfr:A.frames=some (env :: outer)) (hl:s.heap.FunFrames base (env :: outer)) (hf:env.frame=some L) (he:s.heap.get? e=some oe) (hd:oe.data=.fields vs) (h1:vs[1]?=some .none)
 (h:∀ h' T',Gone (env :: outer) e e T' oe.cls oe.dict s.heap h'→Q () { s with heap:=h' }):wpAny M A (leaving env (.ref e)) Q E s:=by
 unfold leaving
 refine wpAny_bind (note_first hfr hl hf he hd h1 fun h1 T1 g1=>flight_off g1.fly fun h2 f2 k2=>h h2 T1 (gone_off hl (fun b m z=>?_) g1 f2 k2))
 obtain ⟨_,o,ho,n⟩:=hl.mem m
 rw [z,he] at ho; cases ho
 exact n vs hd
end
theorem ObjOk.there {P:Program} {w:World} {H:Hp} {h:Heap} {a:Addr} {o:HO} (x:ObjOk P w H h a o):∃ u,h.get? a=some u:=by
 cases o with
 | lst xs=>obtain ⟨_,_,_,_,e⟩:=x; exact ⟨_,e⟩
 | tup xs=>obtain ⟨_,_,_,u,e,_⟩:=x; exact ⟨u,e⟩
 | dK kvs=>obtain ⟨_,_,_,_,u,_,_,e,_⟩:=x; exact ⟨u,e⟩
 | dT kvs=>obtain ⟨_,_,_,_,u,_,_,e,_⟩:=x; exact ⟨u,e⟩
 | set S n=>obtain ⟨u,_,_,_,e,_⟩:=x; exact ⟨u,e⟩
 | ins C dx fs=>obtain ⟨_,_,_,e,_⟩:=x; exact ⟨_,e⟩
 | own y=>exact x
 | xd fs=>obtain ⟨_,⟨u,_,_,e,_⟩,_⟩:=x; exact ⟨u,e⟩
 | rng lo hi=>obtain ⟨_,_,_,e⟩:=x; exact ⟨_,e⟩
 | frz ob u=>obtain ⟨e,_⟩:=x; exact ⟨_,e⟩
 | tbl ps=>exact ⟨_,(show h.get? a=some _ from x)⟩
 | met f y=>exact ⟨_,(show h.get? a=some _ from x)⟩
 | ext φ=>obtain ⟨_,e,_⟩:=x; exact e
def Thr (h0 h:Heap) (H':Hp) (a:Addr) (cls:Value) (dd:Option Addr):Prop :=
 (∃ oe vs,h.get? a=some oe∧oe.cls=cls∧oe.dict=dd∧oe.data=.fields vs∧vs[1]?=some .none)∨∃ T,Fly h a T cls dd∧h0.get? T=none∧H' T=none
structure Th (P:Program) (w:World) (stack:List Env) (H:Hp) (s:Shared) (H':Hp) (s':Shared) (a C:Addr) (dd:Option Addr):Prop where
 os:s'.os=s.os
 bare:AllBare s'.gens
 un:Un (frs stack) [] H H' s.heap s'.heap
 hok:HOk P w H' s'.heap
 new:s.heap.get? a=none
 free:H' a=none
 thr:Thr s.heap s'.heap H' a (.ref C) dd
def CXE (P:Program) (w:World):CXT:=fun outer H s E e s'=>∃ a C dd H',e=.ref a∧Th P w outer H s H' s' a C dd∧(∃ T,Fly s'.heap a T (.ref C) dd∧s.heap.get? T=none∧H' T=none)∧E (.ref C) dd H'
def Throws (X:Cx) (E:XK):Prop:=∀ (pins:List (Addr × Obj)) (σ:St) (H:Hp) (s:Shared) (H':Hp) (s':Shared) (a C:Addr) (dd:Option Addr),Inv X pins σ H s→Th X.prog X.w X.stack H s H' s' a C dd→E (.ref C) dd H'→X.xe (.ref a) s'
theorem Throws.passes {X:Cx} {E:XK} (h:Throws X E):Passes (CXE X.prog X.w) X E:=fun pins σ H s e s' I hx=>by
 obtain ⟨a,C,dd,H',rfl,t,_,q⟩:=hx
 exact h pins σ H s H' s' a C dd I t q
theorem ff_un {h h' base:Heap} {H H':Hp}:∀ {l:List Env} {fs:List Addr},(∀ b∈frs l,b∈fs)→(∀ b∈frs l,H b=none)→Un fs [] H H' h h'→h.FunFrames base l→h'.FunFrames base l
 | [],_,_,_,_,_=>trivial
 | env :: rest,fs,hs,hn,u,⟨k,⟨L,o,hf,hb,ho,hd⟩,hr⟩=>by
   have mL:L∈frs (env :: rest):=by simp [frs,hf]
   have sub:∀ b∈frs rest,b∈frs (env :: rest):=fun b m=>by
    simp only [frs,List.filterMap_cons,hf]
    exact List.mem_cons_of_mem _ m
   obtain ⟨sl,e⟩:=u.slot L o ho (hn L mL) (hs L mL) (by simp)
   exact ⟨k,⟨L,_,hf,hb,e,hd⟩,ff_un (fun b m=>hs b (sub b m)) (fun b m=>hn b (sub b m)) u hr⟩
section
variable {P:Program} {w:World} {K:PySem.W.Frag} {mg:Str→Option Value} {base:Heap} {N:List Str} {qual:Str} {scope:Scope} {f:Addr} {cd:Value} {A:Around} {outer:List Env} {s:Shared} {H:Hp} {E:XK}
theorem throws_cx:Throws (cxOf (CXE P w) P w K mg base N qual scope f cd A outer s H E) E:=by
 intro pins σ H1 s1 H' s' a C dd I t q
 obtain ⟨X,hX⟩:∃ X,X=cxOf (CXE P w) P w K mg base N qual scope f cd A outer s H E:=⟨_,rfl⟩
 have tk:=t.hok
 rw [←hX] at I t ⊢
 have e1:X.stack=X.env :: outer:=by rw [hX]; rfl
 have e2:X.env.frame=some X.env.locals:=by rw [hX]; rfl
 have e3:X.s₀=s:=by rw [hX]; rfl
 have e4:X.H₀=H:=by rw [hX]; rfl
 have e5:X.fs=frs outer:=by rw [hX]; rfl
 have e6:X.ex=[]:=by rw [hX]; rfl
 have e7:X.env.locals=s.heap.objs.size:=by rw [hX]; rfl
 have hfr:=I.ok.frames
 have hff:=ff_un (fun b m=>m) I.stkFree t.un I.stack
 rw [e1] at hfr hff
 have hfrN:∀ b∈frs (X.env :: outer),H' b=none:=fun b m=>by
  rw [←e1] at m
  obtain ⟨_,o,ho,_⟩:=I.stack.mem m
  exact t.un.free b o ho (I.stkFree b m) (by simp)
 have hb:=I.base
 rw [e3,e4,e5,e6] at hb
 have big : ∀ T T' h', (T = a ∨ (s1.heap.get? T = none ∧ H' T = none)) → Gone (X.env :: outer) a T T' (.ref C) dd s'.heap h' → CXE P w outer H s E (.ref a) { s' with heap := h' } := fun T T' h' hT g => by
  have nT:∀ b o,s1.heap.get? b=some o→b≠T:=fun b o e z=>by
   rcases hT with y | y
   · rw [z,y,t.new] at e; cases e
   · rw [z,y.1] at e; cases e
  have nA:∀ b o,s1.heap.get? b=some o→b≠a:=fun b o e z=>by rw [z,t.new] at e; cases e
  have H'T:H' T=none:=by
   rcases hT with y | y
   · rw [y]; exact t.free
   · exact y.2
  have H'T' : H' T'=none:=by
   rcases g.tr with y | y
   · rw [y]; exact H'T
   · cases z:H' T' with
     | none=>rfl
     | some o=>obtain ⟨u,e⟩:=(t.hok T' o z).there; rw [y] at e; cases e
  have up:∀ b o,s.heap.get? b=some o→∃ o',s1.heap.get? b=some o':=fun b o e=>hb.there b o e (by simp)
  have loc:∀ b o,s.heap.get? b=some o→b ∉ frs outer→b ∉ frs (X.env :: outer):=fun b o e n m=>by
   simp only [frs,List.filterMap_cons,e2] at m
   rcases List.mem_cons.mp m with z | z
   · rw [z,e7] at e; exact Nat.lt_irrefl _ (Heap.lt_size e)
   · exact n z
  have out:∀ b,b∈frs outer→b∈frs (X.env :: outer):=fun b m=>by
   simp only [frs,List.filterMap_cons,e2]
   exact List.mem_cons_of_mem _ m
  have one:∀ b,s1.heap.get? b=none→s.heap.get? b=none:=fun b e=>by
   cases z:s.heap.get? b with
   | none=>rfl
   | some o=>obtain ⟨o',e'⟩:=up b o z; rw [e] at e'; cases e'
  have hT' : s.heap.get? T' = none := by
   rcases g.tr with y | y
   · rw [y]
     rcases hT with z | z
     · rw [z]; exact one a t.new
     · exact one T z.1
   · cases z:s.heap.get? T' with
     | none=>rfl
     | some o =>
       obtain ⟨o1,z1⟩:=up T' o z
       obtain ⟨o2,z2⟩:=t.un.there T' o1 z1 (by simp)
       rw [y] at z2; cases z2
  refine ⟨a,C,dd,H',rfl,⟨t.os.trans (I.os.trans (by rw [e3])),t.bare,⟨fun b o e n m _=>?_,fun b o e n m _=>?_,fun b o e n _=>?_,fun b o e _=>?_,fun b xs e=>t.un.tups b xs (hb.tups b xs e),fun b o u e=>t.un.frzs b o u (hb.frzs b o u e),fun b ps e=>?_⟩,fun b o e=>?_,one a t.new,t.free,.inr ⟨T',g.fly,hT',H'T'⟩⟩,⟨T',g.fly,hT',H'T'⟩,q⟩
  · have k1:=hb.keep b o e n m (by simp)
    have k2:=t.un.keep b o k1 (hb.free b o e n (by simp)) (by rw [e1]; exact loc b o e m) (by simp)
    exact g.keep b o k2 (nA b o k1) (nT b o k1) (loc b o e m)
  · obtain ⟨sl,k1⟩:=hb.slot b o e n m (by simp)
    obtain ⟨sl2,k2⟩:=t.un.slot b _ k1 (hb.free b o e n (by simp)) (by rw [e1]; exact out b m) (by simp)
    obtain ⟨sl3,k3⟩:=g.slot b _ k2 (out b m)
    exact ⟨sl3,k3⟩
  · obtain ⟨o1,k1⟩:=up b o e
    exact t.un.free b o1 k1 (hb.free b o e n (by simp)) (by simp)
  · obtain ⟨o1,k1⟩:=up b o e
    obtain ⟨o2,k2⟩:=t.un.there b o1 k1 (by simp)
    by_cases m:b∈frs (X.env :: outer)
    · obtain ⟨sl,k3⟩:=g.slot b o2 k2 m
      exact ⟨_,k3⟩
    · exact ⟨_,g.keep b o2 k2 (nA b o1 k1) (nT b o1 k1) m⟩
  · obtain ⟨more,k1⟩:=hb.tbls b ps e
    obtain ⟨more2,k2⟩:=t.un.tbls b _ k1
    exact ⟨more++more2,by rw [k2,Array.append_assoc]⟩
  · refine (show ObjOk P w H' h' b o from (tk b o e).stay (fun c u hc k=>g.keep c u k ?_ ?_ ?_) (fun _ z=>z) fun _ _ z=>z)
    all_goals
     intro z
     rcases hc with y | y
     · first
        | (rw [←y,z,t.free] at e; cases e)
        | (rw [←y,z,H'T] at e; cases e)
        | (rw [←y,hfrN c z] at e; cases e)
     · first
        | (rw [z,t.free] at y; cases y)
        | (rw [z,H'T] at y; cases y)
        | (rw [hfrN c z] at y; cases y)
 have hxe:X.xe (.ref a) s'=wpAny (model P w) X.A (leaving X.env (.ref a)) (fun _ s''=>CXE P w outer H s E (.ref a) s'') (fun e' s''=>CXE P w outer H s E e' s'') s':=by rw [hX]; rfl
 rw [hxe]
 rcases t.thr with ⟨oe,vs,h1,h2,hdi,h3,h4⟩ | ⟨T,h1,h2,h3⟩
 · refine leave_first hfr hff e2 h1 h3 h4 fun h' T' g=>?_
   rw [h2,hdi] at g
   exact big a T' h' (.inl rfl) g
 · exact leave_next hfr hff e2 h1 fun h' T' g=>big T T' h' (.inr ⟨h2,h3⟩) g
end
def subIn (K:PySem.W.Frag) (C Cp:Addr):Bool:=match K.lookup C with
 | some ⟨_,_,.cls cd,_⟩=>cd.mro.contains (.ref Cp)
 | _=>false
end L2
namespace L2
open PySem PySem.Spec PyProof.Rows
section
variable {M:Model} {A:Around} {E:Value→Shared→Prop}
variable {nm q nm2 q2:Str} {C N C2 N2:Addr} {bs bm bs2 bm2:List Value} {hdct hdct2:Bool} {sn sn2:List Str} {sub sub2:List Value} {ab ab2:Bool} {col col2:Option Bool} {dd dd2:Option Addr} {k0 k1 k2 k3 k5 j0 j1 j2 j3 j5:Option Value} {newId newId2:String}
theorem match_own {h:Heap} {g:Array GenState} {d:Drawn} {t:Nat} {os:OsState} {e:Addr} {oe:Obj} {b:Bool} {Q:Bool→Shared→Prop}
 (hC:h.get? C=some (excClassObj nm q C N bs bm hdct sn sub ab col dd k0 k1 k2 k3 k5 newId)) (hC2:h.get? C2=some (excClassObj nm2 q2 C2 N2 bs2 bm2 hdct2 sn2 sub2 ab2 col2 dd2 j0 j1 j2 j3 j5 newId2))
 (he:h.get? e=some oe) (hcls:oe.cls=.ref C) (hbase:bm2.contains (.type "BaseException")=true) (hb:(Value.ref C :: bm).contains (.ref C2)=b)
 (hq:Q b ⟨h,g,d,t,os⟩):wpAny M A (excMatches (.ref e) (.ref C2)) Q E ⟨h,g,d,t,os⟩:=by
 have hcB:(Value.ref C2 :: bm2).contains (.type "BaseException")=true:=by rw [List.contains_cons,hbase,Bool.or_true]
 have f:=tc_notTuple
 unfold excMatches
 repeat (first | (with_reducible refine wpAny_loadPart_at he ?_; rw [hcls]) | with_reducible refine wpAny_loadPart_at hC2 ?_ | (with_reducible refine wpAny_isSubtype_exc hC2 ?_; rw [hcB]) | (with_reducible refine wpAny_isSubtype_exc hC ?_; rw [hb]) | wp_step)
 cases b <;> (wp_walk; exact hq)
end
section
variable {X:Cx} {pins:List (Addr × Obj)} {σ:St} {H:Hp} {s:Shared}
theorem Inv.unset {i:Nat} {x:Str} {m:Str→Option Value} {u:Option Value} {h':Heap} (I:Inv X pins σ H s) (hN:X.N.Nodup) (hi:X.N[i]?=some x) (hm:∀ (j:Nat) (y:Str) (v:V),X.N[j]?=some y→σ[j]?=some (some v)→Vis X.env.scope y→∃ u,RelV v u∧Look X.env s.heap m y u)
 (hn':h'.Ns X.env.locals (fun y=>if y=x then u else m y)) (hs:Heap.SameBut X.env.locals s.heap h'):Inv X pins (σ.set i none) H { s with heap:=h' }:=by
 obtain ⟨m0,⟨oL,_,_,hoL,_⟩,_⟩:=id I.loc
 have lo:∀ b o,X.s₀.heap.get? b=some o→b≠X.env.locals:=fun b o e=>Nat.ne_of_lt (Nat.lt_of_lt_of_le (Heap.lt_size e) I.ok.above)
 have iL:i < σ.length:=by rw [I.len]; exact (List.getElem?_eq_some_iff.mp hi).1
 refine ⟨I.ok,I.os,I.bare,⟨fun b o e n hb hx=>(hs.2 b (lo b o e)).trans (I.base.keep b o e n hb hx),fun b o e n hb hx=>?_,I.base.free,fun b o e hx=>?_,I.base.tups,I.base.frzs,I.base.tbls⟩,⟨_,hn',fun j y v e1 e2 e3=>?_⟩,fun y c e=>?_,I.free,I.freeC,fun p hp=>?_,fun b o e=>?_,by simpa using I.len⟩
 · obtain ⟨sl,q⟩:=I.base.slot b o e n hb hx
   exact ⟨sl,(hs.2 b (lo b o e)).trans q⟩
 · obtain ⟨o',q⟩:=I.base.there b o e hx
   exact ⟨o',(hs.2 b (lo b o e)).trans q⟩
 · by_cases hj:i=j
   · subst hj
     rw [List.getElem?_set_self iL] at e2
     cases e2
   · rw [List.getElem?_set_ne hj] at e2
     obtain ⟨u',r',q⟩:=hm j y v e1 e2 e3
     have ny:y≠x:=fun z=>hj (nodup_ix hN hi (z ▸ e1))
     refine ⟨u',r',?_⟩
     rcases q with ⟨k,z⟩ | ⟨k,c,z,z'⟩
     · exact .inl ⟨k,(if_neg ny).trans z⟩
     · exact .inr ⟨k,c,z,z'.sameBut hs (I.cne y c z)⟩
 · obtain ⟨w',z⟩:=I.cell y c e
   exact ⟨w',z.sameBut hs (I.cne y c e)⟩
 · obtain ⟨q,n,ne,nf,d⟩:=I.pin p hp
   exact ⟨(hs.2 p.1 ne).trans q,n,ne,nf,d⟩
 · refine (I.hok b o e).stay (fun c w' hc q=>(hs.2 c fun z=>?_).trans q) (fun _ q=>q) fun _ _ q=>q
   rcases hc with y | y
   · rw [←y,z,I.free] at e; cases e
   · rw [z,I.free] at y; cases y
theorem unbind_ok {M:Model} {A:Around} {E:Value→Shared→Prop} {i:Nat} {x:Str} {pos:Pos} {Q:Unit→Shared→Prop} (I:Inv X pins σ H s) (hN:X.N.Nodup) (hi:X.N[i]?=some x) (hx:X.env.scope.names.lookup x=some .local)
 (h:∀ s',Inv X pins (σ.set i none) H s'→Q () s'):wpAny M A (do bindName X.env x .none; unbindBehindTheSuite X.env x pos) Q E s:=by
 refine wpAny_bind (wpAny_bindName (store_ok I hN hi (.inl hx) (v:=.non) (u:=.none) rfl (fun s1 I1=>?_) (.inr hx)))
 obtain ⟨m,hn,hl⟩:=id I1.loc
 have iL:i < σ.length:=by rw [I.len]; exact (List.getElem?_eq_some_iff.mp hi).1
 obtain ⟨u,ru,q⟩:=hl i x .non hi (List.getElem?_set_self iL) (.inl hx)
 have hk:X.env.kindOf x=some .local:=hx
 have hv:m x=some u:=by
  rcases q with ⟨_,z⟩ | ⟨z,_⟩
  · exact z
  · rw [hk] at z
    rcases z with z | z <;> cases z
 unfold unbindBehindTheSuite
 refine wpAny_onRaise (wpAny_unbindName_local hk hn hv (by rw [I.ok.kind]; rfl) fun h' u' hn' hs=>?_)
 have I2:=I1.unset hN hi hl hn' hs
 rw [List.set_set] at I2
 exact h _ I2
end
def ExcO (a C:Addr) (dd:Option Addr):HO:=.ext fun h=>∃ oe vs,h.get? a=some oe∧oe.cls=.ref C∧oe.dict=dd∧oe.data=.fields vs
abbrev Cx.held (X:Cx) (v:Value):Cx:={ X with A:=X.A.mark (some v),calm:=false,xe:=fun _ _=>False }
section
variable {X:Cx} {pins:List (Addr × Obj)} {σ:St} {H H':Hp} {s s':Shared} {v:Value}
theorem Cx.Ok.held (ok:X.Ok):(X.held v).Ok :=
 ⟨ok.mod,ok.kind,ok.glob,ok.blt,ok.above,ok.inj,ok.has,ok.cab,fun z=>(by cases z),ok.frames,ok.stk,ok.exf,ok.bs,ok.bsz,ok.noex,ok.exfs,ok.funs,ok.frf⟩
theorem Inv.held (I:Inv X pins σ H s):Inv (X.held v) pins σ H s:=⟨I.ok.held,I.os,I.bare,I.base,I.loc,I.cell,I.free,I.freeC,I.pin,I.hok,I.len⟩
theorem Inv.unheld (ok:X.Ok) (I:Inv (X.held v) pins σ H s):Inv X pins σ H s:=⟨ok,I.os,I.bare,I.base,I.loc,I.cell,I.free,I.freeC,I.pin,I.hok,I.len⟩
theorem th_step {P:Program} {w:World} {stack:List Env} {h0 h1 h2:Heap} {a T:Addr} (un:Un (frs stack) [] H H' h0 h1) (hok:HOk P w H' h1) (na:h0.get? a=none) (nT:h0.get? T=none) (fa:H' a=none) (fT:H' T=none) (ff:∀ b∈frs stack,H' b=none)
 (k:∀ b o,h1.get? b=some o→b≠a→b≠T→b ∉ frs stack→h2.get? b=some o) (sl:∀ b o,h1.get? b=some o→b∈frs stack→∃ sl,h2.get? b=some { o with slots:=sl }):Un (frs stack) [] H H' h0 h2∧HOk P w H' h2:=by
 have n1:∀ b o,h0.get? b=some o→b≠a∧b≠T:=fun b o e=>⟨fun z=>(by rw [z,na] at e; cases e),fun z=>(by rw [z,nT] at e; cases e)⟩
 refine ⟨⟨fun b o e n m _=>k b o (un.keep b o e n m (by simp)) (n1 b o e).1 (n1 b o e).2 m,fun b o e n m _=>?_,un.free,fun b o e _=>?_,un.tups,un.frzs,un.tbls⟩,fun b o e=>(hok b o e).stay (fun c u hc q=>k c u q (fun z=>?_) (fun z=>?_) fun z=>?_) (fun _ z=>z) fun _ _ z=>z⟩
 · obtain ⟨s1,q1⟩:=un.slot b o e n m (by simp)
   obtain ⟨s2,q2⟩:=sl b _ q1 m
   exact ⟨s2,q2⟩
 · obtain ⟨o1,q1⟩:=un.there b o e (by simp)
   by_cases m:b∈frs stack
   · obtain ⟨s2,q2⟩:=sl b o1 q1 m
     exact ⟨_,q2⟩
   · exact ⟨o1,k b o1 q1 (n1 b o e).1 (n1 b o e).2 m⟩
 · rcases hc with y | y
   · rw [←y,z,fa] at e; cases e
   · rw [z,fa] at y; cases y
 · rcases hc with y | y
   · rw [←y,z,fT] at e; cases e
   · rw [z,fT] at y; cases y
 · rcases hc with y | y
   · rw [←y,ff c z] at e; cases e
   · rw [ff c z] at y; cases y
end
def CalleeE (P:Program) (w:World) (K:PySem.W.Frag) (mg:Str→Option Value) (base:Heap) (x:Str) (k:Nat) (ps:List Str) (sp:Sp):Prop :=
 ∃ f fd,FnOk P w K mg base (CXE P w) k f fd ps sp∧mg x=some (.ref f)∧PySem.W.keepIn K (.ref f)=true∧Binds K fd ps []
section
variable {X:Cx} {x y:Str} {k:Nat} {ps:List Str} {sp:Sp} {e:Expr} {es:List Expr} {t:TA} {p pos:Pos} {E:XK}
theorem pe_fnE (C:CalleeE X.prog X.w X.K X.mg X.base x k ps sp) (hT:Throws X E) (hr:Room k X.A) (hg:Gl X x) (ha:PA X (e :: es) t) (hdb:(x == ("__debug__" : Str))=false:=by decide)
 (he:starEach (e :: es) X.env=(false,eval e X.env) :: starEach es X.env:=by rfl) (hpl:(backTo pos (starEach es X.env)).any (·.1)=false:=by rfl):PE X (.Call (.Name x p) (e :: es) [] pos) (tCall sp [] E t):=by
 obtain ⟨f,fd,F,hm,hk,hb⟩:=C
 exact pe_call F hr hg hm hk hb .nil hT.passes ha hdb he hpl
theorem Fun.okE {P:Program} {w:World} {K:PySem.W.Frag} {mg:Str→Option Value} {base:Heap} {qual:Str} {st:Stmt} {f:Addr} {fd:FuncData} {N:List Str} (F:Fun K x qual st f fd) (S:FnScope N ps (defScope st)) (len:∀ vs H Q E,sp vs H Q E→vs.length=ps.length)
 (hbody:∀ (cdv:Value) (A:Around) (outer:List Env) (s:Shared) (H:Hp) (vs:List V) (Q:VK) (E:XK),Room k (A.deeper (envOfC qual (defScope st) s.heap.objs.size f cdv))→sp vs H Q E →
  ∃ t,PSs (cxOf (CXE P w) P w K mg base N qual (defScope st) f cdv A outer s H E) (defBody st) t∧t { nx:=fun _ H'=>Q .non H',rt:=Q } (start N vs) H):FnOk P w K mg base (CXE P w) (k + 1) f fd ps sp:=by
 obtain ⟨oc,od,kV,doc,pm,an,cdv,ct,osl,rfl,lk,hcd⟩:=F.ex
 exact fn_of lk hcd S len fun A outer s H vs Q E hr hsp=>hbody cdv A outer s H vs Q E hr hsp
end
end L2
set_option maxRecDepth 100000
namespace PySem
open Sem (wp)
section
variable {prog:Program} {w:World} {A:Around} {E:Value→Shared→Prop} {h:Heap} {g:Array GenState} {d:Drawn} {t:Nat} {os:OsState}
variable {nm q:Str} {C N:Addr} {bs bm bmB:List Value} {hdct:Bool} {sn:List Str} {sub:List Value} {ab:Bool} {col:Option Bool} {dd:Option Addr} {k0 k1 k2 k3 k5:Option Value} {B Bn newId nid initId inN:String} {bmN:List Value}
theorem tcall_init (Fn:ExcBaseFacts Bn newId inN bmN) (hBn:bmB.contains (.type Bn)=true) (F:ExcBaseFacts B nid initId bmB) (T:OwnTail h bmB bm) {mN:Str→Option Value} {rest:List Value} {fI:Addr} {oI:Obj} {Q:Fin→Shared→Prop}
 (hC:h.get? C=some (excClassObj nm q C N bs bm hdct sn sub ab col dd k0 k1 k2 k3 k5 newId)) (hn:h.Ns N mN) (hi:mN "__init__" = some (.ref fI)) (hfI:h.get? fI=some oI) (hfc:oI.cls=.type "function")
 (hq:∀ h' e,Heap.MadeExcOf h h' e (.ref C) rest→wpAny (model prog w) A (call (.ref fI) (.ref e :: rest)) (fun r s'=>r=.none∧Q (.done (.ret (.ref e))) s') E ⟨h',g,d,t,os⟩) (hrest:rest.length≤sizeLine) :
 wpAny (model prog w) A (Builtin.«type.__call__» ⟨.ref C :: rest,[]⟩) Q E ⟨h,g,d,t,os⟩:=by
 repeat (first | with_reducible refine wpAny_loadPart_at hC ?_ | with_reducible refine wpAny_madeBy_exc hC ?_ | wp_step)
 refine codeAny_call_builtin_code (Code.quiet_builtin _ Fn.quiet) (wpAny_check_new_subU Fn hBn T hC ?_)
 refine codeAny_exc_new_subU Fn hBn F T hC ?_ hrest
 show wpAny _ _ _ _ _ _
 have hC₁:=Heap.get?_push_of_some { cls:=.ref C,data:=.fields #[.ref h.objs.size,.none,.none,.none,.bool false,.none] }
  (Heap.get?_push_of_some { cls:=.type "tuple",data:=.seq rest.toArray } hC)
 have hfI₁:=Heap.get?_push_of_some { cls:=.ref C,data:=.fields #[.ref h.objs.size,.none,.none,.none,.bool false,.none] }
  (Heap.get?_push_of_some { cls:=.type "tuple",data:=.seq rest.toArray } hfI)
 have hn₁:((h.push { cls:=.type "tuple",data:=.seq rest.toArray }).push { cls:=.ref C,data:=.fields #[.ref h.objs.size,.none,.none,.none,.bool false,.none] }).Ns N mN :=
  let ⟨o,es,ep,e,r⟩:=hn; ⟨o,es,ep,Heap.get?_push_of_some _ (Heap.get?_push_of_some _ e),r⟩
 have hget:((h.push { cls:=.type "tuple",data:=.seq rest.toArray }).push
  { cls:=.ref C,data:=.fields #[.ref h.objs.size,.none,.none,.none,.bool false,.none] }).get? (h.objs.size + 1)=some
  { cls:=.ref C,data:=.fields #[.ref h.objs.size,.none,.none,.none,.bool false,.none] }:=by heap_get
 have hcC:(Value.ref C :: bm).contains (.ref C)=true:=by simp
 have T₁:=T.keeps (h':=(h.push { cls:=.type "tuple",data:=.seq rest.toArray }).push { cls:=.ref C,data:=.fields #[.ref h.objs.size,.none,.none,.none,.bool false,.none] })
  fun b o e=>Heap.get?_push_of_some _ (Heap.get?_push_of_some _ e)
 unfold isInstance
 repeat (first | with_reducible refine wpAny_loadPart_at hget ?_ | (with_reducible refine wpAny_isSubtype_exc hC₁ ?_; rw [hcC]) | wp_step)
 show wpAny _ _ (typeLookup (.ref C) _) _ _ _
 refine wpAny_typeLookup_tail hC₁ hn₁ T₁ F.mroIs F.init.lookup ?_
 rw [hi]
 refine wpAny_holding (wpAny_bind ?_)
 unfold bindSpecial
 refine wpAny_bind (wpAny_typeOf (T := "function") ⟨_,hfI₁,hfc⟩ ?_)
 rw [if_pos (by decide)]
 refine wpAny_pure (wpAny_bind (wpAny_mono (hq _ (h.objs.size + 1) ⟨fun b o hb=>Heap.get?_push_of_some _ (Heap.get?_push_of_some _ hb),Heap.get?_none_of_le (Nat.le_succ _),h.objs.size,hget,Heap.get?_none_of_le (Nat.le_refl _),?_⟩) (fun r s' hr=>?_) fun _ _ x=>x))
 · exact Heap.get?_push_of_some _ (Heap.get?_push_at rfl rfl)
 · obtain ⟨rfl,hQ⟩:=hr
   wp_walk
   exact hQ
theorem call_init (Fn:ExcBaseFacts Bn newId inN bmN) (hBn:bmB.contains (.type Bn)=true) (F:ExcBaseFacts B nid initId bmB) (T:OwnTail h bmB bm) {mN:Str→Option Value} {rest:List Value} {fI:Addr} {oI:Obj} {Q:Value→Shared→Prop}
 (hC:h.get? C=some (excClassObj nm q C N bs bm hdct sn sub ab col dd k0 k1 k2 k3 k5 newId)) (hn:h.Ns N mN) (hi:mN "__init__" = some (.ref fI)) (hfI:h.get? fI=some oI) (hfc:oI.cls=.type "function")
 (hq:∀ h' e,Heap.MadeExcOf h h' e (.ref C) rest→wpAny (model prog w) (A.under (.builtin "type.__call__" ⟨.ref C :: rest,[]⟩)) (call (.ref fI) (.ref e :: rest)) (fun r s'=>r=.none∧Q (.ref e) s') E ⟨h',g,d,t,os⟩) (hrest:rest.length≤sizeLine) :
 wpAny (model prog w) A (call (.ref C) rest) Q E ⟨h,g,d,t,os⟩:=by
 have f1:=tc_lookup
 have f2:=tc_bind (.ref C)
 have hT:(⟨h,g,d,t,os⟩:Shared).TypeIs (.ref C) "type" := ⟨_,hC,rfl⟩
 refine wpAny_call (codeAny_of_tree ?_)
 show wpAny _ _ (callAny (.ref C) _) _ _ _
 repeat (any_goals (first | assumption | with_reducible refine wpAny_loadPart_at hC ?_ | wp_step))
 refine ⟨rfl,?_⟩
 refine codeAny_call_builtin_at (Code.quiet_builtin _ (by decide +kernel)) entry_typeCall (wpAny_check_type_call_sub hC (tcall_init (hrest:=hrest) Fn hBn F T hC hn hi hfI hfc fun h' e hm=>?_))
 exact hq h' e hm
end
section
variable {M:Model} {A:Around} {E:Value→Shared→Prop} {env:Env}
variable {nm q:Str} {C N:Addr} {bs bm:List Value} {hdct:Bool} {sn:List Str} {sub:List Value} {ab:Bool} {col:Option Bool} {dd:Option Addr} {k0 k1 k2 k3 k5:Option Value} {newId:String}
theorem raise_made {s:Shared} {x:Sem Value} {Q:Flow→Shared→Prop} (hbase:bm.contains (.type "BaseException")=true) (hh:A.handled=none)
 (h:wpAny M A x (fun v s₁=>∃ e t dx,v=.ref e∧s₁.heap.get? C=some (excClassObj nm q C N bs bm hdct sn sub ab col dd k0 k1 k2 k3 k5 newId) ∧
  s₁.heap.get? e=some { cls:=.ref C,dict:=dx,data:=.fields #[.ref t,.none,.none,.none,.bool false,.none] }∧E (.ref e) s₁) E s) :
 wpAny M A (raiseStmt env (some x) none) Q E s:=by
 have hcB:(Value.ref C :: bm).contains (.type "BaseException")=true:=by rw [List.contains_cons,hbase,Bool.or_true]
 unfold raiseStmt
 refine wpAny_bind (wpAny_mono h (fun v s₁ h₁=>?_) fun _ _ x=>x)
 obtain ⟨e,t,dx,rfl,hC,he,hE⟩:=h₁
 obtain ⟨hp,g,d,tk,os⟩:=s₁
 repeat (first | with_reducible refine wpAny_loadPart_at he ?_ | with_reducible refine wpAny_loadPart_at hC ?_ | (with_reducible refine wpAny_isSubtype_exc hC ?_; rw [hcB]) | wp_step)
 exact wpAny_raiseNew_none hh hE
end
end PySem
set_option maxRecDepth 100000
namespace PySem.W
open PySem PySem.Calls PyProof.Rows Builtin Builtin.ObjectAttr
abbrev VEm:List Value:=[.type "ValueError",.type "Exception",.type "BaseException",.type "object"]
def mroV:List Value→Bool
 | .ref _ :: r=>mroV r
 | l=>l == VEm
theorem mroV_cases {l:List Value} (h:mroV l=true):(∃ c r,l=.ref c :: r∧mroV r=true)∨l=VEm:=by
 unfold mroV at h
 split at h
 · exact .inl ⟨_,_,rfl,h⟩
 · exact .inr (eq_of_beq h)
theorem refuse_V (self:Value):∀ {l:List Value},mroV l=true→refuseLoop self "__setattr__" l=pure ()
 | [],h=>by cases h
 | v :: l, h => by
   rcases mroV_cases h with ⟨c,r,e,k⟩ | e
   · cases e
     rw [refuseLoop_ref]; exact refuse_V self k
   · rw [e]; exact PySem.F.store_ValueError.passes self
theorem mroV_has {b:Value} (hb:VEm.contains b=true):∀ {l:List Value},mroV l=true→l.contains b=true
 | [],h=>by cases h
 | v :: l, h => by
   rcases mroV_cases h with ⟨c,r,e,k⟩ | e
   · cases e
     rw [List.contains_cons,mroV_has hb k,Bool.or_true]
   · rw [e]; exact hb
def overV (K:Frag) (C:Addr):Bool:=(clsIn K C).any fun cd=>mroV cd.mro
section
variable {prog:Program} {w:World} {A:Around} {s:Shared} {K:Frag} {x C:Addr} {R:Result→Shared→Prop}
theorem xosa_open {ox:Obj} {od:Option Obj} {name:Str} {tk:Tok} {v:Value} {r:Option Value} (X:K.In s.heap) (I:InstAt s.heap x ox C od) (hp:overV K C=true) (ht:takerIn K C name=some r)
 (h:∀ b,wpAny (model prog w) A.in1 (match r with | some a=>setByDescriptor a (.ref x) v | none=>storeInOwnDict (.ref x) (.ref C) (.str name tk) name v b)
  (fun fin s'=>match fin with | .done f=>R (.ok f) s' | .again c'=>c'.quiet=true∧codeAny (model prog w) A c' R s') (fun e s'=>R (.error e) s') s) :
 codeAny (model prog w) A (.call (.builtin "object.__setattr__") ⟨[.ref x,.str name tk,v],[]⟩) R s:=by
 have SF:=PySem.F.store_object
 obtain ⟨cd,hc,ho⟩:=any_some hp
 have ne:cd.mro.isEmpty=false:=by cases q:cd.mro with | nil=>rw [q] at ho; cases ho | cons _ _=>rfl
 have sub:Looks (model prog w) s.heap (isInstance (.ref x) (.type "object")) true:=I.type.andThen (looks_mroIn X (by unfold mroIn; rw [hc,Option.bind_some,if_neg (by rw [ne]; decide),mroV_has (by decide) ho]))
 refine codeAny_call_builtin SF.slot.plain SF.entry (@check_slot (model prog w) _ _ s "object.__setattr__" "object" "__setattr__" (.ref x) [.str name tk,v] [] _ SF.kind SF.split sub (SF.args (.ref x) (.str name tk) v) ?_)
 obtain ⟨attr,ha,hr⟩:=Option.bind_eq_some_iff.mp ht
 have hm:Looks (model prog w) s.heap (mroOf (.ref C)) cd.mro:=(looks_clsIn X hc).andThen .now
 have L3:Looks (model prog w) s.heap (storeTaker? attr) r:=by
  cases attr with
  | none=>cases hr; exact .now
  | some a =>
    obtain ⟨b,hb,rfl⟩:=Option.map_eq_some_iff.mp hr
    refine (looks_takesIn X hb).andThen ?_
    cases b <;> exact .now
 rw [osa_eq,refuse_eq]
 refine wpAny_bind (wpAny_bind (I.type.here (wpAny_bind (hm.here ?_))))
 rw [refuse_V _ ho]
 refine wpAny_pure (wpAny_bind (I.type.here (wpAny_bind ((looks_findIn X ha).here (wpAny_bind (L3.here ?_))))))
 exact h _
theorem xset {E:Value→Shared→Prop} {vs:Array Value} {name:Str} {v:Value} {Q:Unit→Shared→Prop} (X:K.In s.heap) (hx:s.heap.get? x=some { cls:=.ref C,data:=.fields vs })
 (hs:findIn K (.ref C) "__setattr__" = some (some (.builtin "object.__setattr__"))) (hp:overV K C=true) (ht:takerIn K C name=some none) (hh:hasDictIn K C=true)
 (h:∀ h' dx,(∀ b o,s.heap.get? b=some o→b≠x→h'.get? b=some o)→s.heap.get? dx=none→dx≠x→h'.get? x=some { cls:=.ref C,dict:=some dx,data:=.fields vs }→h'.Ns1 dx (fun y=>if y=name then some v else none)→Q () { s with heap:=h',toks:=s.toks + 2 }) :
 wpAny (model prog w) A (setAttr (.ref x) name v) Q E s:=by
 have I:InstAt s.heap x { cls:=.ref C,data:=.fields vs } C none:=⟨hx,rfl,rfl,True.intro⟩
 refine set_plain X I hs (xosa_open (s:={ s with toks:=s.toks + 1 }) (r:=none) X I hp ht fun b=>?_)
 obtain ⟨cd,hc,hd'⟩:=any_some hh
 refine wpAny_bind (wpAny_pure (wpAny_bind (wpAny_bind (wpAny_loadPart hx (wpAny_bind (Looks.here (s:={ s with toks:=s.toks + 1 }) (looks_clsIn X hc) ?_))))))
 rw [hd']
 have hx₁:(s.heap.push { cls:=.type "dict",data:=.dict #[] }).get? x=some { cls:=.ref C,data:=.fields vs }:=Heap.get?_push_of_some _ hx
 have hxs:x≠s.heap.objs.size:=Nat.ne_of_lt (Heap.lt_size hx)
 have hgd:((s.heap.push { cls:=.type "dict",data:=.dict #[] }).update x fun o=>{ cls:=o.cls,dict:=some s.heap.objs.size,data:=o.data,slots:=o.slots }).get? s.heap.objs.size=some { cls:=.type "dict",data:=.dict #[] } :=
  (Heap.get?_update_ne _ _ _ _ hxs.symm).trans (Heap.get?_push_at rfl rfl)
 have hnd:((s.heap.push { cls:=.type "dict",data:=.dict #[] }).update x fun o=>{ cls:=o.cls,dict:=some s.heap.objs.size,data:=o.data,slots:=o.slots }).Ns s.heap.objs.size (fun _=>none) :=
  ⟨_,#[],_,hgd,rfl,fun e he=>absurd he (by simp),fun _=>rfl⟩
 refine wpAny_bind (wpAny_alloc (wpAny_bind (wpAny_update hx₁ ?_)))
 refine wpAny_pure (a:=some s.heap.objs.size) ?_
 show wpAny _ _ (storeInDict s.heap.objs.size (.str name s.toks) name v) _ _ _
 unfold storeInDict newKeyGuard
 refine wpAny_bind (wpAny_pure (wpAny_bind (wpAny_nsSet1 (s:={ s with heap:=_,toks:=s.toks + 1 }) (Heap.Ns1.of_empty hnd) fun h' hn' hs'=>?_)))
 obtain ⟨oD,esD,epD,hoD,hdD,hcD⟩:=hn'.count (Within.cons name v Within.nil)
 refine wpAny_bind (wpAny_lookBehind hoD (by rw [hdD]; exact pastItsLine_dict (Nat.le_trans hcD (by rw [List.length_cons,List.length_nil,sizeLine_eq]; omega))) ?_)
 refine wpAny_pure (h h' s.heap.objs.size (fun b o e hb=>?_) (Heap.get?_none_of_le (Nat.le_refl _)) hxs.symm ?_ hn')
 · exact (hs'.2 b (Nat.ne_of_lt (Heap.lt_size e))).trans ((Heap.get?_update_ne _ _ _ _ hb).trans (Heap.get?_push_of_some _ e))
 · exact (hs'.2 x hxs).trans (Heap.get?_update_self _ hx₁ rfl)
end
end PySem.W
namespace L2
open PySem PySem.Spec PySem.Calls PyProof.Rows PySem.W
structure ExcCl (K:PySem.W.Frag) (D:Addr):Prop where
 hg:findIn K (.ref D) "__getattribute__" = some (some (.builtin "BaseException.__getattribute__"))
 hk:findIn K (.ref D) "__getattr__" = some none
 hb:mroIn K D (.type "BaseException")=some true
 hc:(clsIn K D).isSome=true
 ha:findIn K (.ref D) "__class__" = some (some (.builtin "object.__class__"))
 hn:specialIn K (.builtin "object.__class__") "__get__" = some (some (.builtin "getset_descriptor.__get__"))
 ht:takesIn K (.builtin "object.__class__")=some true
 hm:mroIn K D (.type "object")=some true
section
variable {prog:Program} {w:World} {A:Around} {E:Value→Shared→Prop} {s:Shared} {K:PySem.W.Frag} {x D:Addr} {ox:Obj} {od:Option Obj} {c:Value}
theorem x_check {nameV:Value} {Q:Unit→Shared→Prop} (k:ExcCl K D) (X:K.In s.heap) (I:InstAt s.heap x ox D od) (h:Q () s):wpAny (model prog w) A (checkBuiltinCall "BaseException.__getattribute__" ⟨[.ref x,nameV],[]⟩) Q E s:=by
 obtain ⟨hh,g,d,t,os⟩:=s
 have hk:builtinKind "BaseException.__getattribute__" = some .slot:=by decide +kernel
 have hsplit:splitId "BaseException.__getattribute__" = some ("BaseException", "__getattribute__"):=by decide +kernel
 have ha:=PySem.F.args_bexc_ga (.ref x) nameV
 have L0:=I.type (M:=model prog w)
 have LI:Looks (model prog w) hh (isInstance (.ref x) (.type "BaseException")) true:=L0.andThen (looks_mroIn (M:=model prog w) X k.hb)
 simp only [checkBuiltinCall,hk,hsplit]
 refine wpAny_bind (LI.at ?_)
 repeat (first | exact h | wp_step)
theorem x_entry {tk:Tok} {name:Str} {v:Value} {Q:Fin→Shared→Prop} (X:K.In s.heap) (I:InstAt s.heap x ox D od) (hf:findObj K D od name=some (.value v)) (h:Q (.done (.ret v)) s):wpAny (model prog w) A (Builtin.«object.__getattribute__» ⟨[.ref x,.str name tk],[]⟩) Q E s:=by
 obtain ⟨hh,g,d,t,os⟩:=s
 have L0:=I.type (M:=model prog w)
 have L1:=looks_find (M:=model prog w) X I hf
 exact wpAny_bind (wpAny_pure (wpAny_bind (wpAny_pure (wpAny_bind (L0.at (wpAny_bind (L1.at (wpAny_pure h))))))))
theorem xget {expr:Bool} {name:Str} {v:Value} {Q:Value→Shared→Prop} (k:ExcCl K D) (X:K.In s.heap) (I:InstAt s.heap x ox D od) (hf:findObj K D od name=some (.value v)) (hv:handedIn v=true) (h:Q v { s with toks:=s.toks + 1 }):wpAny (model prog w) A (getAttr (.ref x) name expr) Q E s:=by
 obtain ⟨hh,g,d,t,os⟩:=s
 have L0:=I.type (M:=model prog w)
 have L1:=looks_findIn (M:=model prog w) X k.hg
 have L2:=looks_findIn (M:=model prog w) X k.hk
 have f3:=PySem.F.attr_ValueError.ga.bind (.ref x)
 unfold getAttr getAttrBy
 refine wpAny_bind (wpAny_mkText (wpAny_holding (wpAny_bind (L0.at (wpAny_bind (L1.at ?_))))))
 have hne:(Value.builtin "BaseException.__getattribute__" == Value.builtin "object.__getattribute__")=false:=by decide +kernel
 show wpAny _ _ (if (onTheHeap (.ref D) && Value.builtin "BaseException.__getattribute__" == Value.builtin "object.__getattribute__")=true then _ else getAttrByItsOwn _ _ _ _ _ _) _ _ _
 rw [hne,Bool.and_false,if_neg (by decide)]
 unfold getAttrByItsOwn
 refine wpAny_bind (L2.at ?_)
 refine wpAny_bind (wpAny_attempt (wpAny_holding ?_))
 unfold callGetattribute
 rw [show (expr && onTheHeap (Value.builtin "BaseException.__getattribute__"))=false from Bool.and_false _,if_neg (by decide)]
 show wpAny _ _ (boundAndCalled _ _ _) _ _ _
 unfold boundAndCalled
 rw [f3]
 refine wpAny_bind (wpAny_pure (wpAny_call (codeAny_call_builtin PySem.F.attr_ValueError.ga.plain PySem.F.entry_bexc_ga (x_check k X I (x_entry X I hf ?_)))))
 show wpAny _ _ (handedOut v) _ _ _
 rw [handedOut_of hv]
 exact wpAny_pure h
end
end L2
namespace PySem.W
open PySem
def xIn (K:Frag) (C:Addr) (f:Addr):Bool:=match K.lookup C with
 | some ⟨.type "type",_,.cls cd,sl⟩=>(match cd.mro,sl.toList with
   | .ref C' :: bm,[_,_,_,_,some (.builtin n),_]=>C' == C && n == "ValueError.__new__" && !cd.hasDel && tailIn K VEm bm && nsOkIn K cd.ns && nsIn K cd.ns "__init__" == some (some (.ref f)) && cd.hasDict && mroV cd.mro
   | _,_=>false)
 | _=>false
end PySem.W
namespace L2
open PySem PySem.Spec PyProof.Rows
def XForm (K:PySem.W.Frag) (C:Addr):Prop:=∃ nm qn N bs bm hdct sn sub ab col dd k0 k1 k2 k3 k5 newId,(∀ h:Heap,K.In h→h.get? C=some (excClassObj nm qn C N bs bm hdct sn sub ab col dd k0 k1 k2 k3 k5 newId))∧(∀ Cp,subIn K C Cp=(Value.ref C :: bm).contains (.ref Cp))
theorem x_obj {K:PySem.W.Frag} {C f:Addr} (q:PySem.W.xIn K C f=true) :
 ∃ nm qn N bs bm hdct sn sub ab col dd k0 k1 k2 k3 k5,(∀ h:Heap,K.In h→h.get? C=some (excClassObj nm qn C N bs bm hdct sn sub ab col dd k0 k1 k2 k3 k5 "ValueError.__new__"))∧PySem.W.nsOkIn K N=true∧PySem.W.nsIn K N "__init__" = some (some (.ref f))∧PySem.W.tailIn K PySem.W.VEm bm=true∧(∀ Cp,subIn K C Cp=(Value.ref C :: bm).contains (.ref Cp))∧PySem.W.hasDictIn K C=true∧PySem.W.overV K C=true:=by
 unfold PySem.W.xIn at q
 split at q
 next dd cd sl look =>
  split at q
  next C' bm k0 k1 k2 k3 n k5 em es =>
   simp only [Bool.and_eq_true,beq_iff_eq,Bool.not_eq_true'] at q
   rcases q with ⟨⟨⟨⟨⟨⟨⟨eC,en⟩,ed⟩,et⟩,ek⟩,ei⟩,eh⟩,ev⟩
   subst eC
   subst en
   have hcl:PySem.W.clsIn K C'=some cd:=by unfold PySem.W.clsIn; rw [look]
   refine ⟨cd.name,cd.qualname,cd.ns,cd.bases,bm,cd.hasDict,cd.slotNames,cd.subclasses,cd.abstract,cd.collection,dd,k0,k1,k2,k3,k5,fun h I=>?_,ek,ei,et,fun Cp=>by unfold subIn; rw [look]; simp only [em],by unfold PySem.W.hasDictIn; rw [hcl]; exact eh,by unfold PySem.W.overV; rw [hcl]; exact ev⟩
   rw [I _ _ look]
   have e1:sl=#[k0,k1,k2,k3,some (.builtin "ValueError.__new__"),k5]:=by cases sl; simp only at es; rw [es]
   rw [e1]
   cases cd
   simp only at em ed
   rw [em,ed]
  next=>cases q
 next=>cases q
def ExcN (e C:Addr) (dd:Option Addr):HO:=.ext fun h=>∃ t,h.get? e=some { cls:=.ref C,dict:=dd,data:=.fields #[.ref t,.none,.none,.none,.bool false,.none] }
def del (H:Hp) (e:Addr):Hp:=fun x=>if x=e then none else H x
theorem del_ne {H:Hp} {e x:Addr} (h:x≠e):del H e x=H x:=if_neg h
theorem del_same {H:Hp} {e:Addr}:del H e e=none:=if_pos rfl
theorem del_hok {P:Program} {w:World} {H:Hp} {h:Heap} {e:Addr} {φ:Heap→Prop} (k:HOk P w H h) (he:H e=some (.ext φ)):HOk P w (del H e) h:=fun b o q=>by
 have hb:b≠e:=fun z=>by rw [z,del_same] at q; cases q
 rw [del_ne hb] at q
 exact (k b o q).stay (fun _ _ _ z=>z) (fun c z=>by
  have:c≠e:=fun y=>by rw [y,he] at z; cases z
  rw [del_ne this]; exact z) fun c xs z=>by
  have:c≠e:=fun y=>by rw [y,he] at z; cases z
  rw [del_ne this]; exact z
theorem Un.del {fs:List Addr} {H H2:Hp} {h h2:Heap} {e:Addr} (u:Un fs [] H H2 h h2) (hn:H e=none):Un fs [] H (del H2 e) h h2 :=
 have ne:∀ {b:Addr} {o:HO},H b=some o→b≠e:=fun q z=>by rw [z,hn] at q; cases q
 ⟨u.keep,u.slot,fun b o q n x=>by
  by_cases z:b=e
  · rw [z,del_same]
  · rw [del_ne z]; exact u.free b o q n x,u.there,fun b xs q=>by rw [del_ne (ne q)]; exact u.tups b xs q,fun b o v q=>by rw [del_ne (ne q)]; exact u.frzs b o v q,fun b ps q=>by
  obtain ⟨more,k⟩:=u.tbls b ps q
  exact ⟨more,by rw [del_ne (ne q)]; exact k⟩⟩
def tRaiseI (C:Addr) (sp:Sp) (E:XK) (t:TA):TS:=fun _ σ H=>t σ H fun vs H1=>vs.length≤sizeLine∧∀ e,H1 e=none→sp (.ref e :: vs) (upd H1 e (ExcN e C none)) (fun v H2=>v=.non∧∃ dd,H2 e=some (ExcN e C dd)∧E (.ref C) dd (del H2 e)) E0
section
variable {X:Cx} {pins:List (Addr × Obj)} {σ:St} {H:Hp} {s:Shared} {E:XK} {C fI:Addr} {fd:FuncData} {ps:List Str} {sp:Sp} {k:Nat}
theorem ns_some_of {K:PySem.W.Frag} {h:Heap} {N:Addr} {mg:Str→Option Value} {n:Str} {v:Value} (X:K.In h) (G:h.Ns N mg) (e:PySem.W.nsIn K N n=some (some v)):mg n=some v:=by
 obtain ⟨o,es,ep,ho,hd,_,hf⟩:=G
 unfold PySem.W.nsIn at e
 split at e
 · rename_i c d es' n' sl q
   have:=X _ _ q
   rw [ho] at this
   cases this
   cases hd
   split at e
   · rename_i e' he
     cases e
     rw [←hf]
     unfold nsFind findBy
     rw [←Array.find?_toList,he]
     rfl
   · split at e <;> cases e
 · cases e
theorem run_xmake {us:List Value} {vs:List V} {Q:Value→Shared→Prop} (hT:Throws X E) (q:PySem.W.xIn X.K C fI=true) (hf:PySem.W.isFn X.K (.ref fI)=true) (F:FnOk X.prog X.w X.K X.mg X.base CX0 k fI fd ps sp) (hr:Room (k + 1) X.A) (hb:Binds X.K fd ps []) (I:Inv X pins σ H s) (r:Vals vs us) (hl:vs.length≤sizeLine)
 (h:∀ e,H e=none→sp (.ref e :: vs) (upd H e (ExcN e C none)) (fun v H2=>v=.non∧∃ dd,H2 e=some (ExcN e C dd)∧E (.ref C) dd (del H2 e)) E0)
 (hQ:∀ e t dx s',s'.heap.get? e=some { cls:=.ref C,dict:=dx,data:=.fields #[.ref t,.none,.none,.none,.bool false,.none] }→X.K.In s'.heap→X.xe (.ref e) s'→Q (.ref e) s') :
 wpAny (model X.prog X.w) X.A (call (.ref C) us) Q X.xe s:=by
 obtain ⟨nm,qn,N,bs,bm,hdct,sn,sub,ab,col,dd,k0,k1,k2,k3,k5,hC,hok,hni,htl,_,_,_⟩:=x_obj q
 have hB:X.base.Ns N (X.base.nsMap N):=.of_isNs (PySem.W.isNs_of_in I.mod.kin hok)
 obtain ⟨oI,hfI,hfc⟩:∃ oI,X.K.lookup fI=some oI∧oI.cls=.type "function" := by
  have e:=beq_iff_eq.mp hf
  exact Option.map_eq_some_iff.mp e
 obtain ⟨hh,g,d,tk,os⟩:=s
 refine call_init (mN:=X.base.nsMap N) PySem.F.excBase_ValueError (by decide) PySem.F.excBase_ValueError (PySem.W.tail_of_in I.kIn htl) (hC _ I.kIn) (hB.keeps I.bk) (ns_some_of I.mod.kin hB hni) (I.kIn _ _ hfI) hfc (fun h' e m=>?_) (by rw [←r.length]; exact hl)
 have hne:∀ b u,hh.get? b=some u→b≠e:=fun b u q z=>by rw [z,m.new] at q; cases q
 have hn:H e=none:=I.freshN hne
 obtain ⟨t0,ht0,_,_⟩:=m.there
 have I1:Inv X pins σ (upd H e (ExcN e C none)) ⟨h',g,d,tk,os⟩:=I.laidN (t':=tk) m.keeps hne ⟨⟨t0,ht0⟩,⟨_,ht0⟩,fun g1 g2 ⟨t,p⟩ k=>⟨t,k _ p⟩⟩
 have un1:Un (frs X.stack) [] H (upd H e (ExcN e C none)) hh h':=⟨fun b u q _ _ _=>m.keeps b u q,fun b u q _ _ _=>⟨u.slots,m.keeps b u q⟩,fun b u q n _=>by rw [upd_ne (hne b u q)]; exact n,fun b u q _=>⟨u,m.keeps b u q⟩,fun b xs q=>by rw [upd_ne (ne_of_none q hn)]; exact q,fun b u xs q=>by rw [upd_ne (ne_of_none q hn)]; exact q,fun b ps q=>⟨#[],by rw [upd_ne (ne_of_none q hn),q]; simp⟩⟩
 have hsp:=h e hn
 have hlen:(Value.ref e :: us).length=ps.length:=by
  have e1:(V.ref e :: vs).length=ps.length:=F.len _ _ _ _ hsp
  rw [←e1]
  show us.length + 1=vs.length + 1
  rw [r.length]
 have hb':=hb ⟨h',g,d,tk,os⟩ (Value.ref e :: us) I1.kIn (by rw [List.append_nil]; exact hlen)
 rw [List.append_nil] at hb'
 refine wpAny_call (codeAny_mono (F.run _ X.stack _ _ ⟨Value.ref e :: us,[]⟩ (Value.ref e :: us) (V.ref e :: vs) _ _ (hr.make C us []) (I1.env0.make C us []) hb' (.cons rfl r) hsp) fun r s' hq'=>?_)
 cases r with
 | error e'=>exact False.elim hq'
 | ok fl =>
   cases fl with
   | next=>exact False.elim hq'
   | brk=>exact False.elim hq'
   | cont=>exact False.elim hq'
   | ret u =>
     obtain ⟨v,H',eos,bare,un,hok',rv,ev,dd',hH',qE⟩:=hq'
     subst ev
     obtain ⟨h2,g2,d2,t2,os2⟩:=s'
     obtain rfl:os2=os:=eos
     have I3:Inv X pins σ H' ⟨h2,g2,d2,t2,os2⟩:=I1.call (h':=h2) (g':=g2) (d':=d2) (t':=t2) (ch:=[]) un hok' bare (fun b z=>absurd z (by simp))
     obtain ⟨⟨t1,ht1⟩,_,_⟩:=hok' e _ hH'
     refine ⟨rv,hQ e t1 dd' _ ht1 I3.kIn (hT pins σ H _ (del H' e) _ e C dd' I ⟨rfl,bare,(un1.trans un).del hn,del_hok hok' hH',m.new,del_same,.inl ⟨_,_,ht1,rfl,rfl,rfl,rfl⟩⟩ qE)⟩
theorem ps_raiseI {x:Str} {np cpos pos:Pos} {e0:Expr} {es:List Expr} {t:TA} (hT:Throws X E) (hc:X.calm=true) (hm:X.mg x=some (.ref C)) (q:PySem.W.xIn X.K C fI=true) (hf:PySem.W.isFn X.K (.ref fI)=true) (hk:PySem.W.keepIn X.K (.ref C)=true) (F:FnOk X.prog X.w X.K X.mg X.base CX0 k fI fd ps sp) (hr:Room (k + 1) X.A) (hb:Binds X.K fd ps []) (hg:Gl X x) (ha:PA X (e0 :: es) t)
 (hdb:(x == ("__debug__" : Str))=false:=by decide) (he:starEach (e0 :: es) X.env=(false,eval e0 X.env) :: starEach es X.env:=by rfl) (hpl:(backTo cpos (starEach es X.env)).any (·.1)=false:=by rfl) :
 PS X (.Raise (some (.Call (.Name x np) (e0 :: es) [] cpos)) none pos) (tRaiseI C sp E t):=by
 intro pins s σ H D I h
 obtain ⟨nm,qn,N,bs,bm,hdct,sn,sub,ab,col,dd,k0,k1,k2,k3,k5,hC,hok,hni,htl,_,_,_⟩:=x_obj q
 rw [arm_exec_Raise]
 refine wpAny_bind (wpAny_standAt (raise_made (C:=C) (nm:=nm) (q:=qn) (N:=N) (bs:=bs) (bm:=bm) (hdct:=hdct) (sn:=sn) (sub:=sub) (ab:=ab) (col:=col) (dd:=dd) (k0:=k0) (k1:=k1) (k2:=k2) (k3:=k3) (k5:=k5) (newId := "ValueError.__new__") (OwnTail.hasType (PySem.W.tail_of_in I.kIn htl) (X := "BaseException") (by decide)) (I.ok.hd hc)
  (wpAny_bind (wpAny_mono (Q:=fun v s₃=>∃ e t dx,v=.ref e∧s₃.heap.get? C=some (excClassObj nm qn C N bs bm hdct sn sub ab col dd k0 k1 k2 k3 k5 "ValueError.__new__")∧s₃.heap.get? e=some { cls:=.ref C,dict:=dx,data:=.fields #[.ref t,.none,.none,.none,.bool false,.none] }∧X.xe (.ref e) s₃) ?_ (fun v s₃ h₃=>wpAny_bind (wpAny_standAt (wpAny_pure h₃))) fun _ _ x=>x))))
 refine wpAny_Call_Name_kw (ld_glob I hg hm ?_ hdb)
 refine PySem.W.callWith_K (h₀:=X.base) I.ok.mod.kin hk (thn (ha cpos pins s σ H _ I h) fun us s1 ⟨vs,H1,I1,r,hl,qs⟩=>⟨I1.kIn,?_⟩) he hpl
 exact run_xmake hT q hf F hr hb I1 r hl qs fun e t dx s' he' hK hx=>⟨e,t,dx,rfl,hC _ hK,he',hx⟩
end
end L2
set_option maxRecDepth 100000
namespace L2
open PySem PySem.Spec PySem.Calls PyProof.Rows PySem.W
structure ClsAt (K:PySem.W.Frag) (C:Addr) (name:Str) (v:Value):Prop where
 op:nsIn K cStatics "thirdparty.any" = some none
 ty:typeIn K (.ref C)=some (.type "type")
 at_:findCls K (.ref C) (.type "type") name=some (.val v)
theorem tga_find {K:PySem.W.Frag}:findIn K (.type "type") "__getattribute__" = some (some (.builtin "type.__getattribute__")):=by show fastLookup "type" "__getattribute__" = _; kernel_rfl
theorem tga_sub {K:PySem.W.Frag}:PySem.W.subIn K (.type "type") (.type "type")=some true:=by show (fastBuiltinMro "type").map (·.contains (.type "type"))=_; kernel_rfl
section
variable {prog:Program} {w:World} {A:Around} {E:Value→Shared→Prop} {s:Shared} {K:PySem.W.Frag} {C:Addr} {name:Str} {v:Value}
theorem getcls {expr:Bool} {Q:Value→Shared→Prop} (X:K.In s.heap) (k:ClsAt K C name v) (hv:handedIn v=true) (h:Q v { s with toks:=s.toks + 1 }):wpAny (model prog w) A (getAttr (.ref C) name expr) Q E s:=by
 refine cls_open (r:=.val v) (hook:=none) X (looks_opaque X k.op) (looks_typeIn X k.ty) tga_find (looks_hook X rfl) tga_sub k.at_ ?_
 show wpAny _ _ (ret v) _ _ _
 refine wpAny_pure ?_
 show wpAny _ _ (handedOut v) _ _ _
 rw [handedOut_of hv]
 exact wpAny_pure h
theorem getmeth_cls {pl:Sem Bool} {Q:Value × List Value→Shared→Prop} (X:K.In s.heap) (k:ClsAt K C name v) (hv:handedIn v=true) (h:Q (v,[]) { s with toks:=s.toks + 1 }):wpAny (model prog w) A (getMethod (.ref C) name pl) Q E s:=by
 have L1:=looks_typeIn (M:=model prog w) X k.ty
 unfold getMethod specialOf
 refine wpAny_bind (wpAny_bind (L1.here ?_))
 refine (looks_findIn (M:=model prog w) X (t:=.type "type") (name := "__getattribute__") (r:=some (.builtin "type.__getattribute__")) tga_find).here ?_
 dsimp only
 rw [if_pos (by decide +kernel)]
 exact wpAny_bind (getcls X k hv (wpAny_pure h))
end
section
variable {prog:Program} {w:World} {A:Around} {E:Value→Shared→Prop} {h:Heap} {g:Array GenState} {d:Drawn} {t:Nat} {os:OsState}
variable {nm q:Str} {C N e t0:Addr} {bs bm:List Value} {hdct:Bool} {sn:List Str} {sub:List Value} {ab:Bool} {col:Option Bool} {dd dx:Option Addr} {k0 k1 k2 k3 k5:Option Value} {newId:String} {rest:List Value}
theorem vinit {Q:Value→Shared→Prop} (T:OwnTail h VEm bm) (hC:h.get? C=some (excClassObj nm q C N bs bm hdct sn sub ab col dd k0 k1 k2 k3 k5 newId)) (he:h.get? e=some { cls:=.ref C,dict:=dx,data:=.fields #[.ref t0,.none,.none,.none,.bool false,.none] }) (hrest:rest.length≤sizeLine)
 (hq:∀ h' t1,(∀ b o,h.get? b=some o→b≠e→h'.get? b=some o)→h'.get? e=some { cls:=.ref C,dict:=dx,data:=.fields #[.ref t1,.none,.none,.none,.bool false,.none] }→Q .none ⟨h',g,d,t,os⟩) :
 wpAny (model prog w) A (call (.builtin "ValueError.__init__") (.ref e :: rest)) Q E ⟨h,g,d,t,os⟩:=by
 have F:=PySem.F.excBase_ValueError
 refine wpAny_call (codeAny_call_builtin F.init.plain F.initEntry (wpAny_check_init_subU F T hC he rfl ?_))
 wp_walk
 refine hq _ h.objs.size (fun b o hb hn=>?_) ?_
 · rw [Heap.get?_update_other _ _ (Ne.symm hn)]
   exact Heap.get?_push_of_some _ hb
 · rw [Heap.get?_update_self _ (Heap.get?_push_of_some _ he) rfl]
   rfl
end
theorem upd_id {H:Hp} {a:Addr} {o:HO} (h:H a=some o):upd H a o=H:=funext fun x=>by
 by_cases e:x=a
 · rw [e,upd_same,h]
 · exact upd_ne e
def tSup (K:PySem.W.Frag) (t:TA):TE:=fun σ H Q=>t σ H fun vs H1=>∃ (e C f:Addr) (dd:Option Addr) (rest:List V),vs=.ref e :: rest∧H1 e=some (ExcN e C dd)∧xIn K C f=true∧rest.length≤sizeLine∧Q .non H1
def sXFld (K:PySem.W.Frag) (ta tv:TE) (f:Str):TS:=fun D σ H=>tv σ H fun y H1=>ta σ H1 fun x H2=>∃ (e C fI:Addr),x=.ref e∧H2 e=some (ExcN e C none)∧xIn K C fI=true∧findIn K (.ref C) "__setattr__" = some (some (.builtin "object.__setattr__"))∧findIn K (.ref C) f=some none ∧
 ∀ dx,H2 dx=none→dx≠e→D.nx σ (upd (upd H2 dx (.xd [(f,y)])) e (ExcN e C (some dx)))
def tXFld (K:PySem.W.Frag) (ta:TE) (f:Str):TE:=fun σ H Q=>ta σ H fun x H1=>∃ (a C dx:Addr) (fs:List (Str × V)) (v:V),x=.ref a∧H1 a=some (ExcO a C (some dx))∧H1 dx=some (.xd fs)∧ExcCl K C∧hasDictIn K C=true∧findIn K (.ref C) f=some none∧fs.lookup f=some v∧Q v H1
section
variable {X:Cx} {x f:Str} {e e0 o value:Expr} {es:List Expr} {t:TA} {ta tv:TE} {np apos pos pos':Pos} {Cp:Addr}
theorem pe_sup {pl:Sem Bool} (hm:X.mg x=some (.ref Cp)) (k:ClsAt X.K Cp "__init__" (.builtin "ValueError.__init__")) (hg:Gl X x) (ha:PA X (e0 :: es) t) (hdb:(x == ("__debug__" : Str))=false:=by decide)
 (he:starEach (e0 :: es) X.env=(false,eval e0 X.env) :: starEach es X.env:=by rfl) (hpl:(backTo pos (starEach es X.env)).any (·.1)=false:=by rfl)
 (ht:eval (.Call (.Attribute (.Name x np) "__init__" apos) (e0 :: es) [] pos) X.env=(do
  let ov ←eval (.Name x np) X.env
  standAt apos.atName
  let (f,first) ←holding [ov] (getMethod ov "__init__" pl)
  callWith pos f first (backTo pos (starEach (e0 :: es) X.env)) (backToKw pos (keywordEach [] X.env))):=by rfl) :
 PE X (.Call (.Attribute (.Name x np) "__init__" apos) (e0 :: es) [] pos) (tSup X.K t):=by
 intro pins s σ H Q I h
 refine methodCall_KW (pl:=pl) (ld_glob I hg hm ?_ hdb) ht
 refine getmeth_cls I.kIn k rfl ?_
 refine PyProof.Rows.callWith_builtin1 (thn (ha pos pins _ σ H _ (I.tok _) h) fun us s1 ⟨vs,H1,I1,r1,e,C,fI,dd,rest,ev,hH,q,hl,hQ⟩=>?_) he hpl
 subst ev
 obtain ⟨nm,qn,N,bs,bm,hdct,sn,sub,ab,col,dc,k0,k1,k2,k3,k5,hC,hok,hni,htl,_,_,_⟩:=x_obj q
 obtain ⟨⟨t0,ht0⟩,_,hst⟩:=I1.hok e _ hH
 cases r1 with
 | cons r1 rs =>
   cases r1
   obtain ⟨hh,g,d,tk,os⟩:=s1
   refine vinit (tail_of_in I1.kIn htl) (hC _ I1.kIn) ht0 (by rw [←rs.length]; exact hl) fun h' t1 kp ht1=>⟨.non,H1,?_,rfl,hQ⟩
   have I2:=I1.write (x:=e) (e:=e) (o:=ExcN e C dd) (h':=h') (t':=tk) (by rw [hH]; exact True.intro) (.inl rfl) (fun b u hb q=>kp b u q hb) ⟨_,ht1⟩ ⟨⟨t1,ht1⟩,⟨_,ht1⟩,fun g1 g2 ⟨t,p⟩ k=>⟨t,k _ p⟩⟩
   rw [upd_id hH] at I2
   exact I2
theorem ps_xfld (ha:PE X o ta) (hv:PE X value tv) (hs:swapsWith value (some (.Attribute o f pos')) pos.line X.env=pure false:=by rfl):PS X (.Assign [.Attribute o f pos'] value pos) (sXFld X.K ta tv f):=by
 intro pins s σ H D I h
 refine plainObj_wpAny_Assign_Attribute (thn (hv pins s σ H _ I h) fun u s1 ⟨y,H1,I1,ry,q⟩=>thn (ha pins s1 σ H1 _ I1 q) fun ov s2 ⟨x,H2,I2,rx,e,C,fI,ex,hH,qx,hsa,hna,q2⟩=>?_) hs
 subst ex
 obtain rfl:ov=Value.ref e:=rx
 obtain ⟨_,_,_,_,_,_,_,_,_,_,_,_,_,_,_,_,_,_,_,_,_,hdi,hov⟩:=x_obj qx
 obtain ⟨⟨t0,ht0⟩,_,_⟩:=I2.hok e _ hH
 refine xset I2.kIn ht0 hsa hov (by unfold takerIn; rw [hna]; rfl) hdi fun h' dx kp dn de hx' hns=>?_
 have hdx:H2 dx=none:=I2.freshN fun b u q z=>by rw [z,dn] at q; cases q
 have nb:∀ {b:Addr} {o:HO},H2 b=some o→b≠dx:=fun q z=>by rw [z,hdx] at q; cases q
 have ne:∀ {b:Addr} {o:Obj},s2.heap.get? b=some o→H2 b=none→b≠e:=fun _ n z=>by rw [z,hH] at n; cases n
 have nd:∀ {b:Addr} {o:Obj},s2.heap.get? b=some o→b≠dx:=fun q z=>by rw [z,dn] at q; cases q
 refine ⟨σ,_,I2.call' (s':={ s2 with heap:=h',toks:=s2.toks + 2 }) (ch:=[]) rfl ⟨fun b o q n _ _=>kp b o q (ne q n),fun b o q n _ _=>⟨o.slots,kp b o q (ne q n)⟩,fun b o q n _=>?_,fun b o q _=>?_,fun b xs q=>?_,fun b o u q=>?_,fun b ps q=>?_⟩ (fun b o q=>?_) I2.bare (fun b z=>absurd z (by simp)),q2 dx hdx de⟩
 · rw [upd_ne (ne q n),upd_ne (nd q)]; exact n
 · by_cases z:b=e
   · rw [z]; exact ⟨_,hx'⟩
   · exact ⟨o,kp b o q z⟩
 · rw [upd_ne (fun z=>by rw [z,hH] at q; cases q),upd_ne (nb q)]; exact q
 · rw [upd_ne (fun z=>by rw [z,hH] at q; cases q),upd_ne (nb q)]; exact q
 · exact ⟨#[],by rw [upd_ne (fun z=>by rw [z,hH] at q; cases q),upd_ne (nb q),q]; simp⟩
 · by_cases z:b=e
   · subst z
     rw [upd_same] at q
     cases q
     exact ⟨⟨t0,hx'⟩,⟨_,hx'⟩,fun g1 g2 ⟨t,p⟩ k=>⟨t,k _ p⟩⟩
   rw [upd_ne z] at q
   by_cases z2:b=dx
   · subst z2
     rw [upd_same] at q
     cases q
     refine ⟨_,hns,fun g=>?_⟩
     by_cases y2:g=f
     · subst y2
       simp only [List.lookup_cons,beq_self_eq_true,if_true]
       exact ry
     · have:(g == f)=false:=beq_eq_false_iff_ne.mpr y2
       simp only [List.lookup_cons,this,List.lookup_nil,if_neg y2]
       exact True.intro
   rw [upd_ne z2] at q
   refine (I2.hok b o q).stay (fun c w' hc p=>kp c w' p fun y3=>?_) (fun c p=>?_) fun c xs p=>?_
   · rcases hc with y4 | y4
     · exact z (y4.symm.trans y3)
     · rw [y3,hH] at y4; cases y4
   · rw [upd_ne (fun z=>by rw [z,hH] at p; cases p),upd_ne (nb p)]; exact p
   · rw [upd_ne (fun z=>by rw [z,hH] at p; cases p),upd_ne (nb p)]; exact p
theorem pe_xfld (he:PE X e ta) (hb:attributeBase e f X.env (eval e X.env)=eval e X.env:=by rfl):PE X (.Attribute e f pos) (tXFld X.K ta f):=by
 intro pins s σ H Q I h
 refine attr_of hb (thn (he pins s σ H _ I h) fun u s1 ⟨x,H1,I1,rx,a,C,dx,fs,v,ex,ea,ed,cl,hdi,hna,l,q⟩=>?_)
 subst ex
 obtain rfl:u=Value.ref a:=rx
 obtain ⟨⟨oe,vs,p1,p2,p3,p4⟩,_,_⟩:=I1.hok a _ ea
 obtain ⟨mA,hns,hr⟩:=I1.hok dx _ ed
 obtain ⟨od,ho,hl⟩:=lookIn_ns hns
 have hf:=hr f
 rw [l] at hf
 cases em:mA f with
 | none=>rw [em] at hf; exact False.elim hf
 | some u' =>
   rw [em] at hf
   refine xget cl I1.kIn (ox:=oe) (od:=some od) ⟨p1,p2,by unfold notCls; rw [p4],by rw [p3]; exact ho⟩ (findObj_own hdi hna rfl (by rw [hl,em])) (handed_of hf) ⟨v,H1,I1.tok _,hf,q⟩
end
end L2
namespace L2
open PySem PySem.Spec PySem.Calls PyProof.Rows PySem.W
def smallS (x:Str):Prop:=x.length≤8∧∀ c∈x.cps.toList,c < 16 ^ 8
theorem reads_strs {h:Heap}:∀ {ss:List Str} {us:List Value},Vals (ss.map V.str) us→ReadsAll h us (ss.map PyData.str) []
 | [],_,.nil=>.nil
 | x :: ss,_,.cons r t=>by
   obtain ⟨t',rfl⟩:=r
   exact .cons (as:=[]) (bs:=[]) (.str x t') (reads_strs t)
theorem shownAll_strs:∀ ss:List Str,PyData.shownAll (ss.map PyData.str)=ss.map reprText
 | []=>rfl
 | x :: ss=>by
   show PyData.shown (.str x) :: PyData.shownAll (ss.map PyData.str)=_
   rw [shownAll_strs ss]; rfl
theorem showable_strs:∀ ss:List Str,PyData.showableAll (ss.map PyData.str)=true
 | []=>rfl
 | x :: ss=>by
   show (PyData.showable (.str x) && PyData.showableAll (ss.map PyData.str))=true
   rw [showable_strs ss]; rfl
theorem noDict_strs:∀ ss:List Str,PyData.hasDictAll (ss.map PyData.str)=false
 | []=>rfl
 | x :: ss=>by
   show (PyData.hasDict (.str x) || PyData.hasDictAll (ss.map PyData.str))=false
   rw [noDict_strs ss]; rfl
theorem depth_strs:∀ ss:List Str,PyData.depthAll (ss.map PyData.str)≤1
 | []=>Nat.zero_le _
 | x :: ss=>by
   show max (PyData.depth (.str x)) (PyData.depthAll (ss.map PyData.str))≤1
   exact Nat.max_le.mpr ⟨by show 0≤1; decide,depth_strs ss⟩
theorem sum_small:∀ {ss:List Str},(∀ y∈ss,smallS y)→((ss.map reprText).map (·.length)).sum≤82 * ss.length
 | [],_=>Nat.le_refl _
 | x :: ss,h=>by
   obtain ⟨h1,h2⟩:=h x List.mem_cons_self
   have:=StrLaws.reprText_len x h2
   have:=sum_small fun y hy=>h y (List.mem_cons_of_mem _ hy)
   rw [List.map_cons,List.map_cons,List.sum_cons,List.length_cons]
   omega
def tFs (K:PySem.W.Frag) (tv:TE):TE:=fun σ H Q=>tv σ H fun x H1=>∃ (l:Addr) (ss:List Str),x=.ref l∧SqL K H1 l (ss.map V.str)∧ss.length≤100∧(∀ y∈ss,smallS y)∧∀ y,Q (.str y) H1
section
variable {X:Cx} {v:Expr} {tv:TE} {k:Nat} {c:Str} {p1 p2 p:Pos}
theorem pe_fstr {kk:Nat} (hr:Room k X.A) (hv:PE X v tv) (hc:c.length≤1000:=by decide):PE X (.JoinedStr [.Constant (.str c) kk p1,.FormattedValue v (-1) none p2] p) (tFs X.K tv):=by
 intro pins s σ H Q I h
 refine JoinedStr_many (joinParts_cons ?_)
 refine thn (pe_str (X:=X) pins s σ H (fun v1 H1=>v1=.str c∧H1=H) I ⟨rfl,rfl⟩) fun u s1 ⟨x,H1,I1,r,e1,e2⟩=>?_
 subst e1 e2
 obtain ⟨t1,rfl⟩:=r
 refine ⟨Nat.le_trans (by rw [strLen_append]; show 0 + c.length≤1000; omega) (by decide),?_⟩
 refine joinParts_cons (FormattedValue_plain ?_)
 refine thn (hv pins s1 σ H1 _ I1 h) fun u s2 ⟨x,H2,I2,r,l,ss,ex,hq,l100,hs,q⟩=>?_
 subst ex
 obtain rfl:u=Value.ref l:=r
 obtain ⟨its,rv,pl,_⟩:=I2.list hq
 obtain ⟨o,n,e1,e2,_,e3⟩:=pl
 have R:Reads s2.heap (.ref l) (.list (ss.map PyData.str)) [l]:=.list e1 e2 e3 (reads_strs rv)
 have hsh:(PyData.shown (.list (ss.map PyData.str))).length≤9000:=by
  show (listText (PyData.shownAll (ss.map PyData.str))).length≤9000
  rw [shownAll_strs]
  have:=listText_len_le (ss.map reprText)
  have:=sum_small hs
  rw [List.length_map] at *
  omega
 have hdp:PyData.depth (.list (ss.map PyData.str))≤2:=by
  show PyData.depthAll (ss.map PyData.str) + 1≤2
  have:=depth_strs ss
  omega
 have hun:=hr.units
 refine formatField_of_reads R (showable_strs ss) (PyData.noDict_hsm (noDict_strs ss)) hr.gd (by omega) (fun _ _ z=>z) (fun h' u tk kp=>?_) (Nat.le_trans hsh (by decide))
 have I3:Inv X pins σ H2 { s2 with heap:=h',toks:=tk }:=I2.un (Un.kept kp) (I2.hok.kept kp)
 have hl:(Str.empty++c++PyData.shown (.list (ss.map PyData.str))).length≤sizeLine:=Nat.le_trans (by rw [strLen_append,strLen_append]; show 0 + c.length + _≤10000; omega) (by decide)
 exact ⟨hl,joinParts_nil ⟨.str _,H2,I3.tok _,⟨_,rfl⟩,q _⟩ hl⟩
end
end L2
namespace L2
open PySem PySem.Spec PyProof.Rows
def CForm (K:PySem.W.Frag) (C:Addr):Prop:=∃ nm qn N bs bm hdct sn sub ab col dd k0 k1 k2 k3 k5 newId,∀ h:Heap,K.In h→h.get? C=some (excClassObj nm qn C N bs bm hdct sn sub ab col dd k0 k1 k2 k3 k5 newId)∧bm.contains (.type "BaseException")=true
theorem cform_x {K:PySem.W.Frag} {C:Addr} (q:∃ f,PySem.W.xIn K C f=true):CForm K C:=by
 obtain ⟨_,q⟩:=q
 obtain ⟨nm,qn,N,bs,bm,hdct,sn,sub,ab,col,dd,k0,k1,k2,k3,k5,h1,_,_,h2,_⟩:=x_obj q
 exact ⟨nm,qn,N,bs,bm,hdct,sn,sub,ab,col,dd,k0,k1,k2,k3,k5,_,fun h I=>⟨h1 h I,OwnTail.hasType (PySem.W.tail_of_in I h2) (by decide)⟩⟩
section
variable {X:Cx} {pins:List (Addr × Obj)} {σ:St} {H H':Hp} {s s':Shared} {v:Value}
theorem handledX {i:Nat} {x n:Str} {np hpos:Pos} {b₀:Stmt} {suite:List Stmt} {a C Cp:Addr} {dd:Option Addr} {D:Ends} {ts:TS} (I:Inv X pins σ H s) (hst:X.stack=X.env :: X.outer) (hfm:X.env.frame=some X.env.locals)
 (t:Th X.prog X.w X.stack H s H' s' a C dd) (hfly:∃ T,Fly s'.heap a T (.ref C) dd∧s.heap.get? T=none∧H' T=none) (fC:XForm X.K C) (kP:CForm X.K Cp) (hsub:subIn X.K C Cp=true)
 (hgx:Gl X x) (hmx:X.mg x=some (.ref Cp)) (hdx:(x == ("__debug__" : Str))=false) (hN:X.N.Nodup) (hi:X.N[i]?=some n) (hln:X.env.scope.names.lookup n=some .local)
 (hs:PSs (X.held (.ref a)) (b₀ :: suite) ts) (q:ts { nx:=fun σ' H'=>D.nx (σ'.set i none) H',rt:=D.rt } (σ.set i (some (.ref a))) (upd H' a (ExcO a C dd))) :
 wpAny (model X.prog X.w) X.A (noteFrame (.ref a) X.env) (fun _ s₂=>wpAny (model X.prog X.w) X.A (setFlight (.ref a) none) (fun _ s₃ =>
  wpAny (model X.prog X.w) X.A (handleBy (.ref a) X.env [.ExceptHandler (some (.Name x np)) (some n) (b₀ :: suite) hpos]) (SP X pins D) X.xe s₃) X.xe s₂) X.xe s':=by
 obtain ⟨T,fl,nT,fT⟩:=hfly
 have ff:∀ b∈frs X.stack,H' b=none:=fun b m=>by
  obtain ⟨_,o,ho,_⟩:=I.stack.mem m
  exact t.un.free b o ho (I.stkFree b m) (by simp)
 have hff:=ff_un (fun b m=>m) I.stkFree t.un I.stack
 have hfr:=I.ok.frames
 rw [hst] at hff hfr
 refine note_next hfr hff hfm fl fun h1 T1 g1=>?_
 rw [←hst] at g1
 have nT1:s.heap.get? T1=none:=by
  rcases g1.tr with z | z
  · rw [z]; exact nT
  · cases y:s.heap.get? T1 with
    | none=>rfl
    | some o=>obtain ⟨o',e⟩:=t.un.there T1 o y (by simp); rw [z] at e; cases e
 have fT1:H' T1=none:=by
  rcases g1.tr with z | z
  · rw [z]; exact fT
  · cases y:H' T1 with
    | none=>rfl
    | some o=>obtain ⟨u,e⟩:=(t.hok T1 o y).there; rw [z] at e; cases e
 obtain ⟨un1,hok1⟩:=th_step t.un t.hok t.new nT t.free fT ff g1.keep g1.slot
 refine flight_off g1.fly fun h2 fl2 k2=>?_
 obtain ⟨un2,hok2⟩:=th_step un1 hok1 t.new nT1 t.free fT1 ff (fun b o e _ z _=>k2 b o e z) (fun b o e m=>⟨o.slots,k2 b o e fun z=>by
  obtain ⟨_,o',ho,_⟩:=I.stack.mem m
  rw [z,nT1] at ho; cases ho⟩)
 obtain ⟨nm,qn,N,bs,bm,hdct,sn,sub,ab,col,ddC,k0,k1,k2',k3,k5,newC,hC,hm⟩:=fC
 obtain ⟨nm',qn',N',bs',bm',hdct',sn',sub',ab',col',dd',j0,j1,j2,j3,j5,nw',hP⟩:=kP
 have I2:Inv X pins σ H' { s' with heap:=h2 }:=I.call' (ch:=[]) t.os un2 hok2 t.bare fun b z=>absurd z (by simp)
 refine wpAny_handleBy_cons (codeAny_handlers_test (ld_glob (X:=X.held (.ref a)) I2.held hgx hmx ?_ hdx)) (by intro z; cases z)
 obtain ⟨oe,vs,oT,tts,e1,e2,_,e3,e4,e5,e6,e7,e8⟩:=id fl2
 refine match_own (hC h2 I2.kIn) (hP h2 I2.kIn).1 e1 e2 (hP h2 I2.kIn).2 (b:=true) ((hm Cp).symm.trans hsub) ?_
 refine codeAny_handlers_suite_as (flight_off (fl:=.none) fl2 fun h3 fl3 k3'=>?_)
 obtain ⟨un3,hok3⟩:=th_step un2 hok2 t.new nT1 t.free fT1 ff (fun b o e _ z _=>k3' b o e z) (fun b o e m=>⟨o.slots,k3' b o e fun z=>by
  obtain ⟨_,o',ho,_⟩:=I.stack.mem m
  rw [z,nT1] at ho; cases ho⟩)
 obtain ⟨oe3,vs3,_,_,y1,y2,y3,y4,_⟩:=id fl3
 have I3 : Inv X pins σ (upd H' a (ExcO a C dd)) { s' with heap := h3 } := by
  have nb:∀ b o,s.heap.get? b=some o→b≠a:=fun b o e z=>by rw [z,t.new] at e; cases e
  have nh:∀ b o,H' b=some o→b≠a:=fun b o e z=>by rw [z,t.free] at e; cases e
  refine I.call' (ch:=[]) t.os ⟨un3.keep,un3.slot,fun b o e n m=>?_,un3.there,fun b xs e=>?_,fun b o u e=>?_,fun b ps e=>?_⟩ (fun b o e=>?_) t.bare fun b z=>absurd z (by simp)
  · rw [upd_ne (nb b o e)]; exact un3.free b o e n m
  · have:=un3.tups b xs e
    rw [upd_ne (nh b _ this)]; exact this
  · have:=un3.frzs b o u e
    rw [upd_ne (nh b _ this)]; exact this
  · obtain ⟨more,this⟩:=un3.tbls b ps e
    exact ⟨more,by rw [upd_ne (nh b _ this)]; exact this⟩
  · by_cases z:b=a
    · subst z
      rw [upd_same] at e
      cases e
      exact ⟨⟨oe3,vs3,y1,y2,y3,y4⟩,⟨oe3,y1⟩,fun g1 g2 ⟨o,v,p1,p2⟩ k=>⟨o,v,k o p1,p2⟩⟩
    · rw [upd_ne z] at e
      exact (hok3 b o e).stay (fun _ _ _ z=>z) (fun c z=>by rw [upd_ne (nh c _ z)]; exact z) fun c xs z=>by rw [upd_ne (nh c _ z)]; exact z
 refine store_ok (X:=X.held (.ref a)) I3.held hN hi (.inl hln) (v:=.ref a) (u:=.ref a) rfl (fun s4 I4=>?_) (.inr hln)
 refine wpAny_mono (hs pins s4 _ _ _ I4 q) (fun f s5 z=>?_) fun _ _ z=>False.elim z
 cases f with
 | next =>
   obtain ⟨σ5,H5,I5,q5⟩:=z
   exact unbind_ok (I5.unheld I.ok) hN hi hln fun s6 I6=>⟨_,_,I6,q5⟩
 | brk=>obtain ⟨_,_,_,q5⟩:=z; exact False.elim q5
 | cont=>obtain ⟨_,_,_,q5⟩:=z; exact False.elim q5
 | ret u =>
   obtain ⟨v5,σ5,H5,I5,r5,q5⟩:=z
   exact unbind_ok (I5.unheld I.ok) hN hi hln fun s6 I6=>⟨v5,_,_,I6,r5,q5⟩
end
section
variable {X:Cx} {x y:Str} {k:Nat} {ps:List Str} {sp:Sp} {e:Expr} {es:List Expr} {t:TA} {p pos:Pos} {E:XK}
end
open PySem.Calls PySem.W
structure AskC (K:PySem.W.Frag) (D:Addr) (c:Value) (b:Bool):Prop where
 ty:∀ (M:Model) (h:Heap),K.In h→Looks M h (typeOf c) (.type "type")
 is:∀ (M:Model) (h:Heap),K.In h→Looks M h (isType c) true
 sub:∀ (M:Model) (h:Heap),K.In h→Looks M h (isSubtype (.ref D) c) b
section
variable {prog:Program} {w:World} {A:Around} {E:Value→Shared→Prop} {s:Shared} {K:PySem.W.Frag} {x D:Addr} {ox:Obj} {od:Option Obj} {c:Value}
end
def clsA (K:PySem.W.Frag) (x:Str):Addr:=match PySem.W.nsIn K mainGlobals x with
 | some (some (.ref C))=>C
 | _=>0
theorem clsA_of {K:PySem.W.Frag} {x:Str} {C:Addr} (h:PySem.W.nsIn K mainGlobals x=some (some (.ref C))):clsA K x=C:=by unfold clsA; rw [h]
theorem ask_VE {K:PySem.W.Frag} {C:Addr} {b:Bool} (e:PySem.W.subIn K (.ref C) (.type "ValueError")=some b):AskC K C (.type "ValueError") b :=
 ⟨fun M h _=>Looks.of_pure (by kernel_rfl),fun M h _=>Looks.of_pure (by kernel_rfl),fun M h X=>looks_subIn X e⟩
theorem pe_fnS {X:Cx} {x:Str} {k:Nat} {ps:List Str} {sp:Sp} {e:Expr} {es:List Expr} {t:TA} {p pos:Pos} (C:CalleeE X.prog X.w X.K X.mg X.base x k ps sp) (hr:Room k X.A) (hg:Gl X x) (ha:PA X (e :: es) t) (hdb:(x == ("__debug__" : Str))=false:=by decide)
 (he:starEach (e :: es) X.env=(false,eval e X.env) :: starEach es X.env:=by rfl) (hpl:(backTo pos (starEach es X.env)).any (·.1)=false:=by rfl):PE X (.Call (.Name x p) (e :: es) [] pos) (tCall sp [] E0 t):=by
 obtain ⟨f,fd,F,hm,hk,hb⟩:=C
 exact pe_call F hr hg hm hk hb .nil (fun _ _ _ _ _ _ _ h=>by obtain ⟨_,_,_,_,_,_,_,q⟩:=h; exact q.elim) ha hdb he hpl
theorem xform_x {K:PySem.W.Frag} {C f:Addr} (q:PySem.W.xIn K C f=true):XForm K C:=by
 obtain ⟨nm,qn,N,bs,bm,hdct,sn,sub,ab,col,dd,k0,k1,k2,k3,k5,h1,_,_,_,h2,_,_⟩:=x_obj q
 exact ⟨nm,qn,N,bs,bm,hdct,sn,sub,ab,col,dd,k0,k1,k2,k3,k5,_,h1,h2⟩
def CalleeI (P:Program) (w:World) (K:PySem.W.Frag) (mg:Str→Option Value) (base:Heap) (C:Addr) (k:Nat) (ps:List Str) (sp:Sp):Prop :=
 ∃ f fd,FnOk P w K mg base CX0 k f fd ps sp∧PySem.W.xIn K C f=true∧PySem.W.isFn K (.ref f)=true∧Binds K fd ps []
theorem ps_raiseC {X:Cx} {E:XK} {C:Addr} {ps:List Str} {sp:Sp} {k:Nat} {x:Str} {np cpos pos:Pos} {e0:Expr} {es:List Expr} {t:TA} (c:CalleeI X.prog X.w X.K X.mg X.base C k ps sp) (hT:Throws X E) (hc:X.calm=true) (hm:X.mg x=some (.ref C)) (hk:PySem.W.keepIn X.K (.ref C)=true) (hr:Room (k + 1) X.A) (hg:Gl X x) (ha:PA X (e0 :: es) t)
 (hdb:(x == ("__debug__" : Str))=false:=by decide) (he:starEach (e0 :: es) X.env=(false,eval e0 X.env) :: starEach es X.env:=by rfl) (hpl:(backTo cpos (starEach es X.env)).any (·.1)=false:=by rfl) :
 PS X (.Raise (some (.Call (.Name x np) (e0 :: es) [] cpos)) none pos) (tRaiseI C sp E t):=by
 obtain ⟨f,fd,F,q,hf,hb⟩:=c
 exact ps_raiseI hT hc hm q hf hk F hr hb hg ha hdb he hpl
theorem cls_of_mro {K:PySem.W.Frag} {C:Addr} {v:Value} {b:Bool} (h:PySem.W.mroIn K C v=some b):(PySem.W.clsIn K C).isSome=true:=by
 obtain ⟨cd,a,_⟩:=Option.bind_eq_some_iff.mp h
 rw [a]; rfl
theorem excCl_of {K:PySem.W.Frag} {C:Addr} (p:PySem.W.findIn K (.ref C) "__getattribute__" = some (some (.builtin "BaseException.__getattribute__"))) (p2:PySem.W.findIn K (.ref C) "__getattr__" = some none) (p3:PySem.W.mroIn K C (.type "BaseException")=some true) (q:PySem.W.findIn K (.ref C) "__class__" = some (some (.builtin "object.__class__"))) (hn:PySem.W.specialIn K (.builtin "object.__class__") "__get__" = some (some (.builtin "getset_descriptor.__get__"))) (ht:PySem.W.takesIn K (.builtin "object.__class__")=some true) (m:PySem.W.mroIn K C (.type "object")=some true):ExcCl K C :=
 ⟨p,p2,p3,cls_of_mro m,q,hn,ht,m⟩
theorem sub_of_mro {K:PySem.W.Frag} {C Cp:Addr} (h:PySem.W.mroIn K C (.ref Cp)=some true):L2.subIn K C Cp=true:=by
 obtain ⟨cd,a,b⟩:=Option.bind_eq_some_iff.mp h
 unfold PySem.W.clsIn at a
 unfold L2.subIn
 split at a
 · rename_i ho
   cases a
   rw [ho]
   show cd.mro.contains (.ref Cp)=true
   split at b
   · cases b
   · exact Option.some.inj b
 · cases a
end L2
namespace L2
open PySem PySem.Spec PyProof.Rows Ord
structure RingOk (ps:List (Str × Str)) (ring:List Str):Prop where
 ne:0 < ring.length
 nd:ring.Nodup
 up:∀ (i:Nat) (x y:Str),ring[i]?=some x→ring[i + 1]?=some y→(x,y)∈ps
 cl:∀ x y,ring[ring.length - 1]?=some x→ring[0]?=some y→(x,y)∈ps
theorem drop_at {c:List Str} {i:Nat} {x:Str} (h:c.dropLast[i]?=some x):c[i]?=some x:=by
 rw [List.getElem?_dropLast] at h
 split at h
 · exact h
 · cases h
theorem RingOk.of {ps:List (Str × Str)} {b:Str} {c:List Str} (C:Chain ps b b c):RingOk ps c.dropLast:=by
 have h2:=C.two
 have hlen:c.dropLast.length=c.length - 1:=List.length_dropLast
 refine ⟨by omega,C.nl,fun i x y h1 h2=>C.link i x y (drop_at h1) (drop_at h2),fun x y h1 h2=>?_⟩
 have e1:=drop_at h1
 have e2:=drop_at h2
 have e3:=C.hd
 rw [e2] at e3
 cases e3
 refine C.link _ _ _ e1 ?_
 rw [hlen,show c.length - 1 - 1 + 1=c.length - 1 by omega]
 exact C.lst
theorem RingOk.mem {ps:List (Str × Str)} {ring:List Str} (R:RingOk ps ring) {y:Str} (h:y∈ring):∃ p∈ps,y=p.2:=by
 obtain ⟨i,hi,e⟩:=List.mem_iff_getElem.mp h
 have hi':ring[i]?=some y:=by rw [List.getElem?_eq_getElem hi,e]
 cases i with
 | zero =>
   have h0:=R.ne
   have hl:ring.length - 1 < ring.length:=by omega
   exact ⟨_,R.cl _ _ (List.getElem?_eq_getElem hl) hi',rfl⟩
 | succ i =>
   have hl:i < ring.length:=by omega
   exact ⟨_,R.up i _ _ (List.getElem?_eq_getElem hl) hi',rfl⟩
def Keep1 (e:Addr) (H H':Hp):Prop:=∀ b o,H b=some o→b≠e→H' b=some o
section
variable {X:Cx}
def rIndex (K:PySem.W.Frag):V→List V→Hp→VK→Prop:=fun x vs H Q=>∃ l y n d ds xs,∃ j:Nat,x=.ref l∧vs=[y]∧(∀ e∈ds,Cmp n e d)∧n≤60∧IsDt K H y d∧SqL K H l xs∧IsDts K H xs ds∧ds[j]?=some d∧(∀ m,m < j→ds[m]?≠some d)∧Q (.int j) H
theorem mr_index (hu:X.A.units + 64 < cLine):MtR X "list.index" (rIndex X.K):=by
 intro pins s σ H x vs v us Q I rx rv h
 obtain ⟨l,y,n,d,ds,xs,j,rfl,rfl,hc,hn,td,hq,t,hj,hm,q⟩:=h
 cases rx
 obtain ⟨u,rfl,ru⟩:=rv.one
 obtain ⟨its,r,p,hz⟩:=I.list hq
 obtain ⟨h1,h2⟩:=in_items (A:=X.A.in1) I r t hc td ru (by rw [in1_units]; omega)
 obtain ⟨⟨oc,od,oD,os⟩,e,e1,k,e2⟩:=p.isList
 cases e1
 cases e2
 have ll:=r.length
 have lt:=t.length
 have hjl:j < ds.length:=(List.getElem?_eq_some_iff.mp hj).1
 have hji:j < its.toArray.size:=by rw [List.size_toArray]; omega
 have at_:∀ m (h:m < its.toArray.size),dec (∃ u',RelV u' its.toArray[m]∧IsDt X.K H u' d)=true↔ds[m]?=some d:=fun m h=>by
  have hl:m < its.length:=by simpa using h
  obtain ⟨y',hy',ry⟩:=r.get (i:=m) (x:=xs[m]'(by omega)) (List.getElem?_eq_getElem (by omega))
  obtain ⟨e',he,te⟩:=t.get (i:=m) (v:=xs[m]'(by omega)) (List.getElem?_eq_getElem (by omega))
  have e3:its.toArray[m]=y':=by
   rw [List.getElem?_eq_getElem hl] at hy'
   simpa using hy'
  rw [dec_iff,e3,he]
  refine ⟨fun ⟨u',ru',tu'⟩=>?_,fun z=>?_⟩
  · have:=ry.inj ru'
    subst this
    rw [IsDt.inj I te tu']
  · cases z
    exact ⟨_,ry,te⟩
 have sl:=line63
 have hs:sizeLine=16777216:=sizeLine_eq
 refine call_meets PySem.F.slot_list_index ⟨_,e,rfl⟩ PySem.F.entry_list_index (PySem.F.args_list_index_2 _ _) (SeqAt.list_indexAt l its.toArray k od os u (fun y=>dec (∃ u',RelV u' y∧IsDt X.K H u' d)) j hji (by omega) ((at_ j hji).mpr hj) fun m h hmj=>?_) ⟨e,h1,?_⟩
 · exact Bool.eq_false_iff.mpr fun z=>hm m hmj ((at_ m h).mp z)
 · exact ⟨.int j,H,I.tok _,⟨_,rfl⟩,q⟩
end
theorem RingOk.path {ps:List (Str × Str)} {ring:List Str} (R:RingOk ps ring):∃ a,Path ps a a:=by
 have h0:=R.ne
 have hx:∀ i (h:i < ring.length),i≠0→Path ps (ring[0]'(h0)) (ring[i]'(h)):=by
  intro i
  induction i with
  | zero=>intro _ h; exact absurd rfl h
  | succ i ih =>
    intro h _
    have e:=R.up i _ _ (List.getElem?_eq_getElem (by omega)) (List.getElem?_eq_getElem h)
    by_cases hi:i=0
    · subst hi; exact .one e
    · exact (ih (by omega) hi).snoc e
 have hl:ring.length - 1 < ring.length:=by omega
 have e:=R.cl _ _ (List.getElem?_eq_getElem hl) (List.getElem?_eq_getElem h0)
 by_cases h1:ring.length - 1=0
 · refine ⟨ring[0]'(h0),.one ?_⟩
   have e2:ring[ring.length - 1]'(hl)=ring[0]'(h0):=by congr 1
   rw [e2] at e
   exact e
 · exact ⟨ring[0]'(h0),(hx _ hl h1).snoc e⟩
end L2
namespace L2
open PySem PySem.Spec PyProof.Rows Ord
section
variable {X:Cx} {x y:Str} {k:Nat} {ps:List Str} {sp:Sp} {e:Expr} {es:List Expr} {t:TA} {p pos:Pos} {E:XK}
def tTryX (K:PySem.W.Frag) (Cp:Addr) (i:Nat) (sp:Sp) (t:TA) (ts:TS):TS:=fun D σ H=>t σ H fun vs H1=>sp vs H1 (fun _ H2=>D.nx σ H2) fun cls dd H2=>∃ C,cls=.ref C∧XForm K C∧subIn K C Cp=true ∧
 ∀ a,H2 a=none→ts { nx:=fun σ' H'=>D.nx (σ'.set i none) H',rt:=D.rt } (σ.set i (some (.ref a))) (upd H2 a (ExcO a C dd))
theorem ps_try_fnX {i:Nat} {n:Str} {np hpos cpos epos:Pos} {b₀:Stmt} {suite:List Stmt} {Cp:Addr} {ts:TS} (C:CalleeE X.prog X.w X.K X.mg X.base y k ps sp) (hr:Room k X.A) (hgy:Gl X y) (ha:PA X.nox (e :: es) t)
 (hst:X.stack=X.env :: X.outer) (hfm:X.env.frame=some X.env.locals) (kP:CForm X.K Cp) (hgx:Gl X x) (hmx:X.mg x=some (.ref Cp))
 (hN:X.N.Nodup) (hi:X.N[i]?=some n) (hln:X.env.scope.names.lookup n=some .local) (hs:∀ a:Addr,PSs (X.held (.ref a)) (b₀ :: suite) ts) (hdx:(x == ("__debug__" : Str))=false:=by decide) (hdy:(y == ("__debug__" : Str))=false:=by decide)
 (he:starEach (e :: es) X.env=(false,eval e X.env) :: starEach es X.env:=by rfl) (hpl:(backTo cpos (starEach es X.env)).any (·.1)=false:=by rfl) (hsw:swapsWith (.Call (.Name y p) (e :: es) [] cpos) none epos.line X.env=pure false:=by rfl) :
 PS X (.Try [.Expr (.Call (.Name y p) (e :: es) [] cpos) epos] [.ExceptHandler (some (.Name x np)) (some n) (b₀ :: suite) hpos] [] [] pos) (tTryX X.K Cp i sp t ts):=by
 intro pins s σ H D I h
 obtain ⟨f,fd,F,hm,hk,hb⟩:=C
 refine wpAny_Try_except (wpAny_execs_cons (wpAny_Expr_any ?_ I.quiet hsw))
 refine wpAny_Call_Name_kw (ld_glob I hgy hm ?_ hdy)
 refine PySem.W.callWith_K (h₀:=X.base) I.ok.mod.kin hk (wpAny_mono (ha cpos pins s σ H _ (I.wish _) h) (fun us s1 ⟨vs,H1,I1,r,q⟩=>⟨I1.kIn,?_⟩) fun _ _ z=>False.elim z) he hpl
 have I1:=I1.unwish
 have hl:us.length=ps.length:=by rw [←r.length]; exact F.len _ _ _ _ q
 have hb':=hb s1 us I1.kIn (by rw [List.append_nil]; exact hl)
 rw [List.append_nil] at hb'
 refine wpAny_call (codeAny_mono (F.run X.A X.stack s1 H1 ⟨us,[]⟩ us vs _ _ hr I1.env0 hb' r q) fun r s' hq=>?_)
 cases r with
 | error ev =>
   obtain ⟨a,C,dd,H',rfl,th,hfl,C',hc,kC,hsub,qs⟩:=hq
   cases hc
   exact handledX I1 hst hfm th hfl kC kP hsub hgx hmx hdx hN hi hln (hs a) (qs a th.free)
 | ok fl =>
   cases fl with
   | ret u =>
     obtain ⟨v,H2,I2,_,q2⟩:=I1.after hq
     exact wpAny_execs_nil (wpAny_execs_nil ⟨σ,H2,I2,q2⟩)
   | next=>exact False.elim hq
   | brk=>exact False.elim hq
   | cont=>exact False.elim hq
end
end L2
namespace L2
open PySem PySem.Spec PyProof.Rows Ord
section
variable {K:PySem.W.Frag} {M:Addr→Prop} {H H':Hp}
end
theorem comp_listT {K:PySem.W.Frag} {a:Addr} {xs:List V} {k:Nat} {caps:List Nat} {g:TG} {tc:TT} {te:TE} {σ:St} {H1:Hp} {Q:Addr→Hp→Prop} (Pv:Addr→Nat→List V→Hp→Prop)
 (h0:∀ D,H1 D=none→Pv D 0 [] (upd H1 D (.lst []))) (hq:∀ D i ys H2,Pv D i ys H2→SqL K H2 a xs)
 (hs:∀ D i x ys H2 (R:VK) (R0:Hp→Prop),H1 D=none→xs[i]?=some x→Pv D i ys H2→(∀ y H6,H6 D=some (.lst ys)→ys.length < sizeLine→Pv D (i + 1) (ys++[y]) (upd H6 D (.lst (ys++[y])))→R y H6)→(∀ H5,Pv D (i + 1) ys H5→R0 H5)→g x (compSt k caps σ) H2 fun σ4 H4=>tc σ4 H4 fun b H5=>if b=true then te σ4 H5 R else R0 H5)
 (hd:∀ D ys H2,H1 D=none→Pv D xs.length ys H2→Q D H2) :
 ∀ D,H1 D=none→∃ W:Nat→Nat→List V→Hp→Prop,(∃ m,W 0 m [] (upd H1 D (.lst [])))∧∀ i m ys H2,W i m ys H2 →
  ((Itl K a).stop i H2∧Q D H2)∨((Itl K a).go i H2∧∀ x H3,(Itl K a).yld i H2 x H3→g x (compSt k caps σ) H3 fun σ4 H4=>tc σ4 H4 fun b H5 =>
   if b=true then te σ4 H5 fun y H6=>H6 D=some (.lst ys)∧ys.length < sizeLine∧∃ m',m' < m∧W (i + 1) m' (ys++[y]) (upd H6 D (.lst (ys++[y]))) else ∃ m',m' < m∧W (i + 1) m' ys H5):=by
 intro D hD
 refine ⟨fun i m ys H2=>m=xs.length - i∧i≤xs.length∧Pv D i ys H2,⟨xs.length,rfl,Nat.zero_le _,h0 D hD⟩,?_⟩
 rintro i m ys H2 ⟨rfl,hi,p⟩
 have q2:=hq D i ys H2 p
 by_cases hlt:i < xs.length
 · refine .inr ⟨⟨xs,xs[i],q2,by simp [hlt]⟩,fun x H3 y=>?_⟩
   obtain ⟨rfl,y⟩:=y
   have hx:=y xs q2
   refine hs D i x ys H3 _ _ hD hx p (fun v H6 e6 hz p6=>?_) (fun H5 p5=>?_)
   · exact ⟨e6,hz,xs.length - (i + 1),by omega,rfl,hlt,p6⟩
   · exact ⟨xs.length - (i + 1),by omega,rfl,hlt,p5⟩
 · have e:i=xs.length:=by omega
   subst e
   exact .inl ⟨⟨xs,q2,Nat.le_refl _⟩,hd D ys H2 hD p⟩
structure Tab (K:PySem.W.Frag) (F:Addr→Prop) (H:Hp) (t:Addr) (rs:List Stt) (n:Int) (ord:List (Str × Str)):Prop where
 ex:∃ (a o:Addr) (us:List Addr) (ts:List Addr),H t=some (.tup [.ref a,.int n,.ref o])∧F a∧F o∧a≠o∧H a=some (.lst (us.map V.ref))∧StRows K F H a us rs∧H o=some (.lst (ts.map V.ref))∧Tups H ts ord
end L2
namespace L2
open PySem PySem.Spec PyProof.Rows
end L2
namespace L2
open PySem PySem.Spec PyProof.Rows
structure Nst (mg:Str→Option Value) (base:Heap) (c T:Addr):Prop where
 hd:PySem.W.CodeHd base c T
 bm:∃ bm ob,mg "__builtins__" = some (.ref bm)∧bm≠builtinsNs∧bm≠mainGlobals∧base.get? bm=some ob∧ob.cls=.type "module" ∧ ob.dict=some builtinsNs∧ob.data=.plain
def CellO (c p:Addr):HO:=.ext fun h=>h.IsCell c (some (.ref p))
def CodeO (c:Addr) (q:Str):HO:=.ext fun h=>h.CodeRec (.ref c) q
def FnO (f:Addr) (st:Stmt) (qual:Str) (name:Str) (clos:List (Str × Addr)) (c':Addr):HO :=
 .ext fun h=>∃ doc pm ctv,h.get? f=some (PySem.W.fnMade name qual (defArgs st) (defBody st) (defScope st) clos doc pm c' ctv)
theorem cellO_stay {c p:Addr} (h1 h2:Heap) (x:h1.IsCell c (some (.ref p))) (k:∀ o,h1.get? c=some o→h2.get? c=some o):h2.IsCell c (some (.ref p)) :=
 let ⟨o,e,d⟩:=x; ⟨o,k o e,d⟩
theorem codeO_stay {c:Addr} {q:Str} (h1 h2:Heap) (x:h1.CodeRec (.ref c) q) (k:∀ o,h1.get? c=some o→h2.get? c=some o):h2.CodeRec (.ref c) q:=by
 obtain ⟨c2,oc,vs,t,e,a,b⟩:=x
 cases e
 exact ⟨c,oc,vs,t,rfl,k _ a,b⟩
theorem fnO_stay {f c':Addr} {st:Stmt} {qual name:Str} {clos:List (Str × Addr)} (h1 h2:Heap) (x:∃ doc pm ctv,h1.get? f=some (PySem.W.fnMade name qual (defArgs st) (defBody st) (defScope st) clos doc pm c' ctv)) (k:∀ o,h1.get? f=some o→h2.get? f=some o) :
 ∃ doc pm ctv,h2.get? f=some (PySem.W.fnMade name qual (defArgs st) (defBody st) (defScope st) clos doc pm c' ctv) :=
 let ⟨d,p,c,e⟩:=x; ⟨d,p,c,k _ e⟩
section
variable {P:Program} {w:World} {H:Hp} {h h':Heap} {a:Addr} {o:HO}
theorem HOk.track (x:HOk P w H h) (hn:H a=none) (new:ObjOk P w (upd H a o) h a o):HOk P w (upd H a o) h:=fun b u e=>by
 by_cases hb:b=a
 · subst hb; rw [upd_same] at e; cases e; exact new
 · rw [upd_ne hb] at e
   exact (x b u e).stay (fun c v _ q=>q) (fun c q=>by rw [upd_ne (ne_of_none q hn)]; exact q) fun c xs q=>by rw [upd_ne (ne_of_none q hn)]; exact q
def drop1 (H:Hp) (a:Addr):Hp:=fun b=>if b=a then none else H b
theorem drop1_same:drop1 H a a=none:=if_pos rfl
theorem drop1_ne {b:Addr} (hb:b≠a):drop1 H a b=H b:=if_neg hb
theorem drop1_none {b:Addr} (h:H b=none):drop1 H a b=none:=by
 unfold drop1; split
 · rfl
 · exact h
theorem HOk.drop (x:HOk P w H h) {φ:Heap→Prop} (ha:H a=some (.ext φ)):HOk P w (drop1 H a) h:=fun b u e=>by
 by_cases hb:b=a
 · subst hb; rw [drop1_same] at e; cases e
 · rw [drop1_ne hb] at e
   exact (x b u e).stay (fun c v _ q=>q) (fun c q=>by rw [drop1_ne (ne_of q ha (fun z=>nomatch z))]; exact q) fun c xs q=>by rw [drop1_ne (ne_of q ha (fun z=>nomatch z))]; exact q
end
section
variable {X:Cx}
def tDef (T:Addr) (i:Nat) (st:Stmt) (pos:Pos) (name qual:Str) (clos:List (Str × Addr)):TS:=fun D σ H =>
 (H T=some (.tbl #[])∧∀ f c',H f=none→H c'=none→c'≠f →
  D.nx (σ.set i (some (.ref f))) (upd (upd (upd H T (.tbl #[rawInt pos.line,rawInt pos.col,.ref c'])) c' (CodeO c' qual)) f (FnO f st qual name clos c'))) ∨
 (∃ c',H T=some (.tbl #[rawInt pos.line,rawInt pos.col,.ref c'])∧∀ f,H f=none→D.nx (σ.set i (some (.ref f))) (upd H f (FnO f st qual name clos c')))
theorem Inv.bats {pins:List (Addr × Obj)} {σ:St} {H:Hp} {s:Shared} {c T:Addr} {ps:Array Value} (I:Inv X pins σ H s) (NS:Nst X.mg X.base c T) (hT:H T=some (.tbl ps)):s.heap.BuiltinsAt X.mg T:=by
 obtain ⟨bm,ob,b1,b2,b3,b4,b5,b6,b7⟩:=NS.bm
 refine ⟨bm,ob,b1,b2,b3,?_,I.bk _ _ b4,b5,b6,b7⟩
 intro z
 have:=(I.bs _ _ b4).2
 rw [z,hT] at this; cases this
theorem ps_def {c T:Addr} {i:Nat} {name:Str} {params:Arguments} {body:List Stmt} {scope:Scope} {pos:Pos} {clos:List (Str × Addr)} {qual:Str} {st:Stmt} (est:st=.FunctionDef name params body [] none [] scope none name pos)
 (NS:Nst X.mg X.base c T) (hN:X.N.Nodup) (hi:X.N[i]?=some name) (hx:X.env.scope.names.lookup name=some .local) (hcode:X.env.code=.ref c) (hcl:closureFor scope X.env=pure clos)
 (hq:qualnameIn X.env name name=qual) (hd0:params.defaults=[]) (hk0:params.kw_defaults=[]) (ha:annTrees params none X.env=[]):PS X st (tDef T i st pos name qual clos):=by
 subst est
 intro pins s σ H D I h
 refine PySem.W.nestDef_K hd0 hk0 ha ?_
 rw [hq]
 have gl:s.heap.Ns mainGlobals X.mg:=I.mod.glob.keeps I.bk
 have CH:PySem.W.CodeHd s.heap c T:=NS.hd.keeps I.bk
 rcases h with ⟨hT,k⟩ | ⟨c',hT,k⟩
 · have eT : s.heap.get? T = some (PySem.W.tabObj #[]) := I.hok T _ hT
   have gT:mainGlobals≠T:=fun z=>by
    obtain ⟨o,es,ep,e,d,_⟩:=gl
    rw [z,eT] at e; cases e; cases d
   refine PySem.W.makeFunction_K hcl I.ok.glob gl hcode CH eT trivial rfl gT (I.bats NS hT) fun c' ctv doc h' tk hx' hge hlt hrec htb=>?_
   have nT:∀ b,H b=none→b≠T:=fun b hb z=>by rw [z,hT] at hb; cases hb
   have hcT:c'≠T:=fun z=>Nat.lt_irrefl _ (Nat.lt_of_lt_of_le (Heap.lt_size eT) (z ▸ hge))
   have hfT:h'.objs.size≠T:=fun z=>Nat.lt_irrefl _ (Nat.lt_of_lt_of_le (Heap.lt_size eT) (z ▸ Nat.le_trans hge (Nat.le_of_lt hlt)))
   have hcn:H c'=none:=I.hok.fresh hge
   have hfn:H h'.objs.size=none:=I.hok.fresh (Nat.le_trans hge (Nat.le_of_lt hlt))
   have hcf:c'≠h'.objs.size:=Nat.ne_of_lt hlt
   have old:∀ b u,H b≠some (.tbl #[])∨b≠T→s.heap.get? b=some u→(h'.push (PySem.W.fnMade name qual params body scope clos doc ((X.mg "__name__").getD .none) c' ctv)).get? b=some u:=fun b u hb e =>
    Heap.get?_push_of_some _ (hx' b u (fun z=>by rcases hb with hb | hb; exact hb (z ▸ hT); exact hb z) e)
   have at3:∀ b u,b≠T→H b=some u→(upd (upd (upd H T (.tbl #[rawInt pos.line,rawInt pos.col,.ref c'])) c' (CodeO c' qual)) h'.objs.size (FnO h'.objs.size (.FunctionDef name params body [] none [] scope none name pos) qual name clos c')) b=some u:=fun b u hb e=>by
    rw [upd_ne (ne_of_none e hfn),upd_ne (ne_of_none e hcn),upd_ne hb]; exact e
   have hT3:(upd (upd (upd H T (.tbl #[rawInt pos.line,rawInt pos.col,.ref c'])) c' (CodeO c' qual)) h'.objs.size (FnO h'.objs.size (.FunctionDef name params body [] none [] scope none name pos) qual name clos c')) T=some (.tbl #[rawInt pos.line,rawInt pos.col,.ref c']):=by
    rw [upd_ne (Ne.symm hfT),upd_ne (Ne.symm hcT),upd_same]
   refine store_ok (H:=upd (upd (upd H T (.tbl #[rawInt pos.line,rawInt pos.col,.ref c'])) c' (CodeO c' qual)) h'.objs.size (FnO h'.objs.size (.FunctionDef name params body [] none [] scope none name pos) qual name clos c')) (v:=.ref h'.objs.size) ?_ hN hi (.inl hx) rfl (fun s2 I2=>⟨_,_,I2,k _ c' hfn hcn hcf⟩) (.inr hx)
   refine I.step (g':=s.gens) (d':=s.drawn) (ch:=[]) (fun _ z=>nomatch z) (fun b o _ _ _ e n=>old b o (.inr (nT b n)) e) (fun b o _ _ _ e n=>⟨o.slots,old b o (.inr (nT b n)) e⟩) (fun b o _ e n=>?_) (fun b o _ e=>?_) (fun b xs e=>?_) (fun b o u e=>?_) (fun b ps e=>?_) (fun m hm=>?_) (fun b u e=>?_) I.bare
   · have hb:=Nat.lt_of_lt_of_le (Heap.lt_size e) hge
     rw [upd_ne (Nat.ne_of_lt (Nat.lt_trans hb hlt)),upd_ne (Nat.ne_of_lt hb),upd_ne (nT b n)]; exact n
   · by_cases hb:b=T
     · exact ⟨_,by rw [hb]; exact Heap.get?_push_of_some _ htb⟩
     · exact ⟨o,old b o (.inr hb) e⟩
   · exact at3 b _ (ne_of e hT (fun z=>nomatch z)) e
   · exact at3 b _ (ne_of e hT (fun z=>nomatch z)) e
   · by_cases hb:b=T
     · subst hb
       rw [hT] at e; cases e
       exact ⟨#[rawInt pos.line,rawInt pos.col,.ref c'],by rw [hT3]; simp⟩
     · exact ⟨#[],by rw [at3 b _ hb e]; simp⟩
   · obtain ⟨o,es,ep,ho,r⟩:=hm
     exact ⟨o,es,ep,old _ o (.inr (nT _ I.free)) ho,r⟩
   · by_cases hf:b=h'.objs.size
     · subst hf; rw [upd_same] at e; cases e
       exact ⟨⟨doc,_,ctv,Heap.get?_push_size _ rfl⟩,⟨_,Heap.get?_push_size _ rfl⟩,fnO_stay⟩
     · rw [upd_ne hf] at e
       by_cases hc:b=c'
       · subst hc; rw [upd_same] at e; cases e
         have q:(h'.push (PySem.W.fnMade name qual params body scope clos doc ((X.mg "__name__").getD .none) b ctv)).CodeRec (.ref b) qual:=codeO_stay _ _ hrec fun o z=>Heap.get?_push_of_some _ z
         refine ⟨q,?_,codeO_stay⟩
         obtain ⟨c2,oc,_,_,z,a,_⟩:=q
         cases z
         exact ⟨oc,a⟩
       · rw [upd_ne hc] at e
         by_cases hb:b=T
         · subst hb; rw [upd_same] at e; cases e
           show Heap.get? _ _=_
           exact Heap.get?_push_of_some _ htb
         · rw [upd_ne hb] at e
           refine (I.hok b u e).stay (fun d v hd q=>?_) (fun d q=>at3 d _ (ne_of q hT (fun z=>nomatch z)) q) fun d xs q=>at3 d _ (ne_of q hT (fun z=>nomatch z)) q
           refine old d v (.inr ?_) q
           rcases hd with rfl | hd
           · exact hb
           · exact ne_of hd hT (fun z=>nomatch z)
 · have eT:s.heap.get? T=some (PySem.W.tabObj #[rawInt pos.line,rawInt pos.col,.ref c']):=I.hok T _ hT
   refine PySem.W.makeFunction_hit (cv:=.ref c') hcl I.ok.glob gl hcode CH eT (by simp [TriplesOk,rawInt]) (by simp [codeAmong,rawInt]) (I.bats NS hT) fun ctv doc h' tk hk hsz=>?_
   have hfn:H h'.objs.size=none:=I.hok.fresh hsz
   refine store_ok (H:=upd H h'.objs.size (FnO h'.objs.size (.FunctionDef name params body [] none [] scope none name pos) qual name clos c')) (v:=.ref h'.objs.size) ?_ hN hi (.inl hx) rfl (fun s2 I2=>⟨_,_,I2,k _ hfn⟩) (.inr hx)
   exact I.laid (fun b u e=>Heap.get?_push_of_some _ (hk b u e)) hsz ⟨⟨doc,_,ctv,Heap.get?_push_size _ rfl⟩,⟨_,Heap.get?_push_size _ rfl⟩,fnO_stay⟩
end
end L2
namespace L2
open PySem PySem.Spec PyProof.Rows
section
variable {fs ex:List Addr} {H H':Hp} {h h':Heap} {c:Addr} {o:HO} {φ:Heap→Prop}
theorem Un.retrack (u:Un fs ex (drop1 H c) H' h h') (hc:H c=some (.ext φ)):Un fs ex H (upd H' c o) h h' where
 keep:=fun b ob q n hb hx=>u.keep b ob q (drop1_none n) hb hx
 slot:=fun b ob q n hb hx=>u.slot b ob q (drop1_none n) hb hx
 free:=fun b ob q n hx=>by rw [upd_ne (Ne.symm (ne_of_none hc n))]; exact u.free b ob q (drop1_none n) hx
 there:=u.there
 tups:=fun b xs q=>by
  have nb:b≠c:=ne_of q hc (fun z=>nomatch z)
  rw [upd_ne nb]; exact u.tups b xs (by rw [drop1_ne nb]; exact q)
 frzs:=fun b ob v q=>by
  have nb:b≠c:=ne_of q hc (fun z=>nomatch z)
  rw [upd_ne nb]; exact u.frzs b ob v (by rw [drop1_ne nb]; exact q)
 tbls:=fun b ps q=>by
  have nb:b≠c:=ne_of q hc (fun z=>nomatch z)
  rw [upd_ne nb]; exact u.tbls b ps (by rw [drop1_ne nb]; exact q)
theorem Un.track (u:Un fs ex H H' h h') (hg:h.objs.size≤c) (hn:H' c=none):Un fs ex H (upd H' c o) h h' where
 keep:=u.keep
 slot:=u.slot
 free:=fun b ob q n hx=>by rw [upd_ne (Nat.ne_of_lt (Nat.lt_of_lt_of_le (Heap.lt_size q) hg))]; exact u.free b ob q n hx
 there:=u.there
 tups:=fun b xs q=>by have e:=u.tups b xs q; rw [upd_ne (ne_of_none e hn)]; exact e
 frzs:=fun b ob v q=>by have e:=u.frzs b ob v q; rw [upd_ne (ne_of_none e hn)]; exact e
 tbls:=fun b ps q=>by obtain ⟨m,e⟩:=u.tbls b ps q; exact ⟨m,by rw [upd_ne (ne_of_none e hn)]; exact e⟩
end
def cxClo (X:Cx) (N:List Str) (qual:Str) (scope:Scope) (f c':Addr) (clos:List (Str × Addr)) (s:Shared) (H:Hp):Cx where
 prog:=X.prog
 w:=X.w
 K:=X.K
 mg:=X.mg
 base:=X.base
 A:=X.A.deeper (PySem.W.envX qual scope s.heap.objs.size f (.ref c') clos)
 N:=N
 s₀:=s
 H₀:=H
 env:=PySem.W.envX qual scope s.heap.objs.size f (.ref c') clos
 outer:=X.stack
 stack:=PySem.W.envX qual scope s.heap.objs.size f (.ref c') clos :: X.stack
 ex:=[]
 fn:=fun _=>false
 calm:=true
 pn:=[]
 xe:=fun _ _=>False
structure CloScope (ps:List Str) (y:Str) (sc:Scope):Prop where
 kind:sc.kind=.function
 co:sc.isCoroutine=false
 gen:sc.isGenerator=false
 nd:(ps++[y]).Nodup
 nocell:∀ x∈sc.names,x.2≠.cell
 par:∀ x∈ps,sc.names.lookup x=some .local
 cap:sc.names.lookup y=some .free
 one:∀ x∈sc.names,x.2=.free→x.1=y
theorem rev_zip_none:∀ {ps:List Str} {us:List Value} {x:Str},x ∉ ps→(ps.zip us).reverse.lookup x=none
 | [],_,_,_=>rfl
 | _ :: _,[],_,_=>rfl
 | p :: ps,w :: us,x,h=>by
   have e:((p :: ps).zip (w :: us)).reverse=(ps.zip us).reverse++[(p,w)]:=by simp
   rw [e,List.lookup_append,rev_zip_none fun m=>h (List.mem_cons_of_mem _ m)]
   have hb:(x == p)=false:=beq_eq_false_iff_ne.mpr fun z=>h (z ▸ List.mem_cons_self)
   simp [List.lookup,hb]
theorem rev_zip_get:∀ {ps:List Str} {us:List Value} {i:Nat} {x:Str} {u:Value},ps.Nodup→ps[i]?=some x→us[i]?=some u→(ps.zip us).reverse.lookup x=some u
 | [],_,_,_,_,_,h,_=>by simp at h
 | _ :: _,[],_,_,_,_,_,h=>by simp at h
 | p :: ps,w :: us,0,x,u,nd,h1,h2=>by
   simp at h1 h2
   subst h1; subst h2
   have e:((p :: ps).zip (w :: us)).reverse=(ps.zip us).reverse++[(p,w)]:=by simp
   rw [e,List.lookup_append,rev_zip_none (List.nodup_cons.mp nd).1]
   simp [List.lookup]
 | p :: ps,w :: us,i + 1,x,u,nd,h1,h2=>by
   have e:((p :: ps).zip (w :: us)).reverse=(ps.zip us).reverse++[(p,w)]:=by simp
   rw [e,List.lookup_append,rev_zip_get (List.nodup_cons.mp nd).2 (by simpa using h1) (by simpa using h2)]
   rfl
section
variable {X:Cx} {pins:List (Addr × Obj)} {σ:St} {H:Hp} {s:Shared}
theorem inv_clo {ps:List Str} {y qual:Str} {sc:Scope} {f c c' p:Addr} {us:List Value} {vs:List V} {h1:Heap} {tk:Nat} (S:CloScope ps y sc) (I:Inv X pins σ H s) (hd:X.A.handled=none) (hc:H c=some (CellO c p))
 (r:Vals vs us) (hl:vs.length=ps.length) (hns:h1.Ns s.heap.objs.size fun x=>(ps.zip us).reverse.lookup x) (hk:∀ b o,s.heap.get? b=some o→h1.get? b=some o) :
 Inv (cxClo X (ps++[y]) qual sc f c' [(y,c)] s (drop1 H c)) [] (vs.map some++[some (.ref p)]) (drop1 H c) { s with heap:=h1,toks:=tk }:=by
 have noA:∀ b:Addr,b ∉ (cxClo X (ps++[y]) qual sc f c' [(y,c)] s (drop1 H c)).ex:=fun b z=>absurd (show b∈([]:List Addr) from z) (by simp)
 have only:∀ x d,([(y,c)]:List (Str × Addr)).lookup x=some d→x=y∧d=c:=fun x d e=>by
  have:=PySem.mem_of_lookup e
  simp at this
  exact this
 have self:([(y,c)]:List (Str × Addr)).lookup y=some c:=by simp
 obtain ⟨hcell,_,_⟩:=(show ObjOk X.prog X.w H s.heap c (CellO c p) from I.hok c _ hc)
 have hcell1:h1.IsCell c (some (.ref p)):=cellO_stay _ _ hcell fun o e=>hk _ _ e
 have ndP:ps.Nodup:=S.nd.sublist (List.sublist_append_left _ _)
 refine ⟨⟨I.ok.mod,S.kind,rfl,rfl,Nat.le_refl _,fun x z d e1 e2=>(only x d e1).1.trans (only z d e2).1.symm,fun x hx=>?_,fun _ _ z=>(nomatch z),fun _=>hd,Around.frames_deeper I.ok.frames,.inr ⟨rfl,rfl⟩,fun b z=>absurd z (noA b),fun b o e=>⟨I.bk b o e,drop1_none (I.bs b o e).2⟩,Nat.le_trans I.ok.bsz I.sz,fun b _ _=>noA b,fun b z=>absurd z (noA b),I.stack,fun b hb=>drop1_none (I.stkFree b hb)⟩,
  rfl,I.bare,Un.kept hk,⟨_,hns,fun i x v h1' h2 h3=>?_⟩,fun x d e=>?_,I.hok.drop hc |>.fresh (Nat.le_refl _),fun x d e=>?_,fun p hp=>absurd (show p∈([]:List (Addr × Obj)) from hp) (by simp),(I.hok.drop hc).kept hk,?_⟩
 · have hx:sc.names.lookup x=some .cell∨sc.names.lookup x=some .free:=hx
   rcases hx with hx | hx
   · exact absurd rfl (S.nocell _ (PySem.mem_of_lookup hx))
   · have:x=y:=S.one _ (PySem.mem_of_lookup hx) rfl
     subst this
     exact ⟨c,self⟩
 · have h1':(ps++[y])[i]?=some x:=h1'
   by_cases hi:i < ps.length
   · have hx:ps[i]?=some x:=by rw [←h1',List.getElem?_append_left hi]
     have hv:vs[i]?=some v:=by
      rw [List.getElem?_append_left (by rw [List.length_map]; omega),List.getElem?_map] at h2
      cases e:vs[i]? with
      | none=>rw [e] at h2; cases h2
      | some a=>rw [e] at h2; cases h2; rfl
     obtain ⟨u,hu,rv⟩:=r.get hv
     exact ⟨u,rv,.inl ⟨S.par x (List.mem_of_getElem? hx),rev_zip_get ndP hx hu⟩⟩
   · rw [List.getElem?_append_right (by omega)] at h1'
     rw [List.getElem?_append_right (by rw [List.length_map]; omega),List.length_map,hl] at h2
     cases hj:i - ps.length with
     | zero =>
       rw [hj] at h1' h2
       cases h1'
       cases h2
       exact ⟨.ref p,rfl,.inr ⟨.inr S.cap,c,self,hcell1⟩⟩
     | succ j=>rw [hj] at h1'; simp at h1'
 · obtain ⟨rfl,rfl⟩:=only x d e
   exact ⟨_,hcell1⟩
 · obtain ⟨rfl,rfl⟩:=only x d e
   exact drop1_same
 · show _=(ps++[y]).length
   rw [List.length_append,List.length_append,List.length_map,hl]; rfl
def tClo (i n:Nat) (st:Stmt) (qual name y:Str) (te:TE) (t:TA):TE:=fun σ H Q=>tVar i σ H fun x H1=>∃ f c c',x=.ref f∧H1 f=some (FnO f st qual name [(y,c)] c') ∧
 t σ H1 fun vs H2=>∃ p,H2 f=some (FnO f st qual name [(y,c)] c')∧H2 c'=some (CodeO c' qual)∧H2 c=some (CellO c p)∧vs.length=n∧te (vs.map some++[some (.ref p)]) (drop1 H2 c) fun v H'=>H' c=none→Q v (upd H' c (CellO c p))
theorem pe_clo {i : Nat} {x : Str} {st : Stmt} {qual name y : Str} {ps : List Str} {e b : Expr} {es : List Expr} {te : TE} {t : TA} {p pos bpos : Pos} {n k : Nat} (hN : X.N[i]? = some x) (hv : Vis X.env.scope x) (S : CloScope ps y (defScope st)) (hb : defBody st = [.Return (some b) bpos]) (hr : Room k X.A) (hlen : ps.length = n)
 (hbind:∀ (clos:List (Str × Addr)) (c':Addr) (doc pm ctv:Value) (us:List Value),us.length=ps.length→bindArgs (PySem.W.fnX name qual (defArgs st) (defBody st) (defScope st) clos .none .none doc pm none (.ref c') ctv) ⟨us,[]⟩=pure (ps.zip us))
 (he:∀ f c c' s H,PE (cxClo X (ps++[y]) qual (defScope st) f c' [(y,c)] s H) b te) (ha:PA X (e :: es) t)
 (hd:(x == ("__debug__" : Str))=false:=by decide) (hcd:(x == ("__classdict__" : Str))=false:=by decide) (hst:starEach (e :: es) X.env=(false,eval e X.env) :: starEach es X.env:=by rfl) (hpl:(backTo pos (starEach es X.env)).any (·.1)=false:=by rfl) :
 PE X (.Call (.Name x p) (e :: es) [] pos) (tClo i n st qual name y te t):=by
 intro pins s σ H Q I h
 refine wpAny_Call_Name_kw (thn (pe_var hN hv hd hcd pins s σ H _ I h) fun u s0 ⟨v,H0,I0,rv,f,c,c',ev,ef,q0⟩=>?_)
 subst ev
 obtain rfl:u=Value.ref f:=rv
 have fnAt:∀ {σ:St} {H:Hp} {s:Shared},Inv X pins σ H s→H f=some (FnO f st qual name [(y,c)] c')→PySem.W.FnAt f s.heap:=fun J z=>by
  obtain ⟨⟨doc,pm,ctv,e⟩,_⟩:=(show ObjOk _ _ _ _ f (FnO f st qual name [(y,c)] c') from J.hok f _ z)
  exact ⟨_,_,_,_,e⟩
 refine PySem.W.callWith_F (fnAt I0 ef) (thn (ha pos pins s0 σ H0 _ I0 q0) fun us s1 ⟨vs,H1,I1,r,p,ef1,ec'1,ec1,hvl,q⟩=>⟨fnAt I1 ef1,?_⟩) hst hpl
 have hvp:vs.length=ps.length:=hvl.trans hlen.symm
 have hup:us.length=ps.length:=r.length.symm.trans hvp
 obtain ⟨⟨doc,pm,ctv,eo⟩,_⟩:=(show ObjOk _ _ _ _ f (FnO f st qual name [(y,c)] c') from I1.hok f _ ef1)
 obtain ⟨hrec,_,_⟩:=(show ObjOk _ _ _ _ c' (CodeO c' qual) from I1.hok c' _ ec'1)
 refine wpAny_call (codeAny_mono (R:=fun r s'=>∃ u,r=.ok (.ret u)∧CE X.stack X.prog X.w H1 s1 Q u s') ?_ fun r s' ⟨u,e,hq⟩=>?_)
 · refine codeAny_call_def (fd:=PySem.W.fnX name qual (defArgs st) (defBody st) (defScope st) [(y,c)] .none .none doc pm none (.ref c') ctv) (body:=defBody st) (binds:=ps.zip us) hr.depth eo rfl I1.nolimit hrec rfl (.of_eq (hbind _ _ _ _ _ us hup)) S.nocell (fun z hz=>S.par z.1 (List.of_mem_zip (a:=z.1) (b:=z.2) hz).1) (fun h₀ hns hk=>?_) S.co S.gen S.kind
   have J:=inv_clo (qual:=qual) (f:=f) (c':=c') (tk:=s1.toks + (ps.zip us).length) S I1 hr.hd ec1 r hvp hns hk
   rw [hb]
   refine wpAny_mono (wpAny_execs_cons (wpAny_Return_some (thn (he f c c' s1 (drop1 H1 c) [] _ _ _ _ J q) fun u s2 ⟨v,H2,J2,r2,q2⟩=>?_))) (fun fl s2 hs=>hs) fun e s2 hs=>(hs:False).elim
   refine ⟨u,rfl,v,upd H2 c (CellO c p),J2.os,J2.bare,?_,?_,r2,?_⟩
   · exact Un.retrack J2.base ec1
   · have hn:H2 c=none:=J2.freeC y c (by show ([(y,c)]:List (Str × Addr)).lookup y=some c; simp)
     obtain ⟨m,_,hlk⟩:=J2.loc
     obtain ⟨u2,ru,lk⟩:=hlk ps.length y (.ref p) (by show (ps++[y])[ps.length]?=some y; simp) (by rw [←hvp]; simp) (.inr (.inr S.cap))
     obtain rfl:u2=Value.ref p:=ru
     have hce:s2.heap.IsCell c (some (.ref p)):=by
      rcases lk with ⟨k,_⟩ | ⟨_,d,e1,e2⟩
      · have k:(defScope st).names.lookup y=some .local:=k
        rw [S.cap] at k; cases k
      · have e1:([(y,c)]:List (Str × Addr)).lookup y=some d:=e1
        simp at e1
        subst e1
        exact e2
     refine J2.hok.track hn ⟨hce,?_,cellO_stay⟩
     obtain ⟨o,e,_⟩:=hce
     exact ⟨o,e⟩
   · exact q2 (J2.freeC y c (by show ([(y,c)]:List (Str × Addr)).lookup y=some c; simp))
 · subst e
   exact I1.after hq
end
theorem fn_ofR {P:Program} {w:World} {K:PySem.W.Frag} {mg:Str→Option Value} {base:Heap} {k:Nat} {f:Addr} {x qual:Str} {st:Stmt} {fd:FuncData} {N ps:List Str} {sp:Sp} (F:Fun K x qual st f fd) (S:FnScope N ps (defScope st)) (len:∀ vs H Q E,sp vs H Q E→vs.length=ps.length)
 (hbody:∀ (A:Around) (outer:List Env) (s s1:Shared) (H:Hp) (vs:List V) (Q:VK) (E:XK),Room k (A.deeper (envOfC qual (defScope st) s.heap.objs.size f fd.code))→sp vs H Q E→Inv (cxOf CX0 P w K mg base N qual (defScope st) f fd.code A outer s H E).nox [] (start N vs) H s1 →
  wpAny (model P w) (A.deeper (envOfC qual (defScope st) s.heap.objs.size f fd.code)) (execs (defBody st) (envOfC qual (defScope st) s.heap.objs.size f fd.code)) (fun fl s'=>∃ u,fl=.ret u∧CE outer P w H s Q u s') (fun _ _=>False) s1) :
 FnOk P w K mg base CX0 (k + 1) f fd ps sp:=by
 obtain ⟨oc,od,kV,doc,pm,an,cdv,ct,osl,rfl,lk,hcd⟩:=F.ex
 refine ⟨len,fun A outer s H args us vs Q E hr e0 hb r hsp=>?_⟩
 have hl:=len _ _ _ _ hsp
 have KX:K.In s.heap:=e0.mod.kin.keeps fun b o e=>(e0.bs b o e).1
 have lim:s.heap.NoLimit:=e0.mod.nolimit.keeps fun b o e=>(e0.bs b o e).1
 have hkind:∀ y∈ps.zip us,(defScope st).names.lookup y.1=some .local∨((defScope st).names.lookup y.1=some .cell∧((cellsFrom (s.heap.objs.size + 1) (defScope st).names []).lookup y.1).isSome=true):=fun ⟨n,v⟩ hy=>by
  rcases S.par n (List.of_mem_zip hy).1 with q | q
  · exact .inl q
  · exact .inr ⟨q,PySem.W.cellsFrom_some _ _ _ (.inl q)⟩
 refine codeAny_call_function hr.depth (KX _ _ lk) rfl S.co S.gen rfl (PySem.W.codeRec_of KX hcd) (hb _ _ _ _ ?_)
 refine wpAny_newFunctionEnv_cells S.kind hkind fun env he s1 x=>?_
 subst he
 refine ⟨lim.keeps x.toInCall.keep,codeAny_func ?_⟩
 have I:Inv (cxOf CX0 P w K mg base N qual (defScope st) f cdv A outer s H E) [] (start N vs) H s1:=inv_start S hr.hd e0 hl r x
 refine wpAny_mono (hbody A outer s s1 H vs Q E (hr.deeper _) hsp (I.wish _)) (fun fl s' ⟨u,e,hs⟩=>?_) fun e s' hs=>(hs:False).elim
 subst e
 exact hs
theorem psr {X:Cx} {body:List Stmt} {s1 s2:Stmt} {e:Expr} {pos:Pos} {t1 t2:TS} {te:TE} (hb:body=[s1,s2,.Return (some e) pos]) (h1:PS X s1 t1) (h2:PS X s2 t2) (h3:PE X e te) {pins:List (Addr × Obj)} {s:Shared} {σ:St} {H:Hp} {R:St→VK} (I:Inv X pins σ H s)
 (h:t1 { nx:=fun σ1 H1=>t2 { nx:=fun σ2 H2=>te σ2 H2 (R σ2),rt:=fun _ _=>False } σ1 H1,rt:=fun _ _=>False } σ H) :
 wpAny (model X.prog X.w) X.A (execs body X.env) (fun fl s'=>∃ u v σ' H',fl=.ret u∧Inv X pins σ' H' s'∧RelV v u∧R σ' v H') X.xe s:=by
 subst hb
 refine wpAny_execs_cons (thn (h1 pins s σ H _ I h) fun f s1 q=>?_)
 cases f with
 | next =>
   obtain ⟨σ1,H1,I1,q⟩:=q
   refine wpAny_execs_cons (thn (h2 pins s1 σ1 H1 _ I1 q) fun f s2 q=>?_)
   cases f with
   | next =>
     obtain ⟨σ2,H2,I2,q⟩:=q
     exact wpAny_execs_cons (wpAny_Return_some (thn (h3 pins s2 σ2 H2 _ I2 q) fun u s3 ⟨v,H3,I3,r,q3⟩=>⟨u,v,σ2,H3,rfl,I3,r,q3⟩))
   | ret v=>obtain ⟨_,_,_,_,_,q⟩:=q; exact (q:False).elim
   | brk=>obtain ⟨_,_,_,q⟩:=q; exact (q:False).elim
   | cont=>obtain ⟨_,_,_,q⟩:=q; exact (q:False).elim
 | ret v=>obtain ⟨_,_,_,_,_,q⟩:=q; exact (q:False).elim
 | brk=>obtain ⟨_,_,_,q⟩:=q; exact (q:False).elim
 | cont=>obtain ⟨_,_,_,q⟩:=q; exact (q:False).elim
end L2
namespace L2
open PySem PySem.Spec PyProof.Rows
def tabT (K:PySem.W.Frag) (x:Str):Addr:=match PySem.W.tabIn K x with
 | some q=>q.2
 | none=>0
theorem tabT_of {K:PySem.W.Frag} {x:Str} {c T:Addr} (h:PySem.W.tabIn K x=some (c,T)):PySem.W.tabIn K x=some (c,tabT K x):=by
 unfold tabT; rw [h]
theorem tabIn_of {K:PySem.W.Frag} {x:Str} {f c T:Addr} {oc:Value} {od:Option Addr} {fd:FuncData} {sl:Array (Option Value)} {oc2:Value} {od2:Option Addr} {vs:Array Value} {sl2:Array (Option Value)} (a:PySem.W.nsIn K mainGlobals x=some (some (.ref f))) (l:K.lookup f=some ⟨oc,od,.func fd,sl⟩) (hc:fd.code=.ref c)
 (l2:K.lookup c=some ⟨oc2,od2,.fields vs,sl2⟩) (hv:(vs[11]?:Option Value)=some (.ref T)):PySem.W.tabIn K x=some (c,T):=by
 unfold PySem.W.tabIn
 rw [a]
 show (match K.lookup f with
  | some ⟨_,_,.func fd,_⟩=>_
  | _=>none)=_
 rw [l]
 show (match fd.code with
  | .ref c=>_
  | _=>none)=_
 rw [hc]
 show (match K.lookup c with
  | some ⟨_,_,.fields vs,_⟩=>_
  | _=>none)=_
 rw [l2]
 show (match (vs[11]?:Option Value) with
  | some (.ref P)=>some (c,P)
  | _=>none)=_
 rw [hv]
def OnlyT (T:Addr) (H:Hp):Prop:=H T=some (.tbl #[])∧∀ b,b≠T→H b=none∨∃ o xs,H b=some (.frz o (.lst xs))
theorem law_callT {P:Program} {w:World} {K:PySem.W.Frag} {mg mb:Str→Option Value} {CX:CXT} {k:Nat} {fa a c T:Addr} {fd:FuncData} {x:Str} {sp:Sp} {s₁:Shared} {vs:List Value} {ns:List Int}
 (KX:K.In s₁.heap) (hns:s₁.heap.Ns mainGlobals mg) (hb:s₁.heap.Ns builtinsNs mb) (hbb:∀ x:Str,x ≠ "__name__" → mb x=bootBuiltins x) (hlim:s₁.heap.NoLimit) (hg:s₁.gens=#[])
 (ha:s₁.heap.get? a=some { cls:=.type "list",data:=.seq vs.toArray }) (hi:IntsAre vs ns) (hl:ns.length≤sizeLine) (hr:Room k callerA)
 (CH:PySem.W.CodeHd s₁.heap c T) (hT:s₁.heap.get? T=some (PySem.W.tabObj #[])) (hKT:PySem.W.noTabs K=true)
 (bm:∃ bm ob,mg "__builtins__" = some (.ref bm)∧bm≠builtinsNs∧s₁.heap.get? bm=some ob∧ob.cls=.type "module" ∧ ob.dict=some builtinsNs∧ob.data=.plain)
 (F:∀ base:Heap,K.In base→base.Ns mainGlobals mg→Nst mg base c T→FnOk P w K mg base CX k fa fd [x] sp) (hbind:∀ (s:Shared) (u:Value),BindsTo s fd ⟨[u],[]⟩ [(x,u)])
 (hsp:∀ H:Hp,OnlyT T H→SqL K H a (ns.map V.int)→sp [.ref a] H (fun v _=>v=.bl true) fun _ _ _=>False)
 (hCX:∀ H e s',CX [] H s₁ (fun _ _ _=>False) e s'→False) :
 codeAny (model P w) callerA (.call (.ref fa) ⟨[.ref a],[]⟩) (fun r s'=>r=.ok (.ret (.bool true))∧OldK s₁.heap s'.heap∧s'.os=s₁.os∧AllBare s'.gens) s₁:=by
 have rv:=vals_ints hi
 have lenV:=hi.length
 have nTa:a≠T:=fun z=>by rw [z,hT] at ha; cases ha
 have KT:K.lookup T=none:=by
  cases e:K.lookup T with
  | none=>rfl
  | some o =>
    have e1:=KX T o e
    rw [hT] at e1; cases e1
    exact absurd (List.all_eq_true.mp hKT (T,_) (PySem.W.mem_of_lookupK e)) (by simp)
 have core : ∀ H : Hp, OnlyT T H → SqL K H a (ns.map V.int) → HOk P w H s₁.heap → (∀ b, H b ≠ none → b = a ∨ b = T) → (H a ≠ none → K.lookup a = none) →
  codeAny (model P w) callerA (.call (.ref fa) ⟨[.ref a],[]⟩) (fun r s'=>r=.ok (.ret (.bool true))∧OldK s₁.heap s'.heap∧s'.os=s₁.os∧AllBare s'.gens) s₁:=by
  intro H hO hS hok hA hK
  have base_of:∀ {b:Addr} {o:Obj},s₁.heap.get? b=some o→H b=none→(hidT s₁.heap H).get? b=some o:=fun e n=>hidT_get e n
  have noB:∀ {b:Addr} {o:Obj},s₁.heap.get? b=some o→o≠{ cls:=.type "list",data:=.seq vs.toArray }→o≠PySem.W.tabObj #[]→H b=none:=fun {b o} e d1 d2=>by
   cases q:H b with
   | none=>rfl
   | some u =>
     rcases hA b (by rw [q]; simp) with e' | e'
     · subst e'; rw [ha] at e; cases e; exact absurd rfl d1
     · subst e'; rw [hT] at e; cases e; exact absurd rfl d2
  have noA:∀ {b:Addr} {o:Obj} {es:Array DictEntry} {ep:Nat},s₁.heap.get? b=some o→o.data=.dict es ep→H b=none:=fun {b o es ep} e d =>
   noB e (fun z=>by rw [z] at d; cases d) fun z=>by rw [z] at d; cases d
  have nsK:∀ {b:Addr} {m:Str→Option Value},s₁.heap.Ns b m→(hidT s₁.heap H).Ns b m:=fun {b m} ⟨o,es,ep,e,d,r⟩=>⟨o,es,ep,base_of e (noA e d),d,r⟩
  have hKb : K.In (hidT s₁.heap H) := fun b o e => base_of (KX b o e) (by
   cases q:H b with
   | none=>rfl
   | some u =>
     rcases hA b (by rw [q]; simp) with e' | e'
     · subst e'
       rw [hK (by rw [q]; simp)] at e; cases e
     · subst e'
       rw [KT] at e; cases e)
  have hM:Mod K mg (hidT s₁.heap H):=⟨hKb,nsK hns,⟨mb,nsK hb,hbb⟩,let ⟨mc,h1,h2⟩:=hlim; ⟨mc,nsK h1,h2⟩⟩
  have hN:Nst mg (hidT s₁.heap H) c T:=by
   refine ⟨?_,?_⟩
   · obtain ⟨o,vs',file,tf,flags,tg,inF,text,tt,e1,r1,r2⟩:=CH
     exact ⟨o,vs',file,tf,flags,tg,inF,text,tt,base_of e1 (noB e1 (fun z=>by rw [z] at r1; simp at r1) fun z=>by rw [z] at r1; cases r1),r1,r2⟩
   · obtain ⟨b,ob,b1,b2,b3,b4,b5,b6⟩:=bm
     refine ⟨b,ob,b1,b2,fun z=>?_,base_of b3 (noB b3 (fun z=>by rw [z] at b4; simp at b4) fun z=>by rw [z] at b4; cases b4),b4,b5,b6⟩
     obtain ⟨o,es,ep,e,d,_⟩:=hns
     rw [z,e] at b3; cases b3; rw [d] at b6; cases b6
  have e0:Env0 P w K mg (hidT s₁.heap H) callerA [] s₁ H:=⟨rfl,hM,fun b o e=>of_hidT e,Nat.le_of_eq (hidT_size _ _),trivial,fun b hb=>absurd (show b∈([]:List Addr) from hb) (by simp),hok,.of_eq hg⟩
  refine codeAny_mono ((F _ hKb (nsK hns) hN).run callerA [] s₁ H ⟨[.ref a],[]⟩ [.ref a] [.ref a] _ _ hr e0 (hbind s₁ (.ref a)) (.cons rfl .nil) (hsp H hO hS)) fun r s' h=>?_
  cases r with
  | error e=>exact (hCX H e s' h).elim
  | ok fl =>
    cases fl with
    | next=>exact False.elim h
    | brk=>exact False.elim h
    | cont=>exact False.elim h
    | ret u =>
      obtain ⟨v,H',os,bare,un,hok',r',q⟩:=h
      have q':v=.bl true:=q
      subst q'
      obtain rfl:u=Value.bool true:=r'
      have keep : ∀ b o, b ≠ T → s₁.heap.get? b = some o → s'.heap.get? b = some o := fun b o hbT e => by
       cases q:H b with
       | none=>exact un.keep b o e q (by intro z; exact absurd (show b∈([]:List Addr) from z) (by simp)) (by simp)
       | some u =>
         rcases hO.2 b hbT with z | ⟨ob,xs,z⟩
         · rw [q] at z; cases z
         · have z2:=un.frzs b ob _ z
           obtain ⟨e1,_⟩:=hok b _ z
           obtain ⟨e2,_⟩:=hok' b _ z2
           rw [e] at e1; cases e1
           exact e2
      obtain ⟨more,hm⟩:=un.tbls T _ hO.1
      have hT':s'.heap.get? T=some (PySem.W.tabObj (#[]++more)):=hok' T _ hm
      refine ⟨rfl,⟨fun b o e=>?_,fun b o e=>?_⟩,os,bare⟩
      · by_cases hbT:b=T
        · subst hbT
          rw [hT] at e; cases e
          exact .inr (.inl ⟨(CH.tab hT).isCodeTable,rfl,#[],more,rfl,hT'⟩)
        · exact .inl (keep b o hbT e)
      · by_cases hbT:b=T
        · subst hbT; exact ⟨_,hT'⟩
        · exact ⟨o,keep b o hbT e⟩
 cases hk:K.lookup a with
 | some o =>
   have e:=KX a o hk
   rw [ha] at e
   cases e
   refine core (fun b=>if b=T then some (.tbl #[]) else none) ⟨if_pos rfl,fun b hb=>.inl (if_neg hb)⟩ (.inr ⟨_,vs.toArray,_,hk,rfl,rfl,rfl,by rw [List.size_toArray,lenV]; exact hl,by simpa using rv⟩) (fun b u z=>?_) (fun b z=>?_) fun z=>absurd (if_neg nTa) z
   · by_cases hb:b=T
     · have z':=(if_pos hb).symm.trans z
       cases z'
       subst hb
       exact hT
     · have z':=(if_neg hb).symm.trans z
       cases z'
   · by_cases hb:b=T
     · exact .inr hb
     · exact absurd (if_neg hb) z
 | none =>
   refine core (fun b=>if b=T then some (.tbl #[]) else if b=a then some (.frz { cls:=.type "list",data:=.seq vs.toArray } (.lst (ns.map V.int))) else none) ⟨if_pos rfl,fun b hb=>?_⟩ (.inl (.inr ⟨{ cls:=.type "list",data:=.seq vs.toArray },(if_neg nTa).trans (if_pos rfl)⟩)) (fun b u z=>?_) (fun b z=>?_) fun _=>hk
   · by_cases hb':b=a
     · exact .inr ⟨_,_,(if_neg hb).trans (if_pos hb')⟩
     · exact .inl ((if_neg hb).trans (if_neg hb'))
   · by_cases hb:b=T
     · have z':=(if_pos hb).symm.trans z
       cases z'
       subst hb
       exact hT
     · have z1:=(if_neg hb).symm.trans z
       by_cases hb':b=a
       · have z':=(if_pos hb').symm.trans z1
         cases z'
         subst hb'
         exact ⟨ha,by rw [List.length_map]; exact hl,vs,_,rv,ha⟩
       · have z':=(if_neg hb').symm.trans z1
         cases z'
   · by_cases hb:b=T
     · exact .inr hb
     · by_cases hb':b=a
       · exact .inl hb'
       · exact absurd ((if_neg hb).trans (if_neg hb')) z
theorem walk_ofT {l:PySem.W.OpenLaw} {n k:Nat} {q:Program} {loose:List Str} {XP:(Str→Option Value)→Heap→Prop} {YP:World→Heap→Prop} {d:DefRec} {K:Params→PySem.W.Frag} {CX:World→CXT} {sp:World→Sp} {x j:Str}
 (hn:l.most=some n) (hn2:n≤sizeLine) (hdf:d.params.defaults=[]) (hr:Room k callerA)
 (hY:∀ (w:World) (h:Heap),YP w h→(K w.params).In h) (hK:∀ w:World,PySem.W.noTabs (K w.params)=true) (hj:((recsOf q).find? fun e=>e.name == j).isSome=true)
 (F:∀ (w:World) (mg:Str→Option Value) (fa:Addr) (h:Heap),(K w.params).In h→h.Ns mainGlobals mg→mg d.name=some (.ref fa) →
  ∃ fd:FuncData,(∀ (s:Shared) (u:Value),BindsTo s fd ⟨[u],[]⟩ [(x,u)])∧∃ c,PySem.W.tabIn (K w.params) j=some (c,tabT (K w.params) j) ∧
   ∀ base:Heap,(K w.params).In base→base.Ns mainGlobals mg→Nst mg base c (tabT (K w.params) j)→FnOk l.prog w (K w.params) mg base (CX w) k fa fd [x] (sp w))
 (hsp:∀ (w:World) (H:Hp) (a:Addr) (ns:List Int),ns.length≤n→OnlyT (tabT (K w.params) j) H→SqL (K w.params) H a (ns.map V.int)→sp w [.ref a] H (fun v _=>v=.bl true) fun _ _ _=>False)
 (hCX:∀ (w:World) (H:Hp) (s:Shared) (e:Value) (s':Shared),CX w [] H s (fun _ _ _=>False) e s'→False) :
 PySem.W.WalkO q loose XP YP l.row.toRowW d [] (fun f vs=>PySem.call f vs):=by
 refine Att.attach_call hn hdf fun w s₀ s₁ mg mb fa o pm cd doc a vs ns G Y ho hd hcd hmg hobj hints hlen hg=>?_
 have KX:=hY w _ Y
 obtain ⟨fd,hb,c,ht,hF⟩:=F w mg fa _ KX G.T.g hmg
 obtain ⟨dj,hdj⟩:=Option.isSome_iff_exists.mp hj
 obtain ⟨CH,hT⟩:=PySem.W.tab_of G.T KX hdj ht
 exact law_callT KX G.T.g G.T.b G.T.builtins G.T.nolimit hg hobj hints (Nat.le_trans hlen hn2) hr CH hT (hK w) G.T.bmain hF hb (fun H hO hS=>hsp w H a ns hlen hO hS) fun H e s'=>hCX w H s₁ e s'
end L2
local macro_rules | `(tactic| walk_at "z") => `(tactic| (extract_lets -underBinder -merge -useContext +onlyGivenNames zq; subst zq))
local macro_rules | `(tactic| walk_at "d") => `(tactic| try dsimp -zeta only)
namespace Tim
open PySem PySem.W PyProof.Rows
def gallopT:Bool→Keyed→Array Keyed→Nat→Nat→Nat→StateT SortSt Sem (Option Nat):=sortPriv% PySem.Builtin.gallop
theorem made1 (k:Keyed) (a:Array Keyed):True:=by
 fun_cases (sortPriv% PySem.Builtin.gallop) true k a 0 1 0
 all_goals trivial
section
variable {prog:Program} {w:World} {A:Around} {E:Value→Shared→Prop} {s:Shared} {O:KeyOrd} {key:Nat→O.α} {κ:SortKind} {it:Array Keyed} {N:Nat}
def Asks (prog:Program) (w:World) (A:Around) (s:Shared) (O:KeyOrd) (key:Nat→O.α) (κ:SortKind) (it:Array Keyed) (N:Nat):Prop:=∀ (i j:Nat) (C:Bool→Shared→Prop),i < N→j < N→C (O.blt (key i) (key j)) s→kas_cmp prog w A κ it i j C s
theorem w_lt (hc:Asks prog w A s O key κ it N) {st:SortSt} {i j:Nat} {Q:Option Bool→SortSt→Prop} (hi:i < N) (hj:j < N) (hk:kindOf st=κ) (h:Q (some (O.blt (key i) (key j))) st):wpS (model prog w) A E s (lt' (kas_item it i) (kas_item it j)) Q st:=by
 rw [lt'_eq]
 refine wpS_bind (wpS_get ?_)
 rw [hk]
 refine wpS_bind (wpS_lift (wpAny_attempt (wpAny_mono (hc i j (fun b s'=>s'=s∧b=O.blt (key i) (key j)) hi hj ⟨rfl,rfl⟩) (fun b s' ⟨e1,e2⟩=>⟨e1,?_⟩) fun _ _ x=>x.elim)))
 rw [e2]
 exact wpS_pure h
theorem w_elem {p:Array Nat} {i:Nat} {st:SortSt} {Q:Keyed→SortSt→Prop} (hi:i < p.size) (h:Q (kas_item it (p.getD i 0)) st):wpS (model prog w) A E s (elem' (p.map (kas_item it)) i) Q st:=by
 rw [elem'_eq]
 have e:(p.map (kas_item it))[i]?=some (kas_item it (p.getD i 0)):=by simp [hi]
 rw [e]
 exact wpS_pure h
theorem gallop_ok (hc:Asks prog w A s O key κ it N) {left:Bool} {k:Nat} {p:Array Nat} {base n hint:Nat} {st:SortSt} {Q:Option Nat→SortSt→Prop} (hk:k < N) (hp:∀ i,i < p.size→p.getD i 0 < N) (hb:base + n≤p.size) (hh:hint < n) (hkd:kindOf st=κ)
 (P:Nat→Bool) (hP:∀ i,i < n→P i=if left=true then O.blt (key (p.getD (base + i) 0)) (key k) else !O.blt (key k) (key (p.getD (base + i) 0))) (anti:∀ i j,i≤j→j < n→P j=true→P i=true)
 (h:∀ r,r≤n→(∀ i,i < r→P i=true)→(∀ i,r≤i→i < n→P i=false)→Q (some r) st):wpS (model prog w) A E s (gallopT left (kas_item it k) (p.map (kas_item it)) base n hint) Q st:=by
 have af:∀ i j,i≤j→j < n→P i=false→P j=false:=fun i j hij hj hi=>by
  cases e:P j with
  | false=>rfl
  | true=>rw [anti i j hij hj e] at hi; cases hi
 unfold gallopT
 rw [(sortPriv% PySem.Builtin.gallop.eq_def)]
 extract_lets -underBinder -merge -useContext +onlyGivenNames beyond
 clear_value (hbe:beyond=_)
 have B:∀ (i:Nat) (Q':Option Bool→SortSt→Prop),i < n→Q' (some (P i)) st→wpS (model prog w) A E s (beyond i) Q' st:=fun i Q' hi q=>by
  rw [hbe]
  refine wpS_bind (w_elem (by omega) ?_)
  cases left with
  | true =>
    rw [if_pos rfl]
    refine w_lt hc (hp _ (by omega)) hk hkd ?_
    have:=hP i hi
    rw [if_pos rfl] at this
    rw [←this]; exact q
  | false =>
    rw [if_neg Bool.false_ne_true]
    refine wpS_bind (w_lt hc hk (hp _ (by omega)) hkd (wpS_pure ?_))
    have:=hP i hi
    rw [if_neg Bool.false_ne_true] at this
    show Q' (some (!_)) st
    rw [←this]; exact q
 clear hbe
 walk_at "z"
 walk_at "z"
 walk_at "z"
 walk_at "z"
 walk_at "d"
 refine wpS_bind (B hint _ hh ?_)
 walk_at "d"
 extract_lets -underBinder -merge -useContext +onlyGivenNames jp
 clear_value (hjp:jp=_)
 have J : ∀ (x : Unit) (a b lo hi : Nat), lo ≤ hi → hi ≤ n → (∀ i, i < lo → P i = true) → (∀ i, hi ≤ i → i < n → P i = false) → wpS (model prog w) A E s (jp x a b lo hi) Q st := fun x a b lo hi h1 h2 h3 h4 => by
  rw [hjp]
  walk_at "d"
  refine wpS_bind (wpS_mono (wpS_forRange (I:=fun x c st'=>st'=st∧∃ l r,c=(none,l,r)∧l≤r∧r≤n∧r - l≤n - x∧(∀ i,i < l→P i=true)∧(∀ i,r≤i→i < n→P i=false))
   (Q:=fun c st'=>st'=st∧∃ l r,c=(none,l,r)∧r≤n∧(∀ i,i < r→P i=true)∧(∀ i,r≤i→i < n→P i=false)) ?_ ?_ ⟨rfl,lo,hi,rfl,h1,h2,by omega,h3,h4⟩) ?_)
  · rintro x c st' _ hx ⟨rfl,l,r,rfl,a1,a2,a3,a4,a5⟩
    walk_at "z"
    walk_at "z"
    walk_at "z"
    walk_at "d"
    dsimp only
    by_cases hge:l ≥ r
    · rw [if_pos hge]
      obtain rfl:l=r:=by omega
      exact wpS_pure ⟨rfl,l,l,rfl,a2,a4,a5⟩
    · rw [if_neg hge]
      refine wpS_bind (B _ _ (by omega) ?_)
      dsimp only
      cases e:P (l + (r - l) / 2) with
      | true =>
        rw [if_pos rfl]
        exact wpS_pure ⟨rfl,l + (r - l) / 2 + 1,r,rfl,by omega,by omega,by omega,fun i hi=>anti i (l + (r - l) / 2) (by omega) (by omega) e,a5⟩
      | false =>
        rw [if_neg Bool.false_ne_true]
        exact wpS_pure ⟨rfl,l,l + (r - l) / 2,rfl,by omega,by omega,by omega,a4,fun i hi hn=>af (l + (r - l) / 2) i hi hn e⟩
  · rintro c st' ⟨rfl,l,r,rfl,a1,a2,a3,a4,a5⟩
    obtain rfl:l=r:=by omega
    exact ⟨rfl,l,l,rfl,a2,a4,a5⟩
  · rintro c st' ⟨rfl,l,r,rfl,a2,a4,a5⟩
    exact wpS_pure (h r a2 a4 a5)
 clear hjp
 cases e:P hint with
 | true =>
   rw [if_pos rfl]
   walk_at "z"
   walk_at "d"
   refine wpS_bind (wpS_mono (wpS_forRange (I:=fun x c st'=>st'=st∧∃ l o,c=(none,l,o)∧l < o∧x + 1≤o∧hint + l < n∧P (hint + l)=true)
    (Q:=fun c st'=>st'=st∧∃ l o,c=(none,l,o)∧l < o∧hint + l < n∧P (hint + l)=true∧(o < n - hint→P (hint + o)=false)) ?_ ?_ ⟨rfl,0,1,rfl,by omega,by omega,by omega,e⟩) ?_)
   · rintro x c st' _ hx ⟨rfl,l,o,rfl,a1,a2,a3,a4⟩
     walk_at "z"
     walk_at "z"
     walk_at "z"
     walk_at "d"
     dsimp only
     by_cases hge:o ≥ n - hint
     · rw [if_pos hge]
       exact wpS_pure ⟨rfl,l,o,rfl,a1,a3,a4,fun z=>by omega⟩
     · rw [if_neg hge]
       refine wpS_bind (B _ _ (by omega) ?_)
       dsimp only
       cases e2:P (hint + o) with
       | false=>exact wpS_pure ⟨rfl,l,o,rfl,a1,a3,a4,fun _=>e2⟩
       | true=>exact wpS_pure ⟨rfl,o,2 * o + 1,rfl,by omega,by omega,by omega,e2⟩
   · rintro c st' ⟨rfl,l,o,rfl,a1,a2,a3,a4⟩
     exact ⟨rfl,l,o,rfl,a1,a3,a4,fun z=>by omega⟩
   · rintro c st' ⟨rfl,l,o,rfl,a1,a3,a4,a5⟩
     refine J () l o (hint + l + 1) (hint + min o (n - hint)) (by omega) (by omega) (fun i hi=>anti i (hint + l) (by omega) a3 a4) (fun i hi hn=>?_)
     by_cases ho:o < n - hint
     · exact af (hint + o) i (by omega) hn (a5 ho)
     · omega
 | false =>
   rw [if_neg Bool.false_ne_true]
   walk_at "z"
   walk_at "d"
   refine wpS_bind (wpS_mono (wpS_forRange (I:=fun x c st'=>st'=st∧∃ l o,c=(none,l,o)∧l < o∧x + 1≤o∧l≤hint∧P (hint - l)=false)
    (Q:=fun c st'=>st'=st∧∃ l o,c=(none,l,o)∧l < o∧l≤hint∧P (hint - l)=false∧(o < hint + 1→P (hint - o)=true)) ?_ ?_ ⟨rfl,0,1,rfl,by omega,by omega,by omega,e⟩) ?_)
   · rintro x c st' _ hx ⟨rfl,l,o,rfl,a1,a2,a3,a4⟩
     walk_at "z"
     walk_at "z"
     walk_at "z"
     walk_at "d"
     dsimp only
     by_cases hge:o ≥ hint + 1
     · rw [if_pos hge]
       exact wpS_pure ⟨rfl,l,o,rfl,a1,a3,a4,fun z=>by omega⟩
     · rw [if_neg hge]
       refine wpS_bind (B _ _ (by omega) ?_)
       dsimp only
       cases e2:P (hint - o) with
       | true=>exact wpS_pure ⟨rfl,l,o,rfl,a1,a3,a4,fun _=>e2⟩
       | false=>exact wpS_pure ⟨rfl,o,2 * o + 1,rfl,by omega,by omega,by omega,e2⟩
   · rintro c st' ⟨rfl,l,o,rfl,a1,a2,a3,a4⟩
     exact ⟨rfl,l,o,rfl,a1,a3,a4,fun z=>by omega⟩
   · rintro c st' ⟨rfl,l,o,rfl,a1,a3,a4,a5⟩
     refine J () l o (hint + 1 - min o (hint + 1)) (hint - l) (by omega) (by omega) (fun i hi=>?_) (fun i hi hn=>af (hint - l) i (by omega) hn a4)
     by_cases ho:o < hint + 1
     · exact anti i (hint - o) (by omega) (by omega) (a5 ho)
     · omega
end
end Tim
namespace Tim
open PySem PySem.W PyProof.Rows
section
variable {R:Nat→Nat→Prop} {la lb:List Nat}
structure Mg (R:Nat→Nat→Prop) (la lb po:List Nat) (ia ib:Nat):Prop where
 ha:ia≤la.length
 hb:ib≤lb.length
 pm:po.Perm (la.take ia++lb.take ib)
 so:po.Pairwise R
 le:∀ x∈po,∀ y∈la.drop ia++lb.drop ib,R x y
theorem take_add' {l:List Nat} (i k:Nat):l.take (i + k)=l.take i++(l.drop i).take k:=by rw [List.take_add]
theorem Mg.pushA {po:List Nat} {ia ib:Nat} (h:Mg R la lb po ia ib) (sa:la.Pairwise R) (k:Nat) (hk:ia + k≤la.length) (hle:∀ x∈(la.drop ia).take k,∀ y∈lb.drop ib,R x y):Mg R la lb (po++(la.drop ia).take k) (ia + k) ib:=by
 have sd:(la.drop ia).Pairwise R:=sa.sublist (List.drop_sublist _ _)
 have spl:la.drop ia=(la.drop ia).take k++la.drop (ia + k):=by rw [←List.drop_drop,List.take_append_drop]
 refine ⟨hk,h.hb,?_,?_,?_⟩
 · rw [take_add']
   refine (h.pm.append_right _).trans ?_
   rw [List.append_assoc,List.append_assoc]
   exact List.Perm.append_left _ List.perm_append_comm
 · refine List.pairwise_append.mpr ⟨h.so,sd.sublist (List.take_sublist _ _),fun x hx y hy=>h.le x hx y (List.mem_append_left _ (List.mem_of_mem_take hy))⟩
 · intro x hx y hy
   rcases List.mem_append.mp hx with hx | hx
   · refine h.le x hx y ?_
     rcases List.mem_append.mp hy with hy | hy
     · exact List.mem_append_left _ (by rw [spl]; exact List.mem_append_right _ hy)
     · exact List.mem_append_right _ hy
   · rcases List.mem_append.mp hy with hy | hy
     · rw [spl] at sd
       exact (List.pairwise_append.mp sd).2.2 x hx y hy
     · exact hle x hx y hy
theorem Mg.swap {po:List Nat} {ia ib:Nat} (h:Mg R la lb po ia ib):Mg R lb la po ib ia :=
 ⟨h.hb,h.ha,h.pm.trans List.perm_append_comm,h.so,fun x hx y hy=>h.le x hx y (List.mem_append.mpr (List.mem_append.mp hy).symm)⟩
theorem Mg.pushB {po:List Nat} {ia ib:Nat} (h:Mg R la lb po ia ib) (sb:lb.Pairwise R) (k:Nat) (hk:ib + k≤lb.length) (hle:∀ x∈(lb.drop ib).take k,∀ y∈la.drop ia,R x y):Mg R la lb (po++(lb.drop ib).take k) ia (ib + k) :=
 (h.swap.pushA sb k hk hle).swap
def Res (R:Nat→Nat→Prop) (la lb pr:List Nat):Prop:=pr.Perm (la++lb)∧pr.Pairwise R
theorem Mg.endA {po:List Nat} {ia ib:Nat} (h:Mg R la lb po ia ib) (sa:la.Pairwise R) (e:ib=lb.length):Res R la lb (po++la.drop ia):=by
 have:=h.pushA sa (la.length - ia) (by have:=h.ha; omega) (fun x hx y hy=>by rw [e,List.drop_length] at hy; simp at hy)
 rw [List.take_of_length_le (by rw [List.length_drop]; omega)] at this
 have pm:=this.pm
 rw [e,List.take_length,List.take_of_length_le (by have:=h.ha; omega)] at pm
 exact ⟨pm,this.so⟩
theorem Mg.endB {po:List Nat} {ia ib:Nat} (h:Mg R la lb po ia ib) (sb:lb.Pairwise R) (e:ia=la.length):Res R la lb (po++lb.drop ib):=by
 have:=h.swap.endA sb e
 exact ⟨this.1.trans List.perm_append_comm,this.2⟩
theorem Mg.last {po:List Nat} {ia ib:Nat} (h:Mg R la lb po ia ib) (sb:lb.Pairwise R) (e:ia + 1=la.length) (hl:∀ x∈lb,∀ y∈la.drop ia,R x y):Res R la lb (po++lb.drop ib++la.drop ia):=by
 have h2:=h.pushB sb (lb.length - ib) (by have:=h.hb; omega) (fun x hx y hy=>hl x (List.mem_of_mem_drop (List.mem_of_mem_take hx)) y hy)
 rw [List.take_of_length_le (by rw [List.length_drop]; omega)] at h2
 have ea:(la.drop ia).Pairwise R:=by
  have hl1:(la.drop ia).length=1:=by rw [List.length_drop]; omega
  match la.drop ia,hl1 with
  | [x],_=>exact List.pairwise_singleton _ _
 refine ⟨?_,List.pairwise_append.mpr ⟨h2.so,ea,fun x hx y hy=>h2.le x hx y (List.mem_append_left _ hy)⟩⟩
 have pm:=h2.pm
 have hb:=h.hb
 rw [List.take_of_length_le (l:=lb) (by omega)] at pm
 refine (pm.append_right _).trans ?_
 rw [List.append_assoc]
 refine (List.Perm.append_left _ List.perm_append_comm).trans ?_
 rw [←List.append_assoc,List.take_append_drop]
end
section
variable {it:Array Keyed}
abbrev ar (it:Array Keyed) (l:List Nat):Array Keyed:=l.toArray.map (kas_item it)
theorem ar_size (l:List Nat):(ar it l).size=l.length:=by simp [ar]
theorem ar_ext (l:List Nat) (i j:Nat):(ar it l).extract i j=ar it ((l.drop i).take (j - i)):=by
 apply Array.toList_inj.mp
 simp [ar,List.map_take,List.map_drop]
theorem ar_app (l m:List Nat):ar it l++ar it m=ar it (l++m):=by
 apply Array.toList_inj.mp
 simp [ar]
theorem ar_push (l:List Nat) (x:Nat):(ar it l).push (kas_item it x)=ar it (l++[x]):=by
 apply Array.toList_inj.mp
 simp [ar]
theorem ar_one (x:Nat):#[kas_item it x]=ar it [x]:=by simp [ar]
theorem ar_rev (l:List Nat):(ar it l).reverse=ar it l.reverse:=by
 apply Array.toList_inj.mp
 simp [ar]
end
theorem take1 {l:List Nat} {i:Nat} (h:i < l.length):(l.drop i).take 1=[l.getD i 0]:=by
 rw [List.drop_eq_getElem_cons h,List.getD_eq_getElem?_getD,List.getElem?_eq_getElem h]; rfl
theorem mem_dropN {l:List Nat} {i x:Nat} (h:x∈l.drop i):∃ j,i≤j∧j < l.length∧x=l.getD j 0:=by
 obtain ⟨j,hj,e⟩:=List.getElem_of_mem h
 rw [List.length_drop] at hj
 rw [List.getElem_drop] at e
 exact ⟨i + j,by omega,by omega,by rw [List.getD_eq_getElem?_getD,List.getElem?_eq_getElem (by omega)]; exact e.symm⟩
theorem mem_segN {l:List Nat} {i k x:Nat} (h:x∈(l.drop i).take k):∃ j,i≤j∧j < i + k∧j < l.length∧x=l.getD j 0:=by
 obtain ⟨j,hj,e⟩:=List.getElem_of_mem h
 rw [List.length_take,List.length_drop] at hj
 rw [List.getElem_take,List.getElem_drop] at e
 exact ⟨i + j,by omega,by omega,by omega,by rw [List.getD_eq_getElem?_getD,List.getElem?_eq_getElem (by omega)]; exact e.symm⟩
theorem pw_get {R:Nat→Nat→Prop} (hr:∀ x,R x x) {l:List Nat} (h:l.Pairwise R) {i j:Nat} (hij:i≤j) (hj:j < l.length):R (l.getD i 0) (l.getD j 0):=by
 rw [List.getD_eq_getElem?_getD,List.getElem?_eq_getElem (by omega),List.getD_eq_getElem?_getD,List.getElem?_eq_getElem hj]
 rcases Nat.lt_or_eq_of_le hij with e | e
 · exact List.pairwise_iff_getElem.mp h i j (by omega) hj e
 · subst e; exact hr _
end Tim
namespace Tim
open PySem PySem.W PyProof.Rows
theorem made3 (a b:Array Keyed):True:=by
 fun_cases (sortPriv% PySem.Builtin.mergeLo) a b
 all_goals trivial
def mergeLoT:Array Keyed→Array Keyed→StateT SortSt Sem (Array Keyed):=sortPriv% PySem.Builtin.mergeLo
def setGT:Nat→StateT SortSt Sem Unit:=sortPriv% PySem.Builtin.setMinGallop
structure Only (st st':SortSt):Prop where
 kd:kindOf st'=kindOf st
 arr:arrOf st'=arrOf st
 pd:pendingOf st'=pendingOf st
 fl:failedOf st'=failedOf st
theorem Only.refl (st:SortSt):Only st st:=⟨rfl,rfl,rfl,rfl⟩
theorem Only.trans {a b c:SortSt} (h:Only a b) (k:Only b c):Only a c:=⟨k.kd.trans h.kd,k.arr.trans h.arr,k.pd.trans h.pd,k.fl.trans h.fl⟩
section
variable {M:Model} {prog:Program} {w:World} {A:Around} {E:Value→Shared→Prop} {s:Shared} {O:KeyOrd} {key:Nat→O.α} {κ:SortKind} {it:Array Keyed} {N:Nat}
theorem w_set {st:SortSt} {g:Nat} {Q:Unit→SortSt→Prop} (h:∀ st',Only st st'→Q () st'):wpS M A E s (setGT g) Q st:=by
 show wpS M A E s (modify fun x=>SortSt.mk' (kindOf x) (arrOf x) (pendingOf x) g (failedOf x)) Q st
 exact wpS_modify (h _ ⟨rfl,rfl,rfl,rfl⟩)
theorem w_el {l:List Nat} {i:Nat} {st:SortSt} {Q:Keyed→SortSt→Prop} (hi:i < l.length) (h:Q (kas_item it (l.getD i 0)) st):wpS (model prog w) A E s (elem' (ar it l) i) Q st:=by
 refine w_elem (by simpa using hi) ?_
 have:l.toArray.getD i 0=l.getD i 0:=by simp
 rw [this]; exact h
theorem w_ite {α:Type} {c:Prop} [Decidable c] {a b:StateT SortSt Sem α} {Q:α→SortSt→Prop} {st:SortSt} (h1:c→wpS M A E s a Q st) (h2:¬ c→wpS M A E s b Q st):wpS M A E s (if c then a else b) Q st:=by
 by_cases h:c
 · rw [if_pos h]; exact h1 h
 · rw [if_neg h]; exact h2 h
abbrev RK (O:KeyOrd) (key:Nat→O.α) (x y:Nat):Prop:=O.kle (key x) (key y)
theorem rk_refl (x:Nat):RK O key x x:=KeyOrd.kle_refl _
theorem rk_trans {x y z:Nat} (h:RK O key x y) (k:RK O key y z):RK O key x z:=KeyOrd.kle_trans h k
variable {la lb:List Nat}
structure Cur (R:Nat→Nat→Prop) (it:Array Keyed) (la lb:List Nat) (st0 st':SortSt) (out:Array Keyed) (ia ib low:Nat):Prop where
 on:Only st0 st'
 mg:∃ po,out=ar it po∧Mg R la lb po ia ib
 h1:ia + 1 < la.length
 h2:ib < lb.length
 low:low≤ia + ib
def Ended (R:Nat→Nat→Prop) (it:Array Keyed) (la lb:List Nat) (st0 st':SortSt) (r:Array Keyed):Prop:=Only st0 st'∧∃ pr,r=ar it pr∧Res R la lb pr
theorem mergeLo_ok (hc:Asks prog w A s O key κ it N) {st:SortSt} {Q:Array Keyed→SortSt→Prop} (ha:∀ x∈la,x < N) (hb:∀ x∈lb,x < N) (sa:la.Pairwise (RK O key)) (sb:lb.Pairwise (RK O key)) (na:la≠[]) (nb:lb≠[]) (h0:RK O key (lb.getD 0 0) (la.getD 0 0))
 (hl:∀ x∈lb,RK O key x (la.getD (la.length - 1) 0)) (hkd:kindOf st=κ) (h:∀ pr st',Only st st'→Res (RK O key) la lb pr→Q (ar it pr) st'):wpS (model prog w) A E s (mergeLoT (ar it la) (ar it lb)) Q st:=by
 have la0:0 < la.length:=List.length_pos_iff.mpr na
 have lb0:0 < lb.length:=List.length_pos_iff.mpr nb
 have gN:∀ {l:List Nat},(∀ x∈l,x < N)→∀ i,i < l.length→l.getD i 0 < N:=fun {l} hh i hi=>by
  rw [List.getD_eq_getElem?_getD,List.getElem?_eq_getElem hi]; exact hh _ (List.getElem_mem hi)
 have gA:=gN ha
 have gB:=gN hb
 have tA:∀ i,i < la.toArray.size→la.toArray.getD i 0 < N:=fun i hi=>by
  have e:la.toArray.getD i 0=la.getD i 0:=by simp
  rw [e]; exact gA i (by simpa using hi)
 have tB:∀ i,i < lb.toArray.size→lb.toArray.getD i 0 < N:=fun i hi=>by
  have e:lb.toArray.getD i 0=lb.getD i 0:=by simp
  rw [e]; exact gB i (by simpa using hi)
 have eA:∀ i,la.toArray.getD i 0=la.getD i 0:=fun i=>by simp
 have eB:∀ i,lb.toArray.getD i 0=lb.getD i 0:=fun i=>by simp
 have pA:∀ {i j:Nat},i≤j→j < la.length→RK O key (la.getD i 0) (la.getD j 0):=fun hij hj=>pw_get rk_refl sa hij hj
 have pB:∀ {i j:Nat},i≤j→j < lb.length→RK O key (lb.getD i 0) (lb.getD j 0):=fun hij hj=>pw_get rk_refl sb hij hj
 have lastA:∀ ia,ia + 1=la.length→∀ x∈lb,∀ y∈la.drop ia,RK O key x y:=fun ia e x hx y hy=>by
  obtain ⟨j,j1,j2,rfl⟩:=mem_dropN hy
  obtain rfl:j=la.length - 1:=by omega
  exact hl x hx
 have stB:∀ {po:List Nat} {ia ib:Nat},Mg (RK O key) la lb po ia ib→ib < lb.length→(ia < la.length→RK O key (lb.getD ib 0) (la.getD ia 0))→Mg (RK O key) la lb (po++[lb.getD ib 0]) ia (ib + 1):=fun {po ia ib} m hi hr=>by
  have:=m.pushB sb 1 (by omega) (fun x hx y hy=>by
   rw [take1 hi,List.mem_singleton] at hx
   obtain ⟨j,j1,j2,rfl⟩:=mem_dropN hy
   rw [hx]
   exact rk_trans (hr (by omega)) (pA j1 j2))
  rwa [take1 hi] at this
 have stA:∀ {po:List Nat} {ia ib:Nat},Mg (RK O key) la lb po ia ib→ia < la.length→(ib < lb.length→RK O key (la.getD ia 0) (lb.getD ib 0))→Mg (RK O key) la lb (po++[la.getD ia 0]) (ia + 1) ib:=fun {po ia ib} m hi hr=>by
  have:=m.pushA sa 1 (by omega) (fun x hx y hy=>by
   rw [take1 hi,List.mem_singleton] at hx
   obtain ⟨j,j1,j2,rfl⟩:=mem_dropN hy
   rw [hx]
   exact rk_trans (hr (by omega)) (pB j1 j2))
  rwa [take1 hi] at this
 unfold mergeLoT
 rw [(sortPriv% PySem.Builtin.mergeLo.eq_def)]
 rw [ar_size,ar_size]
 refine wpS_bind (wpS_lift (wpAny_rule ⟨rfl,?_⟩))
 extract_lets -underBinder -merge -useContext +onlyGivenNames tot
 clear_value (htot:tot=_)
 extract_lets -underBinder -merge -useContext +onlyGivenNames dn
 clear_value (hdn:dn=_)
 extract_lets -underBinder -merge -useContext +onlyGivenNames ls
 clear_value (hls:ls=_)
 have D:∀ po ia ib,dn (ar it po) ia ib=ar it (po++la.drop ia++lb.drop ib):=fun po ia ib=>by
  rw [hdn]
  show ar it po++(ar it la).extract ia _++(ar it lb).extract ib _=_
  rw [ar_ext,ar_ext,ar_app,ar_app,List.take_of_length_le (by simp),List.take_of_length_le (by simp)]
 have Ls:∀ po ia ib,ls (ar it po) ia ib=ar it (po++lb.drop ib++la.drop ia):=fun po ia ib=>by
  rw [hls]
  show ar it po++(ar it lb).extract ib _++(ar it la).extract ia _=_
  rw [ar_ext,ar_ext,ar_app,ar_app,List.take_of_length_le (by simp),List.take_of_length_le (by simp)]
 clear hdn hls
 have DB:∀ {po:List Nat} {ia ib:Nat},Mg (RK O key) la lb po ia ib→ib=lb.length→∃ pr,dn (ar it po) ia ib=ar it pr∧Res (RK O key) la lb pr:=fun {po ia ib} m e=>⟨_,D po ia ib,by
  have:=m.endA sa e
  rw [e,List.drop_length,List.append_nil]; exact this⟩
 have DA:∀ {po:List Nat} {ia ib:Nat},Mg (RK O key) la lb po ia ib→ia=la.length→∃ pr,dn (ar it po) ia ib=ar it pr∧Res (RK O key) la lb pr:=fun {po ia ib} m e=>⟨_,D po ia ib,by
  have:=m.endB sb e
  rw [e,List.drop_length,List.append_nil]; exact this⟩
 have DL:∀ {po:List Nat} {ia ib:Nat},Mg (RK O key) la lb po ia ib→ia + 1=la.length→∃ pr,ls (ar it po) ia ib=ar it pr∧Res (RK O key) la lb pr:=fun {po ia ib} m e=>⟨_,Ls po ia ib,m.last sb e (lastA ia e)⟩
 clear D Ls
 refine wpS_bind (w_el lb0 ?_)
 walk_at "z"
 walk_at "z"
 walk_at "z"
 walk_at "d"
 rw [ar_one]
 have m0:Mg (RK O key) la lb [lb.getD 0 0] 0 1:=by
  have:=stB (po:=[]) (ia:=0) (ib:=0) ⟨Nat.zero_le _,Nat.zero_le _,List.Perm.refl _,List.Pairwise.nil,fun x hx=>by simp at hx⟩ lb0 (fun _=>h0)
  exact this
 refine w_ite (fun e=>?_) (fun e=>?_)
 · obtain ⟨pr,e1,e2⟩:=DB m0 (by simpa using e)
   rw [e1]; exact wpS_pure (h pr st (Only.refl _) e2)
 have n1:1 < lb.length:=by
  have:¬ 1=lb.length:=by simpa using e
  omega
 refine w_ite (fun e=>?_) (fun e=>?_)
 · obtain ⟨pr,e1,e2⟩:=DL m0 (by simpa using e)
   rw [e1]; exact wpS_pure (h pr st (Only.refl _) e2)
 have n2:1 < la.length:=by
  have:¬ 1=la.length:=by simpa using e
  omega
 refine wpS_bind (wpS_get ?_)
 walk_at "z"
 walk_at "d"
 have lt_le:∀ {x y:Nat},O.blt (key x) (key y)=true→RK O key x y:=fun h=>KeyOrd.kle_of_klt h
 have nl_le:∀ {x y:Nat},O.blt (key x) (key y)=false→RK O key y x:=fun h=>h
 refine wpS_bind (wpS_mono (wpS_forRange (I:=fun x c st'=>c.1=none∧Cur (RK O key) it la lb st st' c.2.1 c.2.2.1 c.2.2.2.1 x) (Q:=fun c st'=>∃ r,c.1=some r∧Ended (RK O key) it la lb st st' r) ?step ?fin ⟨rfl,Only.refl _,⟨_,rfl,m0⟩,by omega,n1,by omega⟩) ?post)
 case post =>
  rintro ⟨r0,out,ia,ib,mg⟩ st' ⟨r,e,on,pr,e2,re⟩
  obtain rfl:r0=some r:=e
  walk_at "z"
  walk_at "d"
  walk_at "d"
  rw [e2]
  exact wpS_pure (h pr st' on re)
 case fin =>
  rintro ⟨r0,out,ia,ib,mg⟩ st' ⟨e,cu⟩
  exfalso
  have h1:=cu.h1
  have h2:=cu.h2
  have h3:=cu.low
  dsimp only at h1 h2 h3
  rw [htot] at h3
  omega
 case step =>
  rintro x ⟨r0,out,ia,ib,mg⟩ st' _ hx ⟨e0,on,⟨po,eo,m⟩,h1,h2,lo⟩
  dsimp only at e0 eo m h1 h2 lo
  subst e0 eo
  walk_at "z"
  walk_at "z"
  walk_at "z"
  walk_at "z"
  walk_at "z"
  walk_at "z"
  walk_at "z"
  walk_at "z"
  walk_at "z"
  walk_at "d"
  refine wpS_bind (wpS_mono (wpS_forRange (I:=fun y c st2=>c.1=none∧Cur (RK O key) it la lb st st2 c.2.1 c.2.2.1 c.2.2.2.1 (ia + ib + y)) (Q:=fun c st2=>(∃ r,c.1=some r∧Ended (RK O key) it la lb st st2 r)∨(c.1=none∧Cur (RK O key) it la lb st st2 c.2.1 c.2.2.1 c.2.2.2.1 (x + 1))) ?s1 ?f1 ⟨rfl,on,⟨po,rfl,m⟩,h1,h2,by dsimp only; omega⟩) ?p1)
  case f1 =>
   rintro ⟨r1,out,ia1,ib1,ac,bc⟩ st2 ⟨e,cu⟩
   have h3:=cu.low
   dsimp only at h3
   rw [htot] at h3
   exact .inr ⟨e,cu.on,cu.mg,cu.h1,cu.h2,by dsimp only; omega⟩
  case s1 =>
   rintro y ⟨r1,out,ia1,ib1,ac,bc⟩ st2 _ hy ⟨e1,on2,⟨po2,eo2,m2⟩,g1,g2,lo2⟩
   dsimp only at e1 eo2 m2 g1 g2 lo2
   subst e1 eo2
   have kd2:kindOf st2=κ:=on2.kd.trans hkd
   walk_at "z"
   walk_at "z"
   walk_at "z"
   walk_at "z"
   walk_at "z"
   walk_at "z"
   walk_at "z"
   walk_at "z"
   walk_at "z"
   walk_at "d"
   refine wpS_bind (w_el g2 (wpS_bind (w_el (by omega) (wpS_bind (w_lt hc (gB _ g2) (gA _ (by omega)) kd2 ?_)))))
   walk_at "d"
   refine w_ite (fun hb1=>?_) (fun hb1=>?_)
   · refine wpS_bind (w_el g2 ?_)
     walk_at "z"
     walk_at "z"
     walk_at "z"
     walk_at "z"
     walk_at "d"
     rw [ar_push]
     have m3:=stB m2 g2 (fun _=>lt_le hb1)
     refine w_ite (fun e=>?_) (fun e=>w_ite (fun _=>?_) (fun _=>?_))
     · obtain ⟨pr,e1,e2⟩:=DB m3 (by simpa using e)
       exact wpS_pure (.inl ⟨_,rfl,on2,pr,e1,e2⟩)
     · have:¬ ib1 + 1=lb.length:=by simpa using e
       exact wpS_pure (.inr ⟨rfl,on2,⟨_,rfl,m3⟩,g1,by dsimp only; omega,by dsimp only; omega⟩)
     · have:¬ ib1 + 1=lb.length:=by simpa using e
       exact wpS_pure ⟨rfl,on2,⟨_,rfl,m3⟩,g1,by dsimp only; omega,by dsimp only; omega⟩
   · refine wpS_bind (w_el (by omega) ?_)
     walk_at "z"
     walk_at "z"
     walk_at "z"
     walk_at "z"
     walk_at "d"
     rw [ar_push]
     have m3:=stA m2 (by omega) (fun _=>nl_le (Bool.not_eq_true _ |>.mp hb1))
     refine w_ite (fun e=>?_) (fun e=>w_ite (fun _=>?_) (fun _=>?_))
     · obtain ⟨pr,e1,e2⟩:=DL m3 (by simpa using e)
       exact wpS_pure (.inl ⟨_,rfl,on2,pr,e1,e2⟩)
     · have:¬ ia1 + 1 + 1=la.length:=by simpa using e
       exact wpS_pure (.inr ⟨rfl,on2,⟨_,rfl,m3⟩,by dsimp only; omega,g2,by dsimp only; omega⟩)
     · have:¬ ia1 + 1 + 1=la.length:=by simpa using e
       exact wpS_pure ⟨rfl,on2,⟨_,rfl,m3⟩,by dsimp only; omega,g2,by dsimp only; omega⟩
  case p1 =>
   rintro ⟨r1,out,ia1,ib1,ac,bc⟩ st2 (⟨r,e,en⟩ | ⟨e,on2,⟨po2,eo2,m2⟩,g1,g2,lo2⟩)
   · obtain rfl:r1=some r:=e
     walk_at "z"
     walk_at "z"
     walk_at "z"
     walk_at "z"
     walk_at "z"
     walk_at "z"
     walk_at "z"
     walk_at "z"
     walk_at "z"
     walk_at "z"
     walk_at "d"
     walk_at "d"
     exact wpS_pure ⟨r,rfl,en⟩
   dsimp only at e eo2 m2 g1 g2 lo2
   subst e eo2
   walk_at "z"
   walk_at "z"
   walk_at "z"
   walk_at "z"
   walk_at "z"
   walk_at "z"
   walk_at "z"
   walk_at "z"
   walk_at "z"
   walk_at "z"
   walk_at "d"
   walk_at "d"
   refine wpS_bind (wpS_lift (wpAny_rule ⟨rfl,?_⟩))
   walk_at "z"
   walk_at "d"
   refine wpS_bind (wpS_mono (wpS_forRange (I:=fun z c st3=>c.1=none∧Cur (RK O key) it la lb st st3 c.2.1 c.2.2.1 c.2.2.2.1 (x + 1)) (Q:=fun c st3=>(∃ r,c.1=some r∧Ended (RK O key) it la lb st st3 r)∨(c.1=none∧Cur (RK O key) it la lb st st3 c.2.1 c.2.2.1 c.2.2.2.1 (x + 1))) ?s2 ?f2 ⟨rfl,on2,⟨po2,rfl,m2⟩,g1,g2,lo2⟩) ?p2)
   case f2 =>
    rintro c st3 ⟨e,cu⟩
    exact .inr ⟨e,cu⟩
   case p2 =>
    rintro ⟨r3,out,ia3,ib3,mg3,ac3,bc3⟩ st3 (⟨r,e,en⟩ | ⟨e,cu⟩)
    · obtain rfl:r3=some r:=e
      walk_at "z"
      walk_at "z"
      walk_at "z"
      walk_at "z"
      walk_at "z"
      walk_at "z"
      walk_at "z"
      walk_at "z"
      walk_at "z"
      walk_at "d"
      walk_at "d"
      exact wpS_pure ⟨r,rfl,en⟩
    · obtain rfl:r3=none:=e
      walk_at "z"
      walk_at "z"
      walk_at "z"
      walk_at "z"
      walk_at "z"
      walk_at "z"
      walk_at "z"
      walk_at "z"
      walk_at "z"
      walk_at "d"
      walk_at "d"
      walk_at "z"
      walk_at "d"
      refine wpS_bind (w_set fun st4 on4=>wpS_pure ⟨rfl,cu.on.trans on4,cu.mg,cu.h1,cu.h2,cu.low⟩)
   case s2 =>
    rintro z ⟨r3,out,ia3,ib3,mg3,ac3,bc3⟩ st3 _ hz ⟨e3,on3,⟨po3,eo3,m3⟩,k1,k2,lo3⟩
    dsimp only at e3 eo3 m3 k1 k2 lo3
    subst e3 eo3
    walk_at "z"
    walk_at "z"
    walk_at "z"
    walk_at "z"
    walk_at "z"
    walk_at "z"
    walk_at "z"
    walk_at "z"
    walk_at "z"
    walk_at "z"
    walk_at "z"
    walk_at "d"
    extract_lets -underBinder -merge -useContext +onlyGivenNames jp
    clear_value (hjp:jp=_)
    have J : ∀ (u : Unit) (g : Nat), wpS (model prog w) A E s (jp u g) (fun r st' => match r with | .done c' => (∃ r, c'.1 = some r ∧ Ended (RK O key) it la lb st st' r) ∨ (c'.1 = none ∧ Cur (RK O key) it la lb st st' c'.2.1 c'.2.2.1 c'.2.2.2.1 (x + 1)) | .yield c' => c'.1 = none ∧ Cur (RK O key) it la lb st st' c'.2.1 c'.2.2.1 c'.2.2.2.1 (x + 1)) st3 := fun u g => by
     rw [hjp]
     walk_at "d"
     refine wpS_bind (w_set fun st4 on4=>?_)
     have on34:=on3.trans on4
     have kd4:kindOf st4=κ:=on34.kd.trans hkd
     refine wpS_bind (w_el k2 ?_)
     refine wpS_bind (gallop_ok hc (left:=false) (k:=lb.getD ib3 0) (p:=la.toArray) (base:=ia3) (n:=la.length - ia3) (hint:=0) (gB _ k2) tA (by simp; omega) (by omega) kd4 (fun i=>!O.blt (key (lb.getD ib3 0)) (key (la.getD (ia3 + i) 0))) (fun i hi=>by rw [if_neg Bool.false_ne_true,eA]) (fun i j hij hj e=>?_) (fun k hk1 hk2 hk3=>?_))
     · have e':O.blt (key (lb.getD ib3 0)) (key (la.getD (ia3 + j) 0))=false:=by simpa using e
       have:=rk_trans (pA (i:=ia3 + i) (j:=ia3 + j) (by omega) (by omega)) (nl_le e')
       show (!O.blt _ _)=true
       rw [show O.blt (key (lb.getD ib3 0)) (key (la.getD (ia3 + i) 0))=false from this]; rfl
     walk_at "d"
     walk_at "z"
     walk_at "d"
     extract_lets -underBinder -merge -useContext +onlyGivenNames jp2
     clear_value (hjp2:jp2=_)
     have J2:∀ (u:Unit) (out':Array Keyed) (ia':Nat) (po':List Nat),out'=ar it po'→Mg (RK O key) la lb po' ia' ib3→ia' + 1 < la.length→RK O key (lb.getD ib3 0) (la.getD ia' 0)→ia3≤ia'→wpS (model prog w) A E s (jp2 u out' ia') (fun r st'=>match r with | .done c'=>(∃ r,c'.1=some r∧Ended (RK O key) it la lb st st' r)∨(c'.1=none∧Cur (RK O key) it la lb st st' c'.2.1 c'.2.2.1 c'.2.2.2.1 (x + 1)) | .yield c'=>c'.1=none∧Cur (RK O key) it la lb st st' c'.2.1 c'.2.2.1 c'.2.2.2.1 (x + 1)) st4:=fun u out' ia' po' eo' m' l1 l2 l3=>by
      rw [hjp2,eo']
      walk_at "d"
      refine wpS_bind (w_el k2 ?_)
      walk_at "z"
      walk_at "z"
      walk_at "d"
      rw [ar_push]
      have m4:=stB m' k2 (fun _=>l2)
      refine w_ite (fun e=>?_) (fun e=>?_)
      · obtain ⟨pr,e1,e2⟩:=DB m4 (by simpa using e)
        exact wpS_pure (.inl ⟨_,rfl,on34,pr,e1,e2⟩)
      have k3:ib3 + 1 < lb.length:=by
       have:¬ ib3 + 1=lb.length:=by simpa using e
       omega
      refine wpS_bind (w_el (by omega) ?_)
      refine wpS_bind (gallop_ok hc (left:=true) (k:=la.getD ia' 0) (p:=lb.toArray) (base:=ib3 + 1) (n:=lb.length - (ib3 + 1)) (hint:=0) (gA _ (by omega)) tB (by simp; omega) (by omega) kd4 (fun i=>O.blt (key (lb.getD (ib3 + 1 + i) 0)) (key (la.getD ia' 0))) (fun i hi=>by rw [if_pos rfl,eB]) (fun i j hij hj e=>?_) (fun q hq1 hq2 hq3=>?_))
      · have:=pB (i:=ib3 + 1 + i) (j:=ib3 + 1 + j) (by omega) (by omega)
        exact KeyOrd.klt_of_kle_of_klt this e
      walk_at "d"
      walk_at "z"
      walk_at "d"
      extract_lets -underBinder -merge -useContext +onlyGivenNames jp3
      clear_value (hjp3:jp3=_)
      have J3:∀ (u:Unit) (out':Array Keyed) (ib':Nat) (po':List Nat),out'=ar it po'→Mg (RK O key) la lb po' ia' ib'→ib' < lb.length→RK O key (la.getD ia' 0) (lb.getD ib' 0)→ib3≤ib'→wpS (model prog w) A E s (jp3 u out' ib') (fun r st'=>match r with | .done c'=>(∃ r,c'.1=some r∧Ended (RK O key) it la lb st st' r)∨(c'.1=none∧Cur (RK O key) it la lb st st' c'.2.1 c'.2.2.1 c'.2.2.2.1 (x + 1)) | .yield c'=>c'.1=none∧Cur (RK O key) it la lb st st' c'.2.1 c'.2.2.1 c'.2.2.2.1 (x + 1)) st4:=fun u out' ib' po' eo' m' l1' l2' l3'=>by
       rw [hjp3,eo']
       walk_at "d"
       refine wpS_bind (w_el (by omega) ?_)
       walk_at "z"
       walk_at "z"
       walk_at "d"
       rw [ar_push]
       have m5:=stA m' (by omega) (fun _=>l2')
       refine w_ite (fun e=>?_) (fun e=>?_)
       · obtain ⟨pr,e1,e2⟩:=DL m5 (by simpa using e)
         exact wpS_pure (.inl ⟨_,rfl,on34,pr,e1,e2⟩)
       have k4:ia' + 1 + 1 < la.length:=by
        have:¬ ia' + 1 + 1=la.length:=by simpa using e
        omega
       refine w_ite (fun _=>?_) (fun _=>?_)
       · exact wpS_pure (.inr ⟨rfl,on34,⟨_,rfl,m5⟩,k4,l1',by dsimp only; omega⟩)
       · exact wpS_pure ⟨rfl,on34,⟨_,rfl,m5⟩,k4,l1',by dsimp only; omega⟩
      clear hjp3
      refine w_ite (fun hq=>?_) (fun hq=>?_)
      · have m5:=m4.pushB sb q (by omega) (fun x hx y hy=>by
         obtain ⟨j,j1,j2,j3,rfl⟩:=mem_segN hx
         obtain ⟨i,i1,i2,rfl⟩:=mem_dropN hy
         have:=hq2 (j - (ib3 + 1)) (by omega)
         rw [show ib3 + 1 + (j - (ib3 + 1))=j by omega] at this
         exact rk_trans (lt_le this) (pA i1 i2))
        walk_at "z"
        walk_at "z"
        walk_at "d"
        rw [ar_ext,ar_app,show ib3 + 1 + q - (ib3 + 1)=q by omega]
        refine w_ite (fun e=>?_) (fun e=>?_)
        · obtain ⟨pr,e1,e2⟩:=DB m5 (by simpa using e)
          exact wpS_pure (.inl ⟨_,rfl,on34,pr,e1,e2⟩)
        have:¬ ib3 + 1 + q=lb.length:=by simpa using e
        exact J3 () _ _ _ rfl m5 (by omega) (nl_le (by have:=hq3 q (Nat.le_refl _) (by omega); exact this)) (by omega)
      · obtain rfl:q=0:=by omega
        exact J3 () _ _ _ rfl m4 k3 (nl_le (by have:=hq3 0 (Nat.le_refl _) (by omega); exact this)) (by omega)
     clear hjp2
     refine w_ite (fun hq=>?_) (fun hq=>?_)
     · have m5:=m3.pushA sa k (by omega) (fun x hx y hy=>by
        obtain ⟨j,j1,j2,j3,rfl⟩:=mem_segN hx
        obtain ⟨i,i1,i2,rfl⟩:=mem_dropN hy
        have:=hk2 (j - ia3) (by omega)
        rw [show ia3 + (j - ia3)=j by omega] at this
        exact rk_trans (nl_le (by simpa using this)) (pB i1 i2))
       walk_at "z"
       walk_at "z"
       walk_at "d"
       rw [ar_ext,ar_app,show ia3 + k - ia3=k by omega]
       refine w_ite (fun e=>?_) (fun e=>w_ite (fun e'=>?_) (fun e'=>?_))
       · obtain ⟨pr,e1,e2⟩:=DL m5 (by simpa using e)
         exact wpS_pure (.inl ⟨_,rfl,on34,pr,e1,e2⟩)
       · obtain ⟨pr,e1,e2⟩:=DA m5 (by simpa using e')
         exact wpS_pure (.inl ⟨_,rfl,on34,pr,e1,e2⟩)
       have q1:¬ ia3 + k + 1=la.length:=by simpa using e
       have q2:¬ ia3 + k=la.length:=by simpa using e'
       exact J2 () _ _ _ rfl m5 (by omega) (lt_le (by have:=hk3 k (Nat.le_refl _) (by omega); simpa using this)) (by omega)
     · obtain rfl:k=0:=by omega
       exact J2 () _ _ _ rfl m3 k1 (lt_le (by have:=hk3 0 (Nat.le_refl _) (by omega); simpa using this)) (by omega)
    clear hjp
    refine w_ite (fun _=>?_) (fun _=>?_)
    · walk_at "z"
      walk_at "d"
      exact wpS_mono (J () _) fun r st' hr=>by cases r <;> exact hr
    · exact wpS_mono (J () _) fun r st' hr=>by cases r <;> exact hr
end
end Tim
namespace Tim
open PySem PySem.W PyProof.Rows
theorem made4 (a b:Array Keyed):True:=by
 fun_cases (sortPriv% PySem.Builtin.mergeHi) a b
 all_goals trivial
def mergeHiT:Array Keyed→Array Keyed→StateT SortSt Sem (Array Keyed):=sortPriv% PySem.Builtin.mergeHi
theorem seg_rev {l:List Nat} {n k:Nat} (hn:n≤l.length) (hk:k≤n):(l.reverse.drop (l.length - n)).take k=((l.drop (n - k)).take k).reverse:=by
 rw [List.drop_reverse,show l.length - (l.length - n)=n by omega,List.take_reverse,List.length_take,show min n l.length - k=n - k by omega,List.drop_take,show n - (n - k)=k by omega]
theorem drop_rev {l:List Nat} {n:Nat} (hn:n≤l.length):l.reverse.drop (l.length - n)=(l.take n).reverse:=by
 rw [List.drop_reverse,show l.length - (l.length - n)=n by omega]
theorem one_rev {l:List Nat} {n:Nat} (hn:n≤l.length) (h1:1≤n):(l.reverse.drop (l.length - n)).take 1=[l.getD (n - 1) 0]:=by
 rw [seg_rev hn h1,take1 (by omega)]; rfl
theorem mem_takeN {l:List Nat} {n x:Nat} (h:x∈l.take n):∃ j,j < n∧j < l.length∧x=l.getD j 0:=by
 obtain ⟨j,hj,e⟩:=List.getElem_of_mem h
 rw [List.length_take] at hj
 rw [List.getElem_take] at e
 exact ⟨j,by omega,by omega,by rw [List.getD_eq_getElem?_getD,List.getElem?_eq_getElem (by omega)]; exact e.symm⟩
section
variable {M:Model} {prog:Program} {w:World} {A:Around} {E:Value→Shared→Prop} {s:Shared} {O:KeyOrd} {key:Nat→O.α} {κ:SortKind} {it:Array Keyed} {N:Nat} {la lb:List Nat}
abbrev Mh (O:KeyOrd) (key:Nat→O.α) (la lb po:List Nat) (na nb:Nat):Prop:=Mg (fun x y=>RK O key y x) lb.reverse la.reverse po (lb.length - nb) (la.length - na)
theorem res_rev {pr:List Nat} (h:Res (fun x y=>RK O key y x) lb.reverse la.reverse pr):Res (RK O key) la lb pr.reverse:=by
 refine ⟨(List.reverse_perm _).trans (h.1.trans ?_),?_⟩
 · exact (List.Perm.append (List.reverse_perm _) (List.reverse_perm _)).trans List.perm_append_comm
 · rw [List.pairwise_reverse]; exact h.2
structure CurH (O:KeyOrd) (key:Nat→O.α) (it:Array Keyed) (la lb:List Nat) (st0 st':SortSt) (out:Array Keyed) (na nb low:Nat):Prop where
 on:Only st0 st'
 mg:∃ po,out=ar it po∧Mh O key la lb po na nb
 h1:1≤na∧na≤la.length
 h2:2≤nb∧nb≤lb.length
 low:low≤(la.length - na) + (lb.length - nb)
theorem mergeHi_ok (hc:Asks prog w A s O key κ it N) {st:SortSt} {Q:Array Keyed→SortSt→Prop} (ha:∀ x∈la,x < N) (hb:∀ x∈lb,x < N) (sa:la.Pairwise (RK O key)) (sb:lb.Pairwise (RK O key)) (na0:la≠[]) (nb0:lb≠[]) (h0:∀ x∈la,RK O key (lb.getD 0 0) x)
 (hl:RK O key (lb.getD (lb.length - 1) 0) (la.getD (la.length - 1) 0)) (hkd:kindOf st=κ) (h:∀ pr st',Only st st'→Res (RK O key) la lb pr→Q (ar it pr) st'):wpS (model prog w) A E s (mergeHiT (ar it la) (ar it lb)) Q st:=by
 have la0:0 < la.length:=List.length_pos_iff.mpr na0
 have lb0:0 < lb.length:=List.length_pos_iff.mpr nb0
 have gN:∀ {l:List Nat},(∀ x∈l,x < N)→∀ i,i < l.length→l.getD i 0 < N:=fun {l} hh i hi=>by
  rw [List.getD_eq_getElem?_getD,List.getElem?_eq_getElem hi]; exact hh _ (List.getElem_mem hi)
 have gA:=gN ha
 have gB:=gN hb
 have tA:∀ i,i < la.toArray.size→la.toArray.getD i 0 < N:=fun i hi=>by
  have e:la.toArray.getD i 0=la.getD i 0:=by simp
  rw [e]; exact gA i (by simpa using hi)
 have tB:∀ i,i < lb.toArray.size→lb.toArray.getD i 0 < N:=fun i hi=>by
  have e:lb.toArray.getD i 0=lb.getD i 0:=by simp
  rw [e]; exact gB i (by simpa using hi)
 have eA:∀ i,la.toArray.getD i 0=la.getD i 0:=fun i=>by simp
 have eB:∀ i,lb.toArray.getD i 0=lb.getD i 0:=fun i=>by simp
 have pA:∀ {i j:Nat},i≤j→j < la.length→RK O key (la.getD i 0) (la.getD j 0):=fun hij hj=>pw_get rk_refl sa hij hj
 have pB:∀ {i j:Nat},i≤j→j < lb.length→RK O key (lb.getD i 0) (lb.getD j 0):=fun hij hj=>pw_get rk_refl sb hij hj
 have ra:la.reverse.Pairwise (fun x y=>RK O key y x):=List.pairwise_reverse.mpr sa
 have rb:lb.reverse.Pairwise (fun x y=>RK O key y x):=List.pairwise_reverse.mpr sb
 have lt_le:∀ {x y:Nat},O.blt (key x) (key y)=true→RK O key x y:=fun h=>KeyOrd.kle_of_klt h
 have nl_le:∀ {x y:Nat},O.blt (key x) (key y)=false→RK O key y x:=fun h=>h
 have psA:∀ {po:List Nat} {na nb k:Nat},Mh O key la lb po na nb→na≤la.length→nb≤lb.length→k≤na→(∀ j,na - k≤j→j < na→1≤nb→RK O key (lb.getD (nb - 1) 0) (la.getD j 0))→Mh O key la lb (po++((la.drop (na - k)).take k).reverse) (na - k) nb:=fun {po na nb k} m l1 l2 hk hr=>by
  have:=m.pushB ra k (by rw [List.length_reverse]; omega) (fun x hx y hy=>by
   rw [seg_rev l1 hk,List.mem_reverse] at hx
   rw [drop_rev l2,List.mem_reverse] at hy
   obtain ⟨j,j1,j2,j3,rfl⟩:=mem_segN hx
   obtain ⟨i,i1,i2,rfl⟩:=mem_takeN hy
   exact rk_trans (pB (by omega) (by omega)) (hr j j1 (by omega) (by omega)))
  rw [seg_rev l1 hk,show la.length - na + k=la.length - (na - k) by omega] at this
  exact this
 have psB:∀ {po:List Nat} {na nb k:Nat},Mh O key la lb po na nb→na≤la.length→nb≤lb.length→k≤nb→(∀ j,nb - k≤j→j < nb→1≤na→RK O key (la.getD (na - 1) 0) (lb.getD j 0))→Mh O key la lb (po++((lb.drop (nb - k)).take k).reverse) na (nb - k):=fun {po na nb k} m l1 l2 hk hr=>by
  have:=m.pushA rb k (by rw [List.length_reverse]; omega) (fun x hx y hy=>by
   rw [seg_rev l2 hk,List.mem_reverse] at hx
   rw [drop_rev l1,List.mem_reverse] at hy
   obtain ⟨j,j1,j2,j3,rfl⟩:=mem_segN hx
   obtain ⟨i,i1,i2,rfl⟩:=mem_takeN hy
   exact rk_trans (pA (by omega) (by omega)) (hr j j1 (by omega) (by omega)))
  rw [seg_rev l2 hk,show lb.length - nb + k=lb.length - (nb - k) by omega] at this
  exact this
 have stA:∀ {po:List Nat} {na nb:Nat},Mh O key la lb po na nb→na≤la.length→nb≤lb.length→1≤na→(1≤nb→RK O key (lb.getD (nb - 1) 0) (la.getD (na - 1) 0))→Mh O key la lb (po++[la.getD (na - 1) 0]) (na - 1) nb:=fun {po na nb} m l1 l2 hk hr=>by
  have:=psA m l1 l2 hk (fun j j1 j2 j3=>by rw [show j=na - 1 by omega]; exact hr j3)
  rwa [take1 (by omega)] at this
 have stB:∀ {po:List Nat} {na nb:Nat},Mh O key la lb po na nb→na≤la.length→nb≤lb.length→1≤nb→(1≤na→RK O key (la.getD (na - 1) 0) (lb.getD (nb - 1) 0))→Mh O key la lb (po++[lb.getD (nb - 1) 0]) na (nb - 1):=fun {po na nb} m l1 l2 hk hr=>by
  have:=psB m l1 l2 hk (fun j j1 j2 j3=>by rw [show j=nb - 1 by omega]; exact hr j3)
  rwa [take1 (by omega)] at this
 unfold mergeHiT
 rw [(sortPriv% PySem.Builtin.mergeHi.eq_def)]
 rw [ar_size,ar_size]
 refine wpS_bind (wpS_lift (wpAny_rule ⟨rfl,?_⟩))
 extract_lets -underBinder -merge -useContext +onlyGivenNames tot
 clear_value (htot:tot=_)
 extract_lets -underBinder -merge -useContext +onlyGivenNames dn
 clear_value (hdn:dn=_)
 extract_lets -underBinder -merge -useContext +onlyGivenNames ls
 clear_value (hls:ls=_)
 have D:∀ po na nb,dn (ar it po) na nb=ar it (la.take na++lb.take nb++po.reverse):=fun po na nb=>by
  rw [hdn]
  show (ar it la).extract 0 na++(ar it lb).extract 0 nb++(ar it po).reverse=_
  rw [ar_ext,ar_ext,ar_rev,ar_app,ar_app,List.drop_zero,List.drop_zero,Nat.sub_zero,Nat.sub_zero]
 have Ls:∀ po na nb,ls (ar it po) na nb=ar it (lb.take nb++la.take na++po.reverse):=fun po na nb=>by
  rw [hls]
  show (ar it lb).extract 0 nb++(ar it la).extract 0 na++(ar it po).reverse=_
  rw [ar_ext,ar_ext,ar_rev,ar_app,ar_app,List.drop_zero,List.drop_zero,Nat.sub_zero,Nat.sub_zero]
 clear hdn hls
 have DA:∀ {po:List Nat} {na nb:Nat},Mh O key la lb po na nb→nb≤lb.length→na=0→∃ pr,dn (ar it po) na nb=ar it pr∧Res (RK O key) la lb pr:=fun {po na nb} m l2 e=>⟨_,D po na nb,by
  have:=res_rev (m.endA rb (by rw [List.length_reverse,e]; rfl))
  rw [drop_rev l2,List.reverse_append,List.reverse_reverse] at this
  rw [e,List.take_zero,List.nil_append]; exact this⟩
 have DB:∀ {po:List Nat} {na nb:Nat},Mh O key la lb po na nb→na≤la.length→nb=0→∃ pr,dn (ar it po) na nb=ar it pr∧Res (RK O key) la lb pr:=fun {po na nb} m l1 e=>⟨_,D po na nb,by
  have:=res_rev (m.endB ra (by rw [List.length_reverse,e]; rfl))
  rw [drop_rev l1,List.reverse_append,List.reverse_reverse] at this
  rw [e,List.take_zero,List.append_nil]; exact this⟩
 have DL:∀ {po:List Nat} {na nb:Nat},Mh O key la lb po na nb→na≤la.length→nb=1→∃ pr,ls (ar it po) na nb=ar it pr∧Res (RK O key) la lb pr:=fun {po na nb} m l1 e=>⟨_,Ls po na nb,by
  have:=res_rev (m.last ra (by rw [List.length_reverse,e]; omega) (fun x hx y hy=>by
   rw [drop_rev (by omega),List.mem_reverse,e] at hy
   obtain ⟨i,i1,i2,rfl⟩:=mem_takeN hy
   obtain rfl:i=0:=by omega
   exact h0 x (List.mem_reverse.mp hx)))
  rw [drop_rev l1,drop_rev (by omega),List.reverse_append,List.reverse_append,List.reverse_reverse,List.reverse_reverse] at this
  rw [List.append_assoc]; exact this⟩
 clear D Ls
 walk_at "z"
 walk_at "z"
 walk_at "d"
 refine wpS_bind (w_el (by omega) ?_)
 walk_at "z"
 walk_at "d"
 rw [ar_one]
 have m0:Mh O key la lb [la.getD (la.length - 1) 0] (la.length - 1) lb.length:=by
  have:=stA (po:=[]) (na:=la.length) (nb:=lb.length) ⟨by rw [Nat.sub_self]; exact Nat.zero_le _,by rw [Nat.sub_self]; exact Nat.zero_le _,by rw [Nat.sub_self,Nat.sub_self]; exact List.Perm.refl _,List.Pairwise.nil,fun x hx=>by simp at hx⟩ (Nat.le_refl _) (Nat.le_refl _) la0 (fun _=>hl)
  exact this
 refine w_ite (fun e=>?_) (fun e=>?_)
 · obtain ⟨pr,e1,e2⟩:=DA m0 (Nat.le_refl _) (by simpa using e)
   rw [e1]; exact wpS_pure (h pr st (Only.refl _) e2)
 have n1:¬ la.length - 1=0:=by simpa using e
 refine w_ite (fun e=>?_) (fun e=>?_)
 · obtain ⟨pr,e1,e2⟩:=DL m0 (by omega) (by simpa using e)
   rw [e1]; exact wpS_pure (h pr st (Only.refl _) e2)
 have n2:¬ lb.length=1:=by simpa using e
 refine wpS_bind (wpS_get ?_)
 walk_at "z"
 walk_at "d"
 refine wpS_bind (wpS_mono (wpS_forRange (I:=fun x c st'=>c.1=none∧CurH O key it la lb st st' c.2.2.2.1 c.2.1 c.2.2.1 x) (Q:=fun c st'=>∃ r,c.1=some r∧Ended (RK O key) it la lb st st' r) ?step ?fin ⟨rfl,Only.refl _,⟨_,rfl,m0⟩,⟨by dsimp only; omega,by dsimp only; omega⟩,⟨by dsimp only; omega,by dsimp only; omega⟩,by omega⟩) ?post)
 case post =>
  rintro ⟨r0,na,nb,out,mg⟩ st' ⟨r,e,on,pr,e2,re⟩
  obtain rfl:r0=some r:=e
  walk_at "z"
  walk_at "d"
  walk_at "d"
  rw [e2]
  exact wpS_pure (h pr st' on re)
 case fin =>
  rintro ⟨r0,na,nb,out,mg⟩ st' ⟨e,cu⟩
  exfalso
  have h1:=cu.h1
  have h2:=cu.h2
  have h3:=cu.low
  dsimp only at h1 h2 h3
  rw [htot] at h3
  omega
 case step =>
  rintro x ⟨r0,na,nb,out,mg⟩ st' _ hx ⟨e0,on,⟨po,eo,m⟩,⟨h1,h1'⟩,⟨h2,h2'⟩,lo⟩
  dsimp only at e0 eo m h1 h1' h2 h2' lo
  subst e0 eo
  walk_at "z"
  walk_at "z"
  walk_at "z"
  walk_at "z"
  walk_at "z"
  walk_at "z"
  walk_at "z"
  walk_at "z"
  walk_at "z"
  walk_at "d"
  refine wpS_bind (wpS_mono (wpS_forRange (I:=fun y c st2=>c.1=none∧CurH O key it la lb st st2 c.2.2.2.1 c.2.1 c.2.2.1 ((la.length - na) + (lb.length - nb) + y)) (Q:=fun c st2=>(∃ r,c.1=some r∧Ended (RK O key) it la lb st st2 r)∨(c.1=none∧CurH O key it la lb st st2 c.2.2.2.1 c.2.1 c.2.2.1 (x + 1))) ?s1 ?f1 ⟨rfl,on,⟨po,rfl,m⟩,⟨h1,h1'⟩,⟨h2,h2'⟩,by dsimp only; omega⟩) ?p1)
  case f1 =>
   rintro ⟨r1,na1,nb1,out,ac,bc⟩ st2 ⟨e,cu⟩
   have h3:=cu.low
   dsimp only at h3
   rw [htot] at h3
   exact .inr ⟨e,cu.on,cu.mg,cu.h1,cu.h2,by dsimp only; omega⟩
  case s1 =>
   rintro y ⟨r1,na1,nb1,out,ac,bc⟩ st2 _ hy ⟨e1,on2,⟨po2,eo2,m2⟩,⟨g1,g1'⟩,⟨g2,g2'⟩,lo2⟩
   dsimp only at e1 eo2 m2 g1 g1' g2 g2' lo2
   subst e1 eo2
   have kd2:kindOf st2=κ:=on2.kd.trans hkd
   walk_at "z"
   walk_at "z"
   walk_at "z"
   walk_at "z"
   walk_at "z"
   walk_at "z"
   walk_at "z"
   walk_at "z"
   walk_at "z"
   walk_at "d"
   refine wpS_bind (w_el (by omega) (wpS_bind (w_el (by omega) (wpS_bind (w_lt hc (gB _ (by omega)) (gA _ (by omega)) kd2 ?_)))))
   walk_at "d"
   refine w_ite (fun hb1=>?_) (fun hb1=>?_)
   · walk_at "z"
     walk_at "d"
     refine wpS_bind (w_el (by omega) ?_)
     walk_at "z"
     walk_at "z"
     walk_at "z"
     walk_at "d"
     rw [ar_push]
     have m3:=stA m2 g1' g2' g1 (fun _=>lt_le hb1)
     refine w_ite (fun e=>?_) (fun e=>w_ite (fun _=>?_) (fun _=>?_))
     · obtain ⟨pr,e1,e2⟩:=DA m3 g2' (by simpa using e)
       exact wpS_pure (.inl ⟨_,rfl,on2,pr,e1,e2⟩)
     · have:¬ na1 - 1=0:=by simpa using e
       exact wpS_pure (.inr ⟨rfl,on2,⟨_,rfl,m3⟩,⟨by dsimp only; omega,by dsimp only; omega⟩,⟨g2,g2'⟩,by dsimp only; omega⟩)
     · have:¬ na1 - 1=0:=by simpa using e
       exact wpS_pure ⟨rfl,on2,⟨_,rfl,m3⟩,⟨by dsimp only; omega,by dsimp only; omega⟩,⟨g2,g2'⟩,by dsimp only; omega⟩
   · walk_at "z"
     walk_at "d"
     refine wpS_bind (w_el (by omega) ?_)
     walk_at "z"
     walk_at "z"
     walk_at "z"
     walk_at "d"
     rw [ar_push]
     have m3:=stB m2 g1' g2' (by omega) (fun _=>nl_le (Bool.not_eq_true _ |>.mp hb1))
     refine w_ite (fun e=>?_) (fun e=>w_ite (fun _=>?_) (fun _=>?_))
     · obtain ⟨pr,e1,e2⟩:=DL m3 g1' (by simpa using e)
       exact wpS_pure (.inl ⟨_,rfl,on2,pr,e1,e2⟩)
     · have:¬ nb1 - 1=1:=by simpa using e
       exact wpS_pure (.inr ⟨rfl,on2,⟨_,rfl,m3⟩,⟨g1,g1'⟩,⟨by dsimp only; omega,by dsimp only; omega⟩,by dsimp only; omega⟩)
     · have:¬ nb1 - 1=1:=by simpa using e
       exact wpS_pure ⟨rfl,on2,⟨_,rfl,m3⟩,⟨g1,g1'⟩,⟨by dsimp only; omega,by dsimp only; omega⟩,by dsimp only; omega⟩
  case p1 =>
   rintro ⟨r1,na1,nb1,out,ac,bc⟩ st2 (⟨r,e,en⟩ | ⟨e,on2,⟨po2,eo2,m2⟩,⟨g1,g1'⟩,⟨g2,g2'⟩,lo2⟩)
   · obtain rfl:r1=some r:=e
     walk_at "z"
     walk_at "z"
     walk_at "z"
     walk_at "z"
     walk_at "z"
     walk_at "z"
     walk_at "z"
     walk_at "z"
     walk_at "z"
     walk_at "z"
     walk_at "d"
     walk_at "d"
     exact wpS_pure ⟨r,rfl,en⟩
   dsimp only at e eo2 m2 g1 g1' g2 g2' lo2
   subst e eo2
   walk_at "z"
   walk_at "z"
   walk_at "z"
   walk_at "z"
   walk_at "z"
   walk_at "z"
   walk_at "z"
   walk_at "z"
   walk_at "z"
   walk_at "z"
   walk_at "d"
   walk_at "d"
   refine wpS_bind (wpS_lift (wpAny_rule ⟨rfl,?_⟩))
   walk_at "z"
   walk_at "d"
   refine wpS_bind (wpS_mono (wpS_forRange (I:=fun z c st3=>c.1=none∧CurH O key it la lb st st3 c.2.2.2.1 c.2.1 c.2.2.1 (x + 1)) (Q:=fun c st3=>(∃ r,c.1=some r∧Ended (RK O key) it la lb st st3 r)∨(c.1=none∧CurH O key it la lb st st3 c.2.2.2.1 c.2.1 c.2.2.1 (x + 1))) ?s2 ?f2 ⟨rfl,on2,⟨po2,rfl,m2⟩,⟨g1,g1'⟩,⟨g2,g2'⟩,lo2⟩) ?p2)
   case f2 =>
    rintro c st3 ⟨e,cu⟩
    exact .inr ⟨e,cu⟩
   case p2 =>
    rintro ⟨r3,na3,nb3,out,mg3,ac3,bc3⟩ st3 (⟨r,e,en⟩ | ⟨e,cu⟩)
    · obtain rfl:r3=some r:=e
      walk_at "z"
      walk_at "z"
      walk_at "z"
      walk_at "z"
      walk_at "z"
      walk_at "z"
      walk_at "z"
      walk_at "z"
      walk_at "z"
      walk_at "d"
      walk_at "d"
      exact wpS_pure ⟨r,rfl,en⟩
    · obtain rfl:r3=none:=e
      walk_at "z"
      walk_at "z"
      walk_at "z"
      walk_at "z"
      walk_at "z"
      walk_at "z"
      walk_at "z"
      walk_at "z"
      walk_at "z"
      walk_at "d"
      walk_at "d"
      walk_at "z"
      walk_at "d"
      refine wpS_bind (w_set fun st4 on4=>wpS_pure ⟨rfl,cu.on.trans on4,cu.mg,cu.h1,cu.h2,cu.low⟩)
   case s2 =>
    rintro z ⟨r3,na3,nb3,out,mg3,ac3,bc3⟩ st3 _ hz ⟨e3,on3,⟨po3,eo3,m3⟩,⟨k1,k1'⟩,⟨k2,k2'⟩,lo3⟩
    dsimp only at e3 eo3 m3 k1 k1' k2 k2' lo3
    subst e3 eo3
    walk_at "z"
    walk_at "z"
    walk_at "z"
    walk_at "z"
    walk_at "z"
    walk_at "z"
    walk_at "z"
    walk_at "z"
    walk_at "z"
    walk_at "z"
    walk_at "z"
    walk_at "d"
    extract_lets -underBinder -merge -useContext +onlyGivenNames jp
    clear_value (hjp:jp=_)
    have J:∀ (u:Unit) (g:Nat),wpS (model prog w) A E s (jp u g) (fun r st'=>match r with | .done c'=>(∃ r,c'.1=some r∧Ended (RK O key) it la lb st st' r)∨(c'.1=none∧CurH O key it la lb st st' c'.2.2.2.1 c'.2.1 c'.2.2.1 (x + 1)) | .yield c'=>c'.1=none∧CurH O key it la lb st st' c'.2.2.2.1 c'.2.1 c'.2.2.1 (x + 1)) st3:=fun u g=>by
     rw [hjp]
     walk_at "d"
     refine wpS_bind (w_set fun st4 on4=>?_)
     have on34:=on3.trans on4
     have kd4:kindOf st4=κ:=on34.kd.trans hkd
     refine wpS_bind (w_el (by omega) ?_)
     refine wpS_bind (gallop_ok hc (left:=false) (k:=lb.getD (nb3 - 1) 0) (p:=la.toArray) (base:=0) (n:=na3) (hint:=na3 - 1) (gB _ (by omega)) tA (by simp; omega) (by omega) kd4 (fun i=>!O.blt (key (lb.getD (nb3 - 1) 0)) (key (la.getD (0 + i) 0))) (fun i hi=>by rw [if_neg Bool.false_ne_true,eA]) (fun i j hij hj e=>?_) (fun k hk1 hk2 hk3=>?_))
     · have e':O.blt (key (lb.getD (nb3 - 1) 0)) (key (la.getD (0 + j) 0))=false:=by simpa using e
       have:=rk_trans (pA (i:=0 + i) (j:=0 + j) (by omega) (by omega)) (nl_le e')
       show (!O.blt _ _)=true
       rw [show O.blt (key (lb.getD (nb3 - 1) 0)) (key (la.getD (0 + i) 0))=false from this]; rfl
     walk_at "d"
     walk_at "z"
     walk_at "z"
     walk_at "d"
     extract_lets -underBinder -merge -useContext +onlyGivenNames jp2
     clear_value (hjp2:jp2=_)
     have J2:∀ (u:Unit) (na':Nat) (out':Array Keyed) (po':List Nat),out'=ar it po'→Mh O key la lb po' na' nb3→1≤na'→na'≤na3→RK O key (la.getD (na' - 1) 0) (lb.getD (nb3 - 1) 0)→wpS (model prog w) A E s (jp2 u na' out') (fun r st'=>match r with | .done c'=>(∃ r,c'.1=some r∧Ended (RK O key) it la lb st st' r)∨(c'.1=none∧CurH O key it la lb st st' c'.2.2.2.1 c'.2.1 c'.2.2.1 (x + 1)) | .yield c'=>c'.1=none∧CurH O key it la lb st st' c'.2.2.2.1 c'.2.1 c'.2.2.1 (x + 1)) st4:=fun u na' out' po' eo' m' l1 l2 l3=>by
      rw [hjp2,eo']
      walk_at "d"
      walk_at "z"
      walk_at "d"
      refine wpS_bind (w_el (by omega) ?_)
      walk_at "z"
      walk_at "d"
      rw [ar_push]
      have m4:=stB m' (by omega) k2' (by omega) (fun _=>l3)
      refine w_ite (fun e=>?_) (fun e=>?_)
      · obtain ⟨pr,e1,e2⟩:=DL m4 (by omega) (by simpa using e)
        exact wpS_pure (.inl ⟨_,rfl,on34,pr,e1,e2⟩)
      have k3:¬ nb3 - 1=1:=by simpa using e
      refine wpS_bind (w_el (by omega) ?_)
      refine wpS_bind (gallop_ok hc (left:=true) (k:=la.getD (na' - 1) 0) (p:=lb.toArray) (base:=0) (n:=nb3 - 1) (hint:=nb3 - 1 - 1) (gA _ (by omega)) tB (by simp; omega) (by omega) kd4 (fun i=>O.blt (key (lb.getD (0 + i) 0)) (key (la.getD (na' - 1) 0))) (fun i hi=>by rw [if_pos rfl,eB]) (fun i j hij hj e=>?_) (fun q hq1 hq2 hq3=>?_))
      · have:=pB (i:=0 + i) (j:=0 + j) (by omega) (by omega)
        exact KeyOrd.klt_of_kle_of_klt this e
      walk_at "d"
      walk_at "z"
      walk_at "z"
      walk_at "d"
      extract_lets -underBinder -merge -useContext +onlyGivenNames jp3
      clear_value (hjp3:jp3=_)
      have J3:∀ (u:Unit) (nb':Nat) (out':Array Keyed) (po':List Nat),out'=ar it po'→Mh O key la lb po' na' nb'→2≤nb'→nb'≤nb3→RK O key (lb.getD (nb' - 1) 0) (la.getD (na' - 1) 0)→wpS (model prog w) A E s (jp3 u nb' out') (fun r st'=>match r with | .done c'=>(∃ r,c'.1=some r∧Ended (RK O key) it la lb st st' r)∨(c'.1=none∧CurH O key it la lb st st' c'.2.2.2.1 c'.2.1 c'.2.2.1 (x + 1)) | .yield c'=>c'.1=none∧CurH O key it la lb st st' c'.2.2.2.1 c'.2.1 c'.2.2.1 (x + 1)) st4:=fun u nb' out' po' eo' m' l1' l2' l3'=>by
       rw [hjp3,eo']
       walk_at "d"
       walk_at "z"
       walk_at "d"
       refine wpS_bind (w_el (by omega) ?_)
       walk_at "z"
       walk_at "d"
       rw [ar_push]
       have m5:=stA m' (by omega) (by omega) l1 (fun _=>l3')
       refine w_ite (fun e=>?_) (fun e=>?_)
       · obtain ⟨pr,e1,e2⟩:=DA m5 (by omega) (by simpa using e)
         exact wpS_pure (.inl ⟨_,rfl,on34,pr,e1,e2⟩)
       have k4:¬ na' - 1=0:=by simpa using e
       refine w_ite (fun _=>?_) (fun _=>?_)
       · exact wpS_pure (.inr ⟨rfl,on34,⟨_,rfl,m5⟩,⟨by dsimp only; omega,by dsimp only; omega⟩,⟨by dsimp only; omega,by dsimp only; omega⟩,by dsimp only; omega⟩)
       · exact wpS_pure ⟨rfl,on34,⟨_,rfl,m5⟩,⟨by dsimp only; omega,by dsimp only; omega⟩,⟨by dsimp only; omega,by dsimp only; omega⟩,by dsimp only; omega⟩
      clear hjp3
      refine w_ite (fun hq=>?_) (fun hq=>?_)
      · have m5:=psB (k:=nb3 - 1 - q) m4 (by omega) (by omega) (by omega) (fun j j1 j2 _=>by
         have:=hq3 j (by omega) (by omega)
         rw [Nat.zero_add] at this
         exact nl_le this)
        rw [show nb3 - 1 - (nb3 - 1 - q)=q by omega] at m5
        walk_at "z"
        walk_at "z"
        walk_at "d"
        rw [ar_ext,ar_rev,ar_app]
        refine w_ite (fun e=>?_) (fun e=>w_ite (fun e'=>?_) (fun e'=>?_))
        · obtain ⟨pr,e1,e2⟩:=DL m5 (by omega) (by simpa using e)
          exact wpS_pure (.inl ⟨_,rfl,on34,pr,e1,e2⟩)
        · obtain ⟨pr,e1,e2⟩:=DB m5 (by omega) (by simpa using e')
          exact wpS_pure (.inl ⟨_,rfl,on34,pr,e1,e2⟩)
        have q1:¬ q=1:=by simpa using e
        have q2:¬ q=0:=by simpa using e'
        exact J3 () _ _ _ rfl m5 (by omega) (by omega) (lt_le (by have:=hq2 (q - 1) (by omega); rw [Nat.zero_add] at this; exact this))
      · obtain rfl:q=nb3 - 1:=by omega
        exact J3 () _ _ _ rfl m4 (by omega) (by omega) (lt_le (by have:=hq2 (nb3 - 1 - 1) (by omega); rw [Nat.zero_add] at this; exact this))
     clear hjp2
     refine w_ite (fun hq=>?_) (fun hq=>?_)
     · have m5:=psA (k:=na3 - k) m3 k1' k2' (by omega) (fun j j1 j2 _=>by
        have:=hk3 j (by omega) (by omega)
        rw [Nat.zero_add] at this
        exact lt_le (by simpa using this))
       rw [show na3 - (na3 - k)=k by omega] at m5
       walk_at "z"
       walk_at "z"
       walk_at "d"
       rw [ar_ext,ar_rev,ar_app]
       refine w_ite (fun e=>?_) (fun e=>?_)
       · obtain ⟨pr,e1,e2⟩:=DA m5 k2' (by simpa using e)
         exact wpS_pure (.inl ⟨_,rfl,on34,pr,e1,e2⟩)
       have q1:¬ k=0:=by simpa using e
       exact J2 () _ _ _ rfl m5 (by omega) (by omega) (nl_le (by have:=hk2 (k - 1) (by omega); rw [Nat.zero_add] at this; simpa using this))
     · obtain rfl:k=na3:=by omega
       exact J2 () _ _ _ rfl m3 k1 (Nat.le_refl _) (nl_le (by have:=hk2 (k - 1) (by omega); rw [Nat.zero_add] at this; simpa using this))
    clear hjp
    refine w_ite (fun _=>?_) (fun _=>?_)
    · walk_at "z"
      walk_at "d"
      exact wpS_mono (J () _) fun r st' hr=>by cases r <;> exact hr
    · exact wpS_mono (J () _) fun r st' hr=>by cases r <;> exact hr
end
end Tim
namespace Tim
open PySem PySem.W PyProof.Rows
theorem made5 (a b:Nat):True:=by
 fun_cases (sortPriv% PySem.Builtin.countRun) a b
 all_goals trivial
theorem made6 (a b c:Nat):True:=by
 fun_cases (sortPriv% PySem.Builtin.binarySort) a b c
 all_goals trivial
section
variable {prog:Program} {w:World} {A:Around} {E:Value→Shared→Prop} {s:Shared} {O:KeyOrd} {key:Nat→O.α} {κ:SortKind} {it:Array Keyed} {N:Nat}
structure Sg (it:Array Keyed) (κ:SortKind) (N:Nat) (pd0:Array (Nat × Nat × Nat)) (p0:Array Nat) (lo hi:Nat) (st:SortSt) (p:Array Nat):Prop where
 arr:arrOf st=p.map (kas_item it)
 kd:kindOf st=κ
 fl:failedOf st=none
 pd:pendingOf st=pd0
 pm:KasM.Pm N p
 out:∀ i,(i < lo∨hi≤i)→p.getD i 0=p0.getD i 0
def UpS (key:Nat→O.α) (p:Array Nat) (lo hi:Nat):Prop:=∀ i j,lo≤i→i≤j→j < hi→O.kle (KasM.K key p i) (KasM.K key p j)
def DnS (key:Nat→O.α) (p:Array Nat) (lo hi:Nat):Prop:=∀ i j,lo≤i→i≤j→j < hi→O.kle (KasM.K key p j) (KasM.K key p i)
variable {pd0:Array (Nat × Nat × Nat)} {p0 p:Array Nat} {lo hi:Nat} {st:SortSt}
theorem w_at (hc:Asks prog w A s O key κ it N) (S:Sg it κ N pd0 p0 lo hi st p) {i j:Nat} {Q:Option Bool→SortSt→Prop} (hi':i < N) (hj:j < N) (h:Q (some (O.blt (KasM.K key p i) (KasM.K key p j))) st):wpS (model prog w) A E s (ltAt' i j) Q st:=by
 have hz:=S.pm.size
 rw [ltAt'_eq]
 refine wpS_bind (wpS_get ?_)
 show wpS _ _ _ _ (do let x ←elem' (arrOf st) i; let y ←elem' (arrOf st) j; lt' x y) Q st
 rw [S.arr]
 refine wpS_bind (w_elem (by omega) (wpS_bind (w_elem (by omega) ?_)))
 exact w_lt hc (S.pm.lt (by omega) i) (S.pm.lt (by omega) j) S.kd h
theorem w_rev (S:Sg it κ N pd0 p0 lo hi st p) {i j:Nat} {Q:Unit→SortSt→Prop} (h1:lo≤i) (h2:j≤hi) (hN:hi≤N) (h:∀ st',Sg it κ N pd0 p0 lo hi st' (kas_rev p i j)→Q () st'):wpS (model prog w) A E s (reverseSlice' i j) Q st:=by
 have hz:=S.pm.size
 rw [reverseSlice'_eq]
 refine wpS_modify (h _ ⟨?_,S.kd,S.fl,S.pd,S.pm.rev _ _,fun k hk=>?_⟩)
 · show mirror (arrOf st) i j ((j - i) / 2)=_
   rw [S.arr]
   exact kas_swaps_map (kas_item it) (fun k=>i + k) (fun k=>j - 1 - k) _ p
 · rw [KasM.getD_rev (by omega),if_neg (by omega)]; exact S.out k hk
theorem w_mov (S:Sg it κ N pd0 p0 lo hi st p) {k l:Nat} {Q:Unit→SortSt→Prop} (h1:lo≤l) (h2:l≤k) (h3:k < hi) (hN:hi≤N) (h:∀ st',Sg it κ N pd0 p0 lo hi st' (bubble p k (k - l))→Q () st'):wpS (model prog w) A E s (moveDown' k l) Q st:=by
 have hz:=S.pm.size
 rw [moveDown'_eq]
 refine wpS_modify (h _ ⟨?_,S.kd,S.fl,S.pd,S.pm.bub _ _,fun t ht=>?_⟩)
 · show bubble (arrOf st) k (k - l)=_
   rw [S.arr]
   exact kas_swaps_map (kas_item it) (fun i=>k - i) (fun i=>k - i - 1) _ p
 · rw [KasM.getD_bub (by omega) h2,if_neg (by omega),if_neg (by omega)]; exact S.out t ht
theorem UpS.snoc {a:Nat} (h:UpS key p lo a) (hl:lo < a) (hk:O.kle (KasM.K key p (a - 1)) (KasM.K key p a)):UpS key p lo (a + 1):=fun i j h1 h2 h3=>by
 by_cases e:j < a
 · exact h i j h1 h2 e
 · obtain rfl:j=a:=by omega
   by_cases e2:i=j
   · rw [e2]; exact KeyOrd.kle_refl _
   · exact KeyOrd.kle_trans (h i (j - 1) h1 (by omega) (by omega)) hk
theorem DnS.snoc {a:Nat} (h:DnS key p lo a) (hl:lo < a) (hk:O.kle (KasM.K key p a) (KasM.K key p (a - 1))):DnS key p lo (a + 1):=fun i j h1 h2 h3=>by
 by_cases e:j < a
 · exact h i j h1 h2 e
 · obtain rfl:j=a:=by omega
   by_cases e2:i=j
   · rw [e2]; exact KeyOrd.kle_refl _
   · exact KeyOrd.kle_trans hk (h i (j - 1) h1 (by omega) (by omega))
theorem UpS.one:UpS key p lo (lo + 1):=fun i j h1 h2 h3=>by
 rw [show i=j by omega]; exact KeyOrd.kle_refl _
theorem countRun_ok (hc:Asks prog w A s O key κ it N) {nrem:Nat} {Q:Option Nat→SortSt→Prop} (S:Sg it κ N pd0 p0 lo (lo + nrem) st p) (h1:1≤nrem) (hN:lo + nrem≤N)
 (h:∀ m st' p',Sg it κ N pd0 p0 lo (lo + nrem) st' p'→1≤m→m≤nrem→UpS key p' lo (lo + m)→Q (some m) st'):wpS (model prog w) A E s (countRun' lo nrem) Q st:=by
 unfold countRun'
 rw [(sortPriv% PySem.Builtin.countRun.eq_def)]
 walk_at "z"
 walk_at "d"
 refine wpS_bind (wpS_mono (wpS_forRange (I:=fun x c st'=>st'=st∧c=(none,x)∧UpS key p lo (lo + x)) (Q:=fun c st'=>st'=st∧∃ m,c=(none,m)∧1≤m∧m≤nrem∧UpS key p lo (lo + m)∧(m=nrem∨O.blt (KasM.K key p (lo + m)) (KasM.K key p (lo + m - 1))=true)) ?_ ?_ ⟨rfl,rfl,UpS.one⟩) ?_)
 · rintro x c st' hx1 hx2 ⟨rfl,rfl,up⟩
   walk_at "z"
   walk_at "d"
   refine wpS_bind (w_at hc S (by omega) (by omega) ?_)
   walk_at "d"
   refine w_ite (fun e=>wpS_pure ⟨rfl,x,rfl,hx1,by omega,up,.inr e⟩) (fun e=>?_)
   walk_at "z"
   walk_at "d"
   refine wpS_pure ⟨rfl,rfl,?_⟩
   exact up.snoc (by omega) (Bool.not_eq_true _ |>.mp e)
 · rintro c st' ⟨rfl,rfl,up⟩
   rw [show max 1 nrem=nrem by omega] at up ⊢
   exact ⟨rfl,nrem,rfl,h1,Nat.le_refl _,up,.inl rfl⟩
 rintro c st' ⟨rfl,m,rfl,m1,m2,up,ends⟩
 walk_at "z"
 walk_at "z"
 walk_at "d"
 walk_at "d"
 refine w_ite (fun e=>wpS_pure (h m st' p S m1 m2 up)) (fun e=>?_)
 have mne:¬ m=nrem:=by simpa using e
 have ends:=ends.resolve_left mne
 extract_lets -underBinder -merge -useContext +onlyGivenNames jp
 clear_value (hjp:jp=_)
 have J : ∀ (u : Unit) (st2 : SortSt) (p2 : Array Nat), Sg it κ N pd0 p0 lo (lo + nrem) st2 p2 → DnS key p2 lo (lo + m + 1) → wpS (model prog w) A E s (jp u) Q st2 := fun u st2 p2 S2 dn => by
  rw [hjp]
  walk_at "d"
  refine wpS_bind (wpS_lift (wpAny_rule ⟨rfl,?_⟩))
  walk_at "z"
  walk_at "z"
  walk_at "d"
  refine wpS_bind (wpS_mono (wpS_forRange (I:=fun x c st3=>∃ p3 q,c=(none,x,q)∧Sg it κ N pd0 p0 lo (lo + nrem) st3 p3∧DnS key p3 lo (lo + x)∧q + 1≤x∧(∀ k,lo + x - (q + 1)≤k→k < lo + x→KasM.K key p3 k=KasM.K key p3 (lo + x - 1)))
   (Q:=fun c st3=>∃ p3 x q,c=(none,x,q)∧m + 1≤x∧x≤nrem∧Sg it κ N pd0 p0 lo (lo + nrem) st3 p3∧DnS key p3 lo (lo + x)∧q + 1≤x∧(∀ k,lo + x - (q + 1)≤k→k < lo + x→KasM.K key p3 k=KasM.K key p3 (lo + x - 1))) ?_ ?_ ⟨p2,0,rfl,S2,dn,by omega,fun k a b=>by rw [show k=lo + (m + 1) - 1 by omega]⟩) ?_)
  · rintro x c st3 hx1 hx2 ⟨p3,q,rfl,S3,dn3,hq,he⟩
    have hz:=S3.pm.size
    walk_at "z"
    walk_at "z"
    walk_at "z"
    walk_at "d"
    refine wpS_bind (w_at hc S3 (by omega) (by omega) ?_)
    walk_at "d"
    extract_lets -underBinder -merge -useContext +onlyGivenNames jp2
    clear_value (hjp2:jp2=_)
    have J2:∀ (u:Unit) (q':Nat) (st4:SortSt) (p4:Array Nat),Sg it κ N pd0 p0 lo (lo + nrem) st4 p4→DnS key p4 lo (lo + (x + 1))→q' + 1≤x + 1→(∀ k,lo + (x + 1) - (q' + 1)≤k→k < lo + (x + 1)→KasM.K key p4 k=KasM.K key p4 (lo + (x + 1) - 1))→wpS (model prog w) A E s (jp2 u q') (fun r st'=>match r with | .done c'=>∃ p3 x q,c'=(none,x,q)∧m + 1≤x∧x≤nrem∧Sg it κ N pd0 p0 lo (lo + nrem) st' p3∧DnS key p3 lo (lo + x)∧q + 1≤x∧(∀ k,lo + x - (q + 1)≤k→k < lo + x→KasM.K key p3 k=KasM.K key p3 (lo + x - 1)) | .yield c'=>∃ p3 q,c'=(none,x + 1,q)∧Sg it κ N pd0 p0 lo (lo + nrem) st' p3∧DnS key p3 lo (lo + (x + 1))∧q + 1≤x + 1∧(∀ k,lo + (x + 1) - (q + 1)≤k→k < lo + (x + 1)→KasM.K key p3 k=KasM.K key p3 (lo + (x + 1) - 1))) st4:=fun u q' st4 p4 S4 d4 q4 e4=>by
     rw [hjp2]
     walk_at "d"
     walk_at "z"
     walk_at "d"
     exact wpS_pure ⟨p4,q',rfl,S4,d4,q4,e4⟩
    refine wpS_mono (Q:=fun r st'=>match r with | .done c'=>∃ p3 x q,c'=(none,x,q)∧m + 1≤x∧x≤nrem∧Sg it κ N pd0 p0 lo (lo + nrem) st' p3∧DnS key p3 lo (lo + x)∧q + 1≤x∧(∀ k,lo + x - (q + 1)≤k→k < lo + x→KasM.K key p3 k=KasM.K key p3 (lo + x - 1)) | .yield c'=>∃ p3 q,c'=(none,x + 1,q)∧Sg it κ N pd0 p0 lo (lo + nrem) st' p3∧DnS key p3 lo (lo + (x + 1))∧q + 1≤x + 1∧(∀ k,lo + (x + 1) - (q + 1)≤k→k < lo + (x + 1)→KasM.K key p3 k=KasM.K key p3 (lo + (x + 1) - 1))) ?_ (fun r st' hr=>by cases r <;> exact hr)
    clear hjp2
    refine w_ite (fun e=>?_) (fun e=>?_)
    · extract_lets -underBinder -merge -useContext +onlyGivenNames jp3
      clear_value (hjp3:jp3=_)
      have J3:∀ (u:Unit) (st4:SortSt) (p4:Array Nat),Sg it κ N pd0 p0 lo (lo + nrem) st4 p4→DnS key p4 lo (lo + (x + 1))→wpS (model prog w) A E s (jp3 u) _ st4:=fun u st4 p4 S4 d4=>by
       rw [hjp3]
       walk_at "d"
       walk_at "z"
       walk_at "d"
       exact J2 () 0 st4 p4 S4 d4 (by omega) (fun k a b=>by rw [show k=lo + (x + 1) - 1 by omega])
      have d3:DnS key p3 lo (lo + x + 1):=dn3.snoc (by omega) (KeyOrd.kle_of_klt e)
      refine w_ite (fun hq0=>?_) (fun hq0=>?_)
      · refine wpS_bind (w_rev S3 (by omega) (by omega) hN fun st4 S4=>J3 _ st4 _ S4 ?_)
        have kk:=KasM.K_rev_eq (key:=key) (p:=p3) (i:=lo + x - (q + 1)) (j:=lo + x) (by omega) he
        intro i j a b c
        rw [kk,kk]
        exact d3 i j a b (by omega)
      · exact J3 () st3 p3 S3 d3
    · have e':O.blt (KasM.K key p3 (lo + x)) (KasM.K key p3 (lo + x - 1))=false:=Bool.not_eq_true _ |>.mp e
      refine wpS_bind (w_at hc S3 (by omega) (by omega) ?_)
      walk_at "d"
      refine w_ite (fun e2=>?_) (fun e2=>?_)
      · exact wpS_pure ⟨p3,x,q,rfl,hx1,by omega,S3,dn3,hq,he⟩
      · have e2':O.blt (KasM.K key p3 (lo + x - 1)) (KasM.K key p3 (lo + x))=false:=Bool.not_eq_true _ |>.mp e2
        have ee:KasM.K key p3 (lo + x)=KasM.K key p3 (lo + x - 1):=KeyOrd.kle_antisymm e2' e'
        walk_at "z"
        walk_at "d"
        refine J2 () (q + 1) st3 p3 S3 (dn3.snoc (by omega) e2') (by omega) (fun k a b=>?_)
        rw [show lo + (x + 1) - 1=lo + x by omega]
        by_cases hk:k=lo + x
        · rw [hk]
        · rw [he k (by omega) (by omega),ee]
  · rintro c st3 ⟨p3,q,rfl,S3,dn3,hq,he⟩
    rw [show max (m + 1) nrem=nrem by omega] at *
    exact ⟨p3,nrem,q,rfl,by omega,Nat.le_refl _,S3,dn3,hq,he⟩
  rintro c st3 ⟨p3,x,q,rfl,x1,x2,S3,dn3,hq,he⟩
  have hz:=S3.pm.size
  walk_at "z"
  walk_at "z"
  walk_at "z"
  walk_at "z"
  walk_at "d"
  walk_at "d"
  extract_lets -underBinder -merge -useContext +onlyGivenNames jp4
  clear_value (hjp4:jp4=_)
  have J4:∀ (u:Unit) (st4:SortSt) (p4:Array Nat),Sg it κ N pd0 p0 lo (lo + nrem) st4 p4→DnS key p4 lo (lo + x)→wpS (model prog w) A E s (jp4 u) Q st4:=fun u st4 p4 S4 d4=>by
   have hz4:=S4.pm.size
   rw [hjp4]
   walk_at "d"
   refine wpS_bind (w_rev S4 (Nat.le_refl _) (by omega) hN fun st5 S5=>?_)
   have up5:UpS key (kas_rev p4 lo (lo + x)) lo (lo + x):=fun i j a b c=>by
    rw [KasM.K_rev (by omega),KasM.K_rev (by omega),if_pos (by omega),if_pos (by omega)]
    exact d4 _ _ (by omega) (by omega) (by omega)
   generalize kas_rev p4 lo (lo + x)=p5 at S5 up5
   refine wpS_bind (wpS_mono (wpS_forRange (I:=fun y c st'=>st'=st5∧c=(none,y)∧UpS key p5 lo (lo + y)) (Q:=fun c st'=>st'=st5∧∃ m,c=(none,m)∧1≤m∧m≤nrem∧UpS key p5 lo (lo + m)) ?_ ?_ ⟨rfl,rfl,up5⟩) ?_)
   · rintro y c st' hy1 hy2 ⟨rfl,rfl,up⟩
     walk_at "z"
     walk_at "d"
     refine wpS_bind (w_at hc S5 (by omega) (by omega) ?_)
     walk_at "d"
     refine w_ite (fun e=>wpS_pure ⟨rfl,y,rfl,by omega,by omega,up⟩) (fun e=>?_)
     walk_at "z"
     walk_at "d"
     refine wpS_pure ⟨rfl,rfl,?_⟩
     exact up.snoc (by omega) (Bool.not_eq_true _ |>.mp e)
   · rintro c st' ⟨rfl,rfl,up⟩
     rw [show max x nrem=nrem by omega] at up ⊢
     exact ⟨rfl,nrem,rfl,h1,Nat.le_refl _,up⟩
   · rintro c st' ⟨rfl,m',rfl,a1,a2,a3⟩
     walk_at "z"
     walk_at "z"
     walk_at "d"
     walk_at "d"
     exact wpS_pure (h m' st' p5 S5 a1 a2 a3)
  clear hjp4
  refine w_ite (fun hq0=>?_) (fun hq0=>J4 () st3 p3 S3 dn3)
  refine wpS_bind (w_rev S3 (by omega) (by omega) hN fun st4 S4=>J4 _ st4 _ S4 ?_)
  have kk:=KasM.K_rev_eq (key:=key) (p:=p3) (i:=lo + x - (q + 1)) (j:=lo + x) (by omega) he
  intro i j a b c
  rw [kk,kk]
  exact dn3 i j a b c
 clear hjp
 have hz:=S.pm.size
 have lt1:O.kle (KasM.K key p (lo + m)) (KasM.K key p (lo + m - 1)):=KeyOrd.kle_of_klt ends
 refine w_ite (fun hm=>?_) (fun hm=>?_)
 · refine wpS_bind (w_at hc S (by omega) (by omega) ?_)
   walk_at "d"
   refine w_ite (fun e2=>wpS_pure (h m st' p S m1 m2 up)) (fun e2=>?_)
   have e2':O.kle (KasM.K key p (lo + m - 1)) (KasM.K key p lo):=Bool.not_eq_true _ |>.mp e2
   have all:∀ k,lo≤k→k < lo + m→KasM.K key p k=KasM.K key p (lo + m - 1):=fun k a b =>
    KeyOrd.kle_antisymm (up k (lo + m - 1) a (by omega) (by omega)) (KeyOrd.kle_trans e2' (up lo k (Nat.le_refl _) a b))
   refine wpS_bind (w_rev S (Nat.le_refl _) (by omega) hN fun st4 S4=>J _ st4 _ S4 ?_)
   have kk:=KasM.K_rev_eq (key:=key) (p:=p) (i:=lo) (j:=lo + m) (by omega) all
   intro i j a b c
   rw [kk,kk]
   by_cases hj:j < lo + m
   · rw [all i a (by omega),all j (by omega) hj]; exact KeyOrd.kle_refl _
   · obtain rfl:j=lo + m:=by omega
     by_cases hij:i=lo + m
     · rw [hij]; exact KeyOrd.kle_refl _
     · rw [all i a (by omega)]; exact lt1
 · obtain rfl:m=1:=by omega
   refine J () st' p S ?_
   intro i j a b c
   by_cases hij:i=j
   · rw [hij]; exact KeyOrd.kle_refl _
   · obtain rfl:i=lo:=by omega
     obtain rfl:j=i + 1:=by omega
     exact lt1
theorem binarySort_ok (hc:Asks prog w A s O key κ it N) {n ok:Nat} {Q:Bool→SortSt→Prop} (S:Sg it κ N pd0 p0 lo (lo + n) st p) (h1:1≤ok) (h2:ok≤n) (hN:lo + n≤N) (up:UpS key p lo (lo + ok))
 (h:∀ st' p',Sg it κ N pd0 p0 lo (lo + n) st' p'→UpS key p' lo (lo + n)→Q true st'):wpS (model prog w) A E s (binarySort' lo n ok) Q st:=by
 unfold binarySort'
 rw [(sortPriv% PySem.Builtin.binarySort.eq_def)]
 refine wpS_bind (wpS_mono (wpS_forRange (I:=fun k c st'=>c=(none,())∧∃ p',Sg it κ N pd0 p0 lo (lo + n) st' p'∧UpS key p' lo (lo + k)) (Q:=fun c st'=>c=(none,())∧∃ p',Sg it κ N pd0 p0 lo (lo + n) st' p'∧UpS key p' lo (lo + n)) ?_ ?_ ⟨rfl,p,S,by rw [show max ok 1=ok by omega]; exact up⟩) ?_)
 · rintro k c st' hk1 hk2 ⟨rfl,p',S',up'⟩
   have hz:=S'.pm.size
   walk_at "z"
   walk_at "z"
   walk_at "d"
   refine wpS_bind (wpS_mono (wpS_forRange (I:=fun x c st''=>st''=st'∧∃ l r,c=(none,l,r)∧l≤r∧r≤k∧r - l≤k - x∧(∀ i,i < l→O.kle (KasM.K key p' (lo + i)) (KasM.K key p' (lo + k)))∧(∀ i,r≤i→i < k→O.kle (KasM.K key p' (lo + k)) (KasM.K key p' (lo + i))))
    (Q:=fun c st''=>st''=st'∧∃ l r,c=(none,l,r)∧l≤k∧(∀ i,i < l→O.kle (KasM.K key p' (lo + i)) (KasM.K key p' (lo + k)))∧(∀ i,l≤i→i < k→O.kle (KasM.K key p' (lo + k)) (KasM.K key p' (lo + i)))) ?_ ?_ ⟨rfl,0,k,rfl,by omega,by omega,by omega,fun i hi=>by omega,fun i a b=>by omega⟩) ?_)
   · rintro x c st'' _ hx ⟨rfl,l,r,rfl,a1,a2,a3,a4,a5⟩
     walk_at "z"
     walk_at "z"
     walk_at "z"
     walk_at "d"
     refine w_ite (fun e=>?_) (fun e=>?_)
     · obtain rfl:l=r:=by omega
       exact wpS_pure ⟨rfl,l,l,rfl,a2,a4,a5⟩
     walk_at "z"
     walk_at "d"
     refine wpS_bind (w_at hc S' (by omega) (by omega) ?_)
     walk_at "d"
     refine w_ite (fun e2=>?_) (fun e2=>?_)
     · walk_at "z"
       walk_at "d"
       exact wpS_pure ⟨rfl,l,(l + r) / 2,rfl,by omega,by omega,by omega,a4,fun i b1 b2=>KeyOrd.kle_trans (KeyOrd.kle_of_klt e2) (up' _ _ (by omega) (by omega) (by omega))⟩
     · walk_at "z"
       walk_at "d"
       exact wpS_pure ⟨rfl,(l + r) / 2 + 1,r,rfl,by omega,by omega,by omega,fun i b1=>KeyOrd.kle_trans (up' (lo + i) (lo + (l + r) / 2) (by omega) (by omega) (by omega)) (Bool.not_eq_true _ |>.mp e2),a5⟩
   · rintro c st'' ⟨rfl,l,r,rfl,a1,a2,a3,a4,a5⟩
     obtain rfl:l=r:=by omega
     exact ⟨rfl,l,l,rfl,a2,a4,a5⟩
   · rintro c st'' ⟨rfl,l,r,rfl,a2,a4,a5⟩
     walk_at "z"
     walk_at "z"
     walk_at "z"
     walk_at "d"
     walk_at "d"
     refine wpS_bind (w_mov S' (by omega) (by omega) (by omega) hN fun st3 S3=>wpS_pure ⟨rfl,_,S3,?_⟩)
     intro i j b1 b2 b3
     rw [KasM.K_bub (by omega) (by omega),KasM.K_bub (by omega) (by omega)]
     have f1:∀ t,lo≤t→t < lo + l→O.kle (KasM.K key p' t) (KasM.K key p' (lo + k)):=fun t q1 q2=>by
      have:=a4 (t - lo) (by omega); rwa [show lo + (t - lo)=t by omega] at this
     have f2:∀ t,lo + l≤t→t < lo + k→O.kle (KasM.K key p' (lo + k)) (KasM.K key p' t):=fun t q1 q2=>by
      have:=a5 (t - lo) (by omega) (by omega); rwa [show lo + (t - lo)=t by omega] at this
     repeat' split
     all_goals first
      | (exfalso; omega)
      | exact KeyOrd.kle_refl _
      | exact f1 _ (by omega) (by omega)
      | exact f2 _ (by omega) (by omega)
      | exact up' _ _ (by omega) (by omega) (by omega)
 · rintro c st' ⟨rfl,p',S',up'⟩
   rw [show max (max ok 1) n=n by omega] at up'
   exact ⟨rfl,p',S',up'⟩
 · rintro c st' ⟨rfl,p',S',up'⟩
   walk_at "z"
   walk_at "d"
   walk_at "d"
   exact wpS_pure (h st' p' S' up')
end
end Tim
namespace Tim
open PySem PySem.W PyProof.Rows
theorem made7 (a:Nat):True:=by
 fun_cases (sortPriv% PySem.Builtin.mergeAt) a
 all_goals trivial
theorem foldSet {α:Type} (off:Nat):∀ (l:List α) (k:Nat) (p:Array α),off + k + l.length≤p.size→(l.zipIdx k).foldl (fun a x=>match x with | (q,j)=>a.setIfInBounds (off + j) q) p=(p.toList.take (off + k)++l++p.toList.drop (off + k + l.length)).toArray
 | [],k,p,_=>by simp
 | x :: l,k,p,h=>by
   rw [List.length_cons] at h
   rw [List.zipIdx_cons,List.foldl_cons]
   have ih:=foldSet off l (k + 1) (p.setIfInBounds (off + k) x) (by rw [Array.size_setIfInBounds]; omega)
   show List.foldl _ (p.setIfInBounds (off + k) x) _=_
   rw [ih,Array.toList_setIfInBounds]
   have hk:off + k < p.toList.length:=by rw [Array.length_toList]; omega
   congr 1
   rw [List.drop_set_of_lt (by omega),show off + (k + 1)=off + k + 1 by omega,List.take_succ,List.getElem?_set_self hk,List.take_set_of_le (Nat.le_refl _),List.length_cons]
   simp
   congr 1
   omega
theorem pm_ar {it:Array Keyed} (p:Array Nat):p.map (kas_item it)=ar it p.toList:=by simp [ar]
theorem getD_list (p:Array Nat) (i:Nat):p.getD i 0=p.toList.getD i 0:=by simp
section
variable {O:KeyOrd} {key:Nat→O.α}
theorem up_pw {p:Array Nat} {lo hi:Nat} (h:UpS key p lo hi) (hN:hi≤p.size):((p.toList.drop lo).take (hi - lo)).Pairwise (RK O key):=by
 rw [List.pairwise_iff_getElem]
 intro i j hi' hj' hij
 have hl:j < hi - lo∧lo + j < p.toList.length:=by
  rw [List.length_take,List.length_drop] at hj'; omega
 rw [List.getElem_take,List.getElem_take,List.getElem_drop,List.getElem_drop]
 have:=h (lo + i) (lo + j) (by omega) (by omega) (by omega)
 unfold KasM.K at this
 rw [getD_list,getD_list,List.getD_eq_getElem?_getD,List.getElem?_eq_getElem (by omega),List.getD_eq_getElem?_getD,List.getElem?_eq_getElem (by omega)] at this
 exact this
theorem pw_up {p:Array Nat} {lo hi:Nat} (h:((p.toList.drop lo).take (hi - lo)).Pairwise (RK O key)) (hN:hi≤p.size):UpS key p lo hi:=by
 intro i j h1 h2 h3
 by_cases e:i=j
 · rw [e]; exact KeyOrd.kle_refl _
 have hl:p.toList.length=p.size:=Array.length_toList
 have:=List.pairwise_iff_getElem.mp h (i - lo) (j - lo) (by rw [List.length_take,List.length_drop]; omega) (by rw [List.length_take,List.length_drop]; omega) (by omega)
 rw [List.getElem_take,List.getElem_take,List.getElem_drop,List.getElem_drop] at this
 unfold KasM.K
 rw [getD_list,getD_list,List.getD_eq_getElem?_getD,List.getElem?_eq_getElem (by omega),List.getD_eq_getElem?_getD,List.getElem?_eq_getElem (by omega)]
 have q1:lo + (i - lo)=i:=by omega
 have q2:lo + (j - lo)=j:=by omega
 simp only [q1,q2] at this
 exact this
end
def Chain:Nat→List (Nat × Nat × Nat)→Nat→Prop
 | a,[],b=>a=b
 | a,e :: r,b=>e.1=a∧1≤e.2.1∧Chain (a + e.2.1) r b
theorem chain_le:∀ {l:List (Nat × Nat × Nat)} {a b:Nat},Chain a l b→a + l.length≤b
 | [],a,b,h=>by have:a=b:=h; simp; omega
 | e :: r,a,b,⟨_,h2,h3⟩=>by
   have:=chain_le h3
   rw [List.length_cons]; omega
theorem chain_app:∀ {l m:List (Nat × Nat × Nat)} {a b:Nat},Chain a (l++m) b↔∃ c,Chain a l c∧Chain c m b
 | [],m,a,b=>⟨fun h=>⟨a,rfl,h⟩,fun ⟨c,h1,h2⟩=>by have:a=c:=h1; rw [this]; exact h2⟩
 | e :: l, m, a, b => by
   constructor
   · rintro ⟨h1,h2,h3⟩
     obtain ⟨c,q1,q2⟩:=chain_app.mp h3
     exact ⟨c,⟨h1,h2,q1⟩,q2⟩
   · rintro ⟨c,⟨h1,h2,q1⟩,q2⟩
     exact ⟨h1,h2,chain_app.mpr ⟨c,q1,q2⟩⟩
theorem chain_in:∀ {l:List (Nat × Nat × Nat)} {a b:Nat},Chain a l b→∀ e∈l,a≤e.1∧e.1 + e.2.1≤b
 | [],_,_,_,e,he=>by simp at he
 | x :: r, a, b, ⟨h1, h2, h3⟩, e, he => by
   have:=chain_le h3
   rcases List.mem_cons.mp he with rfl | he
   · exact ⟨by omega,by omega⟩
   · have:=chain_in h3 e he
     exact ⟨by omega,this.2⟩
section
variable {prog:Program} {w:World} {A:Around} {E:Value→Shared→Prop} {s:Shared} {O:KeyOrd} {key:Nat→O.α} {κ:SortKind} {it:Array Keyed} {N:Nat}
theorem w_put {σ:Type} {M:Model} {x st:σ} {Q:PUnit→σ→Prop} (h:Q ⟨⟩ x):wpS M A E s (set x:StateT σ Sem PUnit) Q st:=by
 unfold wpS; rw [StateT.run_set]; exact wpAny_pure ⟨rfl,h⟩
structure Whole (it:Array Keyed) (κ:SortKind) (N:Nat) (key:Nat→O.α) (st:SortSt) (p:Array Nat) (l:List (Nat × Nat × Nat)) (lo:Nat):Prop where
 arr:arrOf st=p.map (kas_item it)
 kd:kindOf st=κ
 fl:failedOf st=none
 pd:pendingOf st=l.toArray
 pm:KasM.Pm N p
 ch:Chain 0 l lo
 le:lo≤N
 up:∀ e∈l,UpS key p e.1 (e.1 + e.2.1)
theorem mergeAt_ok (hc : Asks prog w A s O key κ it N) {st : SortSt} {p : Array Nat} {l1 l2 : List (Nat × Nat × Nat)} {ea eb : Nat × Nat × Nat} {lo : Nat} {Q : Bool → SortSt → Prop} (W : Whole it κ N key st p (l1 ++ ea :: eb :: l2) lo)
 (h:∀ st' p' e',Whole it κ N key st' p' (l1++e' :: l2) lo→(∀ i,lo≤i→p'.getD i 0=p.getD i 0)→Q true st'):wpS (model prog w) A E s (mergeAt' l1.length) Q st:=by
 obtain ⟨sa,na,pw⟩:=ea
 obtain ⟨sb,nb,pw2⟩:=eb
 have hz:=W.pm.size
 have hzl:p.toList.length=N:=by rw [Array.length_toList]; exact hz
 obtain ⟨c,ch1,q1,q2,q3,q4,ch2⟩:=chain_app.mp W.ch
 dsimp only at q1 q2 q3 q4 ch2
 subst q1
 have eb':sb=sa + na:=q3
 have chl:=chain_le ch2
 have hN:=W.le
 have hend:sb + nb≤N:=by omega
 have upA:UpS key p sa sb:=by
  have:=W.up (sa,na,pw) (by simp)
  rw [eb']; exact this
 have upB:UpS key p sb (sb + nb):=W.up (sb,nb,pw2) (by simp)
 have hlt:∀ i,p.getD i 0 < N:=fun i=>W.pm.lt (by omega) i
 have fin : ∀ (st' : SortSt) (p' : Array Nat), arrOf st' = p'.map (kas_item it) → kindOf st' = κ → failedOf st' = none → pendingOf st' = ((l1 ++ (sa, na, pw) :: (sb, nb, pw2) :: l2).toArray.setIfInBounds l1.length (sa, na + nb, pw)).eraseIdxIfInBounds (l1.length + 1) → KasM.Pm N p' → (∀ i, (i < sa ∨ sb + nb ≤ i) → p'.getD i 0 = p.getD i 0) → UpS key p' sa (sb + nb) → Q true st' := fun st' p' f1 f2 f3 f4 f5 f6 f7 => by
  have keep:∀ {x y:Nat},(y≤sa∨sb + nb≤x)→UpS key p x y→UpS key p' x y:=fun {x y} hxy hu i j a b d=>by
   unfold KasM.K
   rw [f6 i (by omega),f6 j (by omega)]
   exact hu i j a b d
  refine h st' p' (sa,na + nb,pw) ⟨f1,f2,f3,?_,f5,chain_app.mpr ⟨sa,ch1,rfl,by show 1≤na + nb; omega,?_⟩,W.le,fun e he=>?_⟩ (fun i hi=>f6 i (by omega))
  · rw [f4]
    apply Array.toList_inj.mp
    rw [Array.toList_eraseIdxIfInBounds,Array.toList_setIfInBounds]
    rw [List.set_append_right _ _ (Nat.le_refl _),Nat.sub_self,List.set_cons_zero,List.eraseIdx_append_of_length_le (by omega),show l1.length + 1 - l1.length=1 by omega]
    rfl
  · show Chain (sa + (na + nb)) l2 lo
    rw [show sa + (na + nb)=sa + na + nb by omega]; exact ch2
  · rcases List.mem_append.mp he with he | he
    · have:=chain_in ch1 e he
      exact keep (by omega) (W.up e (List.mem_append_left _ he))
    · rcases List.mem_cons.mp he with rfl | he
      · show UpS key p' sa (sa + (na + nb))
        rw [show sa + (na + nb)=sb + nb by omega]; exact f7
      · have:=chain_in ch2 e he
        exact keep (by omega) (W.up e (by simp [he]))
 have eP:(sortPriv% PySem.Builtin.SortState.pending) st=(l1++(sa,na,pw) :: (sb,nb,pw2) :: l2).toArray:=W.pd
 have eArr:(sortPriv% PySem.Builtin.SortState.a) st=p.map (kas_item it):=W.arr
 unfold mergeAt'
 rw [(sortPriv% PySem.Builtin.mergeAt.eq_def)]
 refine wpS_bind (wpS_get ?_)
 rw [eP,eArr]
 have g1:(l1++(sa,na,pw) :: (sb,nb,pw2) :: l2).toArray[l1.length]?=some (sa,na,pw):=by simp
 have g2:(l1++(sa,na,pw) :: (sb,nb,pw2) :: l2).toArray[l1.length + 1]?=some (sb,nb,pw2):=by
  rw [List.getElem?_toArray,List.getElem?_append_right (by omega)]; simp
 rw [g1,g2]
 walk_at "d"
 refine wpS_bind (w_put ?_)
 refine wpS_bind (w_elem (by omega) ?_)
 refine wpS_bind (gallop_ok hc (left:=false) (k:=p.getD sb 0) (p:=p) (base:=sa) (n:=na) (hint:=0) (hlt _) (fun i _=>hlt i) (by omega) (by omega) W.kd (fun i=>!O.blt (KasM.K key p sb) (KasM.K key p (sa + i))) (fun i hi=>by rw [if_neg Bool.false_ne_true]; rfl) (fun i j hij hj e=>?_) (fun k hk1 hk2 hk3=>?_))
 · have e':O.kle (KasM.K key p (sa + j)) (KasM.K key p sb):=show O.blt _ _=false by simpa using e
   have:=KeyOrd.kle_trans (upA (sa + i) (sa + j) (by omega) (by omega) (by omega)) e'
   show (!O.blt _ _)=true
   rw [show O.blt (KasM.K key p sb) (KasM.K key p (sa + i))=false from this]; rfl
 have aLow:∀ i,i < k→O.kle (KasM.K key p (sa + i)) (KasM.K key p sb):=fun i hi=>show O.blt _ _=false by simpa using hk2 i hi
 have aHigh:∀ i,k≤i→i < na→O.kle (KasM.K key p sb) (KasM.K key p (sa + i)):=fun i h1 h2=>KeyOrd.kle_of_klt (show O.blt _ _=true by simpa using hk3 i h1 h2)
 walk_at "d"
 refine w_ite (fun e=>?_) (fun e=>?_)
 · have hk:na - k=0:=by simpa using e
   refine wpS_pure (fin _ p rfl W.kd W.fl rfl W.pm (fun i _=>rfl) fun i j a b d=>?_)
   by_cases hj:j < sb
   · exact upA i j a b hj
   · by_cases hi:i < sb
     · have:=aLow (i - sa) (by omega)
       rw [show sa + (i - sa)=i by omega] at this
       exact KeyOrd.kle_trans this (upB sb j (Nat.le_refl _) (by omega) d)
     · exact upB i j (by omega) b d
 have hk:¬ na - k=0:=by simpa using e
 refine wpS_bind (w_elem (by omega) ?_)
 have elast:sa + k + (na - k) - 1=sb - 1:=by omega
 rw [elast]
 refine wpS_bind (gallop_ok hc (left:=true) (k:=p.getD (sb - 1) 0) (p:=p) (base:=sb) (n:=nb) (hint:=nb - 1) (hlt _) (fun i _=>hlt i) (by omega) (by omega) W.kd (fun i=>O.blt (KasM.K key p (sb + i)) (KasM.K key p (sb - 1))) (fun i hi=>by rw [if_pos rfl]; rfl) (fun i j hij hj e=>KeyOrd.klt_of_kle_of_klt (upB (sb + i) (sb + j) (by omega) (by omega) (by omega)) e) (fun m hm1 hm2 hm3=>?_))
 have bLow:∀ i,i < m→O.kle (KasM.K key p (sb + i)) (KasM.K key p (sb - 1)):=fun i hi=>KeyOrd.kle_of_klt (hm2 i hi)
 have bHigh:∀ i,m≤i→i < nb→O.kle (KasM.K key p (sb - 1)) (KasM.K key p (sb + i)):=fun i h1 h2=>hm3 i h1 h2
 walk_at "d"
 refine w_ite (fun e=>?_) (fun e=>?_)
 · have hm:m=0:=by simpa using e
   refine wpS_pure (fin _ p rfl W.kd W.fl rfl W.pm (fun i _=>rfl) fun i j a b d=>?_)
   by_cases hj:j < sb
   · exact upA i j a b hj
   · by_cases hi:i < sb
     · have:=bHigh (j - sb) (by omega) (by omega)
       rw [show sb + (j - sb)=j by omega] at this
       exact KeyOrd.kle_trans (upA i (sb - 1) a (by omega) (by omega)) this
     · exact upB i j (by omega) b d
 have hm:¬ m=0:=by simpa using e
 rw [pm_ar,ar_ext,ar_ext,show sb + m - sb=m by omega,show sb - (sa + k)=na - k by omega]
 walk_at "z"
 walk_at "z"
 walk_at "d"
 obtain ⟨P,eP'⟩:∃ P,P=p.toList:=⟨_,rfl⟩
 have gP:∀ i,p.getD i 0=P.getD i 0:=fun i=>by rw [eP']; exact getD_list p i
 rw [←eP']
 have hzP:P.length=N:=by rw [eP']; exact hzl
 obtain ⟨la,ela⟩:∃ la,la=(P.drop (sa + k)).take (na - k):=⟨_,rfl⟩
 obtain ⟨lb,elb⟩:∃ lb,lb=(P.drop sb).take m:=⟨_,rfl⟩
 rw [←ela,←elb]
 have lla:la.length=na - k:=by rw [ela,List.length_take,List.length_drop]; omega
 have llb:lb.length=m:=by rw [elb,List.length_take,List.length_drop]; omega
 have sA:la.Pairwise (RK O key):=by
  have:=up_pw (lo:=sa + k) (hi:=sb) (fun i j a b d=>upA i j (by omega) b d) (by omega)
  rw [←eP',show sb - (sa + k)=na - k by omega,←ela] at this; exact this
 have sB:lb.Pairwise (RK O key):=by
  have:=up_pw (lo:=sb) (hi:=sb + m) (fun i j a b d=>upB i j (by omega) b (by omega)) (by omega)
  rw [←eP',show sb + m - sb=m by omega,←elb] at this; exact this
 have gA:∀ i,i < na - k→la.getD i 0=p.getD (sa + k + i) 0:=fun i hi=>by
  rw [gP,ela,List.getD_eq_getElem?_getD,List.getElem?_take_of_lt hi,List.getElem?_drop,List.getD_eq_getElem?_getD]
 have gB:∀ i,i < m→lb.getD i 0=p.getD (sb + i) 0:=fun i hi=>by
  rw [gP,elb,List.getD_eq_getElem?_getD,List.getElem?_take_of_lt hi,List.getElem?_drop,List.getD_eq_getElem?_getD]
 have inA:∀ x∈la,∃ i,i < na - k∧x=p.getD (sa + k + i) 0:=fun x hx=>by
  rw [ela] at hx
  obtain ⟨j,j1,j2,_,rfl⟩:=mem_segN hx
  exact ⟨j - (sa + k),by omega,by rw [gP]; congr 1; omega⟩
 have inB:∀ x∈lb,∃ i,i < m∧x=p.getD (sb + i) 0:=fun x hx=>by
  rw [elb] at hx
  obtain ⟨j,j1,j2,_,rfl⟩:=mem_segN hx
  exact ⟨j - sb,by omega,by rw [gP]; congr 1; omega⟩
 have nA:la≠[]:=fun z=>by rw [z] at lla; simp at lla; omega
 have nB:lb≠[]:=fun z=>by rw [z] at llb; simp at llb; omega
 extract_lets -underBinder -merge -useContext +onlyGivenNames jp
 clear_value (hjp:jp=_)
 have J : ∀ (pr : List Nat) (st' : SortSt), arrOf st' = p.map (kas_item it) → kindOf st' = κ → failedOf st' = none → pendingOf st' = ((l1 ++ (sa, na, pw) :: (sb, nb, pw2) :: l2).toArray.setIfInBounds l1.length (sa, na + nb, pw)).eraseIdxIfInBounds (l1.length + 1) → Res (RK O key) la lb pr → wpS (model prog w) A E s (jp (ar it pr)) Q st' := fun pr st' f1 f2 f3 f4 re => by
  have lpr:pr.length=(na - k) + m:=by rw [re.1.length_eq,List.length_append,lla,llb]
  obtain ⟨p',ep'⟩:∃ p':Array Nat,p'=(P.take (sa + k)++pr++P.drop (sb + m)).toArray:=⟨_,rfl⟩
  have ltk:(P.take (sa + k)).length=sa + k:=by rw [List.length_take]; omega
  have et:p'.toList=P.take (sa + k)++pr++P.drop (sb + m):=by rw [ep']
  have sz:p'.size=N:=by rw [←Array.length_toList,et,List.length_append,List.length_append,ltk,lpr,List.length_drop]; omega
  have spl:P=P.take (sa + k)++(la++lb)++P.drop (sb + m):=by
   have a1:P.drop (sa + k)=la++P.drop sb:=by
    rw [ela]
    have:=List.take_append_drop (na - k) (P.drop (sa + k))
    rw [List.drop_drop,show sa + k + (na - k)=sb by omega] at this
    exact this.symm
   have a2:P.drop sb=lb++P.drop (sb + m):=by
    rw [elb]
    have:=List.take_append_drop m (P.drop sb)
    rw [List.drop_drop] at this
    exact this.symm
   have:=List.take_append_drop (sa + k) P
   rw [a1,a2] at this
   rw [List.append_assoc,List.append_assoc]; exact this.symm
  rw [hjp]
  walk_at "d"
  refine wpS_bind (wpS_modify ?_)
  refine wpS_bind (wpS_get ?_)
  have e9 : ∀ b : Bool, b = true → Q b (SortSt.mk' (kindOf st') (p'.map (kas_item it)) (pendingOf st') (gallopOf st') (failedOf st')) := fun b hb => by
   rw [hb]
   refine fin _ p' rfl f2 f3 f4 ?_ (fun i hi=>?_) (pw_up ?_ (by omega))
   · refine Array.perm_iff_toList_perm.mpr (List.Perm.trans ?_ (Array.perm_iff_toList_perm.mp W.pm))
     rw [et,←eP']
     have:=(re.1.append_left (P.take (sa + k))).append_right (P.drop (sb + m))
     refine this.trans ?_
     rw [←spl]
   · rw [getD_list,et,gP,List.getD_eq_getElem?_getD,List.getD_eq_getElem?_getD]
     rcases hi with hi | hi
     · rw [List.append_assoc,List.getElem?_append_left (by omega),List.getElem?_take_of_lt (by omega)]
     · rw [List.getElem?_append_right (by rw [List.length_append,ltk,lpr]; omega),List.length_append,ltk,lpr,List.getElem?_drop]
       congr 1
       congr 1
       omega
   · have a0:P.take (sa + k)=P.take sa++(P.drop sa).take k:=by rw [List.take_add]
     have b0:P.drop (sb + m)=(P.drop (sb + m)).take (nb - m)++P.drop (sb + nb):=by
      have:=List.take_append_drop (nb - m) (P.drop (sb + m))
      rw [List.drop_drop,show sb + m + (nb - m)=sb + nb by omega] at this
      exact this.symm
     have ls:(P.take sa).length=sa:=by rw [List.length_take]; omega
     have lA0:((P.drop sa).take k).length=k:=by rw [List.length_take,List.length_drop]; omega
     have lB0:((P.drop (sb + m)).take (nb - m)).length=nb - m:=by rw [List.length_take,List.length_drop]; omega
     have mid:(p'.toList.drop sa).take (sb + nb - sa)=(P.drop sa).take k++pr++(P.drop (sb + m)).take (nb - m):=by
      rw [et,a0,b0]
      have e1:P.take sa++(P.drop sa).take k++pr++((P.drop (sb + m)).take (nb - m)++P.drop (sb + nb))=P.take sa++(((P.drop sa).take k++pr++(P.drop (sb + m)).take (nb - m))++P.drop (sb + nb)):=by simp only [List.append_assoc]
      rw [e1,List.drop_append_of_le_length (by omega),List.drop_of_length_le (by omega),List.nil_append,List.take_append_of_le_length (by rw [List.length_append,List.length_append,lA0,lB0,lpr]; omega),List.take_of_length_le (by rw [List.length_append,List.length_append,lA0,lB0,lpr]; omega),←b0]
     rw [mid]
     have xA:∀ x∈(P.drop sa).take k,∃ i,i < k∧x=p.getD (sa + i) 0:=fun x hx=>by
      obtain ⟨j,j1,j2,_,rfl⟩:=mem_segN hx
      exact ⟨j - sa,by omega,by rw [gP]; congr 1; omega⟩
     have xB:∀ x∈(P.drop (sb + m)).take (nb - m),∃ i,m≤i∧i < nb∧x=p.getD (sb + i) 0:=fun x hx=>by
      obtain ⟨j,j1,j2,_,rfl⟩:=mem_segN hx
      exact ⟨j - sb,by omega,by omega,by rw [gP]; congr 1; omega⟩
     have s1:((P.drop sa).take k).Pairwise (RK O key):=by
      have:=up_pw (lo:=sa) (hi:=sa + k) (fun i j a b d=>upA i j a b (by omega)) (by omega)
      rw [←eP',show sa + k - sa=k by omega] at this; exact this
     have s3:((P.drop (sb + m)).take (nb - m)).Pairwise (RK O key):=by
      have:=up_pw (lo:=sb + m) (hi:=sb + nb) (fun i j a b d=>upB i j (by omega) b d) (by omega)
      rw [←eP',show sb + nb - (sb + m)=nb - m by omega] at this; exact this
     refine List.pairwise_append.mpr ⟨List.pairwise_append.mpr ⟨s1,re.2,fun x hx y hy=>?_⟩,s3,fun x hx y hy=>?_⟩
     · obtain ⟨i,i1,rfl⟩:=xA x hx
       rcases List.mem_append.mp (re.1.mem_iff.mp hy) with hy | hy
       · obtain ⟨j,j1,rfl⟩:=inA y hy
         exact upA (sa + i) (sa + k + j) (by omega) (by omega) (by omega)
       · obtain ⟨j,j1,rfl⟩:=inB y hy
         exact KeyOrd.kle_trans (aLow i i1) (upB sb (sb + j) (Nat.le_refl _) (by omega) (by omega))
     · obtain ⟨j,j1,j2,rfl⟩:=xB y hy
       rcases List.mem_append.mp hx with hx | hx
       · obtain ⟨i,i1,rfl⟩:=xA x hx
         exact KeyOrd.kle_trans (aLow i i1) (upB sb (sb + j) (Nat.le_refl _) (by omega) (by omega))
       · rcases List.mem_append.mp (re.1.mem_iff.mp hx) with hx | hx
         · obtain ⟨i,i1,rfl⟩:=inA x hx
           exact KeyOrd.kle_trans (upA (sa + k + i) (sb - 1) (by omega) (by omega) (by omega)) (bHigh j j1 j2)
         · obtain ⟨i,i1,rfl⟩:=inB x hx
           exact upB (sb + i) (sb + j) (by omega) (by omega) (by omega)
  have ear:(List.foldl (fun a x=>match x with | (q,j)=>a.setIfInBounds (sa + k + j) q) (arrOf st') (ar it pr).toList.zipIdx)=p'.map (kas_item it):=by
   rw [f1]
   have hs:=foldSet (sa + k) (ar it pr).toList 0 (p.map (kas_item it)) (by rw [Array.length_toList,ar_size,lpr,Array.size_map]; omega)
   rw [Nat.add_zero] at hs
   refine hs.trans ?_
   rw [ep',Array.length_toList,ar_size,lpr,show sa + k + (na - k + m)=sb + m by omega,eP']
   apply Array.toList_inj.mp
   simp [ar]
  refine wpS_pure ?_
  have:=e9 (failedOf st').isNone (by rw [f3]; rfl)
  rw [←ear] at this
  exact this
 clear hjp
 have W2:∀ {st1 st2:SortSt},Only st1 st2→arrOf st1=p.map (kas_item it)→kindOf st1=κ→failedOf st1=none→arrOf st2=p.map (kas_item it)∧kindOf st2=κ∧failedOf st2=none∧pendingOf st2=pendingOf st1:=fun o a b c=>⟨o.arr.trans a,o.kd.trans b,o.fl.trans c,o.pd⟩
 have hA:∀ x∈la,x < N:=fun x hx=>by obtain ⟨i,_,rfl⟩:=inA x hx; exact hlt _
 have hB:∀ x∈lb,x < N:=fun x hx=>by obtain ⟨i,_,rfl⟩:=inB x hx; exact hlt _
 have b0a:∀ x∈la,RK O key (lb.getD 0 0) x:=fun x hx=>by
  obtain ⟨i,i1,rfl⟩:=inA x hx
  rw [gB 0 (by omega),Nat.add_zero]
  have:=aHigh (k + i) (by omega) (by omega)
  rw [show sa + (k + i)=sa + k + i by omega] at this
  exact this
 have al:∀ x∈lb,RK O key x (la.getD (la.length - 1) 0):=fun x hx=>by
  obtain ⟨i,i1,rfl⟩:=inB x hx
  rw [lla,gA _ (by omega),show sa + k + (na - k - 1)=sb - 1 by omega]
  exact bLow i i1
 refine w_ite (fun hle=>?_) (fun hle=>?_)
 · refine wpS_bind (mergeLo_ok hc hA hB sA sB nA nB (b0a _ (by rw [List.getD_eq_getElem?_getD,List.getElem?_eq_getElem (by omega)]; exact List.getElem_mem _)) al W.kd fun pr st' on re=>?_)
   obtain ⟨a1,a2,a3,a4⟩:=W2 on (by show ar it P=_; rw [eP',←pm_ar]) W.kd W.fl
   exact J pr st' a1 a2 a3 a4 re
 · refine wpS_bind (mergeHi_ok hc hA hB sA sB nA nB b0a (al _ (by rw [List.getD_eq_getElem?_getD,List.getElem?_eq_getElem (by omega)]; exact List.getElem_mem _)) W.kd fun pr st' on re=>?_)
   obtain ⟨a1,a2,a3,a4⟩:=W2 on (by show ar it P=_; rw [eP',←pm_ar]) W.kd W.fl
   exact J pr st' a1 a2 a3 a4 re
end
end Tim
namespace Tim
open PySem PySem.W PyProof.Rows
theorem made8:True:=by
 fun_cases (sortPriv% PySem.Builtin.sortRuns)
 all_goals trivial
theorem split_at {α:Type} {l:List α} {j:Nat} (h:j + 1 < l.length):∃ l1 a b l2,l=l1++a :: b :: l2∧l1.length=j:=by
 refine ⟨l.take j,l[j],l[j + 1],l.drop (j + 2),?_,by rw [List.length_take]; omega⟩
 have h1:l.drop j=l[j] :: l.drop (j + 1):=List.drop_eq_getElem_cons (by omega)
 have h2:l.drop (j + 1)=l[j + 1] :: l.drop (j + 2):=List.drop_eq_getElem_cons h
 rw [←h2,←h1,List.take_append_drop]
theorem mod_last {α:Type} {f:α→α} {e:α}:∀ {l:List α},(l++[e]).modify l.length f=l++[f e]
 | []=>rfl
 | a :: l=>by
   have:=mod_last (f:=f) (e:=e) (l:=l)
   simpa using this
section
variable {prog:Program} {w:World} {A:Around} {E:Value→Shared→Prop} {s:Shared} {O:KeyOrd} {key:Nat→O.α} {κ:SortKind} {it:Array Keyed} {N:Nat}
theorem Whole.sg {st:SortSt} {p:Array Nat} {l:List (Nat × Nat × Nat)} {lo n:Nat} (W:Whole it κ N key st p l lo):Sg it κ N l.toArray p lo (lo + n) st p:=⟨W.arr,W.kd,W.fl,W.pd,W.pm,fun _ _=>rfl⟩
theorem Whole.of {st st':SortSt} {p p':Array Nat} {l:List (Nat × Nat × Nat)} {lo n:Nat} (W:Whole it κ N key st p l lo) (S:Sg it κ N l.toArray p lo (lo + n) st' p'):Whole it κ N key st' p' l lo :=
 ⟨S.arr,S.kd,S.fl,S.pd,S.pm,W.ch,W.le,fun e he i j a b c=>by
  have:=chain_in W.ch e he
  unfold KasM.K
  rw [S.out i (by omega),S.out j (by omega)]
  exact W.up e he i j a b c⟩
theorem sortRuns_ok (hc:Asks prog w A s O key κ it N) {st:SortSt} {p:Array Nat} {Q:Unit→SortSt→Prop} (W:Whole it κ N key st p [] 0) (hN:1≤N)
 (h:∀ st' p',arrOf st'=p'.map (kas_item it)→failedOf st'=none→KasM.Pm N p'→UpS key p' 0 N→Q () st'):wpS (model prog w) A E s sortRuns' Q st:=by
 unfold sortRuns'
 rw [(sortPriv% PySem.Builtin.sortRuns.eq_def)]
 refine wpS_bind (wpS_get ?_)
 extract_lets -underBinder -merge -useContext +onlyGivenNames size
 clear_value (hsize:size=_)
 have hs:size=N:=by
  have:(arrOf st).size=N:=by rw [W.arr,Array.size_map]; exact W.pm.size
  exact hsize.trans this
 subst hs
 clear hsize
 extract_lets -underBinder -merge -useContext +onlyGivenNames minrun
 clear_value (hmr:minrun=_)
 clear hmr
 extract_lets -underBinder -merge -useContext +onlyGivenNames zq
 try subst zq
 walk_at "d"
 refine wpS_bind (wpS_mono (wpS_forRange (I:=fun x c st'=>∃ p' l lo,c=(none,lo)∧Whole it κ size key st' p' l lo∧x≤lo) (Q:=fun c st'=>∃ p' l,c=(none,size)∧Whole it κ size key st' p' l size) ?step ?fin ⟨p,[],0,rfl,W,Nat.le_refl _⟩) ?post)
 case fin =>
  rintro c st' ⟨p',l,lo,rfl,W',hx⟩
  have:=W'.le
  obtain rfl:lo=size:=by omega
  exact ⟨p',l,rfl,W'⟩
 case step =>
  rintro x c st' _ hx ⟨p',l,lo,rfl,W',hlo⟩
  have hle:=W'.le
  extract_lets -underBinder -merge -useContext +onlyGivenNames zq
  try subst zq
  walk_at "d"
  refine w_ite (fun e=>?_) (fun e=>?_)
  · obtain rfl:lo=size:=by omega
    exact wpS_pure ⟨p',l,rfl,W'⟩
  refine wpS_bind (countRun_ok hc (W'.sg (n:=size - lo)) (by omega) (by omega) fun m st2 p2 S2 m1 m2 up2=>?_)
  have W2:=W'.of S2
  walk_at "d"
  extract_lets -underBinder -merge -useContext +onlyGivenNames zq
  try subst zq
  walk_at "d"
  extract_lets -underBinder -merge -useContext +onlyGivenNames jp
  clear_value (hjp:jp=_)
  refine wpS_mono (Q:=fun r st'=>match r with | .done c'=>∃ p' l,c'=(none,size)∧Whole it κ size key st' p' l size | .yield c'=>∃ p' l lo,c'=(none,lo)∧Whole it κ size key st' p' l lo∧x + 1≤lo) ?_ (fun r st' hr=>by cases r <;> exact hr)
  have J : ∀ (u : Unit) (n : Nat) (st3 : SortSt) (p3 : Array Nat), Whole it κ size key st3 p3 l lo → 1 ≤ n → lo + n ≤ size → UpS key p3 lo (lo + n) → wpS (model prog w) A E s (jp u n) (fun r st' => match r with | .done c' => ∃ p' l, c' = (none, size) ∧ Whole it κ size key st' p' l size | .yield c' => ∃ p' l lo, c' = (none, lo) ∧ Whole it κ size key st' p' l lo ∧ x + 1 ≤ lo) st3 := fun u n st3 p3 W3 n1 n2 up3 => by
   rw [hjp]
   walk_at "d"
   refine wpS_bind (wpS_get ?_)
   extract_lets -underBinder -merge -useContext +onlyGivenNames jp2
   clear_value (hjp2:jp2=_)
   have J2:∀ (u:Unit) (st4:SortSt) (p4:Array Nat) (l4:List (Nat × Nat × Nat)),Whole it κ size key st4 p4 l4 lo→UpS key p4 lo (lo + n)→wpS (model prog w) A E s (jp2 u) (fun r st'=>match r with | .done c'=>∃ p' l,c'=(none,size)∧Whole it κ size key st' p' l size | .yield c'=>∃ p' l lo,c'=(none,lo)∧Whole it κ size key st' p' l lo∧x + 1≤lo) st4:=fun u st4 p4 l4 W4 up4=>by
    rw [hjp2]
    walk_at "d"
    refine wpS_bind (wpS_modify ?_)
    extract_lets -underBinder -merge -useContext +onlyGivenNames zq
    try subst zq
    walk_at "d"
    refine wpS_pure ⟨p4,l4++[(lo,n,0)],lo + n,rfl,⟨W4.arr,W4.kd,W4.fl,?_,W4.pm,chain_app.mpr ⟨lo,W4.ch,rfl,n1,rfl⟩,n2,fun e he=>?_⟩,by omega⟩
    · show (pendingOf st4).push (lo,n,0)=_
      rw [W4.pd]; simp
    · rcases List.mem_append.mp he with he | he
      · exact W4.up e he
      · rw [List.mem_singleton.mp he]; exact up4
   clear hjp2
   generalize ((sortPriv% PySem.Builtin.SortState.pending) st3).back?=bk
   cases bk with
   | none =>
     walk_at "d"
     exact J2 () st3 p3 l W3 up3
   | some t =>
     obtain ⟨s1,n1',z⟩:=t
     walk_at "d"
     extract_lets -underBinder -merge -useContext +onlyGivenNames pwr
     clear_value (hpw:pwr=_)
     clear hpw
     refine wpS_bind (wpS_mono (wpS_forRange (I:=fun x c st4=>c=(none,())∧∃ p4 l4,Whole it κ size key st4 p4 l4 lo∧UpS key p4 lo (lo + n)) (Q:=fun c st4=>c=(none,())∧∃ p4 l4,Whole it κ size key st4 p4 l4 lo∧UpS key p4 lo (lo + n)) ?_ ?_ ⟨rfl,p3,l,W3,up3⟩) ?_)
     · rintro y c st4 _ hy ⟨rfl,p4,l4,W4,up4⟩
       refine wpS_bind (wpS_get ?_)
       extract_lets -underBinder -merge -useContext +onlyGivenNames pp
       clear_value (hpp:pp=_)
       have ep:pp=l4.toArray:=hpp.trans W4.pd
       subst ep
       clear hpp
       rw [List.size_toArray]
       by_cases hl:l4.length > 1
       · rw [if_pos hl]
         obtain ⟨l1,a,b,l2,rfl,el⟩:=split_at (l:=l4) (j:=l4.length - 2) (by omega)
         have e2:(l1++a :: b :: l2).toArray[(l1++a :: b :: l2).length - 2]?=some a:=by
          rw [←el]; simp
         rw [e2]
         obtain ⟨a1,a2,a3⟩:=a
         walk_at "d"
         refine w_ite (fun _=>wpS_pure ⟨rfl,p4,_,W4,up4⟩) (fun _=>?_)
         rw [←el]
         refine wpS_bind (mergeAt_ok hc W4 fun st5 p5 e5 W5 out5=>?_)
         walk_at "d"
         exact wpS_pure ⟨rfl,p5,_,W5,fun i j q1 q2 q3=>by
          unfold KasM.K
          rw [out5 i q1,out5 j (by omega)]
          exact up4 i j q1 q2 q3⟩
       · rw [if_neg hl]
         walk_at "d"
         exact wpS_pure ⟨rfl,p4,l4,W4,up4⟩
     · rintro c st4 hh
       exact hh
     · rintro c st4 ⟨rfl,p4,l4,W4,up4⟩
       extract_lets -underBinder -merge -useContext +onlyGivenNames zq
       try subst zq
       walk_at "d"
       walk_at "d"
       refine wpS_bind (wpS_modify ?_)
       rcases List.eq_nil_or_concat l4 with rfl | ⟨l0,⟨f1,f2,f3⟩,rfl⟩
       · refine J2 () _ p4 [] ⟨W4.arr,W4.kd,W4.fl,?_,W4.pm,W4.ch,W4.le,W4.up⟩ up4
         have e:∀ n (f:Nat × Nat × Nat→Nat × Nat × Nat),(pendingOf st4).modify n f=#[]:=fun n f=>by rw [W4.pd]; rfl
         exact e ((pendingOf st4).size - 1) (fun x=>(x.1,x.2.1,pwr))
       · obtain ⟨c0,q1,q2⟩:=chain_app.mp (by rw [List.concat_eq_append] at W4; exact W4.ch)
         rw [List.concat_eq_append] at W4
         refine J2 () _ p4 (l0++[(f1,f2,pwr)]) ⟨W4.arr,W4.kd,W4.fl,?_,W4.pm,chain_app.mpr ⟨c0,q1,q2⟩,W4.le,fun e he=>?_⟩ up4
         · have e:∀ (f:Nat × Nat × Nat→Nat × Nat × Nat),(pendingOf st4).modify ((pendingOf st4).size - 1) f=(l0++[f (f1,f2,f3)]).toArray:=fun f=>by
            rw [W4.pd]
            apply Array.toList_inj.mp
            rw [Array.toList_modify,List.size_toArray,List.length_append,List.length_singleton,Nat.add_sub_cancel]
            show (l0++[(f1,f2,f3)]).modify l0.length _=_
            exact mod_last
           exact e (fun x=>(x.1,x.2.1,pwr))
         · rcases List.mem_append.mp he with he | he
           · exact W4.up e (List.mem_append_left _ he)
           · rw [List.mem_singleton.mp he]
             exact W4.up (f1,f2,f3) (by simp)
  clear hjp
  refine w_ite (fun hlt=>?_) (fun hlt=>J () m st2 p2 W2 m1 (by omega) up2)
  refine wpS_bind (wpS_lift (wpAny_rule ⟨rfl,?_⟩))
  extract_lets -underBinder -merge -useContext +onlyGivenNames zq
  try subst zq
  walk_at "d"
  refine wpS_bind (binarySort_ok hc (W2.sg (n:=min (size - lo) minrun)) m1 (by omega) (by omega) up2 fun st3 p3 S3 up3=>?_)
  refine w_ite (fun e=>absurd e (by decide)) (fun _=>?_)
  extract_lets -underBinder -merge -useContext +onlyGivenNames zq
  try subst zq
  walk_at "d"
  exact J () _ st3 p3 (W2.of S3) (by omega) (by omega) up3
 case post =>
  rintro c st' ⟨p',l,rfl,W'⟩
  extract_lets -underBinder -merge -useContext +onlyGivenNames zq
  try subst zq
  try (extract_lets -underBinder -merge -useContext +onlyGivenNames zq; subst zq)
  walk_at "d"
  walk_at "d"
  have hl0:=chain_le W'.ch
  refine wpS_bind (wpS_mono (wpS_forRange (I:=fun x c st2=>c=(none,())∧∃ p2 l2,Whole it κ size key st2 p2 l2 size∧(l2.length + x≤size∨l2.length≤1)) (Q:=fun c st2=>c=(none,())∧∃ p2 l2,Whole it κ size key st2 p2 l2 size∧l2.length≤1) ?_ ?_ ⟨rfl,p',l,W',.inl (by omega)⟩) ?_)
  · rintro y c st2 _ hy ⟨rfl,p2,l2,W2,hl⟩
    extract_lets -underBinder -merge -useContext +onlyGivenNames zq
    try subst zq
    walk_at "d"
    refine wpS_bind (wpS_get ?_)
    extract_lets -underBinder -merge -useContext +onlyGivenNames pp
    clear_value (hpp:pp=_)
    have ep:pp=l2.toArray:=hpp.trans W2.pd
    subst ep
    clear hpp
    rw [List.size_toArray]
    refine w_ite (fun e=>wpS_pure ⟨rfl,p2,l2,W2,e⟩) (fun e=>?_)
    extract_lets -underBinder -merge -useContext +onlyGivenNames zq
    try subst zq
    try (extract_lets -underBinder -merge -useContext +onlyGivenNames zq; subst zq)
    extract_lets -underBinder -merge -useContext +onlyGivenNames zq
    try subst zq
    walk_at "d"
    have key2:∀ j:Nat,j + 1 < l2.length→wpS (model prog w) A E s (mergeAt' j) (fun r st3=>r=true∧∃ p3 l3,Whole it κ size key st3 p3 l3 size∧l3.length + 1=l2.length) st2:=fun j hj=>by
     obtain ⟨l1,a,b,lz,rfl,el⟩:=split_at hj
     rw [←el]
     refine mergeAt_ok hc W2 fun st5 p5 e5 W5 _=>⟨rfl,p5,_,W5,?_⟩
     simp
     omega
    refine wpS_bind (wpS_mono (key2 _ ?_) fun r st3 ⟨er,p3,l3,W3,hl3⟩=>?_)
    · have hj:∀ c:Bool,(if c=true then l2.length - 2 - 1 else l2.length - 2) + 1 < l2.length:=fun c=>by split <;> omega
      exact hj _
    · subst er
      walk_at "d"
      exact wpS_pure ⟨rfl,p3,l3,W3,.inl (by omega)⟩
  · rintro c st2 ⟨rfl,p2,l2,W2,hl⟩
    exact ⟨rfl,p2,l2,W2,by omega⟩
  · rintro c st2 ⟨rfl,p2,l2,W2,hl⟩
    extract_lets -underBinder -merge -useContext +onlyGivenNames zq
    try subst zq
    walk_at "d"
    walk_at "d"
    refine wpS_pure (h st2 p2 W2.arr W2.fl W2.pm ?_)
    match l2,hl,W2 with
    | [],_,W2 =>
      have:0=size:=W2.ch
      omega
    | [(e1,e2,e3)],_,W2 =>
      obtain ⟨q1,q2,q3⟩:=W2.ch
      have u:=W2.up (e1,e2,e3) (by simp)
      have q1:e1=0:=q1
      have q3:0 + e2=size:=q3
      dsimp only at u
      rw [q1,q3] at u
      exact u
end
end Tim
namespace L2
open PySem PySem.Spec PyProof.Rows
section
variable {prog:Program} {w:World} {A:Around} {E:Value→Shared→Prop} {s:Shared}
theorem list_sort_big {O:KeyOrd} {key:Nat→O.α} {κ:SortKind} {a:Addr} {vs:List Value} {n:Nat} {P:PySem.Fin→Shared→Prop} (ho:s.heap.get? a=some (seqObj "list" vs.toArray n)) (h64:vs.length≤50000)
 (hkind:2≤vs.length→∀ (h':Heap),(∀ b o,b≠a→s.heap.get? b=some o→h'.get? b=some o)→∀ (Q:SortKind→Shared→Prop),Q κ { s with heap:=h' }→wpAny (model prog w) A (keyKind' vs.toArray) Q (fun _ _=>False) { s with heap:=h' })
 (hcmp:∀ (h':Heap),(∀ b o,b≠a→s.heap.get? b=some o→h'.get? b=some o)→∀ (i j:Nat) (C:Bool→Shared→Prop),i < vs.length→j < vs.length→C (O.blt (key i) (key j)) { s with heap:=h' }→PySem.W.kas_ask prog w A κ vs i j C { s with heap:=h' })
 (h:∀ is:List Nat,is.Perm (List.range vs.length)→(∀ i,i + 1 < is.length→O.kle (key (is.getD i 0)) (key (is.getD (i + 1) 0)))→P (.done (.ret .none)) { s with heap:=sortedHeap s.heap a vs (is.map fun i=>vs.getD i Value.none).toArray }) :
 wpAny (model prog w) A (Builtin.«list.sort» ⟨[.ref a],[]⟩) P E s:=by
 rw [list_sort_plain]
 have ha:a < s.heap.objs.size:=Heap.lt_size ho
 have hsz:vs.toArray.size=vs.length:=by simp
 refine wpAny_bind (listItems_at ho rfl ?_)
 refine wpAny_bind (listUpdate_at ho rfl ?_ (by rw [List.size_toArray,sizeLine_eq]; omega) (Nat.zero_le _))
 obtain ⟨e1,ho1⟩:∃ e1,(s.heap.update a (Obj.mapSeq fun _=>#[])).get? a=some (seqObj "list" #[] e1):=⟨_,get?_update_seq ho (fun _=>#[])⟩
 refine wpAny_bind (seqEpoch_at ho1 rfl ?_)
 refine wpAny_bind (wpAny_newTuple ?_ (by show vs.length≤_; rw [sizeLine_eq]; omega))
 refine wpAny_bind (wpAny_newList ?_ (Nat.zero_le _))
 refine wpAny_holding ?_
 have ho6:(((s.heap.update a (Obj.mapSeq fun _=>#[])).push (seqObj "tuple" vs.toArray 0)).push (seqObj "list" #[] 0)).get? a=some (seqObj "list" #[] e1):=by
  rw [Heap.get?_push_ne _ _ _ (by rw [size_push',Heap.size_update]; exact Nat.ne_of_lt (Nat.lt_succ_of_lt ha)),Heap.get?_push_ne _ _ _ (by rw [Heap.size_update]; exact Nat.ne_of_lt ha)]
  exact ho1
 have keep:∀ b o,b≠a→s.heap.get? b=some o→(((s.heap.update a (Obj.mapSeq fun _=>#[])).push (seqObj "tuple" vs.toArray 0)).push (seqObj "list" #[] 0)).get? b=some o:=fun b o hb q=>by
  refine Heap.get?_push_of_some _ (Heap.get?_push_of_some _ ?_)
  rw [Heap.get?_update_ne _ _ _ _ hb]; exact q
 show wpAny (model prog w) A _ P E { s with heap:=((s.heap.update a (Obj.mapSeq fun _=>#[])).push (seqObj "tuple" vs.toArray 0)).push (seqObj "list" #[] 0) }
 dsimp only
 by_cases h2:vs.toArray.size < 2
 · rw [if_pos h2,if_pos h2]
   refine wpAny_bind (wpAny_pure ?_)
   rw [StateT.run_pure]
   refine wpAny_bind (wpAny_pure ?_)
   dsimp only
   refine wpAny_bind (seqEpoch_at ho6 rfl ?_)
   refine wpAny_bind (listUpdate_at ho6 rfl ?_ (Nat.zero_le _) (by rw [Array.size_map]; show (pairsOf vs).size≤_; rw [pairsOf_size,sizeLine_eq]; omega))
   simp only [bne_self_eq_false,Bool.false_eq_true,if_false]
   have:=h (List.range vs.length) (List.Perm.refl _) (fun i hi=>by rw [List.length_range] at hi; omega)
   have e:((List.range vs.length).map fun i=>vs.getD i Value.none).toArray=(arrOf (SortSt.mk' general' (vs.toArray.zip vs.toArray) #[] 7 none)).map (·.2):=by
    apply Array.toList_inj.mp
    show (List.range vs.length).map (fun i=>vs.getD i Value.none)=((vs.toArray.zip vs.toArray).map (·.2)).toList
    apply List.ext_getElem?
    intro k
    by_cases hk:k < vs.length
    · simp [hk,List.getD_eq_getElem?_getD]
    · simp [hk]
   rw [e] at this
   exact wpAny_pure this
 · rw [if_neg h2,if_neg h2]
   have h2':2≤vs.length:=by omega
   refine wpAny_bind (wpAny_mono (hkind h2' _ keep (fun κ' s'=>κ'=κ∧s'=_) ⟨rfl,rfl⟩) ?_ fun _ _ x=>x.elim)
   rintro κ' s' ⟨rfl,rfl⟩
   have eit:pairsOf vs=vs.toArray.zip vs.toArray:=rfl
   have hAsk:Tim.Asks prog w A { s with heap:=((s.heap.update a (Obj.mapSeq fun _=>#[])).push (seqObj "tuple" vs.toArray 0)).push (seqObj "list" #[] 0) } O key κ' (vs.toArray.zip vs.toArray) vs.length:=fun i j C h1 h2 h3=>by
    have:=hcmp _ keep i j C h1 h2 h3
    rw [PySem.W.kas_ask_eq] at this
    exact this
   have hst0:arrOf (SortSt.mk' κ' (vs.toArray.zip vs.toArray) #[] 7 none)=(List.toArray (List.range vs.length)).map (PySem.W.kas_item (vs.toArray.zip vs.toArray)):=by
    have e:=PySem.W.kas_range (vs.toArray.zip vs.toArray)
    rw [show (vs.toArray.zip vs.toArray).size=vs.length by simp] at e
    exact e.symm
   refine wpAny_bind (wpAny_mono (Tim.sortRuns_ok (E:=E) (N:=vs.length) (st:=SortSt.mk' κ' (vs.toArray.zip vs.toArray) #[] 7 none) (p:=(List.range vs.length).toArray) (Q:=fun _ st'=>∃ p:Array Nat,arrOf st'=p.map (PySem.W.kas_item (vs.toArray.zip vs.toArray))∧failedOf st'=none∧KasM.Pm vs.length p∧Tim.UpS key p 0 vs.length)
    hAsk ⟨hst0,rfl,rfl,rfl,Array.Perm.refl _,rfl,Nat.zero_le _,fun e he=>by simp at he⟩ (by omega) fun st' p' a1 a2 a3 a4=>⟨p',a1,a2,a3,a4⟩) ?_ fun _ _ e=>e)
   rintro ⟨⟨⟩,st'⟩ s' ⟨rfl,p,har,hf,hp,hup⟩
   have hasc:KasM.Asc key p vs.length:=fun i hi=>hup i (i + 1) (Nat.zero_le _) (Nat.le_succ _) hi
   dsimp only
   have hout:=PySem.W.kat_snds (ks:=vs) (vs:=vs) rfl har
   rw [hout]
   refine wpAny_bind (seqEpoch_at ho6 rfl ?_)
   refine wpAny_bind (listUpdate_at ho6 rfl ?_ (Nat.zero_le _) (by rw [List.size_toArray,List.length_map,Array.length_toList,hp.size,sizeLine_eq]; omega))
   rw [hf]
   simp only [bne_self_eq_false,Bool.false_eq_true,if_false]
   refine wpAny_pure (h p.toList (by have:=Array.perm_iff_toList_perm.mp hp; simpa using this) fun i hi=>?_)
   have hz:=hp.size
   have:=hasc i (by simpa [hz] using hi)
   simpa [KasM.K,Array.getD_eq_getD_getElem?,List.getD_eq_getElem?_getD] using this
theorem sorted_big {O:KeyOrd} {key:Nat→O.α} {κ:SortKind} {l:Addr} {vs:List Value} {Q:Value→Shared→Prop} (hl:s.heap.IsList l vs.toArray) (h64:vs.length≤50000)
 (hkind:2≤vs.length→∀ (h':Heap),(∀ b o,s.heap.get? b=some o→h'.get? b=some o)→∀ (Q:SortKind→Shared→Prop),Q κ { s with heap:=h' }→wpAny (model prog w) A.in1.in1 (keyKind' vs.toArray) Q (fun _ _=>False) { s with heap:=h' })
 (hcmp:∀ (h':Heap),(∀ b o,s.heap.get? b=some o→h'.get? b=some o)→∀ (i j:Nat) (C:Bool→Shared→Prop),i < vs.length→j < vs.length→C (O.blt (key i) (key j)) { s with heap:=h' }→PySem.W.kas_ask prog w A.in1.in1 κ vs i j C { s with heap:=h' })
 (h:∀ (D:Addr) (h':Heap) (n:Nat) (is:List Nat),(∀ b o,s.heap.get? b=some o→h'.get? b=some o)→(∀ b o,s.heap.get? b=some o→b≠D)→is.Perm (List.range vs.length)→(∀ i,i + 1 < is.length→O.kle (key (is.getD i 0)) (key (is.getD (i + 1) 0))) →
  h'.get? D=some (seqObj "list" (is.map fun i=>vs.getD i Value.none).toArray n)→Q (.ref D) { s with heap:=h' }) :
 wpAny (model prog w) A (call (.builtin "sorted") [.ref l]) Q E s:=by
 refine Calls.call_function_entry kind_sorted plain_sorted entry_sorted (args_sorted1 _) ?_
 unfold Builtin.«sorted»
 refine wpAny_bind (m:=checkCount "sorted" 1 1 _) (wpAny_pure ?_)
 refine wpAny_bind (collect_list hl ?_ (by rw [sizeLine_eq]; omega))
 refine wpAny_bind (wpAny_newList ?_ (by rw [sizeLine_eq]; omega))
 have hsz:((s.heap.push (seqObj "list" #[] 0)).update s.heap.objs.size (Obj.mapSeq (·++vs.toArray))).objs.size=s.heap.objs.size + 1:=by
  rw [Heap.size_update,size_push']
 have hoL:(((s.heap.push (seqObj "list" #[] 0)).update s.heap.objs.size (Obj.mapSeq (·++vs.toArray))).push (seqObj "list" vs.toArray 0)).get? (s.heap.objs.size + 1)=some (seqObj "list" vs.toArray 0):=by
  rw [←hsz]; exact Heap.get?_push_size _ rfl
 have keep:∀ b o,s.heap.get? b=some o→(((s.heap.push (seqObj "list" #[] 0)).update s.heap.objs.size (Obj.mapSeq (·++vs.toArray))).push (seqObj "list" vs.toArray 0)).get? b=some o:=fun b o q=>by
  have hlt:b < s.heap.objs.size:=Heap.lt_size q
  rw [Heap.get?_push_ne _ _ _ (by rw [hsz]; exact Nat.ne_of_lt (Nat.lt_succ_of_lt hlt)),Heap.get?_update_ne _ _ _ _ (Nat.ne_of_lt hlt),Heap.get?_push_ne _ _ _ (Nat.ne_of_lt hlt)]
  exact q
 have szne:∀ b o,s.heap.get? b=some o→b≠s.heap.objs.size + 1:=fun b o q=>Nat.ne_of_lt (Nat.lt_succ_of_lt (Heap.lt_size q))
 show wpAny _ _ _ _ _ { s with heap:=((s.heap.push (seqObj "list" #[] 0)).update s.heap.objs.size (Obj.mapSeq (·++vs.toArray))).push (seqObj "list" vs.toArray 0) }
 rw [hsz]
 refine wpAny_bind (wpAny_holding (wpAny_call_entry slot_list_sort ⟨_,hoL,rfl⟩ entry_list_sort ?body (args_list_sort _)))
 case body =>
  refine list_sort_big (s:={ s with heap:=((s.heap.push (seqObj "list" #[] 0)).update s.heap.objs.size (Obj.mapSeq (·++vs.toArray))).push (seqObj "list" vs.toArray 0) }) (key:=key) (κ:=κ) hoL h64
   (fun h2 h' k=>hkind h2 h' fun b o q=>k b o (szne b o q) (keep b o q)) (fun h' k=>hcmp h' fun b o q=>k b o (szne b o q) (keep b o q)) fun is hp hs=>?_
  obtain ⟨n,hg⟩:=sortedHeap_at (vs:=vs) (out:=(is.map fun i=>vs.getD i Value.none).toArray) hoL
  refine ⟨_,rfl,wpAny_pure ⟨_,rfl,h (s.heap.objs.size + 1) _ n is (fun b o q=>?_) szne hp hs hg⟩⟩
  show (sortedHeap (((s.heap.push (seqObj "list" #[] 0)).update s.heap.objs.size (Obj.mapSeq (·++vs.toArray))).push (seqObj "list" vs.toArray 0)) (s.heap.objs.size + 1) vs _).get? b=some o
  rw [sortedHeap_old (szne b o q) (Heap.lt_size (keep b o q))]
  exact keep b o q
end
end L2
namespace L2
open PySem PySem.Spec PyProof.Rows PySem.SeqAt
section
variable {X:Cx}
def rSortQ (X:Cx) (c d:Col):List V→Hp→VK→Prop:=fun vs H Q=>∃ (l:Addr) (zs:List (Row c d)),vs=[.ref l]∧SqL X.K H l (zs.map (·.1))∧zs.length≤900 ∧
 (∀ z∈zs,∃ t,z.1=.ref t∧SqT X.K H t [c.val z.2.1,d.val z.2.2])∧∀ (D:Addr) (zs':List (Row c d)),zs'.Perm zs→(zs'.map (·.2)).Pairwise (lexO c.O d.O).kle→H D=none→Q (.ref D) (upd H D (.lst (zs'.map (·.1))))
theorem call_sortQ (c d:Col):CallR X (.builtin "sorted") (rSortQ X c d):=by
 intro pins s σ H vs us Q I r h
 obtain ⟨l,zs,rfl,hl,h64,hr,q⟩:=h
 obtain ⟨u,rfl,ru⟩:=vals1 r
 obtain rfl:u=Value.ref l:=ru
 obtain ⟨its,ri,pl,_⟩:=I.list hl
 have hp:=hr_of I zs its ri hr
 have hlen:zs.length=its.length:=hp.length
 let dz:Row c d:=(V.non,(c.dflt,d.dflt))
 refine sorted_big (O:=lexO c.O d.O) (key:=fun i=>(zs.getD i dz).2) (κ:=tuples' true) (vs:=its) (by obtain ⟨o,n,a1,a2,a3,a4⟩:=pl; exact ⟨o,a1,a2,n,a4⟩) (by omega) (fun h2 h' k Q' hq=>?_) (fun h' k i j C hi hj hC=>?_) fun D h' n is kk hD hpm hst hg=>?_
 · have hp':Paired (HR c d h') zs its:=Paired.mapP hp fun _ _ x=>x.keeps k
   obtain ⟨fs,k1,k2,k3⟩:=hr_tups _ _ hp'
   refine PySem.W.kat_kind (T:=c.T) k1 (by omega) (fun v hv=>?_) c.tT (by rw [c.tN]; exact hq)
   obtain ⟨a,ha⟩:=k3 v hv
   exact c.look _ _ a v ha
 · obtain ⟨t,u1,u2,a1,a2,a3,a4,a5⟩:=(paired_at hp i dz Value.none (by omega)).keeps k
   obtain ⟨t',v1,v2,b1,b2,b3,b4,b5⟩:=(paired_at hp j dz Value.none (by omega)).keeps k
   unfold PySem.W.kas_ask
   rw [a2,b2]
   exact cmp_rowP c d a3 b3 a4 a5 b4 b5 hC
 · have hin:∀ i∈is,i < zs.length:=fun i hi=>by
    have:=hpm.mem_iff.mp hi
    rw [hlen]; simpa using this
   have hrange:(List.range zs.length).map (fun i=>zs.getD i dz)=zs:=by
    apply List.ext_getElem?
    intro k
    by_cases hk:k < zs.length
    · simp [hk,List.getD_eq_getElem?_getD]
    · simp [hk]
   have hperm:(is.map fun i=>zs.getD i dz).Perm zs:=by
    have:=hpm.map (fun i=>zs.getD i dz)
    rwa [←hlen,hrange] at this
   have hv:Vals ((is.map fun i=>zs.getD i dz).map (·.1)) (is.map fun i=>its.getD i Value.none):=by
    rw [List.map_map]
    refine paired_map is fun i hi=>?_
    obtain ⟨t,u1,u2,a1,a2,_⟩:=paired_at hp i dz Value.none (hin i hi)
    show RelV (zs.getD i dz).1 (its.getD i Value.none)
    rw [a1,a2]; exact rfl
   have hpw:((is.map fun i=>zs.getD i dz).map (·.2)).Pairwise (lexO c.O d.O).kle:=by
    refine pairwise_of_steps (fun _ _ _=>KeyOrd.kle_trans) _ fun i a b h1 h2=>?_
    rw [List.map_map,List.getElem?_map,Option.map_eq_some_iff] at h1 h2
    obtain ⟨x,e1,rfl⟩:=h1
    obtain ⟨y,e2,rfl⟩:=h2
    obtain ⟨hlt,_⟩:=List.getElem?_eq_some_iff.mp e2
    have:=hst i hlt
    have g1:is.getD i 0=x:=by rw [List.getD_eq_getElem?_getD,e1]; rfl
    have g2:is.getD (i + 1) 0=y:=by rw [List.getD_eq_getElem?_getD,e2]; rfl
    rw [g1,g2] at this
    exact this
   exact ⟨.ref D,upd H D (.lst ((is.map fun i=>zs.getD i dz).map (·.1))),I.laidN (t':=s.toks) kk hD ⟨by rw [List.length_map,hperm.length_eq]; exact Nat.le_of_lt (small1000 (by omega)),_,n,hv,hg⟩,rfl,q D _ hperm hpw (I.freshN hD)⟩
end
end L2
namespace L2
open PySem PySem.Spec PyProof.Rows Ord
section
variable {X:Cx}
def rIns:V→List V→Hp→VK→Prop:=fun x vs H Q=>∃ l xs y,∃ i:Int,x=.ref l∧vs=[.int i,y]∧H l=some (.lst xs)∧0≤i∧i≤xs.length∧xs.length≤1000∧Q .non (upd H l (.lst (xs.take i.toNat++y :: xs.drop i.toNat)))
theorem mr_insert:MtR X "list.insert" rIns:=by
 intro pins s σ H x vs v us Q I rx rv h
 obtain ⟨l,xs,y,i,rfl,rfl,hH,h0,h1,hz,q⟩:=h
 cases rx
 obtain ⟨u1,u2,rfl,ru1,ru2⟩:=vals2 rv
 obtain ⟨t,rfl⟩:=ru1
 obtain ⟨z,its,n,r,hl,e⟩:=I.lstM hH
 have hs:(1001:Nat)≤sizeLine:=by decide
 have hfit:Builtin.List.listFitsIndex i=true:=by
  unfold Builtin.List.listFitsIndex
  simp only [Bool.and_eq_true,decide_eq_true_eq]
  omega
 refine call_meets PySem.F.slot_list_insert ⟨_,e,rfl⟩ PySem.F.entry_list_insert (PySem.F.args_list_insert_3 _ _ _) (PySem.AutoSeq1.list_insert_list_int_val_1 l _ n i t u2 (by simp [hfit]) (by rw [List.size_toArray]; omega)) ⟨e,?_⟩
 refine ⟨.non,_,I.lset (its':=its.take i.toNat++u2 :: its.drop i.toNat) hH e ?_ ((r.take i.toNat).append (.cons ru2 (r.drop i.toNat))) ?_,rfl,q⟩
 · have hk:(if i < 0 then (i + (its.toArray.size:Int)).toNat else min i.toNat its.toArray.size)=i.toNat:=by
    rw [if_neg (by omega),List.size_toArray]; omega
   show (its.toArray.extract 0 (if i < 0 then (i + (its.toArray.size:Int)).toNat else min i.toNat its.toArray.size)).push u2++its.toArray.extract (if i < 0 then (i + (its.toArray.size:Int)).toNat else min i.toNat its.toArray.size)=_
   rw [hk]
   simp
   rw [List.take_of_length_le (by rw [List.length_drop]; omega)]
 · rw [List.length_append,List.length_cons,List.length_take,List.length_drop]
   omega
theorem op_isnotB:OpR X (compareOp .IsNot) (fun x y H Q=>∃ a b,x=.bl a∧y=.bl b∧Q (.bl (!(a == b))) H):=by
 intro pins s σ H x y v u Q I rx ry h
 obtain ⟨a,b,rfl,rfl,q⟩:=h
 cases rx
 cases ry
 cases a <;> cases b <;> exact wpAny_pure (fin_bl I q rfl)
def cutS (x:Str) (l u:Option Int):List Nat:=(x.cps.toList.drop (l.getD 0).toNat).take ((u.map Int.toNat).getD x.length - (l.getD 0).toNat)
theorem drop_min {α:Type} (xs:List α) (a:Nat):xs.drop (min a xs.length)=xs.drop a:=by
 rcases Nat.le_total a xs.length with h | h
 · rw [Nat.min_eq_left h]
 · rw [Nat.min_eq_right h,List.drop_of_length_le h,List.drop_of_length_le (Nat.le_refl _)]
theorem slice_cps (x:Str) {l u:Option Int} (hl:∀ i,l=some i→0≤i) (hu:∀ i,u=some i→0≤i):(Txt.slice x l u).cps.toList=cutS x l u:=by
 have hxl:x.cps.toList.length=x.length:=by rw [Array.length_toList]; rfl
 have e : Builtin.Str.strSliceIndices l u 1 x.length = (List.range (min ((u.map Int.toNat).getD x.length) x.length - min (l.getD 0).toNat x.length)).map (min (l.getD 0).toNat x.length + ·) := by
  rw [←sliceRange_one]
  unfold Builtin.Str.strSliceIndices
  cases l with
  | none =>
    cases u with
    | none=>simp
    | some j =>
      have:=hu j rfl
      simp only [show (1:Int) > 0 by decide,if_true,Option.getD_none,Option.map_some,Option.getD_some]
      rw [if_neg (by omega)]
      congr 1 <;> omega
  | some i =>
    have:=hl i rfl
    cases u with
    | none =>
      simp only [show (1:Int) > 0 by decide,if_true,Option.getD_none,Option.map_none,Option.getD_some]
      rw [if_neg (by omega)]
      congr 1 <;> omega
    | some j =>
      have:=hu j rfl
      simp only [show (1:Int) > 0 by decide,if_true,Option.map_some,Option.getD_some]
      rw [if_neg (by omega),if_neg (by omega)]
      congr 1 <;> omega
 have key:((Builtin.Str.strSliceIndices l u 1 x.length).filterMap (x.cps[·]?))=cutS x l u:=by
  rw [e,pick_run]
  unfold cutS
  rw [←hxl,drop_min]
  generalize (l.getD 0).toNat=a
  generalize (u.map Int.toNat).getD x.cps.toList.length=b
  rcases Nat.le_total b x.cps.toList.length with h | h
  · rw [Nat.min_eq_left h]
    rcases Nat.le_total a x.cps.toList.length with h2 | h2
    · rw [Nat.min_eq_left h2]
    · rw [List.drop_of_length_le h2,List.take_nil,List.take_nil]
  · rw [Nat.min_eq_right h]
    rcases Nat.le_total a x.cps.toList.length with h2 | h2
    · rw [Nat.min_eq_left h2,List.take_of_length_le (by rw [List.length_drop]; omega),List.take_of_length_le (by rw [List.length_drop]; omega)]
    · rw [List.drop_of_length_le h2,List.take_nil,List.take_nil]
 unfold Txt.slice
 split
 · rename_i h
   simp only [Bool.and_eq_true,beq_iff_eq] at h
   have h2:=h.2
   have hlen:(cutS x l u).length=x.length:=by
    rw [←key,e,pick_run]
    rw [e,List.length_map,List.length_range] at h2
    rw [List.length_take,List.length_drop,hxl]
    omega
   unfold cutS at hlen ⊢
   rw [List.length_take,List.length_drop,hxl] at hlen
   have ha:(l.getD 0).toNat=0∨x.length=0:=by omega
   rcases ha with ha | ha
   · rw [ha,List.drop_zero,List.take_of_length_le (by rw [hxl]; omega)]
   · have:x.cps.toList=[]:=List.length_eq_zero_iff.mp (by rw [hxl]; exact ha)
     rw [this,List.drop_nil,List.take_nil]
 · exact key
def rSlS:V→Option Int→Option Int→Hp→VK→Prop:=fun x lo hi H Q=>∃ a,x=.str a∧a.length≤sizeLine∧(∀ i,lo=some i→0≤i)∧(∀ i,hi=some i→0≤i)∧∀ z:Str,z.cps.toList=cutS a lo hi→Q (.str z) H
theorem sl_str:SlR X rSlS:=by
 intro pins s σ H x v vl vu lo hi sl Q I rx hs pl pu h
 obtain ⟨a,rfl,hz,hl,hu,q⟩:=h
 obtain ⟨t,rfl⟩:=rx
 obtain ⟨l',el,el2⟩:∃ l':Option (Int × Tok),vl=partValue l'∧l'.map (·.1)=lo:=by
  cases pl with
  | none=>exact ⟨none,rfl,rfl⟩
  | int i t=>exact ⟨some (i,t),rfl,rfl⟩
 obtain ⟨u',eu,eu2⟩:∃ u':Option (Int × Tok),vu=partValue u'∧u'.map (·.1)=hi:=by
  cases pu with
  | none=>exact ⟨none,rfl,rfl⟩
  | int i t=>exact ⟨some (i,t),rfl,rfl⟩
 subst el; subst eu; subst el2; subst eu2
 refine ⟨"str",_,F.slot_str_getitem.lookup,typeIs_str _ _ _,wpAny_getItem_str_slice (l:=l') (u:=u') (st:=none) hs rfl ?_⟩
 exact post_val_or_str ⟨Nat.le_trans (Txt.slice_le a _ _) hz,fun t' k=>⟨.str _,H,I.tok k,⟨_,rfl⟩,q _ (slice_cps a hl hu)⟩⟩
end
end L2
namespace PySem
section
variable {prog:Program} {w:World} {K:Type} [DecidableEq K] {knd:HeapKind prog w K} {A:Around} {E:Value→Shared→Prop} {s:Shared}
end
section
variable {prog:Program} {w:World} {A:Around} {E:Value→Shared→Prop} {s:Shared}
end
end PySem
namespace L2
open PySem PySem.Spec PyProof.Rows
section
variable {X:Cx}
end
end L2
namespace PySem
section
variable {prog:Program} {w:World} {A:Around} {E:Value→Shared→Prop} {s:Shared}
theorem keys_miss {a:Addr} {o:Obj} {xs:Array Value} {k:Nat} {Q:Option Value→Shared→Prop}
 (hx:s.heap.get? a=some o) (hc:o.cls=.type "list") (hdat:o.data=.seq xs k) (hd:o.dict=none) (hA:A.handled=none)
 (h:∀ h' tk,(∀ b o,s.heap.get? b=some o→h'.get? b=some o)→Q none { s with heap:=h',toks:=tk }):wpAny (model prog w) A (getAttr? (.ref a) "keys") Q E s:=by
 obtain ⟨c,dct,dat,sl⟩:=o
 simp only at hc hdat hd
 subst hc hdat hd
 obtain ⟨hp,g,d,tk,os⟩:=s
 have hT:∀ tk',(⟨hp,g,d,tk',os⟩:Shared).TypeIs (.ref a) "list" := fun _=>⟨_,hx,rfl⟩
 have f1:=sub_AttributeError
 have f3:=F.slot_list_getattribute.lookup
 have f4:=F.slot_list_getattribute.bind (.ref a)
 have f5:=am_list_getattr_none
 have hmiss:typeLookup (.type "list") "keys" = pure none:=by rw [typeLookup_type,builtinLookup_eq_fast]; kernel_rfl
 unfold getAttr? getAttrBy? getAttrBy
 repeat (any_goals (first | assumption | exact hT _ | ((with_reducible show wpAny _ _ (call (Value.builtin "list.__getattribute__") _ _) _ _ _); refine call_meets F.slot_list_getattribute (hT _) am_entry_list_getattribute (F.args_list_getattribute_2 _ _) (meets_getattribute_miss_list a xs k sl "keys" _ hmiss (by decide) (by size_fits)) ⟨hx,hA,fun h' tk' e hx'=>?_⟩) | wp_step))
 obtain ⟨t',u',he⟩:=hx'.there
 show wpAny _ _ (getattributeRaised _ _ _ _ _ _ _) _ _ _
 unfold getattributeRaised
 repeat (any_goals (first | assumption | wp_step))
 exact h _ _ hx'.keeps
namespace F
theorem entry_upd_loop:entryFor table "dict.update.loop" = some Builtin.«dict.update.loop»:=entryFor_of_tree (by kernel_rfl)
theorem plain_upd_loop:plainId "dict.update.loop" = true:=by decide +kernel
end F
variable {R:Result→Shared→Prop} {I:Addr} {fp wr:List Addr} {n:Nat} {P:Nat→Value→Prop} {St:Nat→Heap→Prop}
end
end PySem
namespace L2
open PySem PySem.Spec PyProof.Rows
section
variable {X:Cx}
def mergeT (acc:List (List Key × V)) (ps:List (List Key × V)):List (List Key × V):=ps.foldl (fun a kv=>putK a kv.1 kv.2) acc
def PrsAt (H:Hp) (xs:List V) (ps:List (List Key × V)):Prop:=Paired (fun x (p:List Key × V)=>∃ t b,x=.ref t∧H t=some (.tup [.ref b,p.2])∧H b=some (.tup (p.1.map kV))) xs ps
theorem upd_loop {pins:List (Addr × Obj)} {σ:St} {A:Around} {R:Result→Shared→Prop} {H:Hp} {p l it:Addr} (hu:A.units + 1 < cLine) (hh:A.in1.handled=none) (hp:H p=none) (hpi:it≠p) :
 ∀ (xs:List V) (ps:List (List Key × V)) (pre:List V) (acc:List (List Key × V)) (s:Shared),PrsAt H xs ps→H l=some (.lst (pre++xs))→acc.length + xs.length≤sizeLine→Inv X pins σ (upd H p (.dT acc)) s →
 s.heap.IsListIter it l pre.length→FpOk X pins H it→(∀ s',Inv X pins σ (upd H p (.dT (mergeT acc ps))) s'→R (.ok (.ret .none)) s')→∀ n:Int,
 codeAny (model X.prog X.w) A (.builtin "dict.update.loop" ⟨[.ref p,.ref it,rawInt n,.none],[]⟩) R s:=by
 intro xs ps pre acc s hx
 induction hx generalizing pre acc s with
 | nil =>
   intro hl hz I st hf hR n
   have hl':upd H p (.dT acc) l=some (.lst (pre++[])):=(upd_ne (ne_of_none hl hp)).trans hl
   obtain ⟨f0,f1,f2,f3,f4,f5⟩:=hf
   have f0':upd H p (.dT acc) it=none:=(upd_ne hpi).trans f0
   obtain ⟨z,its,c,rv,e⟩:=(show ObjOk X.prog X.w _ s.heap l (.lst (pre++[])) from I.hok l _ hl')
   have hlen:=rv.length
   rw [List.append_nil] at hlen
   refine codeAny_builtin PySem.F.entry_upd_loop ?_
   rw [Around.under_plainId PySem.F.plain_upd_loop _]
   show wpAny _ A.in1 (pyNext (.ref it) >>= _) _ _ s
   refine wpAny_bind (wpAny_pyNext_list_end hh st ⟨_,e,rfl,c,rfl⟩ (by simp; omega) fun h' eb=>?_)
   exact wpAny_bind (wpAny_pure (wpAny_pure (hR _ (I.turned (t':=s.toks) (fun b o hb e=>eb b o hb e) f0' f1 f3 f4 f5))))
 | @cons x q xs ps hq tl ih =>
   intro hl hz I st hf hR n
   obtain ⟨t,b,rfl,ht,hb⟩:=hq
   have hl':upd H p (.dT acc) l=some (.lst (pre++.ref t :: xs)):=(upd_ne (ne_of_none hl hp)).trans hl
   have ht':upd H p (.dT acc) t=some (.tup [.ref b,q.2]):=(upd_ne (ne_of_none ht hp)).trans ht
   have hb':upd H p (.dT acc) b=some (.tup (q.1.map kV)):=(upd_ne (ne_of_none hb hp)).trans hb
   obtain ⟨f0,f1,f2,f3,f4,f5⟩:=id hf
   have f0':upd H p (.dT acc) it=none:=(upd_ne hpi).trans f0
   obtain ⟨z,its,c,rv,e⟩:=(show ObjOk X.prog X.w _ s.heap l (.lst (pre++.ref t :: xs)) from I.hok l _ hl')
   obtain ⟨u,hu1,ru⟩:=rv.get (i:=pre.length) (x:=.ref t) (by simp)
   cases ru
   refine codeAny_builtin PySem.F.entry_upd_loop ?_
   rw [Around.under_plainId PySem.F.plain_upd_loop _]
   show wpAny _ A.in1 (pyNext (.ref it) >>= _) _ _ s
   refine wpAny_bind (wpAny_pyNext_list_item st (⟨_,e,rfl,c,rfl⟩:s.heap.IsList l its.toArray) (x:=.ref t) (by simpa using hu1) fun h' st' sb=>?_)
   have I1:Inv X pins σ (upd H p (.dT acc)) { s with heap:=h' }:=I.turned (t':=s.toks) (fun b o hb e=>(sb.2 b hb).trans e) f0' f1 f3 f4 f5
   obtain ⟨_,ts,rt,ot,et,ct,nt,dt⟩:=(show ObjOk X.prog X.w _ h' t (.tup [.ref b,q.2]) from I1.hok t _ ht')
   obtain ⟨u1,u2,rfl,r1,r2⟩:=vals2 rt
   cases (show u1=Value.ref b from r1)
   obtain ⟨zd,hm,es,rel,dd⟩:=dt_of I1.hok (upd_same (H:=H) (a:=p) (o:=.dT acc))
   have hl2:es.length≤sizeLine:=by rw [←Paired.length rel]; exact zd
   have hacc:(putK acc q.1 q.2).length≤acc.length + 1:=length_putK acc q.1 q.2
   rw [List.length_cons] at hz
   refine wpAny_bind (wpAny_holding (wpAny_bind (wpAny_tryCatch ?_)))
   show wpAny _ A.in1 (Builtin.Dict.pairItems (.ref t)) _ _ _
   unfold Builtin.Dict.pairItems
   refine wpAny_bind (wpAny_typeOf (s:={ s with heap:=h' }) (T := "tuple") ⟨ot,et,ct⟩ ?_)
   rw [if_pos (by decide)]
   refine wpAny_bind (wpAny_seqItems (s:={ s with heap:=h' }) et dt (wpAny_pure ?_))
   show wpAny _ A.in1 (holding [Value.ref b,u2] (dictSet p (.ref b) u2)) _ _ _
   refine wpAny_holding (wpAny_dictSet_heap (hsz:=hl2) (knd:=tupleKind (mixKind X.prog X.w)) (tupleKind_room_in1 hu) (key_of I1.hok hb') dd fun h2 dd' hs=>?_)
   obtain ⟨oo,es2,ep2,g1,g2,g3,g4,_,g5⟩:=dd'
   have I2:Inv X pins σ (upd H p (.dT (putK acc q.1 q.2))) { s with heap:=h2,toks:=s.toks + (tupleKind (mixKind X.prog X.w)).draws q.1 }:=by
    have:=d_write (t':=s.toks + (tupleKind (mixKind X.prog X.w)).draws q.1) (ob:=.dT (putK acc q.1 q.2)) I1 (by rw [upd_same]; exact True.intro) hs ⟨oo,g1⟩ ⟨by omega,hm,_,(rel.put q.1 hb' r2).keeps fun c ys ec=>?_,oo,es2,ep2,g1,g2,g3,g4,g5⟩
    · rw [upd_upd] at this; exact this
    · rw [upd_ne (ne_of ec upd_same (fun z=>nomatch z))]; exact ec
   refine wpAny_pure ⟨plainId_quiet PySem.F.plain_upd_loop _,?_⟩
   have:=ih (pre++[.ref t]) (putK acc q.1 q.2) _ (by rw [List.append_assoc]; exact hl) (by omega) I2 (by rw [List.length_append]; exact st'.at fun o e=>(hs.2 it hpi).trans e) hf hR (n + 1)
   exact this
def rDictOf:List V→Hp→VK→Prop:=fun vs H Q=>∃ l xs ps,vs=[.ref l]∧H l=some (.lst xs)∧xs.length < sizeLine∧PrsAt H xs ps∧∀ p,H p=none→Q (.ref p) (upd H p (.dT (mergeT [] ps)))
theorem call_dictOf (hc:X.calm=true) (hu:X.A.units + 2 < cLine):CallR X (.type "dict") rDictOf:=by
 intro pins s σ H vs us Q I r h
 obtain ⟨l,xs,ps,rfl,hl,hz,hp,q⟩:=h
 obtain ⟨u,rfl,rx⟩:=vals1 r
 cases rx
 have hn:H s.heap.objs.size=none:=I.hok.fresh (Nat.le_refl _)
 refine callType_codes (Q₁:=fun obj s₁=>obj=.ref s.heap.objs.size∧s₁={ s with heap:=s.heap.push { cls:=.type "dict",data:=.dict #[] } }) PySem.F.kt_called_dict (PySem.F.kt_typeCall_dict_1 _) PySem.F.entry_dict_init (kt_code_dict_new _ ⟨rfl,rfl⟩) ?_
 rintro obj s₁ ⟨rfl,rfl⟩
 have I1:=I.laid (a:=s.heap.objs.size) (o:=.dT []) (t':=s.toks) (h':=s.heap.push { cls:=.type "dict",data:=.dict #[] }) (fun _ _ q=>Heap.get?_push_of_some _ q) (Nat.le_refl _) (dt_empty s.heap I.big)
 obtain ⟨z,its,c,rv,e⟩:=(show ObjOk X.prog X.w _ s.heap l (.lst xs) from I.hok l _ hl)
 have e':=Heap.get?_push_of_some { cls:=.type "dict",data:=.dict #[] } e
 have hT:Shared.TypeIs { s with heap:=s.heap.push { cls:=.type "dict",data:=.dict #[] } } (.ref s.heap.objs.size) "dict" := ⟨_,Heap.get?_push_size _ rfl,rfl⟩
 refine ⟨hT,PySem.F.args_dict_init_2 _ _,?_⟩
 unfold Builtin.«dict.__init__»
 refine wpAny_bind ?_
 unfold Builtin.Dict.selfAndRest
 refine wpAny_bind (wpAny_notOrdered_dict hT ?_)
 show wpAny _ _ (pure (s.heap.objs.size,[Value.ref l])) _ _ _
 refine wpAny_pure ?_
 show wpAny _ _ (Builtin.Dict.updateFrom "dict.__init__" s.heap.objs.size (.ref l) [] .none) _ _ _
 unfold Builtin.Dict.updateFrom
 refine wpAny_bind (wpAny_typeOf (T := "list") ⟨_,e',rfl⟩ ?_)
 rw [if_pos (by decide)]
 refine wpAny_bind (keys_miss e' rfl rfl rfl (I.ok.hd hc) fun h1 tk k1=>?_)
 rw [if_pos (show (none:Option Value).isNone=true from rfl)]
 have I2:=I1.kept (t':=tk) k1
 refine wpAny_bind (wpAny_rule (wpAny_bind (wpAny_pyIter_list (s:={ s with heap:=h1,toks:=tk }) ⟨_,k1 _ _ e',rfl,c,rfl⟩ ?_)))
 have I3:=I2.kept (t':=tk) (h':=h1.push { cls:=.type "list_iterator",data:=.fields #[.ref l,.int 0 0] }) fun b o e=>Heap.get?_push_of_some _ e
 obtain ⟨f0,fr⟩:=I2.fpOk (Nat.le_refl h1.objs.size) (I2.hok.fresh (Nat.le_refl _))
 have hne:h1.objs.size≠s.heap.objs.size:=fun z=>by rw [z,upd_same] at f0; cases f0
 refine wpAny_pure ⟨plainId_quiet PySem.F.plain_upd_loop _,upd_loop (A:=X.A.in1) (X:=X) (pins:=pins) (σ:=σ) (l:=l) (H:=H) hu (I.ok.hd hc) hn hne xs ps [] [] _ hp hl (by rw [List.length_nil]; omega) I3 ⟨_,Heap.get?_push_size _ rfl,rfl,rfl⟩ ⟨(upd_ne hne).symm.trans f0,fr⟩ (fun s' I'=>⟨rfl,.ref _,_,I',rfl,q _ hn⟩) 0⟩
end
end L2
namespace L2
open PySem PySem.Spec PyProof.Rows Ord
theorem hu2_of {A:Around} {k:Nat} (hr:Room k A):A.units + 2 < cLine:=Nat.lt_of_le_of_lt (Nat.add_le_add_left (by decide:2≤64) _) hr.units
abbrev keyP (p:Str × Str):List Key:=[.inr p.1,.inr p.2]
theorem PrsAt.tups {H H':Hp} (e:∀ b xs,H b=some (.tup xs)→H' b=some (.tup xs)):∀ {xs:List V} {ps:List (List Key × V)},PrsAt H xs ps→PrsAt H' xs ps:=fun h =>
 Paired.mapP h fun _ _ ⟨t,b,h1,h2,h3⟩=>⟨t,b,h1,e _ _ h2,e _ _ h3⟩
theorem merge_some {k:List Key}:∀ {ps acc:List (List Key × V)},(valV (mergeT acc ps) k).isSome=true↔(valV acc k).isSome=true∨k∈ps.map (·.1)
 | [],acc=>by simp [mergeT]
 | p :: ps,acc=>by
   show (valV (mergeT (putK acc p.1 p.2) ps) k).isSome=true↔_
   rw [merge_some,valV_put,List.map_cons,List.mem_cons]
   by_cases h:k=p.1
   · rw [if_pos h]; simp [h]
   · rw [if_neg h]; simp [h]
def BetD (H:Hp) (p:Addr) (ord:List (Str × Str)):Prop:=∃ kvs,H p=some (.dT kvs)∧∀ a b,(valV kvs (keyP (a,b))).isSome=dec ((a,b)∈ord)
theorem bet_dict {ord:List (Str × Str)} (a b:Str):(valV (mergeT [] (ord.map fun p=>(keyP p,V.bl true))) (keyP (a,b))).isSome=dec ((a,b)∈ord):=by
 have : (valV (mergeT [] (ord.map fun p => (keyP p, V.bl true))) (keyP (a, b))).isSome = true ↔ (a, b) ∈ ord := by
  rw [merge_some]
  constructor
  · rintro (h | h)
    · simp [valV] at h
    · rw [List.map_map] at h
      obtain ⟨q,hq,e⟩:=List.mem_map.mp h
      obtain ⟨q1,q2⟩:=q
      simp at e
      rw [←e.1,←e.2]; exact hq
  · intro h
    refine .inr ?_
    rw [List.map_map]
    exact List.mem_map.mpr ⟨_,h,rfl⟩
 by_cases h:(a,b)∈ord
 · rw [dec_true h]; exact this.mpr h
 · rw [dec_false h]
   cases e:(valV (mergeT [] (ord.map fun p=>(keyP p,V.bl true))) (keyP (a,b))).isSome with
   | false=>rfl
   | true=>exact absurd (this.mp e) h
end L2
namespace L2
open PySem PySem.Spec PyProof.Rows
section
variable {X:Cx}
def stepIx (l:Option Int) (n:Nat):List Nat:=sliceRange (sliceBounds l none (some 2) n).1 (sliceBounds l none (some 2) n).2.1 (sliceBounds l none (some 2) n).2.2
theorem vals_pick {xs:List V} {its:List Value} (r:Vals xs its):∀ ix:List Nat,Vals (ix.filterMap (xs[·]?)) (ix.filterMap (its[·]?))
 | []=>.nil
 | i :: ix => by
   have ih:=vals_pick r ix
   have hl:=r.length
   by_cases h:i < xs.length
   · have h':i < its.length:=by omega
     rw [List.filterMap_cons_some (List.getElem?_eq_getElem h),List.filterMap_cons_some (List.getElem?_eq_getElem h')]
     refine .cons ?_ ih
     have:=paired_at r i xs[i] its[i] h
     rwa [List.getD_eq_getElem?_getD,List.getElem?_eq_getElem h,List.getD_eq_getElem?_getD,List.getElem?_eq_getElem h'] at this
   · rw [List.filterMap_cons_none (List.getElem?_eq_none (by omega)),List.filterMap_cons_none (List.getElem?_eq_none (by omega))]
     exact ih
def tStep (K:PySem.W.Frag) (te:TE) (tl:TO) (ts:TE):TE:=fun σ H Q=>te σ H fun x H1=>tl σ H1 fun l H1'=>ts σ H1' fun y H2=>∃ (a:Addr) (xs:List V),x=.ref a∧y=.int 2∧SqL K H2 a xs∧(stepIx l xs.length).length≤sizeLine∧∀ p,H2 p=none→Q (.ref p) (upd H2 p (.lst ((stepIx l xs.length).filterMap (xs[·]?))))
theorem pe_step {e st:Expr} {lo:Option Expr} {te ts:TE} {tl:TO} {p2 pos:Pos} (he:PE X e te) (hl:PO X lo tl) (hst:PE X st ts):PE X (.Subscript e (.Slice lo none (some st) p2) pos) (tStep X.K te tl ts):=by
 intro pins s σ H Q I h
 refine Subscript_ (thn (he pins s σ H _ I h) fun v s1 ⟨x,H1,I1,r1,q1⟩=>?_)
 refine wpAny_Slice (thn (hl pins s1 σ H1 _ I1 q1) fun vl s2 ⟨l,H2,I2,pl,q2⟩=>thn (po_none pins s2 σ H2 _ I2 (show tNoPart σ H2 (fun l H3=>l=none∧H3=H2) from ⟨rfl,rfl⟩)) fun vu s3 ⟨u,H3,I3,pu,eu,eH'⟩=>?_)
 subst eu; subst eH'
 rw [evalPart_some]
 refine thn (hst pins s3 σ _ _ I3 q2) fun vst s4 ⟨y,H4,I4,ry,a,xs,ex,ey,hx,hb,q4⟩=>?_
 subst ex; subst ey
 obtain ⟨tk,rfl⟩:=ry
 cases r1
 have I5:Inv X pins σ H4 { s4 with heap:=s4.heap.push { cls:=.type "slice",data:=.fields #[vl,vu,.int 2 tk] } }:=I4.kept (t':=s4.toks) fun b ob q=>Heap.get?_push_of_some _ q
 obtain ⟨its,r,ht,hz⟩:=I5.list hx
 have hlen:=r.length
 refine tail_any (ops:=[.ref a,.ref s4.heap.objs.size]) ht.isList.typeIs slot_list_getitem.lookup ?_ (by with_unfolding_all rfl)
 refine wpAny_getItem_list_slice ht.isList (Heap.IsSliceOf.new ..) pl pu (.int 2 tk) (by simp) ?_ (by rw [List.size_toArray] <;> omega)
 have ep:slicePick its.toArray l none (some 2)=((stepIx l xs.length).filterMap (its[·]?)).toArray:=by
  unfold slicePick stepIx
  rw [hlen,List.size_toArray]
  congr 1
  refine congrArg (fun f=>List.filterMap f _) (funext fun i=>?_)
  simp
 rw [ep]
 refine ⟨.ref _,_,I5.laid (t':=s4.toks) (o:=.lst ((stepIx l xs.length).filterMap (xs[·]?))) (fun b ob q=>Heap.get?_push_of_some _ q) (Nat.le_refl _) ?_,rfl,q4 _ (I5.hok.fresh (Nat.le_refl _))⟩
 exact ⟨Nat.le_trans (List.length_filterMap_le _ _) hb,_,0,vals_pick r _,Heap.get?_push_size _ rfl⟩
end
theorem stepIx_len:∀ n,n < 42→(stepIx none n).length≤1000∧(stepIx (some 1) n).length≤1000:=by decide +kernel
theorem stepIx_perm:∀ n,n < 42→(stepIx none n++(stepIx (some 1) n).reverse).Perm (List.range n):=by decide +kernel
theorem range_pick {α:Type}:∀ ls:List α,(List.range ls.length).filterMap (ls[·]?)=ls
 | []=>rfl
 | a :: l=>by
   have ih:=range_pick l
   rw [List.length_cons,List.range_succ_eq_map,List.filterMap_cons_some (show (a :: l)[0]?=some a from rfl),List.filterMap_map]
   have e:((fun x=>(a :: l)[x]?) ∘ Nat.succ)=(fun x:Nat=>l[x]?):=funext fun x=>rfl
   rw [e,ih]
theorem pick_map {α β:Type} (f:α→β) (ls:List α) (ix:List Nat):ix.filterMap ((ls.map f)[·]?)=(ix.filterMap (ls[·]?)).map f:=by
 rw [List.map_filterMap]
 refine congrArg (fun g=>List.filterMap g ix) (funext fun i=>?_)
 rw [List.getElem?_map]
end L2
namespace Ord
section
variable {α:Type} [DecidableEq α]
theorem atP_inj {ls:List α} (nd:ls.Nodup) {i j:Nat} {x:α} (h1:ls[i]?=some x) (h2:ls[j]?=some x):i=j:=by
 obtain ⟨a,e1⟩:=List.getElem?_eq_some_iff.mp h1
 obtain ⟨b,e2⟩:=List.getElem?_eq_some_iff.mp h2
 exact (List.getElem_inj nd).mp (e1.trans e2.symm)
def NbrsP (ls:List α) (ps:List (α × α)):Prop:=∀ x y,(x,y)∈ps↔∃ k,ls[k]?=some x∧ls[k + 1]?=some y
theorem row_path {ls:List α} {ps:List (α × α)} (nd:ls.Nodup) (h:NbrsP ls ps) {x y:α}:Path ps x y↔∃ i j:Nat,i < j∧ls[i]?=some x∧ls[j]?=some y:=by
 constructor
 · intro p
   induction p with
   | one e =>
     obtain ⟨k,a,b⟩:=(h _ _).mp e
     exact ⟨k,k + 1,Nat.lt_succ_self k,a,b⟩
   | snoc p e ih =>
     obtain ⟨i,j,hij,a,b⟩:=ih
     obtain ⟨k,c,d⟩:=(h _ _).mp e
     rw [atP_inj nd c b] at d
     exact ⟨i,j + 1,by omega,a,d⟩
 · rintro ⟨i,j,hij,a,b⟩
   obtain ⟨d,rfl⟩:∃ d,j=i + 1 + d:=⟨j - i - 1,by omega⟩
   clear hij
   induction d generalizing y with
   | zero=>exact .one ((h _ _).mpr ⟨i,a,b⟩)
   | succ d ih =>
     have hl:i + 1 + (d + 1) < ls.length:=(List.getElem?_eq_some_iff.mp b).1
     have hm:ls[i + 1 + d]?=some (ls[i + 1 + d]'(by omega)):=List.getElem?_eq_getElem (by omega)
     exact .snoc (ih hm) ((h _ _).mpr ⟨i + 1 + d,hm,b⟩)
theorem row_ring {ls:List α} {ps:List (α × α)} (nd:ls.Nodup) (h:NbrsP ls ps) (x:α):¬ Path ps x x:=fun p=>by
 obtain ⟨i,j,hij,a,b⟩:=(row_path nd h).mp p
 have:=atP_inj nd a b
 omega
theorem row_chain {ls:List α} {ps:List (α × α)} (nd:ls.Nodup) (h:NbrsP ls ps) {x y:α} {c:List α} (C:Chain ps x y c) (hx:ls[0]?=some x) (hy:ls[ls.length - 1]?=some y):c=ls:=by
 have key:∀ k,k < c.length→c[k]?=ls[k]?:=by
  intro k
  induction k with
  | zero=>intro _; rw [C.hd,hx]
  | succ k ih =>
    intro hk
    have ih:=ih (by omega)
    have e1:c[k]?=some (c[k]'(by omega)):=List.getElem?_eq_getElem (by omega)
    have e2:c[k + 1]?=some c[k + 1]:=List.getElem?_eq_getElem hk
    obtain ⟨m,a,b⟩:=(h _ _).mp (C.link k _ _ e1 e2)
    have:m=k:=atP_inj nd a (by rw [←ih]; exact e1)
    rw [this] at b
    rw [e2,b]
 have h2:=C.two
 have hl:=C.lst
 rw [key _ (by omega)] at hl
 have e:c.length - 1=ls.length - 1:=atP_inj nd hl hy
 have hn:0 < ls.length:=(List.getElem?_eq_some_iff.mp hx).1
 have e':c.length=ls.length:=by omega
 refine List.ext_getElem? fun k=>?_
 by_cases hk:k < c.length
 · exact key k hk
 · rw [List.getElem?_eq_none (by omega),List.getElem?_eq_none (by omega)]
def BackP (ls:List α) (o:Nat) (qs:List (α × α)):Prop:=∀ x y,(x,y)∈qs↔(∃ k,ls[k]?=some x∧ls[k + 1]?=some y)∨(ls[ls.length - 1]?=some x∧ls[o]?=some y)
def sucP (n o k:Nat):Nat:=if k + 1 < n then k + 1 else o
def walkP (n o:Nat):Nat→Nat→Nat
 | i,0=>i
 | i,k + 1=>sucP n o (walkP n o i k)
theorem back_next {ls:List α} {o:Nat} {qs:List (α × α)} (nd:ls.Nodup) (h:BackP ls o qs) {i:Nat} {x y:α} (hx:ls[i]?=some x) (e:(x,y)∈qs):ls[sucP ls.length o i]?=some y:=by
 have hi:i < ls.length:=(List.getElem?_eq_some_iff.mp hx).1
 rcases (h _ _).mp e with ⟨k,a,b⟩ | ⟨a,b⟩
 · have hk:=atP_inj nd a hx
   subst hk
   have:k + 1 < ls.length:=(List.getElem?_eq_some_iff.mp b).1
   unfold sucP
   rw [if_pos this]; exact b
 · have:=atP_inj nd a hx
   unfold sucP
   rw [if_neg (by omega)]; exact b
theorem walkP_at {n o i:Nat} (hi:i < n) (ho:o≤i):∀ k,walkP n o i k=o + (i - o + k) % (n - o)
 | 0=>by
   show i=_
   rw [Nat.add_zero,Nat.mod_eq_of_lt (by omega)]; omega
 | k + 1 => by
   show sucP n o (walkP n o i k)=_
   rw [walkP_at hi ho k]
   have hm:0 < n - o:=by omega
   have l1:=Nat.mod_lt (i - o + k) hm
   unfold sucP
   by_cases c:o + (i - o + k) % (n - o) + 1 < n
   · rw [if_pos c,←Nat.add_assoc,Nat.add_mod (i - o + k) 1]
     by_cases c1:n - o=1
     · omega
     · rw [Nat.mod_eq_of_lt (show 1 < n - o by omega),Nat.mod_eq_of_lt (show (i - o + k) % (n - o) + 1 < n - o by omega)]
       omega
   · rw [if_neg c]
     have e:(i - o + k) % (n - o)=n - o - 1:=by omega
     have:(i - o + (k + 1)) % (n - o)=0:=by
      rw [←Nat.add_assoc,Nat.add_mod,e]
      by_cases c1:n - o=1
      · rw [c1]
      · rw [Nat.mod_eq_of_lt (show 1 < n - o by omega),show n - o - 1 + 1=n - o by omega,Nat.mod_self]
     rw [this]; rfl
theorem walkP_low {n o i:Nat} (ho:i < o):∀ k,i < walkP n o i (k + 1)
 | 0=>by
   show i < sucP n o i
   unfold sucP; split <;> omega
 | k + 1=>by
   have:=walkP_low (n:=n) ho k
   show i < sucP n o (walkP n o i (k + 1))
   unfold sucP; split <;> omega
theorem back_walk {ls:List α} {o:Nat} {qs:List (α × α)} (nd:ls.Nodup) (h:BackP ls o qs) {c:List α} (hc:Links qs c) {i:Nat} (h0:c[0]?=ls[i]?) (hi:i < ls.length):∀ k,k < c.length→c[k]?=ls[walkP ls.length o i k]?
 | 0,_=>h0
 | k + 1,hk=>by
   have ih:=back_walk nd h hc h0 hi k (by omega)
   have e1:c[k]?=some (c[k]'(by omega)):=List.getElem?_eq_getElem (by omega)
   have e2:c[k + 1]?=some c[k + 1]:=List.getElem?_eq_getElem hk
   have:=back_next nd h (i:=walkP ls.length o i k) (by rw [←ih]; exact e1) (hc k _ _ e1 e2)
   rw [e2,←this]; rfl
theorem back_ring {ls:List α} {o:Nat} {qs:List (α × α)} (nd:ls.Nodup) (h:BackP ls o qs) (ho:o < ls.length) {c:List α} (hn:0 < c.length) (hc:Links qs c) (hcl:∀ x y,c[c.length - 1]?=some x→c[0]?=some y→(x,y)∈qs) (hnd:c.Nodup) {i:Nat} (hi:i < ls.length) (h0:c[0]?=ls[i]?):o≤i∧c.length=ls.length - o∧c=(ls.drop o).drop (i - o)++(ls.drop o).take (i - o):=by
 have W:=back_walk nd h hc h0 hi
 have el:c[c.length - 1]?=some (c[c.length - 1]'(by omega)):=List.getElem?_eq_getElem (by omega)
 have e0:c[0]?=some c[0]:=List.getElem?_eq_getElem hn
 have wl:=back_next nd h (i:=walkP ls.length o i (c.length - 1)) (by rw [←W _ (by omega)]; exact el) (hcl _ _ el e0)
 have back:walkP ls.length o i c.length=i:=by
  have:ls[walkP ls.length o i (c.length - 1 + 1)]?=some c[0]:=wl
  rw [show c.length - 1 + 1=c.length by omega] at this
  exact atP_inj nd this (by rw [←h0]; exact e0)
 have hoi:o≤i:=by
  rcases Nat.lt_or_ge i o with z | z
  · have:=walkP_low (n:=ls.length) z (c.length - 1)
    rw [show c.length - 1 + 1=c.length by omega,back] at this
    omega
  · exact z
 have hm:0 < ls.length - o:=by omega
 rw [walkP_at hi hoi] at back
 have hlen:c.length=ls.length - o:=by
  have e:(i - o + c.length) % (ls.length - o)=i - o:=by omega
  have le:c.length≤ls.length - o:=by
   rcases Nat.lt_or_ge (ls.length - o) c.length with z | z
   · have w1:=W (ls.length - o) z
     rw [walkP_at hi hoi,Nat.add_mod_right,Nat.mod_eq_of_lt (show i - o < ls.length - o by omega),show o + (i - o)=i by omega,←h0] at w1
     have e1:c[ls.length - o]?=some (c[ls.length - o]):=List.getElem?_eq_getElem z
     have:=atP_inj hnd e1 (by rw [←w1]; exact e1)
     omega
   · exact z
  rcases Nat.lt_or_ge c.length (ls.length - o) with z | z
  · rcases Nat.lt_or_ge (i - o + c.length) (ls.length - o) with y | y
    · rw [Nat.mod_eq_of_lt y] at e; omega
    · rw [Nat.mod_eq_sub_mod y,Nat.mod_eq_of_lt (by omega)] at e; omega
  · omega
 refine ⟨hoi,hlen,List.ext_getElem? fun k=>?_⟩
 by_cases hk:k < c.length
 · rw [W k hk,walkP_at hi hoi]
   rcases Nat.lt_or_ge k (ls.length - i) with z | z
   · rw [Nat.mod_eq_of_lt (by omega),List.getElem?_append_left (by simp; omega),List.getElem?_drop,List.getElem?_drop]
     try (congr 1 <;> (try omega))
   · rw [Nat.mod_eq_sub_mod (by omega),Nat.mod_eq_of_lt (by omega),List.getElem?_append_right (by simp; omega),List.getElem?_take_of_lt (by simp; omega),List.getElem?_drop]
     try (congr 1 <;> simp <;> (try omega))
 · rw [List.getElem?_eq_none (by omega),List.getElem?_eq_none (by simp; omega)]
theorem back_no {ls:List α} {o:Nat} {qs:List (α × α)} (nd:ls.Nodup) (h:BackP ls o qs) {i:Nat} (hi:i < o) {x y:α} (hx:ls[i]?=some x) (p:Path qs x y):∃ j,i < j∧ls[j]?=some y:=by
 induction p with
 | one e =>
   refine ⟨_,?_,back_next nd h hx e⟩
   unfold sucP; split <;> omega
 | snoc p e ih =>
   obtain ⟨j,hj,b⟩:=ih
   refine ⟨_,?_,back_next nd h b e⟩
   unfold sucP; split <;> omega
theorem back_yes {ls:List α} {o:Nat} {qs:List (α × α)} (h:BackP ls o qs) {i:Nat} (ho:o≤i) {x:α} (hx:ls[i]?=some x):Path qs x x:=by
 have hi:i < ls.length:=(List.getElem?_eq_some_iff.mp hx).1
 have up:∀ d i x y,ls[i]?=some x→ls[i + 1 + d]?=some y→Path qs x y:=by
  intro d
  induction d with
  | zero=>exact fun i x y a b=>.one ((h _ _).mpr (.inl ⟨i,a,b⟩))
  | succ d ih =>
    intro i x y a b
    have hl:i + 1 + (d + 1) < ls.length:=(List.getElem?_eq_some_iff.mp b).1
    have hm:ls[i + 1 + d]?=some (ls[i + 1 + d]'(by omega)):=List.getElem?_eq_getElem (by omega)
    exact .snoc (ih i x _ a hm) ((h _ _).mpr (.inl ⟨i + 1 + d,hm,b⟩))
 have el:ls[ls.length - 1]?=some (ls[ls.length - 1]'(by omega)):=List.getElem?_eq_getElem (by omega)
 have eo:ls[o]?=some (ls[o]'(by omega)):=List.getElem?_eq_getElem (by omega)
 have lo:Path qs (ls[ls.length - 1]'(by omega)) (ls[o]'(by omega)):=.one ((h _ _).mpr (.inr ⟨el,eo⟩))
 have p1:Path qs x (ls[o]'(by omega)):=by
  rcases Nat.lt_or_ge i (ls.length - 1) with z | z
  · exact (up (ls.length - 1 - i - 1) i x _ hx (by rw [show i + 1 + (ls.length - 1 - i - 1)=ls.length - 1 by omega]; exact el)).trans lo
  · have:i=ls.length - 1:=by omega
    subst this
    rw [el] at hx; cases hx
    exact lo
 rcases Nat.lt_or_ge o i with z | z
 · exact p1.trans (up (i - o - 1) o _ x eo (by rw [show o + 1 + (i - o - 1)=i by omega]; exact hx))
 · have:o=i:=by omega
   subst this
   rw [eo] at hx; cases hx
   exact p1
end
end Ord
abbrev L2.SF (n:List (PySem.Str × PySem.NameKind)):PySem.Scope:={ kind:=.function,names:=n,isGenerator:=false,isCoroutine:=false,more:=[] }
theorem L2.new_at {H:L2.Hp} {a:PySem.Addr} {o:L2.HO} (h:H a=none):∃ H':L2.Hp,H'=L2.upd H a o∧L2.Same H H'∧H' a=some o:=⟨_,rfl,L2.same_new h,L2.upd_same⟩
theorem L2.getm {α β:Type} {f:α→β} {l:List α} {i:Nat} {x:β} (h:(l.map f)[i]?=some x):∃ z,l[i]?=some z∧f z=x:=by
 rw [List.getElem?_map] at h
 exact Option.map_eq_some_iff.mp h
namespace K09
open PySem PySem.Spec PyProof.Rows L2 Ord
local macro_rules | `(tactic| trivial) => `(tactic| exact ⟨rfl, rfl, rfl, by decide +kernel, rfl, by decide +kernel, by decide +kernel⟩)
local macro_rules | `(tactic| trivial) => `(tactic| exact ⟨rfl, by decide +kernel, by decide +kernel, by decide +kernel, rfl, by decide +kernel, by decide +kernel⟩)
def top (i:Nat):Stmt:=PySem.Challenge.pw_namepaths_k09_long_chains.main.body.getD i (.Pass ⟨0,0,0,0⟩)
def inCls:Stmt→Nat→Stmt
 | .ClassDef _ _ _ body _ _ _ _ _ _ _,j=>body.getD j (.Pass ⟨0,0,0,0⟩)
 | s,_=>s
abbrev s__law_cell_at:Stmt:=top 36
theorem sc__law_cell_at:FnScope ["_law_script", "_law_k"] ["_law_script", "_law_k"] (defScope s__law_cell_at):=by trivial
abbrev s__law_turned:Stmt:=top 38
theorem sc__law_turned:FnScope ["_law_labels_here", "_law_cell", "_law_turn"] ["_law_labels_here", "_law_cell"] (defScope s__law_turned):=by trivial
abbrev s__law_labels:Stmt:=top 37
theorem sc__law_labels:FnScope ["_law_cell", "_law_many", "_law_letters", "_law_number", "_law_base", "_law_put", "_law_labels_here", "_law_k", "_law_at", "_law_both"] ["_law_cell", "_law_many"] (defScope s__law_labels):=by trivial
theorem _law_labels_cs1:CompScope (defScope s__law_labels) ["_law_cell", "_law_many", "_law_letters", "_law_number", "_law_base", "_law_put", "_law_labels_here", "_law_k", "_law_at", "_law_both"] (SF [ (".0",.local),("_law_k",.local),("_law_letters",.free),("_law_number",.free)]) ["_law_k", "_law_letters", "_law_number"] 1 [2,3]:=by trivial
abbrev s__law_pairs:Stmt:=top 39
theorem sc__law_pairs:FnScope ["_law_labels_here", "_law_script", "_law_pairs_here", "_law_k", "_law_cell"] ["_law_labels_here", "_law_script"] (defScope s__law_pairs):=by trivial
abbrev s__law_all:Stmt:=top 40
theorem sc__law_all:FnScope ["_law_labels_here", "_law_found", "_law_k", "_law_j"] ["_law_labels_here"] (defScope s__law_all):=by trivial
abbrev s_refuse_too_great:Stmt:=top 27
theorem sc_refuse_too_great:FnScope ["states", "pairs", "goes", "ends"] ["states", "pairs"] (defScope s_refuse_too_great):=by trivial
abbrev s_labels_of:Stmt:=top 30
theorem sc_labels_of:FnScope ["goes"] ["goes"] (defScope s_labels_of):=by trivial
theorem labels_of_cs1:CompScope (defScope s_labels_of) ["goes"] (SF [ (".0",.local),("label",.local),("number",.local)]) ["label", "number"] 2 []:=by trivial
abbrev s_labels_told:Stmt:=top 29
theorem sc_labels_told:FnScope ["states", "pairs", "labels", "goes", "ends", "better", "worse"] ["states", "pairs"] (defScope s_labels_told):=by trivial
abbrev s_is_name:Stmt:=top 19
theorem sc_is_name:FnScope ["thing"] ["thing"] (defScope s_is_name):=by trivial
theorem is_name_cs1:CompScope (defScope s_is_name) ["thing"] (SF [(".0",.local),("sign",.local)]) ["sign"] 1 []:=by trivial
abbrev s_refuse_no_names:Stmt:=top 28
theorem sc_refuse_no_names:FnScope ["states", "pairs", "label"] ["states", "pairs"] (defScope s_refuse_no_names):=by trivial
abbrev s_is_whole:Stmt:=top 18
theorem sc_is_whole:FnScope ["thing"] ["thing"] (defScope s_is_whole):=by trivial
abbrev s_is_place:Stmt:=top 20
theorem sc_is_place:FnScope ["number", "many"] ["number", "many"] (defScope s_is_place):=by trivial
abbrev s_refuse_no_places:Stmt:=top 31
theorem sc_refuse_no_places:FnScope ["states", "inner", "goes", "ends", "label", "number"] ["states", "inner"] (defScope s_refuse_no_places):=by trivial
abbrev s_is_one_twice:Stmt:=top 33
theorem sc_is_one_twice:FnScope ["labels"] ["labels"] (defScope s_is_one_twice):=by trivial
abbrev s_refuse_twice:Stmt:=top 32
theorem sc_refuse_twice:FnScope ["states", "goes", "ends"] ["states"] (defScope s_refuse_twice):=by trivial
abbrev s_worse_by_better:Stmt:=top 14
theorem sc_worse_by_better:FnScope ["pairs", "worse_labels", "better", "worse"] ["pairs"] (defScope s_worse_by_better):=by trivial
abbrev s_reached:Stmt:=top 15
theorem sc_reached:FnScope ["worse_labels", "start", "came_from", "layer", "further", "better", "worse"] ["worse_labels", "start"] (defScope s_reached):=by trivial
abbrev s_all_that_follows:Stmt:=top 13
theorem sc_all_that_follows:FnScope ["pairs", "worse_labels", "order", "better", "worse"] ["pairs"] (defScope s_all_that_follows):=by trivial
abbrev s_own_lists:Stmt:=top 1
theorem sc_own_lists:FnScope ["thing"] ["thing"] (defScope s_own_lists):=by trivial
theorem own_lists_cs1:CompScope (defScope s_own_lists) ["thing"] (SF [ (".0",.local),("part",.local),("own_lists",.globalImplicit)]) ["part"] 1 []:=by trivial
theorem own_lists_cs2:CompScope (defScope s_own_lists) ["thing"] (SF [ (".0",.local),("part",.local),("own_lists",.globalImplicit)]) ["part"] 1 []:=by trivial
abbrev s_Ring__init__:Stmt:=inCls (top 8) 0
theorem sc_Ring__init__:FnScope ["self", "ring"] ["self", "ring"] (defScope s_Ring__init__):=by trivial
abbrev s_chain:Stmt:=top 11
theorem sc_chain:FnScope ["pairs", "one", "other", "came_from", "labels", "label"] ["pairs", "one", "other"] (defScope s_chain):=by trivial
abbrev s_order_of:Stmt:=top 10
theorem sc_order_of:FnScope ["pairs", "order", "better", "worse"] ["pairs"] (defScope s_order_of):=by trivial
abbrev s_sorted_state:Stmt:=top 34
theorem sc_sorted_state:FnScope ["goes", "ends"] ["goes", "ends"] (defScope s_sorted_state):=by trivial
theorem sorted_state_cs1:CompScope (defScope s_sorted_state) ["goes", "ends"] (SF [ (".0",.local),("label",.local),("number",.local)]) ["label", "number"] 2 []:=by trivial
abbrev s_table_of:Stmt:=top 26
theorem sc_table_of:FnScope ["states", "inner", "pairs", "order"] ["states", "inner", "pairs"] (defScope s_table_of):=by trivial
theorem table_of_cs1:CompScope (defScope s_table_of) ["states", "inner", "pairs", "order"] (SF [ (".0",.local),("goes",.local),("ends",.local),("sorted_state",.globalImplicit)]) ["goes", "ends"] 2 []:=by trivial
abbrev s__law_same:Stmt:=top 41
theorem sc__law_same:FnScope ["_law_found", "_law_due", "_law_pair", "_law_other"] ["_law_found", "_law_due"] (defScope s__law_same):=by trivial
abbrev s_judge:Stmt:=top 12
theorem sc_judge:FnScope ["pairs", "known", "is_better"] ["pairs"] (defScope s_judge):=by trivial
theorem judge_cs1:CompScope (defScope s_judge) ["pairs", "known", "is_better"] (SF [(".0",.local),("pair",.local)]) ["pair"] 1 []:=by trivial
abbrev s__law_is_round:Stmt:=top 43
theorem sc__law_is_round:FnScope ["_law_ring", "_law_labels_here", "_law_turn"] ["_law_ring", "_law_labels_here"] (defScope s__law_is_round):=by trivial
abbrev s__law_ring_of:Stmt:=top 42
theorem sc__law_ring_of:FnScope ["_law_pairs_here", "_law_error", "e"] ["_law_pairs_here"] (defScope s__law_ring_of):=by trivial
abbrev s_law:Stmt:=top 44
theorem sc_law:FnScope ["_law_script", "_law_many", "_law_labels_here", "_law_pairs_here", "_law_handed", "_law_rows", "_law_table", "_law_told", "_law_one", "_law_other", "_law_due"] ["_law_script"] (defScope s_law):=by trivial
structure Blt (mg:Str→Option Value):Prop where
 b_all:mg "all" = none
 b_bool:mg "bool" = none
 b_dict:mg "dict" = none
 b_int:mg "int" = none
 b_isinstance:mg "isinstance" = none
 b_len:mg "len" = none
 b_list:mg "list" = none
 b_range:mg "range" = none
 b_set:mg "set" = none
 b_sorted:mg "sorted" = none
 b_str:mg "str" = none
 b_tuple:mg "tuple" = none
 b_zip:mg "zip" = none
 c_LONGEST_NAME:∃ t,mg "LONGEST_NAME" = some (.int 8 t)
 c_MOST_ENDS:∃ t,mg "MOST_ENDS" = some (.int 8 t)
 c_MOST_GOES:∃ t,mg "MOST_GOES" = some (.int 8 t)
 c_MOST_PAIRS:∃ t,mg "MOST_PAIRS" = some (.int 40 t)
 c_MOST_STATES:∃ t,mg "MOST_STATES" = some (.int 8 t)
structure Ers (K:PySem.W.Frag) (mg:Str→Option Value):Prop where
 e_PathError:mg "PathError" = some (.ref (clsA K "PathError"))
 e_Ring:mg "Ring" = some (.ref (clsA K "Ring"))
 ci_PathError:ClsAt K (clsA K "PathError") "__init__" (.builtin "ValueError.__init__")
 kp_Ring:PySem.W.keepIn K (.ref (clsA K "Ring"))=true
 xf_Ring:XForm K (clsA K "Ring")
 xi_Ring:∃ f,PySem.W.xIn K (clsA K "Ring") f=true
 hd_Ring:PySem.W.hasDictIn K (clsA K "Ring")=true
 sa_Ring:PySem.W.findIn K (.ref (clsA K "Ring")) "__setattr__" = some (some (.builtin "object.__setattr__"))
 na_Ring_ring:PySem.W.findIn K (.ref (clsA K "Ring")) "ring" = some none
 d_Ring:ExcCl K (clsA K "Ring")
 v_Ring:AskC K (clsA K "Ring") (.type "ValueError") true
 s_Ring_Ring:L2.subIn K (clsA K "Ring") (clsA K "Ring")=true
theorem len_1 {us:List Value} (h:us.length=1):∃ x0,us=[x0]:=by
 cases us with
 | nil=>cases h
 | cons x0 t=>exact ⟨x0,by rw [List.length_eq_zero_iff.mp (Nat.succ.inj h)]⟩
theorem len_2 {us:List Value} (h:us.length=2):∃ x0 x1,us=[x0,x1]:=by
 cases us with
 | nil=>cases h
 | cons x0 t =>
   obtain ⟨x1,rfl⟩:=len_1 (Nat.succ.inj h)
   exact ⟨x0,x1,rfl⟩
theorem len_3 {us:List Value} (h:us.length=3):∃ x0 x1 x2,us=[x0,x1,x2]:=by
 cases us with
 | nil=>cases h
 | cons x0 t =>
   obtain ⟨x1,x2,rfl⟩:=len_2 (Nat.succ.inj h)
   exact ⟨x0,x1,x2,rfl⟩
theorem len_4 {us:List Value} (h:us.length=4):∃ x0 x1 x2 x3,us=[x0,x1,x2,x3]:=by
 cases us with
 | nil=>cases h
 | cons x0 t =>
   obtain ⟨x1,x2,x3,rfl⟩:=len_3 (Nat.succ.inj h)
   exact ⟨x0,x1,x2,x3,rfl⟩
theorem len_5 {us:List Value} (h:us.length=5):∃ x0 x1 x2 x3 x4,us=[x0,x1,x2,x3,x4]:=by
 cases us with
 | nil=>cases h
 | cons x0 t =>
   obtain ⟨x1,x2,x3,x4,rfl⟩:=len_4 (Nat.succ.inj h)
   exact ⟨x0,x1,x2,x3,x4,rfl⟩
theorem len_6 {us:List Value} (h:us.length=6):∃ x0 x1 x2 x3 x4 x5,us=[x0,x1,x2,x3,x4,x5]:=by
 cases us with
 | nil=>cases h
 | cons x0 t =>
   obtain ⟨x1,x2,x3,x4,x5,rfl⟩:=len_5 (Nat.succ.inj h)
   exact ⟨x0,x1,x2,x3,x4,x5,rfl⟩
theorem len_7 {us:List Value} (h:us.length=7):∃ x0 x1 x2 x3 x4 x5 x6,us=[x0,x1,x2,x3,x4,x5,x6]:=by
 cases us with
 | nil=>cases h
 | cons x0 t =>
   obtain ⟨x1,x2,x3,x4,x5,x6,rfl⟩:=len_6 (Nat.succ.inj h)
   exact ⟨x0,x1,x2,x3,x4,x5,x6,rfl⟩
theorem len_8 {us:List Value} (h:us.length=8):∃ x0 x1 x2 x3 x4 x5 x6 x7,us=[x0,x1,x2,x3,x4,x5,x6,x7]:=by
 cases us with
 | nil=>cases h
 | cons x0 t =>
   obtain ⟨x1,x2,x3,x4,x5,x6,x7,rfl⟩:=len_7 (Nat.succ.inj h)
   exact ⟨x0,x1,x2,x3,x4,x5,x6,x7,rfl⟩
section
set_option maxHeartbeats 4000000
seal L2.PE L2.PA L2.PS L2.PSs L2.PT L2.PW L2.PC L2.PG L2.PGs L2.PI L2.PF L2.PSet L2.OpR L2.UnR L2.CallR L2.MtR L2.IxR L2.SlR L2.PO
variable {P:Program} {w:World} {K:PySem.W.Frag} {mg:Str→Option Value} {base:Heap} {f:Addr} {fd:FuncData}
theorem cell_some {ns:List Int} {k:Int} (hk:0≤k) (hlt:k < ns.length):atI (ns.map V.int) k=some (V.int (cellAt ns k)):=by
 obtain ⟨n,rfl⟩:=Int.eq_ofNat_of_zero_le hk
 have hn:n < ns.length:=by omega
 refine atI_nat ?_
 rw [List.getElem?_map,List.getElem?_eq_getElem hn]
 show some (V.int ns[n])=some (V.int ((ns[((n:Int)).toNat]?).getD 0))
 rw [Int.toNat_natCast,List.getElem?_eq_getElem hn]
 rfl
theorem cell_none {ns:List Int} {k:Int} (hk:0≤k) (hlt:¬ k < ns.length):cellAt ns k=0:=by
 unfold cellAt
 rw [List.getElem?_eq_none (by omega)]
 rfl
def sp__law_cell_at (K:PySem.W.Frag):Sp:=fun vs H Q _=>∃ a ns k,vs=[.ref a,.int k]∧0≤k∧SqL K H a (ns.map V.int)∧Q (.int (cellAt ns k)) H
theorem ok__law_cell_at (B:Blt mg) (ER:Ers K mg)  (F:Fun K "_law_cell_at" "_law_cell_at" s__law_cell_at f fd):FnOk P w K mg base CX0 1 f fd ["_law_script", "_law_k"] (sp__law_cell_at K):=by
 refine F.ok sc__law_cell_at (fun vs H Q E h=>?_) (fun cdv A outer s H vs Q E hr h=>?_)
 · obtain ⟨a,ns,k,rfl,_⟩:=h
   rfl
 · obtain ⟨a,ns,k,rfl,hk,hS,q⟩:=h
   refine ⟨_,(pss_cons (ps_if (pt_cmpR op_lt (pv 1) (pe_callB call_len B.b_len (pa_cons (pv 0) pa_nil)) (nomark _)) (pss_one (ps_ret (pe_ix ix_seq (pv 0) (pv 1)))) pss_nil)
    (pss_one (ps_ret pe_int))),?_⟩
   refine ⟨_,rfl,_,rfl,_,_,rfl,Or.inl ⟨_,hS,rfl⟩,_,_,rfl,rfl,_,rfl,?_⟩
   rw [List.length_map]
   refine ite2 (fun hlt=>?_) (fun hge=>?_)
   · have hlt:=of_decide_eq_true hlt
     exact ⟨_,rfl,_,rfl,Or.inl ⟨_,_,_,_,rfl,rfl,hS,cell_some hk hlt,q⟩⟩
   · have hge:¬ k < (ns.length:Int):=fun z=>hge (decide_eq_true z)
     show Q (.int 0) H
     rw [cell_none hk hge] at q
     exact q
variable (P w K mg base) in
abbrev C__law_cell_at:Prop:=Callee P w K mg base "_law_cell_at" 1 ["_law_script", "_law_k"] (sp__law_cell_at K)
theorem call__law_cell_at (B:Blt mg) (ER:Ers K mg)  (F:Fun K "_law_cell_at" "_law_cell_at" s__law_cell_at f fd) (hm:mg "_law_cell_at" = some (.ref f)):C__law_cell_at P w K mg base :=
 ⟨f,fd,ok__law_cell_at B ER  F,hm,F.kp,F.binds fun _ _ _ _ _ _ us hl=>(by obtain ⟨x0,x1,rfl⟩:=len_2 hl; rfl)⟩
def sp__law_turned (K:PySem.W.Frag):Sp:=fun vs H Q _=>∃ (L:Addr) (ls:List Str) (c:Int),vs=[.ref L,.int c]∧SqL K H L (ls.map V.str)∧1≤ls.length∧ls.length≤41∧∀ (D:Addr) (ms:List Str) (H':Hp),H D=none→Same H H'→H' D=some (.lst (ms.map V.str))→ms.Perm ls→Q (.ref D) H'
theorem ok__law_turned (B:Blt mg) (ER:Ers K mg)  (F:Fun K "_law_turned" "_law_turned" s__law_turned f fd):FnOk P w K mg base CX0 1 f fd ["_law_labels_here", "_law_cell"] (sp__law_turned K):=by
 refine F.ok sc__law_turned (fun vs H Q E h=>?_) (fun cdv A outer s H vs Q E hr h=>?_)
 · obtain ⟨L,ls,c,rfl,_⟩:=h
   rfl
 · obtain ⟨L,ls,c,rfl,hL,l1,l41,q⟩:=h
   refine ⟨_,(pss_cons (ps_set (i:=2) sc__law_turned.nd (pe_op op_mod (pv 1) (pe_callB call_len B.b_len (pa_cons (pv 0) pa_nil))))
    (pss_cons (ps_set (i:=0) sc__law_turned.nd (pe_op op_cat (pe_slice sl_list (pv 0) (po_some (pv 2)) po_none) (pe_slice sl_list (pv 0) po_none (po_some (pv 2)))))
    (pss_cons (ps_if (pt_cmpR op_eq (pe_op op_mod (pe_op op_fdiv (pv 1) pe_int) pe_int) pe_int (nomark _)) (pss_one (ps_set (i:=0) sc__law_turned.nd (pe_op op_cat (pe_step (pv 0) po_none pe_int) (pe_rev (pe_step (pv 0) (po_some pe_int) pe_int) (pe_un un_neg pe_int))))) pss_nil)
    (pss_one (ps_ret (pv 0)))))),?_⟩
   refine ⟨_,rfl,_,rfl,_,_,rfl,Or.inl ⟨_,hL,rfl⟩,_,_,rfl,rfl,(by rw [List.length_map]; show (0:Int) < _; omega),?_⟩
   try dsimp only
   rw [List.length_map]
   obtain ⟨k,hk,lk⟩:∃ n:Nat,c % (ls.length:Int)=(n:Int)∧n < ls.length:=⟨(c % (ls.length:Int)).toNat,by have:=Int.emod_nonneg c (show (ls.length:Int)≠0 by omega); omega,by have:=Int.emod_lt_of_pos c (show 0 < (ls.length:Int) by omega); omega⟩
   rw [hk]
   refine g_in ?_
   try dsimp only
   refine ⟨_,rfl,_,rfl,_,rfl,L,_,rfl,hL,fun p1 h1=>?_⟩
   rw [cutV_drop,←List.map_drop]
   obtain ⟨H1,qH1,s1,e1⟩:=new_at (o:=.lst ((ls.drop k).map V.str)) h1
   rw [←qH1]
   refine ⟨_,rfl,_,rfl,_,rfl,L,_,rfl,s1.seq hL,fun p2 h2=>?_⟩
   rw [cutV_take,←List.map_take]
   obtain ⟨H2,qH2,s2,e2⟩:=new_at (o:=.lst ((ls.take k).map V.str)) h2
   rw [←qH2]
   refine ⟨p1,p2,_,_,rfl,rfl,s2 _ _ e1,e2,by rw [List.length_map,List.length_map,List.length_drop,List.length_take]; exact Nat.le_of_lt (small1000 (by omega)),fun p3 h3=>?_⟩
   rw [←List.map_append]
   have pm:(ls.drop k++ls.take k).Perm ls:=by
    have:=List.perm_append_comm (l₁:=ls.drop k) (l₂:=ls.take k)
    rwa [List.take_append_drop] at this
   generalize ls.drop k++ls.take k=ms at pm ⊢
   have lm:=pm.length_eq
   have s3:=same_new (o:=.lst (ms.map V.str)) h3
   have e3:(upd H2 p3 (.lst (ms.map V.str))) p3=some (.lst (ms.map V.str)):=upd_same
   have f3:H p3=none:=(s1.trans s2).free h3
   generalize upd H2 p3 (.lst (ms.map V.str))=H3 at s3 e3 ⊢
   have s03:=(s1.trans s2).trans s3
   refine g_in ?_
   try dsimp only
   refine ⟨_,rfl,_,_,rfl,rfl,⟨by decide,by decide⟩,_,_,rfl,rfl,(by show (0:Int) < _; decide),rfl,_,rfl,ite2 (fun _=>?_) (fun _=>⟨_,rfl,q p3 ms H3 f3 s03 e3 pm⟩)⟩
   obtain ⟨b0,b1⟩:=stepIx_len ls.length (by omega)
   have pp:=stepIx_perm ls.length (by omega)
   refine ⟨_,rfl,p3,_,rfl,rfl,SqL.of e3,by rw [List.length_map,lm]; exact Nat.le_trans b0 (by decide),fun p4 h4=>?_⟩
   rw [List.length_map,lm,pick_map]
   generalize stepIx none ls.length=i0 at b0 pp ⊢
   obtain ⟨H4,qH4,s4,e4⟩:=new_at (o:=.lst ((i0.filterMap (ms[·]?)).map V.str)) h4
   rw [←qH4]
   refine ⟨_,rfl,_,rfl,p3,_,rfl,rfl,SqL.of (s4 _ _ e3),by rw [List.length_map,lm]; exact Nat.le_trans b1 (by decide),fun p5 h5=>?_⟩
   rw [List.length_map,lm,pick_map]
   generalize stepIx (some 1) ls.length=i1 at b1 pp ⊢
   obtain ⟨H5,qH5,s5,e5⟩:=new_at (o:=.lst ((i1.filterMap (ms[·]?)).map V.str)) h5
   rw [←qH5]
   refine ⟨_,rfl,p5,_,rfl,rfl,SqL.of e5,fun p6 h6=>?_⟩
   rw [←List.map_reverse]
   obtain ⟨H6,qH6,s6,e6⟩:=new_at (o:=.lst ((i1.filterMap (ms[·]?)).reverse.map V.str)) h6
   rw [←qH6]
   have pm2:(i0.filterMap (ms[·]?)++(i1.filterMap (ms[·]?)).reverse).Perm ls:=by
    have h:=pp.filterMap (fun i=>ms[i]?)
    rw [List.filterMap_append,List.filterMap_reverse,←lm,range_pick] at h
    exact h.trans pm
   have l2:=pm2.length_eq
   rw [List.length_append] at l2
   refine ⟨p4,p6,_,_,rfl,rfl,s6 _ _ (s5 _ _ e4),e6,by rw [List.length_map,List.length_map,l2]; exact Nat.le_of_lt (small1000 (by omega)),fun p7 h7=>?_⟩
   rw [←List.map_append]
   refine g_in ?_
   try dsimp only
   have s06:=((s03.trans s4).trans s5).trans s6
   exact ⟨_,rfl,q p7 _ _ (s06.free h7) (s06.trans (same_new h7)) upd_same pm2⟩
variable (P w K mg base) in
abbrev C__law_turned:Prop:=Callee P w K mg base "_law_turned" 1 ["_law_labels_here", "_law_cell"] (sp__law_turned K)
theorem call__law_turned (B:Blt mg) (ER:Ers K mg)  (F:Fun K "_law_turned" "_law_turned" s__law_turned f fd) (hm:mg "_law_turned" = some (.ref f)):C__law_turned P w K mg base :=
 ⟨f,fd,ok__law_turned B ER  F,hm,F.kp,F.binds fun _ _ _ _ _ _ us hl=>(by obtain ⟨x0,x1,rfl⟩:=len_2 hl; rfl)⟩
theorem letter_at (c:Int):atI ("abcdefghijklmnopqrstuvwxyz" : Str).cps.toList (c % 26)=some (97 + (c % 26).toNat):=by
 have h0:=Int.emod_nonneg c (by decide:(26:Int)≠0)
 have h1:=Int.emod_lt_of_pos c (by decide:(0:Int) < 26)
 generalize c % 26=i at h0 h1 ⊢
 obtain ⟨n,rfl⟩:=Int.eq_ofNat_of_zero_le h0
 have hn:n < 26:=by omega
 refine atI_nat ?_
 have:∀ n,n < 26→("abcdefghijklmnopqrstuvwxyz" : Str).cps.toList[n]?=some (97 + n):=by decide +kernel
 rw [Int.toNat_natCast]
 exact this n hn
theorem nodup_map {α β:Type} {f:α→β} {l:List α} (hl:l.Nodup) (h:∀ a∈l,∀ b∈l,f a=f b→a=b):(l.map f).Nodup:=by
 unfold List.Nodup at *
 rw [List.pairwise_map]
 exact hl.imp_of_mem fun {a b} ha hb hne e=>hne (h a ha b hb e)
theorem map_sing (cs:List Nat):(cs.map fun c=>V.str ⟨#[c]⟩)=(cs.map fun c=>(⟨#[c]⟩:Str)).map V.str:=by rw [List.map_map]; rfl
theorem joinOk_sing {cs:List Nat} (h:cs.length≤8):JoinOk (Str.ofString "") (cs.map fun c=>(⟨#[c]⟩:Str))=true:=by
 refine joinOk_small (fun y hy=>?_) (by rw [List.length_map]; omega)
 obtain ⟨c,_,rfl⟩:=List.mem_map.mp hy
 show 1≤8
 decide
theorem let_lt (c:Int):97≤97 + (c % 26).toNat∧97 + (c % 26).toNat≤122:=by
 have h0:=Int.emod_nonneg c (by decide:(26:Int)≠0)
 have h1:=Int.emod_lt_of_pos c (by decide:(0:Int) < 26)
 omega
theorem small_tx {cs:List Nat} (h1:1≤cs.length) (hl:cs.length≤8) (h:∀ c∈cs,97≤c∧c≤122):1≤(tx cs).length∧(tx cs).length≤8∧∀ c∈(tx cs).cps.toList,97≤c∧c≤122:=by
 refine ⟨by rw [tx_len]; exact h1,by rw [tx_len]; exact hl,fun c hc=>h c ?_⟩
 simpa [tx] using hc
theorem letter_in {i:Int} (h0:0≤i) (h1:i < 26):atI ("abcdefghijklmnopqrstuvwxyz" : Str).cps.toList i=some (97 + i.toNat):=by
 have:=letter_at i
 rwa [show i % 26=i by omega] at this
theorem str_tx {x:Str} {cs:List Nat} (h:x.cps.toList=cs):x=tx cs:=by
 cases x; simp at h; subst h; simp [tx]
theorem app_cps (x y:Str):(x++y).cps.toList=x.cps.toList++y.cps.toList:=by
 show (x.cps++y.cps).toList=_
 simp
def labC (bs:List Nat) (p:Nat) (a:Int):List Nat:=bs.take p++[97 + (a % 26).toNat,97 + (a / 26).toNat]++bs.drop p
theorem labC_inj {bs:List Nat} {p:Nat} {a b:Int} (ha:0≤a) (hb:0≤b) (e:labC bs p a=labC bs p b):a=b:=by
 unfold labC at e
 have e2:=List.append_cancel_right e
 have e3:=List.append_cancel_left e2
 simp only [List.cons.injEq,and_true] at e3
 omega
theorem nodup_lab {bs:List Nat} {p m:Nat} {c:Int} (hc:0≤c) (hm:m≤41):((List.range m).map fun k:Nat=>tx (labC bs p (((k:Int) + c) % 676))).Nodup:=by
 refine nodup_map List.nodup_range fun a ha b hb e=>?_
 rw [List.mem_range] at ha hb
 have:=labC_inj (by omega) (by omega) (tx_inj e)
 omega
theorem labC_mem {bs:List Nat} {p:Nat} {a:Int} (h0:0≤a) (h1:a < 676) (hbs:∀ c∈bs,97≤c∧c≤122):∀ c∈labC bs p a,97≤c∧c≤122:=fun c hc=>by
 unfold labC at hc
 simp only [List.mem_append,List.mem_cons,List.not_mem_nil,or_false] at hc
 rcases hc with (hc | rfl | rfl) | hc
 · exact hbs c (List.mem_of_mem_take hc)
 · omega
 · omega
 · exact hbs c (List.mem_of_mem_drop hc)
theorem labC_len {bs:List Nat} {p:Nat} {a:Int} (hp:p≤bs.length):(labC bs p a).length=bs.length + 2:=by
 unfold labC
 simp only [List.length_append,List.length_take,List.length_drop,List.length_cons,List.length_nil]
 omega
def sp__law_labels (_:PySem.W.Frag):Sp:=fun vs H Q _=>∃ c m,vs=[.int c,.int m]∧0≤m∧m≤41∧∀ (ls:List Str) (p:Addr) (H':Hp),ls.length=m.toNat→ls.Nodup→(∀ x∈ls,1≤x.length∧x.length≤8∧∀ c∈x.cps.toList,97≤c∧c≤122)→H p=none→Same H H'→H' p=some (.lst (ls.map V.str))→Q (.ref p) H'
theorem ok__law_labels (B:Blt mg) (ER:Ers K mg)  (F:Fun K "_law_labels" "_law_labels" s__law_labels f fd):FnOk P w K mg base CX0 1 f fd ["_law_cell", "_law_many"] (sp__law_labels K):=by
 refine F.ok sc__law_labels (fun vs H Q E h=>?_) (fun cdv A outer s H vs Q E hr h=>?_)
 · obtain ⟨c,m,rfl,_⟩:=h
   rfl
 · obtain ⟨c,m,rfl,hm0,hm8,q⟩:=h
   refine ⟨_,(pss_cons (ps_set (i:=2) sc__law_labels.nd pe_str)
    (pss_cons (ps_set (i:=3) sc__law_labels.nd (pe_op op_mod (pe_op op_mul (pe_op op_mod (pv 0) (pe_op op_pow pe_int pe_int)) pe_int) pe_int))
    (pss_cons (ps_set (i:=4) sc__law_labels.nd (pe_bm PySem.F.plainAttrs_str PySem.F.slot_str_join PySem.F.type_str_join mt_join pe_str (pa_cons (pe_comp (te:=tOp (rIx K) (tVar 1) (tOp xMod (tOp xDiv (tVar 2) (tOp xAdd (tOp xMul (tC (.int 5)) (tVar 0)) (tC (.int 2)))) (tC (.int 26)))) rfl _law_labels_cs1 (pi_range1 rfl B.b_range (pa_cons (pe_op op_mod (pv 3) pe_int) pa_nil)) (fun _ _ _ _ _=>(pg_name (i:=0) _law_labels_cs1.nd)) (fun _ _ _ _ _=>pf_nil) (fun _ _ _ _ _=>(pe_ix ix_seq (pv 1) (pe_op op_mod (pe_op op_fdiv (pv 2) (pe_op op_add (pe_op op_mul pe_int (pv 0)) pe_int)) pe_int)))) pa_nil)))
    (pss_cons (ps_set (i:=5) sc__law_labels.nd (pe_op op_mod (pe_op op_fdiv (pv 3) pe_int) (pe_op op_add (pe_callB call_len B.b_len (pa_cons (pv 4) pa_nil)) pe_int)))
    (pss_cons (ps_set (i:=6) sc__law_labels.nd (pe_lst pa_nil))
    (pss_cons (ps_for PassesOwn.never rfl (pi_range1 rfl B.b_range (pa_cons (pv 1) pa_nil)) (pg_name (i:=7) sc__law_labels.nd) (pss_cons (ps_set (i:=8) sc__law_labels.nd (pe_op op_mod (pe_op op_add (pv 7) (pe_op op_fdiv (pv 3) pe_int)) pe_int))
     (pss_cons (ps_set (i:=9) sc__law_labels.nd (pe_op op_add_str (pe_ix ix_seq (pv 2) (pe_op op_mod (pv 8) pe_int)) (pe_ix ix_seq (pv 2) (pe_op op_fdiv (pv 8) pe_int))))
     (pss_one (ps_expr (pe_bm PySem.F.plainAttrs_list PySem.F.slot_list_append PySem.F.type_list_append mr_append (pv 6) (pa_cons (pe_op op_add_str (pe_op op_add_str (pe_slice sl_str (pv 4) po_none (po_some (pv 5))) (pv 9)) (pe_slice sl_str (pv 4) (po_some (pv 5)) po_none)) pa_nil)))))))
    (pss_one (ps_ret (pv 6))))))))),?_⟩
   refine seq_setC ?_
   try dsimp only
   refine ⟨_,rfl,_,_,rfl,rfl,⟨by decide,by decide,by decide⟩,_,_,rfl,rfl,(by show (0:Int) < 10 ^ Int.toNat 9; decide),_,_,rfl,rfl,Or.inr ⟨by decide,by decide⟩,_,_,rfl,rfl,(by show (0:Int) < 2147483647; decide),?_⟩
   try dsimp only
   have n0:0≤c % 10 ^ Int.toNat 9 * 48271 % 2147483647:=Int.emod_nonneg _ (by decide)
   generalize c % 10 ^ Int.toNat 9 * 48271 % 2147483647=nu at n0 ⊢
   refine g_in ?_
   try dsimp only
   have a0:=Int.emod_nonneg nu (by decide:(7:Int)≠0)
   have a1:=Int.emod_lt_of_pos nu (by decide:(0:Int) < 7)
   refine ⟨rfl,_,rfl,_,_,rfl,rfl,(by show (0:Int) < 7; decide),_,rfl,by omega,by omega,comp_range (fun i=>V.str ⟨#[97 + (nu / (5 * (0 + (i:Int)) + 2) % 26).toNat]⟩) (Nat.le_trans (show (nu % 7).toNat≤7 by omega) (by decide)) (fun i H2 D R hi s2 hD k=>?_) (fun H1 Db t1 hDb e1=>?_)⟩
   · have hi:i < (nu % 7).toNat:=hi
     exact ⟨_,rfl,_,rfl,_,rfl,_,_,rfl,rfl,Or.inl ⟨by decide,by decide⟩,_,_,rfl,rfl,_,_,rfl,rfl,⟨by omega,by omega⟩,_,_,rfl,rfl,(by show (0:Int) < 26; decide),Or.inr (Or.inr ⟨_,_,_,rfl,rfl,by decide +kernel,letter_at _,k H2 (Same.refl _)⟩)⟩
   obtain ⟨bs,ebs⟩:∃ bs:List Nat,bs=(List.range (nu % 7).toNat).map fun i:Nat=>97 + (nu / (5 * (0 + (i:Int)) + 2) % 26).toNat:=⟨_,rfl⟩
   have e1:H1 Db=some (.lst (bs.map fun c=>V.str ⟨#[c]⟩)):=by rw [ebs,List.map_map]; exact e1
   have lbs:bs.length≤6:=by rw [ebs,List.length_map,List.length_range]; omega
   have hbs:∀ c∈bs,97≤c∧c≤122:=fun c hc=>by
    rw [ebs] at hc
    obtain ⟨i,_,rfl⟩:=List.mem_map.mp hc
    exact let_lt _
   clear ebs
   refine ⟨Str.ofString "",Db,_,rfl,rfl,SqL.of (by rw [e1,map_sing]),joinOk_sing (by omega),?_⟩
   rw [join_sing]
   refine g_in ?_
   try dsimp only
   refine ⟨_,rfl,_,_,rfl,rfl,⟨by decide,by decide⟩,_,rfl,_,_,rfl,⟨(by rw [tx_len]; exact Nat.le_of_lt (small1000 (by omega))),rfl⟩,_,_,rfl,rfl,_,_,rfl,rfl,(by show (0:Int) < _; omega),?_⟩
   try dsimp only
   rw [tx_len]
   obtain ⟨pu,epu,lpu⟩:∃ n:Nat,nu / 7 % ((bs.length:Int) + 1)=(n:Int)∧n≤bs.length:=⟨(nu / 7 % ((bs.length:Int) + 1)).toNat,by have:=Int.emod_nonneg (nu / 7) (show (bs.length:Int) + 1≠0 by omega); omega,by have:=Int.emod_lt_of_pos (nu / 7) (show 0 < (bs.length:Int) + 1 by omega); omega⟩
   rw [epu]
   refine g_in ?_
   try dsimp only
   refine ⟨by decide,fun L hL=>?_⟩
   have hLH:H L=none:=t1.free hL
   have s1:=t1.trans (same_new (o:=.lst []) hL)
   have eL:(upd H1 L (.lst [])) L=some (.lst []):=upd_same
   generalize upd H1 L (.lst [])=H2 at s1 eL ⊢
   refine g_in ?_
   try dsimp only
   have q0:0≤nu / 49:=by omega
   refine ⟨_,rfl,_,rfl,by omega,by omega,for_range (lo:=0) (n:=m.toNat) (fun i σ H'=>∃ u7 u8 u9,σ=[some (.int c),some (.int m),some (.str "abcdefghijklmnopqrstuvwxyz"),some (.int nu),some (.str (tx bs)),some (.int (pu:Int)),some (.ref L),u7,u8,u9]∧Same H H' ∧
    H' L=some (.lst (((List.range i).map fun k:Nat=>tx (labC bs pu (((k:Int) + nu / 49) % 676))).map V.str))) ⟨none,none,none,rfl,s1,eL⟩ ?_ ?_⟩
   · rintro i σ H3 hi ⟨u7,u8,u9,rfl,s3,e3⟩
     simp only [Int.zero_add]
     refine ⟨_,rfl,_,rfl,_,_,rfl,rfl,⟨by decide,by decide⟩,_,_,rfl,rfl,_,_,rfl,rfl,(by show (0:Int) < _; decide),?_⟩
     try dsimp only
     have b0:=Int.emod_nonneg ((i:Int) + nu / 49) (by decide:(676:Int)≠0)
     have b1:=Int.emod_lt_of_pos ((i:Int) + nu / 49) (by decide:(0:Int) < 676)
     generalize hat:((i:Int) + nu / 49) % 676=at_ at b0 b1 ⊢
     refine g_in ?_
     try dsimp only
     refine ⟨_,rfl,_,rfl,_,_,rfl,rfl,(by show (0:Int) < _; decide),Or.inr (Or.inr ⟨_,_,_,rfl,rfl,by decide +kernel,letter_at _,_,rfl,_,rfl,_,_,rfl,rfl,⟨by decide,by decide⟩,Or.inr (Or.inr ⟨_,_,_,rfl,rfl,by decide +kernel,letter_in (by omega) (by omega),_,_,rfl,rfl,show 1 + 1≤sizeLine by decide,?_⟩)⟩)⟩
     refine g_in ?_
     try dsimp only
     have lb:(tx bs).length≤sizeLine:=by rw [tx_len]; exact Nat.le_of_lt (small1000 (by omega))
     refine ⟨_,rfl,Or.inl ⟨rfl,_,SqL.of e3⟩,_,rfl,_,rfl,_,rfl,tx bs,rfl,lb,(fun i h=>by cases h),(fun i h=>by cases h; omega),fun z1 hz1=>?_⟩
     have hz1:z1.cps.toList=bs.take pu:=by
      rw [hz1]; unfold cutS
      simp [tx]
     have lz1:z1.length≤6:=by
      show z1.cps.size≤6
      rw [←Array.length_toList,hz1,List.length_take]; omega
     refine ⟨_,rfl,_,_,rfl,rfl,Nat.le_of_lt (small1000 (show z1.length + 2≤1000 by omega)),_,rfl,_,rfl,_,rfl,tx bs,rfl,lb,(fun i h=>by cases h; omega),(fun i h=>by cases h),fun z2 hz2=>?_⟩
     have hz2:z2.cps.toList=bs.drop pu:=by
      rw [hz2]; unfold cutS
      simp [tx]
      exact List.take_of_length_le (by rw [List.length_drop]; exact Nat.le_refl _)
     have lz2:z2.length≤6:=by
      show z2.cps.size≤6
      rw [←Array.length_toList,hz2,List.length_drop]; omega
     have lz3:(z1++((⟨#[97 + (at_ % 26).toNat]⟩:Str)++(⟨#[97 + (at_ / 26).toNat]⟩:Str))).length≤8:=by
      show (z1++((⟨#[97 + (at_ % 26).toNat]⟩:Str)++(⟨#[97 + (at_ / 26).toNat]⟩:Str))).cps.size≤8
      rw [←Array.length_toList,app_cps,app_cps,List.length_append,hz1,List.length_take]
      show _ + 2≤8
      omega
     refine ⟨_,_,rfl,rfl,Nat.le_of_lt (small1000 (by omega)),L,_,_,rfl,rfl,e3,by rw [List.length_map,List.length_map,List.length_range]; exact small1000 (by omega),?_⟩
     refine ⟨_,_,_,rfl,fun b o e=>?_,?_⟩
     · rw [upd_ne (ne_of_none e hLH)]; exact s3 b o e
     · rw [upd_same,List.range_succ,List.map_append,List.map_append]
       rw [str_tx (x:=z1++((⟨#[97 + (at_ % 26).toNat]⟩:Str)++(⟨#[97 + (at_ / 26).toNat]⟩:Str))++z2) (cs:=labC bs pu at_) (by rw [app_cps,app_cps,app_cps,hz1,hz2]; rfl),←hat]
       rfl
   · rintro σ H3 ⟨u7,u8,u9,rfl,s3,e3⟩
     refine ⟨_,rfl,q _ L H3 (by simp) (nodup_lab q0 (by omega)) (fun x hx=>?_) hLH s3 e3⟩
     obtain ⟨k,_,rfl⟩:=List.mem_map.mp hx
     exact small_tx (by rw [labC_len lpu]; omega) (by rw [labC_len lpu]; omega) (labC_mem (Int.emod_nonneg _ (by decide)) (Int.emod_lt_of_pos _ (by decide)) hbs)
variable (P w K mg base) in
abbrev C__law_labels:Prop:=Callee P w K mg base "_law_labels" 1 ["_law_cell", "_law_many"] (sp__law_labels K)
theorem call__law_labels (B:Blt mg) (ER:Ers K mg)  (F:Fun K "_law_labels" "_law_labels" s__law_labels f fd) (hm:mg "_law_labels" = some (.ref f)):C__law_labels P w K mg base :=
 ⟨f,fd,ok__law_labels B ER  F,hm,F.kp,F.binds fun _ _ _ _ _ _ us hl=>(by obtain ⟨x0,x1,rfl⟩:=len_2 hl; rfl)⟩
theorem tups_ins {H:Hp} {t:Addr} {ts:List Addr} {ps:List (Str × Str)} {p:Str × Str} {k:Nat} (h:Tups H ts ps) (hk:k≤ps.length) (e:H t=some (.tup [.str p.1,.str p.2])):Tups H (ts.take k++t :: ts.drop k) (ps.take k++p :: ps.drop k):=by
 have hl:=h.len
 refine ⟨by simp [hl],fun n v q h1 h2=>?_⟩
 have l1:(ts.take k).length=k:=by rw [List.length_take]; omega
 have l2:(ps.take k).length=k:=by rw [List.length_take]; omega
 rcases Nat.lt_trichotomy n k with c | c | c
 · rw [List.getElem?_append_left (by omega),List.getElem?_take_of_lt c] at h1
   rw [List.getElem?_append_left (by omega),List.getElem?_take_of_lt c] at h2
   exact h.at_ n v q h1 h2
 · subst c
   rw [List.getElem?_append_right (by omega),l1,Nat.sub_self] at h1
   rw [List.getElem?_append_right (by omega),l2,Nat.sub_self] at h2
   cases h1; cases h2
   exact e
 · obtain ⟨d,rfl⟩:∃ d,n=k + 1 + d:=⟨n - k - 1,by omega⟩
   rw [List.getElem?_append_right (by omega),l1,show k + 1 + d - k=d + 1 by omega,List.getElem?_cons_succ,List.getElem?_drop] at h1
   rw [List.getElem?_append_right (by omega),l2,show k + 1 + d - k=d + 1 by omega,List.getElem?_cons_succ,List.getElem?_drop] at h2
   exact h.at_ (k + d) v q h1 h2
theorem perm_ins {α:Type} (l:List α) (k:Nat) (p:α):(l.take k++p :: l.drop k).Perm (p :: l):=by
 have:=List.perm_middle (a:=p) (l₁:=l.take k) (l₂:=l.drop k)
 rwa [List.take_append_drop] at this
def nexts (ls:List Str) (n:Nat):List (Str × Str):=(List.range n).map fun k=>(ls.getD k default,ls.getD (k + 1) default)
theorem nexts_succ (ls:List Str) (n:Nat):nexts ls (n + 1)=nexts ls n++[(ls.getD n default,ls.getD (n + 1) default)]:=by
 unfold nexts
 rw [List.range_succ,List.map_append]; rfl
theorem ls_at {ls:List Str} {i:Nat} (h:i < ls.length):(ls.map V.str)[i]?=some (.str (ls.getD i default)):=by
 rw [List.getElem?_map,List.getD_eq_getElem?_getD,List.getElem?_eq_getElem h]; rfl
def sp__law_pairs (K:PySem.W.Frag):Sp:=fun vs H Q _=>∃ (L a:Addr) (ls:List Str) (ns:List Int),vs=[.ref L,.ref a]∧SqL K H L (ls.map V.str)∧SqL K H a (ns.map V.int)∧1≤ls.length∧ls.length≤41 ∧
 ∀ (P:Addr) (ts:List Addr) (ps:List (Str × Str)) (H':Hp),H P=none→Same H H'→H' P=some (.lst (ts.map V.ref))→Tups H' ts ps→ps.Perm (nexts ls (ls.length - 1))→Q (.ref P) H'
theorem ok__law_pairs (B:Blt mg) (ER:Ers K mg) (c__law_cell_at:C__law_cell_at P w K mg base) (F:Fun K "_law_pairs" "_law_pairs" s__law_pairs f fd):FnOk P w K mg base CX0 2 f fd ["_law_labels_here", "_law_script"] (sp__law_pairs K):=by
 refine F.ok sc__law_pairs (fun vs H Q E h=>?_) (fun cdv A outer s H vs Q E hr h=>?_)
 · obtain ⟨L,a,ls,ns,rfl,_⟩:=h
   rfl
 · obtain ⟨L,a,ls,ns,rfl,hL,hS,l1,l41,q⟩:=h
   refine ⟨_,(pss_cons (ps_set (i:=2) sc__law_pairs.nd (pe_lst pa_nil))
    (pss_cons (ps_for PassesOwn.never rfl (pi_range1 rfl B.b_range (pa_cons (pe_op op_sub (pe_callB call_len B.b_len (pa_cons (pv 0) pa_nil)) pe_int) pa_nil)) (pg_name (i:=3) sc__law_pairs.nd) (pss_cons (ps_set (i:=4) sc__law_pairs.nd (pe_fn c__law_cell_at (pa_cons (pv 1) (pa_cons (pe_op op_add pe_int (pe_op op_mod (pv 3) pe_int)) pa_nil))))
     (pss_one (ps_expr (pe_bm PySem.F.plainAttrs_list PySem.F.slot_list_insert PySem.F.type_list_insert mr_insert (pv 2) (pa_cons (pe_op op_mod (pe_op op_fdiv (pv 4) (pe_op op_add (pe_op op_fdiv (pv 3) pe_int) pe_int)) (pe_op op_add (pe_callB call_len B.b_len (pa_cons (pv 2) pa_nil)) pe_int)) (pa_cons (pe_tup (pa_cons (pe_ix ix_seq (pv 0) (pv 3)) (pa_cons (pe_ix ix_seq (pv 0) (pe_op op_add (pv 3) pe_int)) pa_nil))) pa_nil)))))))
    (pss_one (ps_ret (pv 2))))),?_⟩
   refine ⟨by decide,fun P hP=>?_⟩
   obtain ⟨H1,qH1,s1,e1⟩:=new_at (o:=.lst []) hP
   rw [←qH1]
   refine g_in ?_
   try dsimp only
   refine ⟨_,rfl,_,_,rfl,Or.inl ⟨_,s1.seq hL,rfl⟩,_,_,rfl,rfl,?_⟩
   rw [List.length_map]
   have en:((ls.length:Int) - 1).toNat=ls.length - 1:=by omega
   refine ⟨_,rfl,by omega,by omega,for_range (lo:=0) (n:=((ls.length:Int) - 1).toNat) (fun i σ H'=>∃ (u3 u4:Option V) (ts:List Addr) (ps:List (Str × Str)),σ=[some (.ref L),some (.ref a),some (.ref P),u3,u4]∧Same H H'∧H' P=some (.lst (ts.map V.ref))∧Tups H' ts ps∧ps.Perm (nexts ls i))
    ⟨none,none,[],[],rfl,s1,e1,Tups.nil,List.Perm.refl _⟩ ?_ ?_⟩
   · rintro i σ H2 hi ⟨u3,u4,ts,ps,rfl,s2,eP,T,pm⟩
     rw [en] at hi
     simp only [Int.zero_add]
     have lp:ps.length=i:=by rw [pm.length_eq]; unfold nexts; rw [List.length_map,List.length_range]
     have lt:=T.len
     refine ⟨_,rfl,_,rfl,_,_,rfl,rfl,(by show (0:Int) < _; decide),_,_,rfl,rfl,a,ns,4 + (i:Int) % 24,rfl,by omega,s2.seq hS,?_⟩
     generalize cellAt ns (4 + (i:Int) % 24)=c
     refine g_in ?_
     try dsimp only
     have d0:0 < (i:Int) / 24 + 1:=by omega
     have d1:(i:Int) / 24 + 1 < 1073741824:=by omega
     refine ⟨_,rfl,Or.inl ⟨rfl,_,SqL.of eP⟩,_,rfl,_,rfl,_,_,rfl,rfl,⟨by decide,by decide⟩,_,_,rfl,rfl,_,_,rfl,rfl,⟨d0,d1⟩,_,rfl,_,_,rfl,Or.inl ⟨_,SqL.of eP,rfl⟩,_,_,rfl,rfl,_,_,rfl,rfl,(by show (0:Int) < _; omega),_,rfl,_,rfl,Or.inl ⟨L,_,_,.str (ls.getD i default),rfl,rfl,s2.seq hL,atI_nat (ls_at (by omega)),_,rfl,_,rfl,_,_,rfl,rfl,Or.inl ⟨L,_,_,.str (ls.getD (i + 1) default),rfl,rfl,s2.seq hL,atI_nat (j:=i + 1) (ls_at (by omega)),two_le,fun t ht=>?_⟩⟩⟩
     dsimp only
     rw [List.length_map,lt,lp]
     obtain ⟨k,hk,lk⟩:∃ n:Nat,c / ((i:Int) / 24 + 1) % ((i:Int) + 1)=(n:Int)∧n≤i:=⟨(c / ((i:Int) / 24 + 1) % ((i:Int) + 1)).toNat,by have:=Int.emod_nonneg (c / ((i:Int) / 24 + 1)) (show (i:Int) + 1≠0 by omega); omega,by have:=Int.emod_lt_of_pos (c / ((i:Int) / 24 + 1)) (show 0 < (i:Int) + 1 by omega); omega⟩
     rw [hk]
     obtain ⟨H3,qH3,s3,e3⟩:=new_at (o:=.tup [.str (ls.getD i default),.str (ls.getD (i + 1) default)]) ht
     rw [←qH3]
     have eP3:=s3 _ _ eP
     refine ⟨P,_,_,_,rfl,rfl,eP3,by omega,by rw [List.length_map]; omega,by rw [List.length_map]; omega,?_⟩
     rw [Int.toNat_natCast]
     have T3:=tups_ins (T.same s3) (p:=(ls.getD i default,ls.getD (i + 1) default)) (k:=k) (by omega) e3
     refine ⟨_,_,ts.take k++t :: ts.drop k,_,rfl,fun x o e=>?_,?_,T3.upd (fun z=>?_),?_⟩
     · rw [upd_ne (ne_of_none e hP)]; exact s3 _ _ (s2 x o e)
     · rw [upd_same,List.map_append,List.map_cons,List.map_take,List.map_drop]
     · exact T3.ne eP3 z
     · rw [nexts_succ]
       exact (perm_ins ps k _).trans ((List.Perm.cons _ pm).trans (List.perm_append_singleton _ _).symm)
   · rintro σ H2 ⟨u3,u4,ts,ps,rfl,s2,eP,T,pm⟩
     rw [en] at pm
     exact ⟨_,rfl,q P ts ps H2 hP s2 eP T pm⟩
variable (P w K mg base) in
abbrev C__law_pairs:Prop:=Callee P w K mg base "_law_pairs" 2 ["_law_labels_here", "_law_script"] (sp__law_pairs K)
theorem call__law_pairs (B:Blt mg) (ER:Ers K mg) (c__law_cell_at:C__law_cell_at P w K mg base) (F:Fun K "_law_pairs" "_law_pairs" s__law_pairs f fd) (hm:mg "_law_pairs" = some (.ref f)):C__law_pairs P w K mg base :=
 ⟨f,fd,ok__law_pairs B ER c__law_cell_at F,hm,F.kp,F.binds fun _ _ _ _ _ _ us hl=>(by obtain ⟨x0,x1,rfl⟩:=len_2 hl; rfl)⟩
theorem ls_atA {ls:List Str} {i:Nat} (h:i < ls.length):(ls.map V.str)[i]?=some (.str (ls.getD i default)):=by
 rw [List.getElem?_map,List.getD_eq_getElem?_getD,List.getElem?_eq_getElem h]; rfl
def lates (ls:List Str) (i:Nat):List (Str × Str):=(List.range i).flatMap fun k=>(List.range (ls.length - (k + 1))).map fun j=>(ls.getD k default,ls.getD (k + 1 + j) default)
theorem lates_succ (ls:List Str) (i:Nat):lates ls (i + 1)=lates ls i++(List.range (ls.length - (i + 1))).map fun j=>(ls.getD i default,ls.getD (i + 1 + j) default):=by
 unfold lates
 rw [List.range_succ,List.flatMap_append]; simp
theorem lates_len (ls:List Str):∀ i,i≤ls.length→ls.length≤41→2 * (lates ls i).length + i * i=i * (2 * ls.length - 1)
 | 0,_,_=>by simp [lates]
 | i + 1,h,hl=>by
   have ih:=lates_len ls i (by omega) hl
   rw [lates_succ,List.length_append,List.length_map,List.length_range]
   obtain ⟨d,hd⟩:∃ d,ls.length=i + 1 + d:=⟨ls.length - (i + 1),by omega⟩
   rw [hd] at ih ⊢
   have e1:i + 1 + d - (i + 1)=d:=by omega
   have e2:2 * (i + 1 + d) - 1=2 * i + 1 + 2 * d:=by omega
   rw [e1,e2]
   rw [e2] at ih
   have e3:(i + 1) * (i + 1)=i * i + 2 * i + 1:=by rw [Nat.add_mul,Nat.mul_add]; omega
   have e4:(i + 1) * (2 * i + 1 + 2 * d)=i * (2 * i + 1 + 2 * d) + (2 * i + 1 + 2 * d):=by rw [Nat.add_mul,Nat.one_mul]
   rw [e3,e4,Nat.mul_add]
   omega
def sp__law_all (K:PySem.W.Frag):Sp:=fun vs H Q _=>∃ (L:Addr) (ls:List Str),vs=[.ref L]∧SqL K H L (ls.map V.str)∧1≤ls.length∧ls.length≤41 ∧
 ∀ (D:Addr) (ts:List Addr) (ps:List (Str × Str)) (H':Hp),H D=none→Same H H'→H' D=some (.lst (ts.map V.ref))→Tups H' ts ps→ps.Perm (lates ls ls.length)→ps.Pairwise (lexO strO strO).kle→Q (.ref D) H'
theorem ok__law_all (B:Blt mg) (ER:Ers K mg)  (F:Fun K "_law_all" "_law_all" s__law_all f fd):FnOk P w K mg base CX0 1 f fd ["_law_labels_here"] (sp__law_all K):=by
 refine F.ok sc__law_all (fun vs H Q E h=>?_) (fun cdv A outer s H vs Q E hr h=>?_)
 · obtain ⟨L,ls,rfl,_⟩:=h
   rfl
 · obtain ⟨L,ls,rfl,hL,l1,l41,q⟩:=h
   refine ⟨_,(pss_cons (ps_set (i:=1) sc__law_all.nd (pe_lst pa_nil))
    (pss_cons (ps_for PassesOwn.never rfl (pi_range1 rfl B.b_range (pa_cons (pe_callB call_len B.b_len (pa_cons (pv 0) pa_nil)) pa_nil)) (pg_name (i:=2) sc__law_all.nd) (pss_one (ps_for PassesOwn.never rfl (pi_range2 rfl B.b_range (pa_cons (pe_op op_add (pv 2) pe_int) (pa_cons (pe_callB call_len B.b_len (pa_cons (pv 0) pa_nil)) pa_nil))) (pg_name (i:=3) sc__law_all.nd) (pss_one (ps_expr (pe_bm PySem.F.plainAttrs_list PySem.F.slot_list_append PySem.F.type_list_append mr_append (pv 1) (pa_cons (pe_tup (pa_cons (pe_ix ix_seq (pv 0) (pv 2)) (pa_cons (pe_ix ix_seq (pv 0) (pv 3)) pa_nil))) pa_nil)))))))
    (pss_one (ps_ret (pe_callB (call_sortQ strC strC) B.b_sorted (pa_cons (pv 1) pa_nil)))))),?_⟩
   refine ⟨by decide,fun P hP=>?_⟩
   obtain ⟨H1,qH1,s1,e1⟩:=new_at (o:=.lst []) hP
   rw [←qH1]
   refine g_in ?_
   try dsimp only
   refine ⟨_,rfl,_,_,rfl,Or.inl ⟨_,s1.seq hL,rfl⟩,?_⟩
   rw [List.length_map]
   have en:((ls.length:Nat):Int).toNat=ls.length:=Int.toNat_natCast _
   have l820:∀ i,i≤ls.length→(lates ls i).length≤820:=fun i hi=>by
    have:=lates_len ls i hi l41
    have h2:i * (2 * ls.length - 1)≤i * 81:=Nat.mul_le_mul_left _ (by omega)
    have h3:i≤41:=by omega
    have h4:i * 81≤1640 + i * i:=by
     have:∀ i,i≤41→i * 81≤1640 + i * i:=by decide
     exact this i h3
    omega
   refine ⟨_,rfl,by omega,by omega,for_range (lo:=0) (n:=((ls.length:Nat):Int).toNat) (fun i σ H'=>∃ (u2 u3:Option V) (ts:List Addr),σ=[some (.ref L),some (.ref P),u2,u3]∧Same H H'∧H' P=some (.lst (ts.map V.ref))∧Tups H' ts (lates ls i))
    ⟨none,none,[],rfl,s1,e1,Tups.nil⟩ ?_ ?_⟩
   · rintro i σ H2 hi ⟨u2,u3,ts,rfl,s2,eP,T⟩
     rw [en] at hi
     simp only [Int.zero_add]
     refine g_in ?_
     try dsimp only
     refine ⟨_,rfl,_,_,rfl,rfl,_,rfl,_,_,rfl,Or.inl ⟨_,s2.seq hL,rfl⟩,?_⟩
     rw [List.length_map]
     have e2:((ls.length:Int) - ((i:Int) + 1)).toNat=ls.length - (i + 1):=by omega
     refine ⟨_,_,rfl,⟨by omega,by omega,by omega,by omega⟩,for_range (lo:=(i:Int) + 1) (n:=((ls.length:Int) - ((i:Int) + 1)).toNat) (fun j σ H'=>∃ (u3:Option V) (ts:List Addr),σ=[some (.ref L),some (.ref P),some (.int (i:Int)),u3]∧Same H H'∧H' P=some (.lst (ts.map V.ref))∧Tups H' ts (lates ls i++(List.range j).map fun j=>(ls.getD i default,ls.getD (i + 1 + j) default)))
      ⟨_,ts,rfl,s2,eP,by rw [List.range_zero,List.map_nil,List.append_nil]; exact T⟩ ?_ ?_⟩
     · rintro j σ H3 hj ⟨u3,ts,rfl,s3,eP3,T3⟩
       rw [e2] at hj
       have lt:=T3.len
       have lb:=l820 (i + 1) (by omega)
       rw [lates_succ,List.length_append,List.length_map,List.length_range] at lb
       rw [List.length_append,List.length_map,List.length_range] at lt
       have ej:(i:Int) + 1 + (j:Int)=((i + 1 + j:Nat):Int):=by omega
       rw [ej]
       refine ⟨_,rfl,Or.inl ⟨rfl,_,SqL.of eP3⟩,_,rfl,_,rfl,Or.inl ⟨L,_,_,.str (ls.getD i default),rfl,rfl,s3.seq hL,atI_nat (ls_atA (by omega)),_,rfl,_,rfl,Or.inl ⟨L,_,_,.str (ls.getD (i + 1 + j) default),rfl,rfl,s3.seq hL,atI_nat (ls_atA (by omega)),two_le,fun t ht=>?_⟩⟩⟩
       obtain ⟨H4,qH4,s4,e4⟩:=new_at (o:=.tup [.str (ls.getD i default),.str (ls.getD (i + 1 + j) default)]) ht
       rw [←qH4]
       have eP4:=s4 _ _ eP3
       have T4:=(T3.same s4).snoc (p:=(ls.getD i default,ls.getD (i + 1 + j) default)) e4
       refine ⟨P,_,_,rfl,rfl,eP4,by rw [List.length_map]; exact small1000 (by omega),?_⟩
       refine ⟨_,ts++[t],rfl,fun x o e=>?_,by rw [upd_same,List.map_append]; rfl,?_⟩
       · rw [upd_ne (ne_of_none e hP)]; exact s4 _ _ (s3 x o e)
       · rw [List.range_succ,List.map_append,←List.append_assoc]
         exact T4.upd (T4.ne eP4)
     · rintro σ H3 ⟨u3,ts,rfl,s3,eP3,T3⟩
       rw [e2,←lates_succ] at T3
       exact ⟨_,_,ts,rfl,s3,eP3,T3⟩
   · rintro σ H2 ⟨u2,u3,ts,rfl,s2,eP,T⟩
     rw [en] at T
     have lt:=T.len
     have l8:=l820 ls.length (Nat.le_refl _)
     have rows:∃ zs:List (Row strC strC),zs.map (·.1)=ts.map V.ref∧zs.map (·.2)=lates ls ls.length∧∀ z∈zs,∃ t,z.1=.ref t∧H2 t=some (.tup [.str z.2.1,.str z.2.2]):=by
      have : ∀ (ts : List Addr) (ps : List (Str × Str)), Tups H2 ts ps → ∃ zs : List (Row strC strC), zs.map (·.1) = ts.map V.ref ∧ zs.map (·.2) = ps ∧ ∀ z ∈ zs, ∃ t, z.1 = .ref t ∧ H2 t = some (.tup [.str z.2.1, .str z.2.2]) := by
       intro ts
       induction ts with
       | nil =>
         intro ps T
         have:=T.len
         cases ps with
         | nil=>exact ⟨[],rfl,rfl,fun z hz=>by simp at hz⟩
         | cons _ _=>simp at this
       | cons t ts ih =>
         intro ps T
         have:=T.len
         cases ps with
         | nil=>simp at this
         | cons p ps =>
           obtain ⟨zs,h1,h2,h3⟩:=ih ps ⟨by simpa using this,fun n v q a b=>T.at_ (n + 1) v q (by simpa using a) (by simpa using b)⟩
           refine ⟨(.ref t,p) :: zs,by rw [List.map_cons,h1]; rfl,by rw [List.map_cons,h2],fun z hz=>?_⟩
           rcases List.mem_cons.mp hz with rfl | hz
           · exact ⟨t,rfl,T.at_ 0 t p rfl rfl⟩
           · exact h3 z hz
      exact this ts _ T
     obtain ⟨zs,z1,z2,z3⟩:=rows
     have lz:zs.length=ts.length:=by have:=congrArg List.length z1; rwa [List.length_map,List.length_map] at this
     refine ⟨_,rfl,P,zs,rfl,by rw [z1]; exact SqL.of eP,by omega,fun z hz=>(let ⟨t,a,b⟩:=z3 z hz; ⟨t,a,SqT.of b⟩),fun D zs' hp hs hD=>?_⟩
     have s3:=same_new (o:=.lst (zs'.map (·.1))) hD
     have tt:∃ ts':List Addr,zs'.map (·.1)=ts'.map V.ref∧Tups H2 ts' (zs'.map (·.2)):=by
      have:∀ zs':List (Row strC strC),(∀ z∈zs',∃ t,z.1=.ref t∧H2 t=some (.tup [.str z.2.1,.str z.2.2]))→∃ ts':List Addr,zs'.map (·.1)=ts'.map V.ref∧Tups H2 ts' (zs'.map (·.2)):=by
       intro zs'
       induction zs' with
       | nil=>exact fun _=>⟨[],rfl,Tups.nil⟩
       | cons z zs' ih =>
         intro h
         obtain ⟨ts',a,b⟩:=ih fun y hy=>h y (List.mem_cons_of_mem _ hy)
         obtain ⟨t,c,d⟩:=h z List.mem_cons_self
         refine ⟨t :: ts',by rw [List.map_cons,List.map_cons,a,c],by simp [b.len],fun n v q e1 e2=>?_⟩
         cases n with
         | zero=>cases e1; cases e2; exact d
         | succ n=>exact b.at_ n v q (by simpa using e1) (by simpa using e2)
      exact this zs' fun z hz=>z3 z (hp.mem_iff.mp hz)
     obtain ⟨ts',a,b⟩:=tt
     exact q D ts' (zs'.map (·.2)) _ (s2.free hD) (s2.trans s3) (by rw [upd_same,a]) (b.same s3) (by rw [←z2]; exact hp.map _) hs
variable (P w K mg base) in
abbrev C__law_all:Prop:=Callee P w K mg base "_law_all" 1 ["_law_labels_here"] (sp__law_all K)
theorem call__law_all (B:Blt mg) (ER:Ers K mg)  (F:Fun K "_law_all" "_law_all" s__law_all f fd) (hm:mg "_law_all" = some (.ref f)):C__law_all P w K mg base :=
 ⟨f,fd,ok__law_all B ER  F,hm,F.kp,F.binds fun _ _ _ _ _ _ us hl=>(by obtain ⟨x0,rfl⟩:=len_1 hl; rfl)⟩
def sp_refuse_too_great (K:PySem.W.Frag):Sp:=fun vs H Q _=>∃ (a p:Addr) (ss:List Stt) (ps:List V),vs=[.ref a,.ref p]∧Stts K H a ss∧Fits ss∧SqL K H p ps∧ps.length≤40∧Q .non H
theorem ok_refuse_too_great (B:Blt mg) (ER:Ers K mg)  (F:Fun K "refuse_too_great" "refuse_too_great" s_refuse_too_great f fd):FnOk P w K mg base CX0 1 f fd ["states", "pairs"] (sp_refuse_too_great K):=by
 refine F.ok sc_refuse_too_great (fun vs H Q E h=>?_) (fun cdv A outer s H vs Q E hr h=>?_)
 · obtain ⟨a,p,ss,ps,rfl,_⟩:=h
   rfl
 · obtain ⟨a,p,ss,ps,rfl,⟨vs,hS,hD⟩,hF,hP,hpl,q⟩:=h
   have lvs:=hD.len_map
   have hn8:=hF.n
   refine ⟨_,(pss_cons (ps_if (pt_cmpR op_gt (pe_callB call_len B.b_len (pa_cons (pv 0) pa_nil)) (pe_glob (v:=.int 8) rfl (Classical.choose_spec B.c_MOST_STATES) ⟨_,rfl⟩) (nomark _)) (pss_one ps_never) pss_nil)
    (pss_cons (ps_for PassesOwn.never rfl (pi_list (pv 0)) (pg_tup (n:=2) rfl (pgs_cons (pg_name (i:=2) sc_refuse_too_great.nd) (pgs_cons (pg_name (i:=3) sc_refuse_too_great.nd) pgs_nil))) (pss_cons (ps_if (pt_cmpR op_gt (pe_callB call_len B.b_len (pa_cons (pv 2) pa_nil)) (pe_glob (v:=.int 8) rfl (Classical.choose_spec B.c_MOST_GOES) ⟨_,rfl⟩) (nomark _)) (pss_one ps_never) pss_nil)
     (pss_one (ps_if (pt_cmpR op_gt (pe_callB call_len B.b_len (pa_cons (pv 3) pa_nil)) (pe_glob (v:=.int 8) rfl (Classical.choose_spec B.c_MOST_ENDS) ⟨_,rfl⟩) (nomark _)) (pss_one ps_never) pss_nil))))
    (pss_one (ps_if (pt_cmpR op_gt (pe_callB call_len B.b_len (pa_cons (pv 1) pa_nil)) (pe_glob (v:=.int 40) rfl (Classical.choose_spec B.c_MOST_PAIRS) ⟨_,rfl⟩) (nomark _)) (pss_one ps_never) pss_nil)))),?_⟩
   refine ⟨_,rfl,_,_,rfl,Or.inl ⟨_,hS,rfl⟩,_,_,rfl,rfl,_,rfl,?_⟩
   rw [decide_eq_false (show ¬ ((vs.length:Nat):Int) > 8 by omega)]
   refine iteF ?_
   refine ⟨_,rfl,a,rfl,⟨_,hS⟩,for_list (xs:=vs) (fun i σ H'=>∃ u2 u3,σ=[some (.ref a),some (.ref p),u2,u3]∧H'=H) ⟨none,none,rfl,rfl⟩ (fun i σ H' _ ⟨_,_,_,e⟩=>by rw [e]; exact hS) ?_ ?_⟩
   · rintro i x σ H2 hx ⟨u2,u3,rfl,rfl⟩
     obtain ⟨s,t,g,e,hs,rfl,ht,⟨gv,hg,hgd⟩,he⟩:=hD.sts_get hx
     have lgv:=hgd.len_map
     have b1:=hF.gs s (List.mem_of_getElem? hs)
     have b2:=hF.es s (List.mem_of_getElem? hs)
     refine ⟨t,_,rfl,ht,rfl,_,_,rfl,_,_,rfl,rfl,?_⟩
     refine ⟨_,rfl,_,_,rfl,Or.inl ⟨_,hg,rfl⟩,_,_,rfl,rfl,_,rfl,?_⟩
     rw [decide_eq_false (show ¬ ((gv.length:Nat):Int) > 8 by omega)]
     refine iteF ⟨_,rfl,_,_,rfl,Or.inl ⟨_,he,rfl⟩,_,_,rfl,rfl,_,rfl,?_⟩
     rw [List.length_map,decide_eq_false (show ¬ ((s.2.length:Nat):Int) > 8 by omega)]
     exact iteF ⟨_,_,rfl,rfl⟩
   · rintro σ H2 ⟨u2,u3,rfl,rfl⟩
     refine ⟨_,rfl,_,_,rfl,Or.inl ⟨_,hP,rfl⟩,_,_,rfl,rfl,_,rfl,?_⟩
     rw [decide_eq_false (show ¬ ((ps.length:Nat):Int) > 40 by omega)]
     exact iteF q
variable (P w K mg base) in
abbrev C_refuse_too_great:Prop:=Callee P w K mg base "refuse_too_great" 1 ["states", "pairs"] (sp_refuse_too_great K)
theorem call_refuse_too_great (B:Blt mg) (ER:Ers K mg)  (F:Fun K "refuse_too_great" "refuse_too_great" s_refuse_too_great f fd) (hm:mg "refuse_too_great" = some (.ref f)):C_refuse_too_great P w K mg base :=
 ⟨f,fd,ok_refuse_too_great B ER  F,hm,F.kp,F.binds fun _ _ _ _ _ _ us hl=>(by obtain ⟨x0,x1,rfl⟩:=len_2 hl; rfl)⟩
def sp_labels_of (K:PySem.W.Frag):Sp:=fun vs H Q _=>∃ (g:Addr) (gs:List (Str × Int)),vs=[.ref g]∧Goes K H g gs∧gs.length≤100∧∀ (p:Addr) (H':Hp),H p=none→Same H H'→H' p=some (.lst ((gs.map (·.1)).map V.str))→Q (.ref p) H'
theorem ok_labels_of (B:Blt mg) (ER:Ers K mg)  (F:Fun K "labels_of" "labels_of" s_labels_of f fd):FnOk P w K mg base CX0 1 f fd ["goes"] (sp_labels_of K):=by
 refine F.ok sc_labels_of (fun vs H Q E h=>?_) (fun cdv A outer s H vs Q E hr h=>?_)
 · obtain ⟨g,gs,rfl,_⟩:=h
   rfl
 · obtain ⟨g,gs,rfl,⟨vs,hS,hD⟩,hlen,q⟩:=h
   have lvs:=hD.len_map
   refine ⟨_,(pss_one (ps_ret (pe_comp (g:=gTup K 2 (gCons (gName 0) (gCons (gName 1) gNil))) rfl labels_of_cs1 (pi_list (pv 0)) (fun _ _ _ _ _=>(pg_tup (n:=2) rfl (pgs_cons (pg_name (i:=0) labels_of_cs1.nd) (pgs_cons (pg_name (i:=1) labels_of_cs1.nd) pgs_nil)))) (fun _ _ _ _ _=>pf_nil) (fun _ _ _ _ _=>(pv 0))))),?_⟩
   refine ⟨_,rfl,g,rfl,⟨_,hS⟩,comp_listI (xs:=vs) (fun D i ys H'=>Same H H'∧H' D=some (.lst ys)∧ys=((gs.take i).map (·.1)).map V.str)
    (fun D hD=>⟨same_new hD,upd_same,rfl⟩) (fun D i ys H' ⟨s1,_⟩=>s1.seq hS) (fun D i x ys H2 R hD0 hx hv k=>?_) (fun R ys H2 hR hv=>?_)⟩
   · obtain ⟨s2,eD,rfl⟩:=hv
     obtain ⟨p,t,hp,rfl,ht⟩:=hD.goes_get hx
     have hil:i < gs.length:=(List.getElem?_eq_some_iff.mp hp).1
     refine ⟨t,_,rfl,s2.seqT ht,rfl,_,_,rfl,_,_,rfl,rfl,?_⟩
     refine ⟨_,rfl,k _ _ eD (by rw [List.length_map,List.length_map,List.length_take]; exact small1000 (by omega)) ⟨fun b o e=>?_,upd_same,?_⟩⟩
     · rw [upd_ne (ne_of_none e hD0)]; exact s2 b o e
     · rw [List.take_succ,hp,List.map_append,List.map_append]; rfl
   · obtain ⟨s2,eD,rfl⟩:=hv
     rw [lvs,List.take_length] at eD
     exact q R H2 hR s2 eD
variable (P w K mg base) in
abbrev C_labels_of:Prop:=Callee P w K mg base "labels_of" 1 ["goes"] (sp_labels_of K)
theorem call_labels_of (B:Blt mg) (ER:Ers K mg)  (F:Fun K "labels_of" "labels_of" s_labels_of f fd) (hm:mg "labels_of" = some (.ref f)):C_labels_of P w K mg base :=
 ⟨f,fd,ok_labels_of B ER  F,hm,F.kp,F.binds fun _ _ _ _ _ _ us hl=>(by obtain ⟨x0,rfl⟩:=len_1 hl; rfl)⟩
def sp_labels_told (K:PySem.W.Frag):Sp:=fun vs H Q _=>∃ (a p:Addr) (ss:List Stt) (ps:List (Str × Str)),vs=[.ref a,.ref p]∧StE K H a ss∧Fits ss∧Prs K H p ps∧ps.length≤60∧∀ (l:Addr) (H':Hp),H l=none→Same H H'→H' l=some (.lst ((labelsOf ss++labelsP ps).map V.str))→Q (.ref l) H'
theorem ok_labels_told (B:Blt mg) (ER:Ers K mg) (c_labels_of:C_labels_of P w K mg base) (F:Fun K "labels_told" "labels_told" s_labels_told f fd):FnOk P w K mg base CX0 2 f fd ["states", "pairs"] (sp_labels_told K):=by
 refine F.ok sc_labels_told (fun vs H Q E h=>?_) (fun cdv A outer s H vs Q E hr h=>?_)
 · obtain ⟨a,p,ss,ps,rfl,_⟩:=h
   rfl
 · obtain ⟨a,p,ss,ps,rfl,⟨vs,hS,lvs,hE⟩,hF,⟨pws,hP,hPD⟩,hpl,q⟩:=h
   have lpws:=hPD.len_map
   have hn8:=hF.n
   have tkl:∀ i,(labelsOf (ss.take i)).length≤128:=fun i=>by
    have:=labelsOf_len (ss.take i) (fun s hs=>hF.gs s (List.mem_of_mem_take hs)) (fun s hs=>hF.es s (List.mem_of_mem_take hs))
    rw [List.length_take] at this
    omega
   refine ⟨_,(pss_cons (ps_set (i:=2) sc_labels_told.nd (pe_lst pa_nil))
    (pss_cons (ps_for PassesOwn.never rfl (pi_list (pv 0)) (pg_tup (n:=2) rfl (pgs_cons (pg_name (i:=3) sc_labels_told.nd) (pgs_cons (pg_name (i:=4) sc_labels_told.nd) pgs_nil))) (pss_cons (ps_expr (pe_bm PySem.F.plainAttrs_list PySem.F.slot_list_extend PySem.F.type_list_extend mr_extend (pv 2) (pa_cons (pe_fn c_labels_of (pa_cons (pv 3) pa_nil)) pa_nil)))
     (pss_one (ps_expr (pe_bm PySem.F.plainAttrs_list PySem.F.slot_list_extend PySem.F.type_list_extend mr_extend (pv 2) (pa_cons (pv 4) pa_nil))))))
    (pss_cons (ps_for PassesOwn.never rfl (pi_list (pv 1)) (pg_tup (n:=2) rfl (pgs_cons (pg_name (i:=5) sc_labels_told.nd) (pgs_cons (pg_name (i:=6) sc_labels_told.nd) pgs_nil))) (pss_cons (ps_expr (pe_bm PySem.F.plainAttrs_list PySem.F.slot_list_append PySem.F.type_list_append mr_append (pv 2) (pa_cons (pv 5) pa_nil)))
     (pss_one (ps_expr (pe_bm PySem.F.plainAttrs_list PySem.F.slot_list_append PySem.F.type_list_append mr_append (pv 2) (pa_cons (pv 6) pa_nil))))))
    (pss_one (ps_ret (pv 2)))))),?_⟩
   refine ⟨by decide,fun D hD=>?_⟩
   refine ⟨_,rfl,a,rfl,⟨_,(same_new hD).seq hS⟩,for_list (xs:=vs) (fun i σ H'=>∃ u3 u4,σ=[some (.ref a),some (.ref p),some (.ref D),u3,u4,none,none]∧Same H H'∧H' D=some (.lst ((labelsOf (ss.take i)).map V.str))) ⟨none,none,rfl,same_new hD,upd_same⟩ (fun i σ H' _ ⟨_,_,_,e,_⟩=>e.seq hS) ?_ ?_⟩
   · rintro i x σ H2 hx ⟨u3,u4,rfl,s2,eD⟩
     have hil:i < ss.length:=by rw [←lvs]; exact (List.getElem?_eq_some_iff.mp hx).1
     have hs:=List.getElem?_eq_getElem hil
     obtain ⟨t,g,e,rfl,ht,hg,he⟩:=hE i x _ hx hs
     have b1:=hF.gs _ (List.mem_of_getElem? hs)
     have b2:=hF.es _ (List.mem_of_getElem? hs)
     have etk:ss.take (i + 1)=ss.take i++[ss[i]]:=by rw [List.take_succ,hs]; rfl
     have tki:=tkl i
     refine ⟨t,_,rfl,s2.seqT ht,rfl,_,_,rfl,_,_,rfl,rfl,?_⟩
     refine ⟨_,rfl,Or.inl ⟨rfl,_,SqL.of eD⟩,_,rfl,g,_,rfl,hg.same s2,by omega,fun l1 H3 hl1 s3 e1=>?_⟩
     have eD3:=s3 _ _ eD
     refine ⟨D,l1,_,_,rfl,rfl,eD3,e1,?_,?_⟩
     · rw [List.length_map,List.length_map,List.length_map]; exact Nat.le_of_lt (small1000 (by omega))
     have eD4:(upd H3 D (.lst ((labelsOf (ss.take i)).map V.str++(ss[i].1.map (·.1)).map V.str))) D=some (.lst ((labelsOf (ss.take i)).map V.str++(ss[i].1.map (·.1)).map V.str)):=upd_same
     have s4:Same H (upd H3 D (.lst ((labelsOf (ss.take i)).map V.str++(ss[i].1.map (·.1)).map V.str))):=fun b o e=>by
      rw [upd_ne (ne_of_none e hD)]; exact s3 _ _ (s2 b o e)
     generalize upd H3 D (.lst ((labelsOf (ss.take i)).map V.str++(ss[i].1.map (·.1)).map V.str))=H4 at eD4 s4 ⊢
     refine ⟨_,rfl,Or.inl ⟨rfl,_,SqL.of eD4⟩,_,rfl,D,e,_,_,rfl,rfl,eD4,s4 _ _ he,?_,?_⟩
     · rw [List.length_append,List.length_map,List.length_map,List.length_map,List.length_map]; exact Nat.le_of_lt (small1000 (by omega))
     refine ⟨_,_,rfl,fun b o e=>?_,?_⟩
     · rw [upd_ne (ne_of_none e hD)]; exact s4 b o e
     · rw [upd_same,etk,labelsOf_snoc,List.map_append,List.map_append]
   · rintro σ H2 ⟨u3,u4,rfl,s2,eD⟩
     rw [lvs,List.take_length] at eD
     have tk8:=tkl ss.length
     rw [List.take_length] at tk8
     refine ⟨_,rfl,p,rfl,⟨_,s2.seq hP⟩,for_list (xs:=pws) (fun i σ H'=>∃ u5 u6,σ=[some (.ref a),some (.ref p),some (.ref D),u3,u4,u5,u6]∧Same H H'∧H' D=some (.lst ((labelsOf ss++labelsP (ps.take i)).map V.str))) ⟨none,none,rfl,s2,by rw [eD]; show _=some (HO.lst ((labelsOf ss++[]).map V.str)); rw [List.append_nil]⟩ (fun i σ H' _ ⟨_,_,_,e,_⟩=>e.seq hP) ?_ ?_⟩
     · rintro i x σ H3 hx ⟨u5,u6,rfl,s3,eD3⟩
       obtain ⟨pr,t,hp,rfl,ht⟩:=hPD.pairs_get hx
       have hil:i < ps.length:=(List.getElem?_eq_some_iff.mp hp).1
       have etk:ps.take (i + 1)=ps.take i++[pr]:=by rw [List.take_succ,hp]; rfl
       have lp:=labelsP_len (ps.take i)
       rw [List.length_take] at lp
       refine ⟨t,_,rfl,s3.seqT ht,rfl,_,_,rfl,_,_,rfl,rfl,?_⟩
       refine ⟨_,rfl,Or.inl ⟨rfl,_,SqL.of eD3⟩,_,rfl,D,_,_,rfl,rfl,eD3,?_,?_⟩
       · rw [List.length_map,List.length_append]; exact small1000 (by omega)
       refine ⟨_,rfl,Or.inl ⟨rfl,_,SqL.of upd_same⟩,_,rfl,D,_,_,rfl,rfl,upd_same,?_,?_⟩
       · rw [List.length_append,List.length_map,List.length_append]; exact small1000 (by simp; omega)
       refine ⟨_,_,rfl,fun b o e=>?_,?_⟩
       · rw [upd_ne (ne_of_none e hD),upd_ne (ne_of_none e hD)]; exact s3 b o e
       · rw [upd_same,etk,labelsP_snoc]; simp only [List.map_append,List.map_cons,List.map_nil,List.append_assoc]
     · rintro σ H3 ⟨u5,u6,rfl,s3,eD3⟩
       rw [lpws,List.take_length] at eD3
       exact ⟨_,rfl,q D H3 hD s3 eD3⟩
variable (P w K mg base) in
abbrev C_labels_told:Prop:=Callee P w K mg base "labels_told" 2 ["states", "pairs"] (sp_labels_told K)
theorem call_labels_told (B:Blt mg) (ER:Ers K mg) (c_labels_of:C_labels_of P w K mg base) (F:Fun K "labels_told" "labels_told" s_labels_told f fd) (hm:mg "labels_told" = some (.ref f)):C_labels_told P w K mg base :=
 ⟨f,fd,ok_labels_told B ER c_labels_of F,hm,F.kp,F.binds fun _ _ _ _ _ _ us hl=>(by obtain ⟨x0,x1,rfl⟩:=len_2 hl; rfl)⟩
def signB (c:Nat):Bool:=decide (97≤c) && decide (c≤122)
def nameB (x:Str):Bool:=decide (1≤x.length) && (decide (x.length≤8) && x.cps.toList.all signB)
theorem sign_a (c:Nat):(!decide ((⟨#[c]⟩:Str).cps.toList < ("a" : Str).cps.toList))=decide (97≤c):=by
 show (!decide (([c]:List Nat) < ("a" : Str).cps.toList))=_
 have e:("a" : Str).cps.toList=[97]:=by decide +kernel
 rw [e,lt_sing]
 by_cases h:c < 97
 · rw [decide_eq_true h,decide_eq_false (by omega)]; rfl
 · rw [decide_eq_false h,decide_eq_true (by omega)]; rfl
theorem sign_z (c:Nat):(!decide (("z" : Str).cps.toList < (⟨#[c]⟩:Str).cps.toList))=decide (c≤122):=by
 show (!decide (("z" : Str).cps.toList < ([c]:List Nat)))=_
 have e:("z" : Str).cps.toList=[122]:=by decide +kernel
 rw [e,lt_sing]
 by_cases h:122 < c
 · rw [decide_eq_true h,decide_eq_false (by omega)]; rfl
 · rw [decide_eq_false h,decide_eq_true (by omega)]; rfl
def sp_is_name (K:PySem.W.Frag):Sp:=fun vs H Q _=>∃ v,vs=[v] ∧
 ((∃ x,v=.str x∧x.length≤1000∧∀ H',Same H H'→Q (.bl (nameB x)) H')∨∃ T,TyN K H v T∧T≠.str∧Q (.bl false) H)
theorem ok_is_name (B:Blt mg) (ER:Ers K mg)  (F:Fun K "is_name" "is_name" s_is_name f fd):FnOk P w K mg base CX0 1 f fd ["thing"] (sp_is_name K):=by
 refine F.ok sc_is_name (fun vs H Q E h=>?_) (fun cdv A outer s H vs Q E hr h=>?_)
 · obtain ⟨v,rfl,_⟩:=h
   rfl
 · obtain ⟨v, rfl, h⟩ := h
   refine ⟨_,(pss_cons (ps_if (PW.pt (pw_or (pt_not (pt_val (pe_callB call_isi B.b_isinstance (pa_cons (pv 0) (pa_cons (pe_ty "str" rfl B.b_str (by decide +kernel)) pa_nil))))) (pw_or1 (pt_not (pt_chain op_le op_le pe_int (pe_callB call_len B.b_len (pa_cons (pv 0) pa_nil)) (pe_glob (v:=.int 8) rfl (Classical.choose_spec B.c_LONGEST_NAME) ⟨_,rfl⟩)))))) (pss_one (ps_ret pe_bl)) pss_nil)
    (pss_one (ps_ret (pe_callB (call_allL rfl) B.b_all (pa_cons (pe_comp rfl is_name_cs1 (pi_str (pv 0)) (fun _ _ _ _ _=>(pg_name (i:=0) is_name_cs1.nd)) (fun _ _ _ _ _=>pf_nil) (fun _ _ _ _ _=>(pe_chain op_leS op_leS pe_str (pv 0) pe_str))) pa_nil))))),?_⟩
   rcases h with ⟨x,rfl,hx,q⟩ | ⟨T,ty,hT,q⟩
   · have hz : x.length ≤ sizeLine := Nat.le_of_lt (small1000 hx)
     refine ⟨_,rfl,_,.str,.str,rfl,.str x,_,rfl,iteF ?_⟩
     refine ⟨_,rfl,_,_,rfl,⟨hz,rfl⟩,_,_,rfl,rfl,_,rfl,?_⟩
     refine ite2 (fun h1=>?_) (fun h1=>?_)
     · have h1:1≤x.length:=by have:=of_decide_eq_true h1; omega
       refine ⟨_,_,rfl,rfl,_,rfl,?_⟩
       refine ite2 (fun h2=>?_) (fun h2=>?_)
       · have h2:¬ x.length≤8:=fun z=>by
          rw [decide_eq_true (show ((x.length:Nat):Int)≤8 by omega)] at h2
          cases h2
         have e:nameB x=false:=by unfold nameB; rw [decide_eq_false h2]; simp
         have:=q H (Same.refl _)
         rw [e] at this
         exact this
       · have h2:x.length≤8:=by
          refine Nat.le_of_not_lt fun z=>h2 ?_
          rw [decide_eq_false (show ¬ ((x.length:Nat):Int)≤8 by omega)]; rfl
         have e:nameB x=(x.cps.toList.map signB).all id:=by
          unfold nameB; rw [decide_eq_true h1,decide_eq_true h2,List.all_map]; rfl
         refine ⟨_,rfl,_,rfl,comp_str (f:=fun c=>V.bl (signB c)) hz (fun i c H2 D R hc s2 hD k=>?_) (fun H2 D s2 hD e2=>?_)⟩
         · refine ⟨_,rfl,_,_,rfl,rfl,_,rfl,?_⟩
           show if (!decide ((⟨#[c]⟩:Str).cps.toList < ("a" : Str).cps.toList))=true then _ else _
           rw [show (!decide ((⟨#[c]⟩:Str).cps.toList < ("a" : Str).cps.toList))=decide (97≤c) from sign_a c]
           refine ite2 (fun h3=>?_) (fun h3=>?_)
           · refine ⟨_,_,rfl,rfl,?_⟩
             rw [show (V.bl ((fun a b:Str=>!decide (b.cps.toList < a.cps.toList)) ⟨#[c]⟩ "z"))=V.bl (decide (c≤122)) from congrArg V.bl (sign_z c)]
             have:=k H2 (Same.refl _)
             unfold signB at this
             rw [h3] at this
             exact this
           · have:=k H2 (Same.refl _)
             unfold signB at this
             rw [Bool.not_eq_true _ |>.mp h3] at this
             exact this
         · refine ⟨_,x.cps.toList.map signB,rfl,SqL.of (by rw [List.map_map]; exact e2),?_⟩
           rw [←e]
           exact q H2 s2
     · have h1:¬ 1≤x.length:=fun z=>h1 (decide_eq_true (by omega))
       have e:nameB x=false:=by unfold nameB; rw [decide_eq_false h1]; rfl
       have:=q H (Same.refl _)
       rw [e] at this
       exact ⟨_,rfl,iteT this⟩
   · refine ⟨_,rfl,_,.str,T,rfl,ty,_,rfl,?_⟩
     cases T with
     | str=>exact absurd rfl hT
     | _=>exact iteT (iteT q)
variable (P w K mg base) in
abbrev C_is_name:Prop:=Callee P w K mg base "is_name" 1 ["thing"] (sp_is_name K)
theorem call_is_name (B:Blt mg) (ER:Ers K mg)  (F:Fun K "is_name" "is_name" s_is_name f fd) (hm:mg "is_name" = some (.ref f)):C_is_name P w K mg base :=
 ⟨f,fd,ok_is_name B ER  F,hm,F.kp,F.binds fun _ _ _ _ _ _ us hl=>(by obtain ⟨x0,rfl⟩:=len_1 hl; rfl)⟩
def sp_refuse_no_names (K:PySem.W.Frag):Sp:=fun vs H Q _=>∃ (a p:Addr) (ss:List Stt) (ps:List (Str × Str)),vs=[.ref a,.ref p]∧StE K H a ss∧Fits ss∧Prs K H p ps∧ps.length≤60∧(∀ x∈labelsOf ss++labelsP ps,nameB x=true)∧∀ H',Same H H'→Q .non H'
theorem ok_refuse_no_names (B:Blt mg) (ER:Ers K mg) (c_labels_told:C_labels_told P w K mg base) (c_is_name:C_is_name P w K mg base) (F:Fun K "refuse_no_names" "refuse_no_names" s_refuse_no_names f fd):FnOk P w K mg base CX0 3 f fd ["states", "pairs"] (sp_refuse_no_names K):=by
 refine F.ok sc_refuse_no_names (fun vs H Q E h=>?_) (fun cdv A outer s H vs Q E hr h=>?_)
 · obtain ⟨a,p,ss,ps,rfl,_⟩:=h
   rfl
 · obtain ⟨a,p,ss,ps,rfl,hS,hF,hP,hpl,hN,q⟩:=h
   refine ⟨_,(pss_one (ps_for PassesOwn.never rfl (pi_list (pe_fn c_labels_told (pa_cons (pv 0) (pa_cons (pv 1) pa_nil)))) (pg_name (i:=2) sc_refuse_no_names.nd) (pss_one (ps_if (pt_not (pt_val (pe_fn c_is_name (pa_cons (pv 2) pa_nil)))) (pss_one ps_never) pss_nil)))),?_⟩
   refine ⟨_,rfl,_,rfl,a,p,ss,ps,rfl,hS,hF,hP,hpl,fun l H1 hl s1 el=>?_⟩
   refine ⟨l,rfl,⟨_,SqL.of el⟩,for_list (xs:=(labelsOf ss++labelsP ps).map V.str) (fun i σ H'=>∃ u2,σ=[some (.ref a),some (.ref p),u2]∧Same H1 H') ⟨none,rfl,Same.refl _⟩ (fun i σ H' _ ⟨_,_,e⟩=>SqL.of (e _ _ el)) ?_ ?_⟩
   · rintro i x σ H2 hx ⟨u2,rfl,s2⟩
     obtain ⟨b,hb,rfl⟩:=map_at hx
     have hn:=hN b (List.mem_of_getElem? hb)
     have hlen:b.length≤8:=by
      unfold nameB at hn
      rw [Bool.and_eq_true,Bool.and_eq_true] at hn
      exact of_decide_eq_true hn.2.1
     refine ⟨_,rfl,_,rfl,Or.inl ⟨b,rfl,by omega,fun H3 s3=>?_⟩⟩
     rw [hn]
     exact ⟨_,rfl,iteF ⟨_,rfl,s2.trans s3⟩⟩
   · rintro σ H2 ⟨u2,rfl,s2⟩
     exact q H2 (s1.trans s2)
variable (P w K mg base) in
abbrev C_refuse_no_names:Prop:=Callee P w K mg base "refuse_no_names" 3 ["states", "pairs"] (sp_refuse_no_names K)
theorem call_refuse_no_names (B:Blt mg) (ER:Ers K mg) (c_labels_told:C_labels_told P w K mg base) (c_is_name:C_is_name P w K mg base) (F:Fun K "refuse_no_names" "refuse_no_names" s_refuse_no_names f fd) (hm:mg "refuse_no_names" = some (.ref f)):C_refuse_no_names P w K mg base :=
 ⟨f,fd,ok_refuse_no_names B ER c_labels_told c_is_name F,hm,F.kp,F.binds fun _ _ _ _ _ _ us hl=>(by obtain ⟨x0,x1,rfl⟩:=len_2 hl; rfl)⟩
def wholeT:Ty→Bool
 | .int=>true
 | _=>false
def sp_is_whole (K:PySem.W.Frag):Sp:=fun vs H Q _=>∃ v T,vs=[v]∧TyN K H v T∧Q (.bl (wholeT T)) H
theorem ok_is_whole (B:Blt mg) (ER:Ers K mg)  (F:Fun K "is_whole" "is_whole" s_is_whole f fd):FnOk P w K mg base CX0 1 f fd ["thing"] (sp_is_whole K):=by
 refine F.ok sc_is_whole (fun vs H Q E h=>?_) (fun cdv A outer s H vs Q E hr h=>?_)
 · obtain ⟨v,T,rfl,_⟩:=h
   rfl
 · obtain ⟨v,T,rfl,ty,q⟩:=h
   refine ⟨_,(pss_one (ps_ret (pe_and (pe_callB call_isi B.b_isinstance (pa_cons (pv 0) (pa_cons (pe_ty "int" rfl B.b_int (by decide +kernel)) pa_nil))) (pe_one (pe_not (pe_callB call_isi B.b_isinstance (pa_cons (pv 0) (pa_cons (pe_ty "bool" rfl B.b_bool (by decide +kernel)) pa_nil)))))))),?_⟩
   refine ⟨_,rfl,_,.int,T,rfl,ty,_,rfl,?_⟩
   cases T with
   | int=>exact iteT ⟨_,rfl,_,.bool,.int,rfl,ty,_,rfl,q⟩
   | bool=>exact iteT ⟨_,rfl,_,.bool,.bool,rfl,ty,_,rfl,q⟩
   | _=>exact iteF q
variable (P w K mg base) in
abbrev C_is_whole:Prop:=Callee P w K mg base "is_whole" 1 ["thing"] (sp_is_whole K)
theorem call_is_whole (B:Blt mg) (ER:Ers K mg)  (F:Fun K "is_whole" "is_whole" s_is_whole f fd) (hm:mg "is_whole" = some (.ref f)):C_is_whole P w K mg base :=
 ⟨f,fd,ok_is_whole B ER  F,hm,F.kp,F.binds fun _ _ _ _ _ _ us hl=>(by obtain ⟨x0,rfl⟩:=len_1 hl; rfl)⟩
def sp_is_place (_:PySem.W.Frag):Sp:=fun vs H Q _=>∃ (n m:Int),vs=[.int n,.int m]∧0≤n∧n < m∧Q (.bl true) H
theorem ok_is_place (B:Blt mg) (ER:Ers K mg) (c_is_whole:C_is_whole P w K mg base) (F:Fun K "is_place" "is_place" s_is_place f fd):FnOk P w K mg base CX0 2 f fd ["number", "many"] (sp_is_place K):=by
 refine F.ok sc_is_place (fun vs H Q E h=>?_) (fun cdv A outer s H vs Q E hr h=>?_)
 · obtain ⟨n,m,rfl,_⟩:=h
   rfl
 · obtain ⟨n,m,rfl,h0,h1,q⟩:=h
   refine ⟨_,(pss_one (ps_ret (pe_and (pe_fn c_is_whole (pa_cons (pv 0) pa_nil)) (pe_one (pe_chain op_le op_lt pe_int (pv 0) (pv 1)))))),?_⟩
   refine ⟨_,rfl,_,.int,rfl,.int n,_,rfl,iteT ?_⟩
   refine ⟨_,rfl,_,_,rfl,rfl,_,rfl,?_⟩
   rw [decide_eq_true h0]
   refine iteT ⟨_,rfl,_,_,rfl,rfl,?_⟩
   have e:V.bl true=V.bl (decide (n < m)):=by rw [decide_eq_true h1]
   rw [e] at q
   exact q
variable (P w K mg base) in
abbrev C_is_place:Prop:=Callee P w K mg base "is_place" 2 ["number", "many"] (sp_is_place K)
theorem call_is_place (B:Blt mg) (ER:Ers K mg) (c_is_whole:C_is_whole P w K mg base) (F:Fun K "is_place" "is_place" s_is_place f fd) (hm:mg "is_place" = some (.ref f)):C_is_place P w K mg base :=
 ⟨f,fd,ok_is_place B ER c_is_whole F,hm,F.kp,F.binds fun _ _ _ _ _ _ us hl=>(by obtain ⟨x0,x1,rfl⟩:=len_2 hl; rfl)⟩
def sp_refuse_no_places (K:PySem.W.Frag):Sp:=fun vs H Q _=>∃ (a:Addr) (ss:List Stt) (n:Int),vs=[.ref a,.int n]∧Stts K H a ss∧0≤n∧n < ss.length∧(∀ s∈ss,∀ g∈s.1,0≤g.2∧g.2 < ss.length)∧Q .non H
theorem ok_refuse_no_places (B:Blt mg) (ER:Ers K mg) (c_is_place:C_is_place P w K mg base) (F:Fun K "refuse_no_places" "refuse_no_places" s_refuse_no_places f fd):FnOk P w K mg base CX0 3 f fd ["states", "inner"] (sp_refuse_no_places K):=by
 refine F.ok sc_refuse_no_places (fun vs H Q E h=>?_) (fun cdv A outer s H vs Q E hr h=>?_)
 · obtain ⟨a,ss,n,rfl,_⟩:=h
   rfl
 · obtain ⟨a,ss,n,rfl,⟨vs,hS,hD⟩,n0,n1,hG,q⟩:=h
   have lvs:=hD.len_map
   refine ⟨_,(pss_cons (ps_if (pt_not (pt_list (pv 0))) (pss_one ps_never) pss_nil)
    (pss_cons (ps_if (pt_not (pt_val (pe_fn c_is_place (pa_cons (pv 1) (pa_cons (pe_callB call_len B.b_len (pa_cons (pv 0) pa_nil)) pa_nil))))) (pss_one ps_never) pss_nil)
    (pss_one (ps_for PassesOwn.never rfl (pi_list (pv 0)) (pg_tup (n:=2) rfl (pgs_cons (pg_name (i:=2) sc_refuse_no_places.nd) (pgs_cons (pg_name (i:=3) sc_refuse_no_places.nd) pgs_nil))) (pss_one (ps_for PassesOwn.never rfl (pi_list (pv 2)) (pg_tup (n:=2) rfl (pgs_cons (pg_name (i:=4) sc_refuse_no_places.nd) (pgs_cons (pg_name (i:=5) sc_refuse_no_places.nd) pgs_nil))) (pss_one (ps_if (pt_not (pt_val (pe_fn c_is_place (pa_cons (pv 5) (pa_cons (pe_callB call_len B.b_len (pa_cons (pv 0) pa_nil)) pa_nil))))) (pss_one ps_never) pss_nil)))))))),?_⟩
   refine ⟨_,rfl,a,vs,rfl,hS,?_⟩
   have hne:vs.isEmpty=false:=by
    cases vs with
    | nil=>simp at lvs; omega
    | cons _ _=>rfl
   rw [hne]
   refine iteF ⟨_,rfl,_,rfl,_,_,rfl,Or.inl ⟨_,hS,rfl⟩,n,_,rfl,n0,by omega,_,rfl,iteF ?_⟩
   refine ⟨_,rfl,a,rfl,⟨_,hS⟩,for_list (xs:=vs) (fun i σ H'=>∃ u2 u3 u4 u5,σ=[some (.ref a),some (.int n),u2,u3,u4,u5]∧H'=H) ⟨none,none,none,none,rfl,rfl⟩ (fun i σ H' _ ⟨_,_,_,_,_,e⟩=>by rw [e]; exact hS) ?_ ?_⟩
   · rintro i x σ H2 hx ⟨u2,u3,u4,u5,rfl,rfl⟩
     obtain ⟨s,t,g,e,hs,rfl,ht,⟨gv,hg,hgd⟩,he⟩:=hD.sts_get hx
     refine ⟨t,_,rfl,ht,rfl,_,_,rfl,_,_,rfl,rfl,?_⟩
     refine ⟨_,rfl,g,rfl,⟨_,hg⟩,for_list (xs:=gv) (fun i σ H'=>∃ u4 u5,σ=[some (.ref a),some (.int n),some (.ref g),some (.ref e),u4,u5]∧H'=H2) ⟨_,_,rfl,rfl⟩ (fun i σ H' _ ⟨_,_,_,e⟩=>by rw [e]; exact hg) ?_ ?_⟩
     · rintro j y σ H3 hy ⟨u4,u5,rfl,rfl⟩
       obtain ⟨p,t',hp,rfl,ht'⟩:=hgd.goes_get hy
       obtain ⟨p0,p1⟩:=hG s (List.mem_of_getElem? hs) p (List.mem_of_getElem? hp)
       refine ⟨t',_,rfl,ht',rfl,_,_,rfl,_,_,rfl,rfl,?_⟩
       exact ⟨_,rfl,_,rfl,_,_,rfl,Or.inl ⟨_,hS,rfl⟩,p.2,_,rfl,p0,by omega,_,rfl,iteF ⟨_,_,rfl,rfl⟩⟩
     · rintro σ H3 ⟨u4,u5,rfl,rfl⟩
       exact ⟨_,_,_,_,rfl,rfl⟩
   · rintro σ H2 ⟨u2,u3,u4,u5,rfl,rfl⟩
     exact q
variable (P w K mg base) in
abbrev C_refuse_no_places:Prop:=Callee P w K mg base "refuse_no_places" 3 ["states", "inner"] (sp_refuse_no_places K)
theorem call_refuse_no_places (B:Blt mg) (ER:Ers K mg) (c_is_place:C_is_place P w K mg base) (F:Fun K "refuse_no_places" "refuse_no_places" s_refuse_no_places f fd) (hm:mg "refuse_no_places" = some (.ref f)):C_refuse_no_places P w K mg base :=
 ⟨f,fd,ok_refuse_no_places B ER c_is_place F,hm,F.kp,F.binds fun _ _ _ _ _ _ us hl=>(by obtain ⟨x0,x1,rfl⟩:=len_2 hl; rfl)⟩
def sp_is_one_twice (K:PySem.W.Frag):Sp:=fun vs H Q _=>∃ (l:Addr) (ls:List Str),vs=[.ref l]∧SqL K H l (ls.map V.str)∧ls.length≤1000∧ls.Nodup∧∀ H',Same H H'→Q (.bl false) H'
theorem ok_is_one_twice (B:Blt mg) (ER:Ers K mg)  (F:Fun K "is_one_twice" "is_one_twice" s_is_one_twice f fd):FnOk P w K mg base CX0 1 f fd ["labels"] (sp_is_one_twice K):=by
 refine F.ok sc_is_one_twice (fun vs H Q E h=>?_) (fun cdv A outer s H vs Q E hr h=>?_)
 · obtain ⟨l,ls,rfl,_⟩:=h
   rfl
 · obtain ⟨l,ls,rfl,hL,hll,hnd,q⟩:=h
   refine ⟨_,(pss_one (ps_ret (pe_cmpR op_lt (pe_callB call_len_setS B.b_len (pa_cons (pe_callTy (call_set_of rfl) B.b_set (pa_cons (pv 0) pa_nil)) pa_nil)) (pe_callB call_len B.b_len (pa_cons (pv 0) pa_nil)) (nomark _)))),?_⟩
   refine ⟨_,rfl,l,ls,rfl,hL,hll,fun s n hn hs=>?_⟩
   refine ⟨_,n,rfl,upd_same,by rw [hn.mpr hnd]; exact hll,_,rfl,_,ls.length,rfl,Or.inl ⟨_,(same_new hs).seq hL,by rw [List.length_map]⟩,_,_,rfl,rfl,?_⟩
   have key:∀ o,Q (V.bl (decide ((n:Int) < (ls.length:Int)))) (upd H s o):=fun o=>by
    have:=q _ (same_new (o:=o) hs)
    rw [show V.bl false=V.bl (decide ((n:Int) < (ls.length:Int))) by rw [hn.mpr hnd,decide_eq_false (by omega)]] at this
    exact this
   exact key _
variable (P w K mg base) in
abbrev C_is_one_twice:Prop:=Callee P w K mg base "is_one_twice" 1 ["labels"] (sp_is_one_twice K)
theorem call_is_one_twice (B:Blt mg) (ER:Ers K mg)  (F:Fun K "is_one_twice" "is_one_twice" s_is_one_twice f fd) (hm:mg "is_one_twice" = some (.ref f)):C_is_one_twice P w K mg base :=
 ⟨f,fd,ok_is_one_twice B ER  F,hm,F.kp,F.binds fun _ _ _ _ _ _ us hl=>(by obtain ⟨x0,rfl⟩:=len_1 hl; rfl)⟩
def sp_refuse_twice (K:PySem.W.Frag):Sp:=fun vs H Q _=>∃ (a:Addr) (ss:List Stt),vs=[.ref a]∧Stts K H a ss∧Fits ss∧(∀ s∈ss,(s.1.map (·.1)).Nodup∧s.2.Nodup)∧∀ H',Same H H'→Q .non H'
theorem ok_refuse_twice (B:Blt mg) (ER:Ers K mg) (c_is_one_twice:C_is_one_twice P w K mg base) (c_labels_of:C_labels_of P w K mg base) (F:Fun K "refuse_twice" "refuse_twice" s_refuse_twice f fd):FnOk P w K mg base CX0 2 f fd ["states"] (sp_refuse_twice K):=by
 refine F.ok sc_refuse_twice (fun vs H Q E h=>?_) (fun cdv A outer s H vs Q E hr h=>?_)
 · obtain ⟨a,ss,rfl,_⟩:=h
   rfl
 · obtain ⟨a,ss,rfl,⟨vs,hS,hD⟩,hF,hN,q⟩:=h
   have lvs:=hD.len_map
   refine ⟨_,(pss_one (ps_for PassesOwn.never rfl (pi_list (pv 0)) (pg_tup (n:=2) rfl (pgs_cons (pg_name (i:=1) sc_refuse_twice.nd) (pgs_cons (pg_name (i:=2) sc_refuse_twice.nd) pgs_nil))) (pss_cons (ps_if (pt_val (pe_fn c_is_one_twice (pa_cons (pe_fn c_labels_of (pa_cons (pv 1) pa_nil)) pa_nil))) (pss_one ps_never) pss_nil)
    (pss_one (ps_if (pt_val (pe_fn c_is_one_twice (pa_cons (pv 2) pa_nil))) (pss_one ps_never) pss_nil))))),?_⟩
   refine ⟨_,rfl,a,rfl,⟨_,hS⟩,for_list (xs:=vs) (fun i σ H'=>∃ u1 u2,σ=[some (.ref a),u1,u2]∧Same H H') ⟨none,none,rfl,Same.refl _⟩ (fun i σ H' _ ⟨_,_,_,e⟩=>e.seq hS) ?_ ?_⟩
   · rintro i x σ H2 hx ⟨u1,u2,rfl,s2⟩
     obtain ⟨s,t,g,e,hs,rfl,ht,hg,he⟩:=hD.sts_get hx
     have b1:=hF.gs s (List.mem_of_getElem? hs)
     have b2:=hF.es s (List.mem_of_getElem? hs)
     obtain ⟨d1,d2⟩:=hN s (List.mem_of_getElem? hs)
     refine ⟨t,_,rfl,s2.seqT ht,rfl,_,_,rfl,_,_,rfl,rfl,?_⟩
     refine ⟨_,rfl,g,s.1,rfl,hg.same s2,by omega,fun l H3 hl s3 el=>?_⟩
     refine ⟨l,_,rfl,SqL.of el,by rw [List.length_map]; omega,d1,fun H4 s4=>⟨_,rfl,iteF ?_⟩⟩
     have s24:=(s2.trans s3).trans s4
     exact ⟨_,rfl,e,s.2,rfl,s24.seq he,by omega,d2,fun H5 s5=>⟨_,rfl,iteF ⟨_,_,rfl,s24.trans s5⟩⟩⟩
   · rintro σ H2 ⟨u1,u2,rfl,s2⟩
     exact q H2 s2
variable (P w K mg base) in
abbrev C_refuse_twice:Prop:=Callee P w K mg base "refuse_twice" 2 ["states"] (sp_refuse_twice K)
theorem call_refuse_twice (B:Blt mg) (ER:Ers K mg) (c_is_one_twice:C_is_one_twice P w K mg base) (c_labels_of:C_labels_of P w K mg base) (F:Fun K "refuse_twice" "refuse_twice" s_refuse_twice f fd) (hm:mg "refuse_twice" = some (.ref f)):C_refuse_twice P w K mg base :=
 ⟨f,fd,ok_refuse_twice B ER c_is_one_twice c_labels_of F,hm,F.kp,F.binds fun _ _ _ _ _ _ us hl=>(by obtain ⟨x0,rfl⟩:=len_1 hl; rfl)⟩
def sp_worse_by_better (K:PySem.W.Frag):Sp:=fun vs H Q _=>∃ p ps,vs=[.ref p]∧Prs K H p ps∧ps.length≤100∧∀ d ks H',H d=none→Same H H'→WBB H' d ps ks→ks.length≤ps.length→Q (.ref d) H'
theorem ok_worse_by_better (B : Blt mg) (ER : Ers K mg)  (F : Fun K "worse_by_better" "worse_by_better" s_worse_by_better f fd) : FnOk P w K mg base CX0 1 f fd ["pairs"] (sp_worse_by_better K) := by
 refine F.ok sc_worse_by_better (fun vs H Q E h=>?_) (fun cdv A outer s H vs Q E hr h=>?_)
 · obtain ⟨p,ps,rfl,_⟩:=h
   rfl
 · obtain ⟨p,ps,rfl,⟨vs,hS,hD⟩,hlen,q⟩:=h
   have lvs:vs.length=ps.length:=by have:=hD.length; rw [List.length_map] at this; exact this
   refine ⟨_,(pss_cons (ps_set (i:=1) sc_worse_by_better.nd pe_dnewK)
    (pss_cons (ps_for PassesOwn.never rfl (pi_list (pv 0)) (pg_tup (n:=2) rfl (pgs_cons (pg_name (i:=2) sc_worse_by_better.nd) (pgs_cons (pg_name (i:=3) sc_worse_by_better.nd) pgs_nil))) (pss_one (ps_expr (pe_bm PySem.F.plainAttrs_list PySem.F.slot_list_append PySem.F.type_list_append mr_append (pe_bm PySem.F.plainAttrs_dict PySem.F.slot_dict_setdefault PySem.F.type_dict_setdefault mt_setdefault (pv 1) (pa_cons (pv 2) (pa_cons (pe_lst pa_nil) pa_nil))) (pa_cons (pv 3) pa_nil)))))
    (pss_one (ps_ret (pv 1))))),?_⟩
   intro d hd
   refine ⟨_,rfl,p,rfl,⟨vs,(same_new hd).seq hS⟩,for_list (xs:=vs) (fun i σ H'=>∃ u2 u3 ks,σ=[some (.ref p),some (.ref d),u2,u3]∧Same H H'∧WBB H' d (ps.take i) ks∧(∀ q∈ks,H q.2=none)∧ks.length≤i) ⟨none,none,[],rfl,same_new hd,WBB.start upd_same,fun q hq=>by simp at hq,Nat.le_refl _⟩ (fun i σ H' _ ⟨_,_,_,_,s2,_⟩=>s2.seq hS) ?_ ?_⟩
   · rintro i x σ H2 hx ⟨u2,u3,ks,rfl,s2,W,hk,hkl⟩
     obtain ⟨pr,t,hp,rfl,ht⟩:=hD.pairs_get hx
     have hil:i < ps.length:=(List.getElem?_eq_some_iff.mp hp).1
     have etk:ps.take (i + 1)=ps.take i++[(pr.1,pr.2)]:=by rw [List.take_succ,hp]; rfl
     have wl:∀ b,(worseOf (ps.take i) b).length≤100:=fun b=>by
      unfold worseOf
      rw [List.length_map]
      refine Nat.le_trans (List.length_filter_le _ _) ?_
      rw [List.length_take]; omega
     refine ⟨t,_,rfl,s2.seqT ht,rfl,_,_,rfl,_,_,rfl,rfl,?_⟩
     refine ⟨_,rfl,Or.inr (Or.inr (Or.inl ⟨rfl,Or.inl ⟨_,W.dict⟩⟩)),_,rfl,by decide,fun a ha=>?_⟩
     have nda:d≠a:=ne_of_none W.dict ha
     have haH:H a=none:=s2.free ha
     refine ⟨d,kvR ks,Sum.inr pr.1,.ref a,rfl,rfl,by rw [upd_ne nda]; exact W.dict,small1000 (by rw [List.length_map]; omega),fun v hv=>?_,fun hn=>?_⟩
     · rw [val_R] at hv
       obtain ⟨a0,h0,rfl⟩:=Option.map_eq_some_iff.mp hv
       have W1:WBB (upd H2 a (.lst [])) d (ps.take i) ks:=W.same (same_new ha)
       have hl:=W1.worse.1 a0 h0
       refine ⟨Or.inl ⟨rfl,_,SqL.of hl⟩,_,rfl,a0,_,_,rfl,rfl,hl,small1000 (by rw [List.length_map]; exact Nat.le_trans (wl _) (by decide)),?_⟩
       refine ⟨_,_,ks,rfl,fun b o e=>?_,by rw [etk]; exact W1.known h0,hk,Nat.le_succ_of_le hkl⟩
       have n0:b≠a0:=ne_of_none e (hk _ (lookA_mem h0))
       rw [upd_ne n0,upd_ne (ne_of_none e haH)]
       exact s2 b o e
     · rw [val_R] at hn
       have h0:ks.lookup pr.1=none:=by
        cases e:ks.lookup pr.1 with
        | none=>rfl
        | some z=>rw [e] at hn; cases hn
       have hl:(upd (upd H2 a (.lst [])) d (.dK (putK (kvR ks) (Sum.inr pr.1) (.ref a)))) a=some (.lst []):=by rw [upd_ne nda.symm,upd_same]
       refine ⟨Or.inl ⟨rfl,_,SqL.of hl⟩,_,rfl,a,_,_,rfl,rfl,hl,small1000 (by decide),?_⟩
       refine ⟨_,_,ks++[(pr.1,a)],rfl,fun b o e=>?_,by rw [etk]; exact W.more h0 ha,fun z hz=>?_,by rw [List.length_append]; exact Nat.add_le_add_right hkl 1⟩
       · rw [upd_ne (ne_of_none e haH),upd_ne (ne_of_none e hd),upd_ne (ne_of_none e haH)]
         exact s2 b o e
       · rcases List.mem_append.mp hz with hz | hz
         · exact hk z hz
         · rw [List.mem_singleton] at hz; subst hz; exact haH
   · rintro σ H2 ⟨u2,u3,ks,rfl,s2,W,hk,hkl⟩
     rw [lvs,List.take_length] at W
     rw [lvs] at hkl
     exact ⟨_,rfl,q d ks H2 hd s2 W hkl⟩
variable (P w K mg base) in
abbrev C_worse_by_better:Prop:=Callee P w K mg base "worse_by_better" 1 ["pairs"] (sp_worse_by_better K)
theorem call_worse_by_better (B:Blt mg) (ER:Ers K mg)  (F:Fun K "worse_by_better" "worse_by_better" s_worse_by_better f fd) (hm:mg "worse_by_better" = some (.ref f)):C_worse_by_better P w K mg base :=
 ⟨f,fd,ok_worse_by_better B ER  F,hm,F.kp,F.binds fun _ _ _ _ _ _ us hl=>(by obtain ⟨x0,rfl⟩:=len_1 hl; rfl)⟩
def sp_reached (_:PySem.W.Frag):Sp:=fun vs H Q _=>∃ d ks ps st,vs=[.ref d,.str st]∧WBB H d ps ks∧ps.length≤100∧∀ c cf H',H c=none→Same H H'→H' c=some (.dK (kvS cf))→Tree ps st cf→Full ps st cf→Q (.ref c) H'
theorem ok_reached (B : Blt mg) (ER : Ers K mg)  (F : Fun K "reached" "reached" s_reached f fd) : FnOk P w K mg base CX0 1 f fd ["worse_labels", "start"] (sp_reached K) := by
 refine F.ok sc_reached (fun vs H Q E h=>?_) (fun cdv A outer s H vs Q E hr h=>?_)
 · obtain ⟨d,ks,ps,st,rfl,_⟩:=h
   rfl
 · obtain ⟨d,ks,ps,st,rfl,W,hlen,q⟩:=h
   refine ⟨_,(pss_cons (ps_set (i:=2) sc_reached.nd pe_dnewK)
    (pss_cons (ps_set (i:=3) sc_reached.nd (pe_lst (pa_cons (pv 1) pa_nil)))
    (pss_cons (ps_while PassesOwn.never (pt_list (pv 3)) (pss_cons (ps_set (i:=4) sc_reached.nd (pe_lst pa_nil))
     (pss_cons (ps_for PassesOwn.never rfl (pi_list (pv 3)) (pg_name (i:=5) sc_reached.nd) (pss_one (ps_for PassesOwn.never rfl (pi_list (pe_bm PySem.F.plainAttrs_dict PySem.F.slot_dict_get PySem.F.type_dict_get (mt_get (hu_of hr)) (pv 0) (pa_cons (pv 5) (pa_cons (pe_lst pa_nil) pa_nil)))) (pg_name (i:=6) sc_reached.nd) (pss_one (ps_if (pt_cmpR (op_notinDict (hu_of hr)) (pv 6) (pv 2) (by with_unfolding_all rfl)) (pss_cons (ps_asg (pv 5) (pg_sub (pv 2) (pv 6) (set_dict (hu_of hr))))
           (pss_one (ps_expr (pe_bm PySem.F.plainAttrs_list PySem.F.slot_list_append PySem.F.type_list_append mr_append (pv 4) (pa_cons (pv 6) pa_nil))))) pss_nil)))))
     (pss_one (ps_set (i:=3) sc_reached.nd (pv 4))))))
    (pss_one (ps_ret (pv 2)))))),?_⟩
   intro c hc
   refine ⟨_,rfl,one_le,fun l hl=>?_⟩
   have hlH:H l=none:=(same_new hc).free hl
   have ncl:c≠l:=ne_of_none upd_same hl
   refine ⟨fun m σ H'=>∃ u4 u5 u6 cf ly la,σ=[some (.ref d),some (.str st),some (.ref c),some (.ref la),u4,u5,u6]∧Same H H'∧H la=none∧H' c=some (.dK (kvS cf))∧H' la=some (.lst (ly.map V.str))∧Lay ps st cf ly []∧m=2 * (ps.length - cf.length) + (if ly.length=0 then 0 else 1),⟨_,none,none,none,[],[st],l,rfl,(same_new hc).trans (same_new hl),hlH,?_,upd_same,Lay.start,rfl⟩,?_⟩
   · rw [upd_ne ncl,upd_same]; rfl
   rintro m σ H1 ⟨u4,u5,u6,cf,ly,la,rfl,s1,hlaH,ec,ela,L,em⟩
   refine ⟨_,rfl,la,_,rfl,SqL.of ela,?_⟩
   cases ly with
   | nil=>exact iteF ⟨_,rfl,q c cf H1 hc s1 ec L.tree L.done⟩
   | cons b0 ly0 =>
     refine iteT ?_
     generalize hly:b0 :: ly0=ly at *
     have hlp:0 < ly.length:=by rw [←hly]; exact Nat.succ_pos _
     refine ⟨fun σ' H'=>∃ u5 u6 cf' fu fa,σ'=[some (.ref d),some (.str st),some (.ref c),some (.ref fa),some (.ref fa),u5,u6]∧Same H H'∧H fa=none∧H' c=some (.dK (kvS cf'))∧H' fa=some (.lst (fu.map V.str))∧Lay ps st cf' fu []∧cf'.length=cf.length + fu.length,?_,?_⟩
     · rintro σ' H' ⟨u5,u6,cf',fu,fa,rfl,s2,hfa,ec2,efa,L2,el⟩
       refine ⟨_,?_,_,u5,u6,cf',fu,fa,rfl,s2,hfa,ec2,efa,L2,rfl⟩
       have h1:=L2.tree.length
       rw [em,if_neg (show ¬ ly.length=0 by omega)]
       by_cases hf0:fu.length=0
       · rw [if_pos hf0]; omega
       · rw [if_neg hf0]; omega
     refine ⟨by decide,fun fa hfa=>?_⟩
     have hfaH:H fa=none:=s1.free hfa
     have ncf:c≠fa:=ne_of_none ec hfa
     have nlf:la≠fa:=ne_of_none ela hfa
     have ncla:c≠la:=ne_of ec ela (by intro z; cases z)
     refine ⟨_,rfl,la,rfl,⟨_,SqL.of (by rw [upd_ne nlf]; exact ela)⟩,for_list (xs:=ly.map V.str) (fun i σ H'=>∃ u5 u6 cf' fu,σ=[some (.ref d),some (.str st),some (.ref c),some (.ref la),some (.ref fa),u5,u6]∧Same H H'∧H' la=some (.lst (ly.map V.str))∧H' c=some (.dK (kvS cf'))∧H' fa=some (.lst (fu.map V.str))∧Lay ps st cf' (ly.drop i) fu∧cf'.length=cf.length + fu.length)
      ⟨_,_,cf,[],rfl,s1.trans (same_new hfa),by rw [upd_ne nlf]; exact ela,by rw [upd_ne ncf]; exact ec,upd_same,L,rfl⟩ (fun i σ H' _ ⟨_,_,_,_,_,_,e,_⟩=>SqL.of e) ?_ ?_⟩
     · rintro i x σ H2 hx ⟨u5,u6,cf',fu,rfl,s2,ela2,ec2,efa2,L2,el⟩
       obtain ⟨b,hb,rfl⟩:∃ b,ly[i]?=some b∧x=V.str b:=by
        rw [List.getElem?_map] at hx
        obtain ⟨b,h1,h2⟩:=Option.map_eq_some_iff.mp hx
        exact ⟨b,h1,h2.symm⟩
       have hil:i < ly.length:=(List.getElem?_eq_some_iff.mp hb).1
       have edr:ly.drop i=b :: ly.drop (i + 1):=by
        rw [List.drop_eq_getElem_cons hil]
        rw [List.getElem?_eq_getElem hil] at hb
        rw [Option.some.inj hb]
       rw [edr] at L2
       have W2:=W.same s2
       refine ⟨_,rfl,Or.inr (Or.inr (Or.inl ⟨rfl,Or.inl ⟨_,W2.dict⟩⟩)),_,rfl,by decide,fun na hna=>?_⟩
       have hnaH:H na=none:=s2.free hna
       have s3:=s2.trans (same_new (o:=.lst []) hna)
       have nac:c≠na:=ne_of_none ec2 hna
       have naf:fa≠na:=ne_of_none efa2 hna
       have nal:la≠na:=ne_of_none ela2 hna
       have W3:=W.same s3
       obtain ⟨wa,hwa,ewa,nwc,nwf,nwl⟩:∃ wa,((ks.lookup b).map V.ref).getD (.ref na)=.ref wa∧(upd H2 na (.lst [])) wa=some (.lst ((worseOf ps b).map V.str))∧wa≠c∧wa≠fa∧wa≠la:=by
        cases e:ks.lookup b with
        | none=>exact ⟨na,rfl,by rw [upd_same,W.worse.2 e]; rfl,nac.symm,naf.symm,nal.symm⟩
        | some a0 =>
          have h0:=W.worse.1 a0 e
          exact ⟨a0,rfl,s3 _ _ h0,ne_of_none h0 hc,ne_of_none h0 hfaH,ne_of_none h0 hlaH⟩
       refine ⟨d,_,_,((ks.lookup b).map V.ref),rfl,rfl,by rw [←val_R]; exact DGet.k (k:=Sum.inr b) W3.dict,?_⟩
       rw [hwa]
       refine ⟨wa,rfl,⟨_,SqL.of ewa⟩,for_list (xs:=(worseOf ps b).map V.str) (fun j σ H'=>∃ u6 cf' fu,σ=[some (.ref d),some (.str st),some (.ref c),some (.ref la),some (.ref fa),some (.str b),u6]∧Same H H'∧H' wa=some (.lst ((worseOf ps b).map V.str))∧H' la=some (.lst (ly.map V.str))∧H' c=some (.dK (kvS cf'))∧H' fa=some (.lst (fu.map V.str))∧LayB ps st b ((worseOf ps b).take j) cf' (ly.drop (i + 1)) fu∧cf'.length=cf.length + fu.length)
        ⟨_,cf',fu,rfl,s3,ewa,by rw [upd_ne nal]; exact ela2,by rw [upd_ne nac]; exact ec2,by rw [upd_ne naf]; exact efa2,L2.into,el⟩ (fun j σ H' _ ⟨_,_,_,_,_,e,_⟩=>SqL.of e) ?_ ?_⟩
       · rintro j y σ H4 hy ⟨u6,cf2,fu2,rfl,s4,ewa4,ela4,ec4,efa4,L4,el4⟩
         obtain ⟨w,hw,rfl⟩:∃ w,(worseOf ps b)[j]?=some w∧y=V.str w:=by
          rw [List.getElem?_map] at hy
          obtain ⟨w,h1,h2⟩:=Option.map_eq_some_iff.mp hy
          exact ⟨w,h1,h2.symm⟩
         have etk:(worseOf ps b).take (j + 1)=(worseOf ps b).take j++[w]:=by rw [List.take_succ,hw]; rfl
         have hmem:(b,w)∈ps:=mem_worseOf.mp (List.mem_of_getElem? hw)
         refine ⟨_,rfl,_,rfl,c,_,rfl,DGet.k (k:=Sum.inr w) ec4,_,rfl,?_⟩
         rw [val_S]
         cases e:cf2.lookup w with
         | some z =>
           refine iteF ?_
           have hk:w∈cf2.map (·.1):=List.mem_map.mpr ⟨_,look_mem e,rfl⟩
           exact ⟨_,cf2,fu2,rfl,s4,ewa4,ela4,ec4,efa4,by rw [etk]; exact L4.known hk,el4⟩
         | none =>
           refine iteT ?_
           have hk:w ∉ cf2.map (·.1):=lookA_none e
           have hv:valV (kvS cf2) (Sum.inr w)=none:=by rw [val_S,e]; rfl
           have L5:=L4.more hk hmem
           have hcl:=L4.tree.length
           have hfl:fu2.length≤100:=by omega
           have ncf':c≠fa:=ne_of ec4 efa4 (by intro z; cases z)
           refine ⟨_,rfl,_,rfl,_,rfl,c,_,rfl,DPut.k (k:=Sum.inr w) ec4 (small1000 (by rw [List.length_map]; omega)),?_⟩
           have efa5:(upd H4 c (.dK (putK (kvS cf2) (Sum.inr w) (.str b)))) fa=some (.lst (fu2.map V.str)):=by rw [upd_ne ncf'.symm]; exact efa4
           refine ⟨_,rfl,Or.inl ⟨rfl,_,SqL.of efa5⟩,_,rfl,fa,_,_,rfl,rfl,efa5,small1000 (by rw [List.length_map]; omega),?_⟩
           refine ⟨_,cf2++[(w,b)],fu2++[w],rfl,fun z o ez=>?_,?_,?_,?_,?_,by rw [etk]; exact L5,by rw [List.length_append,List.length_append,el4]; simp; omega⟩
           · rw [upd_ne (ne_of_none ez hfaH),upd_ne (ne_of_none ez hc)]
             exact s4 z o ez
           · rw [upd_ne nwf,upd_ne nwc]; exact ewa4
           · rw [upd_ne nlf,upd_ne ncla.symm]; exact ela4
           · rw [upd_ne ncf',upd_same,putK_new _ hv]
             simp [kvS]
           · rw [upd_same,List.map_append]; rfl
       · rintro σ H4 ⟨u6,cf2,fu2,rfl,s4,ewa4,ela4,ec4,efa4,L4,el4⟩
         rw [List.length_map,List.take_length] at L4
         exact ⟨_,_,cf2,fu2,rfl,s4,ela4,ec4,efa4,L4.out,el4⟩
     · rintro σ H2 ⟨u5,u6,cf',fu,rfl,s2,ela2,ec2,efa2,L2,el⟩
       rw [List.length_map,List.drop_length] at L2
       exact ⟨_,rfl,_,_,cf',fu,fa,rfl,s2,hfaH,ec2,efa2,L2.next,el⟩
variable (P w K mg base) in
abbrev C_reached:Prop:=Callee P w K mg base "reached" 1 ["worse_labels", "start"] (sp_reached K)
theorem call_reached (B:Blt mg) (ER:Ers K mg)  (F:Fun K "reached" "reached" s_reached f fd) (hm:mg "reached" = some (.ref f)):C_reached P w K mg base :=
 ⟨f,fd,ok_reached B ER  F,hm,F.kp,F.binds fun _ _ _ _ _ _ us hl=>(by obtain ⟨x0,x1,rfl⟩:=len_2 hl; rfl)⟩
def ltP (p q:Str × Str):Prop:=ltS p.1 q.1∨(p.1=q.1∧ltS p.2 q.2)
structure OrdOf (ps ord:List (Str × Str)):Prop where
 mem:∀ a b,(a,b)∈ord↔Path ps a b
 srt:ord.Pairwise ltP
structure OrdUp (ps:List (Str × Str)) (kk:List Str) (ord:List (Str × Str)):Prop where
 mem:∀ a b,(a,b)∈ord↔a∈kk∧Path ps a b
 srt:ord.Pairwise ltP
theorem OrdUp.more {ps:List (Str × Str)} {kk ss:List Str} {b:Str} {ord:List (Str × Str)} (O:OrdUp ps kk ord) (hk:(kk++[b]).Pairwise ltS) (hs:ss.Pairwise ltS) (hm:∀ w,w∈ss↔Path ps b w):OrdUp ps (kk++[b]) (ord++ss.map fun w=>(b,w)):=by
 refine ⟨fun x y=>?_,?_⟩
 · rw [List.mem_append,O.mem,List.mem_append,List.mem_singleton,List.mem_map]
   constructor
   · rintro (⟨h1,h2⟩ | ⟨w,hw,e⟩)
     · exact ⟨.inl h1,h2⟩
     · cases e
       exact ⟨.inr rfl,(hm _).mp hw⟩
   · rintro ⟨h1 | h1,h2⟩
     · exact .inl ⟨h1,h2⟩
     · subst h1
       exact .inr ⟨y,(hm y).mpr h2,rfl⟩
 · rw [List.pairwise_append] at hk ⊢
   refine ⟨O.srt,?_,fun x hx y hy=>?_⟩
   · rw [List.pairwise_map]
     exact hs.imp fun {x y} h=>.inr ⟨rfl,h⟩
   · obtain ⟨w,_,rfl⟩:=List.mem_map.mp hy
     obtain ⟨x1,x2⟩:=x
     exact .inl (hk.2.2 x1 ((O.mem x1 x2).mp hx).1 b (by simp))
theorem perm_mem {l m:List Str} (h:l.Perm m) {x:Str}:x∈l↔x∈m:=h.mem_iff
def sp_all_that_follows (K:PySem.W.Frag):Sp:=fun vs H Q _=>∃ (p:Addr) (ps:List (Str × Str)),vs=[.ref p]∧Prs K H p ps∧ps.length≤60∧∀ (ts:List Addr) (ord:List (Str × Str)) (D:Addr) (H':Hp),OrdOf ps ord→ord.length≤4000→H D=none→Same H H'→H' D=some (.lst (ts.map V.ref))→Tups H' ts ord→Q (.ref D) H'
theorem ok_all_that_follows (B : Blt mg) (ER : Ers K mg) (c_worse_by_better : C_worse_by_better P w K mg base) (c_reached : C_reached P w K mg base) (F : Fun K "all_that_follows" "all_that_follows" s_all_that_follows f fd) : FnOk P w K mg base CX0 2 f fd ["pairs"] (sp_all_that_follows K) := by
 refine F.ok sc_all_that_follows (fun vs H Q E h=>?_) (fun cdv A outer s H vs Q E hr h=>?_)
 · obtain ⟨p,ps,rfl,_⟩:=h
   rfl
 · obtain ⟨p,ps,rfl,hP,hlen,q⟩:=h
   refine ⟨_,(pss_cons (ps_set (i:=1) sc_all_that_follows.nd (pe_fn c_worse_by_better (pa_cons (pv 0) pa_nil)))
    (pss_cons (ps_set (i:=2) sc_all_that_follows.nd (pe_lst pa_nil))
    (pss_cons (ps_for PassesOwn.never rfl (pi_list (pe_callB (call_sortD rfl) B.b_sorted (pa_cons (pv 1) pa_nil))) (pg_name (i:=3) sc_all_that_follows.nd) (pss_one (ps_for PassesOwn.never rfl (pi_list (pe_callB (call_sortD rfl) B.b_sorted (pa_cons (pe_fn c_reached (pa_cons (pv 1) (pa_cons (pv 3) pa_nil))) pa_nil))) (pg_name (i:=4) sc_all_that_follows.nd) (pss_one (ps_expr (pe_bm PySem.F.plainAttrs_list PySem.F.slot_list_append PySem.F.type_list_append mr_append (pv 2) (pa_cons (pe_tup (pa_cons (pv 3) (pa_cons (pv 4) pa_nil))) pa_nil)))))))
    (pss_one (ps_ret (pv 2)))))),?_⟩
   refine ⟨_,rfl,p,ps,rfl,hP,by omega,fun d ks H1 hd s1 W hkl=>?_⟩
   refine ⟨by decide,fun D hD=>?_⟩
   have hDH:H D=none:=s1.free hD
   have s2:=s1.trans (same_new (o:=.lst []) hD)
   have W2:=W.same (same_new (o:=.lst []) hD)
   have eD2:(upd H1 D (.lst [])) D=some (.lst []):=upd_same
   generalize upd H1 D (.lst [])=H2 at s2 W2 eD2 ⊢
   have hkeys:(kvR ks).map (·.1)=(ks.map (·.1)).map Sum.inr:=by rw [List.map_map,List.map_map]; rfl
   refine ⟨_,rfl,d,_,ks.map (·.1),rfl,W2.dict,hkeys,by rw [List.length_map]; omega,fun S kk hkp hks hS=>?_⟩
   have ndk:kk.Nodup:=hkp.nodup_iff.mpr W2.nd
   have pwk:kk.Pairwise ltS:=sorted_pw hks ndk
   have lkk:kk.length≤60:=by rw [hkp.length_eq,List.length_map]; omega
   have s3:=same_new (o:=.lst (kk.map V.str)) hS
   have eS:(upd H2 S (.lst (kk.map V.str))) S=some (.lst (kk.map V.str)):=upd_same
   have hSH:H S=none:=s2.free hS
   have nSD:S≠D:=fun z=>by rw [z,eD2] at hS; cases hS
   have eD3:(upd H2 S (.lst (kk.map V.str))) D=some (.lst []):=s3 _ _ eD2
   have W3:=W2.same s3
   have s03:=s2.trans s3
   generalize upd H2 S (.lst (kk.map V.str))=H3 at s3 eS eD3 W3 s03 ⊢
   have hdD:d≠D:=ne_of W3.dict eD3 (by intro z; cases z)
   refine ⟨S,rfl,⟨_,SqL.of eS⟩,for_list (xs:=kk.map V.str) (fun i σ H'=>∃ u3 u4 ts ord,σ=[some (.ref p),some (.ref d),some (.ref D),u3,u4]∧Same H H'∧H' S=some (.lst (kk.map V.str))∧WBB H' d ps ks∧H' D=some (.lst (ts.map V.ref))∧Tups H' ts ord∧OrdUp ps (kk.take i) ord∧ord.length≤60 * i)
    ⟨none,none,[],[],rfl,s03,eS,W3,eD3,Tups.nil,⟨fun a b=>by simp,List.Pairwise.nil⟩,Nat.le_refl _⟩ (fun i σ H' _ ⟨_,_,_,_,_,_,e,_⟩=>SqL.of e) ?_ ?_⟩
   · rintro i x σ H4 hx ⟨u3,u4,ts,ord,rfl,s4,eS4,W4,eD4,T4,O4,ol⟩
     obtain ⟨b,hb,rfl⟩:=map_at hx
     have hil:i < kk.length:=(List.getElem?_eq_some_iff.mp hb).1
     have etk:kk.take (i + 1)=kk.take i++[b]:=by rw [List.take_succ,hb]; rfl
     refine ⟨_,rfl,_,rfl,d,ks,ps,b,rfl,W4,by omega,fun c cf H5 hc s5 ec Tr Fu=>?_⟩
     have hcf:cf.length≤60:=Nat.le_trans Tr.length hlen
     have hck:(kvS cf).map (·.1)=(cf.map (·.1)).map Sum.inr:=by rw [List.map_map,List.map_map]; rfl
     refine ⟨c,_,cf.map (·.1),rfl,ec,hck,by rw [List.length_map]; omega,fun S2 ss hsp hss hS2=>?_⟩
     have nds:ss.Nodup:=hsp.nodup_iff.mpr Tr.nd
     have pws:ss.Pairwise ltS:=sorted_pw hss nds
     have lss:ss.length≤60:=by rw [hsp.length_eq,List.length_map]; exact hcf
     have hms:∀ w,w∈ss↔Path ps b w:=fun w=>(perm_mem hsp).trans (Tr.iff Fu)
     have s6:=s5.trans (same_new (o:=.lst (ss.map V.str)) hS2)
     have eS2:(upd H5 S2 (.lst (ss.map V.str))) S2=some (.lst (ss.map V.str)):=upd_same
     have nS2D:S2≠D:=fun z=>by rw [z,s5 _ _ eD4] at hS2; cases hS2
     generalize upd H5 S2 (.lst (ss.map V.str))=H6 at s6 eS2 ⊢
     refine ⟨S2,rfl,⟨_,SqL.of eS2⟩,for_list (xs:=ss.map V.str) (fun j σ H'=>∃ u4 ts,σ=[some (.ref p),some (.ref d),some (.ref D),some (.str b),u4]∧Same H H'∧H' S=some (.lst (kk.map V.str))∧H' S2=some (.lst (ss.map V.str))∧WBB H' d ps ks∧H' D=some (.lst (ts.map V.ref))∧Tups H' ts (ord++(ss.take j).map fun w=>(b,w)))
      ⟨_,ts,rfl,s4.trans s6,s6 _ _ eS4,eS2,W4.same s6,s6 _ _ eD4,by rw [List.take_zero,List.map_nil,List.append_nil]; exact T4.same s6⟩ (fun j σ H' _ ⟨_,_,_,_,_,e,_⟩=>SqL.of e) ?_ ?_⟩
     · rintro j y σ H7 hy ⟨u4,ts7,rfl,s7,eS7,eS27,W7,eD7,T7⟩
       obtain ⟨w,hw,rfl⟩:=map_at hy
       have hjl:j < ss.length:=(List.getElem?_eq_some_iff.mp hw).1
       refine ⟨_,rfl,Or.inl ⟨rfl,_,SqL.of eD7⟩,_,rfl,_,rfl,two_le,fun t ht=>?_⟩
       have s8:=same_new (o:=.tup [.str b,.str w]) ht
       have T8:Tups (upd H7 t (.tup [.str b,.str w])) (ts7++[t]) (ord++(ss.take (j + 1)).map fun w=>(b,w)):=by
        rw [List.take_succ,hw,List.map_append,←List.append_assoc]
        exact (T7.same s8).snoc (p:=(b,w)) upd_same
       have eD8:=s8 _ _ eD7
       have nD:=T8.ne eD8
       have W8:=W7.same s8
       refine ⟨D,_,_,rfl,rfl,eD8,by rw [List.length_map,T7.len,List.length_append,List.length_map,List.length_take]; exact Nat.lt_of_lt_of_le (show _ < 5000 by omega) (by decide),?_⟩
       refine ⟨_,ts7++[t],rfl,fun z o e=>?_,?_,?_,?_,by rw [upd_same,List.map_append]; rfl,T8.upd nD⟩
       · rw [upd_ne (ne_of_none e hDH)]; exact s8 _ _ (s7 z o e)
       · rw [upd_ne nSD]; exact s8 _ _ eS7
       · rw [upd_ne nS2D]; exact s8 _ _ eS27
       · refine ⟨by rw [upd_ne hdD]; exact W8.dict,W8.nd,fun r hr=>?_,W8.all,W8.adr⟩
         have nr:r.2≠D:=fun z=>ne_of_none (W.lst r hr) hD z
         rw [upd_ne nr]
         exact W8.lst r hr
     · rintro σ H7 ⟨u4,ts7,rfl,s7,eS7,eS27,W7,eD7,T7⟩
       rw [List.length_map,List.take_length] at T7
       refine ⟨_,_,ts7,_,rfl,s7,eS7,W7,eD7,T7,?_,by rw [List.length_append,List.length_map]; omega⟩
       rw [etk]
       refine O4.more ?_ pws hms
       rw [←etk]
       exact pwk.sublist (List.take_sublist _ _)
   · rintro σ H4 ⟨u3,u4,ts,ord,rfl,s4,eS4,W4,eD4,T4,O4,ol⟩
     rw [List.length_map,List.take_length] at O4
     rw [List.length_map] at ol
     refine ⟨_,rfl,q ts ord D H4 ⟨fun a b=>?_,O4.srt⟩ (by omega) hDH s4 eD4 T4⟩
     rw [O4.mem]
     refine ⟨fun h=>h.2,fun h=>⟨?_,h⟩⟩
     obtain ⟨pr,hpr,e⟩:=List.mem_map.mp h.fst
     have:=W4.all pr hpr
     rw [e] at this
     exact (perm_mem hkp).mpr this
variable (P w K mg base) in
abbrev C_all_that_follows:Prop:=Callee P w K mg base "all_that_follows" 2 ["pairs"] (sp_all_that_follows K)
theorem call_all_that_follows (B:Blt mg) (ER:Ers K mg) (c_worse_by_better:C_worse_by_better P w K mg base) (c_reached:C_reached P w K mg base) (F:Fun K "all_that_follows" "all_that_follows" s_all_that_follows f fd) (hm:mg "all_that_follows" = some (.ref f)):C_all_that_follows P w K mg base :=
 ⟨f,fd,ok_all_that_follows B ER c_worse_by_better c_reached F,hm,F.kp,F.binds fun _ _ _ _ _ _ us hl=>(by obtain ⟨x0,rfl⟩:=len_1 hl; rfl)⟩
def spn_own_lists (K:PySem.W.Frag):Nat→Sp
 | 0=>fun _ _ _ _=>False
 | n + 1=>fun vs H Q _=>(∃ x,vs=[.str x]∧Q (.str x) H)∨(n≠0∧∃ (l:Addr) (xs:List Str),vs=[.ref l]∧SqL K H l (xs.map V.str)∧xs.length≤100∧∀ D H',H D=none→Same H H'→H' D=some (.lst (xs.map V.str))→Q (.ref D) H')
abbrev sp_own_lists (K:PySem.W.Frag):Sp:=spn_own_lists K 2
theorem ok_own_lists (B:Blt mg) (ER:Ers K mg)  (n:Nat) (c_own_lists:Callee P w K mg base "own_lists" (0 + n) ["thing"] (spn_own_lists K n)) (F:Fun K "own_lists" "own_lists" s_own_lists f fd):FnOk P w K mg base CX0 (0 + n + 1) f fd ["thing"] (spn_own_lists K (n + 1)):=by
 refine F.ok sc_own_lists (fun vs H Q E h=>?_) (fun cdv A outer s H vs Q E hr h=>?_)
 · rcases h with ⟨x,rfl,_⟩ | ⟨_,l,xs,rfl,_⟩ <;> rfl
 · skip
   refine ⟨_,(pss_cons (ps_if (pt_val (pe_callB call_isi B.b_isinstance (pa_cons (pv 0) (pa_cons (pe_ty "list" rfl B.b_list (by decide +kernel)) pa_nil)))) (pss_one (ps_ret (pe_comp rfl own_lists_cs1 (pi_list (pv 0)) (fun _ _ _ _ _=>(pg_name (i:=0) own_lists_cs1.nd)) (fun _ _ _ _ _=>pf_nil) (fun _ _ _ _ _=>(pe_fn c_own_lists (pa_cons (pv 0) pa_nil) (hr.mono (by omega))))))) pss_nil)
    (pss_cons (ps_if (pt_val (pe_callB call_isi B.b_isinstance (pa_cons (pv 0) (pa_cons (pe_ty "tuple" rfl B.b_tuple (by decide +kernel)) pa_nil)))) (pss_one (ps_ret (pe_callTy call_tuple_of B.b_tuple (pa_cons (pe_comp rfl own_lists_cs2 (pi_list (pv 0)) (fun _ _ _ _ _=>(pg_name (i:=0) own_lists_cs2.nd)) (fun _ _ _ _ _=>pf_nil) (fun _ _ _ _ _=>(pe_fn c_own_lists (pa_cons (pv 0) pa_nil) (hr.mono (by omega))))) pa_nil)))) pss_nil)
    (pss_one (ps_ret (pv 0))))),?_⟩
   rcases h with ⟨x,rfl,q⟩ | ⟨hn,l,xs,rfl,hL,hll,q⟩
   · refine ⟨_,rfl,_,.lst,.str,rfl,.str x,_,rfl,iteF ?_⟩
     refine ⟨_,rfl,_,.tup,.str,rfl,.str x,_,rfl,iteF ?_⟩
     exact ⟨_,rfl,q⟩
   · cases n with
     | zero=>exact absurd rfl hn
     | succ m =>
       refine ⟨_,rfl,_,.lst,.lst,rfl,.lst hL,_,rfl,iteT ?_⟩
       refine ⟨_,rfl,l,rfl,⟨_,hL⟩,comp_list (xs:=xs.map V.str) (fun v=>v) (by rw [List.length_map]; exact Nat.le_trans hll (by decide)) hL (fun j y H3 D3 R3 hy s3 hD3 k3=>?_) (fun H3 D3 s3 hD3 e3=>?_)⟩
       · obtain ⟨y,hy',rfl⟩:=map_at hy
         exact ⟨_,rfl,Or.inl ⟨y,rfl,k3 _ (Same.refl _)⟩⟩
       · rw [List.map_id'] at e3
         exact q D3 H3 hD3 s3 e3
theorem calln_own_lists (B:Blt mg) (ER:Ers K mg)  (F:Fun K "own_lists" "own_lists" s_own_lists f fd) (hm:mg "own_lists" = some (.ref f)) (n:Nat):Callee P w K mg base "own_lists" (0 + n) ["thing"] (spn_own_lists K n):=by
 have bi:Binds K fd ["thing"] []:=F.binds fun _ _ _ _ _ _ us hl=>(by obtain ⟨x0,rfl⟩:=len_1 hl; rfl)
 induction n with
 | zero=>exact ⟨f,fd,⟨fun vs H Q E h=>(by exact False.elim h),fun A outer s H args us vs Q E _ _ _ _ h=>(by exact False.elim h)⟩,hm,F.kp,bi⟩
 | succ n ih=>exact ⟨f,fd,ok_own_lists B ER  n ih F,hm,F.kp,bi⟩
variable (P w K mg base) in
abbrev C_own_lists:Prop:=Callee P w K mg base "own_lists" 2 ["thing"] (sp_own_lists K)
theorem call_own_lists (B:Blt mg) (ER:Ers K mg)  (F:Fun K "own_lists" "own_lists" s_own_lists f fd) (hm:mg "own_lists" = some (.ref f)):C_own_lists P w K mg base :=
 calln_own_lists B ER  F hm 2
def sp_Ring__init__ (K:PySem.W.Frag):Sp:=fun vs H Q _=>∃ (e r:Addr) (ring:List Str),vs=[.ref e,.ref r]∧H e=some (ExcN e (clsA K "Ring") none)∧SqL K H r (ring.map V.str)∧ring.length≤100∧(∀ y∈ring,smallS y) ∧
 ∀ (dx D:Addr) (H':Hp),D≠e→dx≠e→Keep1 e H H'→H' D=some (.lst (ring.map V.str))→H' dx=some (.xd [("ring",.ref D)])→H' e=some (ExcN e (clsA K "Ring") (some dx))→Q .non H'
theorem ok_Ring__init__ (B:Blt mg) (ER:Ers K mg) (c_own_lists:C_own_lists P w K mg base) (F:Fun K "__init__" "Ring.__init__" s_Ring__init__ f fd):FnOk P w K mg base CX0 3 f fd ["self", "ring"] (sp_Ring__init__ K):=by
 refine F.ok sc_Ring__init__ (fun vs H Q E h=>?_) (fun cdv A outer s H vs Q E hr h=>?_)
 · obtain ⟨e,r,ring,rfl,_⟩:=h
   rfl
 · obtain ⟨e,r,ring,rfl,he,hR,hl,hsm,q⟩:=h
   obtain ⟨fI,hx⟩:=ER.xi_Ring
   refine ⟨_,(pss_cons (ps_expr (pe_sup ER.e_PathError ER.ci_PathError rfl (pa_cons (pv 0) (pa_cons (pe_fstr hr (pv 1)) pa_nil))))
    (pss_one (ps_xfld (pv 0) (pe_fn c_own_lists (pa_cons (pv 1) pa_nil))))),?_⟩
   refine ⟨_,rfl,_,rfl,r,ring,rfl,hR,hl,hsm,fun y=>?_⟩
   refine ⟨e,clsA K "Ring",fI,none,[.str y],rfl,he,hx,one_le,?_⟩
   refine ⟨_,rfl,Or.inr ⟨by decide,r,ring,rfl,hR,hl,fun D H1 hD s1 eD=>?_⟩⟩
   refine ⟨_,rfl,e,clsA K "Ring",fI,rfl,s1 _ _ he,hx,ER.sa_Ring,ER.na_Ring_ring,fun dx hdx hde=>?_⟩
   have hDe:D≠e:=fun z=>by rw [z,he] at hD; cases hD
   have hDx:D≠dx:=ne_of_none eD hdx
   refine q dx D _ hDe hde (fun b o hb hbe=>?_) ?_ ?_ upd_same
   · rw [upd_ne hbe,upd_ne (ne_of_none (s1 _ _ hb) hdx)]; exact s1 _ _ hb
   · rw [upd_ne hDe,upd_ne hDx]; exact eD
   · rw [upd_ne hde,upd_same]
theorem call_Ring__init__ (B:Blt mg) (ER:Ers K mg) (c_own_lists:C_own_lists P w K mg base) (F:Fun K "__init__" "Ring.__init__" s_Ring__init__ f fd) (hx:PySem.W.xIn K (clsA K "Ring") f=true) (hf:PySem.W.isFn K (.ref f)=true):CalleeI P w K mg base (clsA K "Ring") 3 ["self", "ring"] (sp_Ring__init__ K) :=
 ⟨f,fd,ok_Ring__init__ B ER c_own_lists F,hx,hf,F.binds fun _ _ _ _ _ _ us hl=>(by obtain ⟨x0,x1,rfl⟩:=len_2 hl; rfl)⟩
def sp_chain (K:PySem.W.Frag):Sp:=fun vs H Q _=>∃ p ps a b,vs=[.ref p,.str a,.str b]∧Prs K H p ps∧ps.length≤100∧(¬ Path ps a b→∀ H',Same H H'→Q .non H')∧(Path ps a b→∀ c l H',Chain ps a b c→c.length≤101→H l=none→Same H H'→H' l=some (.lst (c.map V.str))→Q (.ref l) H')
theorem ok_chain (B : Blt mg) (ER : Ers K mg) (c_reached : C_reached P w K mg base) (c_worse_by_better : C_worse_by_better P w K mg base) (F : Fun K "chain" "chain" s_chain f fd) : FnOk P w K mg base CX0 2 f fd ["pairs", "one", "other"] (sp_chain K) := by
 refine F.ok sc_chain (fun vs H Q E h=>?_) (fun cdv A outer s H vs Q E hr h=>?_)
 · obtain ⟨p,ps,a,b,rfl,_⟩:=h
   rfl
 · obtain ⟨p,ps,a,b,rfl,hP,hlen,qn,qy⟩:=h
   refine ⟨_,(pss_cons (ps_set (i:=3) sc_chain.nd (pe_fn c_reached (pa_cons (pe_fn c_worse_by_better (pa_cons (pv 0) pa_nil)) (pa_cons (pv 1) pa_nil))))
    (pss_cons (ps_if (pt_cmpR (op_notinDict (hu_of hr)) (pv 2) (pv 3) (by with_unfolding_all rfl)) (pss_one (ps_ret pe_non)) pss_nil)
    (pss_cons (ps_set (i:=4) sc_chain.nd (pe_lst (pa_cons (pv 2) pa_nil)))
    (pss_cons (ps_set (i:=5) sc_chain.nd (pe_dget (hu_of hr) (pv 3) (pv 2) (fun _ _=>rfl)))
    (pss_cons (ps_while PassesOwn.never (pt_cmpR op_ne (pv 5) (pv 1) (nomark _)) (pss_cons (ps_expr (pe_bm PySem.F.plainAttrs_list PySem.F.slot_list_append PySem.F.type_list_append mr_append (pv 4) (pa_cons (pv 5) pa_nil)))
     (pss_one (ps_set (i:=5) sc_chain.nd (pe_dget (hu_of hr) (pv 3) (pv 5) (fun _ _=>rfl))))))
    (pss_cons (ps_expr (pe_bm PySem.F.plainAttrs_list PySem.F.slot_list_append PySem.F.type_list_append mr_append (pv 4) (pa_cons (pv 1) pa_nil)))
    (pss_cons (ps_expr (pe_bm0 PySem.F.plainAttrs_list PySem.F.slot_list_reverse PySem.F.type_list_reverse mr_reverse (pv 4)))
    (pss_one (ps_ret (pv 4)))))))))),?_⟩
   refine ⟨_,rfl,p,ps,rfl,hP,hlen,fun d ks H1 hd s1 W _=>?_⟩
   refine ⟨_,rfl,d,ks,ps,a,rfl,W,hlen,fun c cf H2 hc s2 ec T F=>?_⟩
   have s12:=s1.trans s2
   have hcH:H c=none:=s1.free hc
   refine ⟨_,rfl,_,rfl,c,_,rfl,DGet.k (k:=Sum.inr b) ec,_,rfl,?_⟩
   rw [val_S]
   cases e:cf.lookup b with
   | none =>
     refine iteT ?_
     exact qn (fun hp=>lookA_none e ((T.iff F).mpr hp)) H2 s12
   | some b1 =>
     refine iteF ?_
     have hp:Path ps a b:=(T.iff F).mp (List.mem_map.mpr ⟨_,look_mem e,rfl⟩)
     refine ⟨_,rfl,one_le,fun l hl=>?_⟩
     have hlH:H l=none:=s12.free hl
     have ncl:c≠l:=ne_of_none ec hl
     have ec3:(upd H2 l (.lst [.str b])) c=some (.dK (kvS cf)):=by rw [upd_ne ncl]; exact ec
     refine ⟨_,rfl,_,rfl,c,_,rfl,by rw [show some (V.str b1)=valV (kvS cf) (Sum.inr b) by rw [val_S,e]; rfl]; exact DGet.k (k:=Sum.inr b) ec3,?_⟩
     refine g_in ?_
     try dsimp only
     refine seq_cut (fun σ' H'=>∃ ls,σ'=[some (.ref p),some (.str a),some (.str b),some (.ref c),some (.ref l),some (.str a)]∧Same H H'∧H' l=some (.lst (ls.map V.str))∧Back ps cf a b ls a∧ls.length≤100) ?_ (fun N hN=>?_)
     · rintro σ' H3 ⟨ls,rfl,s3,el3,B,hll⟩
       refine ⟨_,rfl,Or.inl ⟨rfl,_,SqL.of el3⟩,_,rfl,l,_,_,rfl,rfl,el3,small1000 (by rw [List.length_map]; omega),?_⟩
       refine ⟨_,rfl,Or.inl ⟨rfl,_,SqL.of upd_same⟩,l,_,rfl,rfl,upd_same,?_⟩
       refine ⟨_,rfl,qy hp (ls++[a]).reverse l _ (B.fin T) (by simp; omega) hlH (fun z o ez=>?_) ?_⟩
       · rw [upd_ne (ne_of_none ez hlH),upd_ne (ne_of_none ez hlH)]; exact s3 z o ez
       · rw [upd_same]
         simp
     · -- while label != one
       have key:∀ {ls:List Str} {lb:Str},Back ps cf a b ls lb→ls.length≤cf.length:=fun {ls lb} B=>by
        have nd:ls.Nodup:=B.dec.imp fun {x y} h e=>by subst e; omega
        have:=nodup_sub_length nd (m:=cf.map (·.1)) B.keys
        simpa using this
       have hcl:=T.length
       refine ⟨fun m σ H'=>∃ ls lb,σ=[some (.ref p),some (.str a),some (.str b),some (.ref c),some (.ref l),some (.str lb)]∧Same H H'∧H' c=some (.dK (kvS cf))∧H' l=some (.lst (ls.map V.str))∧Back ps cf a b ls lb∧m=cf.length - ls.length,⟨_,[b],b1,rfl,s12.trans (same_new hl),ec3,upd_same,Back.start e,rfl⟩,?_⟩
       rintro m σ H3 ⟨ls,lb,rfl,s3,ec4,el3,B,em⟩
       have hll:=key B
       refine ⟨_,rfl,_,rfl,rfl,_,rfl,?_⟩
       by_cases hne:lb=a
       · subst hne
         rw [show (!decide (V.str lb=V.str lb))=false by simp]
         exact iteF (hN _ _ ⟨ls,rfl,s3,el3,B,by omega⟩)
       · rw [show (!decide (V.str lb=V.str a))=true by simp [hne]]
         refine iteT ?_
         obtain ⟨b2,hb2,B2,_⟩:=B.next T hne
         have hll2:=key B2
         rw [List.length_append,List.length_singleton] at hll2
         refine ⟨fun σ' H'=>∃ ls lb,σ'=[some (.ref p),some (.str a),some (.str b),some (.ref c),some (.ref l),some (.str lb)]∧Same H H'∧H' c=some (.dK (kvS cf))∧H' l=some (.lst (ls.map V.str))∧Back ps cf a b ls lb∧cf.length - ls.length < m,?_,?_⟩
         · rintro σ' H' ⟨ls',lb',rfl,s4,ec5,el4,B4,hm⟩
           exact ⟨_,hm,ls',lb',rfl,s4,ec5,el4,B4,rfl⟩
         refine ⟨_,rfl,Or.inl ⟨rfl,_,SqL.of el3⟩,_,rfl,l,_,_,rfl,rfl,el3,small1000 (by rw [List.length_map]; omega),?_⟩
         have ec5:(upd H3 l (.lst (ls.map V.str++[.str lb]))) c=some (.dK (kvS cf)):=by rw [upd_ne ncl]; exact ec4
         refine ⟨_,rfl,_,rfl,c,_,rfl,by rw [show some (V.str b2)=valV (kvS cf) (Sum.inr lb) by rw [val_S,hb2]; rfl]; exact DGet.k (k:=Sum.inr lb) ec5,?_⟩
         refine ⟨ls++[lb],b2,rfl,fun z o ez=>?_,ec5,?_,B2,?_⟩
         · rw [upd_ne (ne_of_none ez hlH)]; exact s3 z o ez
         · rw [upd_same,List.map_append]; rfl
         · rw [List.length_append,List.length_singleton]; omega
variable (P w K mg base) in
abbrev C_chain:Prop:=Callee P w K mg base "chain" 2 ["pairs", "one", "other"] (sp_chain K)
theorem call_chain (B:Blt mg) (ER:Ers K mg) (c_reached:C_reached P w K mg base) (c_worse_by_better:C_worse_by_better P w K mg base) (F:Fun K "chain" "chain" s_chain f fd) (hm:mg "chain" = some (.ref f)):C_chain P w K mg base :=
 ⟨f,fd,ok_chain B ER c_reached c_worse_by_better F,hm,F.kp,F.binds fun _ _ _ _ _ _ us hl=>(by obtain ⟨x0,x1,x2,rfl⟩:=len_3 hl; rfl)⟩
def sp_order_of (K:PySem.W.Frag):Sp:=fun vs H Q E=>∃ (p:Addr) (ps:List (Str × Str)),vs=[.ref p]∧Prs K H p ps∧ps.length≤60∧(∀ x∈ps,smallS x.2) ∧
 (∀ (ts:List Addr) (ord:List (Str × Str)) (D:Addr) (H':Hp),(∀ a,¬ Path ps a a)→OrdOf ps ord→ord.length≤4000→H D=none→Same H H'→H' D=some (.lst (ts.map V.ref))→Tups H' ts ord→Q (.ref D) H') ∧
 ∀ (dx D:Addr) (ring:List Str) (H':Hp),RingOk ps ring→ring.length≤100→Same H H'→H' D=some (.lst (ring.map V.str))→H' dx=some (.xd [("ring",.ref D)])→E (.ref (clsA K "Ring")) (some dx) H'
theorem ok_order_of (B:Blt mg) (ER:Ers K mg) (c_all_that_follows:C_all_that_follows P w K mg base) (c_Ring__init__:CalleeI P w K mg base (clsA K "Ring") 3 ["self", "ring"] (sp_Ring__init__ K)) (c_chain:C_chain P w K mg base) (F:Fun K "order_of" "order_of" s_order_of f fd):FnOk P w K mg base (CXE P w) 5 f fd ["pairs"] (sp_order_of K):=by
 refine F.okE sc_order_of (fun vs H Q E h=>?_) (fun cdv A outer s H vs Q E hr h=>?_)
 · obtain ⟨p,ps,rfl,_⟩:=h
   rfl
 · obtain ⟨p,ps,rfl,hP,hlen,hsm,q,qe⟩:=h
   refine ⟨_,(pss_cons (ps_set (i:=1) sc_order_of.nd (pe_fn c_all_that_follows (pa_cons (pv 0) pa_nil)))
    (pss_cons (ps_for PassesOwn.leaving rfl (pi_list (pv 1)) (pg_tup (n:=2) rfl (pgs_cons (pg_name (i:=2) sc_order_of.nd) (pgs_cons (pg_name (i:=3) sc_order_of.nd) pgs_nil))) (pss_one (ps_if (pt_cmpR op_eq (pv 2) (pv 3) (nomark _)) (pss_one (ps_raiseC c_Ring__init__ throws_cx rfl ER.e_Ring ER.kp_Ring (hr.mono (by decide)) rfl (pa_cons (pe_slice sl_list (pe_fn c_chain (pa_cons (pv 0) (pa_cons (pv 2) (pa_cons (pv 2) pa_nil)))) po_none (po_some (pe_un un_neg pe_int))) pa_nil))) pss_nil)))
    (pss_one (ps_ret (pv 1))))),?_⟩
   refine ⟨_,rfl,p,ps,rfl,hP,hlen,fun ts ord D H1 O hol hD s1 eD T=>?_⟩
   refine ⟨_,rfl,D,rfl,⟨_,SqL.of eD⟩,for_list (xs:=ts.map V.ref) (fun i σ H'=>∃ u2 u3,σ=[some (.ref p),some (.ref D),u2,u3]∧H'=H1∧∀ x∈ord.take i,x.1≠x.2) ⟨none,none,rfl,rfl,fun x hx=>by simp at hx⟩ (fun i σ H' _ ⟨_,_,_,e,_⟩=>by rw [e]; exact SqL.of eD) ?_ ?_⟩
   · rintro i x σ H2 hx ⟨u2,u3,rfl,rfl,hall⟩
     obtain ⟨t,ht,rfl⟩:=getm hx
     have hil:i < ord.length:=by rw [←T.len]; exact (List.getElem?_eq_some_iff.mp ht).1
     have hp:=T.at_ i t ord[i] ht (List.getElem?_eq_getElem hil)
     refine ⟨t,_,rfl,SqT.of hp,rfl,_,_,rfl,_,_,rfl,rfl,?_⟩
     refine ⟨_,rfl,_,rfl,rfl,_,rfl,?_⟩
     by_cases hne:ord[i].1=ord[i].2
     · rw [show decide (V.str ord[i].1=V.str ord[i].2)=true from decide_eq_true (by rw [hne])]
       refine iteT ?_
       have hm:(ord[i].1,ord[i].2)∈ord:=List.getElem_mem hil
       have hpath:=(O.mem _ _).mp hm
       rw [←hne] at hpath
       refine ⟨_,rfl,_,rfl,_,rfl,p,ps,ord[i].1,ord[i].1,rfl,hP.same s1,by omega,fun z=>absurd hpath z,fun _ c l H3 C hcl hl s3 el=>?_⟩
       refine ⟨_,rfl,_,rfl,l,_,rfl,SqL.of el,fun r hr=>?_⟩
       rw [cutV_init,←List.map_dropLast]
       have R:=RingOk.of C
       have hrl:c.dropLast.length≤100:=by rw [List.length_dropLast]; omega
       have s4:=(s1.trans s3).trans (same_new (o:=.lst (c.dropLast.map V.str)) hr)
       have er:(upd H3 r (.lst (c.dropLast.map V.str))) r=some (.lst (c.dropLast.map V.str)):=upd_same
       generalize upd H3 r (.lst (c.dropLast.map V.str))=H4 at s4 er ⊢
       refine ⟨one_le,fun e he=>⟨e,r,c.dropLast,rfl,upd_same,SqL.of (by rw [upd_ne (ne_of_none er he)]; exact er),hrl,fun y hy=>?_,fun dx D5 H5 hD5 hdx5 kp e5 ex5 ee5=>⟨rfl,some dx,ee5,?_⟩⟩⟩
       · obtain ⟨x,hx,rfl⟩:=R.mem hy
         exact hsm x hx
       · refine qe dx D5 c.dropLast _ R hrl (fun b o hb=>?_) (by rw [del_ne hD5]; exact e5) (by rw [del_ne hdx5]; exact ex5)
         have hb4:=s4 _ _ hb
         have hbe:b≠e:=ne_of_none hb4 he
         rw [del_ne hbe]
         exact kp b o (by rw [upd_ne hbe]; exact hb4) hbe
     · rw [show decide (V.str ord[i].1=V.str ord[i].2)=false from decide_eq_false fun z=>hne (V.str.inj z)]
       refine iteF ⟨_,_,rfl,rfl,fun x hx=>?_⟩
       rw [List.take_succ,List.getElem?_eq_getElem hil] at hx
       rcases List.mem_append.mp hx with hx | hx
       · exact hall x hx
       · rw [List.mem_singleton.mp hx]; exact hne
   · rintro σ H2 ⟨u2,u3,rfl,rfl,hall⟩
     rw [List.length_map,T.len,List.take_length] at hall
     exact ⟨_,rfl,q ts ord D _ (fun a ha=>hall _ ((O.mem a a).mpr ha) rfl) O hol hD s1 eD T⟩
theorem call_order_of (B:Blt mg) (ER:Ers K mg) (c_all_that_follows:C_all_that_follows P w K mg base) (c_Ring__init__:CalleeI P w K mg base (clsA K "Ring") 3 ["self", "ring"] (sp_Ring__init__ K)) (c_chain:C_chain P w K mg base) (F:Fun K "order_of" "order_of" s_order_of f fd) (hm:mg "order_of" = some (.ref f)):CalleeE P w K mg base "order_of" 5 ["pairs"] (sp_order_of K) :=
 ⟨f,fd,ok_order_of B ER c_all_that_follows c_Ring__init__ c_chain F,hm,F.kp,F.binds fun _ _ _ _ _ _ us hl=>(by obtain ⟨x0,rfl⟩:=len_1 hl; rfl)⟩
def sp_sorted_state (K:PySem.W.Frag):Sp:=fun vs H Q _=>∃ (g e:Addr) (s:Stt),vs=[.ref g,.ref e]∧Goes K H g s.1∧SqL K H e (s.2.map V.str)∧s.1.length≤8∧s.2.length≤8 ∧
 ∀ (t G E:Addr) (r:Stt) (H':Hp),SrtOf s r→H t=none→H G=none→H E=none→Same H H'→H' t=some (.tup [.ref G,.ref E])→Goes K H' G r.1→(∃ xs,H' G=some (.lst xs))→H' E=some (.lst (r.2.map V.str))→Q (.ref t) H'
theorem ok_sorted_state (B:Blt mg) (ER:Ers K mg)  (F:Fun K "sorted_state" "sorted_state" s_sorted_state f fd):FnOk P w K mg base CX0 1 f fd ["goes", "ends"] (sp_sorted_state K):=by
 refine F.ok sc_sorted_state (fun vs H Q E h=>?_) (fun cdv A outer s H vs Q E hr h=>?_)
 · obtain ⟨g,e,s,rfl,_⟩:=h
   rfl
 · obtain ⟨g,e,s,rfl,⟨gv,hg,hgd⟩,he,l1,l2,q⟩:=h
   have lgv:=hgd.len_map
   refine ⟨_,(pss_one (ps_ret (pe_tup (pa_cons (pe_callB (call_sortP strC intC) B.b_sorted (pa_cons (pe_comp (g:=gTup K 2 (gCons (gName 0) (gCons (gName 1) gNil))) rfl sorted_state_cs1 (pi_list (pv 0)) (fun _ _ _ _ _=>(pg_tup (n:=2) rfl (pgs_cons (pg_name (i:=0) sorted_state_cs1.nd) (pgs_cons (pg_name (i:=1) sorted_state_cs1.nd) pgs_nil)))) (fun _ _ _ _ _=>pf_nil) (fun _ _ _ _ _=>(pe_tup (pa_cons (pv 0) (pa_cons (pv 1) pa_nil))))) pa_nil)) (pa_cons (pe_callB call_sortS B.b_sorted (pa_cons (pv 1) pa_nil)) pa_nil))))),?_⟩
   refine ⟨_,rfl,g,rfl,⟨_,hg⟩,comp_listI (xs:=gv) (fun D i ys H'=>∃ ts:List Addr,ts.length=i∧Same H H'∧H' D=some (.lst ys)∧ys=ts.map V.ref∧(∀ a∈ts,a≠D)∧∀ (n:Nat) (a:Addr) (p:Str × Int),ts[n]?=some a→s.1[n]?=some p→H' a=some (.tup [.str p.1,.int p.2]))
    (fun D hD=>⟨[],rfl,same_new hD,upd_same,rfl,fun a ha=>by simp at ha,fun n a p hn=>by simp at hn⟩) (fun D i ys H' ⟨_,_,s1,_⟩=>s1.seq hg) (fun D i x ys H2 R hD0 hx hv k=>?_) (fun D ys H2 hD0 hv=>?_)⟩
   · obtain ⟨ts,hts,s2,eD,rfl,hnd,hat⟩:=hv
     obtain ⟨p,t,hp,rfl,ht⟩:=hgd.goes_get hx
     have hil:i < s.1.length:=(List.getElem?_eq_some_iff.mp hp).1
     refine ⟨t,_,rfl,s2.seqT ht,rfl,_,_,rfl,_,_,rfl,rfl,?_⟩
     refine ⟨_,rfl,_,rfl,two_le,fun z hz=>?_⟩
     have nz:z≠D:=fun y=>by rw [y,eD] at hz; cases hz
     have s3:=same_new (o:=.tup [.str p.1,.int p.2]) hz
     refine k _ _ (s3 _ _ eD) (by rw [List.length_map,hts]; exact small1000 (by omega)) ⟨ts++[z],by rw [List.length_append,hts]; rfl,fun b o e=>?_,upd_same,by rw [List.map_append]; rfl,fun a ha=>?_,fun n a p' hn hp'=>?_⟩
     · rw [upd_ne (ne_of_none e hD0)]; exact s3 _ _ (s2 b o e)
     · rcases List.mem_append.mp ha with ha | ha
       · exact hnd a ha
       · rw [List.mem_singleton.mp ha]; exact nz
     · rcases Nat.lt_or_ge n ts.length with hlt | hge
       · rw [List.getElem?_append_left hlt] at hn
         rw [upd_ne (hnd a (List.mem_of_getElem? hn))]
         exact s3 _ _ (hat n a p' hn hp')
       · have hn1:n < (ts++[z]).length:=(List.getElem?_eq_some_iff.mp hn).1
         rw [List.length_append,List.length_singleton] at hn1
         obtain rfl:n=i:=by omega
         rw [hp] at hp'; cases hp'
         rw [List.getElem?_append_right (by omega),hts,Nat.sub_self] at hn
         cases hn
         rw [upd_ne nz,upd_same]
   · obtain ⟨ts,hts,s2,eD,rfl,hnd,hat⟩:=hv
     rw [lgv] at hts
     obtain ⟨zs,z1,z2,z3⟩:=zip_rows (K:=K) hts hat
     have lzs:zs.length=s.1.length:=by rw [←z2,List.length_map]
     refine ⟨D,zs,rfl,SqL.of (by rw [z1]; exact eD),by omega,z3,fun G zs' hp hw hG=>?_⟩
     have s3:=same_new (o:=.lst (zs'.map (·.1))) hG
     have eG:(upd H2 G (.lst (zs'.map (·.1)))) G=some (.lst (zs'.map (·.1))):=upd_same
     have hGH:H G=none:=s2.free hG
     have z3':∀ z∈zs',RowGo K (upd H2 G (.lst (zs'.map (·.1)))) z:=fun z hz=>by
      obtain ⟨t,a1,a2⟩:=z3 z (hp.mem_iff.mp hz)
      exact ⟨t,a1,s3.seqT a2⟩
     have s23:=s2.trans s3
     generalize upd H2 G (.lst (zs'.map (·.1)))=H3 at s3 eG z3' s23 ⊢
     refine ⟨_,rfl,e,s.2,rfl,s23.seq he,by omega,fun E es hpe hwe hE=>?_⟩
     have s4:=same_new (o:=.lst (es.map V.str)) hE
     have eE:(upd H3 E (.lst (es.map V.str))) E=some (.lst (es.map V.str)):=upd_same
     have hEH:H E=none:=s23.free hE
     have s24:=s23.trans s4
     have eG4:=s4 _ _ eG
     have z4:∀ z∈zs',RowGo K (upd H3 E (.lst (es.map V.str))) z:=fun z hz=>by
      obtain ⟨t,a1,a2⟩:=z3' z hz
      exact ⟨t,a1,s4.seqT a2⟩
     generalize upd H3 E (.lst (es.map V.str))=H4 at s4 eE s24 eG4 z4 ⊢
     refine ⟨two_le,fun t ht=>?_⟩
     have s5:=same_new (o:=.tup [.ref G,.ref E]) ht
     refine q t G E (zs'.map (·.2),es) _ ⟨by rw [←z2]; exact hp.map _,hpe,hw,hwe⟩ (s24.free ht) hGH hEH (s24.trans s5) upd_same ⟨_,SqL.of (s5 _ _ eG4),?_⟩ ⟨_,s5 _ _ eG4⟩ (s5 _ _ eE)
     exact (rows_dts zs' z4).same s5
variable (P w K mg base) in
abbrev C_sorted_state:Prop:=Callee P w K mg base "sorted_state" 1 ["goes", "ends"] (sp_sorted_state K)
theorem call_sorted_state (B:Blt mg) (ER:Ers K mg)  (F:Fun K "sorted_state" "sorted_state" s_sorted_state f fd) (hm:mg "sorted_state" = some (.ref f)):C_sorted_state P w K mg base :=
 ⟨f,fd,ok_sorted_state B ER  F,hm,F.kp,F.binds fun _ _ _ _ _ _ us hl=>(by obtain ⟨x0,x1,rfl⟩:=len_2 hl; rfl)⟩
def sp_table_of (K:PySem.W.Frag):Sp:=fun vs H Q _=>∃ (a p:Addr) (ss:List Stt) (ps:List (Str × Str)) (n:Int),vs=[.ref a,.int n,.ref p]∧StE K H a ss∧Stts K H a ss∧Fits ss∧Prs K H p ps∧ps.length≤40∧(∀ x∈labelsOf ss++labelsP ps,nameB x=true) ∧
 0≤n∧n < ss.length∧(∀ s∈ss,∀ g∈s.1,0≤g.2∧g.2 < ss.length)∧(∀ s∈ss,(s.1.map (·.1)).Nodup∧s.2.Nodup)∧(∀ x,¬ Path ps x x)∧(∀ x∈ps,smallS x.2) ∧
 ∀ (t:Addr) (rs:List Stt) (ord:List (Str × Str)) (H':Hp),rs.length=ss.length→(∀ (i:Nat) (s r:Stt),ss[i]?=some s→rs[i]?=some r→SrtOf s r)→OrdOf ps ord→H t=none→Same H H'→Tab K (fun x=>H x=none) H' t rs n ord→Q (.ref t) H'
theorem ok_table_of (B:Blt mg) (ER:Ers K mg) (c_refuse_too_great:C_refuse_too_great P w K mg base) (c_refuse_no_names:C_refuse_no_names P w K mg base) (c_refuse_no_places:C_refuse_no_places P w K mg base) (c_refuse_twice:C_refuse_twice P w K mg base) (c_order_of:CalleeE P w K mg base "order_of" 5 ["pairs"] (sp_order_of K)) (c_sorted_state:C_sorted_state P w K mg base) (F:Fun K "table_of" "table_of" s_table_of f fd):FnOk P w K mg base (CXE P w) 6 f fd ["states", "inner", "pairs"] (sp_table_of K):=by
 refine F.okE sc_table_of (fun vs H Q E h=>?_) (fun cdv A outer s H vs Q E hr h=>?_)
 · obtain ⟨a,p,ss,ps,n,rfl,_⟩:=h
   rfl
 · obtain ⟨a,p,ss,ps,n,rfl,hSE,hS,hF,hP,hpl,hN,n0,n1,hG,hT,hR,hsm,q⟩:=h
   have hS':=hS
   obtain ⟨vs,hV,hD⟩:=hS'
   have lvs:=hD.len_map
   have hn8:=hF.n
   refine ⟨_,(pss_cons (ps_expr (pe_fn c_refuse_too_great (pa_cons (pv 0) (pa_cons (pv 2) pa_nil))))
    (pss_cons (ps_expr (pe_fn c_refuse_no_names (pa_cons (pv 0) (pa_cons (pv 2) pa_nil))))
    (pss_cons (ps_expr (pe_fn c_refuse_no_places (pa_cons (pv 0) (pa_cons (pv 1) pa_nil))))
    (pss_cons (ps_expr (pe_fn c_refuse_twice (pa_cons (pv 0) pa_nil)))
    (pss_cons (ps_set (i:=3) sc_table_of.nd (pe_fnE c_order_of throws_cx (hr.mono (by decide)) rfl (pa_cons (pv 2) pa_nil)))
    (pss_one (ps_ret (pe_tup (pa_cons (pe_comp (g:=gTup K 2 (gCons (gName 0) (gCons (gName 1) gNil))) rfl table_of_cs1 (pi_list (pv 0)) (fun _ _ _ _ _=>(pg_tup (n:=2) rfl (pgs_cons (pg_name (i:=0) table_of_cs1.nd) (pgs_cons (pg_name (i:=1) table_of_cs1.nd) pgs_nil)))) (fun _ _ _ _ _=>pf_nil) (fun _ _ _ _ _=>(pe_fn c_sorted_state (pa_cons (pv 0) (pa_cons (pv 1) pa_nil))))) (pa_cons (pv 1) (pa_cons (pv 3) pa_nil))))))))))),?_⟩
   obtain ⟨pws,hPL,hPD⟩:=id hP
   refine ⟨_,rfl,_,rfl,a,p,ss,pws,rfl,hS,hF,hPL,by rw [hPD.len_map]; exact hpl,?_⟩
   refine ⟨_,rfl,_,rfl,a,p,ss,ps,rfl,hSE,hF,hP,by omega,hN,fun H1 s1=>?_⟩
   refine ⟨_,rfl,_,rfl,a,ss,n,rfl,hS.same s1,n0,n1,hG,?_⟩
   refine ⟨_,rfl,a,ss,rfl,hS.same s1,hF,hT,fun H2 s2=>?_⟩
   have s12:=s1.trans s2
   refine ⟨_,rfl,p,ps,rfl,hP.same s12,by omega,hsm,fun ts ord o H3 _ hO hol ho s3 eo T=>?_,fun dx D ring H3 R _ _ _ _=>absurd R.path.choose_spec (hR _)⟩
   have s13:=s12.trans s3
   have hoH:H o=none:=s12.free ho
   refine ⟨_,rfl,a,rfl,⟨_,s13.seq hV⟩,comp_listI (xs:=vs) (fun D i ys H'=>∃ (us:List Addr) (rs:List Stt),us.length=i∧Same H3 H'∧H' D=some (.lst ys)∧ys=us.map V.ref∧StRows K (fun x=>H x=none) H' D us rs∧∀ (n:Nat) (s r:Stt),ss[n]?=some s→rs[n]?=some r→SrtOf s r)
    (fun D hD=>⟨[],[],rfl,same_new hD,upd_same,rfl,StRows.nil,fun n s r _ h=>by simp at h⟩) (fun D i ys H' ⟨_,_,_,s1,_⟩=>(s13.trans s1).seq hV) (fun D i x ys H4 R hD0 hx hv k=>?_) (fun D ys H4 hD0 hv=>?_)⟩
   · obtain ⟨us,rs,hus,s4,eD,rfl,SR,hso⟩:=hv
     obtain ⟨s,t,g,e,hs,rfl,ht,hg,he⟩:=hD.sts_get hx
     have b1:=hF.gs s (List.mem_of_getElem? hs)
     have b2:=hF.es s (List.mem_of_getElem? hs)
     have s14:=s13.trans s4
     have hil:i < ss.length:=(List.getElem?_eq_some_iff.mp hs).1
     refine ⟨t,_,rfl,s14.seqT ht,rfl,_,_,rfl,_,_,rfl,rfl,?_⟩
     refine ⟨_,rfl,_,rfl,g,e,s,rfl,hg.same s14,s14.seq he,b1,b2,fun u G E r H5 so hu hG hE s5 eu eG eGx eE=>?_⟩
     obtain ⟨xs,eGx⟩:=eGx
     have eD5:=s5 _ _ eD
     have nG:G≠D:=fun z=>by rw [z,eD] at hG; cases hG
     have nE:E≠D:=fun z=>by rw [z,eD] at hE; cases hE
     refine k _ _ eD5 (by rw [List.length_map,hus]; exact small1000 (by omega)) ⟨us++[u],rs++[r],by rw [List.length_append,hus]; rfl,fun b o e=>?_,upd_same,by rw [List.map_append]; rfl,((SR.same s5).snoc eu eG eGx eE nG nE (s14.free hG) (s14.free hE)).updL eD5,fun m s' r' h1 h2=>?_⟩
     · rw [upd_ne (ne_of_none e hD0)]; exact s5 _ _ (s4 b o e)
     · rcases Nat.lt_or_ge m rs.length with hlt | hge
       · rw [List.getElem?_append_left hlt] at h2
         exact hso m s' r' h1 h2
       · have hn1:m < (rs++[r]).length:=(List.getElem?_eq_some_iff.mp h2).1
         rw [List.length_append,List.length_singleton] at hn1
         have hrl:=SR.len
         obtain rfl:m=i:=by omega
         rw [hs] at h1; cases h1
         rw [List.getElem?_append_right hge,show m - rs.length=0 by omega] at h2
         cases h2
         exact so
   · obtain ⟨us,rs,hus,s4,eD,rfl,SR,hso⟩:=hv
     refine ⟨_,rfl,_,rfl,three_le,fun t ht=>?_⟩
     have s5:=same_new (o:=.tup [.ref D,.int n,.ref o]) ht
     have s45:=s4.trans s5
     refine q t rs ord _ (by rw [←SR.len,hus,lvs]) hso hO ((s13.trans s4).free ht) (s13.trans s45) ⟨D,o,us,ts,upd_same,s13.free hD0,hoH,(fun z=>by rw [z,eo] at hD0; cases hD0),s5 _ _ eD,SR.same s5,s45 _ _ eo,T.same s45⟩
theorem call_table_of (B:Blt mg) (ER:Ers K mg) (c_refuse_too_great:C_refuse_too_great P w K mg base) (c_refuse_no_names:C_refuse_no_names P w K mg base) (c_refuse_no_places:C_refuse_no_places P w K mg base) (c_refuse_twice:C_refuse_twice P w K mg base) (c_order_of:CalleeE P w K mg base "order_of" 5 ["pairs"] (sp_order_of K)) (c_sorted_state:C_sorted_state P w K mg base) (F:Fun K "table_of" "table_of" s_table_of f fd) (hm:mg "table_of" = some (.ref f)):CalleeE P w K mg base "table_of" 6 ["states", "inner", "pairs"] (sp_table_of K) :=
 ⟨f,fd,ok_table_of B ER c_refuse_too_great c_refuse_no_names c_refuse_no_places c_refuse_twice c_order_of c_sorted_state F,hm,F.kp,F.binds fun _ _ _ _ _ _ us hl=>(by obtain ⟨x0,x1,x2,rfl⟩:=len_3 hl; rfl)⟩
def sp__law_same (K:PySem.W.Frag):Sp:=fun vs H Q _=>∃ (F D:Addr) (ts:List Addr) (ord:List (Str × Str)) (us:List V),vs=[.ref F,.ref D]∧H F=some (.lst (ts.map V.ref))∧Tups H ts ord∧SqL K H D us∧IsDts K H us (ord.map prD)∧∀ H',Same H H'→Q (.bl true) H'
theorem ok__law_same (B:Blt mg) (ER:Ers K mg)  (F:Fun K "_law_same" "_law_same" s__law_same f fd):FnOk P w K mg base CX0 1 f fd ["_law_found", "_law_due"] (sp__law_same K):=by
 refine F.ok sc__law_same (fun vs H Q E h=>?_) (fun cdv A outer s H vs Q E hr h=>?_)
 · obtain ⟨F,D,ts,ord,us,rfl,_⟩:=h
   rfl
 · obtain ⟨F,D,ts,ord,us,rfl,hF,T,hD,hU,q⟩:=h
   have lu:us.length=ord.length:=by have:=hU.length; rw [List.length_map] at this; exact this
   refine ⟨_,(pss_cons (ps_if (PW.pt (pw_or (pt_not (pt_val (pe_callB call_isi B.b_isinstance (pa_cons (pv 0) (pa_cons (pe_ty "list" rfl B.b_list (by decide +kernel)) pa_nil))))) (pw_or1 (pt_cmpR op_ne (pe_callB call_len B.b_len (pa_cons (pv 0) pa_nil)) (pe_callB call_len B.b_len (pa_cons (pv 1) pa_nil)) (nomark _))))) (pss_one (ps_ret pe_bl)) pss_nil)
    (pss_cons (ps_for PassesOwn.never rfl (pi_zip rfl B.b_zip (pa_cons (pv 0) (pa_cons (pv 1) pa_nil))) (pg_tup (n:=2) rfl (pgs_cons (pg_name (i:=2) sc__law_same.nd) (pgs_cons (pg_name (i:=3) sc__law_same.nd) pgs_nil))) (pss_one (ps_if (PW.pt (pw_or (pt_not (pt_val (pe_callB call_isi B.b_isinstance (pa_cons (pv 2) (pa_cons (pe_ty "tuple" rfl B.b_tuple (by decide +kernel)) pa_nil))))) (pw_or1 (pt_cmpR (op_neD hr.units) (pv 2) (pv 3) (nomark _))))) (pss_one (ps_ret pe_bl)) pss_nil)))
    (pss_one (ps_ret pe_bl)))),?_⟩
   refine ⟨_,rfl,_,.lst,.lst,rfl,.lst (SqL.of hF),_,rfl,iteF ?_⟩
   refine ⟨_,rfl,_,_,rfl,Or.inl ⟨_,SqL.of hF,rfl⟩,_,rfl,_,_,rfl,Or.inl ⟨_,hD,rfl⟩,rfl,_,rfl,?_⟩
   rw [List.length_map,T.len,lu,show (!decide (V.int (ord.length:Int)=V.int (ord.length:Int)))=false by simp]
   refine iteF ?_
   refine ⟨_,rfl,_,rfl,F,D,rfl,⟨_,SqL.of hF⟩,⟨_,hD⟩,for_zip (xs:=ts.map V.ref) (ys:=us) (fun i σ H'=>∃ u2 u3,σ=[some (.ref F),some (.ref D),u2,u3]∧Same H H') ⟨none,none,rfl,Same.refl _⟩ (fun i σ H' ⟨_,_,_,s⟩=>⟨SqL.of (s _ _ hF),s.seq hD⟩) ?_ ?_⟩
   · rintro i x y Tt σ H1 hx hy hTt ⟨u2,u3,rfl,s1⟩
     obtain ⟨t,ht,rfl⟩:=getm hx
     have hil:i < ord.length:=by rw [←T.len]; exact (List.getElem?_eq_some_iff.mp ht).1
     have hp:=T.at_ i t ord[i] ht (List.getElem?_eq_getElem hil)
     obtain ⟨pr,t2,hpr,rfl,ht2⟩:=hU.pairs_get hy
     have e:pr=ord[i]:=by rw [List.getElem?_eq_getElem hil] at hpr; exact (Option.some.inj hpr).symm
     subst e
     have s2:=s1.trans (same_new (o:=.tup [.ref t,.ref t2]) hTt)
     have eT:(upd H1 Tt (.tup [.ref t,.ref t2])) Tt=some (.tup [.ref t,.ref t2]):=upd_same
     generalize upd H1 Tt (.tup [.ref t,.ref t2])=H2 at s2 eT ⊢
     refine ⟨Tt,_,rfl,SqT.of eT,rfl,_,_,rfl,_,_,rfl,rfl,?_⟩
     have hT1:SqT K H2 t [.str ord[i].1,.str ord[i].2]:=SqT.of (s2 _ _ hp)
     refine ⟨_,rfl,_,.tup,.tup,rfl,.tup hT1,_,rfl,iteF ?_⟩
     refine ⟨_,rfl,_,rfl,2,prD ord[i],prD ord[i],cmp_pair _ _,by decide,.tup hT1 (.cons (.str _) (.cons (.str _) .nil)),.tup (s2.seqT ht2) (.cons (.str _) (.cons (.str _) .nil)),_,rfl,?_⟩
     rw [show (!dec (prD ord[i]=prD ord[i]))=false by rw [dec_true rfl]; rfl]
     exact iteF ⟨_,_,rfl,s2⟩
   · rintro σ H1 ⟨u2,u3,rfl,s1⟩
     exact q _ s1
variable (P w K mg base) in
abbrev C__law_same:Prop:=Callee P w K mg base "_law_same" 1 ["_law_found", "_law_due"] (sp__law_same K)
theorem call__law_same (B:Blt mg) (ER:Ers K mg)  (F:Fun K "_law_same" "_law_same" s__law_same f fd) (hm:mg "_law_same" = some (.ref f)):C__law_same P w K mg base :=
 ⟨f,fd,ok__law_same B ER  F,hm,F.kp,F.binds fun _ _ _ _ _ _ us hl=>(by obtain ⟨x0,x1,rfl⟩:=len_2 hl; rfl)⟩
abbrev s_isb:Stmt:=(defBody s_judge).getD 1 (.Pass ⟨0,0,0,0⟩)
abbrev qI:Str:=("judge" : Str) ++ ".<locals>." ++ "is_better"
abbrev tJ (K:PySem.W.Frag):Addr:=tabT K "judge"
abbrev tabJ (c':Addr):HO:=.tbl #[rawInt ((46:Nat):Int),rawInt ((4:Nat):Int),.ref c']
def TabSt (K:PySem.W.Frag) (H:Hp):Prop:=H (tJ K)=some (.tbl #[])∨∃ c',H (tJ K)=some (tabJ c')∧H c'=some (CodeO c' qI)
def SameT (H H':Hp):Prop:=∀ b o,(∀ ps,o≠.tbl ps)→H b=some o→H' b=some o
theorem SameT.of {H H':Hp} (h:Same H H'):SameT H H':=fun b o _ e=>h b o e
theorem SameT.trans {H H1 H2:Hp} (a:SameT H H1) (b:SameT H1 H2):SameT H H2:=fun c o n e=>b c o n (a c o n e)
structure Jdg (H:Hp) (f c c' d:Addr) (ord:List (Str × Str)):Prop where
 fn:H f=some (FnO f s_isb qI "is_better" [("known",c)] c')
 code:H c'=some (CodeO c' qI)
 cell:H c=some (CellO c d)
 dict:BetD H d ord
theorem Jdg.same {H H':Hp} {f c c' d:Addr} {ord:List (Str × Str)} (e:SameT H H') (j:Jdg H f c c' d ord):Jdg H' f c c' d ord :=
 ⟨e _ _ (fun _ z=>nomatch z) j.fn,e _ _ (fun _ z=>nomatch z) j.code,e _ _ (fun _ z=>nomatch z) j.cell,let ⟨k,a,b⟩:=j.dict; ⟨k,e _ _ (fun _ z=>nomatch z) a,b⟩⟩
def sp_judge (K:PySem.W.Frag):Sp:=fun vs H Q _=>∃ (p:Addr) (ps:List (Str × Str)),vs=[.ref p]∧Prs K H p ps∧ps.length≤60∧TabSt K H∧∀ (f c c' d:Addr) (ord:List (Str × Str)) (H':Hp),OrdOf ps ord→SameT H H'→H' (tJ K)=some (tabJ c')→Jdg H' f c c' d ord→Q (.ref f) H'
theorem ok_judge {f : Addr} {fd : FuncData} {cJ : Addr} (B : Blt mg) (c_all_that_follows : C_all_that_follows P w K mg base) (F : Fun K "judge" "judge" s_judge f fd) (NS : Nst mg base cJ (tJ K)) (hcd : fd.code = .ref cJ) : FnOk P w K mg base CX0 3 f fd ["pairs"] (sp_judge K) := by
 refine fn_ofR F sc_judge (fun vs H Q E h=>?_) fun A outer s s1 H vs Q E hr h I=>?_
 · obtain ⟨p,ps,rfl,_⟩:=h
   rfl
 obtain ⟨p,ps,rfl,hP,hlen,hT,q⟩:=h
 have R:=psr (body:=defBody s_judge) (R:=fun σ' v H'=>∃ d f' c' ord,σ'=[some (.ref p),some (.ref d),some (.ref f')]∧v=.ref f'∧OrdOf ps ord∧SameT H H'∧H' (tJ K)=some (tabJ c')∧H' f'=some (FnO f' s_isb qI "is_better" [("known",s.heap.objs.size + 1)] c')∧H' c'=some (CodeO c' qI)∧BetD H' d ord)
  rfl (ps_set (i:=1) sc_judge.nd (pe_callTy (call_dictOf rfl (hu2_of hr)) B.b_dict (pa_cons (pe_comp (te:=tTup (tCons (tVar 0) (tCons (tC (.bl true)) tNil))) rfl judge_cs1 (pi_list (pe_fn c_all_that_follows (pa_cons (pv 0) pa_nil))) (fun _ _ _ _ _=>(pg_name (i:=0) judge_cs1.nd)) (fun _ _ _ _ _=>pf_nil) (fun _ _ _ _ _=>(pe_tup (pa_cons (pv 0) (pa_cons pe_bl pa_nil))))) pa_nil)))
  (ps_def (st:=s_isb) (i:=2) (T:=tJ K) (clos:=[("known",s.heap.objs.size + 1)]) (qual:=qI) rfl NS sc_judge.nd rfl rfl hcd rfl rfl rfl rfl rfl) (pv 2) I ?_
 · refine wpAny_mono R (fun fl s' ⟨u,v,σ',H',e1,J,rv,d,f',c',ord,e2,e3,hO,hS,eT,eF,eC,hB⟩=>⟨u,e1,?_⟩) fun _ _ z=>z
   subst e2 e3
   have hl:(cxOf CX0 P w K mg base ["pairs", "known", "is_better"] "judge" (defScope s_judge) f fd.code A outer s H E).nox.env.cells.lookup ("known" : Str)=some (s.heap.objs.size + 1):=rfl
   have hn:=J.freeC _ _ hl
   obtain ⟨m,_,hlk⟩:=J.loc
   obtain ⟨u2,ru,lk⟩:=hlk 1 "known" (.ref d) rfl rfl (.inr (.inl rfl))
   obtain rfl:u2=Value.ref d:=ru
   have hce:s'.heap.IsCell (s.heap.objs.size + 1) (some (.ref d)):=by
    rcases lk with ⟨k,_⟩ | ⟨_,x,e1,e2⟩
    · exact absurd (show (defScope s_judge).names.lookup ("known" : Str)=some .local from k) (by decide +kernel)
    · rw [hl] at e1
      cases e1
      exact e2
   have ne:∀ {b:Addr} {o:HO},H' b=some o→b≠s.heap.objs.size + 1:=fun e=>ne_of_none e hn
   refine ⟨.ref f',upd H' (s.heap.objs.size + 1) (CellO (s.heap.objs.size + 1) d),J.os,J.bare,Un.track J.base (Nat.le_succ _) hn,J.hok.track hn ⟨hce,let ⟨o,e,_⟩:=hce; ⟨o,e⟩,cellO_stay⟩,rv,?_⟩
   refine q f' (s.heap.objs.size + 1) c' d ord _ hO (fun b o no e=>?_) ?_ ⟨?_,?_,upd_same,?_⟩
   · have:=hS b o no e
     rw [upd_ne (ne this)]; exact this
   · rw [upd_ne (ne eT)]; exact eT
   · rw [upd_ne (ne eF)]; exact eF
   · rw [upd_ne (ne eC)]; exact eC
   · obtain ⟨k,a,b⟩:=hB
     exact ⟨k,by rw [upd_ne (ne a)]; exact a,b⟩
 · refine ⟨_,rfl,p,ps,rfl,hP,hlen,fun ts ord D H1 hO ol hD s1' eD TO=>?_⟩
   have hT1:TabSt K H1:=by
    rcases hT with h | ⟨c',h1,h2⟩
    · exact .inl (s1' _ _ h)
    · exact .inr ⟨c',s1' _ _ h1,s1' _ _ h2⟩
   have fin : ∀ (d : Addr) (H3 : Hp), Same H1 H3 → BetD H3 d ord → (tDef (tJ K) 2 s_isb ⟨46, 4, 47, 36⟩ "is_better" qI [("known", s.heap.objs.size + 1)]) { nx := fun σ2 H2 => tVar 2 σ2 H2 fun v H' => ∃ d f' c' ord, σ2 = [some (.ref p), some (.ref d), some (.ref f')] ∧ v = .ref f' ∧ OrdOf ps ord ∧ SameT H H' ∧ H' (tJ K) = some (tabJ c') ∧ H' f' = some (FnO f' s_isb qI "is_better" [("known", s.heap.objs.size + 1)] c') ∧ H' c' = some (CodeO c' qI) ∧ BetD H' d ord, rt := fun _ _ => False } [some (.ref p), some (.ref d), none] H3 := fun d H3 s3 hB => by
    obtain ⟨kvs,ek,hk⟩:=hB
    have s03:SameT H H3:=.of (s1'.trans s3)
    rcases hT1 with h | ⟨c',h1,h2⟩
    · have h3:=s3 _ _ h
      refine .inl ⟨h3,fun f' c' hf hc hcf=>⟨_,rfl,d,f',c',ord,rfl,rfl,hO,fun b o no e=>?_,?_,upd_same,?_,kvs,?_,hk⟩⟩
      · have e3:=s03 b o no e
        rw [upd_ne (ne_of_none e3 hf),upd_ne (ne_of_none e3 hc),upd_ne (ne_of e3 h3 (no _))]; exact e3
      · rw [upd_ne (ne_of_none h3 hf),upd_ne (ne_of_none h3 hc)]; exact upd_same
      · rw [upd_ne hcf]; exact upd_same
      · rw [upd_ne (ne_of_none ek hf),upd_ne (ne_of_none ek hc),upd_ne (ne_of ek h3 (fun z=>nomatch z))]; exact ek
    · have h3:=s3 _ _ h1
      have h4:=s3 _ _ h2
      refine .inr ⟨c',h3,fun f' hf=>⟨_,rfl,d,f',c',ord,rfl,rfl,hO,fun b o no e=>?_,?_,upd_same,?_,kvs,?_,hk⟩⟩
      · have e3:=s03 b o no e
        rw [upd_ne (ne_of_none e3 hf)]; exact e3
      · rw [upd_ne (ne_of_none h3 hf)]; exact h3
      · rw [upd_ne (ne_of_none h4 hf)]; exact h4
      · rw [upd_ne (ne_of_none ek hf)]; exact ek
   refine ⟨D,rfl,⟨_,SqL.of eD⟩,comp_listI (xs:=ts.map V.ref) (fun P i ys H'=>Same H1 H'∧H' P=some (.lst ys)∧ys.length=i∧PrsAt H' ys ((ord.take i).map fun p=>(keyP p,V.bl true)))
    (fun P hP=>⟨same_new hP,upd_same,rfl,.nil⟩) (fun P i ys H' ⟨s,_⟩=>SqL.of (s _ _ eD)) (fun P i y ys H2 RR hP hy hv k=>?_) (fun P ys H2 hP hv=>?_)⟩
   · obtain ⟨s2,eP,hl,hps⟩:=hv
     obtain ⟨tt,htt,rfl⟩:=getm hy
     have hio:i < ord.length:=by rw [←TO.len]; exact (List.getElem?_eq_some_iff.mp htt).1
     have hoi:=List.getElem?_eq_getElem hio
     have ett:=s2 _ _ (TO.at_ i _ _ htt hoi)
     refine ⟨_,rfl,two_le,fun T hT=>?_⟩
     obtain ⟨H3,qH3,s3,eT⟩:=new_at (o:=.tup [.ref tt,.bl true]) hT
     rw [←qH3]
     have eP3:=s3 _ _ eP
     have kp:∀ b xs,H3 b=some (.tup xs)→(upd H3 P (.lst (ys++[.ref T]))) b=some (.tup xs):=fun b xs e=>by
      rw [upd_ne (ne_of e eP3 (fun z=>nomatch z))]; exact e
     refine k _ _ eP3 (by rw [hl]; exact Nat.lt_of_lt_of_le (show _ < 5000 by omega) (by decide)) ⟨fun b u e=>?_,upd_same,by rw [List.length_append,hl]; rfl,?_⟩
     · rw [upd_ne (ne_of_none e hP)]; exact s3 _ _ (s2 _ _ e)
     · rw [List.take_succ,hoi,List.map_append]
       exact Paired.snoc ((hps.tups fun b xs e=>s3 _ _ e).tups kp) ⟨T,tt,rfl,kp _ _ eT,kp _ _ (s3 _ _ ett)⟩
   obtain ⟨s2,eP,hl,hps⟩:=hv
   rw [List.length_map,TO.len,List.take_length] at hps
   rw [List.length_map,TO.len] at hl
   refine ⟨P,ys,_,rfl,eP,by rw [hl]; exact Nat.lt_of_lt_of_le (show _ < 5000 by omega) (by decide),hps,fun d hd=>?_⟩
   exact fin d _ (s2.trans (same_new hd)) ⟨_,upd_same,bet_dict⟩
variable (P w K mg base) in
abbrev C_judge:Prop:=Callee P w K mg base "judge" 3 ["pairs"] (sp_judge K)
theorem call_judge {f:Addr} {fd:FuncData} {cJ:Addr} (B:Blt mg) (c_all_that_follows:C_all_that_follows P w K mg base) (F:Fun K "judge" "judge" s_judge f fd) (hm:mg "judge" = some (.ref f)) (NS:Nst mg base cJ (tJ K)) (hcd:fd.code=.ref cJ):C_judge P w K mg base :=
 ⟨f,fd,ok_judge B c_all_that_follows F NS hcd,hm,F.kp,F.binds fun _ _ _ _ _ _ us hl=>(by obtain ⟨x0,rfl⟩:=len_1 hl; rfl)⟩
theorem strs_dtr {K:PySem.W.Frag} {H:Hp}:∀ (l:List Str),IsDts K H (l.map V.str) (l.map Dt.str)
 | []=>.nil
 | _ :: l=>.cons (.str _) (strs_dtr l)
def sp__law_is_round (K:PySem.W.Frag):Sp:=fun vs H Q _=>∃ (r l:Addr) (ring ls:List Str) (k:Nat),vs=[.ref r,.ref l]∧SqL K H r (ring.map V.str)∧SqL K H l (ls.map V.str)∧ring=ls.drop k++ls.take k∧k < ls.length∧ls.Nodup∧ls.length≤100∧∀ H',Same H H'→Q (.bl true) H'
theorem ok__law_is_round (B:Blt mg) (ER:Ers K mg)  (F:Fun K "_law_is_round" "_law_is_round" s__law_is_round f fd):FnOk P w K mg base CX0 1 f fd ["_law_ring", "_law_labels_here"] (sp__law_is_round K):=by
 refine F.ok sc__law_is_round (fun vs H Q E h=>?_) (fun cdv A outer s H vs Q E hr h=>?_)
 · obtain ⟨r,l,ring,ls,k,rfl,_⟩:=h
   rfl
 · obtain ⟨r,l,ring,ls,k,rfl,hR,hL,hrl,hk,nd,l100,q⟩:=h
   have hlen:ring.length=ls.length:=by rw [hrl,List.length_append,List.length_drop,List.length_take]; omega
   have h0:ring[0]?=some ls[k]:=by rw [hrl,List.getElem?_append_left (by rw [List.length_drop]; omega),List.getElem?_drop]; simp [hk]
   have h0':(ring.map V.str)[0]?=some (.str ls[k]):=by rw [List.getElem?_map,h0]; rfl
   have cm:∀ e∈ls.map Dt.str,Cmp 0 e (.str ls[k]):=fun e he=>by
    obtain ⟨x,_,rfl⟩:=List.mem_map.mp he
    exact .str _ _
   refine ⟨_,(pss_cons (ps_if (PW.pt (pw_or (pt_cmpR op_ne (pe_callB call_len B.b_len (pa_cons (pv 0) pa_nil)) (pe_callB call_len B.b_len (pa_cons (pv 1) pa_nil)) (nomark _)) (pw_or1 (pt_cmpR (op_notinD hr.units) (pe_ix ix_seq (pv 0) pe_int) (pv 1) (by with_unfolding_all rfl))))) (pss_one (ps_ret pe_bl)) pss_nil)
    (pss_cons (ps_set (i:=2) sc__law_is_round.nd (pe_bm PySem.F.plainAttrs_list PySem.F.slot_list_index PySem.F.type_list_index (mr_index hr.units) (pv 1) (pa_cons (pe_ix ix_seq (pv 0) pe_int) pa_nil)))
    (pss_one (ps_ret (pe_cmpR (op_eqD hr.units) (pv 0) (pe_op op_cat (pe_slice sl_list (pv 1) (po_some (pv 2)) po_none) (pe_slice sl_list (pv 1) po_none (po_some (pv 2)))) (nomark _)))))),?_⟩
   refine ⟨_,rfl,_,_,rfl,Or.inl ⟨_,hR,rfl⟩,_,rfl,_,_,rfl,Or.inl ⟨_,hL,rfl⟩,rfl,_,rfl,?_⟩
   rw [List.length_map,List.length_map,hlen,show (!decide (V.int (ls.length:Int)=V.int (ls.length:Int)))=false by simp]
   refine iteF ⟨_,rfl,Or.inl ⟨r,_,_,.str ls[k],rfl,rfl,hR,atI_nat (j:=0) h0',_,rfl,0,.str ls[k],ls.map Dt.str,l,_,cm,by decide,.str _,rfl,hL,strs_dtr _,_,rfl,?_⟩⟩
   rw [dec_true (List.mem_map.mpr ⟨_,List.getElem_mem hk,rfl⟩)]
   refine iteF ?_
   refine ⟨_,rfl,Or.inl ⟨rfl,_,hL⟩,_,rfl,Or.inl ⟨r,_,_,.str ls[k],rfl,rfl,hR,atI_nat (j:=0) h0',l,_,0,.str ls[k],ls.map Dt.str,_,k,rfl,rfl,cm,by decide,.str _,hL,strs_dtr _,by rw [List.getElem?_map,List.getElem?_eq_getElem hk]; rfl,?_,?_⟩⟩
   · intro m hm e
     rw [List.getElem?_map,List.getElem?_eq_getElem (by omega)] at e
     have e2:ls[m]=ls[k]:=by injection (Option.some.inj e)
     have:=(List.getElem_inj nd).mp e2
     omega
   refine g_in ?_
   try dsimp only
   refine ⟨_,rfl,_,rfl,_,rfl,_,rfl,l,_,rfl,hL,fun p1 h1=>?_⟩
   rw [cutV_drop,←List.map_drop]
   obtain ⟨H1,qH1,s1,e1⟩:=new_at (o:=.lst ((ls.drop k).map V.str)) h1
   rw [←qH1]
   refine ⟨_,rfl,_,rfl,_,rfl,l,_,rfl,s1.seq hL,fun p2 h2=>?_⟩
   rw [cutV_take,←List.map_take]
   obtain ⟨H2,qH2,s2,e2⟩:=new_at (o:=.lst ((ls.take k).map V.str)) h2
   rw [←qH2]
   refine ⟨p1,p2,_,_,rfl,rfl,s2 _ _ e1,e2,by rw [List.length_map,List.length_map,List.length_drop,List.length_take]; exact Nat.le_of_lt (small1000 (by omega)),fun p3 h3=>?_⟩
   rw [←List.map_append,←hrl]
   have s3:=same_new (o:=.lst (ring.map V.str)) h3
   refine ⟨2,.lst (ring.map Dt.str),.lst (ring.map Dt.str),.lst (Cmps.of fun d hd e he=>?_),by decide,.lst (((s1.trans s2).trans s3).seq hR) (strs_dtr _),.lst (SqL.of upd_same) (strs_dtr _),?_⟩
   · obtain ⟨_,_,rfl⟩:=List.mem_map.mp hd
     obtain ⟨_,_,rfl⟩:=List.mem_map.mp he
     exact .str _ _
   rw [dec_true rfl]
   exact q _ ((s1.trans s2).trans s3)
variable (P w K mg base) in
abbrev C__law_is_round:Prop:=Callee P w K mg base "_law_is_round" 1 ["_law_ring", "_law_labels_here"] (sp__law_is_round K)
theorem call__law_is_round (B:Blt mg) (ER:Ers K mg)  (F:Fun K "_law_is_round" "_law_is_round" s__law_is_round f fd) (hm:mg "_law_is_round" = some (.ref f)):C__law_is_round P w K mg base :=
 ⟨f,fd,ok__law_is_round B ER  F,hm,F.kp,F.binds fun _ _ _ _ _ _ us hl=>(by obtain ⟨x0,x1,rfl⟩:=len_2 hl; rfl)⟩
def sp__law_ring_of (K:PySem.W.Frag):Sp:=fun vs H Q _=>∃ (p:Addr) (ps:List (Str × Str)),vs=[.ref p]∧Prs K H p ps∧ps.length≤60∧(∀ x∈ps,smallS x.2)∧(∃ x,Path ps x x)∧∀ (D:Addr) (ring:List Str) (H':Hp),RingOk ps ring→ring.length≤100→Same H H'→H' D=some (.lst (ring.map V.str))→Q (.ref D) H'
theorem ok__law_ring_of (B:Blt mg) (ER:Ers K mg) (c_order_of:CalleeE P w K mg base "order_of" 5 ["pairs"] (sp_order_of K)) (F:Fun K "_law_ring_of" "_law_ring_of" s__law_ring_of f fd):FnOk P w K mg base CX0 6 f fd ["_law_pairs_here"] (sp__law_ring_of K):=by
 refine F.ok sc__law_ring_of (fun vs H Q E h=>?_) (fun cdv A outer s H vs Q E hr h=>?_)
 · obtain ⟨p,ps,rfl,_⟩:=h
   rfl
 · obtain ⟨p,ps,rfl,hP,hlen,hsm,hpp,q⟩:=h
   refine ⟨_,(pss_cons (ps_set (i:=1) sc__law_ring_of.nd pe_non)
    (pss_cons (ps_try_fnX (i:=2) c_order_of (hr.mono (by decide)) rfl (pa_cons (pv 0) pa_nil) rfl rfl (cform_x ER.xi_Ring) rfl ER.e_Ring sc__law_ring_of.nd rfl rfl (fun _=>(pss_one (ps_set (i:=1) sc__law_ring_of.nd (pv 2)))))
    (pss_cons (ps_if (PW.pt (pw_or (pt_cmp (pc_isN (pv 1))) (pw_or1 (pt_not (pt_val (pe_callB call_isi B.b_isinstance (pa_cons (pe_xfld (pv 1)) (pa_cons (pe_ty "list" rfl B.b_list (by decide +kernel)) pa_nil)))))))) (pss_one (ps_ret (pe_lst pa_nil))) pss_nil)
    (pss_one (ps_ret (pe_xfld (pv 1))))))),?_⟩
   refine g_in ?_
   try dsimp only
   refine ⟨_,rfl,p,ps,rfl,hP,hlen,hsm,fun ts ord D H1 hac _ _ _ _ _ _=>absurd hpp.choose_spec (hac _),fun dx D ring H1 R hrl s1 eD ex=>?_⟩
   refine ⟨clsA K "Ring",rfl,ER.xf_Ring,ER.s_Ring_Ring,fun a ha=>?_⟩
   obtain ⟨H2,qH2,s2,ea⟩:=new_at (o:=ExcO a (clsA K "Ring") (some dx)) ha
   rw [←qH2]
   refine ⟨_,rfl,?_⟩
   refine ⟨_,rfl,_,rfl,ite2 (fun h=>absurd (of_decide_eq_true h) (by simp)) (fun _=>?_)⟩
   refine ⟨_,rfl,a,clsA K "Ring",dx,_,.ref D,rfl,ea,s2 _ _ ex,ER.d_Ring,ER.hd_Ring,ER.na_Ring_ring,rfl,_,.lst,.lst,rfl,.lst (SqL.of (s2 _ _ eD)),_,rfl,iteF ?_⟩
   exact ⟨_,rfl,a,clsA K "Ring",dx,_,.ref D,rfl,ea,s2 _ _ ex,ER.d_Ring,ER.hd_Ring,ER.na_Ring_ring,rfl,q D ring H2 R hrl (s1.trans s2) (s2 _ _ eD)⟩
variable (P w K mg base) in
abbrev C__law_ring_of:Prop:=Callee P w K mg base "_law_ring_of" 6 ["_law_pairs_here"] (sp__law_ring_of K)
theorem call__law_ring_of (B:Blt mg) (ER:Ers K mg) (c_order_of:CalleeE P w K mg base "order_of" 5 ["pairs"] (sp_order_of K)) (F:Fun K "_law_ring_of" "_law_ring_of" s__law_ring_of f fd) (hm:mg "_law_ring_of" = some (.ref f)):C__law_ring_of P w K mg base :=
 ⟨f,fd,ok__law_ring_of B ER c_order_of F,hm,F.kp,F.binds fun _ _ _ _ _ _ us hl=>(by obtain ⟨x0,rfl⟩:=len_1 hl; rfl)⟩
theorem clo_sc:CloScope ["one", "other"] "known" (defScope s_isb):=⟨rfl,rfl,rfl,by decide +kernel,by decide +kernel,by decide +kernel,rfl,by decide +kernel⟩
abbrev teI:TE:=tOp (rInDict false) (tTup (tCons (tVar 0) (tCons (tVar 1) tNil))) (tVar 2)
theorem pe_isb {X:Cx} {i:Nat} {x:Str} {e1 e2:Expr} {t:TA} {p pos:Pos} (hN:X.N[i]?=some x) (hv:Vis X.env.scope x) (ha:PA X [e1,e2] t) (hr:Room 1 X.A:=by exact Room.mono (by assumption) (by decide))
 (hd:(x == ("__debug__" : Str))=false:=by decide) (hcd:(x == ("__classdict__" : Str))=false:=by decide) (hst:starEach [e1,e2] X.env=(false,eval e1 X.env) :: starEach [e2] X.env:=by rfl) (hpl:(backTo pos (starEach [e2] X.env)).any (·.1)=false:=by rfl) :
 PE X (.Call (.Name x p) [e1,e2] [] pos) (tClo i 2 s_isb qI "is_better" "known" teI t) :=
 pe_clo (k:=1) hN hv clo_sc rfl hr rfl (fun _ _ _ _ _ us hl=>by obtain ⟨x0,x1,rfl⟩:=len_2 hl; rfl) (fun f c c' s H=>pe_cmpR (op_inDict (hu_of (Room.deeper hr _))) (pe_tup (pa_cons (pv 0) (pa_cons (pv 1) pa_nil))) (pv 2) (by with_unfolding_all rfl)) ha hd hcd hst hpl
theorem isb_read {H:Hp} {c d:Addr} {ord:List (Str × Str)} {a b:Str} {R:VK} (hB:BetD H d ord) (hc:H c=some (CellO c d)) (q:∀ H',Same H (upd H' c (CellO c d))→R (.bl (dec ((a,b)∈ord))) H') :
 teI ([V.str a,V.str b].map some++[some (.ref d)]) (drop1 H c) R:=by
 obtain ⟨kvs,ek,hk⟩:=hB
 refine ⟨_,rfl,_,rfl,two_le,fun t ht=>⟨_,rfl,d,valV kvs (keyP (a,b)),rfl,Or.inr ⟨kvs,keyP (a,b),t,.inl ?_,rfl,upd_same,rfl⟩,?_⟩⟩
 · have e:drop1 H c d=some (.dT kvs):=by rw [drop1_ne (ne_of ek hc (fun z=>nomatch z))]; exact ek
   rw [upd_ne (ne_of_none e ht)]; exact e
 · rw [hk a b,show (dec ((a,b)∈ord) != false)=dec ((a,b)∈ord) from by cases dec ((a,b)∈ord) <;> rfl]
   refine q _ fun x o e=>?_
   by_cases hx:x=c
   · subst hx; rw [upd_same,←e,hc]
   · have e':drop1 H c x=some o:=by rw [drop1_ne hx]; exact e
     rw [upd_ne hx,upd_ne (ne_of_none e' ht)]; exact e'
theorem at_zero {α:Type} {xs:List α} {v:α} (h:xs[0]?=some v):atI xs 0=some v:=by
 have:=at0 h
 simpa using this
theorem tups_sameT {H H':Hp} {ts:List Addr} {ps:List (Str × Str)} (e:SameT H H') (h:Tups H ts ps):Tups H' ts ps:=⟨h.len,fun n t p h1 h2=>e _ _ (fun _ z=>nomatch z) (h.at_ n t p h1 h2)⟩
theorem Jdg.upd {H:Hp} {A f c c' d:Addr} {xs ys:List V} {ord:List (Str × Str)} (h:H A=some (.lst xs)) (j:Jdg H f c c' d ord):Jdg (upd H A (.lst ys)) f c c' d ord :=
 ⟨by rw [upd_ne (ne_of j.fn h (fun z=>nomatch z))]; exact j.fn,by rw [upd_ne (ne_of j.code h (fun z=>nomatch z))]; exact j.code,by rw [upd_ne (ne_of j.cell h (fun z=>nomatch z))]; exact j.cell,
  let ⟨k,a,b⟩:=j.dict; ⟨k,by rw [upd_ne (ne_of a h (fun z=>nomatch z))]; exact a,b⟩⟩
theorem name_lab {x:Str} (h:1≤x.length∧x.length≤8∧∀ c∈x.cps.toList,97≤c∧c≤122):nameB x=true:=by
 unfold nameB signB
 simp only [Bool.and_eq_true,decide_eq_true_eq,List.all_eq_true]
 exact ⟨h.1,h.2.1,fun c hc=>h.2.2 c hc⟩
theorem ltP_irrefl (p:Str × Str):¬ ltP p p:=fun h=>by
 rcases h with h | ⟨_,h⟩
 · exact ltS_irrefl _ h
 · exact ltS_irrefl _ h
theorem ltP_asymm {p q:Str × Str} (h:ltP p q) (k:ltP q p):False:=by
 rcases h with h | ⟨e,h⟩ <;> rcases k with k | ⟨e',k⟩
 · exact ltS_irrefl _ (ltS_trans h k)
 · rw [e'] at h; exact ltS_irrefl _ h
 · rw [e] at k; exact ltS_irrefl _ k
 · exact ltS_irrefl _ (ltS_trans h k)
theorem sorted_same:∀ {l m:List (Str × Str)},l.Pairwise ltP→m.Pairwise ltP→(∀ x,x∈l↔x∈m)→l=m
 | [],[],_,_,_=>rfl
 | [],y :: m,_,_,h=>absurd ((h y).mpr List.mem_cons_self) (by simp)
 | x :: l,[],_,_,h=>absurd ((h x).mp List.mem_cons_self) (by simp)
 | x :: l,y :: m,hl,hm,h=>by
   obtain ⟨a1,a2⟩:=List.pairwise_cons.mp hl
   obtain ⟨b1,b2⟩:=List.pairwise_cons.mp hm
   have exy:x=y:=by
    rcases List.mem_cons.mp ((h x).mp List.mem_cons_self) with e | h1
    · exact e
    · rcases List.mem_cons.mp ((h y).mpr List.mem_cons_self) with e | h2
      · exact e.symm
      · exact (ltP_asymm (a1 y h2) (b1 x h1)).elim
   subst exy
   have:l=m:=sorted_same a2 b2 fun z=>by
    constructor
    · intro hz
      rcases List.mem_cons.mp ((h z).mp (List.mem_cons_of_mem _ hz)) with e | h1
      · rw [e] at hz; exact absurd (a1 x hz) (ltP_irrefl x)
      · exact h1
    · intro hz
      rcases List.mem_cons.mp ((h z).mpr (List.mem_cons_of_mem _ hz)) with e | h1
      · rw [e] at hz; exact absurd (b1 x hz) (ltP_irrefl x)
      · exact h1
   rw [this]
theorem OrdOf.same {ps o1 o2:List (Str × Str)} (h:OrdOf ps o1) (k:OrdOf ps o2):o1=o2:=sorted_same h.srt k.srt fun ⟨a,b⟩=>(h.mem a b).trans (k.mem a b).symm
theorem ord_of {ps ord:List (Str × Str)} (hm:∀ a b,(a,b)∈ord↔Path ps a b) (nd:ord.Nodup) (hs:ord.Pairwise (lexO strO strO).kle):OrdOf ps ord :=
 ⟨hm,(hs.and nd).imp fun h=>pair_kle h.1 h.2⟩
theorem labP_mem {ps:List (Str × Str)} {x:Str}:x∈labelsP ps↔∃ p∈ps,x=p.1∨x=p.2:=by
 unfold labelsP
 rw [List.mem_flatMap]
 constructor
 · rintro ⟨p,hp,hx⟩; exact ⟨p,hp,by simpa using hx⟩
 · rintro ⟨p,hp,hx⟩; exact ⟨p,hp,by simpa using hx⟩
theorem nexts_mem {ls:List Str} {x y:Str} (h1:1≤ls.length):(x,y)∈nexts ls (ls.length - 1)↔∃ k,ls[k]?=some x∧ls[k + 1]?=some y:=by
 unfold nexts
 rw [List.mem_map]
 constructor
 · rintro ⟨k,hk,e⟩
   rw [List.mem_range] at hk
   cases e
   refine ⟨k,?_,?_⟩ <;> rw [List.getD_eq_getElem?_getD,List.getElem?_eq_getElem (by omega)] <;> rfl
 · rintro ⟨k,a,b⟩
   have hk:=(List.getElem?_eq_some_iff.mp b).1
   refine ⟨k,List.mem_range.mpr (by omega),?_⟩
   rw [List.getD_eq_getElem?_getD,List.getD_eq_getElem?_getD,a,b]; rfl
theorem lates_mem {ls:List Str} {x y:Str}:(x,y)∈lates ls ls.length↔∃ i j:Nat,i < j∧ls[i]?=some x∧ls[j]?=some y:=by
 unfold lates
 rw [List.mem_flatMap]
 constructor
 · rintro ⟨i,hi,h⟩
   rw [List.mem_range] at hi
   obtain ⟨j,hj,e⟩:=List.mem_map.mp h
   rw [List.mem_range] at hj
   cases e
   refine ⟨i,i + 1 + j,by omega,?_,?_⟩ <;> rw [List.getD_eq_getElem?_getD,List.getElem?_eq_getElem (by omega)] <;> rfl
 · rintro ⟨i,j,hij,a,b⟩
   have hi:=(List.getElem?_eq_some_iff.mp a).1
   have hj:=(List.getElem?_eq_some_iff.mp b).1
   refine ⟨i,List.mem_range.mpr hi,List.mem_map.mpr ⟨j - (i + 1),List.mem_range.mpr (by omega),?_⟩⟩
   rw [show i + 1 + (j - (i + 1))=j by omega,List.getD_eq_getElem?_getD,List.getD_eq_getElem?_getD,a,b]; rfl
theorem lates_nodup {ls:List Str} (nd:ls.Nodup):(lates ls ls.length).Nodup:=by
 have inj:∀ {i j:Nat},i < ls.length→j < ls.length→ls.getD i default=ls.getD j default→i=j:=fun {i j} hi hj e=>by
  rw [List.getD_eq_getElem?_getD,List.getElem?_eq_getElem hi,List.getD_eq_getElem?_getD,List.getElem?_eq_getElem hj] at e
  exact (List.getElem_inj nd).mp e
 unfold lates List.Nodup
 rw [List.pairwise_flatMap]
 refine ⟨fun i hi=>?_,?_⟩
 · rw [List.mem_range] at hi
   rw [List.pairwise_map]
   refine List.nodup_range.imp_of_mem fun {a b} ha hb hne e=>hne ?_
   rw [List.mem_range] at ha hb
   have:=inj (by omega) (by omega) (congrArg Prod.snd e)
   omega
 · refine List.nodup_range.imp_of_mem fun {a b} ha hb hne x hx y hy e=>hne ?_
   rw [List.mem_range] at ha hb
   obtain ⟨_,_,rfl⟩:=List.mem_map.mp hx
   obtain ⟨_,_,rfl⟩:=List.mem_map.mp hy
   exact inj ha hb (congrArg Prod.fst e)
theorem seq_sameT {K:PySem.W.Frag} {H H':Hp} {a:Addr} {xs:List V} (e:SameT H H') (h:SqL K H a xs):SqL K H' a xs:=by
 rcases h with (h | ⟨o,h⟩) | h
 · exact .inl (.inl (e _ _ (fun _ z=>nomatch z) h))
 · exact .inl (.inr ⟨o,e _ _ (fun _ z=>nomatch z) h⟩)
 · exact .inr h
theorem back_snd {ls:List Str} {o:Nat} {qs:List (Str × Str)} (h:BackP ls o qs) {x y:Str} (e:(x,y)∈qs):∃ i,i < ls.length∧ls[i]?=some y:=by
 rcases (h _ _).mp e with ⟨k,_,b⟩ | ⟨_,b⟩
 · exact ⟨_,(List.getElem?_eq_some_iff.mp b).1,b⟩
 · exact ⟨_,(List.getElem?_eq_some_iff.mp b).1,b⟩
theorem ring_row {ls:List Str} {o:Nat} {qs:List (Str × Str)} (nd:ls.Nodup) (h:BackP ls o qs) (ho:o < ls.length) {ring:List Str} (R:RingOk qs ring):∃ i,i < ls.length∧o≤i∧ring[0]?=ls[i]?∧ring=(ls.drop o).drop (i - o)++(ls.drop o).take (i - o):=by
 have hn:=R.ne
 have e1:ring[ring.length - 1]?=some (ring[ring.length - 1]'(by omega)):=List.getElem?_eq_getElem (by omega)
 have e0:ring[0]?=some ring[0]:=List.getElem?_eq_getElem hn
 obtain ⟨i,hi,ei⟩:=back_snd h (R.cl _ _ e1 e0)
 obtain ⟨a,b,c⟩:=back_ring nd h ho hn R.up R.cl R.nd hi (by rw [e0,ei])
 exact ⟨i,hi,a,by rw [e0,ei],c⟩
def sp_law (K:PySem.W.Frag):Sp:=fun vs H Q _=>∃ (a:Addr) (ns:List Int),vs=[.ref a]∧SqL K H a (ns.map V.int)∧ns.length≤63∧H (tJ K)=some (.tbl #[])∧∀ H',Q (.bl true) H'
theorem ok_law (B:Blt mg) (ER:Ers K mg) (c__law_cell_at:C__law_cell_at P w K mg base) (c__law_turned:C__law_turned P w K mg base) (c__law_labels:C__law_labels P w K mg base) (c__law_pairs:C__law_pairs P w K mg base) (c__law_all:C__law_all P w K mg base) (c_table_of:CalleeE P w K mg base "table_of" 6 ["states", "inner", "pairs"] (sp_table_of K)) (c__law_same:C__law_same P w K mg base) (c_order_of:CalleeE P w K mg base "order_of" 5 ["pairs"] (sp_order_of K)) (c_chain:C_chain P w K mg base) (c_judge:C_judge P w K mg base) (c__law_is_round:C__law_is_round P w K mg base) (c__law_ring_of:C__law_ring_of P w K mg base) (F:Fun K "law" "law" s_law f fd):FnOk P w K mg base CX0 7 f fd ["_law_script"] (sp_law K):=by
 refine F.ok sc_law (fun vs H Q E h=>?_) (fun cdv A outer s H vs Q E hr h=>?_)
 · obtain ⟨a,ns,rfl,_⟩:=h
   rfl
 · obtain ⟨a,ns,rfl,hS,hlen,hT,kq⟩:=h
   refine ⟨_,(pss_cons (ps_set (i:=1) sc_law.nd (pe_op op_add pe_int (pe_op op_mod (pe_fn c__law_cell_at (pa_cons (pv 0) (pa_cons pe_int pa_nil))) pe_int)))
    (pss_cons (ps_set (i:=2) sc_law.nd (pe_fn c__law_turned (pa_cons (pe_fn c__law_labels (pa_cons (pe_fn c__law_cell_at (pa_cons (pv 0) (pa_cons pe_int pa_nil))) (pa_cons (pv 1) pa_nil))) (pa_cons (pe_op op_mod (pe_fn c__law_cell_at (pa_cons (pv 0) (pa_cons pe_int pa_nil))) pe_int) pa_nil))))
    (pss_cons (ps_set (i:=3) sc_law.nd (pe_fn c__law_pairs (pa_cons (pv 2) (pa_cons (pv 0) pa_nil))))
    (pss_cons (ps_set (i:=4) sc_law.nd (pe_callTy call_list_of B.b_list (pa_cons (pv 3) pa_nil)))
    (pss_cons (ps_set (i:=5) sc_law.nd (pe_fn c__law_all (pa_cons (pv 2) pa_nil)))
    (pss_cons (ps_set (i:=6) sc_law.nd (pe_fnS c_table_of (hr.mono (by decide)) rfl (pa_cons (pe_lst (pa_cons (pe_tup (pa_cons (pe_lst pa_nil) (pa_cons (pe_lst pa_nil) pa_nil))) pa_nil)) (pa_cons pe_int (pa_cons (pv 4) pa_nil)))))
    (pss_cons (ps_if (PW.pt (pw_or (pt_not (pt_val (pe_fn c__law_same (pa_cons (pe_fnS c_order_of (hr.mono (by decide)) rfl (pa_cons (pv 4) pa_nil)) (pa_cons (pv 5) pa_nil))))) (pw_or1 (pt_not (pt_val (pe_fn c__law_same (pa_cons (pe_ix ix_seq (pv 6) pe_int) (pa_cons (pv 5) pa_nil)))))))) (pss_one (ps_ret pe_bl)) pss_nil)
    (pss_cons (ps_if (PW.pt (pw_or (pt_cmpR (op_neD hr.units) (pe_fn c_chain (pa_cons (pv 4) (pa_cons (pe_ix ix_seq (pv 2) pe_int) (pa_cons (pe_ix ix_seq (pv 2) (pe_un un_neg pe_int)) pa_nil)))) (pv 2) (nomark _)) (pw_or1 (pt_cmpR (op_neD hr.units) (pv 4) (pv 3) (nomark _))))) (pss_one (ps_ret pe_bl)) pss_nil)
    (pss_cons (ps_set (i:=7) sc_law.nd (pe_fn c_judge (pa_cons (pv 4) pa_nil)))
    (pss_cons (ps_set (i:=8) sc_law.nd (pe_op op_mod (pe_fn c__law_cell_at (pa_cons (pv 0) (pa_cons pe_int pa_nil))) (pv 1)))
    (pss_cons (ps_set (i:=9) sc_law.nd (pe_op op_mod (pe_op op_fdiv (pe_fn c__law_cell_at (pa_cons (pv 0) (pa_cons pe_int pa_nil))) pe_int) (pv 1)))
    (pss_cons (ps_if (PW.pt (pw_and (pt_cmpR op_isnotB (pe_isb (i:=7) rfl (Or.inl rfl) (pa_cons (pe_ix ix_seq (pv 2) (pv 8)) (pa_cons (pe_ix ix_seq (pv 2) (pv 9)) pa_nil))) pe_bl (nomark _)) (pw_and1 (pt_cmpR op_lt (pv 8) (pv 9) (nomark _))))) (pss_one (ps_ret pe_bl)) pss_nil)
    (pss_cons (ps_if (PW.pt (pw_and (pt_cmpR op_isnotB (pe_isb (i:=7) rfl (Or.inl rfl) (pa_cons (pe_ix ix_seq (pv 2) (pv 8)) (pa_cons (pe_ix ix_seq (pv 2) (pv 9)) pa_nil))) pe_bl (nomark _)) (pw_and1 (pt_cmpR op_ge (pv 8) (pv 9) (nomark _))))) (pss_one (ps_ret pe_bl)) pss_nil)
    (pss_cons (ps_expr (pe_bm PySem.F.plainAttrs_list PySem.F.slot_list_insert PySem.F.type_list_insert mr_insert (pv 4) (pa_cons (pe_op op_mod (pe_op op_fdiv (pe_fn c__law_cell_at (pa_cons (pv 0) (pa_cons pe_int pa_nil))) pe_int) (pe_op op_add (pe_callB call_len B.b_len (pa_cons (pv 3) pa_nil)) pe_int)) (pa_cons (pe_tup (pa_cons (pe_ix ix_seq (pv 2) (pe_un un_neg pe_int)) (pa_cons (pe_ix ix_seq (pv 2) (pv 8)) pa_nil))) pa_nil))))
    (pss_cons (ps_if (pt_not (pt_val (pe_fn c__law_is_round (pa_cons (pe_fn c__law_ring_of (pa_cons (pv 4) pa_nil)) (pa_cons (pe_slice sl_list (pv 2) (po_some (pv 8)) po_none) pa_nil))))) (pss_one (ps_ret pe_bl)) pss_nil)
    (pss_cons (ps_set (i:=10) sc_law.nd pe_non)
    (pss_cons (ps_if (pt_cmpR op_ge (pv 9) (pv 8) (nomark _)) (pss_one (ps_set (i:=10) sc_law.nd (pe_op op_cat (pe_slice sl_list (pv 2) (po_some (pv 9)) po_none) (pe_slice sl_list (pv 2) (po_some (pv 8)) (po_some (pe_op op_add (pv 9) pe_int)))))) pss_nil)
    (pss_one (ps_ret (pe_cmpR (op_eqD hr.units) (pe_fn c_chain (pa_cons (pv 4) (pa_cons (pe_ix ix_seq (pv 2) (pv 9)) (pa_cons (pe_ix ix_seq (pv 2) (pv 9)) pa_nil)))) (pv 10) (nomark _))))))))))))))))))))),?_⟩
   refine ⟨_,rfl,a,ns,1,rfl,by decide,hS,_,_,rfl,rfl,(by show (0:Int) < _; decide),_,_,rfl,rfl,?_⟩
   obtain ⟨mm,emm,m2,m41⟩:∃ n:Nat,2 + cellAt ns 1 % 40=(n:Int)∧2≤n∧n≤41:=⟨(2 + cellAt ns 1 % 40).toNat,by omega,by omega,by omega⟩
   try dsimp only
   rw [emm]
   refine g_in ?_
   try dsimp only
   refine ⟨_,rfl,a,ns,0,rfl,by decide,hS,_,rfl,_,_,rfl,by omega,by omega,fun l0 L0 H1 hl0 nd0 sm0 hL0 s1 e0=>?_⟩
   rw [Int.toNat_natCast] at hl0
   refine ⟨_,rfl,a,ns,2,rfl,by decide,s1.seq hS,_,_,rfl,rfl,(by show (0:Int) < _; decide),L0,l0,_,rfl,SqL.of e0,by omega,by omega,fun L ls H2 hL s2 eL pm=>?_⟩
   have lls:ls.length=mm:=by rw [pm.length_eq,hl0]
   have nd:ls.Nodup:=pm.nodup_iff.mpr nd0
   have sm:∀ x∈ls,1≤x.length∧x.length≤8∧∀ c∈x.cps.toList,97≤c∧c≤122:=fun x hx=>sm0 x (pm.mem_iff.mp hx)
   clear pm
   have s12:=s1.trans s2
   refine g_in ?_
   try dsimp only
   refine ⟨_,rfl,_,rfl,L,a,ls,ns,rfl,SqL.of eL,s12.seq hS,by omega,by omega,fun P ts ps H3 hP s3 eP TP pmP=>?_⟩
   have hN:NbrsP ls ps:=fun x y=>(pmP.mem_iff).trans (nexts_mem (by omega))
   have lps:ps.length=mm - 1:=by rw [pmP.length_eq]; unfold nexts; rw [List.length_map,List.length_range,lls]
   refine g_in ?_
   try dsimp only
   refine ⟨_,rfl,P,_,rfl,Or.inl (SqL.of eP),fun A hA=>?_⟩
   have s4:=same_new (o:=.lst (ts.map V.ref)) hA
   have eA:(upd H3 A (.lst (ts.map V.ref))) A=some (.lst (ts.map V.ref)):=upd_same
   have nPA:P≠A:=ne_of_none eP hA
   have nLA:L≠A:=ne_of_none (s3 _ _ eL) hA
   generalize upd H3 A (.lst (ts.map V.ref))=H4 at s4 eA ⊢
   refine g_in ?_
   try dsimp only
   refine ⟨_,rfl,L,ls,rfl,SqL.of (s4 _ _ (s3 _ _ eL)),by omega,by omega,fun D tD rows H5 hD s5 eD TD pmD srt=>?_⟩
   have hR:OrdOf ps rows:=ord_of (fun x y=>(pmD.mem_iff).trans (lates_mem.trans (row_path nd hN).symm)) (pmD.nodup_iff.mpr (lates_nodup nd)) srt
   refine g_in ?_
   try dsimp only
   have hac:=fun x=>row_ring nd hN x
   have inl:∀ p∈ps,p.1∈ls∧p.2∈ls:=fun p hp=>by
    obtain ⟨k,c,d⟩:=(hN p.1 p.2).mp hp
    exact ⟨List.mem_of_getElem? c,List.mem_of_getElem? d⟩
   have smp:∀ x∈ls,smallS x:=fun x hx=>⟨(sm x hx).2.1,fun c hc=>Nat.lt_of_le_of_lt ((sm x hx).2.2 c hc).2 (by decide)⟩
   have hsm:∀ x∈ps,smallS x.2:=fun x hx=>smp _ (inl x hx).2
   refine ⟨by decide,fun x1 hx1=>?_⟩
   obtain ⟨H6,qH6,u1,f1⟩:=new_at (o:=.lst []) hx1
   rw [←qH6]
   refine ⟨by decide,fun x2 hx2=>?_⟩
   obtain ⟨H7,qH7,u2,f2⟩:=new_at (o:=.lst []) hx2
   rw [←qH7]
   refine ⟨two_le,fun x3 hx3=>?_⟩
   obtain ⟨H8,qH8,u3,f3⟩:=new_at (o:=.tup [.ref x1,.ref x2]) hx3
   rw [←qH8]
   refine ⟨show 1≤sizeLine by decide,fun x4 hx4=>?_⟩
   obtain ⟨H9,qH9,u4,f4⟩:=new_at (o:=.lst [.ref x3]) hx4
   rw [←qH9]
   have f3:=u4 _ _ f3
   have f2:=u4 _ _ (u3 _ _ f2)
   have f1:=u4 _ _ (u3 _ _ (u2 _ _ f1))
   have z59:=((u1.trans u2).trans u3).trans u4
   have z49:=s5.trans z59
   have eA9:=z49 _ _ eA
   have TP9:=(TP.same s4).same z49
   have hST:Stts K H9 x4 [([],[])]:=⟨_,SqL.of f4,.cons (.tup (SqT.of f3) (.cons (.lst (SqL.of f1) .nil) (.cons (.lst (SqL.of f2) .nil) .nil))) .nil⟩
   have hSE:StE K H9 x4 [([],[])]:=⟨_,SqL.of f4,rfl,fun i v s hv hs=>by
    cases i with
    | zero=>cases hv; cases hs; exact ⟨x3,x1,x2,rfl,SqT.of f3,⟨[],SqL.of f1,.nil⟩,f2⟩
    | succ i=>simp at hv⟩
   refine ⟨_,rfl,x4,A,[([],[])],ps,0,rfl,hSE,hST,⟨by decide,fun s hs=>by rw [List.mem_singleton.mp hs]; exact Nat.zero_le _,fun s hs=>by rw [List.mem_singleton.mp hs]; exact Nat.zero_le _⟩,TP9.prs eA9,by omega,fun x hx=>?_,by decide,by decide,fun s hs g hg=>by rw [List.mem_singleton.mp hs] at hg; simp at hg,fun s hs=>by rw [List.mem_singleton.mp hs]; exact ⟨List.nodup_nil,List.nodup_nil⟩,hac,hsm,fun t rs ord H10 _ _ hO ht s10 TB=>?_⟩
   · rcases List.mem_append.mp hx with hx | hx
     · simp [labelsOf] at hx
     · obtain ⟨p,hp,e⟩:=labP_mem.mp hx
       rcases e with rfl | rfl
       · exact name_lab (sm _ (inl p hp).1)
       · exact name_lab (sm _ (inl p hp).2)
   obtain ⟨ta,to,tus,tts,g1,g2,g3,g4,g5,g6,g7,g8⟩:=TB.ex
   have eo:ord=rows:=OrdOf.same hO hR
   subst eo
   refine g_in ?_
   try dsimp only
   have z4A:=z49.trans s10
   have eA10:=z4A _ _ eA
   have TP10:=(TP.same s4).same z4A
   have eD10:=s10 _ _ (z59 _ _ eD)
   have TD10:=(TD.same z59).same s10
   have eL10:=z4A _ _ (s4 _ _ (s3 _ _ eL))
   have eP10:=z4A _ _ (s4 _ _ eP)
   refine ⟨_,rfl,A,ps,rfl,TP10.prs eA10,by omega,hsm,fun ts1 ord1 D1 Ha _ hO1 _ hD1 sa eD1 T1=>?_,fun dx D1 ring Ha R _ _ _ _=>absurd R.path.choose_spec (hac _)⟩
   have eo1:ord1=ord:=OrdOf.same hO1 hR
   subst eo1
   refine ⟨_,rfl,D1,D,ts1,ord1,_,rfl,eD1,T1,SqL.of (sa _ _ eD10),(TD10.same sa).dts,fun Hb sb=>⟨_,rfl,iteF ?_⟩⟩
   have sab:=sa.trans sb
   refine ⟨_,rfl,Or.inr (Or.inl ⟨t,_,_,.ref to,rfl,rfl,SqT.of (sab _ _ g1),rfl,_,rfl,to,D,tts,ord1,_,rfl,sab _ _ g7,g8.same sab,SqL.of (sab _ _ eD10),(TD10.same sab).dts,fun Hc sc=>⟨_,rfl,iteF ?_⟩⟩)⟩
   have sac:=sab.trans sc
   have eAc:=sac _ _ eA10
   have TPc:=TP10.same sac
   have eLc:=sac _ _ eL10
   have ePc:=sac _ _ eP10
   have h0:(ls.map V.str)[0]?=some (.str (ls.getD 0 default)):=ls_at (by omega)
   have hl:(ls.map V.str)[(ls.map V.str).length - 1]?=some (.str (ls.getD (ls.length - 1) default)):=by rw [List.length_map]; exact ls_at (by omega)
   have gD:∀ i,i < ls.length→ls[i]?=some (ls.getD i default):=fun i hi=>by rw [List.getD_eq_getElem?_getD,List.getElem?_eq_getElem hi]; rfl
   have p0:Path ps (ls.getD 0 default) (ls.getD (ls.length - 1) default):=(row_path nd hN).mpr ⟨0,ls.length - 1,by omega,gD _ (by omega),gD _ (by omega)⟩
   refine ⟨_,rfl,_,rfl,Or.inl ⟨L,_,_,_,rfl,rfl,SqL.of eLc,at_zero h0,_,rfl,_,rfl,Or.inl ⟨L,_,_,_,rfl,rfl,SqL.of eLc,atI_lst hl,A,ps,_,_,rfl,TPc.prs eAc,by omega,fun z=>absurd p0 z,fun _ c C1 Hd Ch lc hC1 sd eC1=>?_⟩⟩⟩
   have ec:ls=c:=(row_chain nd hN Ch (gD _ (by omega)) (gD _ (by omega))).symm
   subst ec
   have cmS:∀ l m:List Str,Cmp 2 (Dt.lst (l.map Dt.str)) (Dt.lst (m.map Dt.str)):=fun l m=>.lst (Cmps.of fun d hd e he=>by
    obtain ⟨_,_,rfl⟩:=List.mem_map.mp hd
    obtain ⟨_,_,rfl⟩:=List.mem_map.mp he
    exact .str _ _)
   refine ⟨_,rfl,2,_,_,cmS ls ls,by decide,.lst (SqL.of eC1) (strs_dtr _),.lst (SqL.of (sd _ _ eLc)) (strs_dtr _),_,rfl,?_⟩
   rw [dec_true rfl]
   refine iteF ⟨_,rfl,_,rfl,3,.lst (ps.map prD),.lst (ps.map prD),.lst (Cmps.of fun d hd e he=>?_),by decide,.lst (SqL.of (sd _ _ eAc)) (TPc.same sd).dts,.lst (SqL.of (sd _ _ ePc)) (TPc.same sd).dts,_,rfl,?_⟩
   · obtain ⟨p1,_,rfl⟩:=List.mem_map.mp hd
     obtain ⟨p2,_,rfl⟩:=List.mem_map.mp he
     exact cmp_pair p1 p2
   rw [dec_true rfl]
   refine iteF ?_
   have z0d:Same H Hd:=(((((s12.trans s3).trans s4).trans z4A).trans sac).trans sd)
   refine ⟨_,rfl,A,ps,rfl,(TPc.same sd).prs (sd _ _ eAc),by omega,.inl (z0d _ _ hT),fun f1 c1 c1' d1 ord2 He hO2 sT eT J=>?_⟩
   have eo2:ord2=ord1:=OrdOf.same hO2 hR
   subst eo2
   refine g_in ?_
   try dsimp only
   have Sa:SqL K He a (ns.map V.int):=seq_sameT sT (z0d.seq hS)
   have eLe:He L=some (.lst (ls.map V.str)):=sT _ _ (fun _ z=>nomatch z) (sd _ _ eLc)
   have eAe:He A=some (.lst (ts.map V.ref)):=sT _ _ (fun _ z=>nomatch z) (sd _ _ eAc)
   have ePe:He P=some (.lst (ts.map V.ref)):=sT _ _ (fun _ z=>nomatch z) (sd _ _ ePc)
   have TPe:=tups_sameT sT (TPc.same sd)
   have mp:(0:Int) < (mm:Int):=by omega
   refine ⟨_,rfl,a,ns,3,rfl,by decide,Sa,_,rfl,_,_,rfl,rfl,mp,?_⟩
   obtain ⟨o,eo,lo⟩:∃ n:Nat,cellAt ns 3 % (mm:Int)=(n:Int)∧n < ls.length:=⟨(cellAt ns 3 % (mm:Int)).toNat,by have:=Int.emod_nonneg (cellAt ns 3) (show (mm:Int)≠0 by omega); omega,by have:=Int.emod_lt_of_pos (cellAt ns 3) mp; omega⟩
   try dsimp only
   rw [eo]
   refine g_in ?_
   try dsimp only
   refine ⟨_,rfl,a,ns,3,rfl,by decide,Sa,_,_,rfl,rfl,⟨by decide,by decide⟩,_,rfl,_,_,rfl,rfl,mp,?_⟩
   obtain ⟨r,er,lr⟩:∃ n:Nat,cellAt ns 3 / 41 % (mm:Int)=(n:Int)∧n < ls.length:=⟨(cellAt ns 3 / 41 % (mm:Int)).toNat,by have:=Int.emod_nonneg (cellAt ns 3 / 41) (show (mm:Int)≠0 by omega); omega,by have:=Int.emod_lt_of_pos (cellAt ns 3 / 41) mp; omega⟩
   try dsimp only
   rw [er]
   refine g_in ?_
   try dsimp only
   have hxo:=ls_at lo
   have hxr:=ls_at lr
   have df:dec ((ls.getD o default,ls.getD r default)∈ord2)=decide (o < r):=by
    by_cases c:o < r
    · rw [decide_eq_true c]; exact dec_true ((hO2.mem _ _).mpr ((row_path nd hN).mpr ⟨o,r,c,gD o lo,gD r lr⟩))
    · rw [decide_eq_false c]
      refine dec_false fun z=>c ?_
      obtain ⟨i,j,hij,a1,a2⟩:=(row_path nd hN).mp ((hO2.mem _ _).mp z)
      rw [atP_inj nd a1 (gD o lo),atP_inj nd a2 (gD r lr)] at hij
      exact hij
   refine seq_cut (fun σ' H'=>σ'=[some (.ref a),some (.int (mm:Int)),some (.ref L),some (.ref P),some (.ref A),some (.ref D),some (.ref t),some (.ref f1),some (.int (o:Int)),some (.int (r:Int)),none]∧Same He H') ?_ (fun NN hNN=>?_)
   case refine_2 =>
    refine ⟨_,rfl,f1,c1,c1',rfl,J.fn,_,rfl,_,rfl,Or.inl ⟨L,_,_,_,rfl,rfl,SqL.of eLe,atI_nat hxo,_,rfl,_,rfl,Or.inl ⟨L,_,_,_,rfl,rfl,SqL.of eLe,atI_nat hxr,d1,J.fn,J.code,J.cell,rfl,isb_read J.dict J.cell fun Hx q4 _=>?_⟩⟩⟩
    generalize upd Hx c1 (CellO c1 d1)=H4 at q4 ⊢
    refine ⟨_,_,rfl,rfl,_,rfl,?_⟩
    rw [df]
    by_cases c:o < r
    · rw [decide_eq_true c]
      exact iteF (iteF (hNN _ _ ⟨rfl,q4⟩))
    · rw [decide_eq_false c]
      refine iteT ⟨_,rfl,_,rfl,_,_,rfl,rfl,_,rfl,?_⟩
      rw [decide_eq_false (show ¬ (o:Int) < (r:Int) by omega)]
      exact iteF (hNN _ _ ⟨rfl,q4⟩)
   rintro σ1 Hf ⟨rfl,sf⟩
   have Jf:=J.same (.of sf)
   refine seq_cut (fun σ' H'=>σ'=[some (.ref a),some (.int (mm:Int)),some (.ref L),some (.ref P),some (.ref A),some (.ref D),some (.ref t),some (.ref f1),some (.int (o:Int)),some (.int (r:Int)),none]∧Same He H') ?_ (fun NN hNN=>?_)
   case refine_2 =>
    refine ⟨_,rfl,f1,c1,c1',rfl,Jf.fn,_,rfl,_,rfl,Or.inl ⟨L,_,_,_,rfl,rfl,SqL.of (sf _ _ eLe),atI_nat hxo,_,rfl,_,rfl,Or.inl ⟨L,_,_,_,rfl,rfl,SqL.of (sf _ _ eLe),atI_nat hxr,d1,Jf.fn,Jf.code,Jf.cell,rfl,isb_read Jf.dict Jf.cell fun Hx q4 _=>?_⟩⟩⟩
    generalize upd Hx c1 (CellO c1 d1)=H4 at q4 ⊢
    refine ⟨_,_,rfl,rfl,_,rfl,?_⟩
    rw [df]
    by_cases c:o < r
    · rw [decide_eq_true c]
      refine iteT ⟨_,rfl,_,rfl,_,_,rfl,rfl,_,rfl,?_⟩
      rw [decide_eq_false (show ¬ (o:Int) ≥ (r:Int) by omega)]
      exact iteF (hNN _ _ ⟨rfl,sf.trans q4⟩)
    · rw [decide_eq_false c]
      exact iteF (iteF (hNN _ _ ⟨rfl,sf.trans q4⟩))
   rintro σ2 Hg ⟨rfl,sg⟩
   clear Jf sf
   have eLg:=sg _ _ eLe
   have eAg:=sg _ _ eAe
   have ePg:=sg _ _ ePe
   have TPg:=TPe.same sg
   have Sg:=sg.seq Sa
   have lts:=TPg.len
   refine ⟨_,rfl,Or.inl ⟨rfl,_,SqL.of eAg⟩,_,rfl,a,ns,2,rfl,by decide,Sg,_,_,rfl,rfl,⟨by decide,by decide⟩,_,rfl,_,_,rfl,Or.inl ⟨_,SqL.of ePg,rfl⟩,_,_,rfl,rfl,_,_,rfl,rfl,(by show (0:Int) < _; omega),_,rfl,_,rfl,Or.inl ⟨L,_,_,_,rfl,rfl,SqL.of eLg,atI_lst hl,_,rfl,_,rfl,Or.inl ⟨L,_,_,_,rfl,rfl,SqL.of eLg,atI_nat hxo,two_le,fun qa hqa=>?_⟩⟩⟩
   try dsimp only
   rw [List.length_map,lts]
   obtain ⟨k,ek,lk⟩:∃ n:Nat,cellAt ns 2 / 82 % ((ps.length:Int) + 1)=(n:Int)∧n≤ps.length:=⟨(cellAt ns 2 / 82 % ((ps.length:Int) + 1)).toNat,by have:=Int.emod_nonneg (cellAt ns 2 / 82) (show (ps.length:Int) + 1≠0 by omega); omega,by have:=Int.emod_lt_of_pos (cellAt ns 2 / 82) (show 0 < (ps.length:Int) + 1 by omega); omega⟩
   rw [ek]
   obtain ⟨Hh,qHh,v1,w1⟩:=new_at (o:=.tup [.str (ls.getD (ls.length - 1) default),.str (ls.getD o default)]) hqa
   rw [←qHh]
   have TQ:=tups_ins (TPg.same v1) (p:=(ls.getD (ls.length - 1) default,ls.getD o default)) (k:=k) lk w1
   refine ⟨A,_,_,_,rfl,rfl,v1 _ _ eAg,by omega,by rw [List.length_map]; omega,by rw [List.length_map]; omega,?_⟩
   rw [Int.toNat_natCast]
   have TQ:=TQ.upd (o:=.lst ((ts.map V.ref).take k++.ref qa :: (ts.map V.ref).drop k)) (TQ.ne (v1 _ _ eAg))
   have eAi:(upd Hh A (.lst ((ts.map V.ref).take k++.ref qa :: (ts.map V.ref).drop k))) A=some (.lst ((ts.take k++qa :: ts.drop k).map V.ref)):=by rw [upd_same,List.map_append,List.map_cons,List.map_take,List.map_drop]
   have eLi:(upd Hh A (.lst ((ts.map V.ref).take k++.ref qa :: (ts.map V.ref).drop k))) L=some (.lst (ls.map V.str)):=by rw [upd_ne nLA]; exact v1 _ _ eLg
   generalize upd Hh A (.lst ((ts.map V.ref).take k++.ref qa :: (ts.map V.ref).drop k))=Hi at TQ eAi eLi ⊢
   have pmQ:=perm_ins ps k (ls.getD (ls.length - 1) default,ls.getD o default)
   generalize ts.take k++qa :: ts.drop k=tq at TQ eAi
   generalize ps.take k++(ls.getD (ls.length - 1) default,ls.getD o default) :: ps.drop k=qs at TQ pmQ
   have lqs:qs.length=mm:=by rw [pmQ.length_eq,List.length_cons]; omega
   have hB : BackP ls o qs := fun x y => by
    rw [pmQ.mem_iff,List.mem_cons,hN x y]
    constructor
    · rintro (e | e)
      · cases e; exact .inr ⟨gD _ (by omega),gD _ lo⟩
      · exact .inl e
    · rintro (e | ⟨e1,e2⟩)
      · exact .inr e
      · rw [gD _ (by omega)] at e1
        rw [gD _ lo] at e2
        cases e1; cases e2; exact .inl rfl
   have hsq:∀ x∈qs,smallS x.2:=fun x hx=>by
    obtain ⟨i,_,e⟩:=back_snd hB (x:=x.1) (y:=x.2) hx
    exact smp _ (List.mem_of_getElem? e)
   refine ⟨_,rfl,A,qs,rfl,TQ.prs eAi,by omega,hsq,⟨_,back_yes hB (Nat.le_refl o) (gD o lo)⟩,fun R ring Hj RO hrl sj eR=>?_⟩
   obtain ⟨i,hi,hoi,_,er2⟩:=ring_row nd hB lo RO
   refine ⟨_,rfl,_,rfl,_,rfl,L,_,rfl,SqL.of (sj _ _ eLi),fun p1 h1=>?_⟩
   rw [cutV_drop,←List.map_drop]
   have sk:=same_new (o:=.lst ((ls.drop o).map V.str)) h1
   refine ⟨R,p1,ring,ls.drop o,i - o,rfl,SqL.of (sk _ _ eR),SqL.of upd_same,er2,by rw [List.length_drop]; omega,nd.sublist (List.drop_sublist _ _),by rw [List.length_drop]; omega,fun Hk sl=>⟨_,rfl,iteF ?_⟩⟩
   have sik:=(sj.trans sk).trans sl
   have eLk:=sik _ _ eLi
   have eAk:=sik _ _ eAi
   have TQk:=TQ.same sik
   clear sk
   refine seq_setC ?_
   try dsimp only
   refine ⟨_,rfl,_,rfl,_,_,rfl,rfl,_,rfl,?_⟩
   by_cases c:o≤r
   · rw [decide_eq_true (show (r:Int) ≥ (o:Int) by omega)]
     refine iteT ⟨_,rfl,_,rfl,_,rfl,L,_,rfl,SqL.of eLk,fun p2 h2=>?_⟩
     rw [cutV_drop,←List.map_drop]
     obtain ⟨Hl,qHl,t2,y2⟩:=new_at (o:=.lst ((ls.drop r).map V.str)) h2
     rw [←qHl]
     refine ⟨_,rfl,_,rfl,_,rfl,_,rfl,_,_,rfl,rfl,_,rfl,L,_,rfl,SqL.of (t2 _ _ eLk),fun p3 h3=>?_⟩
     have ecm:cutV (ls.map V.str) (some (o:Int)) (some ((r:Int) + 1))=((ls.drop o).take (r + 1 - o)).map V.str:=by
      have:=cutV_mid (ls.map V.str) o (r + 1) (by omega)
      rw [show ((r + 1:Nat):Int)=(r:Int) + 1 by omega] at this
      rw [this,List.map_take,List.map_drop]
     rw [ecm]
     obtain ⟨Hm,qHm,t3,y3⟩:=new_at (o:=.lst (((ls.drop o).take (r + 1 - o)).map V.str)) h3
     rw [←qHm]
     refine ⟨p2,p3,_,_,rfl,rfl,t3 _ _ y2,y3,by rw [List.length_map,List.length_map,List.length_drop,List.length_take,List.length_drop]; exact Nat.le_of_lt (small1000 (by omega)),fun p4 h4=>?_⟩
     rw [←List.map_append]
     obtain ⟨Hn,qHn,t4,y4⟩:=new_at (o:=.lst ((ls.drop r++(ls.drop o).take (r + 1 - o)).map V.str)) h4
     rw [←qHn]
     have t24:=(t2.trans t3).trans t4
     refine g_in ?_
     try dsimp only
     refine ⟨_,rfl,_,rfl,_,rfl,Or.inl ⟨L,_,_,_,rfl,rfl,SqL.of (t24 _ _ eLk),atI_nat hxr,_,rfl,_,rfl,Or.inl ⟨L,_,_,_,rfl,rfl,SqL.of (t24 _ _ eLk),atI_nat hxr,A,qs,_,_,rfl,(TQk.same t24).prs (t24 _ _ eAk),by omega,fun z=>absurd (back_yes hB c (gD r lr)) z,fun _ cc l9 Ho Ch lc hl9 so e9=>?_⟩⟩⟩
     have ecc:cc=ls.drop r++(ls.drop o).take (r + 1 - o):=by
      have RO2:=RingOk.of Ch
      have h2:=Ch.two
      have e0:cc.dropLast[0]?=ls[r]?:=by rw [List.getElem?_dropLast,if_pos (by omega),Ch.hd,gD r lr]
      obtain ⟨_,_,e⟩:=back_ring nd hB lo RO2.ne RO2.up RO2.cl RO2.nd lr e0
      have hne:cc≠[]:=fun z=>by rw [z] at h2; simp at h2
      have el:cc.getLast hne=ls.getD r default:=by
       have:=Ch.lst
       rw [←List.getLast?_eq_getElem?,List.getLast?_eq_some_getLast hne] at this
       exact Option.some.inj this
      rw [←List.dropLast_concat_getLast hne,e,el,List.drop_drop,show o + (r - o)=r by omega,List.append_assoc,show r + 1 - o=r - o + 1 by omega,List.take_succ,List.getElem?_drop,show o + (r - o)=r by omega,gD r lr]
      rfl
     refine ⟨_,rfl,2,_,_,cmS _ _,by decide,.lst (SqL.of e9) (strs_dtr _),.lst (SqL.of (so _ _ y4)) (strs_dtr _),?_⟩
     rw [dec_true (by rw [ecc])]
     exact kq _
   · rw [decide_eq_false (show ¬ (r:Int) ≥ (o:Int) by omega)]
     refine iteF ?_
     have np:¬ Path qs (ls.getD r default) (ls.getD r default):=fun z=>by
      obtain ⟨j,hj,e⟩:=back_no nd hB (show r < o by omega) (gD r lr) z
      have:=atP_inj nd e (gD r lr)
      omega
     refine ⟨_,rfl,_,rfl,_,rfl,Or.inl ⟨L,_,_,_,rfl,rfl,SqL.of eLk,atI_nat hxr,_,rfl,_,rfl,Or.inl ⟨L,_,_,_,rfl,rfl,SqL.of eLk,atI_nat hxr,A,qs,_,_,rfl,TQk.prs eAk,by omega,fun _ Ho so=>?_,fun z=>absurd z np⟩⟩⟩
     refine ⟨_,rfl,0,.non,.non,.non,by decide,.non,.non,?_⟩
     rw [dec_true rfl]
     exact kq _
variable (P w K mg base) in
abbrev C_law:Prop:=Callee P w K mg base "law" 7 ["_law_script"] (sp_law K)
theorem call_law (B:Blt mg) (ER:Ers K mg) (c__law_cell_at:C__law_cell_at P w K mg base) (c__law_turned:C__law_turned P w K mg base) (c__law_labels:C__law_labels P w K mg base) (c__law_pairs:C__law_pairs P w K mg base) (c__law_all:C__law_all P w K mg base) (c_table_of:CalleeE P w K mg base "table_of" 6 ["states", "inner", "pairs"] (sp_table_of K)) (c__law_same:C__law_same P w K mg base) (c_order_of:CalleeE P w K mg base "order_of" 5 ["pairs"] (sp_order_of K)) (c_chain:C_chain P w K mg base) (c_judge:C_judge P w K mg base) (c__law_is_round:C__law_is_round P w K mg base) (c__law_ring_of:C__law_ring_of P w K mg base) (F:Fun K "law" "law" s_law f fd) (hm:mg "law" = some (.ref f)):C_law P w K mg base :=
 ⟨f,fd,ok_law B ER c__law_cell_at c__law_turned c__law_labels c__law_pairs c__law_all c_table_of c__law_same c_order_of c_chain c_judge c__law_is_round c__law_ring_of F,hm,F.kp,F.binds fun _ _ _ _ _ _ us hl=>(by obtain ⟨x0,rfl⟩:=len_1 hl; rfl)⟩
end
theorem all_mk {l:PySem.W.OpenLaw} {w:World} {K:PySem.W.Frag} {h:Heap} {mg:Str→Option Value} {fa:Addr} (X:K.In h) (G:h.Ns mainGlobals mg) (hfa:mg "law" = some (.ref fa))
 {f0:Addr} {od0 an0:Option Addr} {sl0:Array (Option Value)} {oc0 kV0 dc0 pm0 cd0 ct0:Value}
 {f1:Addr} {od1 an1:Option Addr} {sl1:Array (Option Value)} {oc1 kV1 dc1 pm1 cd1 ct1:Value}
 {f2:Addr} {od2 an2:Option Addr} {sl2:Array (Option Value)} {oc2 kV2 dc2 pm2 cd2 ct2:Value}
 {f3:Addr} {od3 an3:Option Addr} {sl3:Array (Option Value)} {oc3 kV3 dc3 pm3 cd3 ct3:Value}
 {f4:Addr} {od4 an4:Option Addr} {sl4:Array (Option Value)} {oc4 kV4 dc4 pm4 cd4 ct4:Value}
 {f5:Addr} {od5 an5:Option Addr} {sl5:Array (Option Value)} {oc5 kV5 dc5 pm5 cd5 ct5:Value}
 {f6:Addr} {od6 an6:Option Addr} {sl6:Array (Option Value)} {oc6 kV6 dc6 pm6 cd6 ct6:Value}
 {f7:Addr} {od7 an7:Option Addr} {sl7:Array (Option Value)} {oc7 kV7 dc7 pm7 cd7 ct7:Value}
 {f8:Addr} {od8 an8:Option Addr} {sl8:Array (Option Value)} {oc8 kV8 dc8 pm8 cd8 ct8:Value}
 {f9:Addr} {od9 an9:Option Addr} {sl9:Array (Option Value)} {oc9 kV9 dc9 pm9 cd9 ct9:Value}
 {f10:Addr} {od10 an10:Option Addr} {sl10:Array (Option Value)} {oc10 kV10 dc10 pm10 cd10 ct10:Value}
 {f11:Addr} {od11 an11:Option Addr} {sl11:Array (Option Value)} {oc11 kV11 dc11 pm11 cd11 ct11:Value}
 {f12:Addr} {od12 an12:Option Addr} {sl12:Array (Option Value)} {oc12 kV12 dc12 pm12 cd12 ct12:Value}
 {f13:Addr} {od13 an13:Option Addr} {sl13:Array (Option Value)} {oc13 kV13 dc13 pm13 cd13 ct13:Value}
 {f14:Addr} {od14 an14:Option Addr} {sl14:Array (Option Value)} {oc14 kV14 dc14 pm14 cd14 ct14:Value}
 {f15:Addr} {od15 an15:Option Addr} {sl15:Array (Option Value)} {oc15 kV15 dc15 pm15 cd15 ct15:Value}
 {f16:Addr} {od16 an16:Option Addr} {sl16:Array (Option Value)} {oc16 kV16 dc16 pm16 cd16 ct16:Value}
 {f17:Addr} {od17 an17:Option Addr} {sl17:Array (Option Value)} {oc17 kV17 dc17 pm17 cd17 ct17:Value}
 {f18:Addr} {od18 an18:Option Addr} {sl18:Array (Option Value)} {oc18 kV18 dc18 pm18 cd18 ct18:Value}
 {f19:Addr} {od19 an19:Option Addr} {sl19:Array (Option Value)} {oc19 kV19 dc19 pm19 cd19 ct19:Value}
 {f20:Addr} {od20 an20:Option Addr} {sl20:Array (Option Value)} {oc20 kV20 dc20 pm20 cd20 ct20:Value}
 {f21:Addr} {od21 an21:Option Addr} {sl21:Array (Option Value)} {oc21 kV21 dc21 pm21 cd21 ct21:Value}
 {f22:Addr} {od22 an22:Option Addr} {sl22:Array (Option Value)} {oc22 kV22 dc22 pm22 cd22 ct22:Value}
 {f23:Addr} {od23 an23:Option Addr} {sl23:Array (Option Value)} {oc23 kV23 dc23 pm23 cd23 ct23:Value}
 {f24:Addr} {od24 an24:Option Addr} {sl24:Array (Option Value)} {oc24 kV24 dc24 pm24 cd24 ct24:Value}
 {f25:Addr} {od25 an25:Option Addr} {sl25:Array (Option Value)} {oc25 kV25 dc25 pm25 ct25:Value}
 {f26:Addr} {od26 an26:Option Addr} {sl26:Array (Option Value)} {oc26 kV26 dc26 pm26 cd26 ct26:Value}
 {f27:Addr} {od27 an27:Option Addr} {sl27:Array (Option Value)} {oc27 kV27 dc27 pm27 cd27 ct27:Value}
 {f28:Addr} {od28 an28:Option Addr} {sl28:Array (Option Value)} {oc28 kV28 dc28 pm28 cd28 ct28:Value}
 {tc_LONGEST_NAME:Tok}
 {tc_MOST_ENDS:Tok}
 {tc_MOST_GOES:Tok}
 {tc_MOST_PAIRS:Tok}
 {tc_MOST_STATES:Tok}
 {C_PathError C_Ring:Addr}
 (a0:PySem.W.nsIn K mainGlobals "_law_cell_at" = some (some (.ref f0))) (l0:K.lookup f0=some ⟨oc0,od0,.func (PySem.W.fnOf "_law_cell_at" "_law_cell_at" (defArgs s__law_cell_at) (defBody s__law_cell_at) (defScope s__law_cell_at) .none kV0 dc0 pm0 an0 cd0 ct0),sl0⟩) (c0:PySem.W.codeIn K cd0 "_law_cell_at" = true) (k0:PySem.W.keepIn K (.ref f0)=true)
 (a1:PySem.W.nsIn K mainGlobals "_law_turned" = some (some (.ref f1))) (l1:K.lookup f1=some ⟨oc1,od1,.func (PySem.W.fnOf "_law_turned" "_law_turned" (defArgs s__law_turned) (defBody s__law_turned) (defScope s__law_turned) .none kV1 dc1 pm1 an1 cd1 ct1),sl1⟩) (c1:PySem.W.codeIn K cd1 "_law_turned" = true) (k1:PySem.W.keepIn K (.ref f1)=true)
 (a2:PySem.W.nsIn K mainGlobals "_law_labels" = some (some (.ref f2))) (l2:K.lookup f2=some ⟨oc2,od2,.func (PySem.W.fnOf "_law_labels" "_law_labels" (defArgs s__law_labels) (defBody s__law_labels) (defScope s__law_labels) .none kV2 dc2 pm2 an2 cd2 ct2),sl2⟩) (c2:PySem.W.codeIn K cd2 "_law_labels" = true) (k2:PySem.W.keepIn K (.ref f2)=true)
 (a3:PySem.W.nsIn K mainGlobals "_law_pairs" = some (some (.ref f3))) (l3:K.lookup f3=some ⟨oc3,od3,.func (PySem.W.fnOf "_law_pairs" "_law_pairs" (defArgs s__law_pairs) (defBody s__law_pairs) (defScope s__law_pairs) .none kV3 dc3 pm3 an3 cd3 ct3),sl3⟩) (c3:PySem.W.codeIn K cd3 "_law_pairs" = true) (k3:PySem.W.keepIn K (.ref f3)=true)
 (a4:PySem.W.nsIn K mainGlobals "_law_all" = some (some (.ref f4))) (l4:K.lookup f4=some ⟨oc4,od4,.func (PySem.W.fnOf "_law_all" "_law_all" (defArgs s__law_all) (defBody s__law_all) (defScope s__law_all) .none kV4 dc4 pm4 an4 cd4 ct4),sl4⟩) (c4:PySem.W.codeIn K cd4 "_law_all" = true) (k4:PySem.W.keepIn K (.ref f4)=true)
 (a5:PySem.W.nsIn K mainGlobals "refuse_too_great" = some (some (.ref f5))) (l5:K.lookup f5=some ⟨oc5,od5,.func (PySem.W.fnOf "refuse_too_great" "refuse_too_great" (defArgs s_refuse_too_great) (defBody s_refuse_too_great) (defScope s_refuse_too_great) .none kV5 dc5 pm5 an5 cd5 ct5),sl5⟩) (c5:PySem.W.codeIn K cd5 "refuse_too_great" = true) (k5:PySem.W.keepIn K (.ref f5)=true)
 (a6:PySem.W.nsIn K mainGlobals "labels_of" = some (some (.ref f6))) (l6:K.lookup f6=some ⟨oc6,od6,.func (PySem.W.fnOf "labels_of" "labels_of" (defArgs s_labels_of) (defBody s_labels_of) (defScope s_labels_of) .none kV6 dc6 pm6 an6 cd6 ct6),sl6⟩) (c6:PySem.W.codeIn K cd6 "labels_of" = true) (k6:PySem.W.keepIn K (.ref f6)=true)
 (a7:PySem.W.nsIn K mainGlobals "labels_told" = some (some (.ref f7))) (l7:K.lookup f7=some ⟨oc7,od7,.func (PySem.W.fnOf "labels_told" "labels_told" (defArgs s_labels_told) (defBody s_labels_told) (defScope s_labels_told) .none kV7 dc7 pm7 an7 cd7 ct7),sl7⟩) (c7:PySem.W.codeIn K cd7 "labels_told" = true) (k7:PySem.W.keepIn K (.ref f7)=true)
 (a8:PySem.W.nsIn K mainGlobals "is_name" = some (some (.ref f8))) (l8:K.lookup f8=some ⟨oc8,od8,.func (PySem.W.fnOf "is_name" "is_name" (defArgs s_is_name) (defBody s_is_name) (defScope s_is_name) .none kV8 dc8 pm8 an8 cd8 ct8),sl8⟩) (c8:PySem.W.codeIn K cd8 "is_name" = true) (k8:PySem.W.keepIn K (.ref f8)=true)
 (a9:PySem.W.nsIn K mainGlobals "refuse_no_names" = some (some (.ref f9))) (l9:K.lookup f9=some ⟨oc9,od9,.func (PySem.W.fnOf "refuse_no_names" "refuse_no_names" (defArgs s_refuse_no_names) (defBody s_refuse_no_names) (defScope s_refuse_no_names) .none kV9 dc9 pm9 an9 cd9 ct9),sl9⟩) (c9:PySem.W.codeIn K cd9 "refuse_no_names" = true) (k9:PySem.W.keepIn K (.ref f9)=true)
 (a10:PySem.W.nsIn K mainGlobals "is_whole" = some (some (.ref f10))) (l10:K.lookup f10=some ⟨oc10,od10,.func (PySem.W.fnOf "is_whole" "is_whole" (defArgs s_is_whole) (defBody s_is_whole) (defScope s_is_whole) .none kV10 dc10 pm10 an10 cd10 ct10),sl10⟩) (c10:PySem.W.codeIn K cd10 "is_whole" = true) (k10:PySem.W.keepIn K (.ref f10)=true)
 (a11:PySem.W.nsIn K mainGlobals "is_place" = some (some (.ref f11))) (l11:K.lookup f11=some ⟨oc11,od11,.func (PySem.W.fnOf "is_place" "is_place" (defArgs s_is_place) (defBody s_is_place) (defScope s_is_place) .none kV11 dc11 pm11 an11 cd11 ct11),sl11⟩) (c11:PySem.W.codeIn K cd11 "is_place" = true) (k11:PySem.W.keepIn K (.ref f11)=true)
 (a12:PySem.W.nsIn K mainGlobals "refuse_no_places" = some (some (.ref f12))) (l12:K.lookup f12=some ⟨oc12,od12,.func (PySem.W.fnOf "refuse_no_places" "refuse_no_places" (defArgs s_refuse_no_places) (defBody s_refuse_no_places) (defScope s_refuse_no_places) .none kV12 dc12 pm12 an12 cd12 ct12),sl12⟩) (c12:PySem.W.codeIn K cd12 "refuse_no_places" = true) (k12:PySem.W.keepIn K (.ref f12)=true)
 (a13:PySem.W.nsIn K mainGlobals "is_one_twice" = some (some (.ref f13))) (l13:K.lookup f13=some ⟨oc13,od13,.func (PySem.W.fnOf "is_one_twice" "is_one_twice" (defArgs s_is_one_twice) (defBody s_is_one_twice) (defScope s_is_one_twice) .none kV13 dc13 pm13 an13 cd13 ct13),sl13⟩) (c13:PySem.W.codeIn K cd13 "is_one_twice" = true) (k13:PySem.W.keepIn K (.ref f13)=true)
 (a14:PySem.W.nsIn K mainGlobals "refuse_twice" = some (some (.ref f14))) (l14:K.lookup f14=some ⟨oc14,od14,.func (PySem.W.fnOf "refuse_twice" "refuse_twice" (defArgs s_refuse_twice) (defBody s_refuse_twice) (defScope s_refuse_twice) .none kV14 dc14 pm14 an14 cd14 ct14),sl14⟩) (c14:PySem.W.codeIn K cd14 "refuse_twice" = true) (k14:PySem.W.keepIn K (.ref f14)=true)
 (a15:PySem.W.nsIn K mainGlobals "worse_by_better" = some (some (.ref f15))) (l15:K.lookup f15=some ⟨oc15,od15,.func (PySem.W.fnOf "worse_by_better" "worse_by_better" (defArgs s_worse_by_better) (defBody s_worse_by_better) (defScope s_worse_by_better) .none kV15 dc15 pm15 an15 cd15 ct15),sl15⟩) (c15:PySem.W.codeIn K cd15 "worse_by_better" = true) (k15:PySem.W.keepIn K (.ref f15)=true)
 (a16:PySem.W.nsIn K mainGlobals "reached" = some (some (.ref f16))) (l16:K.lookup f16=some ⟨oc16,od16,.func (PySem.W.fnOf "reached" "reached" (defArgs s_reached) (defBody s_reached) (defScope s_reached) .none kV16 dc16 pm16 an16 cd16 ct16),sl16⟩) (c16:PySem.W.codeIn K cd16 "reached" = true) (k16:PySem.W.keepIn K (.ref f16)=true)
 (a17:PySem.W.nsIn K mainGlobals "all_that_follows" = some (some (.ref f17))) (l17:K.lookup f17=some ⟨oc17,od17,.func (PySem.W.fnOf "all_that_follows" "all_that_follows" (defArgs s_all_that_follows) (defBody s_all_that_follows) (defScope s_all_that_follows) .none kV17 dc17 pm17 an17 cd17 ct17),sl17⟩) (c17:PySem.W.codeIn K cd17 "all_that_follows" = true) (k17:PySem.W.keepIn K (.ref f17)=true)
 (a18:PySem.W.nsIn K mainGlobals "own_lists" = some (some (.ref f18))) (l18:K.lookup f18=some ⟨oc18,od18,.func (PySem.W.fnOf "own_lists" "own_lists" (defArgs s_own_lists) (defBody s_own_lists) (defScope s_own_lists) .none kV18 dc18 pm18 an18 cd18 ct18),sl18⟩) (c18:PySem.W.codeIn K cd18 "own_lists" = true) (k18:PySem.W.keepIn K (.ref f18)=true)
 (a19:PySem.W.findIn K (.ref C_Ring) "__init__" = some (some (.ref f19))) (l19:K.lookup f19=some ⟨oc19,od19,.func (PySem.W.fnOf "__init__" "Ring.__init__" (defArgs s_Ring__init__) (defBody s_Ring__init__) (defScope s_Ring__init__) .none kV19 dc19 pm19 an19 cd19 ct19),sl19⟩) (c19:PySem.W.codeIn K cd19 "Ring.__init__" = true) (k19:PySem.W.keepIn K (.ref f19)=true) (xi19:PySem.W.xIn K C_Ring f19=true) (fi19:PySem.W.isFn K (.ref f19)=true)
 (a20:PySem.W.nsIn K mainGlobals "chain" = some (some (.ref f20))) (l20:K.lookup f20=some ⟨oc20,od20,.func (PySem.W.fnOf "chain" "chain" (defArgs s_chain) (defBody s_chain) (defScope s_chain) .none kV20 dc20 pm20 an20 cd20 ct20),sl20⟩) (c20:PySem.W.codeIn K cd20 "chain" = true) (k20:PySem.W.keepIn K (.ref f20)=true)
 (a21:PySem.W.nsIn K mainGlobals "order_of" = some (some (.ref f21))) (l21:K.lookup f21=some ⟨oc21,od21,.func (PySem.W.fnOf "order_of" "order_of" (defArgs s_order_of) (defBody s_order_of) (defScope s_order_of) .none kV21 dc21 pm21 an21 cd21 ct21),sl21⟩) (c21:PySem.W.codeIn K cd21 "order_of" = true) (k21:PySem.W.keepIn K (.ref f21)=true)
 (a22:PySem.W.nsIn K mainGlobals "sorted_state" = some (some (.ref f22))) (l22:K.lookup f22=some ⟨oc22,od22,.func (PySem.W.fnOf "sorted_state" "sorted_state" (defArgs s_sorted_state) (defBody s_sorted_state) (defScope s_sorted_state) .none kV22 dc22 pm22 an22 cd22 ct22),sl22⟩) (c22:PySem.W.codeIn K cd22 "sorted_state" = true) (k22:PySem.W.keepIn K (.ref f22)=true)
 (a23:PySem.W.nsIn K mainGlobals "table_of" = some (some (.ref f23))) (l23:K.lookup f23=some ⟨oc23,od23,.func (PySem.W.fnOf "table_of" "table_of" (defArgs s_table_of) (defBody s_table_of) (defScope s_table_of) .none kV23 dc23 pm23 an23 cd23 ct23),sl23⟩) (c23:PySem.W.codeIn K cd23 "table_of" = true) (k23:PySem.W.keepIn K (.ref f23)=true)
 (a24:PySem.W.nsIn K mainGlobals "_law_same" = some (some (.ref f24))) (l24:K.lookup f24=some ⟨oc24,od24,.func (PySem.W.fnOf "_law_same" "_law_same" (defArgs s__law_same) (defBody s__law_same) (defScope s__law_same) .none kV24 dc24 pm24 an24 cd24 ct24),sl24⟩) (c24:PySem.W.codeIn K cd24 "_law_same" = true) (k24:PySem.W.keepIn K (.ref f24)=true)
 {cJ TJ:Addr}
 (a25:PySem.W.nsIn K mainGlobals "judge" = some (some (.ref f25))) (l25:K.lookup f25=some ⟨oc25,od25,.func (PySem.W.fnOf "judge" "judge" (defArgs s_judge) (defBody s_judge) (defScope s_judge) .none kV25 dc25 pm25 an25 (.ref cJ) ct25),sl25⟩) (c25:PySem.W.codeIn K (.ref cJ) "judge" = true) (k25:PySem.W.keepIn K (.ref f25)=true)
 {ocJ:Value} {odJ:Option Addr} {vsJ:Array Value} {slJ:Array (Option Value)} (lJ:K.lookup cJ=some ⟨ocJ,odJ,.fields vsJ,slJ⟩) (vJ:(vsJ[11]?:Option Value)=some (.ref TJ))
 (a26:PySem.W.nsIn K mainGlobals "_law_is_round" = some (some (.ref f26))) (l26:K.lookup f26=some ⟨oc26,od26,.func (PySem.W.fnOf "_law_is_round" "_law_is_round" (defArgs s__law_is_round) (defBody s__law_is_round) (defScope s__law_is_round) .none kV26 dc26 pm26 an26 cd26 ct26),sl26⟩) (c26:PySem.W.codeIn K cd26 "_law_is_round" = true) (k26:PySem.W.keepIn K (.ref f26)=true)
 (a27:PySem.W.nsIn K mainGlobals "_law_ring_of" = some (some (.ref f27))) (l27:K.lookup f27=some ⟨oc27,od27,.func (PySem.W.fnOf "_law_ring_of" "_law_ring_of" (defArgs s__law_ring_of) (defBody s__law_ring_of) (defScope s__law_ring_of) .none kV27 dc27 pm27 an27 cd27 ct27),sl27⟩) (c27:PySem.W.codeIn K cd27 "_law_ring_of" = true) (k27:PySem.W.keepIn K (.ref f27)=true)
 (a28:PySem.W.nsIn K mainGlobals "law" = some (some (.ref f28))) (l28:K.lookup f28=some ⟨oc28,od28,.func (PySem.W.fnOf "law" "law" (defArgs s_law) (defBody s_law) (defScope s_law) .none kV28 dc28 pm28 an28 cd28 ct28),sl28⟩) (c28:PySem.W.codeIn K cd28 "law" = true) (k28:PySem.W.keepIn K (.ref f28)=true)
 (z_all:PySem.W.nsIn K mainGlobals "all" = some none)
 (z_bool:PySem.W.nsIn K mainGlobals "bool" = some none)
 (z_dict:PySem.W.nsIn K mainGlobals "dict" = some none)
 (z_int:PySem.W.nsIn K mainGlobals "int" = some none)
 (z_isinstance:PySem.W.nsIn K mainGlobals "isinstance" = some none)
 (z_len:PySem.W.nsIn K mainGlobals "len" = some none)
 (z_list:PySem.W.nsIn K mainGlobals "list" = some none)
 (z_range:PySem.W.nsIn K mainGlobals "range" = some none)
 (z_set:PySem.W.nsIn K mainGlobals "set" = some none)
 (z_sorted:PySem.W.nsIn K mainGlobals "sorted" = some none)
 (z_str:PySem.W.nsIn K mainGlobals "str" = some none)
 (z_tuple:PySem.W.nsIn K mainGlobals "tuple" = some none)
 (z_zip:PySem.W.nsIn K mainGlobals "zip" = some none)
 (y_LONGEST_NAME:PySem.W.nsIn K mainGlobals "LONGEST_NAME" = some (some (.int 8 tc_LONGEST_NAME)))
 (y_MOST_ENDS:PySem.W.nsIn K mainGlobals "MOST_ENDS" = some (some (.int 8 tc_MOST_ENDS)))
 (y_MOST_GOES:PySem.W.nsIn K mainGlobals "MOST_GOES" = some (some (.int 8 tc_MOST_GOES)))
 (y_MOST_PAIRS:PySem.W.nsIn K mainGlobals "MOST_PAIRS" = some (some (.int 40 tc_MOST_PAIRS)))
 (y_MOST_STATES:PySem.W.nsIn K mainGlobals "MOST_STATES" = some (some (.int 8 tc_MOST_STATES)))
 (g_PathError:PySem.W.nsIn K mainGlobals "PathError" = some (some (.ref C_PathError)))
 (g_Ring:PySem.W.nsIn K mainGlobals "Ring" = some (some (.ref C_Ring)))
 (hn0:PySem.W.specialIn K (.builtin "object.__class__") "__get__" = some (some (.builtin "getset_descriptor.__get__"))) (ht0:PySem.W.takesIn K (.builtin "object.__class__")=some true)
 (op0:PySem.W.nsIn K cStatics "thirdparty.any" = some none)
 (ty_PathError:PySem.W.typeIn K (.ref C_PathError)=some (.type "type")) (fc_PathError:PySem.W.findCls K (.ref C_PathError) (.type "type") "__init__" = some (.val (.builtin "ValueError.__init__")))
 (kp_Ring:PySem.W.keepIn K (.ref C_Ring)=true) (hd_Ring:PySem.W.hasDictIn K C_Ring=true) (sa_Ring:PySem.W.findIn K (.ref C_Ring) "__setattr__" = some (some (.builtin "object.__setattr__")))
 (na_Ring_ring:PySem.W.findIn K (.ref C_Ring) "ring" = some none)
 (p_Ring:PySem.W.findIn K (.ref C_Ring) "__getattribute__" = some (some (.builtin "BaseException.__getattribute__"))) (pa_Ring:PySem.W.findIn K (.ref C_Ring) "__getattr__" = some none) (pb_Ring:PySem.W.mroIn K C_Ring (.type "BaseException")=some true) (q_Ring:PySem.W.findIn K (.ref C_Ring) "__class__" = some (some (.builtin "object.__class__"))) (m_Ring:PySem.W.mroIn K C_Ring (.type "object")=some true) (w_Ring:PySem.W.subIn K (.ref C_Ring) (.type "ValueError")=some true)
 (u_Ring_Ring:PySem.W.mroIn K C_Ring (.ref C_Ring)=some true)
 : ∃ fd:FuncData,(∀ (s:Shared) (v:Value),BindsTo s fd ⟨[v],[]⟩ [("_law_script",v)])∧∃ c,PySem.W.tabIn K "judge" = some (c,tabT K "judge")∧∀ base:Heap,K.In base→base.Ns mainGlobals mg→Nst mg base c (tabT K "judge")→FnOk l.prog w K mg base CX0 7 fa fd ["_law_script"] (sp_law K):=by
 have e:=hfa.symm.trans (PySem.W.mg_of X G a28)
 cases e
 have B:Blt mg:=⟨PySem.W.mg_none_of X G z_all,PySem.W.mg_none_of X G z_bool,PySem.W.mg_none_of X G z_dict,PySem.W.mg_none_of X G z_int,PySem.W.mg_none_of X G z_isinstance,PySem.W.mg_none_of X G z_len,PySem.W.mg_none_of X G z_list,PySem.W.mg_none_of X G z_range,PySem.W.mg_none_of X G z_set,PySem.W.mg_none_of X G z_sorted,PySem.W.mg_none_of X G z_str,PySem.W.mg_none_of X G z_tuple,PySem.W.mg_none_of X G z_zip,⟨_,PySem.W.mg_of X G y_LONGEST_NAME⟩,⟨_,PySem.W.mg_of X G y_MOST_ENDS⟩,⟨_,PySem.W.mg_of X G y_MOST_GOES⟩,⟨_,PySem.W.mg_of X G y_MOST_PAIRS⟩,⟨_,PySem.W.mg_of X G y_MOST_STATES⟩⟩
 have e_PathError:clsA K "PathError" = C_PathError:=clsA_of g_PathError
 have e_Ring:clsA K "Ring" = C_Ring:=clsA_of g_Ring
 have ER:Ers K mg:=⟨by rw [e_PathError]; exact PySem.W.mg_of X G g_PathError,by rw [e_Ring]; exact PySem.W.mg_of X G g_Ring,by rw [e_PathError]; exact ⟨op0,ty_PathError,fc_PathError⟩,by rw [e_Ring]; exact kp_Ring,by rw [e_Ring]; exact xform_x xi19,by rw [e_Ring]; exact ⟨_,xi19⟩,by rw [e_Ring]; exact hd_Ring,by rw [e_Ring]; exact sa_Ring,by rw [e_Ring]; exact na_Ring_ring,by rw [e_Ring]; exact excCl_of p_Ring pa_Ring pb_Ring q_Ring hn0 ht0 m_Ring,by rw [e_Ring]; exact ask_VE w_Ring,by rw [e_Ring]; exact sub_of_mro u_Ring_Ring⟩
 have F0:=fun_mk (st:=s__law_cell_at) l0 c0 k0
 have F1:=fun_mk (st:=s__law_turned) l1 c1 k1
 have F2:=fun_mk (st:=s__law_labels) l2 c2 k2
 have F3:=fun_mk (st:=s__law_pairs) l3 c3 k3
 have F4:=fun_mk (st:=s__law_all) l4 c4 k4
 have F5:=fun_mk (st:=s_refuse_too_great) l5 c5 k5
 have F6:=fun_mk (st:=s_labels_of) l6 c6 k6
 have F7:=fun_mk (st:=s_labels_told) l7 c7 k7
 have F8:=fun_mk (st:=s_is_name) l8 c8 k8
 have F9:=fun_mk (st:=s_refuse_no_names) l9 c9 k9
 have F10:=fun_mk (st:=s_is_whole) l10 c10 k10
 have F11:=fun_mk (st:=s_is_place) l11 c11 k11
 have F12:=fun_mk (st:=s_refuse_no_places) l12 c12 k12
 have F13:=fun_mk (st:=s_is_one_twice) l13 c13 k13
 have F14:=fun_mk (st:=s_refuse_twice) l14 c14 k14
 have F15:=fun_mk (st:=s_worse_by_better) l15 c15 k15
 have F16:=fun_mk (st:=s_reached) l16 c16 k16
 have F17:=fun_mk (st:=s_all_that_follows) l17 c17 k17
 have F18:=fun_mk (st:=s_own_lists) l18 c18 k18
 have F19:=fun_mk (st:=s_Ring__init__) l19 c19 k19
 have X19:PySem.W.xIn K (clsA K "Ring") f19=true:=by rw [e_Ring]; exact xi19
 have F20:=fun_mk (st:=s_chain) l20 c20 k20
 have F21:=fun_mk (st:=s_order_of) l21 c21 k21
 have F22:=fun_mk (st:=s_sorted_state) l22 c22 k22
 have F23:=fun_mk (st:=s_table_of) l23 c23 k23
 have F24:=fun_mk (st:=s__law_same) l24 c24 k24
 have F25:=fun_mk (st:=s_judge) l25 c25 k25
 have F26:=fun_mk (st:=s__law_is_round) l26 c26 k26
 have F27:=fun_mk (st:=s__law_ring_of) l27 c27 k27
 have F28:=fun_mk (st:=s_law) l28 c28 k28
 refine ⟨PySem.W.fnOf "law" "law" (defArgs s_law) (defBody s_law) (defScope s_law) .none kV28 dc28 pm28 an28 cd28 ct28,fun s v=>.of_eq rfl,_,tabT_of (tabIn_of a25 l25 rfl lJ vJ),fun base _ _ NS=>?_⟩
 have K__law_cell_at:C__law_cell_at l.prog w K mg base:=call__law_cell_at B ER  F0 (PySem.W.mg_of X G a0)
 have K__law_turned:C__law_turned l.prog w K mg base:=call__law_turned B ER  F1 (PySem.W.mg_of X G a1)
 have K__law_labels:C__law_labels l.prog w K mg base:=call__law_labels B ER  F2 (PySem.W.mg_of X G a2)
 have K__law_pairs:C__law_pairs l.prog w K mg base:=call__law_pairs B ER K__law_cell_at F3 (PySem.W.mg_of X G a3)
 have K__law_all:C__law_all l.prog w K mg base:=call__law_all B ER  F4 (PySem.W.mg_of X G a4)
 have K_refuse_too_great:C_refuse_too_great l.prog w K mg base:=call_refuse_too_great B ER  F5 (PySem.W.mg_of X G a5)
 have K_labels_of:C_labels_of l.prog w K mg base:=call_labels_of B ER  F6 (PySem.W.mg_of X G a6)
 have K_labels_told:C_labels_told l.prog w K mg base:=call_labels_told B ER K_labels_of F7 (PySem.W.mg_of X G a7)
 have K_is_name:C_is_name l.prog w K mg base:=call_is_name B ER  F8 (PySem.W.mg_of X G a8)
 have K_refuse_no_names:C_refuse_no_names l.prog w K mg base:=call_refuse_no_names B ER K_labels_told K_is_name F9 (PySem.W.mg_of X G a9)
 have K_is_whole:C_is_whole l.prog w K mg base:=call_is_whole B ER  F10 (PySem.W.mg_of X G a10)
 have K_is_place:C_is_place l.prog w K mg base:=call_is_place B ER K_is_whole F11 (PySem.W.mg_of X G a11)
 have K_refuse_no_places:C_refuse_no_places l.prog w K mg base:=call_refuse_no_places B ER K_is_place F12 (PySem.W.mg_of X G a12)
 have K_is_one_twice:C_is_one_twice l.prog w K mg base:=call_is_one_twice B ER  F13 (PySem.W.mg_of X G a13)
 have K_refuse_twice:C_refuse_twice l.prog w K mg base:=call_refuse_twice B ER K_is_one_twice K_labels_of F14 (PySem.W.mg_of X G a14)
 have K_worse_by_better:C_worse_by_better l.prog w K mg base:=call_worse_by_better B ER  F15 (PySem.W.mg_of X G a15)
 have K_reached:C_reached l.prog w K mg base:=call_reached B ER  F16 (PySem.W.mg_of X G a16)
 have K_all_that_follows:C_all_that_follows l.prog w K mg base:=call_all_that_follows B ER K_worse_by_better K_reached F17 (PySem.W.mg_of X G a17)
 have K_own_lists:C_own_lists l.prog w K mg base:=call_own_lists B ER  F18 (PySem.W.mg_of X G a18)
 have K_Ring__init__:CalleeI l.prog w K mg base (clsA K "Ring") 3 ["self", "ring"] (sp_Ring__init__ K):=call_Ring__init__ B ER K_own_lists F19 X19 fi19
 have K_chain:C_chain l.prog w K mg base:=call_chain B ER K_reached K_worse_by_better F20 (PySem.W.mg_of X G a20)
 have K_order_of:CalleeE l.prog w K mg base "order_of" 5 ["pairs"] (sp_order_of K):=call_order_of B ER K_all_that_follows K_Ring__init__ K_chain F21 (PySem.W.mg_of X G a21)
 have K_sorted_state:C_sorted_state l.prog w K mg base:=call_sorted_state B ER  F22 (PySem.W.mg_of X G a22)
 have K_table_of:CalleeE l.prog w K mg base "table_of" 6 ["states", "inner", "pairs"] (sp_table_of K):=call_table_of B ER K_refuse_too_great K_refuse_no_names K_refuse_no_places K_refuse_twice K_order_of K_sorted_state F23 (PySem.W.mg_of X G a23)
 have K__law_same:C__law_same l.prog w K mg base:=call__law_same B ER  F24 (PySem.W.mg_of X G a24)
 have K_judge:C_judge l.prog w K mg base:=call_judge B K_all_that_follows F25 (PySem.W.mg_of X G a25) NS rfl
 have K__law_is_round:C__law_is_round l.prog w K mg base:=call__law_is_round B ER  F26 (PySem.W.mg_of X G a26)
 have K__law_ring_of:C__law_ring_of l.prog w K mg base:=call__law_ring_of B ER K_order_of F27 (PySem.W.mg_of X G a27)
 exact ok_law B ER K__law_cell_at K__law_turned K__law_labels K__law_pairs K__law_all K_table_of K__law_same K_order_of K_chain K_judge K__law_is_round K__law_ring_of F28
theorem walk {l:PySem.W.OpenLaw} {q:Program} {loose:List Str} {XP:(Str→Option Value)→Heap→Prop} {YP:World→Heap→Prop} {d:DefRec} {K:Params→PySem.W.Frag} (hn:l.most=some 63) (hdf:d.params.defaults=[])
 (hY:∀ (w:World) (h:Heap),YP w h→(K w.params).In h) (hK:∀ w:World,PySem.W.noTabs (K w.params)=true) (hj:((recsOf q).find? fun e=>e.name == ("judge" : Str)).isSome=true)
 (F:∀ (w:World) (mg:Str→Option Value) (fa:Addr) (h:Heap),(K w.params).In h→h.Ns mainGlobals mg→mg d.name=some (.ref fa) →
  ∃ fd:FuncData,(∀ (s:Shared) (u:Value),BindsTo s fd ⟨[u],[]⟩ [("_law_script",u)])∧∃ c,PySem.W.tabIn (K w.params) "judge" = some (c,tabT (K w.params) "judge")∧∀ base:Heap,(K w.params).In base→base.Ns mainGlobals mg→Nst mg base c (tabT (K w.params) "judge")→FnOk l.prog w (K w.params) mg base CX0 7 fa fd ["_law_script"] (sp_law (K w.params))) :
 PySem.W.WalkO q loose XP YP l.row.toRowW d [] (fun f vs=>PySem.call f vs) :=
 L2.walk_ofT (n:=63) (k:=7) (x := "_law_script") (CX:=fun _=>CX0) (sp:=fun w=>sp_law (K w.params)) hn (by decide) hdf ⟨rfl,by decide,by decide,rfl⟩ hY hK hj F (fun _ _ a ns hl hO hS=>⟨a,ns,rfl,hS,hl,hO.1,fun _=>rfl⟩) fun _ _ _ _ _ z=>z
end K09
namespace L2
open PySem PySem.W PySem.W.Fast in
theorem left_of {p q:Program} {loose:List Str} {Xt:Shared→Bool} {α:Type} {Yf:Shared→α} {Ya:World→α} {N:Nat}
 (h : ∀ w : World, Option.map (fun s => (tw4187177175401517315 q loose (tw5923862056798008813 p.main.body) Xt true s, Yf s)) (((tw10274390034422433532 tw14364793385576792824 (opening p) w N (PySem.start (opening p)).1 (PySem.start (opening p)).2).bind (tw14289696077712309145 p)).bind fun s₀ =>
  match s₀.heap.isNs mainGlobals && s₀.gens.size == 0 with
  | true=>(tw14082659384304107361 tw14364793385576792824 p w s₀.heap.objs.size (s₀.heap.nsMap mainGlobals "__annotations__") N s₀ (topStub p)).bind fun s₁=>match staticsOk (tw5923862056798008813 p.main.body) s₀.heap s₁.heap && namesBound p s₁.heap && gensDone s₁ && laidKept s₀.heap s₁.heap with
    | true=>some s₁
    | false=>none
  | false=>none)=some (openGood q loose,Ya w)):LeftO p q loose Xt Yf Ya N:=by
 intro w
 have h:=h w
 rw [←te14082659384304107361,←te10274390034422433532,←te14364793385576792824,←te4187177175401517315,←te5923862056798008813,←te14289696077712309145] at h
 exact h
end L2
namespace K09
open PySem
def own:Stmt→Bool
 | .Assign [.Name x _] _ _=>x != "__name__"
 | _=>true
def view:Program:={ PySem.Challenge.pw_namepaths_k09_long_chains with main:={ PySem.Challenge.pw_namepaths_k09_long_chains.main with body:=PySem.Challenge.pw_namepaths_k09_long_chains.main.body.filter own } }
end K09
open PySem PySem.W PyProof.Rows
local macro_rules | `(tactic| o_head $H:term) => `(tactic| refine holds_open (q := K09.view) (loose := []) (Xt := fun s => xlAt K09.view [] s && recOk [] s) (XP := XL K09.view []) (Yf := Hook.obs $H) (Ya := Hook.val $H) (YP := Hook.says $H) (N := 40000) ?hl (Hook.of $H) (Hook.keeps $H) (fun s e => xl_of s (Bool.and_eq_true_iff.mp e).1) XL.keeps (by rfl) (by rfl) (by rfl) (fun s e => recFacts_of (Bool.and_eq_true_iff.mp e).2) (by rfl) (by first | assumption | decide +kernel) (by decide +kernel) ⟨rfl, rfl, rfl, rfl, rfl, by decide +kernel⟩ ?hw ?hc)
open PySem PySem.W PyProof.Rows
set_option maxRecDepth 100000 in
set_option maxHeartbeats 0 in
theorem PySem.Challenge.cw_namepaths_k09_long_chains_holds : PySem.Challenge.rw_namepaths_k09_long_chains.Holds := by
 w_on; o_law; k_head
 case hl =>
  refine L2.left_of fun w=>?_
  kernel_rfl
 case hw=>w_witness2
 k_fill
 refine K09.walk (l:=PySem.Challenge.rw_namepaths_k09_long_chains) rfl rfl (fun w h Y=>PySem.W.km_in_of Y) ?hK ?hj ?F
 case hK=>intro w; kernel_rfl
 case hj=>decide +kernel
 case F =>
  intro w mg fa h KX G hmg
  refine' K09.all_mk KX G hmg ?a0 ?l0 ?c0 ?k0 ?a1 ?l1 ?c1 ?k1 ?a2 ?l2 ?c2 ?k2 ?a3 ?l3 ?c3 ?k3 ?a4 ?l4 ?c4 ?k4 ?a5 ?l5 ?c5 ?k5 ?a6 ?l6 ?c6 ?k6 ?a7 ?l7 ?c7 ?k7 ?a8 ?l8 ?c8 ?k8 ?a9 ?l9 ?c9 ?k9 ?a10 ?l10 ?c10 ?k10 ?a11 ?l11 ?c11 ?k11 ?a12 ?l12 ?c12 ?k12 ?a13 ?l13 ?c13 ?k13 ?a14 ?l14 ?c14 ?k14 ?a15 ?l15 ?c15 ?k15 ?a16 ?l16 ?c16 ?k16 ?a17 ?l17 ?c17 ?k17 ?a18 ?l18 ?c18 ?k18 ?a19 ?l19 ?c19 ?k19 ?xi19 ?fi19 ?a20 ?l20 ?c20 ?k20 ?a21 ?l21 ?c21 ?k21 ?a22 ?l22 ?c22 ?k22 ?a23 ?l23 ?c23 ?k23 ?a24 ?l24 ?c24 ?k24 ?a25 ?l25 ?c25 ?k25 ?lJ ?vJ ?a26 ?l26 ?c26 ?k26 ?a27 ?l27 ?c27 ?k27 ?a28 ?l28 ?c28 ?k28 ?z_all ?z_bool ?z_dict ?z_int ?z_isinstance ?z_len ?z_list ?z_range ?z_set ?z_sorted ?z_str ?z_tuple ?z_zip ?y_LONGEST_NAME ?y_MOST_ENDS ?y_MOST_GOES ?y_MOST_PAIRS ?y_MOST_STATES ?g_PathError ?g_Ring ?hn0 ?ht0 ?op0 ?ty_PathError ?fc_PathError ?kp_Ring ?hd_Ring ?sa_Ring ?na_Ring_ring ?p_Ring ?pa_Ring ?pb_Ring ?q_Ring ?m_Ring ?w_Ring ?u_Ring_Ring
  (case g_PathError=>k_is)
  (case g_Ring=>k_is)
  (case a0=>k_is)
  (case l0=>k_is)
  (case c0=>k_is)
  (case k0=>k_is)
  (case a1=>k_is)
  (case l1=>k_is)
  (case c1=>k_is)
  (case k1=>k_is)
  (case a2=>k_is)
  (case l2=>k_is)
  (case c2=>k_is)
  (case k2=>k_is)
  (case a3=>k_is)
  (case l3=>k_is)
  (case c3=>k_is)
  (case k3=>k_is)
  (case a4=>k_is)
  (case l4=>k_is)
  (case c4=>k_is)
  (case k4=>k_is)
  (case a5=>k_is)
  (case l5=>k_is)
  (case c5=>k_is)
  (case k5=>k_is)
  (case a6=>k_is)
  (case l6=>k_is)
  (case c6=>k_is)
  (case k6=>k_is)
  (case a7=>k_is)
  (case l7=>k_is)
  (case c7=>k_is)
  (case k7=>k_is)
  (case a8=>k_is)
  (case l8=>k_is)
  (case c8=>k_is)
  (case k8=>k_is)
  (case a9=>k_is)
  (case l9=>k_is)
  (case c9=>k_is)
  (case k9=>k_is)
  (case a10=>k_is)
  (case l10=>k_is)
  (case c10=>k_is)
  (case k10=>k_is)
  (case a11=>k_is)
  (case l11=>k_is)
  (case c11=>k_is)
  (case k11=>k_is)
  (case a12=>k_is)
  (case l12=>k_is)
  (case c12=>k_is)
  (case k12=>k_is)
  (case a13=>k_is)
  (case l13=>k_is)
  (case c13=>k_is)
  (case k13=>k_is)
  (case a14=>k_is)
  (case l14=>k_is)
  (case c14=>k_is)
  (case k14=>k_is)
  (case a15=>k_is)
  (case l15=>k_is)
  (case c15=>k_is)
  (case k15=>k_is)
  (case a16=>k_is)
  (case l16=>k_is)
  (case c16=>k_is)
  (case k16=>k_is)
  (case a17=>k_is)
  (case l17=>k_is)
  (case c17=>k_is)
  (case k17=>k_is)
  (case a18=>k_is)
  (case l18=>k_is)
  (case c18=>k_is)
  (case k18=>k_is)
  (case a19=>k_is)
  (case l19=>k_is)
  (case c19=>k_is)
  (case k19=>k_is)
  (case xi19=>kernel_rfl)
  (case fi19=>kernel_rfl)
  (case a20=>k_is)
  (case l20=>k_is)
  (case c20=>k_is)
  (case k20=>k_is)
  (case a21=>k_is)
  (case l21=>k_is)
  (case c21=>k_is)
  (case k21=>k_is)
  (case a22=>k_is)
  (case l22=>k_is)
  (case c22=>k_is)
  (case k22=>k_is)
  (case a23=>k_is)
  (case l23=>k_is)
  (case c23=>k_is)
  (case k23=>k_is)
  (case a24=>k_is)
  (case l24=>k_is)
  (case c24=>k_is)
  (case k24=>k_is)
  (case a25=>k_is)
  (case l25=>k_is)
  (case c25=>k_is)
  (case k25=>k_is)
  (case lJ=>k_is)
  (case vJ=>rfl)
  (case a26=>k_is)
  (case l26=>k_is)
  (case c26=>k_is)
  (case k26=>k_is)
  (case a27=>k_is)
  (case l27=>k_is)
  (case c27=>k_is)
  (case k27=>k_is)
  (case a28=>k_is)
  (case l28=>k_is)
  (case c28=>k_is)
  (case k28=>k_is)
  (case z_all=>k_is)
  (case z_bool=>k_is)
  (case z_dict=>k_is)
  (case z_int=>k_is)
  (case z_isinstance=>k_is)
  (case z_len=>k_is)
  (case z_list=>k_is)
  (case z_range=>k_is)
  (case z_set=>k_is)
  (case z_sorted=>k_is)
  (case z_str=>k_is)
  (case z_tuple=>k_is)
  (case z_zip=>k_is)
  (case y_LONGEST_NAME=>k_is)
  (case y_MOST_ENDS=>k_is)
  (case y_MOST_GOES=>k_is)
  (case y_MOST_PAIRS=>k_is)
  (case y_MOST_STATES=>k_is)
  (case hn0=>k_is)
  (case ht0=>k_is)
  (case op0=>k_is)
  (case ty_PathError=>k_is)
  (case fc_PathError=>k_is)
  (case kp_Ring=>kernel_rfl)
  (case hd_Ring=>kernel_rfl)
  (case sa_Ring=>k_is)
  (case na_Ring_ring=>k_is)
  (case p_Ring=>k_is)
  (case pa_Ring=>k_is)
  (case pb_Ring=>k_is)
  (case q_Ring=>k_is)
  (case m_Ring=>k_is)
  (case w_Ring=>k_is)
  (case u_Ring_Ring=>k_is)
