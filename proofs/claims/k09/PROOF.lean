import PyProof.Rows.All
import Wide.All
import OpenK.AllK
import Wide.FinOn
import Lean
import PyProof.EqAt
import PyProof.EqKinds
import PyProof.TupleCall
import PyProof.NeKinds
import PyProof.EnumMake
import PyProof.ListRange
import PyProof.Rows.Range3
import PyProof.Rows.SortRuns
import PyProof.Rows.SortWalk
import KE.KMinKey
import KE.KLam
import PyProof.Rows.RuleN_abs
import PyProof.AutoSeq1
import PySem.Challenge.RW_stripfold_k09_refused
set_option Elab.async false
set_option linter.all false
set_option maxRecDepth 100000
namespace L2
open PySem PySem.Spec PyProof.Rows
abbrev Key:=Sum Int Str
def keyIs:Key→Value→Bool
 | .inl k,v=>Value.isInt k v
 | .inr x,v=>Value.isStrOf x v
def keyH (w:World):Key→Int
 | .inl k=>hashInt k
 | .inr x=>hashStr w x
theorem keyIs_shape:∀ {k:Key}{v:Value},keyIs k v=true→(∃ i t,k=Sum.inl i∧v=Value.int i t)∨(∃ x t,k=Sum.inr x∧v=Value.str x t)
 | .inl i,v,h=>by
  obtain⟨t,e⟩:=Value.isInt_shape (k:=i) (v:=v) h
  exact .inl ⟨i,t,rfl,e⟩
 | .inr x,v,h=>by
  obtain⟨t,e⟩:=Value.isStrOf_shape (x:=x) (v:=v) h
  exact .inr ⟨x,t,rfl,e⟩
theorem key_ll (a b:Int):decide ((Sum.inl a:Key)=Sum.inl b)=(a == b):=by
 by_cases e:a=b
 ·subst e;simp
 ·have h:¬ (Sum.inl a:Key)=Sum.inl b:=fun q=>e (Sum.inl.inj q)
  rw[decide_eq_false h]
  exact (beq_eq_false_iff_ne.mpr e).symm
theorem key_rr (a b:Str):decide ((Sum.inr a:Key)=Sum.inr b)=decide (a=b):=by
 by_cases e:a=b
 ·subst e;simp
 ·have h:¬ (Sum.inr a:Key)=Sum.inr b:=fun q=>e (Sum.inr.inj q)
  rw[decide_eq_false h,decide_eq_false e]
theorem key_lr (a:Int)(b:Str):decide ((Sum.inl a:Key)=Sum.inr b)=false:=decide_eq_false (fun q=>nomatch q)
theorem key_rl (a:Str)(b:Int):decide ((Sum.inr a:Key)=Sum.inl b)=false:=decide_eq_false (fun q=>nomatch q)
def mixKind (prog:Program)(w:World):PySem.KeyKind prog w Key where
 is:=keyIs
 hash:=keyH w
 inj:=fun v a b ha hb=>by
  rcases keyIs_shape ha with⟨i,t,rfl,rfl⟩ | ⟨x,t,rfl,rfl⟩
  ·rcases keyIs_shape hb with⟨j,u,rfl,e⟩ | ⟨y,u,rfl,e⟩
   ·injection e with e1 _;rw[e1]
   ·exact nomatch e
  ·rcases keyIs_shape hb with⟨j,u,rfl,e⟩ | ⟨y,u,rfl,e⟩
   ·exact nomatch e
   ·injection e with e1 _;rw[e1]
 byValue:=fun k v h=>by
  rcases keyIs_shape h with⟨i,t,rfl,rfl⟩ | ⟨x,t,rfl,rfl⟩ <;> rfl
 pyHash:=fun hv h=>by
  rcases keyIs_shape hv with⟨i,t,rfl,rfl⟩ | ⟨x,t,rfl,rfl⟩
  ·exact wpAny_pyHash_int h
  ·exact wpAny_pyHash_str h
 eqBool:=fun hu hv h=>by
  rcases keyIs_shape hu with⟨i,t,rfl,rfl⟩ | ⟨x,t,rfl,rfl⟩
  ·rcases keyIs_shape hv with⟨j,u,rfl,rfl⟩ | ⟨y,u,rfl,rfl⟩
   ·rw[key_ll] at h;exact wpAny_eqBool_int h
   ·rw[key_lr] at h;exact SeqAt.EqAt.int_str i t y u _ _ _ _ h
  ·rcases keyIs_shape hv with⟨j,u,rfl,rfl⟩ | ⟨y,u,rfl,rfl⟩
   ·rw[key_rl] at h;exact SeqAt.EqAt.str_int x t j u _ _ _ _ h
   ·rw[key_rr] at h;exact wpAny_eqBool_str h
 «strs»:=fun k x t v h=>by
  rcases keyIs_shape h with⟨i,u,rfl,e⟩ | ⟨y,u,rfl,e⟩
  ·exact nomatch e
  ·injection e with e1 _
   subst e1
   cases v <;> rfl
end L2
namespace L2
open PySem PySem.Spec PyProof.Rows
inductive V where
 | non | bl (b:Bool) | int (i:Int) | str (x:Str) | byt (b:Array UInt8) | flt (b:UInt64) | ref (a:Addr) | ty (n:String)
 deriving DecidableEq
def RelV:V→Value→Prop
 | .non,u=>u=Value.none
 | .bl b,u=>u=Value.bool b
 | .int i,u=>∃ t,u=Value.int i t
 | .str x,u=>∃ t,u=Value.str x t
 | .byt b,u=>∃ t,u=Value.bytes b t
 | .flt b,u=>∃ t,u=Value.float b t
 | .ref a,u=>u=Value.ref a
 | .ty n,u=>u=Value.type n
abbrev Vals:List V→List Value→Prop:=Paired RelV
theorem Vals.length {xs:List V}{us:List Value}(r:Vals xs us):xs.length=us.length:=Paired.length r
theorem Vals.get:∀ {xs:List V}{us:List Value}{i:Nat}{x:V},Vals xs us→xs[i]?=some x→∃ u,us[i]?=some u∧RelV x u
 | _,_,_,_,.nil,e=>by simp at e
 | _,_,0,_,.cons r _,e=>by simp at e;subst e;exact⟨_,rfl,r⟩
 | _,_,i+1,x,.cons _ t,e=>by
  obtain⟨u,h1,h2⟩:=Vals.get (i:=i) (x:=x) t (by simpa using e)
  exact⟨u,by simpa using h1,h2⟩
theorem Vals.set {x:V}{u:Value}(r:RelV x u):∀ {xs:List V}{us:List Value} (i:Nat),Vals xs us→Vals (xs.set i x) (us.set i u)
 | _,_,_,.nil=>.nil
 | _,_,0,.cons _ t=>.cons r t
 | _,_,i+1,.cons q t=>.cons q (Vals.set r i t)
theorem Vals.append:∀ {xs ys:List V}{us ws:List Value},Vals xs us→Vals ys ws→Vals (xs++ys) (us++ws)
 | _,_,_,_,.nil,s=>s
 | _,_,_,_,.cons r t,s=>.cons r (Vals.append t s)
theorem Vals.take:∀ {xs:List V}{us:List Value} (n:Nat),Vals xs us→Vals (xs.take n) (us.take n)
 | _,_,0,_=>.nil
 | _,_,_+1,.nil=>.nil
 | _,_,n+1,.cons r t=>.cons r (Vals.take n t)
theorem Vals.drop:∀ {xs:List V}{us:List Value} (n:Nat),Vals xs us→Vals (xs.drop n) (us.drop n)
 | _,_,0,r=>r
 | _,_,_+1,.nil=>.nil
 | _,_,n+1,.cons _ t=>Vals.drop n t
theorem Vals.none_of:∀ {xs:List V}{us:List Value}{i:Nat},Vals xs us→xs[i]?=none→us[i]?=none:=fun {xs us i} r e=>by
 have h1:=r.length
 have h2:xs.length≤i:=List.getElem?_eq_none_iff.mp e
 exact List.getElem?_eq_none_iff.mpr (by omega)
def RelO:Option V→Option Value→Prop
 | some v,some u=>RelV v u
 | none,none=>True
 | _,_=>False
def KV {κ:Type}:List (κ×V)→List (κ×Value)→Prop:=Paired fun (p:κ×V) (q:κ×Value)=>p.1=q.1∧RelV p.2 q.2
def kV:Key→V
 | .inl i=>.int i
 | .inr x=>.str x
inductive HO where
  | lst (xs:List V)
  | tup (xs:List V)
  | dK (kvs:List (Key×V)) | dT (kvs:List (List Key×V))
  | set (S:Int→Bool) (n:Nat)
  | ins (C dx:Addr) (fs:List (Str×V))
  | own (x:Addr)
  | xd (fs:List (Str×V))
  | met (f x:Addr)
  | rng (lo hi:Int)
  | frz (o:Obj) (u:HO)
  | tbl (ps:Array Value)
  | ext (φ:Heap→Prop)
abbrev Hp:=Addr→Option HO
def upd (H:Hp)(a:Addr)(o:HO):Hp:=fun b=>if b=a then some o else H b
theorem upd_same {H:Hp}{a:Addr}{o:HO}:upd H a o a=some o:=by unfold upd;rw[if_pos rfl]
theorem upd_ne {H:Hp}{a b:Addr}{o:HO}(h:b≠a):upd H a o b=H b:=by unfold upd;rw[if_neg h]
theorem ne_of {H:Hp}{a b:Addr}{o u:HO}(h:H a=some o)(h':H b=some u)(d:o≠u):a≠b:=by
 intro e;subst e;rw[h] at h';exact d (Option.some.inj h')
theorem ne_of_none {H:Hp}{a b:Addr}{o:HO}(h:H a=some o)(h':H b=none):a≠b:=by
 intro e;subst e;rw[h] at h';cases h'
section
variable (P:Program)(w:World)
def ObjOk (H:Hp)(h:Heap)(a:Addr):HO→Prop
 | .lst xs=>xs.length≤sizeLine∧∃ (its:List Value) (n:Nat),Vals xs its∧h.get? a=some { cls:=.type "list",data:=.seq its.toArray n }
 | .tup xs=>xs.length≤sizeLine∧∃ its:List Value,Vals xs its∧IsTup h a its.toArray
 | .dK kvs=>kvs.length≤sizeLine∧(a == sysModules)=false∧∃ vs,KV kvs vs∧h.DictOf (mixKind P w) a vs
 | .dT kvs=>kvs.length≤sizeLine∧(a == sysModules)=false∧∃ xs:List (List Key×Addr×Value),
   Paired (fun (p:List Key×V) (q:List Key×Addr×Value)=>p.1=q.1∧H q.2.1=some (.tup (p.1.map kV))∧RelV p.2 q.2.2) kvs xs ∧
   ∃ o es ep,h.get? a=some o∧o.ExactDict∧o.data=.dict es ep∧es.toList=xs.map (entryOfKey (tupleKind (mixKind P w)))∧(xs.map (·.1)).Nodup
 | .set S n=>h.SetOf (intKind P w) a S n
 | .ins C dx fs=>H dx=some (.own a)∧fs.length≤1000∧dx≠a∧h.get? a=some (PySem.W.instObj C dx) ∧
   ∃ mA,h.Ns1 dx mA∧(∀ f,RelO (fs.lookup f) (mA f))∧PySem.Within mA (fs.map (·.1))
 | .own _=>∃ o,h.get? a=some o
 | .xd fs=>∃ mA,h.Ns1 a mA∧∀ f,RelO (fs.lookup f) (mA f)
 | .rng lo hi=>∃ t u v,h.get? a=some { cls:=.type "range",data:=.fields #[.int lo t,.int hi u,.int 1 v] }
 | .frz o u=>h.get? a=some o∧ObjOk H h a u
 | .tbl ps=>h.get? a=some { cls:=.none,data:=.fields ps }
 | .met f x=>h.get? a=some (PySem.W.methodObj (.ref f) (.ref x))
 | .ext φ=>φ h∧(∃ o,h.get? a=some o)∧∀ h1 h2:Heap,φ h1→(∀ o,h1.get? a=some o→h2.get? a=some o)→φ h2
def HOk (H:Hp)(h:Heap):Prop:=∀ a o,H a=some o→ObjOk P w H h a o
end
section
variable {P:Program}{w:World}{H H':Hp}{h h':Heap}{a:Addr}{o:HO}
theorem ObjOk.lt (x:ObjOk P w H h a o):a<h.objs.size:=by
 cases o with
 | lst xs=>obtain⟨_,_,_,_,e⟩:=x;exact Heap.lt_size e
 | tup xs=>obtain⟨_,_,_,p⟩:=x;exact p.lt
 | dK kvs=>obtain⟨_,_,_,_,o,_,_,e,_⟩:=x;exact Heap.lt_size e
 | dT kvs=>obtain⟨_,_,_,_,o,_,_,e,_⟩:=x;exact Heap.lt_size e
 | set S n=>obtain⟨o,_,_,_,e,_⟩:=x;exact Heap.lt_size e
 | ins C dx fs=>obtain⟨_,_,_,e,_⟩:=x;exact Heap.lt_size e
 | own y=>obtain⟨_,e⟩:=x;exact Heap.lt_size e
 | xd fs=>obtain⟨_,⟨_,_,_,e,_⟩,_⟩:=x;exact Heap.lt_size e
 | rng lo hi=>obtain⟨_,_,_,e⟩:=x;exact Heap.lt_size e
 | frz ob u=>obtain⟨e,_⟩:=x;exact Heap.lt_size e
 | tbl ps=>exact Heap.lt_size (show h.get? a=some _ from x)
 | met f y=>exact Heap.lt_size (show h.get? a=some _ from x)
 | ext φ=>obtain⟨_,⟨_,e⟩,_⟩:=x;exact Heap.lt_size e
theorem Paired.mapP {α β:Type}{F G:α→β→Prop}:∀ {l₁:List α}{l₂:List β},Paired F l₁ l₂→(∀ a b,F a b→G a b)→Paired G l₁ l₂
 | _,_,.nil,_=>.nil
 | _,_,.cons r t,f=>.cons (f _ _ r) (Paired.mapP t f)
theorem ObjOk.stay (x:ObjOk P w H h a o)(k:∀ b u,(b=a∨H b=some (.own a))→h.get? b=some u→h'.get? b=some u)
  (ho:∀ b,H b=some (.own a)→H' b=some (.own a)) (ht:∀ b xs,H b=some (.tup xs)→H' b=some (.tup xs)):ObjOk P w H' h' a o:=by
 induction o with
 | lst xs=>obtain⟨z,its,n,r,e⟩:=x;exact⟨z,its,n,r,k _ _ (.inl rfl) e⟩
 | tup xs=>obtain⟨z,its,r,ob,e,c⟩:=x;exact⟨z,its,r,ob,k _ _ (.inl rfl) e,c⟩
 | dK kvs=>obtain⟨z,y,vs,r,ob,es,ep,e,c⟩:=x;exact⟨z,y,vs,r,ob,es,ep,k _ _ (.inl rfl) e,c⟩
 | dT kvs =>
  obtain⟨z,y,xs,r,ob,es,ep,e,c⟩:=x
  exact⟨z,y,xs,Paired.mapP r fun p q z=>⟨z.1,ht _ _ z.2.1,z.2.2⟩,ob,es,ep,k _ _ (.inl rfl) e,c⟩
 | set S n=>obtain⟨ob,es,ep,t,e,c⟩:=x;exact⟨ob,es,ep,t,k _ _ (.inl rfl) e,c⟩
 | ins C dx fs =>
  obtain⟨d,z,ne,e,mA,⟨od,es,ep,e2,c⟩,r⟩:=x
  exact⟨ho _ d,z,ne,k _ _ (.inl rfl) e,mA,⟨od,es,ep,k _ _ (.inr d) e2,c⟩,r⟩
 | own y=>obtain⟨ob,e⟩:=x;exact⟨ob,k _ _ (.inl rfl) e⟩
 | xd fs=>obtain⟨mA,⟨od,es,ep,e,c⟩,r⟩:=x;exact⟨mA,⟨od,es,ep,k _ _ (.inl rfl) e,c⟩,r⟩
 | rng lo hi=>obtain⟨t,u,v,e⟩:=x;exact⟨t,u,v,k _ _ (.inl rfl) e⟩
 | frz ob u ih=>obtain⟨e,q⟩:=x;exact⟨k _ _ (.inl rfl) e,ih q⟩
 | tbl ps =>
  have e:h.get? a=some { cls:=.none,data:=.fields ps }:=x
  show h'.get? a=some { cls:=.none,data:=.fields ps }
  exact k a _ (.inl rfl) e
 | met f y =>
  have e:h.get? a=some (PySem.W.methodObj (.ref f) (.ref y)):=x
  show h'.get? a=some (PySem.W.methodObj (.ref f) (.ref y))
  exact k a _ (.inl rfl) e
 | ext φ=>obtain⟨p,⟨o,e⟩,st⟩:=x;exact⟨st _ _ p fun o q=>k _ _ (.inl rfl) q,⟨o,k _ _ (.inl rfl) e⟩,st⟩
theorem HOk.lt (x:HOk P w H h)(e:H a=some o):a<h.objs.size:=(x a o e).lt
theorem HOk.fresh (x:HOk P w H h)(e:h.objs.size≤a):H a=none:=by
 cases q:H a with
 | none=>rfl
 | some u=>exact absurd (Nat.lt_of_lt_of_le (x.lt q) e) (Nat.lt_irrefl _)
theorem HOk.kept (x:HOk P w H h)(k:∀ b u,h.get? b=some u→h'.get? b=some u):HOk P w H h':=fun a o e =>
 (x a o e).stay (fun b u _ q=>k b u q) (fun _ q=>q) fun _ _ q=>q
theorem HOk.laid (x:HOk P w H h)(k:∀ b u,h.get? b=some u→h'.get? b=some u)(hp:h.objs.size≤a)(new:ObjOk P w (upd H a o) h' a o):HOk P w (upd H a o) h':=fun b u e=>by
 have hn:=x.fresh hp
 by_cases hb:b=a
 ·subst hb;rw[upd_same] at e;cases e;exact new
 ·rw[upd_ne hb] at e
  exact (x b u e).stay (fun c v _ q=>k c v q) (fun c q=>by rw[upd_ne (ne_of_none q hn)];exact q) fun c xs q=>by rw[upd_ne (ne_of_none q hn)];exact q
end
def Rd (H:Hp)(a:Addr)(u:HO):Prop:=H a=some u∨∃ o,H a=some (.frz o u)
theorem Rd.of {H:Hp}{a:Addr}{u:HO}(h:H a=some u):Rd H a u:=.inl h
theorem Rd.ok {P:Program}{w:World}{H:Hp}{h:Heap}{a:Addr}{u:HO}(r:Rd H a u)(x:HOk P w H h):ObjOk P w H h a u:=by
 rcases r with r | ⟨o,r⟩
 ·exact x a u r
 ·obtain⟨_,q⟩:=x a _ r
  exact q
def Mut:Option HO→Prop
 | some (.lst _)=>True
 | some (.dK _)=>True
 | some (.dT _)=>True
 | some (.set _ _)=>True
 | some (.ins _ _ _)=>True
 | some (.ext _)=>True
 | _=>False
section
variable {P:Program}{w:World}{H:Hp}{h h':Heap}{x e:Addr}{o':HO}
theorem HOk.write (ok:HOk P w H h)(mu:Mut (H x))(he:e=x∨H e=some (.own x))(k:∀ b u,b≠e→h.get? b=some u→h'.get? b=some u)(heo:∃ u,h'.get? e=some u)
  (new:ObjOk P w (upd H x o') h' x o'):HOk P w (upd H x o') h':=fun b u q=>by
 have nown:∀ c y,H c=some (.own y)→c≠x:=fun c y r z=>by subst z;rw[r] at mu;exact mu
 have ntup:∀ c xs,H c=some (.tup xs)→c≠x:=fun c xs r z=>by subst z;rw[r] at mu;exact mu
 by_cases hb:b=x
 ·subst hb;rw[upd_same] at q;cases q;exact new
 ·rw[upd_ne hb] at q
  by_cases hbe:b=e
  ·have q':H b=some (.own x):=by
    rcases he with z | z
    ·exact absurd (hbe.trans z) hb
    ·rw[hbe];exact z
   rw[q] at q';cases q'
   obtain⟨v,hv⟩:=heo
   exact⟨v,by rw[hbe];exact hv⟩
  ·refine (ok b u q).stay (fun c v hc r=>k c v ?_ r) (fun c r=>by rw[upd_ne (nown c b r)];exact r) fun c xs r=>by rw[upd_ne (ntup c xs r)];exact r
   rcases hc with rfl | hc
   ·exact hbe
   ·rintro rfl
    rcases he with z | z
    ·exact nown c b hc z
    ·rw[hc] at z;cases z;exact hb rfl
end
structure Un (fs ex:List Addr)(H H':Hp)(h h':Heap):Prop where
 keep:∀ b o,h.get? b=some o→H b=none→b∉fs→b∉ex→h'.get? b=some o
 slot:∀ b o,h.get? b=some o→H b=none→b∈fs→b∉ex→∃ sl,h'.get? b=some { o with slots:=sl }
 free:∀ b o,h.get? b=some o→H b=none→b∉ex→H' b=none
 there:∀ b o,h.get? b=some o→b∉ex→∃ o',h'.get? b=some o'
 tups:∀ b xs,H b=some (.tup xs)→H' b=some (.tup xs)
 frzs:∀ b o u,H b=some (.frz o u)→H' b=some (.frz o u)
 tbls:∀ b ps,H b=some (.tbl ps)→∃ more,H' b=some (.tbl (ps++more))
section
variable {fs fs' ex ex':List Addr}{H H1 H2:Hp}{h h1 h2 h':Heap}{a x e:Addr}{o:HO}
theorem Un.any (u:Un fs ex H H1 h h1){b:Addr}{ob:Obj}(q:h.get? b=some ob)(n:H b=none)(hx:b∉ex):∃ sl,h1.get? b=some { ob with slots:=sl }:=by
 by_cases hb:b∈fs
 ·exact u.slot b ob q n hb hx
 ·exact⟨ob.slots,u.keep b ob q n hb hx⟩
theorem Un.trans (a:Un fs ex H H1 h h1)(b:Un fs ex H1 H2 h1 h2):Un fs ex H H2 h h2 where
 keep:=fun c ob q n hc hx=>b.keep c ob (a.keep c ob q n hc hx) (a.free c ob q n hx) hc hx
 slot:=fun c ob q n hc hx=>by
  obtain⟨sl,e1⟩:=a.slot c ob q n hc hx
  obtain⟨sl',e2⟩:=b.slot c _ e1 (a.free c ob q n hx) hc hx
  exact⟨sl',e2⟩
 free:=fun c ob q n hx=>by
  obtain⟨o',e1⟩:=a.there c ob q hx
  exact b.free c o' e1 (a.free c ob q n hx) hx
 there:=fun c ob q hx=>by
  obtain⟨o',e1⟩:=a.there c ob q hx
  exact b.there c o' e1 hx
 tups:=fun c xs q=>b.tups c xs (a.tups c xs q)
 frzs:=fun c ob xs q=>b.frzs c ob xs (a.frzs c ob xs q)
 tbls:=fun c ps q=>by
  obtain⟨m1,e1⟩:=a.tbls c ps q
  obtain⟨m2,e2⟩:=b.tbls c _ e1
  exact⟨m1++m2,by rw[e2,Array.append_assoc]⟩
theorem Un.kept (k:∀ b u,h.get? b=some u→h'.get? b=some u):Un fs ex H H h h' :=
 ⟨fun b ob q _ _ _=>k b ob q,fun b ob q _ _ _=>⟨ob.slots,k b ob q⟩,fun _ _ _ n _=>n,fun b ob q _=>⟨ob,k b ob q⟩,fun _ _ q=>q,fun _ _ _ q=>q,fun _ ps q=>⟨#[],by rw[q];simp⟩⟩
theorem Un.refl:Un fs ex H H h h:=Un.kept fun _ _ q=>q
theorem Un.laid (k:∀ b u,h.get? b=some u→h'.get? b=some u)(hp:h.objs.size≤a)(hn:H a=none):Un fs ex H (upd H a o) h h' where
 keep:=fun b u q _ _ _=>k b u q
 slot:=fun b u q _ _ _=>⟨u.slots,k b u q⟩
 free:=fun b u q n _=>by rw[upd_ne (Nat.ne_of_lt (Nat.lt_of_lt_of_le (Heap.lt_size q) hp))];exact n
 there:=fun b u q _=>⟨u,k b u q⟩
 tups:=fun b xs q=>by rw[upd_ne (ne_of_none q hn)];exact q
 frzs:=fun b u xs q=>by rw[upd_ne (ne_of_none q hn)];exact q
 tbls:=fun b ps q=>⟨#[],by rw[upd_ne (ne_of_none q hn),q];simp⟩
theorem Un.write (mu:Mut (H x))(he:e=x∨H e=some (.own x))(k:∀ b u,b≠e→h.get? b=some u→h'.get? b=some u)(heo:∃ u,h'.get? e=some u):Un fs ex H (upd H x o) h h':=by
 have hx:∀ b,H b=none→b≠x:=fun b n z=>by subst z;rw[n] at mu;exact mu
 have hb:∀ b,H b=none→b≠e:=fun b n z=>by
  subst z
  rcases he with r | r
  ·exact hx b n r
  ·rw[n] at r;cases r
 have hm:∀ b u,H b=some u→¬ Mut (some u)→b≠x:=fun b u q nm z=>by subst z;rw[q] at mu;exact nm mu
 refine⟨fun b u q n _ _=>k b u (hb b n) q,fun b u q n _ _=>⟨u.slots,k b u (hb b n) q⟩,fun b u q n _=>by rw[upd_ne (hx b n)];exact n,fun b u q _=>?_,
  fun b xs q=>by rw[upd_ne (hm b _ q fun z=>z)];exact q,fun b u xs q=>by rw[upd_ne (hm b _ q fun z=>z)];exact q,fun b ps q=>⟨#[],by rw[upd_ne (hm b _ q fun z=>z),q];simp⟩⟩
 by_cases hbe:b=e
 ·subst hbe;exact heo
 ·exact⟨u,k b u hbe q⟩
theorem Un.mono (u:Un fs ex H H1 h h1)(hs:∀ b∈fs,b∈fs')(hx:∀ b∈ex,b∈ex'):Un fs' ex' H H1 h h1 :=
 ⟨fun b ob q n hb he=>u.keep b ob q n (fun z=>hb (hs b z)) fun z=>he (hx b z),fun _ _ q n _ he=>u.any q n fun z=>he (hx _ z),fun b ob q n he=>u.free b ob q n fun z=>he (hx b z),fun b ob q he=>u.there b ob q fun z=>he (hx b z),u.tups,u.frzs,u.tbls⟩
end
def trk (h:Heap)(H:Hp):List Addr:=(List.range h.objs.size).filter fun a=>(H a).isSome
def hidT (h:Heap)(H:Hp):Heap:=PySem.W.hideAll h (trk h H)
theorem hidT_size (h:Heap)(H:Hp):(hidT h H).objs.size=h.objs.size:=PySem.W.hideAll_size _ _
theorem hidT_get {h:Heap}{H:Hp}{b:Addr}{o:Obj}(e:h.get? b=some o)(n:H b=none):(hidT h H).get? b=some o :=
 PySem.W.hideAll_get _ e fun hm=>by
  have q:(H b).isSome=true:=(List.mem_filter.mp hm).2
  rw[n] at q;simp at q
theorem of_hidT {h:Heap}{H:Hp}{b:Addr}{o:Obj}(e:(hidT h H).get? b=some o):h.get? b=some o∧H b=none:=by
 have e':h.get? b=some o:=PySem.W.of_hideAll (trk h H) e
 refine⟨e',?_⟩
 cases q:H b with
 | none=>rfl
 | some x =>
  have hm:b∈trk h H:=List.mem_filter.mpr ⟨List.mem_range.mpr (Heap.lt_size e'),by simp[q]⟩
  have z:(hidT h H).get? b=none:=PySem.W.hideAll_none (trk h H) hm
  rw[z] at e;cases e
def allNews (g h:Heap)(L:Addr):List (Addr×Obj):=(List.range h.objs.size).filterMap fun a=>if a=L∨(g.get? a).isSome=true then none else (h.get? a).map fun o=>(a,o)
theorem mem_allNews {g h:Heap}{L a:Addr}{o:Obj}(h1:a≠L)(h2:g.get? a=none)(h3:h.get? a=some o):(a,o)∈allNews g h L :=
 List.mem_filterMap.mpr ⟨a,List.mem_range.mpr (Heap.lt_size h3),by simp[h1,h2,h3]⟩
theorem of_mem_allNews {g h:Heap}{L:Addr}{p:Addr×Obj}(hp:p∈allNews g h L):p.1≠L∧g.get? p.1=none∧h.get? p.1=some p.2:=by
 obtain⟨b,_,e⟩:=List.mem_filterMap.mp hp
 split at e
 ·cases e
 ·rename_i hn
  cases q:h.get? b with
  | none=>rw[q] at e;simp at e
  | some u =>
   rw[q] at e
   simp only[Option.map_some,Option.some.injEq] at e
   subst e
   refine⟨fun z=>hn (.inl z),?_,q⟩
   show g.get? b=none
   cases r:g.get? b with
   | none=>rfl
   | some v=>exact (hn (.inr (by simp[r]))).elim
def rest (g h:Heap)(L d:Addr):List (Addr×Obj):=(allNews g h L).filter fun p=>decide (p.1≠d)
theorem news_all {g h:Heap}{L:Addr}:News g L h (allNews g h L):=fun p hp=>let ⟨a,b,c⟩:=of_mem_allNews hp;⟨c,a,b⟩
end L2
namespace L2
open PySem PySem.Spec PyProof.Rows
structure Mod (K:PySem.W.Frag)(mg:Str→Option Value)(base:Heap):Prop where
 kin:K.In base
 glob:base.Ns mainGlobals mg
 blt:∃ mb,base.Ns builtinsNs mb∧∀ x:Str,x≠"__name__"→mb x=bootBuiltins x
 nolimit:base.NoLimit
structure Cx where
 prog:Program
 w:World
 K:PySem.W.Frag
 mg:Str→Option Value
 base:Heap
 A:Around
 N:List Str
 s₀:Shared
 H₀:Hp
 env:Env
 outer:List Env
 stack:List Env
 ex:List Addr
 fn:Str→Bool
 calm:Bool
 pn:List (Addr×Obj)
 xe:Value→Shared→Prop
def frs (l:List Env):List Addr:=l.filterMap (·.frame)
abbrev Cx.fs (X:Cx):List Addr:=frs X.outer
def Vis (sc:Scope)(x:Str):Prop:=sc.names.lookup x=some .local∨sc.names.lookup x=some .cell∨sc.names.lookup x=some .free
def Loc (sc:Scope)(x:Str):Prop:=sc.names.lookup x=some .local∨sc.names.lookup x=some .cell
def Look (env:Env)(h:Heap)(m:Str→Option Value)(x:Str)(u:Value):Prop :=
 (env.kindOf x=some .local∧m x=some u)∨((env.kindOf x=some .cell∨env.kindOf x=some .free)∧∃ c,env.cells.lookup x=some c∧h.IsCell c (some u))
structure Cx.Ok (X:Cx):Prop where
 mod:Mod X.K X.mg X.base
 kind:X.env.scope.kind=.function
 glob:X.env.globals=mainGlobals
 blt:X.env.builtins=builtinsNs
 above:X.s₀.heap.objs.size≤X.env.locals
 inj:∀ x y c,X.env.cells.lookup x=some c→X.env.cells.lookup y=some c→x=y
 has:∀ x,(X.env.kindOf x=some .cell∨X.env.kindOf x=some .free)→∃ c,X.env.cells.lookup x=some c
 cab:∀ x c,X.fn x=true→X.env.cells.lookup x=some c→X.s₀.heap.objs.size≤c
 hd:X.calm=true→X.A.handled=none
 frames:X.A.frames=some X.stack
 stk:X.stack=X.outer∨(X.stack=X.env::X.outer∧X.env.frame=some X.env.locals)
 exf:∀ b∈X.ex,b≠X.env.locals∧∀ x c,X.env.cells.lookup x=some c→c≠b
 bs:∀ b o,X.base.get? b=some o→X.s₀.heap.get? b=some o∧X.H₀ b=none
 bsz:X.base.objs.size≤X.s₀.heap.objs.size
 noex:∀ b o,X.base.get? b=some o→b∉X.ex
 exfs:∀ b∈X.ex,b∉X.fs
 funs:X.s₀.heap.FunFrames X.base X.outer
 frf:∀ b∈X.fs,X.H₀ b=none
structure Inv (X:Cx)(pins:List (Addr×Obj))(σ:List (Option V))(H:Hp)(s:Shared):Prop where
 ok:X.Ok
 os:s.os=X.s₀.os
 bare:AllBare s.gens
 base:Un X.fs X.ex X.H₀ H X.s₀.heap s.heap
 loc:∃ m,s.heap.Ns X.env.locals m∧∀ (i:Nat) (x:Str) (v:V),X.N[i]?=some x→σ[i]?=some (some v)→Vis X.env.scope x→∃ u,RelV v u∧Look X.env s.heap m x u
 cell:∀ x c,X.env.cells.lookup x=some c→∃ v,s.heap.IsCell c v
 free:H X.env.locals=none
 freeC:∀ x c,X.env.cells.lookup x=some c→H c=none
 pin:∀ p∈X.pn++pins,s.heap.get? p.1=some p.2∧H p.1=none∧p.1≠X.env.locals∧p.1∉X.fs∧∀ v,p.2.data≠.cell v
 hok:HOk X.prog X.w H s.heap
 len:σ.length=X.N.length
section
variable {X:Cx}{pins:List (Addr×Obj)}{σ:List (Option V)}{H H':Hp}{s:Shared}{h':Heap}
theorem Cx.Ok.nofr (ok:X.Ok){b:Addr}{o:Obj}(e:X.base.get? b=some o):b∉X.fs:=fun hb=>by
 have:=(ok.funs.mem hb).1
 rw[e] at this;cases this
theorem Inv.bs (I:Inv X pins σ H s):∀ b o,X.base.get? b=some o→s.heap.get? b=some o∧H b=none:=fun b o e =>
 ⟨I.base.keep b o (I.ok.bs b o e).1 (I.ok.bs b o e).2 (I.ok.nofr e) (I.ok.noex b o e),I.base.free b o (I.ok.bs b o e).1 (I.ok.bs b o e).2 (I.ok.noex b o e)⟩
theorem Inv.bk (I:Inv X pins σ H s):∀ b o,X.base.get? b=some o→s.heap.get? b=some o:=fun b o e=>(I.bs b o e).1
theorem Inv.mod (I:Inv X pins σ H s):Mod X.K X.mg X.base:=I.ok.mod
theorem Inv.kIn (I:Inv X pins σ H s):X.K.In s.heap:=I.ok.mod.kin.keeps I.bk
theorem Inv.nolimit (I:Inv X pins σ H s):s.heap.NoLimit:=I.ok.mod.nolimit.keeps I.bk
theorem Inv.fr (I:Inv X pins σ H s):∃ m,Fr X.base X.env.locals s.heap m :=
 let ⟨m,hn,_⟩:=I.loc
 ⟨m,hn,I.bk,Nat.le_trans I.ok.bsz I.ok.above⟩
theorem Inv.lt (I:Inv X pins σ H s):X.env.locals<s.heap.objs.size:=let ⟨_,hn,_⟩:=I.loc;hn.lt
theorem Inv.sz (I:Inv X pins σ H s):X.s₀.heap.objs.size≤s.heap.objs.size:=Nat.le_trans I.ok.above (Nat.le_of_lt I.lt)
theorem Inv.nofs (I:Inv X pins σ H s){a:Addr}(h:s.heap.objs.size≤a):a∉X.fs:=fun hb=>by
 obtain⟨_,o,ho,_⟩:=I.ok.funs.mem hb
 exact absurd (Nat.lt_of_lt_of_le (Heap.lt_size ho) (Nat.le_trans I.sz h)) (Nat.lt_irrefl _)
theorem Inv.cne (I:Inv X pins σ H s):∀ x c,X.env.cells.lookup x=some c→c≠X.env.locals:=fun x c e z=>by
 obtain⟨v,o,ho,hd⟩:=I.cell x c e
 obtain⟨m,⟨o',es,ep,ho',hd',_⟩,_⟩:=I.loc
 rw[z,ho'] at ho;cases ho;rw[hd'] at hd;cases hd
theorem Inv.funs (I:Inv X pins σ H s):s.heap.FunFrames X.base X.outer:=by
 have all:∀ (l:List Env),(∀ b∈frs l,b∈X.fs)→X.s₀.heap.FunFrames X.base l→s.heap.FunFrames X.base l:=by
  intro l
  induction l with
  | nil=>intro _ _;trivial
  | cons env r ih =>
   intro hs hl
   obtain⟨hk,⟨L,o,hf,hn,ho,hd⟩,hr⟩:=hl
   have hL:L∈X.fs:=hs L (by unfold frs;rw[List.filterMap_cons,hf];exact List.mem_cons_self)
   obtain⟨sl,e⟩:=I.base.slot L o ho (I.ok.frf L hL) hL fun z=>I.ok.exfs L z hL
   exact⟨hk,⟨L,_,hf,hn,e,hd⟩,ih (fun b hb=>hs b (by unfold frs;rw[List.filterMap_cons,hf];exact List.mem_cons_of_mem _ hb)) hr⟩
 exact all X.outer (fun _ hb=>hb) I.ok.funs
theorem Inv.stack (I:Inv X pins σ H s):s.heap.FunFrames X.base X.stack:=by
 rcases I.ok.stk with e | ⟨e,hf⟩
 ·rw[e];exact I.funs
 ·rw[e]
  obtain⟨m,hn,_⟩:=I.loc
  refine .cons (by rw[I.ok.kind];decide) hf hn ?_ I.funs
  exact Heap.get?_none_of_le (Nat.le_trans I.ok.bsz I.ok.above)
theorem Inv.stkSub (I:Inv X pins σ H s):∀ b∈frs X.stack,b∈X.env.locals::X.fs:=fun b hb=>by
 rcases I.ok.stk with e | ⟨e,hf⟩
 ·rw[e] at hb;exact List.mem_cons_of_mem _ hb
 ·rw[e] at hb
  unfold frs at hb
  rw[List.filterMap_cons,hf] at hb
  exact hb
theorem Inv.stkFree (I:Inv X pins σ H s):∀ b∈frs X.stack,H b=none:=fun b hb=>by
 rcases List.mem_cons.mp (I.stkSub b hb) with e | hb
 ·rw[e];exact I.free
 ·obtain⟨_,o,ho,_⟩:=I.ok.funs.mem hb
  exact I.base.free b o ho (I.ok.frf b hb) fun z=>I.ok.exfs b z hb
theorem Inv.step {g':Array GenState}{t':Nat}{d':Drawn}{ch:List Addr}(I:Inv X pins σ H s)
  (hch:∀ b∈ch,(b∈X.ex∨X.s₀.heap.objs.size≤b)∧b≠X.env.locals∧(∀ x c,X.env.cells.lookup x=some c→c≠b)∧∀ p∈X.pn++pins,p.1≠b)
  (keep:∀ b o,b≠X.env.locals→b∉X.fs→b∉ch→s.heap.get? b=some o→H b=none→h'.get? b=some o)
  (slot:∀ b o,b≠X.env.locals→b∈X.fs→b∉ch→s.heap.get? b=some o→H b=none→∃ sl,h'.get? b=some { o with slots:=sl }) (free:∀ b o,b∉ch→s.heap.get? b=some o→H b=none→H' b=none)
  (there:∀ b o,b∉ch→s.heap.get? b=some o→∃ o',h'.get? b=some o')
  (tups:∀ b xs,H b=some (.tup xs)→H' b=some (.tup xs)) (frzs:∀ b o u,H b=some (.frz o u)→H' b=some (.frz o u)) (tbls:∀ b ps,H b=some (.tbl ps)→∃ more,H' b=some (.tbl (ps++more)))
  (ns:∀ m,s.heap.Ns X.env.locals m→h'.Ns X.env.locals m) (hok:HOk X.prog X.w H' h') (hg:AllBare g') :
  Inv X pins σ H' { s with heap:=h',gens:=g',drawn:=d',toks:=t' }:=by
 have neL:∀ b o,X.s₀.heap.get? b=some o→b≠X.env.locals:=fun b o e=>Nat.ne_of_lt (Nat.lt_of_lt_of_le (Heap.lt_size e) I.ok.above)
 have neC:∀ b o,X.s₀.heap.get? b=some o→b∉X.ex→b∉ch:=fun b o e hx hb=>by
  rcases (hch b hb).1 with z | z
  ·exact hx z
  ·exact absurd (Nat.lt_of_lt_of_le (Heap.lt_size e) z) (Nat.lt_irrefl _)
 have cellK:∀ x c,X.env.cells.lookup x=some c→∀ v,s.heap.IsCell c v→h'.IsCell c v:=fun x c e v ⟨o,ho,hd⟩=>by
  have nch:c∉ch:=fun z=>(hch c z).2.2.1 x c e rfl
  by_cases hc:c∈X.fs
  ·obtain⟨sl,q⟩:=slot c o (I.cne x c e) hc nch ho (I.freeC x c e)
   exact⟨_,q,hd⟩
  ·exact⟨o,keep c o (I.cne x c e) hc nch ho (I.freeC x c e),hd⟩
 refine⟨I.ok,I.os,hg,⟨fun b o e n hb hx=>?_,fun b o e n hb hx=>?_,fun b o e n hx=>?_,fun b o e hx=>?_,fun b xs e=>tups b xs (I.base.tups b xs e),fun b o xs e=>frzs b o xs (I.base.frzs b o xs e),fun b ps e=>?_⟩,?_,fun x c e=>?_,?_,fun x c e=>?_,fun p hp=>?_,hok,I.len⟩
 ·exact keep b o (neL b o e) hb (neC b o e hx) (I.base.keep b o e n hb hx) (I.base.free b o e n hx)
 ·obtain⟨sl,e1⟩:=I.base.slot b o e n hb hx
  obtain⟨sl',e2⟩:=slot b _ (neL b o e) hb (neC b o e hx) e1 (I.base.free b o e n hx)
  exact⟨sl',e2⟩
 ·obtain⟨o',e1⟩:=I.base.there b o e hx
  exact free b o' (neC b o e hx) e1 (I.base.free b o e n hx)
 ·obtain⟨o',e1⟩:=I.base.there b o e hx
  exact there b o' (neC b o e hx) e1
 ·obtain⟨m1,e1⟩:=I.base.tbls b ps e
  obtain⟨m2,e2⟩:=tbls b _ e1
  exact⟨m1++m2,by rw[e2,Array.append_assoc]⟩
 ·obtain⟨m,hn,hl⟩:=I.loc
  refine⟨m,ns m hn,fun i x v e1 e2 e3=>?_⟩
  obtain⟨u,r,l⟩:=hl i x v e1 e2 e3
  refine⟨u,r,?_⟩
  rcases l with l | ⟨k,c,e,z⟩
  ·exact .inl l
  ·exact .inr ⟨k,c,e,cellK x c e _ z⟩
 ·obtain⟨v,z⟩:=I.cell x c e
  exact⟨v,cellK x c e v z⟩
 ·obtain⟨m,⟨o,_,_,ho,_⟩,_⟩:=I.loc
  exact free _ o (fun z=>(hch _ z).2.1 rfl) ho I.free
 ·obtain⟨v,o,ho,hd⟩:=I.cell x c e
  exact free c o (fun z=>(hch c z).2.2.1 x c e rfl) ho (I.freeC x c e)
 ·obtain⟨e,n,ne,nf,d⟩:=I.pin p hp
  have nch:p.1∉ch:=fun z=>(hch p.1 z).2.2.2 p hp rfl
  exact⟨keep p.1 p.2 ne nf nch e n,free p.1 p.2 nch e n,ne,nf,d⟩
theorem Inv.un {t':Nat}(I:Inv X pins σ H s)(u:Un X.fs [] H H' s.heap h')(hok:HOk X.prog X.w H' h'):Inv X pins σ H' { s with heap:=h',toks:=t' }:=by
 obtain⟨m,⟨o,es,ep,ho,r⟩,_⟩:=id I.loc
 obtain⟨sl,hL⟩:=u.any ho I.free (by simp)
 exact I.step (g':=s.gens) (d':=s.drawn) (ch:=[]) (fun _ z=>nomatch z) (fun b o _ hb _ e n=>u.keep b o e n hb (by simp)) (fun b o _ hb _ e n=>u.slot b o e n hb (by simp)) (fun b o _ e n=>u.free b o e n (by simp)) (fun b o _ e=>u.there b o e (by simp)) u.tups u.frzs u.tbls (fun m' hm=>by
  obtain⟨o',es',ep',ho',r'⟩:=hm
  rw[ho] at ho';cases ho'
  exact⟨_,es',ep',hL,r'⟩) hok I.bare
theorem Inv.call {g':Array GenState}{t':Nat}{d':Drawn}{ch:List Addr}(I:Inv X pins σ H s)(u:Un (frs X.stack) ch H H' s.heap h')(hok:HOk X.prog X.w H' h')(hg:AllBare g')
  (hch:∀ b∈ch,(b∈X.ex∨X.s₀.heap.objs.size≤b)∧b≠X.env.locals∧(∀ x c,X.env.cells.lookup x=some c→c≠b)∧∀ p∈X.pn++pins,p.1≠b) :
  Inv X pins σ H' { s with heap:=h',gens:=g',drawn:=d',toks:=t' }:=by
 obtain⟨m,⟨o,es,ep,ho,r⟩,_⟩:=id I.loc
 obtain⟨sl,hL⟩:=u.any ho I.free fun z=>(hch _ z).2.1 rfl
 exact I.step (ch:=ch) hch (fun b o hL hb hc e n=>u.keep b o e n (fun z=>(List.mem_cons.mp (I.stkSub b z)).elim hL hb) hc) (fun b o _ _ hc e n=>u.any e n hc) (fun b o hc e n=>u.free b o e n hc) (fun b o hc e=>u.there b o e hc) u.tups u.frzs u.tbls (fun m' hm=>by
  obtain⟨o',es',ep',ho',r'⟩:=hm
  rw[ho] at ho';cases ho'
  exact⟨_,es',ep',hL,r'⟩) hok hg
theorem Inv.turned {t':Nat}{it:Addr}(I:Inv X pins σ H s)(k:∀ b o,b≠it→s.heap.get? b=some o→h'.get? b=some o)(hn:H it=none)(hL:it≠X.env.locals)
  (h1:it∈X.ex∨X.s₀.heap.objs.size≤it) (h2:∀ x c,X.env.cells.lookup x=some c→c≠it) (h3:∀ p∈X.pn++pins,p.1≠it):Inv X pins σ H { s with heap:=h',toks:=t' }:=by
 have nit:∀ b u,H b=some u→b≠it:=fun b u e z=>by rw[z,hn] at e;cases e
 refine I.step (g':=s.gens) (d':=s.drawn) (ch:=[it]) (fun b hb=>?_) (fun b o _ _ hc e _=>k b o (fun z=>hc (by simp[z])) e) (fun b o _ _ hc e _=>⟨o.slots,k b o (fun z=>hc (by simp[z])) e⟩) (fun _ _ _ _ n=>n)
  (fun b o hc e=>⟨o,k b o (fun z=>hc (by simp[z])) e⟩) (fun _ _ e=>e) (fun _ _ _ e=>e) (fun b ps e=>⟨#[],by rw[e];simp⟩) (fun m hm=>?_) (fun b u e=>?_) I.bare
 ·have e:b=it:=by simpa using hb
  subst e
  exact⟨h1,hL,h2,h3⟩
 ·obtain⟨o,es,ep,ho,r⟩:=hm
  exact⟨o,es,ep,k _ o (Ne.symm hL) ho,r⟩
 ·refine (I.hok b u e).stay (fun c v hc q=>k c v ?_ q) (fun _ q=>q) fun _ _ q=>q
  rcases hc with z | z
  ·rw[z];exact nit b u e
  ·exact nit c _ z
theorem Inv.tok (I:Inv X pins σ H s)(t:Nat):Inv X pins σ H { s with toks:=t }:=I.un (h':=s.heap) (t':=t) Un.refl I.hok
theorem Inv.kept {t':Nat}(I:Inv X pins σ H s)(k:∀ b u,s.heap.get? b=some u→h'.get? b=some u):Inv X pins σ H { s with heap:=h',toks:=t' }:=I.un (Un.kept k) (I.hok.kept k)
theorem Inv.laid {a:Addr}{o:HO}{t':Nat}(I:Inv X pins σ H s)(k:∀ b u,s.heap.get? b=some u→h'.get? b=some u)(hp:s.heap.objs.size≤a)(new:ObjOk X.prog X.w (upd H a o) h' a o) :
  Inv X pins σ (upd H a o) { s with heap:=h',toks:=t' }:=I.un (Un.laid k hp (I.hok.fresh hp)) (I.hok.laid k hp new)
theorem Inv.write {x e:Addr}{o:HO}{t':Nat}(I:Inv X pins σ H s)(mu:Mut (H x))(he:e=x∨H e=some (.own x))(k:∀ b u,b≠e→s.heap.get? b=some u→h'.get? b=some u)(heo:∃ u,h'.get? e=some u)
  (new:ObjOk X.prog X.w (upd H x o) h' x o):Inv X pins σ (upd H x o) { s with heap:=h',toks:=t' }:=I.un (Un.write mu he k heo) (I.hok.write mu he k heo new)
theorem Inv.pins_of {pins':List (Addr×Obj)}(I:Inv X pins σ H s)(h:∀ p∈pins',s.heap.get? p.1=some p.2∧H p.1=none∧p.1≠X.env.locals∧p.1∉X.fs∧∀ v,p.2.data≠.cell v):Inv X pins' σ H s :=
 ⟨I.ok,I.os,I.bare,I.base,I.loc,I.cell,I.free,I.freeC,fun p hp=>(List.mem_append.mp hp).elim (fun z=>I.pin p (List.mem_append_left _ z)) (h p),I.hok,I.len⟩
theorem nodup_ix {N:List Str}(hN:N.Nodup){i j:Nat}{x:Str}(a:N[i]?=some x)(b:N[j]?=some x):i=j:=by
 obtain⟨h1,e1⟩:=List.getElem?_eq_some_iff.mp a
 obtain⟨h2,e2⟩:=List.getElem?_eq_some_iff.mp b
 exact (List.getElem_inj hN).mp (e1.trans e2.symm)
theorem store_ok2 {M:Model}{A:Around}{E:Value→Shared→Prop}{i:Nat}{x:Str}{v:V}{u:Value}{Q:Unit→Shared→Prop}(I:Inv X pins σ H s)(hN:X.N.Nodup)(hi:X.N[i]?=some x)(hx:Loc X.env.scope x)(r:RelV v u)
  (h:∀ s',Inv X pins (σ.set i (some v)) H s'→(∃ a,Heap.SameBut a s.heap s'.heap∧(a=X.env.locals∨X.env.cells.lookup x=some a))→Q () s') (hf:X.fn x=true∨X.env.scope.names.lookup x=some .local:=by first | exact .inl rfl | exact .inr rfl | assumption):wpAny M A (storeName X.env x u) Q E s:=by
 obtain⟨m,hn,hl⟩:=id I.loc
 have hcls:(X.env.scope.kind == .class || (X.env.scope.kind == .module && X.env.locals != X.env.globals))=false:=by rw[I.ok.kind];rfl
 have hiσ:i<σ.length:=by rw[I.len];exact (List.getElem?_eq_some_iff.mp hi).1
 have cne:=I.cne
 have tracked:∀ {a:Addr}{h':Heap},(∃ o,s.heap.get? a=some o∧H a=none)→Heap.SameBut a s.heap h'→HOk X.prog X.w H h':=fun {a h'} ha hs b ob e=>by
  obtain⟨_,_,hfree⟩:=ha
  refine (I.hok b ob e).stay (fun c w' hc q=>(hs.2 c ?_).trans q) (fun _ q=>q) fun _ _ q=>q
  rintro rfl
  rcases hc with rfl | hc
  ·rw[hfree] at e;cases e
  ·rw[hfree] at hc;cases hc
 rcases hx with hk | hk
 ·refine wpAny_storeName_local hk hn (fun h' hn' hs=>?_) hcls
  obtain⟨oL,_,_,hoL,_⟩:=id hn
  refine h _ ⟨I.ok,I.os,I.bare,⟨fun b o e n hb hx=>?_,fun b o e n hb hx=>?_,I.base.free,fun b o e hx=>?_,I.base.tups,I.base.frzs,I.base.tbls⟩,⟨_,hn',fun j y v' e1 e2 e3=>?_⟩,fun y c e=>?_,I.free,I.freeC,fun p hp=>?_,tracked ⟨oL,hoL,I.free⟩ hs,by simpa using I.len⟩ ⟨_,hs,.inl rfl⟩
  ·exact (hs.2 b (Nat.ne_of_lt (Nat.lt_of_lt_of_le (Heap.lt_size e) I.ok.above))).trans (I.base.keep b o e n hb hx)
  ·obtain⟨sl,e1⟩:=I.base.slot b o e n hb hx
   exact⟨sl,(hs.2 b (Nat.ne_of_lt (Nat.lt_of_lt_of_le (Heap.lt_size e) I.ok.above))).trans e1⟩
  ·obtain⟨o',e1⟩:=I.base.there b o e hx
   exact⟨o',(hs.2 b (Nat.ne_of_lt (Nat.lt_of_lt_of_le (Heap.lt_size e) I.ok.above))).trans e1⟩
  ·by_cases hj:j=i
   ·subst hj
    rw[hi] at e1;cases e1
    rw[List.getElem?_set_self hiσ] at e2
    cases e2
    exact⟨u,r,.inl ⟨hk,by simp⟩⟩
   ·rw[List.getElem?_set_ne (Ne.symm hj)] at e2
    obtain⟨u',r',q⟩:=hl j y v' e1 e2 e3
    refine⟨u',r',?_⟩
    rcases q with⟨k,e⟩ | ⟨k,c,e,z⟩
    ·refine .inl ⟨k,?_⟩
     have:y≠x:=fun e=>hj (nodup_ix hN e1 (e ▸ hi))
     simp[this,e]
    ·exact .inr ⟨k,c,e,z.sameBut hs (cne y c e)⟩
  ·obtain⟨w',z⟩:=I.cell y c e
   exact⟨w',z.sameBut hs (cne y c e)⟩
  ·obtain⟨e,n,ne,nf,d⟩:=I.pin p hp
   exact⟨(hs.2 p.1 ne).trans e,n,ne,nf,d⟩
 ·have hfn:X.fn x=true:=by
   rcases hf with z | z
   ·exact z
   ·rw[z] at hk;cases hk
  obtain⟨c,hc⟩:=I.ok.has x (.inl hk)
  obtain⟨w',z⟩:=I.cell x c hc
  refine wpAny_storeName_cell I.ok.kind hk hc z (fun h' hc' hs=>?_)
  obtain⟨oc,hoc,hocd⟩:=id z
  refine h { s with heap:=h' } ⟨I.ok,I.os,I.bare,⟨fun b o e n hb hx=>?_,fun b o e n hb hx=>?_,I.base.free,fun b o e hx=>?_,I.base.tups,I.base.frzs,I.base.tbls⟩,⟨m,hn.sameBut hs (Ne.symm (cne x c hc)),fun j y v' e1 e2 e3=>?_⟩,fun y c' e=>?_,I.free,I.freeC,fun p hp=>?_,tracked ⟨oc,hoc,I.freeC x c hc⟩ hs,by simpa using I.len⟩ ⟨c,hs,.inr hc⟩
  ·exact (hs.2 b (Nat.ne_of_lt (Nat.lt_of_lt_of_le (Heap.lt_size e) (I.ok.cab x c hfn hc)))).trans (I.base.keep b o e n hb hx)
  ·obtain⟨sl,e1⟩:=I.base.slot b o e n hb hx
   exact⟨sl,(hs.2 b (Nat.ne_of_lt (Nat.lt_of_lt_of_le (Heap.lt_size e) (I.ok.cab x c hfn hc)))).trans e1⟩
  ·obtain⟨o',e1⟩:=I.base.there b o e hx
   exact⟨o',(hs.2 b (Nat.ne_of_lt (Nat.lt_of_lt_of_le (Heap.lt_size e) (I.ok.cab x c hfn hc)))).trans e1⟩
  ·by_cases hj:j=i
   ·subst hj
    rw[hi] at e1;cases e1
    rw[List.getElem?_set_self hiσ] at e2
    cases e2
    exact⟨u,r,.inr ⟨.inl hk,c,hc,hc'⟩⟩
   ·rw[List.getElem?_set_ne (Ne.symm hj)] at e2
    obtain⟨u',r',q⟩:=hl j y v' e1 e2 e3
    refine⟨u',r',?_⟩
    rcases q with q | ⟨k,c',e,z'⟩
    ·exact .inl q
    ·refine .inr ⟨k,c',e,z'.sameBut hs ?_⟩
     rintro rfl
     exact hj (nodup_ix hN e1 (I.ok.inj _ _ _ e hc ▸ hi))
  ·by_cases hcc:c'=c
   ·subst hcc;exact⟨_,hc'⟩
   ·obtain⟨w2,z2⟩:=I.cell y c' e
    exact⟨w2,z2.sameBut hs hcc⟩
  ·obtain⟨e,n,ne,nf,d⟩:=I.pin p hp
   refine⟨(hs.2 p.1 ?_).trans e,n,ne,nf,d⟩
   intro q
   rw[q,hoc] at e
   have q':oc=p.2:=Option.some.inj e
   exact d w' (by rw[← q'];exact hocd)
theorem store_ok {M:Model}{A:Around}{E:Value→Shared→Prop}{i:Nat}{x:Str}{v:V}{u:Value}{Q:Unit→Shared→Prop}(I:Inv X pins σ H s)(hN:X.N.Nodup)(hi:X.N[i]?=some x)(hx:Loc X.env.scope x)(r:RelV v u)
  (h:∀ s',Inv X pins (σ.set i (some v)) H s'→Q () s') (hf:X.fn x=true∨X.env.scope.names.lookup x=some .local:=by first | exact .inl rfl | exact .inr rfl | assumption):wpAny M A (storeName X.env x u) Q E s :=
 store_ok2 I hN hi hx r (fun s' I' _=>h s' I') hf
theorem Inv.call' {s':Shared}{ch:List Addr}(I:Inv X pins σ H s)(ho:s'.os=s.os)(u:Un (frs X.stack) ch H H' s.heap s'.heap)(hok:HOk X.prog X.w H' s'.heap)(hg:AllBare s'.gens)
  (hch:∀ b∈ch,(b∈X.ex∨X.s₀.heap.objs.size≤b)∧b≠X.env.locals∧(∀ x c,X.env.cells.lookup x=some c→c≠b)∧∀ p∈X.pn++pins,p.1≠b):Inv X pins σ H' s':=by
 obtain⟨h',g',d',t',o'⟩:=s'
 have e:o'=s.os:=ho
 subst e
 exact I.call (g':=g') (t':=t') (d':=d') u hok hg hch
end
abbrev XK:=Value→Option Addr→Hp→Prop
abbrev St:=List (Option V)
abbrev VK:=V→Hp→Prop
abbrev TE:=St→Hp→VK→Prop
abbrev TT:=St→Hp→(Bool→Hp→Prop)→Prop
abbrev TA:=St→Hp→(List V→Hp→Prop)→Prop
structure Ends where
 nx:St→Hp→Prop
 rt:VK
 bk:St→Hp→Prop:=fun _ _=>False
 ct:St→Hp→Prop:=fun _ _=>False
abbrev TS:=Ends→St→Hp→Prop
def EP (X:Cx)(pins:List (Addr×Obj))(σ:St)(Q:VK)(u:Value)(s':Shared):Prop:=∃ v H',Inv X pins σ H' s'∧RelV v u∧Q v H'
def TP (X:Cx)(pins:List (Addr×Obj))(σ:St)(Q:Bool→Hp→Prop)(b:Bool)(s':Shared):Prop:=∃ H',Inv X pins σ H' s'∧Q b H'
def AP (X:Cx)(pins:List (Addr×Obj))(σ:St)(Q:List V→Hp→Prop)(us:List Value)(s':Shared):Prop:=∃ vs H',Inv X pins σ H' s'∧Vals vs us∧Q vs H'
def SP (X:Cx)(pins:List (Addr×Obj))(D:Ends)(f:Flow)(s':Shared):Prop :=
 match f with
 | .next=>∃ σ' H',Inv X pins σ' H' s'∧D.nx σ' H'
 | .brk=>∃ σ' H',Inv X pins σ' H' s'∧D.bk σ' H'
 | .cont=>∃ σ' H',Inv X pins σ' H' s'∧D.ct σ' H'
 | .ret u=>∃ v σ' H',Inv X pins σ' H' s'∧RelV v u∧D.rt v H'
def PE (X:Cx)(e:Expr)(t:TE):Prop :=
 ∀ (pins:List (Addr×Obj)) (s:Shared) (σ:St) (H:Hp) (Q:VK),Inv X pins σ H s→t σ H Q→wpAny (model X.prog X.w) X.A (eval e X.env) (EP X pins σ Q) X.xe s
def PT (X:Cx)(e:Expr)(t:TT):Prop :=
 ∀ (pins:List (Addr×Obj)) (s:Shared) (σ:St) (H:Hp) (Q:Bool→Hp→Prop),Inv X pins σ H s→t σ H Q→wpAny (model X.prog X.w) X.A (isTrue e X.env (eval e X.env)) (TP X pins σ Q) X.xe s
def PW (X:Cx)(e:Expr)(t:TT):Prop :=
 ∀ (whole:Sem Value) (pins:List (Addr×Obj)) (s:Shared) (σ:St) (H:Hp) (Q:Bool→Hp→Prop),Inv X pins σ H s→t σ H Q→wpAny (model X.prog X.w) X.A (isTrue e X.env whole) (TP X pins σ Q) X.xe s
theorem PW.pt {X:Cx}{e:Expr}{t:TT}(h:PW X e t):PT X e t:=h _
def PA (X:Cx)(es:List Expr)(t:TA):Prop :=
 ∀ (pos:Pos) (pins:List (Addr×Obj)) (s:Shared) (σ:St) (H:Hp) (Q:List V→Hp→Prop),Inv X pins σ H s→t σ H Q→wpAny (model X.prog X.w) X.A (spliced (backTo pos (starEach es X.env))) (AP X pins σ Q) X.xe s
def PS (X:Cx)(st:Stmt)(t:TS):Prop :=
 ∀ (pins:List (Addr×Obj)) (s:Shared) (σ:St) (H:Hp) (D:Ends),Inv X pins σ H s→t D σ H→wpAny (model X.prog X.w) X.A (exec st X.env) (SP X pins D) X.xe s
def PSs (X:Cx)(st:List Stmt)(t:TS):Prop :=
 ∀ (pins:List (Addr×Obj)) (s:Shared) (σ:St) (H:Hp) (D:Ends),Inv X pins σ H s→t D σ H→wpAny (model X.prog X.w) X.A (execs st X.env) (SP X pins D) X.xe s
theorem thn {α:Type}{t:Sem α}{Q Q':α→Shared→Prop}{M:Model}{A:Around}{E:Value→Shared→Prop}{s:Shared}(h:wpAny M A t Q E s)(hQ:∀ a s,Q a s→Q' a s):wpAny M A t Q' E s:=wpAny_mono h hQ fun _ _ x=>x
end L2
namespace L2
open PySem PySem.Spec PyProof.Rows
section
variable {X:Cx}
def tVar (i:Nat):TE:=fun σ H Q=>∃ v,σ[i]?=some (some v)∧Q v H
def tC (v:V):TE:=fun _ H Q=>Q v H
theorem pe_var {i:Nat}{x:Str}{pos:Pos}(hN:X.N[i]?=some x)(hv:Vis X.env.scope x)(hd:(x == ("__debug__":Str))=false:=by decide)(hcd:(x == ("__classdict__":Str))=false:=by decide):PE X (.Name x pos) (tVar i):=by
 intro pins s σ H Q I h
 obtain⟨v,e,h⟩:=h
 obtain⟨m,hn,hl⟩:=I.loc
 obtain⟨u,r,l⟩:=hl i x v hN e hv
 have fin:EP X pins σ Q u s:=⟨v,H,I,r,h⟩
 rcases l with⟨hk,hm⟩ | ⟨hk,c,hc,hcell⟩
 ·exact wpAny_Name (wpAny_loadName_local I.ok.kind hk hn hm fin) hd
 ·rcases hk with hk | hk
  ·exact wpAny_Name (wpAny_loadName_cell I.ok.kind hk hc hcell fin) hd
  ·exact wpAny_Name (wpAny_loadName_free I.ok.kind hk hc hcell fin hcd) hd
theorem pe_int {i j pos}:PE X (.Constant (.int i) j pos) (tC (.int i)):=fun _ _ _ H _ I h=>wpAny_Constant_int ⟨.int i,H,I.tok _,⟨_,rfl⟩,h⟩
theorem pe_bl {b j pos}:PE X (.Constant (.bool b) j pos) (tC (.bl b)):=fun _ _ _ H _ I h=>Constant_bool ⟨.bl b,H,I,rfl,h⟩
theorem pe_non {j pos}:PE X (.Constant .none j pos) (tC .non):=fun _ _ _ H _ I h=>Constant_none ⟨.non,H,I,rfl,h⟩
theorem pe_str {x j pos}:PE X (.Constant (.str x) j pos) (tC (.str x)):=fun _ _ _ H _ I h=>Calls.Constant_str ⟨.str x,H,I.tok _,⟨_,rfl⟩,h⟩
def Gl (X:Cx)(x:Str):Prop:=X.env.kindOf x=some .globalImplicit
theorem ld_glob {E:Value→Shared→Prop}{pins:List (Addr×Obj)}{s:Shared}{σ:St}{H:Hp}{x:Str}{u:Value}{pos:Pos}{Q:Value→Shared→Prop}(I:Inv X pins σ H s)(hg:Gl X x)(hm:X.mg x=some u)(h:Q u s)
  (hd:(x == ("__debug__":Str))=false:=by decide):wpAny (model X.prog X.w) X.A (eval (.Name x pos) X.env) Q E s :=
 Calls.Name_function_global I.ok.kind hg (Calls.loadGlobal_global (by rw[I.ok.glob];exact I.mod.glob.keeps I.bk) hm h) hd
theorem ld_blt {E:Value→Shared→Prop}{pins:List (Addr×Obj)}{s:Shared}{σ:St}{H:Hp}{x:Str}{u:Value}{pos:Pos}{Q:Value→Shared→Prop}(I:Inv X pins σ H s)(hg:Gl X x)(hm:X.mg x=none)(hv:bootBuiltins x=some u)(h:Q u s)
  (hn:x≠"__name__":=by decide) (hd:(x == ("__debug__":Str))=false:=by decide):wpAny (model X.prog X.w) X.A (eval (.Name x pos) X.env) Q E s:=by
 obtain⟨mb,h1,h2⟩:=I.mod.blt
 exact Calls.Name_function_global I.ok.kind hg (Calls.loadGlobal_builtin (by rw[I.ok.glob];exact I.mod.glob.keeps I.bk) hm (by rw[I.ok.blt];exact h1.keeps I.bk) ((h2 x hn).trans hv) h) hd
theorem pe_glob {x:Str}{v:V}{u:Value}{pos:Pos}(hg:Gl X x)(hm:X.mg x=some u)(r:RelV v u)(hd:(x == ("__debug__":Str))=false:=by decide):PE X (.Name x pos) (tC v) :=
 fun _ _ _ H _ I h=>ld_glob I hg hm ⟨v,H,I,r,h⟩ hd
theorem pe_bltn {x:Str}{v:V}{u:Value}{pos:Pos}(hg:Gl X x)(hm:X.mg x=none)(hv:bootBuiltins x=some u)(r:RelV v u)(hn:x≠"__name__":=by decide)(hd:(x == ("__debug__":Str))=false:=by decide):PE X (.Name x pos) (tC v) :=
 fun _ _ _ H _ I h=>ld_blt I hg hm hv ⟨v,H,I,r,h⟩ hn hd
variable {a b:Expr}{ta tb:TE}{pos:Pos}
def tB (t:TE):TT:=fun σ H Q=>t σ H fun x H1=>∃ c,x=.bl c∧Q c H1
theorem pt_val {e:Expr}{t:TE}(h:PE X e t)(he:∀ whole,isTrue e X.env whole=(do let v ← whole;standAt e.pos;holding [v] (truthy v)):=by intro _;rfl):PT X e (tB t):=by
 intro pins s σ H Q I hw
 refine isTrue_plain (thn (h pins s σ H _ I hw) fun v s1 ⟨x,H1,I1,r1,q1⟩=>?_) (he _)
 obtain⟨d,rfl,q⟩:=q1
 cases r1
 exact wpAny_truthy_bool ⟨H1,I1,q⟩
variable {tA tB':TT}{rest:List Expr}
def tAnd (t u:TT):TT:=fun σ H Q=>t σ H fun c H1=>if c=true then u σ H1 Q else Q false H1
def tOr (t u:TT):TT:=fun σ H Q=>t σ H fun c H1=>if c=true then Q true H1 else u σ H1 Q
def tNot (t:TT):TT:=fun σ H Q=>t σ H fun c H1=>Q (!c) H1
theorem pw_and1 (ha:PT X a tA):PW X (.BoolOp .And [a] pos) tA:=by
 intro wh pins s σ H Q I h
 refine isTrue_and (thn (ha pins s σ H Q I h) fun c s1 e=>?_)
 cases c with
 | true=>exact isTrue_and_nil e
 | false=>exact e
theorem pw_or1 (ha:PT X a tA):PW X (.BoolOp .Or [a] pos) tA:=by
 intro wh pins s σ H Q I h
 refine isTrue_or (thn (ha pins s σ H Q I h) fun c s1 e=>?_)
 cases c with
 | false=>exact isTrue_or_nil e
 | true=>exact e
theorem pw_and (ha:PT X a tA)(hb:PW X (.BoolOp .And (b::rest) pos) tB'):PW X (.BoolOp .And (a::b::rest) pos) (tAnd tA tB'):=by
 intro wh pins s σ H Q I h
 refine isTrue_and (thn (ha pins s σ H _ I h) fun c s1 ⟨H1,I1,q1⟩=>?_)
 cases c with
 | true=>exact hb wh pins s1 σ H1 Q I1 q1
 | false=>exact⟨H1,I1,q1⟩
theorem pw_or (ha:PT X a tA)(hb:PW X (.BoolOp .Or (b::rest) pos) tB'):PW X (.BoolOp .Or (a::b::rest) pos) (tOr tA tB'):=by
 intro wh pins s σ H Q I h
 refine isTrue_or (thn (ha pins s σ H _ I h) fun c s1 ⟨H1,I1,q1⟩=>?_)
 cases c with
 | true=>exact⟨H1,I1,q1⟩
 | false=>exact hb wh pins s1 σ H1 Q I1 q1
theorem pt_not (ha:PT X a tA):PT X (.UnaryOp .Not a pos) (tNot tA):=by
 intro pins s σ H Q I h
 exact isTrue_not (ha pins s σ H (fun c H1=>Q (!c) H1) I h)
def tAndV (ta tb:TE):TE:=fun σ H Q=>ta σ H fun x H1=>∃ c,x=.bl c∧if c=true then tb σ H1 Q else Q (.bl false) H1
def tOrV (ta tb:TE):TE:=fun σ H Q=>ta σ H fun x H1=>∃ c,x=.bl c∧if c=true then Q (.bl true) H1 else tb σ H1 Q
def tNotV (ta:TE):TE:=fun σ H Q=>ta σ H fun x H1=>∃ c,x=.bl c∧Q (.bl (!c)) H1
theorem pe_one {op}{t:TE}(h:PE X a t):PE X (.BoolOp op [a] pos) t:=fun pins s σ H Q I hw=>BoolOp_one (h pins s σ H Q I hw)
theorem pe_and (ha:PE X a ta)(hb:PE X (.BoolOp .And (b::rest) pos) tb):PE X (.BoolOp .And (a::b::rest) pos) (tAndV ta tb):=by
 intro pins s σ H Q I h
 refine BoolOp_and (thn (ha pins s σ H _ I h) fun v s1 ⟨x,H1,I1,r1,q1⟩=>?_)
 obtain⟨c,rfl,q1⟩:=q1
 cases r1
 refine wpAny_truthy_bool ?_
 cases c with
 | true=>exact hb pins s1 σ H1 Q I1 q1
 | false=>exact⟨.bl false,H1,I1,rfl,q1⟩
theorem pe_or (ha:PE X a ta)(hb:PE X (.BoolOp .Or (b::rest) pos) tb):PE X (.BoolOp .Or (a::b::rest) pos) (tOrV ta tb):=by
 intro pins s σ H Q I h
 refine BoolOp_or (thn (ha pins s σ H _ I h) fun v s1 ⟨x,H1,I1,r1,q1⟩=>?_)
 obtain⟨c,rfl,q1⟩:=q1
 cases r1
 refine wpAny_truthy_bool ?_
 cases c with
 | false=>exact hb pins s1 σ H1 Q I1 q1
 | true=>exact⟨.bl true,H1,I1,rfl,q1⟩
theorem pe_not (ha:PE X a ta):PE X (.UnaryOp .Not a pos) (tNotV ta):=by
 intro pins s σ H Q I h
 refine UnaryOp_ (thn (ha pins s σ H _ I h) fun v s1 ⟨x,H1,I1,r1,q1⟩=>?_)
 obtain⟨c,rfl,q1⟩:=q1
 cases r1
 exact not_of (wpAny_truthy_bool ⟨.bl (!c),H1,I1,rfl,q1⟩)
def tIf (t:TT)(ta tb:TE):TE:=fun σ H Q=>t σ H fun c H1=>if c=true then ta σ H1 Q else tb σ H1 Q
theorem pe_ifExp {c:Expr}(hc:PT X c tA)(ha:PE X a ta)(hb:PE X b tb):PE X (.IfExp c a b pos) (tIf tA ta tb):=by
 intro pins s σ H Q I h
 refine wpAny_IfExp (thn (hc pins s σ H _ I h) fun d s1 ⟨H1,I1,q1⟩=>?_)
 cases d with
 | true=>exact ha pins s1 σ H1 Q I1 q1
 | false=>exact hb pins s1 σ H1 Q I1 q1
end
end L2
namespace L2
open PySem PySem.Spec PyProof.Rows
def SqL (K:PySem.W.Frag)(H:Hp)(a:Addr)(xs:List V):Prop :=
 Rd H a (.lst xs) ∨
  ∃ (o:Obj) (its:Array Value) (n:Nat),K.lookup a=some o∧o.cls=.type "list"∧o.dict=none∧o.data=.seq its n∧its.size≤sizeLine∧Vals xs its.toList
def SqT (K:PySem.W.Frag)(H:Hp)(a:Addr)(xs:List V):Prop :=
 Rd H a (.tup xs) ∨
  ∃ (o:Obj) (its:Array Value) (n:Nat),K.lookup a=some o∧o.cls=.type "tuple"∧o.data=.seq its n∧its.size≤sizeLine∧Vals xs its.toList
def absV:Value→Option V
 | .none=>some .non
 | .bool b=>some (.bl b)
 | .int i _=>some (.int i)
 | .str x _=>some (.str x)
 | .bytes b _=>some (.byt b)
 | .float b _=>some (.flt b)
 | .ref a=>some (.ref a)
 | .type n=>some (.ty n)
 | _=>none
theorem RelV.abs {x:V}{u:Value}(r:RelV x u):absV u=some x:=by
 cases x with
 | non=>cases r;rfl
 | bl _=>cases r;rfl
 | int _=>obtain⟨t,rfl⟩:=r;rfl
 | str _=>obtain⟨t,rfl⟩:=r;rfl
 | byt _=>obtain⟨t,rfl⟩:=r;rfl
 | flt _=>obtain⟨t,rfl⟩:=r;rfl
 | ref _=>cases r;rfl
 | ty _=>cases r;rfl
theorem RelV.inj {x y:V}{u:Value}(r:RelV x u)(q:RelV y u):x=y:=Option.some.inj (r.abs.symm.trans q.abs)
theorem Vals.inj:∀ {xs ys:List V}{us:List Value},Vals xs us→Vals ys us→xs=ys
 | _,_,_,.nil,.nil=>rfl
 | _,_,_,.cons r t,.cons r' t'=>by rw[r.inj r',Vals.inj t t']
section
variable {X:Cx}{pins:List (Addr×Obj)}{σ:St}{H:Hp}{s:Shared}{a:Addr}{xs ys:List V}
theorem SqL.of {K:PySem.W.Frag}(h:H a=some (.lst xs)):SqL K H a xs:=.inl (.inl h)
theorem SqT.of {K:PySem.W.Frag}(h:H a=some (.tup xs)):SqT K H a xs:=.inl (.inl h)
theorem Inv.list (I:Inv X pins σ H s)(h:SqL X.K H a xs):∃ its:List Value,Vals xs its∧PlainL s.heap a its.toArray∧xs.length≤sizeLine:=by
 rcases h with h | ⟨o,its,n,hk,hc,hd,hs,hz,r⟩
 ·obtain⟨z,its,n,r,e⟩:=h.ok I.hok
  exact⟨its,r,⟨_,n,e,rfl,rfl,rfl⟩,z⟩
 ·refine⟨its.toList,r,⟨o,n,I.kIn a o hk,hc,hd,by simpa using hs⟩,?_⟩
  have e:=r.length
  simp only[Array.length_toList] at e
  omega
theorem Inv.tuple (I:Inv X pins σ H s)(h:SqT X.K H a xs):∃ its:List Value,Vals xs its∧IsTup s.heap a its.toArray∧xs.length≤sizeLine:=by
 rcases h with h | ⟨o,its,n,hk,hc,hs,hz,r⟩
 ·obtain⟨z,its,r,p⟩:=h.ok I.hok
  exact⟨its,r,p,z⟩
 ·refine⟨its.toList,r,⟨o,I.kIn a o hk,hc,n,by simpa using hs⟩,?_⟩
  have e:=r.length
  simp only[Array.length_toList] at e
  omega
theorem Inv.list_inj (I:Inv X pins σ H s)(h:SqL X.K H a xs)(h':SqL X.K H a ys):xs=ys:=by
 obtain⟨its,r,⟨o,n,e,_,_,d⟩,_⟩:=I.list h
 obtain⟨its',r',⟨o',n',e',_,_,d'⟩,_⟩:=I.list h'
 rw[e] at e';cases e'
 rw[d] at d'
 injection d' with d1 _
 have:its=its':=by simpa using congrArg Array.toList d1
 subst this
 exact r.inj r'
end
abbrev Cx.wish (X:Cx)(E:Value→Shared→Prop):Cx:={ X with xe:=E }
abbrev Cx.nox (X:Cx):Cx:=X.wish fun _ _=>False
theorem Cx.Ok.wish {X:Cx}(ok:X.Ok)(E:Value→Shared→Prop):(X.wish E).Ok :=
 ⟨ok.mod,ok.kind,ok.glob,ok.blt,ok.above,ok.inj,ok.has,ok.cab,ok.hd,ok.frames,ok.stk,ok.exf,ok.bs,ok.bsz,ok.noex,ok.exfs,ok.funs,ok.frf⟩
theorem Cx.Ok.unwish {X:Cx}{E:Value→Shared→Prop}(ok:(X.wish E).Ok):X.Ok :=
 ⟨ok.mod,ok.kind,ok.glob,ok.blt,ok.above,ok.inj,ok.has,ok.cab,ok.hd,ok.frames,ok.stk,ok.exf,ok.bs,ok.bsz,ok.noex,ok.exfs,ok.funs,ok.frf⟩
section
variable {X:Cx}{pins:List (Addr×Obj)}{σ:St}{H:Hp}{s:Shared}{E:Value→Shared→Prop}
theorem Inv.wish (I:Inv X pins σ H s)(E:Value→Shared→Prop):Inv (X.wish E) pins σ H s:=⟨I.ok.wish E,I.os,I.bare,I.base,I.loc,I.cell,I.free,I.freeC,I.pin,I.hok,I.len⟩
theorem Inv.unwish (I:Inv (X.wish E) pins σ H s):Inv X pins σ H s:=⟨I.ok.unwish,I.os,I.bare,I.base,I.loc,I.cell,I.free,I.freeC,I.pin,I.hok,I.len⟩
theorem SP.unwish {D:Ends}{f:Flow}{s':Shared}(h:SP (X.wish E) pins D f s'):SP X pins D f s':=by
 cases f with
 | next=>obtain⟨σ',H',I,q⟩:=h;exact⟨σ',H',I.unwish,q⟩
 | brk=>obtain⟨σ',H',I,q⟩:=h;exact⟨σ',H',I.unwish,q⟩
 | cont=>obtain⟨σ',H',I,q⟩:=h;exact⟨σ',H',I.unwish,q⟩
 | ret u=>obtain⟨v,σ',H',I,r,q⟩:=h;exact⟨v,σ',H',I.unwish,r,q⟩
theorem PE.nox {e:Expr}{t:TE}(h:PE X.nox e t):PE X e t:=fun pins s σ H Q I hw =>
 wpAny_mono (h pins s σ H Q (I.wish _) hw) (fun _ _ ⟨v,H',I',r,q⟩=>⟨v,H',I'.unwish,r,q⟩) fun _ _ z=>False.elim z
theorem PT.nox {e:Expr}{t:TT}(h:PT X.nox e t):PT X e t:=fun pins s σ H Q I hw =>
 wpAny_mono (h pins s σ H Q (I.wish _) hw) (fun _ _ ⟨H',I',q⟩=>⟨H',I'.unwish,q⟩) fun _ _ z=>False.elim z
theorem PSs.nox {st:List Stmt}{t:TS}(h:PSs X.nox st t):PSs X st t:=fun pins s σ H D I hw =>
 wpAny_mono (h pins s σ H D (I.wish _) hw) (fun _ _ q=>q.unwish) fun _ _ z=>False.elim z
end
section
variable {X:Cx}{st:Stmt}{rest:List Stmt}{t u:TS}{e:Expr}{te:TE}{pos:Pos}
def tNext:TS:=fun D σ H=>D.nx σ H
def tSeq (t u:TS):TS:=fun D σ H=>t { D with nx:=u D } σ H
theorem pss_nil:PSs X [] tNext:=fun _ _ σ H _ I h=>wpAny_execs_nil ⟨σ,H,I,h⟩
theorem pss_cons (h1:PS X st t)(h2:PSs X rest u):PSs X (st::rest) (tSeq t u):=by
 intro pins s σ H D I h
 refine wpAny_execs_cons (thn (h1 pins s σ H { D with nx:=u D } I h) fun f s1 q=>?_)
 cases f with
 | next =>
  obtain⟨σ',H',I',q⟩:=q
  exact h2 pins s1 σ' H' D I' q
 | ret v=>exact q
 | brk=>exact q
 | cont=>exact q
theorem pss_one (h1:PS X st t):PSs X [st] t:=by
 intro pins s σ H D I h
 refine wpAny_execs_cons (thn (h1 pins s σ H D I h) fun f s1 q=>?_)
 cases f with
 | next=>exact wpAny_execs_nil q
 | ret v=>exact q
 | brk=>exact q
 | cont=>exact q
theorem Inv.quiet {pins:List (Addr×Obj)}{σ:St}{H:Hp}{s:Shared}(I:Inv X pins σ H s):interactive X.env=false:=by simp[interactive,I.ok.kind]
def tDrop (te:TE):TS:=fun D σ H=>te σ H fun _ H1=>D.nx σ H1
theorem ps_expr (he:PE X e te)(hs:swapsWith e none pos.line X.env=pure false:=by rfl):PS X (.Expr e pos) (tDrop te):=by
 intro pins s σ H D I h
 exact wpAny_Expr_any (thn (he pins s σ H _ I h) fun v s1 ⟨x,H1,I1,r1,q1⟩=>⟨σ,H1,I1,q1⟩) I.quiet hs
def tRet (te:TE):TS:=fun D σ H=>te σ H D.rt
theorem ps_ret (he:PE X e te):PS X (.Return (some e) pos) (tRet te):=by
 intro pins s σ H D I h
 exact wpAny_Return_some (thn (he pins s σ H _ I h) fun v s1 ⟨x,H1,I1,r1,q1⟩=>⟨x,σ,H1,I1,r1,q1⟩)
def tIfS (c:TT)(t u:TS):TS:=fun D σ H=>c σ H fun b H1=>if b=true then t D σ H1 else u D σ H1
theorem ps_if {c:Expr}{a b:List Stmt}{tc:TT}(hc:PT X c tc)(ha:PSs X a t)(hb:PSs X b u):PS X (.If c a b pos) (tIfS tc t u):=by
 intro pins s σ H D I h
 refine wpAny_If (thn (hc pins s σ H _ I h) fun d s1 ⟨H1,I1,q1⟩=>?_)
 cases d with
 | true=>exact ha pins s1 σ H1 D I1 q1
 | false=>exact hb pins s1 σ H1 D I1 q1
def tNever:TS:=fun _ _ _=>False
theorem pss_never {sts:List Stmt}:PSs X sts tNever:=fun _ _ _ _ _ _ h=>h.elim
end
abbrev TG:=V→St→Hp→(St→Hp→Prop)→Prop
abbrev TGs:=List V→St→Hp→(St→Hp→Prop)→Prop
def PG (X:Cx)(target:Expr)(t:TG):Prop :=
 ∀ (pins:List (Addr×Obj)) (s:Shared) (σ:St) (H:Hp) (v:V) (u:Value) (Q:St→Hp→Prop),Inv X pins σ H s→RelV v u→t v σ H Q →
  wpAny (model X.prog X.w) X.A (assign target X.env u) (fun _ s'=>∃ σ' H',Inv X pins σ' H' s'∧Q σ' H') X.xe s
def PGs (X:Cx)(ts:List Expr)(t:TGs):Prop :=
 ∀ (pins:List (Addr×Obj)) (s:Shared) (σ:St) (H:Hp) (vs:List V) (us:List Value) (Q:St→Hp→Prop),Inv X pins σ H s→Vals vs us→t vs σ H Q →
  wpAny (model X.prog X.w) X.A (assignInOrder ((assignEach ts X.env).map (·.2)) us) (fun _ s'=>∃ σ' H',Inv X pins σ' H' s'∧Q σ' H') X.xe s
abbrev TSet:=V→V→V→Hp→(Hp→Prop)→Prop
def PSet (X:Cx)(t:TSet):Prop :=
 ∀ (pins:List (Addr×Obj)) (s:Shared) (σ:St) (H:Hp) (o i v:V) (ov iv u:Value) (Q:Hp→Prop),Inv X pins σ H s→RelV o ov→RelV i iv→RelV v u→t o i v H Q →
  wpAny (model X.prog X.w) X.A (setItem ov iv u) (fun _ s'=>∃ H',Inv X pins σ H' s'∧Q H') X.xe s
section
variable {X:Cx}{pos:Pos}
def gName (i:Nat):TG:=fun v σ H Q=>Q (σ.set i (some v)) H
theorem pg_name {i:Nat}{x:Str}(hN:X.N.Nodup)(hi:X.N[i]?=some x)(hx:Loc X.env.scope x)(hf:X.fn x=true∨X.env.scope.names.lookup x=some .local:=by first | exact .inl rfl | exact .inr rfl | assumption):PG X (.Name x pos) (gName i):=by
 intro pins s σ H v u Q I r h
 exact wpAny_assign_Name (store_ok I hN hi hx r (fun s' I'=>⟨_,H,I',h⟩) hf)
def gNil:TGs:=fun vs σ H Q=>vs=[]∧Q σ H
def gCons (t:TG)(u:TGs):TGs:=fun vs σ H Q=>∃ v r,vs=v::r∧t v σ H fun σ' H'=>u r σ' H' Q
theorem pgs_nil:PGs X [] gNil:=by
 intro pins s σ H vs us Q I r h
 obtain⟨e,h⟩:=h
 subst e
 cases r
 exact assignInOrder_nil ⟨σ,H,I,h⟩
theorem pgs_cons {e:Expr}{es:List Expr}{t:TG}{u:TGs}(h1:PG X e t)(h2:PGs X es u)
  (hs:(assignEach (e::es) X.env).map (·.2)=assign e X.env::(assignEach es X.env).map (·.2):=by rfl):PGs X (e::es) (gCons t u):=by
 intro pins s σ H vs us Q I r h
 obtain⟨v,vr,e1,h⟩:=h
 subst e1
 cases r with
 | cons r rr =>
  rw[hs]
  refine assignInOrder_cons (thn (h1 pins s σ H _ _ _ I r h) fun _ s1 ⟨σ1,H1,I1,q1⟩=>?_)
  exact h2 pins s1 σ1 H1 _ _ Q I1 rr q1
def gTup (K:PySem.W.Frag)(n:Nat)(t:TGs):TG:=fun v σ H Q=>∃ a xs,v=.ref a∧SqT K H a xs∧xs.length=n∧t xs σ H Q
theorem pg_tup {es:List Expr}{k:Nat}{t:TGs}{n:Nat}(hc:X.calm=true)(h:PGs X es t)
  (hn:(assignEach es X.env).length=n:=by rfl) (hst:(assignEach es X.env).findIdx? (·.1)=none:=by rfl):PG X (.Tuple es k pos) (gTup X.K n t):=by
 intro pins s σ H v u Q I r hw
 obtain⟨a,xs,e1,hq,hl,hw⟩:=hw
 subst e1
 cases r
 obtain⟨its,rv,ht,hz⟩:=I.tuple hq
 refine assign_Tuple_tuple (I.ok.hd hc) ht (by simp[hn,← hl,rv.length]) hst fun h' hx=>?_
 have I1:Inv X pins σ H { s with heap:=h' }:=I.kept (t':=s.toks) fun b o e=>hx b o (Nat.ne_of_lt (Heap.lt_size e)) e
 exact h pins _ σ H xs _ Q I1 (by simpa using rv) hw
def gSub (to ti:TE)(t:TSet):TG:=fun v σ H Q=>to σ H fun o H1=>ti σ H1 fun i H2=>t o i v H2 fun H3=>Q σ H3
theorem pg_sub {o i:Expr}{to ti:TE}{t:TSet}(ho:PE X o to)(hi:PE X i ti)(hs:PSet X t)
  (ha:∀ v,assign (.Subscript o i pos) X.env v=(do
   let ov ← holding [v] (eval o X.env)
   let iv ← holding [v,ov] (eval i X.env)
   standAt pos
   holding [v,ov,iv] (setItem ov iv v)
   release [v,ov,iv] []):=by intro _;rfl):PG X (.Subscript o i pos) (gSub to ti t):=by
 intro pins s σ H v u Q I r h
 rw[ha]
 refine wpAny_bind (wpAny_holding (thn (ho pins s σ H _ I h) fun ov s1 ⟨x,H1,I1,r1,q1⟩=>?_))
 refine wpAny_bind (wpAny_holding (thn (hi pins s1 σ H1 _ I1 q1) fun iv s2 ⟨y,H2,I2,r2,q2⟩=>?_))
 refine wpAny_bind (wpAny_standAt (wpAny_bind (wpAny_holding (thn (hs pins s2 σ H2 x y v ov iv u _ I2 r1 r2 r q2) fun _ s3 ⟨H3,I3,q3⟩=>?_))))
 exact wpAny_release ⟨σ,H3,I3,q3⟩
def tAsg (te:TE)(g:TG):TS:=fun D σ H=>te σ H fun x H1=>g x σ H1 D.nx
theorem ps_asg {tg e:Expr}{te:TE}{g:TG}(he:PE X e te)(hg:PG X tg g)(hs:swapsWithSole [tg] e pos.line X.env=pure false:=by rfl)(hw:swappedStores [tg] e X.env=pure none:=by rfl)
  (h1:(assignEach [tg] X.env).map (·.2)=[assign tg X.env]:=by rfl):PS X (.Assign [tg] e pos) (tAsg te g):=by
 intro pins s σ H D I h
 refine wpAny_Assign_stores (thn (he pins s σ H _ I h) fun v s1 ⟨x,H1,I1,r1,q1⟩=>?_) hs hw
 rw[h1]
 exact thn (hg pins s1 σ H1 x v _ I1 r1 q1) fun _ s2 q=>q
theorem ps_set {i:Nat}{x:Str}{e:Expr}{te:TE}{pos':Pos}(hN:X.N.Nodup)(hi:X.N[i]?=some x)(hx:Loc X.env.scope x)(he:PE X e te)(hs:swapsWith e (some (.Name x pos')) pos.line X.env=pure false:=by rfl)(hf:X.fn x=true∨X.env.scope.names.lookup x=some .local:=by first | exact .inl rfl | exact .inr rfl | assumption) :
  PS X (.Assign [.Name x pos'] e pos) (tAsg te (gName i)):=by
 intro pins s σ H D I h
 refine wpAny_Assign_Name (thn (he pins s σ H _ I h) fun v s1 ⟨y,H1,I1,r1,q1⟩=>?_) hs
 exact store_ok I1 hN hi hx r1 (fun s2 I2=>⟨_,H1,I2,q1⟩) hf
end
section
variable {X:Cx}{pos:Pos}
def tWhile (c:TT)(tb:TS):TS:=fun D σ H=>∃ W:Nat→St→Hp→Prop,(∃ m,W m σ H)∧∀ m σ H,W m σ H →
 c σ H fun b H1=>if b=true then ∃ N:St→Hp→Prop,(∀ σ' H',N σ' H'→∃ m',m'<m∧W m' σ' H')∧tb { D with nx:=N,ct:=N,bk:=D.nx } σ H1 else D.nx σ H1
theorem ps_while {c:Expr}{body:List Stmt}{tc:TT}{tb:TS}(hp:PassesOwn (model X.prog X.w) X.A X.env X.xe)(hc:PT X c tc)(hb:PSs X body tb):PS X (.While c body [] pos) (tWhile tc tb):=by
 intro pins s σ H D I h
 obtain⟨W,⟨m0,w0⟩,turn⟩:=h
 refine wpAny_While (codeAny_whileLoop (fun n s'=>∃ σ' H',Inv X pins σ' H' s'∧W n σ' H') ?_ m0 ⟨σ,H,I,w0⟩)
 rintro n s1 ⟨σ1,H1,I1,w1⟩
 refine wpAny_passesOwn hp (thn (hc pins s1 σ1 H1 _ I1 (turn n σ1 H1 w1)) fun b s2 ⟨H2,I2,q2⟩=>?_)
 cases b with
 | true =>
  obtain⟨N,hN,q2⟩:=q2
  rw[if_pos rfl]
  refine wpAny_passesOwn hp (thn (hb pins s2 σ1 H2 _ I2 q2) fun f s3 q3=>?_)
  cases f with
  | next =>
   obtain⟨σ3,H3,I3,n3⟩:=q3
   obtain⟨m',hm,w3⟩:=hN σ3 H3 n3
   exact⟨m',hm,σ3,H3,I3,w3⟩
  | cont =>
   obtain⟨σ3,H3,I3,n3⟩:=q3
   obtain⟨m',hm,w3⟩:=hN σ3 H3 n3
   exact⟨m',hm,σ3,H3,I3,w3⟩
  | brk=>exact q3
  | ret v=>exact q3
 | false =>
  rw[if_neg Bool.false_ne_true]
  exact wpAny_execs_nil ⟨σ1,H2,I2,q2⟩
end
structure It where
 go:Nat→Hp→Prop
 yld:Nat→Hp→V→Hp→Prop
 stop:Nat→Hp→Prop
def FpOk (X:Cx)(pins:List (Addr×Obj))(H:Hp)(b:Addr):Prop :=
 H b=none∧b≠X.env.locals∧b∉X.fs∧(b∈X.ex∨X.s₀.heap.objs.size≤b)∧(∀ x c,X.env.cells.lookup x=some c→c≠b)∧∀ p∈X.pn++pins,p.1≠b
theorem Inv.fpOk {X:Cx}{pins:List (Addr×Obj)}{σ:St}{H H':Hp}{s:Shared}{b:Addr}(I:Inv X pins σ H s)(hb:s.heap.objs.size≤b)(hn:H' b=none):FpOk X pins H' b:=by
 refine⟨hn,Nat.ne_of_gt (Nat.lt_of_lt_of_le I.lt hb),I.nofs hb,.inr (Nat.le_trans I.sz hb),fun x c e z=>?_,fun p hp z=>?_⟩
 ·obtain⟨v,q⟩:=I.cell x c e
  exact absurd (Nat.lt_of_lt_of_le q.lt (by rw[z];exact hb)) (Nat.lt_irrefl _)
 ·exact absurd (Nat.lt_of_lt_of_le (Heap.lt_size (I.pin p hp).1) (by rw[z];exact hb)) (Nat.lt_irrefl _)
structure Turn (P:Program)(w:World)(K:PySem.W.Frag)(tg:Expr)(J:It)(fp:List Addr)(it:Addr)(tn:Nat→Heap→Prop):Prop where
 mem:it∈fp
 obj:∀ i h,tn i h→∀ b∈fp,∃ o,h.get? b=some o∧∀ v,o.data≠.cell v
 keep:∀ i h h',tn i h→(∀ b∈fp,∀ o,h.get? b=some o→h'.get? b=some o)→tn i h'
 item:∀ (X:Cx),X.prog=P→X.w=w→X.K=K→X.calm=true→∀ (i:Nat) (pins:List (Addr×Obj)) (s:Shared) (σ:St) (H:Hp) (E:Value→Shared→Prop),Inv X pins σ H s→(∀ b∈fp,FpOk X pins H b)→tn i s.heap→J.go i H →
  wpAny (model P w) X.A (pyNext (.ref it)) (fun r s1=>∃ u,r=some u ∧
   wpAny (model P w) X.A (letOwnedTupleGo tg (.ref it) u) (fun _ s2=>∃ x H',Inv X pins σ H' s2∧RelV x u∧J.yld i H x H'∧tn (i+1) s2.heap∧∀ b∈fp,H' b=none) E s1) E s
 done:∀ (X:Cx),X.prog=P→X.w=w→X.K=K→X.calm=true→∀ (i:Nat) (pins:List (Addr×Obj)) (s:Shared) (σ:St) (H:Hp) (E:Value→Shared→Prop),Inv X pins σ H s→(∀ b∈fp,FpOk X pins H b)→tn i s.heap→J.stop i H →
  wpAny (model P w) X.A (pyNext (.ref it)) (fun r s1=>r=none∧Inv X pins σ H s1) E s
 self:∀ (A:Around) (i:Nat) (s:Shared) (Q:Value→Shared→Prop) (E:Value→Shared→Prop),tn i s.heap→Q (.ref it) s→wpAny (model P w) A (pyIter (.ref it)) Q E s
abbrev TI:=St→Hp→(It→Hp→Prop)→Prop
def PIE (X:Cx)(pins:List (Addr×Obj))(σ:St)(tg:Expr)(R:It→Hp→Prop)(itv:Value)(s2:Shared):Prop :=
 ∃ (it:Addr) (fp:List Addr) (tn:Nat→Heap→Prop) (J:It) (H':Hp),itv=.ref it∧Inv X pins σ H' s2∧Turn X.prog X.w X.K tg J fp it tn∧tn 0 s2.heap∧(∀ b∈fp,FpOk X pins H' b)∧R J H'
def PI (X:Cx)(tg iter:Expr)(wi:TI):Prop :=
 ∀ (pins:List (Addr×Obj)) (s:Shared) (σ:St) (H:Hp) (R:It→Hp→Prop),Inv X pins σ H s→wi σ H R →
  wpAny (model X.prog X.w) X.A (eval iter X.env) (fun v s1=>wpAny (model X.prog X.w) X.A (pyIter v) (PIE X pins σ tg R) X.xe s1) X.xe s
theorem go_of {M : Model}{A : Around}{E : Value → Shared → Prop}{s : Shared}{tg : Expr}{it : Addr}{u : Value}{o : Obj}{n : String}{vs : Array Value}{Q : Unit → Shared → Prop}(ho : s.heap.get? it = some o)(hc : o.cls = .type n)(hd : o.data = .fields vs)
    (hn : ["enumerate", "zip", "dict_itemiterator", "dict_reverseitemiterator", "odict_iterator", "itertools.zip_longest", "itertools.pairwise"].contains n = false) (hQ : Q () s) : wpAny M A (letOwnedTupleGo tg (.ref it) u) Q E s := by
  unfold letOwnedTupleGo
  cases tg <;> first
    | exact wpAny_pure hQ
    | (cases u <;> first
        | exact wpAny_pure hQ
        | (refine wpAny_bind (wpAny_load ho ?_)
           rw[hc, hd]
           show wpAny M A (if (["enumerate", "zip", "dict_itemiterator", "dict_reverseitemiterator", "odict_iterator", "itertools.zip_longest", "itertools.pairwise"].contains n && vs[0]? == some (rawInt _)) = true then _ else _) Q E s
           rw[if_neg (by intro h;rw[hn, Bool.false_and] at h;cases h)]
           exact wpAny_pure hQ))
def Itl (K:PySem.W.Frag)(a:Addr):It :=
 ⟨fun i H=>∃ xs x,SqL K H a xs∧xs[i]?=some x,fun i H x H'=>H'=H∧∀ xs,SqL K H a xs→xs[i]?=some x,fun i H=>∃ xs,SqL K H a xs∧xs.length≤i⟩
def Itr (lo:Int)(n:Nat):It:=⟨fun i _=>i<n,fun i H x H'=>H'=H∧x=.int (lo+i),fun i _=>n≤i⟩
theorem turn_list {P:Program}{w:World}{K:PySem.W.Frag}{tg:Expr}(a it:Addr):Turn P w K tg (Itl K a) [it] it (fun i h=>h.IsListIter it a i) where
 mem:=by simp
 obj:=fun i h st b hb=>by
  have e:b=it:=by simpa using hb
  subst e
  obtain⟨o,e,c,d⟩:=st
  exact⟨o,e,fun v z=>by rw[d] at z;cases z⟩
 keep:=fun i h h' st k=>st.at fun o e=>k it (by simp) o e
 item:=by
  intro X hP hw hK hc i pins s σ H E I hf st hg
  subst hP hw hK
  obtain⟨xs,x,hq,hx⟩:=hg
  obtain⟨its,rv,p,hz⟩:=I.list hq
  obtain⟨u,hu,ru⟩:=rv.get hx
  obtain⟨f0,f1,f2,f3,f4,f5⟩:=hf it (by simp)
  refine wpAny_pyNext_list_item st p.isList (x:=u) (by simpa using hu) fun h' st' sb=>?_
  have I1:Inv X pins σ H { s with heap:=h' }:=I.turned (t':=s.toks) (fun b o hb e=>(sb.2 b hb).trans e) f0 f1 f3 f4 f5
  obtain⟨o,e,c,d⟩:=id st'
  exact⟨u,rfl,go_of (s:={ s with heap:=h' }) e c d (by decide) ⟨x,H,I1,ru,⟨rfl,fun ys hy=>by rw[I.list_inj hy hq];exact hx⟩,st',fun b hb=>(hf b hb).1⟩⟩
 done:=by
  intro X hP hw hK hc i pins s σ H E I hf st hg
  subst hP hw hK
  obtain⟨xs,hq,hx⟩:=hg
  obtain⟨its,rv,p,hz⟩:=I.list hq
  obtain⟨f0,f1,f2,f3,f4,f5⟩:=hf it (by simp)
  have hl:=rv.length
  exact wpAny_pyNext_list_end (I.ok.hd hc) st p.isList (by simp;omega) fun h' eb=>⟨rfl,I.turned (t':=s.toks) (fun b o hb e=>eb b o hb e) f0 f1 f3 f4 f5⟩
 self:=fun _ _ _ _ _ st h=>wpAny_pyIter_listiter st h
theorem turn_range {P:Program}{w:World}{K:PySem.W.Frag}{tg:Expr}(it:Addr)(lo:Int)(n:Nat):Turn P w K tg (Itr lo n) [it] it (fun i h=>IsRangeIter h it (lo+(i:Nat) * 1) ((n:Int) - (i:Nat)) 1) where
 mem:=by simp
 obj:=fun i h st b hb=>by
  have e:b=it:=by simpa using hb
  subst e
  exact⟨_,st,fun v z=>by
   have z':Data.fields _=Data.cell v:=z
   cases z'⟩
 keep:=fun i h h' st k=>k it (by simp) _ st
 item:=by
  intro X hP hw hK hc i pins s σ H E I hf st hg
  subst hP hw hK
  obtain⟨f0,f1,f2,f3,f4,f5⟩:=hf it (by simp)
  have W:=Walks.range (prog:=X.prog) (w:=X.w) (I.ok.hd hc) it lo 1 n
  refine W.item i s _ _ hg st fun v h' tk hv st' kk=>?_
  obtain⟨t,rfl⟩:=hv
  have I1:Inv X pins σ H { s with heap:=h',toks:=tk }:=I.turned (fun b o hb e=>kk b o (by simpa using hb) e) f0 f1 f3 f4 f5
  refine⟨_,rfl,go_of (s:={ s with heap:=h',toks:=tk }) (n:="range_iterator") st' rfl rfl (by decide) ⟨.int (lo+i),H,I1,⟨t,?_⟩,⟨rfl,rfl⟩,st',fun b hb=>(hf b hb).1⟩⟩
  rw[Int.mul_one]
 done:=by
  intro X hP hw hK hc i pins s σ H E I hf st hg
  subst hP hw hK
  obtain⟨f0,f1,f2,f3,f4,f5⟩:=hf it (by simp)
  exact wpAny_pyNext_range_end (I.ok.hd hc) st (by have:n≤i:=hg;omega) fun h' eb=>⟨rfl,I.turned (t':=s.toks) (fun b o hb e=>eb b o hb e) f0 f1 f3 f4 f5⟩
 self:=fun _ _ _ _ _ st h=>wpAny_pyIter_rangeiter st h
end L2
namespace L2
open PySem PySem.Spec PyProof.Rows
section
variable {X:Cx}{tg:Expr}
def iList (K:PySem.W.Frag)(tl:TE):TI:=fun σ H R=>tl σ H fun x H1=>∃ a,x=.ref a∧(∃ xs,SqL K H1 a xs)∧R (Itl K a) H1
theorem pi_list {l:Expr}{tl:TE}(hl:PE X l tl):PI X tg l (iList X.K tl):=by
 intro pins s σ H R I h
 refine thn (hl pins s σ H _ I h) fun v s1 ⟨x,H1,I1,r1,q1⟩=>?_
 obtain⟨a,e,⟨xs,hq⟩,q⟩:=q1
 subst e
 cases r1
 obtain⟨its,rv,p,hz⟩:=I1.list hq
 refine wpAny_pyIter_list p.isList ?_
 refine⟨s1.heap.objs.size,[s1.heap.objs.size],_,_,H1,rfl,I1.kept (t':=s1.toks) fun b o e=>Heap.get?_push_of_some _ e,turn_list a _,⟨_,Heap.get?_push_size _ rfl,rfl,rfl⟩,fun b hb=>?_,q⟩
 have e:b=s1.heap.objs.size:=by simpa using hb
 subst e
 exact I1.fpOk (Nat.le_refl _) (I1.hok.fresh (Nat.le_refl _))
theorem range_it {pins:List (Addr×Obj)}{σ:St}{H:Hp}{s:Shared}{R:It→Hp→Prop}{E:Value→Shared→Prop}{lo hi:Int}{t u v:Tok}{tk:Nat}(I:Inv X pins σ H s)(h1:-(2 ^ 62)≤lo)(h2:lo<2 ^ 62)(h3:-(2 ^ 62)≤hi)(h4:hi<2 ^ 62)
  (q:R (Itr lo (hi - lo).toNat) H):wpAny (model X.prog X.w) X.A (pyIter (.ref s.heap.objs.size)) (PIE X pins σ tg R) E { s with heap:=s.heap.push { cls:=.type "range",data:=.fields #[.int lo t,.int hi u,.int 1 v] },toks:=tk }:=by
 refine wpAny_pyIter_range (IsRange.new ..) (small_one h1 h2 h3 h4) ?_
 have I1:Inv X pins σ H { s with heap:=s.heap.push { cls:=.type "range",data:=.fields #[.int lo t,.int hi u,.int 1 v] },toks:=tk }:=I.kept fun b o e=>Heap.get?_push_of_some _ e
 refine⟨(s.heap.push { cls:=.type "range",data:=.fields #[.int lo t,.int hi u,.int 1 v] }).objs.size,[(s.heap.push { cls:=.type "range",data:=.fields #[.int lo t,.int hi u,.int 1 v] }).objs.size],_,_,H,rfl,
  I1.kept (t':=tk) fun b o e=>Heap.get?_push_of_some _ e,turn_range _ lo (hi - lo).toNat,?_,fun b hb=>?_,q⟩
 ·have e1:lo+((0:Nat):Int) * 1=lo:=by simp
  have e2:(((hi - lo).toNat:Nat):Int) - ((0:Nat):Int)=Builtin.Range.rangeSize lo hi 1:=by rw[rangeSize_one];split <;> omega
  show IsRangeIter _ _ (lo+((0:Nat):Int) * 1) ((((hi - lo).toNat:Nat):Int) - ((0:Nat):Int)) 1
  rw[e1,e2]
  exact Heap.get?_push_size _ rfl
 ·have e:b=(s.heap.push { cls:=.type "range",data:=.fields #[.int lo t,.int hi u,.int 1 v] }).objs.size:=by simpa using hb
  subst e
  exact I1.fpOk (Nat.le_refl _) (I1.hok.fresh (Nat.le_refl _))
def iRng1 (ta:TA):TI:=fun σ H R=>ta σ H fun vs H1=>∃ j:Int,vs=[.int j]∧-(2 ^ 62)≤j∧j<2 ^ 62∧R (Itr 0 j.toNat) H1
def iRng2 (ta:TA):TI:=fun σ H R=>ta σ H fun vs H1=>∃ i j:Int,vs=[.int i,.int j]∧(-(2 ^ 62)≤i∧i<2 ^ 62∧-(2 ^ 62)≤j∧j<2 ^ 62)∧R (Itr i (j - i).toNat) H1
theorem pi_range1 {a:Expr}{ta:TA}{p pos:Pos}(hg:Gl X "range")(hm:X.mg "range"=none)(ha:PA X [a] ta)(hs:starEach [a] X.env=[(false,eval a X.env)]:=by rfl):PI X tg (.Call (.Name "range" p) [a] [] pos) (iRng1 ta):=by
 intro pins s σ H R I h
 refine Call_ (ld_blt I hg hm boot_range (PyProof.Rows.callWith_type1 (thn (ha pos pins s σ H _ I h) fun us s1 ⟨vs,H1,I1,r1,q1⟩=>?_) hs rfl))
 obtain⟨j,e,q1,q2,q⟩:=q1
 subst e
 cases r1 with
 | cons r rr =>
  cases rr
  obtain⟨t,rfl⟩:=r
  exact call_range_1 (range_it I1 (by omega) (by omega) q1 q2 (by simpa using q))
theorem pi_range2 {a b:Expr}{ta:TA}{p pos:Pos}(hg:Gl X "range")(hm:X.mg "range"=none)(ha:PA X [a,b] ta)(hs:starEach [a,b] X.env=[(false,eval a X.env),(false,eval b X.env)]:=by rfl)(hs2:starEach [b] X.env=[(false,eval b X.env)]:=by rfl) :
  PI X tg (.Call (.Name "range" p) [a,b] [] pos) (iRng2 ta):=by
 intro pins s σ H R I h
 refine Call_ (ld_blt I hg hm boot_range (PyProof.Rows.callWith_type1 (thn (ha pos pins s σ H _ I h) fun us s1 ⟨vs,H1,I1,r1,q1⟩=>?_) (by rw[hs,hs2]) (by rw[hs2];rfl)))
 obtain⟨i,j,e,⟨q1,q2,q3,q4⟩,q⟩:=q1
 subst e
 cases r1 with
 | cons r rr =>
  cases rr with
  | cons r' rr =>
   cases rr
   obtain⟨t,rfl⟩:=r
   obtain⟨t',rfl⟩:=r'
   exact call_range_2 (range_it I1 q1 q2 q3 q4 q)
def tFor (wi:TI)(g:TG)(tb:TS):TS:=fun D σ H=>wi σ H fun J H1=>∃ W:Nat→Nat→St→Hp→Prop,(∃ m,W 0 m σ H1)∧∀ i m σ H,W i m σ H →
 (J.stop i H∧D.nx σ H)∨(J.go i H∧∃ N:St→Hp→Prop,(∀ σ' H',N σ' H'→∃ m',m'<m∧W (i+1) m' σ' H')∧∀ x H',J.yld i H x H'→g x σ H' fun σ2 H2=>tb { D with nx:=N,ct:=N,bk:=D.nx } σ2 H2)
def pinsAt (fp:List Addr)(h:Heap):List (Addr×Obj):=fp.filterMap fun b=>(h.get? b).map fun o=>(b,o)
theorem mem_pinsAt {fp:List Addr}{h:Heap}{b:Addr}{o:Obj}(hb:b∈fp)(e:h.get? b=some o):(b,o)∈pinsAt fp h:=List.mem_filterMap.mpr ⟨b,hb,by rw[e];rfl⟩
theorem of_pinsAt {fp:List Addr}{h:Heap}{p:Addr×Obj}(hp:p∈pinsAt fp h):p.1∈fp∧h.get? p.1=some p.2:=by
 obtain⟨b,hb,e⟩:=List.mem_filterMap.mp hp
 cases q:h.get? b with
 | none=>rw[q] at e;cases e
 | some o =>
  rw[q] at e
  have e':(b,o)=p:=Option.some.inj e
  subst e'
  exact⟨hb,q⟩
theorem Inv.pinned {pins:List (Addr×Obj)}{σ:St}{H:Hp}{s:Shared}{fp:List Addr}(I:Inv X pins σ H s)(hf:∀ b∈fp,FpOk X pins H b)(ho:∀ b∈fp,∃ o,s.heap.get? b=some o∧∀ v,o.data≠.cell v):Inv X (pins++pinsAt fp s.heap) σ H s :=
 I.pins_of fun p hp=>(List.mem_append.mp hp).elim (fun z=>I.pin p (List.mem_append_right _ z)) fun z=>by
  obtain⟨hb,e⟩:=of_pinsAt z
  obtain⟨f0,f1,f2,_⟩:=hf p.1 hb
  obtain⟨o,e',d⟩:=ho p.1 hb
  rw[e] at e';cases e'
  exact⟨e,f0,f1,f2,d⟩
theorem Inv.unpinned {pins pl:List (Addr×Obj)}{σ:St}{H:Hp}{s:Shared}(I:Inv X (pins++pl) σ H s):Inv X pins σ H s:=I.pins_of fun p hp=>I.pin p (List.mem_append_right _ (List.mem_append_left _ hp))
theorem ps_for {iter:Expr}{body:List Stmt}{wi:TI}{g:TG}{tb:TS}{pos:Pos}(hp:PassesOwn (model X.prog X.w) X.A X.env X.xe)(hc:X.calm=true)(hi:PI X tg iter wi)(hg:PG X tg g)(hb:PSs X body tb)
  (hs:∀ x,foldedSetIterable iter X.env x=pure x:=by intro _;rfl):PS X (.For tg iter body [] pos) (tFor wi g tb):=by
 intro pins s σ H D I h
 refine wpAny_For (thn (hi pins s σ H _ I h) fun v s1 h1=>thn h1 fun itv s2 h2=>?_) hs
 obtain⟨it,fp,tn,J,H2,e,I2,T,st2,f2,W,⟨m0,w0⟩,turn⟩:=h2
 subst e
 have stat:∀ {H':Hp},(∀ b∈fp,H' b=none)→∀ b∈fp,FpOk X pins H' b:=fun hn b hb=>⟨hn b hb,(f2 b hb).2⟩
 refine codeAny_forLoop_any (fun n s'=>∃ i σ' H',Inv X pins σ' H' s'∧tn i s'.heap∧(∀ b∈fp,H' b=none)∧W i n σ' H') ?_ m0 ⟨0,σ,H2,I2,st2,fun b hb=>(f2 b hb).1,w0⟩
 rintro n s3 ⟨i,σ3,H3,I3,st3,fr3,w3⟩
 rcases turn i n σ3 H3 w3 with⟨stop,qn⟩ | ⟨go,N,hN,step⟩
 ·refine wpAny_passesOwn hp (thn (T.done X rfl rfl rfl hc i pins s3 σ3 H3 X.xe I3 (stat fr3) st3 stop) fun r s4 ⟨hr,I4⟩=>?_)
  subst hr
  exact wpAny_execs_nil ⟨σ3,H3,I4,qn⟩
 ·refine wpAny_passesOwn hp (thn (T.item X rfl rfl rfl hc i pins s3 σ3 H3 X.xe I3 (stat fr3) st3 go) fun r s4 ⟨u,hr,h4⟩=>?_)
  subst hr
  refine wpAny_passesOwn hp (thn h4 fun _ s5 ⟨x,H5,I5,r5,y5,st5,fr5⟩=>?_)
  have I5':=I5.pinned (stat fr5) (T.obj _ _ st5)
  refine wpAny_passesOwn hp (thn (hg _ s5 σ3 H5 x u _ I5' r5 (step x H5 y5)) fun _ s6 ⟨σ6,H6,I6,q6⟩=>?_)
  refine wpAny_passesOwn hp (thn (hb _ s6 σ6 H6 _ I6 q6) fun f s7 q7=>?_)
  have again:∀ {σ7:St}{H7:Hp},Inv X (pins++pinsAt fp s5.heap) σ7 H7 s7→N σ7 H7→∃ m,m<n∧∃ i σ' H',Inv X pins σ' H' s7∧tn i s7.heap∧(∀ b∈fp,H' b=none)∧W i m σ' H':=fun {σ7 H7} I7 n7=>by
   obtain⟨m',hm,w7⟩:=hN σ7 H7 n7
   refine⟨m',hm,i+1,σ7,H7,I7.unpinned,T.keep _ _ _ st5 fun b hb o e=>(I7.pin (b,o) (List.mem_append_right _ (List.mem_append_right _ (mem_pinsAt hb e)))).1,fun b hb=>?_,w7⟩
   obtain⟨o,e,d⟩:=T.obj _ _ st5 b hb
   exact (I7.pin (b,o) (List.mem_append_right _ (List.mem_append_right _ (mem_pinsAt hb e)))).2.1
  cases f with
  | next=>obtain⟨σ7,H7,I7,n7⟩:=q7;exact again I7 n7
  | cont=>obtain⟨σ7,H7,I7,n7⟩:=q7;exact again I7 n7
  | brk=>obtain⟨σ7,H7,I7,q7⟩:=q7;exact⟨σ7,H7,I7.unpinned,q7⟩
  | ret v=>obtain⟨x7,σ7,H7,I7,r7,q7⟩:=q7;exact⟨x7,σ7,H7,I7.unpinned,r7,q7⟩
end
theorem for_list {K:PySem.W.Frag}{a:Addr}{xs:List V}{g:TG}{tb:TS}{D:Ends}{σ:St}{H:Hp}(Pv:Nat→St→Hp→Prop)(h0:Pv 0 σ H)(hl:∀ i σ H,i≤xs.length→Pv i σ H→SqL K H a xs)
  (hs:∀ i x σ H,xs[i]?=some x→Pv i σ H→g x σ H fun σ2 H2=>tb { D with nx:=Pv (i+1),ct:=Pv (i+1),bk:=D.nx } σ2 H2) (hd:∀ σ H,Pv xs.length σ H→D.nx σ H) :
  ∃ W:Nat→Nat→St→Hp→Prop,(∃ m,W 0 m σ H)∧∀ i m σ H,W i m σ H →
   ((Itl K a).stop i H∧D.nx σ H)∨((Itl K a).go i H∧∃ N:St→Hp→Prop,(∀ σ' H',N σ' H'→∃ m',m'<m∧W (i+1) m' σ' H')∧∀ x H',(Itl K a).yld i H x H'→g x σ H' fun σ2 H2=>tb { D with nx:=N,ct:=N,bk:=D.nx } σ2 H2):=by
 refine⟨fun i m σ H=>m=xs.length - i∧i≤xs.length∧Pv i σ H,⟨xs.length,by simp,Nat.zero_le _,h0⟩,?_⟩
 rintro i m σ H ⟨rfl,hi,p⟩
 have q:=hl i σ H hi p
 by_cases hlt:i<xs.length
 ·refine .inr ⟨⟨xs,xs[i],q,by simp[hlt]⟩,Pv (i+1),fun σ' H' p'=>⟨xs.length - (i+1),by omega,rfl,hlt,p'⟩,fun x H' y=>?_⟩
  obtain⟨e,y⟩:=y
  subst e
  exact hs i x σ _ (y xs q) p
 ·have e:i=xs.length:=by omega
  subst e
  exact .inl ⟨⟨xs,q,Nat.le_refl _⟩,hd σ H p⟩
theorem for_range {lo:Int}{n:Nat}{g:TG}{tb:TS}{D:Ends}{σ:St}{H:Hp}(Pv:Nat→St→Hp→Prop)(h0:Pv 0 σ H)
  (hs:∀ i σ H,i<n→Pv i σ H→g (.int (lo+i)) σ H fun σ2 H2=>tb { D with nx:=Pv (i+1),ct:=Pv (i+1),bk:=D.nx } σ2 H2) (hd:∀ σ H,Pv n σ H→D.nx σ H) :
  ∃ W:Nat→Nat→St→Hp→Prop,(∃ m,W 0 m σ H)∧∀ i m σ H,W i m σ H →
   ((Itr lo n).stop i H∧D.nx σ H)∨((Itr lo n).go i H∧∃ N:St→Hp→Prop,(∀ σ' H',N σ' H'→∃ m',m'<m∧W (i+1) m' σ' H')∧∀ x H',(Itr lo n).yld i H x H'→g x σ H' fun σ2 H2=>tb { D with nx:=N,ct:=N,bk:=D.nx } σ2 H2):=by
 refine⟨fun i m σ H=>m=n - i∧i≤n∧Pv i σ H,⟨n,by simp,Nat.zero_le _,h0⟩,?_⟩
 rintro i m σ H ⟨rfl,hi,p⟩
 by_cases hlt:i<n
 ·refine .inr ⟨hlt,Pv (i+1),fun σ' H' p'=>⟨n - (i+1),by omega,rfl,hlt,p'⟩,fun x H' y=>?_⟩
  obtain⟨e,y⟩:=y
  subst e y
  exact hs i σ _ hlt p
 ·have e:i=n:=by omega
  subst e
  exact .inl ⟨Nat.le_refl _,hd σ H p⟩
theorem while_by {c:TT}{tb:TS}{D:Ends}{σ:St}{H:Hp}(Pv:St→Hp→Prop)(μ:St→Hp→Nat)(h0:Pv σ H)
  (hs:∀ σ H,Pv σ H→c σ H fun b H1=>if b=true then tb { D with nx:=fun σ' H'=>Pv σ' H'∧μ σ' H'<μ σ H,ct:=fun σ' H'=>Pv σ' H'∧μ σ' H'<μ σ H,bk:=D.nx } σ H1 else D.nx σ H1)
  (mono:∀ σ H Q Q',(∀ b H1,Q b H1→Q' b H1)→c σ H Q→c σ H Q'):tWhile c tb D σ H:=by
 refine⟨fun m σ H=>m=μ σ H∧Pv σ H,⟨_,rfl,h0⟩,?_⟩
 rintro m σ H ⟨rfl,p⟩
 refine mono σ H _ _ (fun b H1 q=>?_) (hs σ H p)
 cases b with
 | true=>exact⟨_,fun σ' H' ⟨p',l⟩=>⟨_,l,rfl,p'⟩,q⟩
 | false=>exact q
end L2
namespace L2
open PySem PySem.Spec PyProof.Rows
abbrev R2:=V→V→Hp→VK→Prop
def OpR (X:Cx)(f:Value→Value→Sem Value)(r:R2):Prop :=
 ∀ (pins:List (Addr×Obj)) (s:Shared) (σ:St) (H:Hp) (x y:V) (v u:Value) (Q:VK),Inv X pins σ H s→RelV x v→RelV y u→r x y H Q →
  wpAny (model X.prog X.w) X.A (f v u) (EP X pins σ Q) X.xe s
def UnR (X:Cx)(f:Value→Sem Value)(r:V→Hp→VK→Prop):Prop :=
 ∀ (pins:List (Addr×Obj)) (s:Shared) (σ:St) (H:Hp) (x:V) (v:Value) (Q:VK),Inv X pins σ H s→RelV x v→r x H Q →
  wpAny (model X.prog X.w) X.A (f v) (EP X pins σ Q) X.xe s
def CallR (X:Cx)(f:Value)(r:List V→Hp→VK→Prop):Prop :=
 ∀ (pins:List (Addr×Obj)) (s:Shared) (σ:St) (H:Hp) (xs:List V) (us:List Value) (Q:VK),Inv X pins σ H s→Vals xs us→r xs H Q →
  wpAny (model X.prog X.w) X.A (call f us) (EP X pins σ Q) X.xe s
def tOp (r:R2)(ta tb:TE):TE:=fun σ H Q=>ta σ H fun x H1=>tb σ H1 fun y H2=>r x y H2 Q
def tUn (r:V→Hp→VK→Prop)(ta:TE):TE:=fun σ H Q=>ta σ H fun x H1=>r x H1 Q
def rI (C:Int→Int→Prop)(g:Int→Int→V):R2:=fun x y H Q=>∃ i j,x=.int i∧y=.int j∧C i j∧Q (g i j) H
def rI0 (g:Int→Int→V):R2:=fun x y H Q=>∃ i j,x=.int i∧y=.int j∧Q (g i j) H
def rU (g:Int→V):V→Hp→VK→Prop:=fun x H Q=>∃ i,x=.int i∧Q (g i) H
section
variable {X:Cx}{a b c:Expr}{ta tb tc:TE}{pos:Pos}
theorem binT (ha:PE X a ta)(hb:PE X b tb){pins:List (Addr×Obj)}{s:Shared}{σ:St}{H:Hp}{R:V→V→Hp→Prop}(I:Inv X pins σ H s)
  (h:ta σ H fun x H1=>tb σ H1 fun y H2=>R x y H2) {Q:Value→Shared→Prop}{f:Value→Value→Sem Value}
  (hf:∀ v u s2 x y H2,Inv X pins σ H2 s2→RelV x v→RelV y u→R x y H2→wpAny (model X.prog X.w) X.A (f v u) Q X.xe s2) :
  wpAny (model X.prog X.w) X.A (eval a X.env) (fun v s₁=>wpAny (model X.prog X.w) X.A (eval b X.env) (fun u s₂=>wpAny (model X.prog X.w) X.A (f v u) Q X.xe s₂) X.xe s₁) X.xe s:=by
 refine thn (ha pins s σ H _ I h) fun v s1 ⟨x,H1,I1,r1,q1⟩=>?_
 refine thn (hb pins s1 σ H1 _ I1 q1) fun u s2 ⟨y,H2,I2,r2,q2⟩=>?_
 exact hf v u s2 x y H2 I2 r1 r2 q2
theorem pe_op {op:Operator}{r:R2}(ho:OpR X (binaryOp op) r)(ha:PE X a ta)(hb:PE X b tb):PE X (.BinOp a op b pos) (tOp r ta tb):=by
 intro pins s σ H Q I h
 exact wpAny_BinOp (binT ha hb I h fun v u s2 x y H2 I2 rx ry q=>ho pins s2 σ H2 x y v u Q I2 rx ry q)
theorem pe_un {op:UnaryOp}{r:V→Hp→VK→Prop}(ho:UnR X (unaryOp op) r)(ha:PE X a ta):PE X (.UnaryOp op a pos) (tUn r ta):=by
 intro pins s σ H Q I h
 exact UnaryOp_ (thn (ha pins s σ H _ I h) fun v s1 ⟨x,H1,I1,r1,q1⟩=>ho pins s1 σ H1 x v Q I1 r1 q1)
theorem opI {f:Value→Value→Sem Value}{C:Int→Int→Prop}{g:Int→Int→Int}
  (rule:∀ (i j:Int) (t u:Tok) (s:Shared) (Q:Value→Shared→Prop) (E:Value→Shared→Prop),C i j→Q (.int (g i j) s.toks) { s with toks:=s.toks+1 }→wpAny (model X.prog X.w) X.A (f (.int i t) (.int j u)) Q E s) :
  OpR X f (rI C fun i j=>.int (g i j)):=by
 intro pins s σ H x y v u Q I rx ry h
 obtain⟨i,j,rfl,rfl,hc,q⟩:=h
 obtain⟨t,rfl⟩:=rx
 obtain⟨t',rfl⟩:=ry
 exact rule i j t t' s _ _ hc ⟨.int (g i j),H,I.tok _,⟨_,rfl⟩,q⟩
theorem opI0 {f:Value→Value→Sem Value}{g:Int→Int→Int}
  (rule:∀ (i j:Int) (t u:Tok) (s:Shared) (Q:Value→Shared→Prop) (E:Value→Shared→Prop),Q (.int (g i j) s.toks) { s with toks:=s.toks+1 }→wpAny (model X.prog X.w) X.A (f (.int i t) (.int j u)) Q E s) :
  OpR X f (rI0 fun i j=>.int (g i j)):=by
 intro pins s σ H x y v u Q I rx ry h
 obtain⟨i,j,rfl,rfl,q⟩:=h
 obtain⟨t,rfl⟩:=rx
 obtain⟨t',rfl⟩:=ry
 exact rule i j t t' s _ _ ⟨.int (g i j),H,I.tok _,⟨_,rfl⟩,q⟩
theorem opB0 {f:Value→Value→Sem Value}{g:Int→Int→Bool}
  (rule:∀ (i j:Int) (t u:Tok) (s:Shared) (Q:Value→Shared→Prop) (E:Value→Shared→Prop),Q (.bool (g i j)) s→wpAny (model X.prog X.w) X.A (f (.int i t) (.int j u)) Q E s) :
  OpR X f (rI0 fun i j=>.bl (g i j)):=by
 intro pins s σ H x y v u Q I rx ry h
 obtain⟨i,j,rfl,rfl,q⟩:=h
 obtain⟨t,rfl⟩:=rx
 obtain⟨t',rfl⟩:=ry
 exact rule i j t t' s _ _ ⟨.bl (g i j),H,I,rfl,q⟩
def CDiv (i j:Int):Prop:=0<j∧j<1073741824
def CPow (i j:Int):Prop:=0≤j∧j≤1000000∧i.natAbs<2 ^ 64
def CMul (i j:Int):Prop:=(-(2 ^ 64)<i∧i<2 ^ 64)∨(-(2 ^ 64)<j∧j<2 ^ 64)
theorem CMul.ok {i j:Int}(h:CMul i j):IntMulOk i j:=by
 rcases h with⟨h1,h2⟩ | ⟨h1,h2⟩
 ·exact .of_left (intBits_le_64 h1 h2)
 ·exact .of_right (intBits_le_64 h1 h2)
theorem op_add:OpR X (binaryOp .Add) (rI0 fun i j=>.int (i+j)):=opI0 fun _ _ _ _ _ _ _ q=>add_int q
theorem op_sub:OpR X (binaryOp .Sub) (rI0 fun i j=>.int (i - j)):=opI0 fun _ _ _ _ _ _ _ q=>sub_int q
theorem op_mul:OpR X (binaryOp .Mult) (rI CMul fun i j=>.int (i * j)):=opI fun _ _ _ _ _ _ _ hc q=>mul_int q hc.ok
theorem op_fdiv:OpR X (binaryOp .FloorDiv) (rI CDiv fun i j=>.int (i / j)):=opI fun i j _ _ _ _ _ hc q=>by
 have h1:(0:Int)<j:=hc.1
 have h2:j<1073741824:=hc.2
 exact floordiv_int (by omega) (by rw[Int.fdiv_eq_ediv_of_nonneg i (by omega)];exact q) (.inl (PyProof.noPylong_small (by omega)))
theorem op_mod:OpR X (binaryOp .Mod) (rI (fun _ j=>0<j) fun i j=>.int (i % j)):=opI fun i j _ _ _ _ _ hc q=>by
 have h1:(0:Int)<j:=hc
 exact mod_int' (by omega) (by rw[Int.fmod_eq_emod_of_nonneg i (by omega)];exact q)
theorem op_pow:OpR X (binaryOp .Pow) (rI CPow fun i j=>.int (i ^ j.toNat)):=opI fun _ _ _ _ _ _ _ hc q=>pow_int_small hc.1 hc.2.1 hc.2.2 q
theorem unI {f:Value→Sem Value}{g:Int→Int}
  (rule:∀ (i:Int) (t:Tok) (s:Shared) (Q:Value→Shared→Prop) (E:Value→Shared→Prop),Q (.int (g i) s.toks) { s with toks:=s.toks+1 }→wpAny (model X.prog X.w) X.A (f (.int i t)) Q E s) :
  UnR X f (rU fun i=>.int (g i)):=by
 intro pins s σ H x v Q I rx h
 obtain⟨i,rfl,q⟩:=h
 obtain⟨t,rfl⟩:=rx
 exact rule i t s _ _ ⟨.int (g i),H,I.tok _,⟨_,rfl⟩,q⟩
theorem un_neg:UnR X (unaryOp .USub) (rU fun i=>.int (-i)):=unI fun _ _ _ _ _ q=>neg_int q
end
def scal:V→V→Bool
 | .non,.non=>true | .non,.int _=>true | .int _,.non=>true | .non,.bl _=>true | .bl _,.non=>true | .non,.str _=>true | .str _,.non=>true
 | .int _,.int _=>true | .bl _,.bl _=>true | .str _,.str _=>true | .byt _,.byt _=>true
 | .int _,.str _=>true | .str _,.int _=>true | .bl _,.str _=>true | .str _,.bl _=>true
 | _,_=>false
def rEq:R2:=fun x y H Q=>scal x y=true∧Q (.bl (decide (x=y))) H
def rNe:R2:=fun x y H Q=>scal x y=true∧Q (.bl (!decide (x=y))) H
theorem dec_int {i j:Int}:decide (V.int i=V.int j)=(i == j):=by
 rw[Bool.eq_iff_iff]
 simp
theorem dec_bl {i j:Bool}:decide (V.bl i=V.bl j)=(i == j):=by
 rw[Bool.eq_iff_iff]
 simp
theorem dec_str {i j:Str}:decide (V.str i=V.str j)=(i == j):=by
 rw[Bool.eq_iff_iff]
 simp
theorem dec_byt {i j:Array UInt8}:decide (V.byt i=V.byt j)=(i.toList == j.toList):=by
 rw[Bool.eq_iff_iff]
 cases i
 cases j
 simp
section
variable {X:Cx}{a b c:Expr}{ta tb tc:TE}{pos:Pos}
theorem fin_bl {pins:List (Addr×Obj)}{σ:St}{H:Hp}{s:Shared}{Q:VK}{k k':Bool}(I:Inv X pins σ H s)(q:Q (.bl k) H)(e:k=k'):EP X pins σ Q (.bool k') s:=by
 subst e
 exact⟨.bl k,H,I,rfl,q⟩
theorem op_eq:OpR X (compareOp .Eq) rEq:=by
 intro pins s σ H x y v u Q I rx ry h
 obtain⟨hs,q⟩:=h
 cases x with
 | non =>
  cases rx
  cases y with
  | non=>cases ry;exact PySem.EqNone.eq_none_none (fin_bl I q (by simp))
  | bl j=>cases ry;exact PySem.EqNone.eq_none_bool (fin_bl I q (by simp))
  | int j=>obtain⟨t',rfl⟩:=ry;exact PySem.EqNone.eq_none_int (fin_bl I q (by simp))
  | str j=>obtain⟨t',rfl⟩:=ry;exact PySem.EqNone.eq_none_str (fin_bl I q (by simp))
  | _=>exact absurd (show false=true from hs) Bool.false_ne_true
 | bl i =>
  cases rx
  cases y with
  | non=>cases ry;exact PySem.EqNone.eq_bool_none (fin_bl I q (by simp))
  | bl j=>cases ry;exact eq_bool (fin_bl I q dec_bl)
  | str j=>obtain⟨t',rfl⟩:=ry;exact PySem.EqMixed.eq_bool_str (fin_bl I q (by simp))
  | _=>exact absurd (show false=true from hs) Bool.false_ne_true
 | int i =>
  obtain⟨t,rfl⟩:=rx
  cases y with
  | non=>cases ry;exact PySem.EqNone.eq_int_none (fin_bl I q (by simp))
  | int j=>obtain⟨t',rfl⟩:=ry;exact eq_int (fin_bl I q dec_int)
  | str j=>obtain⟨t',rfl⟩:=ry;exact PySem.EqMixed.eq_int_str (fin_bl I q (by simp))
  | _=>exact absurd (show false=true from hs) Bool.false_ne_true
 | str i =>
  obtain⟨t,rfl⟩:=rx
  cases y with
  | non=>cases ry;exact PySem.EqNone.eq_str_none (fin_bl I q (by simp))
  | bl j=>cases ry;exact PySem.EqMixed.eq_str_bool (fin_bl I q (by simp))
  | int j=>obtain⟨t',rfl⟩:=ry;exact PySem.EqMixed.eq_str_int (fin_bl I q (by simp))
  | str j=>obtain⟨t',rfl⟩:=ry;exact eq_str (fin_bl I q dec_str)
  | _=>exact absurd (show false=true from hs) Bool.false_ne_true
 | byt i =>
  obtain⟨t,rfl⟩:=rx
  cases y with
  | byt j=>obtain⟨t',rfl⟩:=ry;exact PySem.W.eq_bytes (fin_bl I q dec_byt)
  | _=>exact absurd (show false=true from hs) Bool.false_ne_true
 | _=>cases y <;> exact absurd (show false=true from hs) Bool.false_ne_true
theorem op_ne:OpR X (compareOp .NotEq) rNe:=by
 intro pins s σ H x y v u Q I rx ry h
 obtain⟨hs,q⟩:=h
 cases x with
 | non =>
  cases rx
  cases y with
  | non=>cases ry;exact PySem.EqNone.ne_none_none (fin_bl I q (by simp))
  | bl j=>cases ry;exact PySem.EqNone.ne_none_bool (fin_bl I q (by simp))
  | int j=>obtain⟨t',rfl⟩:=ry;exact PySem.EqNone.ne_none_int (fin_bl I q (by simp))
  | str j=>obtain⟨t',rfl⟩:=ry;exact PySem.EqNone.ne_none_str (fin_bl I q (by simp))
  | _=>exact absurd (show false=true from hs) Bool.false_ne_true
 | bl i =>
  cases rx
  cases y with
  | non=>cases ry;exact PySem.EqNone.ne_bool_none (fin_bl I q (by simp))
  | bl j=>cases ry;exact ne_bool (fin_bl I q (congrArg not dec_bl))
  | str j=>obtain⟨t',rfl⟩:=ry;exact PySem.EqMixed.ne_bool_str (fin_bl I q (by simp))
  | _=>exact absurd (show false=true from hs) Bool.false_ne_true
 | int i =>
  obtain⟨t,rfl⟩:=rx
  cases y with
  | non=>cases ry;exact PySem.EqNone.ne_int_none (fin_bl I q (by simp))
  | int j=>obtain⟨t',rfl⟩:=ry;exact ne_int (fin_bl I q (congrArg not dec_int))
  | str j=>obtain⟨t',rfl⟩:=ry;exact PySem.EqMixed.ne_int_str (fin_bl I q (by simp))
  | _=>exact absurd (show false=true from hs) Bool.false_ne_true
 | str i =>
  obtain⟨t,rfl⟩:=rx
  cases y with
  | non=>cases ry;exact PySem.EqNone.ne_str_none (fin_bl I q (by simp))
  | bl j=>cases ry;exact PySem.EqMixed.ne_str_bool (fin_bl I q (by simp))
  | int j=>obtain⟨t',rfl⟩:=ry;exact PySem.EqMixed.ne_str_int (fin_bl I q (by simp))
  | str j=>obtain⟨t',rfl⟩:=ry;exact ne_str (fin_bl I q (congrArg not dec_str))
  | _=>exact absurd (show false=true from hs) Bool.false_ne_true
 | byt i =>
  obtain⟨t,rfl⟩:=rx
  cases y with
  | byt j=>obtain⟨t',rfl⟩:=ry;exact PySem.W.ne_bytes (fin_bl I q (congrArg not dec_byt))
  | _=>exact absurd (show false=true from hs) Bool.false_ne_true
 | _=>cases y <;> exact absurd (show false=true from hs) Bool.false_ne_true
theorem op_lt:OpR X (compareOp .Lt) (rI0 fun i j=>.bl (decide (i<j))):=opB0 fun _ _ _ _ _ _ _ q=>lt_int q
theorem op_le:OpR X (compareOp .LtE) (rI0 fun i j=>.bl (decide (i≤j))):=opB0 fun _ _ _ _ _ _ _ q=>le_int q
theorem op_gt:OpR X (compareOp .Gt) (rI0 fun i j=>.bl (decide (j<i))):=opB0 fun _ _ _ _ _ _ _ q=>gt_int q
theorem op_ge:OpR X (compareOp .GtE) (rI0 fun i j=>.bl (decide (j≤i))):=opB0 fun _ _ _ _ _ _ _ q=>ge_int q
theorem op_isN:OpR X (compareOp .Is) (fun x y H Q=>y=.non∧Q (.bl (decide (x=.non))) H):=by
 intro pins s σ H x y v u Q I rx ry h
 obtain⟨rfl,q⟩:=h
 cases ry
 refine is_none_gen (fin_bl I q ?_)
 cases x <;> first
  | (cases rx;rfl)
  | (obtain⟨t,rfl⟩:=rx;rfl)
theorem op_notN:OpR X (compareOp .IsNot) (fun x y H Q=>y=.non∧Q (.bl (!decide (x=.non))) H):=by
 intro pins s σ H x y v u Q I rx ry h
 obtain⟨rfl,q⟩:=h
 cases ry
 refine isnot_none_gen (fin_bl I q ?_)
 cases x <;> first
  | (cases rx;rfl)
  | (obtain⟨t,rfl⟩:=rx;rfl)
theorem OpR.or {f:Value→Value→Sem Value}{r r':R2}(h:OpR X f r)(h':OpR X f r'):OpR X f (fun x y H Q=>r x y H Q∨r' x y H Q):=by
 intro pins s σ H x y v u Q I rx ry q
 rcases q with q | q
 ·exact h pins s σ H x y v u Q I rx ry q
 ·exact h' pins s σ H x y v u Q I rx ry q
theorem nomark (b:Expr){op:CmpOp}(h:op≠.In:=by decide)(h2:op≠.NotIn:=by decide):behindInMarks op b=false:=by
 have e1:(op == CmpOp.In)=false:=by cases op <;> first | rfl | exact absurd rfl h
 have e2:(op == CmpOp.NotIn)=false:=by cases op <;> first | rfl | exact absurd rfl h2
 cases b <;> simp[behindInMarks,e1,e2]
theorem pe_cmpR {op:CmpOp}{r:R2}(ho:OpR X (compareOp op) r)(ha:PE X a ta)(hb:PE X b tb)(hm:behindInMarks op b=false):PE X (.Compare a [op] [b] pos) (tOp r ta tb):=by
 intro pins s σ H Q I h
 exact wpAny_Compare1 (binT ha hb I h fun v u s2 x y H2 I2 rx ry q=>ho pins s2 σ H2 x y v u Q I2 rx ry q) hm
def tTest (t:TE):TT:=fun σ H Q=>t σ H fun x H'=>∃ k,x=.bl k∧Q k H'
theorem pt_cmpR {op:CmpOp}{r:R2}(ho:OpR X (compareOp op) r)(ha:PE X a ta)(hb:PE X b tb)(hm:behindInMarks op b=false):PT X (.Compare a [op] [b] pos) (tTest (tOp r ta tb)):=by
 intro pins s σ H Q I h
 refine wpAny_isTrue_Compare1 (thn (ha pins s σ H _ I h) fun v s1 ⟨x,H1,I1,r1,q1⟩=>thn (hb pins s1 σ H1 _ I1 q1) fun u s2 ⟨y,H2,I2,r2,q2⟩ =>
  thn (ho pins s2 σ H2 x y v u _ I2 r1 r2 q2) fun c s3 ⟨z,H3,I3,r3,k,e,q3⟩=>?_) hm
 subst e
 cases r3
 exact wpAny_truthy_bool ⟨H3,I3,q3⟩
theorem line63:(sizeLine:Nat)<2 ^ 63:=by rw[sizeLine_eq];decide
theorem vals1 {x:V}{us:List Value}(r:Vals [x] us):∃ u,us=[u]∧RelV x u:=by
 cases r with
 | cons r1 r2=>cases r2;exact⟨_,rfl,r1⟩
theorem vals2 {x y:V}{us:List Value}(r:Vals [x,y] us):∃ u w',us=[u,w']∧RelV x u∧RelV y w':=by
 cases r with
 | cons r1 r2 =>
  cases r2 with
  | cons r3 r4=>cases r4;exact⟨_,_,rfl,r1,r3⟩
theorem call_max2 (hc:X.calm=true):CallR X (.builtin "max") (fun xs H Q=>∃ i j,xs=[.int i,.int j]∧Q (.int (if j>i then j else i)) H):=by
 intro pins s σ H xs us Q I r h
 obtain⟨i,j,rfl,q⟩:=h
 obtain⟨u,w',rfl,⟨t,rfl⟩,⟨t',rfl⟩⟩:=vals2 r
 refine max_two_ints (I.ok.hd hc) fun h' tk k=>⟨_,H,I.kept k,?_,q⟩
 by_cases hj:j>i
 ·rw[if_pos hj,if_pos hj];exact⟨_,rfl⟩
 ·rw[if_neg hj,if_neg hj];exact⟨_,rfl⟩
theorem call_min2 (hc:X.calm=true):CallR X (.builtin "min") (fun xs H Q=>∃ i j,xs=[.int i,.int j]∧Q (.int (if j<i then j else i)) H):=by
 intro pins s σ H xs us Q I r h
 obtain⟨i,j,rfl,q⟩:=h
 obtain⟨u,w',rfl,⟨t,rfl⟩,⟨t',rfl⟩⟩:=vals2 r
 refine min_two_ints (I.ok.hd hc) fun h' tk k=>⟨_,H,I.kept k,?_,q⟩
 by_cases hj:j<i
 ·rw[if_pos hj,if_pos hj];exact⟨_,rfl⟩
 ·rw[if_neg hj,if_neg hj];exact⟨_,rfl⟩
end
end L2
namespace L2
open PySem PySem.Spec PyProof.Rows
structure ObjM (h:Heap)(x dx C:Addr)(mA:Str→Option Value):Prop where
 obj:h.get? x=some (PySem.W.instObj C dx)
 ns:h.Ns1 dx mA
 ne:dx≠x
theorem lookIn_ns {h:Heap}{dx:Addr}{mA:Str→Option Value}(n:h.Ns1 dx mA):∃ od,h.get? dx=some od∧∀ name,PySem.W.lookIn name od=some (mA name):=by
 obtain⟨o,es,ep,ho,hd,hk,_,hm⟩:=n
 refine⟨o,ho,fun name=>?_⟩
 have e:=hm name
 unfold nsFind findBy at e
 rw[← Array.find?_toList] at e
 unfold PySem.W.lookIn
 rw[hd]
 dsimp only
 split
 ·rename_i y q
  rw[q] at e
  exact congrArg some e
 ·rename_i q
  rw[q] at e
  have a:es.toList.any (·.refKey)=false:=by
   rw[List.any_eq_false]
   intro y hy
   obtain⟨z,t,hkey⟩:=hk y (Array.mem_toList_iff.mp hy)
   simp[DictEntry.refKey,hkey]
  have a':¬ es.toList.any (·.refKey)=true:=by rw[a];exact Bool.false_ne_true
  rw[if_neg a']
  exact congrArg some e
theorem ObjM.look {h:Heap}{x dx C:Addr}{mA:Str→Option Value}(I:ObjM h x dx C mA):∃ od,PySem.W.InstAt h x (PySem.W.instObj C dx) C (some od)∧∀ name,PySem.W.lookIn name od=some (mA name) :=
 let ⟨od,ho,hl⟩:=lookIn_ns I.ns
 ⟨od,⟨I.obj,rfl,rfl,ho⟩,hl⟩
section
variable {prog:Program}{w:World}{A:Around}{E:Value→Shared→Prop}{s:Shared}{K:PySem.W.Frag}{x dx C f:Addr}{mA:Str→Option Value}{name:Str}{v:Value}
theorem set_map {ns:List Str}{Q:Unit→Shared→Prop}(X:K.In s.heap)(I:ObjM s.heap x dx C mA)
  (hs:PySem.W.findIn K (.ref C) "__setattr__"=some (some (.builtin "object.__setattr__"))) (hp:PySem.W.plainOver K C=true) (ht:PySem.W.takerIn K C name=some none) (hh:PySem.W.hasDictIn K C=true)
  (hw:PySem.Within mA ns) (hsz:ns.length≤sizeLine)
  (h:∀ h',ObjM h' x dx C (fun y=>if y=name then some v else mA y)→Heap.SameBut dx s.heap h'→Q () { s with heap:=h',toks:=s.toks+2 }) :
  wpAny (model prog w) A (setAttr (.ref x) name v) Q E s:=by
 obtain⟨od,J,hl⟩:=I.look
 refine PySem.W.set_plain X J hs (PySem.W.osa_open (s:={ s with toks:=s.toks+1 }) (r:=none) X J hp ht fun b=>?_)
 obtain⟨cd,hc,hd'⟩:=PySem.W.any_some hh
 have hx:s.heap.get? x=some ⟨.ref C,some dx,.plain,#[]⟩:=I.obj
 refine wpAny_bind (wpAny_pure (wpAny_bind (wpAny_bind (wpAny_loadPart hx (wpAny_bind (PySem.W.Looks.here (s:={ s with toks:=s.toks+1 }) (PySem.W.looks_clsIn X hc) ?_))))))
 rw[hd']
 refine wpAny_pure (a:=some dx) (wpAny_bind (wpAny_pure (wpAny_bind ?_)))
 refine wpAny_nsSet1 (s:={ s with toks:=s.toks+1 }) I.ns fun h' hn2 hs2=>?_
 obtain⟨oD,esD,epD,hoD,hdD,hcD⟩:=hn2.count (PySem.Within.cons name v hw)
 refine wpAny_bind (wpAny_lookBehind hoD (by rw[hdD];exact pastItsLine_dict (Nat.le_trans hcD (by rw[List.length_cons];omega))) ?_)
 exact wpAny_pure (h _ ⟨(hs2.2 _ (Ne.symm I.ne)).trans I.obj,hn2,I.ne⟩ hs2)
theorem make_map {R:Result→Shared→Prop}{vs:List Value}{kw:List (Str×Value)}(X:K.In s.heap)(hm:PySem.W.makesIn K C=true)
  (hi:PySem.W.findIn K (.ref C) "__init__"=some (some (.ref f))) (hf:PySem.W.typeIn K (.ref f)=some (.type "function"))
  (h:codeAny (model prog w) (A.under (.builtin "type.__call__" ⟨.ref C::vs,kw⟩)) (.call (.ref f) ⟨.ref (s.heap.objs.size+1)::vs,kw⟩) (PySem.W.InitBack (s.heap.objs.size+1) R)
   { s with heap:=(s.heap.push PySem.W.emptyDict).push (PySem.W.instObj C s.heap.objs.size) }) :
  codeAny (model prog w) A (.call (.ref C) ⟨vs,kw⟩) R s:=by
 obtain⟨hh,g,d,t,os⟩:=s
 exact PySem.W.make_core (PySem.W.makes_of X hm) (PySem.W.looks_findIn X hi) (fun self=>PySem.W.bind_fn X self hf) (.inl rfl) h
end
def putF (f:Str)(v:V):List (Str×V)→List (Str×V)
 | []=>[(f,v)]
 | (g,x)::r=>if g=f then (g,v)::r else (g,x)::putF f v r
theorem lookup_putF (f g:Str)(v:V):∀ fs:List (Str×V),(putF f v fs).lookup g=if g=f then some v else fs.lookup g
 | []=>by
  show List.lookup g [(f,v)]=_
  by_cases h:g=f
  ·have hb:(g == f)=true:=beq_iff_eq.mpr h
   simp only[List.lookup,hb,if_pos h]
  ·have hb:(g == f)=false:=beq_eq_false_iff_ne.mpr h
   simp only[List.lookup,hb,if_neg h]
 | (k,x)::r=>by
  have ih:=lookup_putF f g v r
  rw[show putF f v ((k,x)::r)=(if k=f then (k,v)::r else (k,x)::putF f v r) from rfl]
  by_cases hk:k=f
  ·rw[if_pos hk]
   by_cases h:g=k
   ·have hb:(g == k)=true:=beq_iff_eq.mpr h
    simp only[List.lookup,hb,if_pos (h.trans hk)]
   ·have hb:(g == k)=false:=beq_eq_false_iff_ne.mpr h
    simp only[List.lookup,hb,if_neg (fun e:g=f=>h (e.trans hk.symm))]
  ·rw[if_neg hk]
   by_cases h:g=k
   ·have hb:(g == k)=true:=beq_iff_eq.mpr h
    simp only[List.lookup,hb,if_neg (fun e:g=f=>hk (h.symm.trans e))]
   ·have hb:(g == k)=false:=beq_eq_false_iff_ne.mpr h
    simp only[List.lookup,hb]
    exact ih
theorem keys_putF (f:Str)(v:V):∀ fs:List (Str×V),f∈(putF f v fs).map (·.1)∧∀ g,g∈fs.map (·.1)→g∈(putF f v fs).map (·.1)
 | []=>⟨by simp[putF],fun g h=>by simp at h⟩
 | (k,x)::r=>by
  obtain⟨i1,i2⟩:=keys_putF f v r
  rw[show putF f v ((k,x)::r)=(if k=f then (k,v)::r else (k,x)::putF f v r) from rfl]
  by_cases hk:k=f
  ·rw[if_pos hk]
   subst hk
   exact⟨by simp,fun g h=>by simpa using h⟩
  ·rw[if_neg hk]
   refine⟨?_,fun g h=>?_⟩
   ·rw[List.map_cons]
    exact List.mem_cons_of_mem _ i1
   ·rw[List.map_cons] at h ⊢
    rcases List.mem_cons.mp h with e | e
    ·exact List.mem_cons.mpr (.inl e)
    ·exact List.mem_cons_of_mem _ (i2 g e)
theorem length_putF (f:Str)(v:V):∀ fs:List (Str×V),(putF f v fs).length≤fs.length+1
 | []=>by simp[putF]
 | (k,x)::r=>by
  have ih:=length_putF f v r
  rw[show putF f v ((k,x)::r)=(if k=f then (k,v)::r else (k,x)::putF f v r) from rfl]
  by_cases hk:k=f
  ·rw[if_pos hk,List.length_cons,List.length_cons];omega
  ·rw[if_neg hk,List.length_cons,List.length_cons];omega
theorem RelO.some_of {v:V}{o:Option Value}(r:RelO (some v) o):∃ u,o=some u∧RelV v u:=by
 cases o with
 | none=>exact (show False from r).elim
 | some u=>exact⟨u,rfl,r⟩
theorem RelO.none_of {o:Option Value}(r:RelO none o):o=none:=by
 cases o with
 | none=>rfl
 | some u=>exact (show False from r).elim
theorem handed_of {v:V}{u:Value}(r:RelV v u):PySem.W.handedIn u=true:=by
 cases v with
 | non=>cases (show u=Value.none from r);rfl
 | bl b=>cases (show u=Value.bool b from r);rfl
 | int i=>obtain⟨t,e⟩:=(show ∃ t,u=Value.int i t from r);cases e;rfl
 | str x=>obtain⟨t,e⟩:=(show ∃ t,u=Value.str x t from r);cases e;rfl
 | byt b=>obtain⟨t,e⟩:=(show ∃ t,u=Value.bytes b t from r);cases e;rfl
 | flt b=>obtain⟨t,e⟩:=(show ∃ t,u=Value.float b t from r);cases e;rfl
 | ref a=>cases (show u=Value.ref a from r);rfl
 | ty n=>cases (show u=Value.type n from r);rfl
section
variable {P:Program}{w:World}{H H':Hp}{h h':Heap}{a C dx:Addr}{fs fs':List (Str×V)}
theorem ins_get (hok:HOk P w H h)(e:H a=some (.ins C dx fs)):∃ mA,ObjM h a dx C mA∧(∀ f,RelO (fs.lookup f) (mA f))∧PySem.Within mA (fs.map (·.1))∧fs.length≤1000∧H dx=some (.own a):=by
 obtain⟨d,z,ne,ob,mA,n,r,q⟩:=(show ObjOk P w H h a (.ins C dx fs) from hok a _ e)
 exact⟨mA,⟨ob,n,ne⟩,r,q,z,d⟩
end
structure Cls (K:PySem.W.Frag)(C:Addr):Prop where
 pg:PySem.W.plainGet K C Str.empty=true
 hd:PySem.W.hasDictIn K C=true
 po:PySem.W.plainOver K C=true
 sa:PySem.W.findIn K (.ref C) "__setattr__"=some (some (.builtin "object.__setattr__"))
theorem Cls.get {K:PySem.W.Frag}{C:Addr}(c:Cls K C)(f:Str):PySem.W.plainGet K C f=true:=c.pg
def NoAttr (K:PySem.W.Frag)(C:Addr)(f:Str):Prop:=PySem.W.findIn K (.ref C) f=some none
theorem NoAttr.taker {K:PySem.W.Frag}{C:Addr}{f:Str}(n:NoAttr K C f):PySem.W.takerIn K C f=some none:=by
 unfold PySem.W.takerIn
 rw[show PySem.W.findIn K (.ref C) f=some none from n]
 rfl
structure Con (K:PySem.W.Frag)(C:Addr)(f:Str)(v:V)(u:Value):Prop where
 at_:PySem.W.findIn K (.ref C) f=some (some u)
 rel:RelV v u
 get:PySem.W.specialIn K u "__get__"=some none
 cp:PySem.W.copiedNames.contains f=false
structure Meth (K:PySem.W.Frag)(C:Addr)(m:Str)(f:Addr):Prop where
 at_:PySem.W.findIn K (.ref C) m=some (some (.ref f))
 fn:PySem.W.isFn K (.ref f)=true
 kp:PySem.W.keepIn K (.ref f)=true
section
variable {X:Cx}{pins:List (Addr×Obj)}{σ:St}{H:Hp}{s:Shared}{a C dx:Addr}{fs:List (Str×V)}{f:Str}{v:V}{A:Around}{E:Value→Shared→Prop}
theorem setattr_ok {y:V}{u:Value}{Q:Unit→Shared→Prop}(I:Inv X pins σ H s)(e:H a=some (.ins C dx fs))(c:Cls X.K C)(n:NoAttr X.K C f)(hl:fs.length<1000)(ry:RelV y u)
  (h:∀ s',Inv X pins σ (upd H a (.ins C dx (putF f y fs))) s'→Q () s'):wpAny (model X.prog X.w) A (setAttr (.ref a) f u) Q E s:=by
 obtain⟨mA,O,r,wi,_,ho⟩:=ins_get I.hok e
 have hz:(fs.map (·.1)).length≤sizeLine:=by rw[List.length_map,sizeLine_eq];omega
 refine set_map I.kIn O c.sa c.po n.taker c.hd wi hz fun h' O' sb=>h _ ?_
 have hd:∃ o,h'.get? dx=some o:=let ⟨o,_,_,e',_⟩:=O'.ns;⟨o,e'⟩
 refine I.write (x:=a) (e:=dx) (by rw[e];exact True.intro) (.inr ho) (fun b q hb z=>(sb.2 b hb).trans z) hd ?_
 refine⟨by rw[upd_ne O.ne];exact ho,?_,O.ne,O'.obj,_,O'.ns,fun g=>?_,fun g hg=>?_⟩
 ·have:=length_putF f y fs;omega
 ·show RelO ((putF f y fs).lookup g) (if g=f then some u else mA g)
  rw[lookup_putF]
  by_cases q:g=f
  ·rw[if_pos q,if_pos q];exact ry
  ·rw[if_neg q,if_neg q];exact r g
 ·by_cases q:g=f
  ·rw[q];exact (keys_putF f y fs).1
  ·refine (keys_putF f y fs).2 g (wi g fun z=>hg ?_)
   show (if g=f then some u else mA g)=none
   rw[if_neg q];exact z
theorem Inv.made (I:Inv X pins σ H s):Inv X pins σ (upd (upd H s.heap.objs.size (.own (s.heap.objs.size+1))) (s.heap.objs.size+1) (.ins C s.heap.objs.size []))
  { s with heap:=(s.heap.push PySem.W.emptyDict).push (PySem.W.instObj C s.heap.objs.size) }:=by
 have e1:(s.heap.push PySem.W.emptyDict).get? s.heap.objs.size=some PySem.W.emptyDict:=Heap.get?_push_size s.heap rfl
 have e2:((s.heap.push PySem.W.emptyDict).push (PySem.W.instObj C s.heap.objs.size)).get? (s.heap.objs.size+1)=some (PySem.W.instObj C s.heap.objs.size):=by
  have:=Heap.get?_push_size (s.heap.push PySem.W.emptyDict) (o:=PySem.W.instObj C s.heap.objs.size) rfl
  rwa [Heap.size_push] at this
 have e3:(s.heap.push PySem.W.emptyDict).Ns s.heap.objs.size (fun _=>none):=⟨PySem.W.emptyDict,#[],_,e1,rfl,(fun e he=>absurd he (by simp)),fun _=>rfl⟩
 have I1:=I.laid (a:=s.heap.objs.size) (o:=.own (s.heap.objs.size+1)) (h':=s.heap.push PySem.W.emptyDict) (t':=s.toks) (fun b u q=>Heap.get?_push_of_some _ q) (Nat.le_refl _) ⟨_,e1⟩
 refine I1.laid (a:=s.heap.objs.size+1) (o:=.ins C s.heap.objs.size []) (t':=s.toks) (fun b u q=>Heap.get?_push_of_some _ q) (Nat.le_of_eq (Heap.size_push _ _)) ?_
 have ne:s.heap.objs.size≠s.heap.objs.size+1:=Nat.ne_of_lt (Nat.lt_succ_self _)
 refine⟨by rw[upd_ne ne,upd_same],Nat.zero_le _,ne,e2,fun _=>none,(Heap.Ns1.of_empty e3).at fun o q=>Heap.get?_push_of_some _ q,fun _=>True.intro,fun y hy=>absurd rfl hy⟩
theorem attr_of {prog:Program}{w:World}{env:Env}{e:Expr}{f:Str}{pos:Pos}{s:Shared}{Q:Value→Shared→Prop}(hb:attributeBase e f env (eval e env)=eval e env)
  (h:wpAny (model prog w) A (eval e env) (fun o s₁=>wpAny (model prog w) A (getAttr o f true) Q E s₁) E s):wpAny (model prog w) A (eval (.Attribute e f pos) env) Q E s :=
 Attribute_any_ h (by rw[arm_eval_Attribute,hb])
end
def sFld (K:PySem.W.Frag)(ta tv:TE)(f:Str):TS:=fun D σ H=>tv σ H fun y H1=>ta σ H1 fun x H2=>∃ a C dx fs,x=.ref a∧H2 a=some (.ins C dx fs)∧Cls K C∧NoAttr K C f∧fs.length<1000 ∧
 D.nx σ (upd H2 a (.ins C dx (putF f y fs)))
section
variable {X:Cx}{o e value:Expr}{f:Str}{pos pos' tpos:Pos}{ta tv:TE}
theorem ps_fld (ha:PE X o ta)(hv:PE X value tv)(hs:swapsWith value (some (.Attribute o f pos')) pos.line X.env=pure false):PS X (.Assign [.Attribute o f pos'] value pos) (sFld X.K ta tv f):=by
 intro pins s σ H D I h
 refine plainObj_wpAny_Assign_Attribute (thn (hv pins s σ H _ I h) fun u s1 ⟨y,H1,I1,ry,q⟩=>thn (ha pins s1 σ H1 _ I1 q) fun ov s2 ⟨x,H2,I2,rx,a,C,dx,fs,ex,ea,c,n,l,q2⟩=>?_) hs
 subst ex
 obtain rfl:ov=Value.ref a:=rx
 exact setattr_ok I2 ea c n l ry fun s3 I3=>⟨σ,_,I3,q2⟩
end
section
variable {X:Cx}{pins:List (Addr×Obj)}{σ:St}{H:Hp}{s:Shared}{A:Around}{E:Value→Shared→Prop}{Q:Value→Shared→Prop}{c:Value}{b:Bool}
inductive TyOf (K:PySem.W.Frag) (H:Hp):V→Value→Prop where
 | non:TyOf K H .non (.type "NoneType")
 | bl (x:Bool):TyOf K H (.bl x) (.type "bool")
 | int (i:Int):TyOf K H (.int i) (.type "int")
 | str (x:Str):TyOf K H (.str x) (.type "str")
 | flt (x:UInt64):TyOf K H (.flt x) (.type "float")
 | lst {a:Addr}{xs:List V} (e:H a=some (.lst xs)):TyOf K H (.ref a) (.type "list")
 | frz {a:Addr}{o:Obj}{xs:List V} (e:H a=some (.frz o (.lst xs))):TyOf K H (.ref a) (.type "list")
 | tup {a:Addr}{xs:List V} (e:H a=some (.tup xs)):TyOf K H (.ref a) (.type "tuple")
 | dK {a:Addr}{kvs:List (Key×V)} (e:H a=some (.dK kvs)):TyOf K H (.ref a) (.type "dict")
 | dT {a:Addr}{kvs:List (List Key×V)} (e:H a=some (.dT kvs)):TyOf K H (.ref a) (.type "dict")
 | ins {a C dx:Addr}{fs:List (Str×V)} (e:H a=some (.ins C dx fs)) (cl:Cls K C) (ha:PySem.W.findIn K (.ref C) "__class__"=some (some (.builtin "object.__class__")))
   (hn:PySem.W.specialIn K (.builtin "object.__class__") "__get__"=some (some (.builtin "getset_descriptor.__get__"))) (htk:PySem.W.takesIn K (.builtin "object.__class__")=some true)
   (hm:PySem.W.mroIn K C (.type "object")=some true):TyOf K H (.ref a) (.ref C)
theorem isinst_ok {x:V}{u t:Value}(I:Inv X pins σ H s)(rx:RelV x u)(ty:TyOf X.K H x t)(e:PySem.W.kitOne X.K t c=some b)(h:∀ tk,Q (.bool b) { s with toks:=tk }) :
  wpAny (model X.prog X.w) A (call (.builtin "isinstance") [u,c]) Q E s:=by
 cases ty with
 | non=>cases (show u=Value.none from rx);exact PySem.W.kia_one PySem.W.kitx_none I.kIn True.intro e (fun z=>nomatch z) h
 | bl y=>cases (show u=Value.bool y from rx);exact PySem.W.kia_one PySem.W.kitx_bool I.kIn True.intro e (fun z=>nomatch z) h
 | int i=>obtain⟨t,q⟩:=(show ∃ t,u=Value.int i t from rx);cases q;exact PySem.W.kia_one PySem.W.kitx_int I.kIn True.intro e (fun z=>nomatch z) h
 | str y=>obtain⟨t,q⟩:=(show ∃ t,u=Value.str y t from rx);cases q;exact PySem.W.kia_one PySem.W.kitx_str I.kIn True.intro e (fun z=>nomatch z) h
 | flt y=>obtain⟨t,q⟩:=(show ∃ t,u=Value.float y t from rx);cases q;exact PySem.W.kia_one PySem.W.kitx_float I.kIn True.intro e (fun z=>nomatch z) h
 | @lst a xs ea =>
  cases (show u=Value.ref a from rx)
  obtain⟨_,_,n,_,h1⟩:=(show ObjOk X.prog X.w H s.heap a (.lst xs) from I.hok a _ ea)
  exact PySem.W.kia_one PySem.W.kitx_list I.kIn ⟨_,h1,rfl⟩ e (fun z=>nomatch z) h
 | @frz a ob xs ea =>
  cases (show u=Value.ref a from rx)
  obtain⟨_,_,_,n,_,h1⟩:=(show ObjOk X.prog X.w H s.heap a (.frz ob (.lst xs)) from I.hok a _ ea)
  exact PySem.W.kia_one PySem.W.kitx_list I.kIn ⟨_,h1,rfl⟩ e (fun z=>nomatch z) h
 | @tup a xs ea =>
  cases (show u=Value.ref a from rx)
  obtain⟨_,_,_,p⟩:=(show ObjOk X.prog X.w H s.heap a (.tup xs) from I.hok a _ ea)
  obtain⟨o,h1,h2,_⟩:=p
  exact PySem.W.kia_one PySem.W.kitx_tuple I.kIn ⟨o,h1,h2⟩ e (fun z=>nomatch z) h
 | @dK a kvs ea =>
  cases (show u=Value.ref a from rx)
  obtain⟨_,_,vs,_,p⟩:=(show ObjOk X.prog X.w H s.heap a (.dK kvs) from I.hok a _ ea)
  obtain⟨o,es,ep,h1,h2,_⟩:=p
  exact PySem.W.kia_one PySem.W.kitx_dict I.kIn ⟨o,h1,h2.1⟩ e (fun z=>nomatch z) h
 | @dT a kvs ea =>
  cases (show u=Value.ref a from rx)
  obtain⟨_,_,xs,_,o,es,ep,h1,h2,_⟩:=(show ObjOk X.prog X.w H s.heap a (.dT kvs) from I.hok a _ ea)
  exact PySem.W.kia_one PySem.W.kitx_dict I.kIn ⟨o,h1,h2.1⟩ e (fun z=>nomatch z) h
 | @ins a C dx fs ea cl ha hn htk hm =>
  cases (show u=Value.ref a from rx)
  obtain⟨mA,O,_⟩:=ins_get I.hok ea
  obtain⟨od,J,_⟩:=O.look
  exact PySem.W.kia_one (PySem.W.kitx_own (cl.get _) cl.hd ha hn htk hm) I.kIn J e (fun z=>nomatch z) h
end
end L2
namespace L2
open PySem PySem.Spec PyProof.Rows
structure Room (k:Nat)(A:Around):Prop where
 hd:A.handled=none
 dp:A.depth+3 * k+5<recursionLimit
 un:A.units+16 * k+200<cLine
theorem Room.mono {j k:Nat}{A:Around}(r:Room k A)(h:j≤k):Room j A:=⟨r.hd,by have:=r.dp;omega,by have:=r.un;omega⟩
theorem Room.deeper {k:Nat}{A:Around}(r:Room (k+1) A)(env:Env):Room k (A.deeper env) :=
 ⟨r.hd,by have:=r.dp;show A.depth+1+3 * k+5<_;omega,by have:=r.un;show A.units+3+16 * k+200<_;omega⟩
theorem Room.in1 {k:Nat}{A:Around}(r:Room (k+1) A):Room k A.in1 :=
 ⟨r.hd,by have:=r.dp;show A.depth+3 * k+5<_;omega,by have:=r.un;show A.units+1+16 * k+200<_;omega⟩
theorem make_depth {A:Around}{C:Addr}{us:List Value}{kw:List (Str×Value)}:(A.under (.builtin "type.__call__" ⟨.ref C::us,kw⟩)).depth=A.depth+1:=by
 first | rfl | simp[Around.under,Code.weight,Code.isCreation,Code.isGuard,Code.isCaller,Code.frames,Code.isFrame,guardIds]
theorem make_units {A:Around}{C:Addr}{us:List Value}{kw:List (Str×Value)}:(A.under (.builtin "type.__call__" ⟨.ref C::us,kw⟩)).units=A.units+1:=by
 first | rfl | simp[Around.under,Code.cUnits,Code.frames,Code.isFrame]
theorem Room.make {k:Nat}{A:Around}(r:Room (k+1) A)(C:Addr)(us:List Value)(kw:List (Str×Value)):Room k (A.under (.builtin "type.__call__" ⟨.ref C::us,kw⟩)) :=
 ⟨r.hd,by have:=r.dp;rw[make_depth];omega,by have:=r.un;rw[make_units];omega⟩
theorem Room.depth {k:Nat}{A:Around}(r:Room k A):A.depth<recursionLimit:=by have:=r.dp;omega
theorem Room.units {k:Nat}{A:Around}(r:Room k A):A.units+64<cLine:=by have:=r.un;omega
theorem Room.units0 {k:Nat}{A:Around}(r:Room k A):A.units<cLine:=by have:=r.un;omega
def tNil:TA:=fun _ H Q=>Q [] H
def tCons (ta:TE)(tr:TA):TA:=fun σ H Q=>ta σ H fun x H1=>tr σ H1 fun xs H2=>Q (x::xs) H2
section
variable {X:Cx}{e:Expr}{es:List Expr}{te:TE}{t:TA}{pos:Pos}
theorem pa_nil:PA X [] tNil:=fun _ _ _ _ H Q I h=>Calls.spliced_nil ⟨[],H,I,.nil,h⟩
theorem pa_cons (ha:PE X e te)(hr:PA X es t)(hs:starEach (e::es) X.env=(false,eval e X.env)::starEach es X.env:=by rfl):PA X (e::es) (tCons te t):=by
 intro pos pins s σ H Q I h
 rw[hs]
 show wpAny _ _ (spliced ((false,eval e X.env)::backTo pos (starEach es X.env))) _ _ s
 refine Calls.spliced_cons (thn (ha pins s σ H _ I h) fun u s1 ⟨x,H1,I1,r1,q1⟩=>?_)
 exact thn (hr pos pins s1 σ H1 _ I1 q1) fun us s2 ⟨xs,H2,I2,r2,q2⟩=>⟨x::xs,H2,I2,.cons r1 r2,q2⟩
def tTup (t:TA):TE:=fun σ H Q=>t σ H fun xs H1=>xs.length≤sizeLine∧∀ p,H1 p=none→Q (.ref p) (upd H1 p (.tup xs))
def tLst (t:TA):TE:=fun σ H Q=>t σ H fun xs H1=>xs.length≤sizeLine∧∀ p,H1 p=none→Q (.ref p) (upd H1 p (.lst xs))
theorem pe_tup {x1}(h:PA X es t):PE X (.Tuple es x1 pos) (tTup t):=by
 intro pins s σ H Q I hq
 refine wpAny_Tuple_spliced (thn (h pos pins s σ H _ I hq) fun us s1 ⟨xs,H1,I1,r,z,q⟩=>⟨by rw[← r.length];exact z,?_⟩)
 have hf:H1 s1.heap.objs.size=none:=I1.hok.fresh (Nat.le_refl _)
 refine⟨.ref s1.heap.objs.size,upd H1 s1.heap.objs.size (.tup xs),I1.laid (t':=s1.toks) (fun b u e=>Heap.get?_push_of_some _ e) (Nat.le_refl _) ?_,rfl,q _ hf⟩
 exact⟨z,us,r,⟨_,Heap.get?_push_size _ rfl,rfl,_,rfl⟩⟩
theorem pe_lst (h:PA X es t):PE X (.List es pos) (tLst t):=by
 intro pins s σ H Q I hq
 refine wpAny_List_spliced (thn (h pos pins s σ H _ I hq) fun us s1 ⟨xs,H1,I1,r,z,q⟩=>⟨by rw[← r.length];exact z,?_⟩)
 have hf:H1 s1.heap.objs.size=none:=I1.hok.fresh (Nat.le_refl _)
 refine⟨.ref s1.heap.objs.size,upd H1 s1.heap.objs.size (.lst xs),I1.laid (t':=s1.toks) (fun b u e=>Heap.get?_push_of_some _ e) (Nat.le_refl _) ?_,rfl,q _ hf⟩
 exact⟨z,us,0,r,Heap.get?_push_size _ rfl⟩
end
abbrev Sp:=List V→Hp→VK→XK→Prop
abbrev CXT:=List Env→Hp→Shared→XK→Value→Shared→Prop
structure Env0 (P:Program)(w:World)(K:PySem.W.Frag)(mg:Str→Option Value)(base:Heap)(A:Around)(outer:List Env)(s:Shared)(H:Hp):Prop where
 frames:A.frames=some outer
 mod:Mod K mg base
 bs:∀ b o,base.get? b=some o→s.heap.get? b=some o∧H b=none
 bsz:base.objs.size≤s.heap.objs.size
 funs:s.heap.FunFrames base outer
 frf:∀ b∈frs outer,H b=none
 hok:HOk P w H s.heap
 bare:AllBare s.gens
def CE (outer:List Env)(P:Program)(w:World)(H:Hp)(s:Shared)(Q:VK)(u:Value)(s':Shared):Prop :=
 ∃ v H',s'.os=s.os∧AllBare s'.gens∧Un (frs outer) [] H H' s.heap s'.heap∧HOk P w H' s'.heap∧RelV v u∧Q v H'
def CR (CX:CXT)(outer:List Env)(P:Program)(w:World)(H:Hp)(s:Shared)(Q:VK)(E:XK)(r:Result)(s':Shared):Prop :=
 match r with
 | .ok (.ret u)=>CE outer P w H s Q u s'
 | .ok _=>False
 | .error e=>CX outer H s E e s'
structure FnOk (P:Program)(w:World)(K:PySem.W.Frag)(mg:Str→Option Value)(base:Heap)(CX:CXT)(k:Nat)(f:Addr)(fd:FuncData)(ps:List Str)(sp:Sp):Prop where
 len:∀ vs H Q E,sp vs H Q E→vs.length=ps.length
 run:∀ (A:Around) (outer:List Env) (s:Shared) (H:Hp) (args:Args) (us:List Value) (vs:List V) (Q:VK) (E:XK),Room k A→Env0 P w K mg base A outer s H→BindsTo s fd args (ps.zip us)→Vals vs us→sp vs H Q E →
  codeAny (model P w) A (.call (.ref f) args) (CR CX outer P w H s Q E) s
theorem FnOk.mono {P:Program}{w:World}{K:PySem.W.Frag}{mg:Str→Option Value}{base:Heap}{CX:CXT}{j k:Nat}{f:Addr}{fd:FuncData}{ps:List Str}{sp:Sp}(F:FnOk P w K mg base CX j f fd ps sp)(h:j≤k) :
  FnOk P w K mg base CX k f fd ps sp:=⟨F.len,fun A outer s H args us vs Q E hr=>F.run A outer s H args us vs Q E (hr.mono h)⟩
theorem FnOk.imp {P:Program}{w:World}{K:PySem.W.Frag}{mg:Str→Option Value}{base:Heap}{CX:CXT}{k:Nat}{f:Addr}{fd:FuncData}{ps:List Str}{sp sp':Sp}(F:FnOk P w K mg base CX k f fd ps sp)
  (h:∀ vs H Q E,sp' vs H Q E→sp vs H Q E):FnOk P w K mg base CX k f fd ps sp' :=
 ⟨fun vs H Q E q=>F.len vs H Q E (h _ _ _ _ q),fun A outer s H args us vs Q E hr he hb hv hs=>F.run A outer s H args us vs Q E hr he hb hv (h _ _ _ _ hs)⟩
theorem Env0.make {P:Program}{w:World}{K:PySem.W.Frag}{mg:Str→Option Value}{base:Heap}{A:Around}{outer:List Env}{s:Shared}{H:Hp}(e:Env0 P w K mg base A outer s H)(C:Addr)(us:List Value)(kw:List (Str×Value)) :
  Env0 P w K mg base (A.under (.builtin "type.__call__" ⟨.ref C::us,kw⟩)) outer s H:=⟨by first | exact e.frames | (simpa [Around.under,Code.envs,Code.isFrame,pushEnvs] using e.frames),e.mod,e.bs,e.bsz,e.funs,e.frf,e.hok,e.bare⟩
theorem Env0.in1 {P:Program}{w:World}{K:PySem.W.Frag}{mg:Str→Option Value}{base:Heap}{A:Around}{outer:List Env}{s:Shared}{H:Hp}(e:Env0 P w K mg base A outer s H) :
  Env0 P w K mg base A.in1 outer s H:=⟨e.frames,e.mod,e.bs,e.bsz,e.funs,e.frf,e.hok,e.bare⟩
section
variable {X:Cx}{pins:List (Addr×Obj)}{σ:St}{H:Hp}{s s':Shared}
theorem Inv.env0 (I:Inv X pins σ H s):Env0 X.prog X.w X.K X.mg X.base X.A X.stack s H :=
 ⟨I.ok.frames,I.ok.mod,I.bs,Nat.le_trans I.ok.bsz I.sz,I.stack,I.stkFree,I.hok,I.bare⟩
theorem Inv.after {Q:VK}{u:Value}(I:Inv X pins σ H s)(h:CE X.stack X.prog X.w H s Q u s'):EP X pins σ Q u s':=by
 obtain⟨v,H',os,bare,un,hok,r,q⟩:=h
 obtain⟨hh,g,d,t,os'⟩:=s'
 obtain rfl:os'=s.os:=os
 exact⟨v,H',I.call (h':=hh) (g':=g) (d':=d) (t':=t) (ch:=[]) un hok bare (fun b z=>absurd z (by simp)),r,q⟩
end
def tCall (sp:Sp)(dvs:List V)(E:XK)(t:TA):TE:=fun σ H Q=>t σ H fun vs H1=>sp (vs++dvs) H1 Q E
def tMake (C:Addr)(sp:Sp)(dvs:List V)(E:XK)(t:TA):TE:=fun σ H Q=>t σ H fun vs H1=>∀ x dx,H1 x=none→H1 dx=none→dx≠x →
 sp (.ref x::(vs++dvs)) (upd (upd H1 dx (.own x)) x (.ins C dx [])) (fun v H2=>v=.non∧Q (.ref x) H2) E
def Binds (K:PySem.W.Frag)(fd:FuncData)(ps:List Str)(ds:List Value):Prop :=
 ∀ (s:Shared) (us:List Value),K.In s.heap→(us++ds).length=ps.length→BindsTo s fd ⟨us,[]⟩ (ps.zip (us++ds))
theorem Binds.all {K:PySem.W.Frag}{fd:FuncData}{ps:List Str}(h:∀ us:List Value,us.length=ps.length→bindArgs fd ⟨us,[]⟩=pure (ps.zip us)):Binds K fd ps []:=fun s us _ hl=>by
 rw[List.append_nil] at hl ⊢
 exact .of_eq (h us hl)
def Passes (CX:CXT)(X:Cx)(E:XK):Prop:=∀ (pins:List (Addr×Obj)) (σ:St) (H:Hp) (s:Shared) (e:Value) (s':Shared),Inv X pins σ H s→CX X.stack H s E e s'→X.xe e s'
section
variable {X:Cx}{CX:CXT}{k:Nat}{f C:Addr}{fd:FuncData}{ps:List Str}{sp:Sp}{dvs:List V}{ds:List Value}{E:XK}{x m:Str}{p pos apos:Pos}{e o:Expr}{es:List Expr}{ta:TE}{t:TA}
theorem run_fn {pins:List (Addr×Obj)}{σ:St}{H:Hp}{s:Shared}{Q:VK}{us:List Value}{vs:List V}(F:FnOk X.prog X.w X.K X.mg X.base CX k f fd ps sp)(hr:Room k X.A)(hb:Binds X.K fd ps ds)(hd:Vals dvs ds)(hx:Passes CX X E)
  (I:Inv X pins σ H s) (r:Vals vs us) (h:sp (vs++dvs) H Q E):wpAny (model X.prog X.w) X.A (call (.ref f) us) (EP X pins σ Q) X.xe s:=by
 have r2:Vals (vs++dvs) (us++ds):=r.append hd
 have hl:(us++ds).length=ps.length:=by rw[← r2.length];exact F.len _ _ _ _ h
 refine wpAny_call (codeAny_mono (F.run X.A X.stack s H ⟨us,[]⟩ (us++ds) (vs++dvs) Q E hr I.env0 (hb s us I.kIn hl) r2 h) fun r s' hq=>?_)
 cases r with
 | error e=>exact hx pins σ H s e s' I hq
 | ok fl =>
  cases fl with
  | ret u=>exact I.after hq
  | next=>exact False.elim hq
  | brk=>exact False.elim hq
  | cont=>exact False.elim hq
theorem pe_call (F:FnOk X.prog X.w X.K X.mg X.base CX k f fd ps sp)(hr:Room k X.A)(hg:Gl X x)(hm:X.mg x=some (.ref f))(hk:PySem.W.keepIn X.K (.ref f)=true)(hb:Binds X.K fd ps ds)(hd:Vals dvs ds)(hx:Passes CX X E)
  (ha:PA X (e::es) t) (hdb:(x == ("__debug__":Str))=false:=by decide) (he:starEach (e::es) X.env=(false,eval e X.env)::starEach es X.env:=by rfl) (hpl:(backTo pos (starEach es X.env)).any (·.1)=false:=by rfl) :
  PE X (.Call (.Name x p) (e::es) [] pos) (tCall sp dvs E t):=by
 intro pins s σ H Q I h
 refine wpAny_Call_Name_kw (ld_glob I hg hm ?_ hdb)
 refine PySem.W.callWith_K (h₀:=X.base) I.ok.mod.kin hk (thn (ha pos pins s σ H _ I h) fun us s1 ⟨vs,H1,I1,r,q⟩=>⟨I1.kIn,?_⟩) he hpl
 exact run_fn F hr hb hd hx I1 r q
structure Mk (K:PySem.W.Frag)(C f:Addr):Prop where
 makes:PySem.W.makesIn K C=true
 init:PySem.W.findIn K (.ref C) "__init__"=some (some (.ref f))
 fn:PySem.W.isFn K (.ref f)=true
 kp:PySem.W.keepIn K (.ref C)=true
theorem run_make {pins:List (Addr×Obj)}{σ:St}{H:Hp}{s:Shared}{Q:VK}{us:List Value}{vs:List V}(M:Mk X.K C f)(F:FnOk X.prog X.w X.K X.mg X.base CX k f fd ps sp)(hr:Room (k+1) X.A)(hb:Binds X.K fd ps ds)(hd:Vals dvs ds)
  (hx:Passes CX X E) (I:Inv X pins σ H s) (r:Vals vs us)
  (h:∀ x dx,H x=none→H dx=none→dx≠x→sp (.ref x::(vs++dvs)) (upd (upd H dx (.own x)) x (.ins C dx [])) (fun v H2=>v=.non∧Q (.ref x) H2) E) :
  wpAny (model X.prog X.w) X.A (call (.ref C) us) (EP X pins σ Q) X.xe s:=by
 have hq:=h (s.heap.objs.size+1) s.heap.objs.size (I.hok.fresh (Nat.le_succ _)) (I.hok.fresh (Nat.le_refl _)) (Nat.ne_of_lt (Nat.lt_succ_self _))
 have I2:=Inv.made (C:=C) I
 have r2:Vals (V.ref (s.heap.objs.size+1)::(vs++dvs)) (Value.ref (s.heap.objs.size+1)::(us++ds)):=.cons rfl (r.append hd)
 have hl:(Value.ref (s.heap.objs.size+1)::us++ds).length=ps.length:=by
  have e:=r2.length
  rw[F.len _ _ _ _ hq] at e
  exact e.symm
 refine wpAny_call (make_map (f:=f) I.kIn M.makes M.init (beq_iff_eq.mp M.fn) (codeAny_mono (F.run _ X.stack _ _ ⟨Value.ref (s.heap.objs.size+1)::us,[]⟩ (Value.ref (s.heap.objs.size+1)::(us++ds)) _ _ E (hr.make C us [])
  (I2.env0.make C us []) (hb _ (Value.ref (s.heap.objs.size+1)::us) I2.kIn hl) r2 hq) fun r s' hq'=>?_))
 cases r with
 | error e=>exact hx pins σ _ _ e s' I2 hq'
 | ok fl =>
  cases fl with
  | ret u =>
   obtain⟨v,H',I3,rv,ev,q3⟩:=I2.after hq'
   subst ev
   exact⟨rv,⟨V.ref (s.heap.objs.size+1),H',I3,rfl,q3⟩⟩
  | next=>exact False.elim hq'
  | brk=>exact False.elim hq'
  | cont=>exact False.elim hq'
theorem pe_make (M:Mk X.K C f)(F:FnOk X.prog X.w X.K X.mg X.base CX k f fd ps sp)(hr:Room (k+1) X.A)(hg:Gl X x)(hm:X.mg x=some (.ref C))(hb:Binds X.K fd ps ds)(hd:Vals dvs ds)(hx:Passes CX X E)
  (ha:PA X (e::es) t) (hdb:(x == ("__debug__":Str))=false:=by decide) (he:starEach (e::es) X.env=(false,eval e X.env)::starEach es X.env:=by rfl) (hpl:(backTo pos (starEach es X.env)).any (·.1)=false:=by rfl) :
  PE X (.Call (.Name x p) (e::es) [] pos) (tMake C sp dvs E t):=by
 intro pins s σ H Q I h
 refine wpAny_Call_Name_kw (ld_glob I hg hm ?_ hdb)
 refine PySem.W.callWith_K (h₀:=X.base) I.ok.mod.kin M.kp (thn (ha pos pins s σ H _ I h) fun us s1 ⟨vs,H1,I1,r,q⟩=>⟨I1.kIn,?_⟩) he hpl
 exact run_make M F hr hb hd hx I1 r q
end
def PK (X:Cx)(kws:List Keyword)(t:TA):Prop :=
 ∀ (pos:Pos) (pins:List (Addr×Obj)) (s:Shared) (σ:St) (H:Hp) (Q:List V→Hp→Prop),Inv X pins σ H s→t σ H Q→wpAny (model X.prog X.w) X.A (evalAll ((backToKw pos (keywordEach kws X.env)).map (·.2))) (AP X pins σ Q) X.xe s
section
variable {X:Cx}{CX:CXT}{k:Nat}{f C:Addr}{fd:FuncData}{ps ks:List Str}{sp:Sp}{E:XK}{x m:Str}{p pos apos kpos:Pos}{e o:Expr}{es:List Expr}{kws:List Keyword}{te ta:TE}{t tk:TA}{nm:Option Str}
theorem pk_nil:PK X [] tNil:=fun _ _ _ _ H Q I h=>wpAny_evalAll_nil ⟨[],H,I,.nil,h⟩
theorem pk_cons (ha:PE X e te)(hr:PK X kws t):PK X (⟨nm,e,kpos⟩::kws) (tCons te t):=by
 intro pos pins s σ H Q I h
 show wpAny _ _ (evalAll ((do let v ← eval e X.env;standAt pos;pure v)::(backToKw pos (keywordEach kws X.env)).map (·.2))) _ _ s
 refine wpAny_evalAll_cons (wpAny_bind (thn (ha pins s σ H _ I h) fun u s1 ⟨x,H1,I1,r1,q1⟩=>wpAny_bind (wpAny_standAt (wpAny_pure ?_))))
 exact thn (hr pos pins s1 σ H1 _ I1 q1) fun us s2 ⟨xs,H2,I2,r2,q2⟩=>⟨x::xs,H2,I2,.cons r1 r2,q2⟩
structure KBinds (K:PySem.W.Frag)(fd:FuncData)(ps ks:List Str)(g:List Value→List Value→List Value)(gV:List V→List V→List V):Prop where
 to:∀ (s:Shared) (us ws:List Value),K.In s.heap→(g us ws).length=ps.length→BindsTo s fd ⟨us,ks.zip ws⟩ (ps.zip (g us ws))
 rel:∀ {vs:List V}{us:List Value}{zs:List V}{ws:List Value},Vals vs us→Vals zs ws→Vals (gV vs zs) (g us ws)
variable {g:List Value→List Value→List Value}{gV:List V→List V→List V}
end
structure FnScope (N P:List Str)(sc:Scope):Prop where
 kind:sc.kind=.function
 co:sc.isCoroutine=false
 gen:sc.isGenerator=false
 nd:N.Nodup
 pre:N.take P.length=P
 par:∀ x∈P,sc.names.lookup x=some .local∨sc.names.lookup x=some .cell
 nofree:∀ y∈sc.names,y.2≠.free
theorem fs{N P:List Str}{sc:Scope}(a:sc.kind=.function:=by rfl)(b:sc.isCoroutine=false:=by rfl)(c:sc.isGenerator=false:=by rfl)(d:N.Nodup:=by decide +kernel)(e:N.take P.length=P:=by rfl)(f:∀ x∈P,sc.names.lookup x=some .local∨sc.names.lookup x=some .cell:=by decide +kernel)(g:∀ y∈sc.names,y.2≠.free:=by decide +kernel):FnScope N P sc:=⟨a,b,c,d,e,f,g⟩
theorem bindL_out {kindOf:Str→Option NameKind}{x:Str}:∀ {binds:List (Str×Value)}{m:Str→Option Value},(∀ v,(x,v)∉binds)→bindL kindOf binds m x=m x
 | [],_,_=>rfl
 | (n,v)::r,m,h=>by
  unfold bindL
  rw[bindL_out fun w hw=>h w (List.mem_cons_of_mem _ hw)]
  split
  ·have:x≠n:=by rintro rfl;exact h v List.mem_cons_self
   simp[this]
  ·rfl
theorem bindC_out {kindOf:Str→Option NameKind}{x:Str}:∀ {binds:List (Str×Value)}{m:Str→Option Value},(∀ v,(x,v)∉binds)→bindC kindOf binds m x=m x
 | [],_,_=>rfl
 | (n,v)::r,m,h=>by
  unfold bindC
  rw[bindC_out fun w hw=>h w (List.mem_cons_of_mem _ hw)]
  split
  ·rfl
  ·have:x≠n:=by rintro rfl;exact h v List.mem_cons_self
   simp[this]
theorem bindL_get {kindOf:Str→Option NameKind}{x:Str}{v:Value}:∀ {P:List Str}{vs:List Value}{i:Nat}{m:Str→Option Value},P.Nodup→P[i]?=some x→vs[i]?=some v→kindOf x=some .local →
  bindL kindOf (P.zip vs) m x=some v
 | [],_,_,_,_,h,_,_=>by simp at h
 | _::_,[],_,_,_,_,h,_=>by simp at h
 | p::P,w::vs,0,m,nd,h1,h2,hk=>by
  simp at h1 h2;subst h1;subst h2
  show bindL kindOf ((p,w)::P.zip vs) m p=_
  unfold bindL
  rw[bindL_out fun v hv=>(List.nodup_cons.mp nd).1 (List.of_mem_zip hv).1,if_pos hk]
  simp
 | p::P,w::vs,i+1,m,nd,h1,h2,hk=>by
  show bindL kindOf ((p,w)::P.zip vs) m x=_
  unfold bindL
  exact bindL_get (i:=i) (List.nodup_cons.mp nd).2 (by simpa using h1) (by simpa using h2) hk
theorem bindC_get {kindOf:Str→Option NameKind}{x:Str}{v:Value}:∀ {P:List Str}{vs:List Value}{i:Nat}{m:Str→Option Value},P.Nodup→P[i]?=some x→vs[i]?=some v→kindOf x≠some .local →
  bindC kindOf (P.zip vs) m x=some v
 | [],_,_,_,_,h,_,_=>by simp at h
 | _::_,[],_,_,_,_,h,_=>by simp at h
 | p::P,w::vs,0,m,nd,h1,h2,hk=>by
  simp at h1 h2;subst h1;subst h2
  show bindC kindOf ((p,w)::P.zip vs) m p=_
  unfold bindC
  rw[bindC_out fun v hv=>(List.nodup_cons.mp nd).1 (List.of_mem_zip hv).1,if_neg hk]
  simp
 | p::P,w::vs,i+1,m,nd,h1,h2,hk=>by
  show bindC kindOf ((p,w)::P.zip vs) m x=_
  unfold bindC
  exact bindC_get (i:=i) (List.nodup_cons.mp nd).2 (by simpa using h1) (by simpa using h2) hk
def start (N:List Str)(vs:List V):St:=vs.map some++List.replicate (N.length - vs.length) none
def cxOf (CX:CXT)(P:Program)(w:World)(K:PySem.W.Frag)(mg:Str→Option Value)(base:Heap)(N:List Str)(qual:Str)(scope:Scope)(f:Addr)(cd:Value)(A:Around)(outer:List Env)(s:Shared)(H:Hp)(E:XK):Cx where
 prog:=P
 w:=w
 K:=K
 mg:=mg
 base:=base
 A:=A.deeper (envOfC qual scope s.heap.objs.size f cd)
 N:=N
 s₀:=s
 H₀:=H
 env:=envOfC qual scope s.heap.objs.size f cd
 outer:=outer
 stack:=envOfC qual scope s.heap.objs.size f cd::outer
 ex:=[]
 calm:=true
 fn:=fun _=>true
 pn:=[]
 xe:=fun e s'=>wpAny (model P w) (A.deeper (envOfC qual scope s.heap.objs.size f cd)) (leaving (envOfC qual scope s.heap.objs.size f cd) e) (fun _ s''=>CX outer H s E e s'') (fun e' s''=>CX outer H s E e' s'') s'
theorem cell_has {sc:Scope}{n:Nat}{x:Str}(h:sc.names.lookup x=some .cell):∃ c,(cellsFrom n sc.names []).lookup x=some c:=by
 have q:=PySem.W.cellsFrom_some sc.names n [] (.inl h)
 exact Option.isSome_iff_exists.mp q
theorem inv_start {CX:CXT}{P:Program}{w:World}{K:PySem.W.Frag}{mg:Str→Option Value}{base:Heap}{N ps:List Str}{qual:Str}{scope:Scope}{f:Addr}{cd:Value}{A:Around}{outer:List Env}{s s1:Shared}{H:Hp}{E:XK}{us:List Value}{vs:List V}
  (S:FnScope N ps scope) (hd:A.handled=none) (e0:Env0 P w K mg base A outer s H) (hl:vs.length=ps.length) (r:Vals vs us)
  (x:InCallC s s.heap.objs.size (bindL (envOfC qual scope s.heap.objs.size f cd).kindOf (ps.zip us) fun _=>none) (cellsFrom (s.heap.objs.size+1) scope.names []) (bindC (envOfC qual scope s.heap.objs.size f cd).kindOf (ps.zip us) fun _=>none) s1) :
  Inv (cxOf CX P w K mg base N qual scope f cd A outer s H E) [] (start N vs) H s1:=by
 have hpl:ps.length≤N.length:=by have:=congrArg List.length S.pre;rw[List.length_take] at this;omega
 obtain⟨h1,tk,rfl,hk⟩:=x.done
 have noA:∀ b:Addr,b∉(cxOf CX P w K mg base N qual scope f cd A outer s H E).ex:=fun b z=>absurd (show b∈([]:List Addr) from z) (by simp)
 refine⟨⟨e0.mod,S.kind,rfl,rfl,Nat.le_refl _,fun y z c h1 h2=>?_,fun y hy=>?_,fun y c _ h=>?_,fun _=>hd,Around.frames_deeper e0.frames,.inr ⟨rfl,rfl⟩,fun b z=>absurd z (noA b),e0.bs,e0.bsz,fun b _ _=>noA b,fun b z=>absurd z (noA b),e0.funs,e0.frf⟩,
  rfl,e0.bare,Un.kept hk,⟨_,x.toInCall.ns,fun i y v h1 h2 h3=>?_⟩,fun y c h=>⟨_,x.cell y c h⟩,e0.hok.fresh (Nat.le_refl _),fun y c h=>?_,fun p hp=>absurd (show p∈([]:List (Addr×Obj)) from hp) (by simp),e0.hok.kept hk,?_⟩
 ·exact name_of_addr x.apart (PySem.mem_of_lookup h1) (PySem.mem_of_lookup h2)
 ·have hy:scope.names.lookup y=some .cell∨scope.names.lookup y=some .free:=hy
  rcases hy with hy | hy
  ·exact cell_has hy
  ·exact absurd rfl (S.nofree _ (PySem.mem_of_lookup hy))
 ·exact Nat.le_of_lt (x.above y c (PySem.mem_of_lookup h))
 ·have hi:i<vs.length:=by
   unfold start at h2
   by_cases hi:i<vs.length
   ·exact hi
   ·rw[List.getElem?_append_right (by simpa using hi)] at h2
    rw[List.getElem?_replicate] at h2
    split at h2 <;> cases h2
  have ha:vs[i]?=some v:=by
   unfold start at h2
   rw[List.getElem?_append_left (by simpa using hi),List.getElem?_map] at h2
   cases e:vs[i]? with
   | none=>rw[e] at h2;cases h2
   | some a=>rw[e] at h2;cases h2;rfl
  obtain⟨u,hu,rv⟩:=r.get ha
  have hp:ps[i]?=some y:=by
   rw[← S.pre,List.getElem?_take_of_lt (by omega)];exact h1
  have ndP:ps.Nodup:=by rw[← S.pre];exact S.nd.sublist (List.take_sublist _ _)
  refine⟨u,rv,?_⟩
  rcases S.par y (List.mem_of_getElem? hp) with k | k
  ·exact .inl ⟨k,bindL_get ndP hp hu k⟩
  ·obtain⟨c,e⟩:=cell_has (n:=s.heap.objs.size+1) k
   refine .inr ⟨.inl k,c,e,?_⟩
   have q:=x.cell y c e
   rw[bindC_get ndP hp hu (by show scope.names.lookup y≠_;rw[k];decide)] at q
   exact q
 ·exact e0.hok.fresh (Nat.le_of_lt (x.above y c (PySem.mem_of_lookup h)))
 ·unfold start
  show _=N.length
  rw[List.length_append,List.length_map,List.length_replicate]
  omega
theorem fn_of {CX:CXT}{P:Program}{w:World}{K:PySem.W.Frag}{mg:Str→Option Value}{base:Heap}{k:Nat}{f:Addr}{name qual:Str}{params:Arguments}{body:List Stmt}{scope:Scope}{dV kV doc pm cdv ct oc:Value}{an od:Option Addr}
  {osl:Array (Option Value)}{N ps:List Str}{sp:Sp} (lk:K.lookup f=some ⟨oc,od,.func (PySem.W.fnOf name qual params body scope dV kV doc pm an cdv ct),osl⟩) (hcd:PySem.W.codeIn K cdv qual=true) (S:FnScope N ps scope)
  (len:∀ vs H Q E,sp vs H Q E→vs.length=ps.length)
  (hbody:∀ (A:Around) (outer:List Env) (s:Shared) (H:Hp) (vs:List V) (Q:VK) (E:XK),Room k (A.deeper (envOfC qual scope s.heap.objs.size f cdv))→sp vs H Q E →
   ∃ t,PSs (cxOf CX P w K mg base N qual scope f cdv A outer s H E) body t∧t { nx:=fun _ H'=>Q .non H',rt:=Q } (start N vs) H) :
  FnOk P w K mg base CX (k+1) f (PySem.W.fnOf name qual params body scope dV kV doc pm an cdv ct) ps sp:=by
 refine⟨len,fun A outer s H args us vs Q E hr e0 hb r hsp=>?_⟩
 have hl:=len _ _ _ _ hsp
 have KX:K.In s.heap:=e0.mod.kin.keeps fun b o e=>(e0.bs b o e).1
 have lim:s.heap.NoLimit:=e0.mod.nolimit.keeps fun b o e=>(e0.bs b o e).1
 have hkind:∀ y∈ps.zip us,scope.names.lookup y.1=some .local∨(scope.names.lookup y.1=some .cell∧((cellsFrom (s.heap.objs.size+1) scope.names []).lookup y.1).isSome=true):=fun ⟨n,v⟩ hy=>by
  rcases S.par n (List.of_mem_zip hy).1 with q | q
  ·exact .inl q
  ·exact .inr ⟨q,PySem.W.cellsFrom_some _ _ _ (.inl q)⟩
 refine codeAny_call_function hr.depth (KX _ _ lk) rfl S.co S.gen rfl (PySem.W.codeRec_of KX hcd) (hb _ _ _ _ ?_)
 refine wpAny_newFunctionEnv_cells S.kind hkind fun env he s1 x=>?_
 subst he
 refine⟨lim.keeps x.toInCall.keep,codeAny_func ?_⟩
 obtain⟨t,ht,hq⟩:=hbody A outer s H vs Q E (hr.deeper _) hsp
 have I:Inv (cxOf CX P w K mg base N qual scope f cdv A outer s H E) [] (start N vs) H s1:=inv_start S hr.hd e0 hl r x
 refine wpAny_mono (ht [] s1 (start N vs) H _ I hq) (fun fl s' hs=>?_) fun e s' hs=>hs
 have fin:∀ {σ':St}{H':Hp}{v:V}{u:Value},Inv (cxOf CX P w K mg base N qual scope f cdv A outer s H E) [] σ' H' s'→RelV v u→Q v H'→CE outer P w H s Q u s' :=
  fun {σ' H' v u} J rv q=>⟨v,H',J.os,J.bare,J.base,J.hok,rv,q⟩
 cases fl with
 | ret u =>
  obtain⟨v,σ',H',J,rv,q⟩:=hs
  exact fin J rv q
 | next =>
  obtain⟨σ',H',J,q⟩:=hs
  exact fin (v:=V.non) (u:=Value.none) J rfl q
 | brk =>
  obtain⟨_,_,_,q⟩:=hs
  exact False.elim q
 | cont =>
  obtain⟨_,_,_,q⟩:=hs
  exact False.elim q
end L2
namespace L2
open PySem PySem.Spec PyProof.Rows
section
variable {X:Cx}{x:Str}{p pos:Pos}{e:Expr}{es:List Expr}{t:TA}{id T:String}{r:List V→Hp→VK→Prop}
def tCB (r:List V→Hp→VK→Prop)(t:TA):TE:=fun σ H Q=>t σ H fun vs H1=>r vs H1 Q
theorem pe_callB (hc:CallR X (.builtin id) r)(hg:Gl X x)(hm:X.mg x=none)(hv:bootBuiltins x=some (.builtin id))(ha:PA X (e::es) t)(hn:x≠"__name__":=by decide)(hdb:(x == ("__debug__":Str))=false:=by decide)
  (he:starEach (e::es) X.env=(false,eval e X.env)::starEach es X.env:=by rfl) (hpl:(backTo pos (starEach es X.env)).any (·.1)=false:=by rfl):PE X (.Call (.Name x p) (e::es) [] pos) (tCB r t):=by
 intro pins s σ H Q I h
 refine wpAny_Call_Name_kw (ld_blt I hg hm hv ?_ hn hdb)
 exact PyProof.Rows.callWith_builtin1 (thn (ha pos pins s σ H _ I h) fun us s1 ⟨vs,H1,I1,r1,q1⟩=>hc pins s1 σ H1 vs us Q I1 r1 q1) he hpl
theorem pe_callTy (hc:CallR X (.type T) r)(hg:Gl X x)(hm:X.mg x=none)(hv:bootBuiltins x=some (.type T))(ha:PA X (e::es) t)(hn:x≠"__name__":=by decide)(hdb:(x == ("__debug__":Str))=false:=by decide)
  (he:starEach (e::es) X.env=(false,eval e X.env)::starEach es X.env:=by rfl) (hpl:(backTo pos (starEach es X.env)).any (·.1)=false:=by rfl):PE X (.Call (.Name x p) (e::es) [] pos) (tCB r t):=by
 intro pins s σ H Q I h
 refine wpAny_Call_Name_kw (ld_blt I hg hm hv ?_ hn hdb)
 exact PyProof.Rows.callWith_type1 (thn (ha pos pins s σ H _ I h) fun us s1 ⟨vs,H1,I1,r1,q1⟩=>hc pins s1 σ H1 vs us Q I1 r1 q1) he hpl
end
end L2
namespace HT
open PySem PyProof.Rows
section
open PySem.SeqAt
open PySem.AutoSeq1 (wpAny_loadPart')
open PySem.MeetsSeq PySem.MeetsSeq2 PySem.MeetsSeq3
end
section
variable {prog:Program}{w:World}{A:Around}{E:Value→Shared→Prop}{s:Shared}
def sIx (n d:Nat):Option Int→Nat
 | none=>d
 | some v=>if v<0 then (v+(n:Int)).toNat else min v.toNat n
theorem sIx_none (n d:Nat):sIx n d none=d:=rfl
theorem sIx_nat (n d k:Nat):sIx n d (some (k:Int))=min k n:=by
 show (if (k:Int)<0 then ((k:Int)+(n:Int)).toNat else min (k:Int).toNat n)=min k n
 rw[if_neg (by omega),Int.toNat_natCast]
end
end HT
namespace L2
open PySem PySem.Spec PyProof.Rows
abbrev TO:=St→Hp→(Option Int→Hp→Prop)→Prop
def PO (X:Cx)(e:Option Expr)(t:TO):Prop :=
 ∀ (pins:List (Addr×Obj)) (s:Shared) (σ:St) (H:Hp) (Q:Option Int→Hp→Prop),Inv X pins σ H s→t σ H Q →
  wpAny (model X.prog X.w) X.A (evalPart e X.env) (fun u s'=>∃ o H',Inv X pins σ H' s'∧IsPart u o∧Q o H') X.xe s
def tNoPart:TO:=fun _ H Q=>Q none H
def tPart (t:TE):TO:=fun σ H Q=>t σ H fun x H1=>∃ i,x=.int i∧Q (some i) H1
theorem intsAre_of {ns:List Int}:∀ {us:List Value},Vals (ns.map V.int) us→IntsAre us ns:=by
 induction ns with
 | nil=>intro us r;rw[List.map_nil] at r;cases r;exact .nil
 | cons n ns ih =>
  intro us r
  rw[List.map_cons] at r
  cases r with
  | cons r1 r2 =>
   obtain⟨t,e⟩:=r1
   subst e
   exact .cons n t (ih r2)
section
variable {X:Cx}{e:Expr}{te:TE}{lo hi:Option Expr}{tl th:TO}{pos p2:Pos}
theorem po_none:PO X none tNoPart:=by
 intro pins s σ H Q I h
 rw[evalPart_none]
 exact wpAny_pure ⟨none,H,I,.none,h⟩
theorem po_some (h:PE X e te):PO X (some e) (tPart te):=by
 intro pins s σ H Q I hw
 rw[evalPart_some]
 refine thn (h pins s σ H _ I hw) fun u s1 ⟨x,H1,I1,r1,q1⟩=>?_
 obtain⟨i,rfl,q⟩:=q1
 obtain⟨t,rfl⟩:=r1
 exact⟨some i,H1,I1,.int i t,q⟩
def SlR (X:Cx)(r:V→Option Int→Option Int→Hp→VK→Prop):Prop :=
 ∀ (pins:List (Addr×Obj)) (s:Shared) (σ:St) (H:Hp) (x:V) (v vl vu:Value) (lo hi:Option Int) (sl:Addr) (Q:VK),Inv X pins σ H s→RelV x v→s.heap.IsSliceOf sl vl vu .none→IsPart vl lo→IsPart vu hi→r x lo hi H Q →
  ∃ T id,typeLookup (.type T) "__getitem__"=pure (some (.builtin id))∧s.TypeIs v T∧wpAny (model X.prog X.w) X.A (getItem v (.ref sl)) (EP X pins σ Q) X.xe s
theorem SlR.or {r r':V→Option Int→Option Int→Hp→VK→Prop}(h:SlR X r)(h':SlR X r'):SlR X (fun x lo hi H Q=>r x lo hi H Q∨r' x lo hi H Q):=by
 intro pins s σ H x v vl vu lo hi sl Q I rx hs pl pu q
 rcases q with q | q
 ·exact h pins s σ H x v vl vu lo hi sl Q I rx hs pl pu q
 ·exact h' pins s σ H x v vl vu lo hi sl Q I rx hs pl pu q
def tSl (r:V→Option Int→Option Int→Hp→VK→Prop)(te:TE)(tl th:TO):TE:=fun σ H Q=>te σ H fun x H1=>tl σ H1 fun l H2=>th σ H2 fun u H3=>r x l u H3 Q
theorem pe_slice {r:V→Option Int→Option Int→Hp→VK→Prop}(hr:SlR X r)(he:PE X e te)(hl:PO X lo tl)(hu:PO X hi th):PE X (.Subscript e (.Slice lo hi none p2) pos) (tSl r te tl th):=by
 intro pins s σ H Q I h
 refine Subscript_ (thn (he pins s σ H _ I h) fun v s1 ⟨x,H1,I1,r1,q1⟩=>?_)
 refine wpAny_Slice (thn (hl pins s1 σ H1 _ I1 q1) fun vl s2 ⟨l,H2,I2,pl,q2⟩=>thn (hu pins s2 σ H2 _ I2 q2) fun vu s3 ⟨u,H3,I3,pu,q3⟩=>?_)
 rw[evalPart_none]
 refine wpAny_pure ?_
 have I4:Inv X pins σ H3 { s3 with heap:=s3.heap.push { cls:=.type "slice",data:=.fields #[vl,vu,.none] } }:=I3.kept (t':=s3.toks) fun b ob q=>Heap.get?_push_of_some _ q
 obtain⟨T,id,hT,ht,hg⟩:=hr pins { s3 with heap:=s3.heap.push { cls:=.type "slice",data:=.fields #[vl,vu,.none] } } σ H3 x v vl vu l u s3.heap.objs.size Q I4 r1 (Heap.IsSliceOf.new ..) pl pu q3
 show wpAny (model X.prog X.w) X.A (subscriptTail e (.Slice lo hi none p2) v (.ref s3.heap.objs.size)) (EP X pins σ Q) X.xe { s3 with heap:=s3.heap.push { cls:=.type "slice",data:=.fields #[vl,vu,.none] } }
 exact tail_any (ops:=[.ref s3.heap.objs.size,v]) ht hT hg (by with_unfolding_all rfl)
def cutV (xs:List V)(lo hi:Option Int):List V:=(xs.drop (HT.sIx xs.length 0 lo)).take (HT.sIx xs.length xs.length hi - HT.sIx xs.length 0 lo)
theorem cutV_length (xs:List V)(lo hi:Option Int):(cutV xs lo hi).length≤xs.length:=by
 unfold cutV
 rw[List.length_take,List.length_drop]
 omega
end
end L2
namespace L2
open PySem PySem.Spec PyProof.Rows
def ixN (n:Nat)(i:Int):Option Nat:=if 0≤i then (if i<n then some i.toNat else none) else if -(n:Int)≤i then some (i+n).toNat else none
def atI {α:Type}(xs:List α)(i:Int):Option α:=(ixN xs.length i).bind fun j=>xs[j]?
theorem ixN_seq {n:Nat}{i:Int}{j:Nat}(h:ixN n i=some j):seqIndex? i n=some j∧j<n∧-(n:Int)≤i∧i<n:=by
 unfold ixN at h
 by_cases h0:0≤i
 ·rw[if_pos h0] at h
  by_cases h1:i<n
  ·rw[if_pos h1] at h
   have e:i.toNat=j:=Option.some.inj h
   exact⟨by rw[seqIndex_of h0 h1,e],by omega,by omega,h1⟩
  ·rw[if_neg h1] at h;cases h
 ·rw[if_neg h0] at h
  by_cases h1:-(n:Int)≤i
  ·rw[if_pos h1] at h
   have e:(i+n).toNat=j:=Option.some.inj h
   exact⟨by rw[seqIndex_neg (by omega) h1,e],by omega,h1,by omega⟩
  ·rw[if_neg h1] at h;cases h
theorem atI_get {α:Type}{xs:List α}{i:Int}{v:α}(h:atI xs i=some v):∃ j,seqIndex? i xs.length=some j∧xs[j]?=some v∧j<xs.length∧-(xs.length:Int)≤i∧i<xs.length:=by
 unfold atI at h
 cases e:ixN xs.length i with
 | none=>rw[e] at h;cases h
 | some j =>
  rw[e] at h
  obtain⟨h1,h2,h3,h4⟩:=ixN_seq e
  exact⟨j,h1,h,h2,h3,h4⟩
theorem atI_nat {α:Type}{xs:List α}{j:Nat}{v:α}(h:xs[j]?=some v):atI xs (j:Int)=some v:=by
 have hj:j<xs.length:=(List.getElem?_eq_some_iff.mp h).1
 have e:ixN xs.length (j:Int)=some j:=by
  unfold ixN
  rw[if_pos (by omega),if_pos (by omega)];simp
 unfold atI;rw[e];exact h
def PlainIx (b:Expr):Prop:=∀ o i,subscripted b false o i=operate [o,i] (getItem o i)
def IxR (X:Cx)(r:R2):Prop :=
 ∀ (value slice:Expr) (pins:List (Addr×Obj)) (s:Shared) (σ:St) (H:Hp) (x y:V) (v u:Value) (Q:VK),Inv X pins σ H s→RelV x v→RelV y u→r x y H Q →
  subscripted slice false v u=operate [v,u] (getItem v u)→wpAny (model X.prog X.w) X.A (subscriptTail value slice v u) (EP X pins σ Q) X.xe s
def MtR (X:Cx)(id:String)(r:V→List V→Hp→VK→Prop):Prop :=
 ∀ (pins:List (Addr×Obj)) (s:Shared) (σ:St) (H:Hp) (x:V) (xs:List V) (v:Value) (us:List Value) (Q:VK),Inv X pins σ H s→RelV x v→Vals xs us→r x xs H Q →
  wpAny (model X.prog X.w) X.A (call (.builtin id) (v::us)) (EP X pins σ Q) X.xe s
section
variable {X:Cx}{a b:Expr}{ta tb:TE}{pos:Pos}
theorem IxR.or {r r':R2}(h:IxR X r)(h':IxR X r'):IxR X (fun x y H Q=>r x y H Q∨r' x y H Q):=by
 intro value slice pins s σ H x y v u Q I rx ry q hs
 rcases q with q | q
 ·exact h value slice pins s σ H x y v u Q I rx ry q hs
 ·exact h' value slice pins s σ H x y v u Q I rx ry q hs
theorem MtR.or {id:String}{r r':V→List V→Hp→VK→Prop}(h:MtR X id r)(h':MtR X id r'):MtR X id (fun x xs H Q=>r x xs H Q∨r' x xs H Q):=by
 intro pins s σ H x xs v us Q I rx rs q
 rcases q with q | q
 ·exact h pins s σ H x xs v us Q I rx rs q
 ·exact h' pins s σ H x xs v us Q I rx rs q
theorem pe_ix {r:R2}(hr:IxR X r)(ha:PE X a ta)(hb:PE X b tb)(hs:PlainIx b):PE X (.Subscript a b pos) (tOp r ta tb):=by
 intro pins s σ H Q I h
 exact Subscript_ (binT ha hb I h fun v u s2 x y H2 I2 rx ry q=>hr a b pins s2 σ H2 x y v u Q I2 rx ry q (hs _ _))
def rIxL (K:PySem.W.Frag):R2:=fun x y H Q=>∃ p xs i v,x=.ref p∧y=.int i∧SqL K H p xs∧atI xs i=some v∧Q v H
def rIxT (K:PySem.W.Frag):R2:=fun x y H Q=>∃ p xs i v,x=.ref p∧y=.int i∧SqT K H p xs∧atI xs i=some v∧Q v H
def rIxS:R2:=fun x y H Q=>∃ z i c,x=.str z∧y=.int i∧z.length≤sizeLine∧atI z.cps.toList i=some c∧Q (.str ⟨#[c]⟩) H
theorem ix_list:IxR X (rIxL X.K):=by
 intro value slice pins s σ H x y v u Q I rx ry h hs
 obtain⟨p,xs,i,z,rfl,rfl,hq,he,q⟩:=h
 cases rx
 obtain⟨t,rfl⟩:=ry
 obtain⟨its,r,pl,hz⟩:=I.list hq
 obtain⟨j,h1,h2,h3,h4,h5⟩:=atI_get he
 obtain⟨w,ew,rw'⟩:=r.get h2
 have hl:=r.length
 have hn:=line63
 have fin:EP X pins σ Q w s:=⟨z,H,I,rw',q⟩
 by_cases h0:0≤i
 ·have hj:i.toNat=j:=by
   rw[seqIndex_of h0 h5] at h1
   exact Option.some.inj h1
  exact item_listR pl.isList h0 (by omega) (by rw[hj];simpa using ew) fin hs
 ·have hj:(i+(its.toArray.size:Int)).toNat=j:=by
   rw[seqIndex_neg (by omega) h4] at h1
   rw[List.size_toArray,← hl]
   exact Option.some.inj h1
  exact subscriptTail_builtinR (x:=w) pl.isList.typeIs slot_list_getitem.lookup
   (wpAny_getItem_list_neg (Q:=fun r s'=>r=w∧EP X pins σ Q r s') pl.isList (by omega) (by rw[List.size_toArray] <;> omega) (by omega) (by rw[hj];simpa using ew) ⟨rfl,fin⟩) hs
theorem ix_tup:IxR X (rIxT X.K):=by
 intro value slice pins s σ H x y v u Q I rx ry h hs
 obtain⟨p,xs,i,z,rfl,rfl,hq,he,q⟩:=h
 cases rx
 obtain⟨t,rfl⟩:=ry
 obtain⟨its,r,pl,hz⟩:=I.tuple hq
 obtain⟨j,h1,h2,h3,h4,h5⟩:=atI_get he
 obtain⟨w,ew,rw'⟩:=r.get h2
 have hl:=r.length
 have hn:=line63
 have fin:EP X pins σ Q w s:=⟨z,H,I,rw',q⟩
 exact subscriptTail_builtinR (x:=w) pl.typeIs slot_tuple_getitem.lookup
  (getItem_tuple (j:=j) (Q:=fun r s'=>r=w∧EP X pins σ Q r s') pl (by omega) (by omega) (by rw[List.size_toArray,← hl];exact h1) (by simpa using ew) ⟨rfl,fin⟩) hs
theorem ix_str:IxR X rIxS:=by
 intro value slice pins s σ H x y v u Q I rx ry h hs
 obtain⟨z,i,c,rfl,rfl,hz,he,q⟩:=h
 obtain⟨t,rfl⟩:=rx
 obtain⟨t',rfl⟩:=ry
 obtain⟨j,h1,h2,h3,h4,h5⟩:=atI_get he
 have hl:z.cps.toList.length=z.length:=by simp[Str.length]
 rw[hl] at h1 h4 h5
 have hn:=line63
 exact tail_any (typeIs_str s z t) slot_str_getitem.lookup (getItem_str (c:=c) (by
  have e1:decide (i < -(2 ^ 63:Int))=false:=decide_eq_false (by omega)
  have e2:decide (i≥2 ^ 63)=false:=decide_eq_false (by omega)
  rw[e1,e2,Bool.or_false]) (by rw[h1];simpa using h2) ⟨.str ⟨#[c]⟩,H,I.tok _,⟨_,rfl⟩,q⟩) hs
theorem mapSeq_set (its:List Value)(n j:Nat)(u:Value):Obj.mapSeq (·.setIfInBounds j u) { cls:=.type "list",data:=.seq its.toArray n }={ cls:=.type "list",data:=.seq (its.set j u).toArray n }:=by
 simp[Obj.mapSeq]
theorem Inv.lst {pins:List (Addr×Obj)}{σ:St}{H:Hp}{s:Shared}{p:Addr}{xs:List V}(I:Inv X pins σ H s)(h:H p=some (.lst xs)) :
  ∃ (its:List Value) (n:Nat),Vals xs its∧s.heap.get? p=some { cls:=.type "list",data:=.seq its.toArray n }∧xs.length≤sizeLine:=by
 obtain⟨z,its,n,r,e⟩:=I.hok p _ h
 exact⟨its,n,r,e,z⟩
theorem Inv.lstUpd {pins:List (Addr×Obj)}{σ:St}{H:Hp}{s:Shared}{p:Addr}{xs ys:List V}{its its':List Value}{n n':Nat}{f:Obj→Obj}(I:Inv X pins σ H s)(h:H p=some (.lst xs))
  (ho:s.heap.get? p=some { cls:=.type "list",data:=.seq its.toArray n }) (hf:f { cls:=.type "list",data:=.seq its.toArray n }={ cls:=.type "list",data:=.seq its'.toArray n' }) (r:Vals ys its') (hz:ys.length≤sizeLine) (t:Nat) :
  Inv X pins σ (upd H p (.lst ys)) { s with heap:=s.heap.update p f,toks:=t }:=by
 have e:(s.heap.update p f).get? p=some { cls:=.type "list",data:=.seq its'.toArray n' }:=by
  rw[Heap.get?_update_self f ho (by rw[hf] <;> rfl),hf]
 refine I.write (x:=p) (e:=p) (by rw[h];trivial) (.inl rfl) (fun b u hb q=>(Heap.get?_update_other _ _ (Ne.symm hb)).trans q) ⟨_,e⟩ ?_
 exact⟨hz,its',n',r,e⟩
def rSetL:V→V→V→Hp→(Hp→Prop)→Prop:=fun o i v H Q=>∃ p xs k j,o=.ref p∧i=.int k∧H p=some (.lst xs)∧ixN xs.length k=some j∧Q (upd H p (.lst (xs.set j v)))
theorem set_list:PSet X rSetL:=by
 intro pins s σ H o i v ov iv u Q I ro ri rv h
 obtain⟨p,xs,k,j,rfl,rfl,hp,hj,q⟩:=h
 cases ro
 obtain⟨t,rfl⟩:=ri
 obtain⟨its,n,r,ho,hz⟩:=I.lst hp
 obtain⟨h1,h2,h3,h4⟩:=ixN_seq hj
 have hl:=r.length
 have hn:=line63
 have I':Inv X pins σ (upd H p (.lst (xs.set j v))) { s with heap:=s.heap.update p (Obj.mapSeq (·.setIfInBounds j u)) } :=
  I.lstUpd hp ho (mapSeq_set its n j u) (r.set rv j) (by rw[List.length_set];exact hz) s.toks
 by_cases h0:0≤k
 ·have hk:k.toNat=j:=by
   rw[seqIndex_of h0 h4] at h1
   exact Option.some.inj h1
  exact PySem.W.ki_setAt ho h0 (by omega) (by rw[List.size_toArray,← hl];exact h4) (by rw[hk];exact⟨_,I',q⟩)
 ·have hk:(k+(its.toArray.size:Int)).toNat=j:=by
   rw[seqIndex_neg (by omega) h3] at h1
   rw[List.size_toArray,← hl]
   exact Option.some.inj h1
  exact PySem.W.ki_setBack ho (by omega) (by rw[List.size_toArray,← hl];exact h3) (by omega) (by rw[hk];exact⟨_,I',q⟩)
theorem slice_bounds (lo hi:Option Int)(n:Nat):(sliceBounds lo hi none n).1=((HT.sIx n 0 lo:Nat):Int)∧(sliceBounds lo hi none n).2.1=((HT.sIx n n hi:Nat):Int)∧(sliceBounds lo hi none n).2.2=1:=by
 refine⟨?_,?_,rfl⟩
 ·cases lo with
  | none=>simp[sliceBounds,HT.sIx]
  | some i =>
   simp only[sliceBounds,HT.sIx,Option.getD_none,show (1:Int)>0 by decide,if_true]
   by_cases h:i<0
   ·simp only[h,if_true] <;> omega
   ·simp only[h,if_false] <;> omega
 ·cases hi with
  | none=>simp[sliceBounds,HT.sIx]
  | some i =>
   simp only[sliceBounds,HT.sIx,Option.getD_none,show (1:Int)>0 by decide,if_true]
   by_cases h:i<0
   ·simp only[h,if_true] <;> omega
   ·simp only[h,if_false] <;> omega
theorem slicePick_cut (its:List Value)(lo hi:Option Int):slicePick its.toArray lo hi none=((its.drop (HT.sIx its.length 0 lo)).take (HT.sIx its.length its.length hi - HT.sIx its.length 0 lo)).toArray:=by
 obtain⟨h1,h2,h3⟩:=slice_bounds lo hi its.toArray.size
 unfold slicePick
 rw[h1,h2,h3]
 simp only[sliceRange_one,pick_run,List.size_toArray] <;> rfl
def rSlL (K:PySem.W.Frag):V→Option Int→Option Int→Hp→VK→Prop:=fun x lo hi H Q=>∃ a xs,x=.ref a∧SqL K H a xs∧∀ p,H p=none→Q (.ref p) (upd H p (.lst (cutV xs lo hi)))
theorem sl_list:SlR X (rSlL X.K):=by
 intro pins s σ H x v vl vu lo hi sl Q I rx hs pl pu h
 obtain⟨a,xs,rfl,hx,q⟩:=h
 cases rx
 obtain⟨its,r,ht,hz⟩:=I.list hx
 have hlen:=r.length
 refine⟨"list",_,slot_list_getitem.lookup,ht.isList.typeIs,?_⟩
 refine wpAny_getItem_list_slice ht.isList hs pl pu .none (by simp) ?_ (by rw[List.size_toArray] <;> omega)
 rw[slicePick_cut,← hlen]
 refine⟨.ref s.heap.objs.size,_,I.laid (t':=s.toks) (o:=.lst (cutV xs lo hi)) (fun b ob q=>Heap.get?_push_of_some _ q) (Nat.le_refl _) ?_,rfl,q _ (I.hok.fresh (Nat.le_refl _))⟩
 exact⟨Nat.le_trans (cutV_length xs lo hi) hz,_,0,(r.drop (HT.sIx xs.length 0 lo)).take (HT.sIx xs.length xs.length hi - HT.sIx xs.length 0 lo),Heap.get?_push_size _ rfl⟩
def flatV:V→Bool
 | .non=>true
 | .bl _=>true
 | .int _=>true
 | .str _=>true
 | _=>false
def eqV:V→V→Bool
 | .non,.non=>true
 | .bl a,.bl b=>a == b
 | .bl a,.int b=>(if a then 1 else 0) == b
 | .int a,.bl b=>a == (if b then 1 else 0)
 | .int a,.int b=>a == b
 | .str a,.str b=>a == b
 | _,_=>false
theorem eqAt_V {A:Around}{s:Shared}{y x:V}{u v:Value}(ry:RelV y u)(rx:RelV x v)(fy:flatV y=true)(fx:flatV x=true):SeqAt.EqAt A s u v (eqV y x):=by
 cases y with
 | non =>
  cases ry
  cases x with
  | non=>cases rx;exact SeqAt.EqAt.same _
  | bl b=>cases rx;exact SeqAt.EqAt.none_bool b
  | int b=>obtain⟨t,rfl⟩:=rx;exact SeqAt.EqAt.none_int b t
  | str b=>obtain⟨t,rfl⟩:=rx;exact SeqAt.EqAt.none_str b t
  | _=>exact absurd (show false=true from fx) Bool.false_ne_true
 | bl a =>
  cases ry
  cases x with
  | non=>cases rx;exact SeqAt.EqAt.bool_none a
  | bl b=>cases rx;exact SeqAt.EqAt.bool_bool a b
  | int b=>obtain⟨t,rfl⟩:=rx;exact SeqAt.EqAt.bool_int a b t
  | str b=>obtain⟨t,rfl⟩:=rx;exact SeqAt.EqAt.bool_str a b t
  | _=>exact absurd (show false=true from fx) Bool.false_ne_true
 | int a =>
  obtain⟨t',rfl⟩:=ry
  cases x with
  | non=>cases rx;exact SeqAt.EqAt.int_none a t'
  | bl b=>cases rx;exact SeqAt.EqAt.int_bool a t' b
  | int b=>obtain⟨t,rfl⟩:=rx;exact SeqAt.EqAt.int_int a t' b t
  | str b=>obtain⟨t,rfl⟩:=rx;exact SeqAt.EqAt.int_str a t' b t
  | _=>exact absurd (show false=true from fx) Bool.false_ne_true
 | str a =>
  obtain⟨t',rfl⟩:=ry
  cases x with
  | non=>cases rx;exact SeqAt.EqAt.str_none a t'
  | bl b=>cases rx;exact SeqAt.EqAt.str_bool a t' b
  | int b=>obtain⟨t,rfl⟩:=rx;exact SeqAt.EqAt.str_int a t' b t
  | str b=>obtain⟨t,rfl⟩:=rx;exact SeqAt.EqAt.str_str a t' b t
  | _=>exact absurd (show false=true from fx) Bool.false_ne_true
 | _=>exact absurd (show false=true from fy) Bool.false_ne_true
def eqU (x:V)(u:Value):Bool:=match u with
 | .none=>eqV .non x
 | .bool b=>eqV (.bl b) x
 | .int i _=>eqV (.int i) x
 | .str z _=>eqV (.str z) x
 | _=>false
theorem eqU_of {x y:V}{u:Value}(r:RelV y u)(f:flatV y=true):eqU x u=eqV y x:=by
 cases y with
 | non=>cases r;rfl
 | bl b=>cases r;rfl
 | int i=>obtain⟨t,rfl⟩:=r;rfl
 | str z=>obtain⟨t,rfl⟩:=r;rfl
 | _=>exact absurd (show false=true from f) Bool.false_ne_true
theorem any_eqU {x:V}:∀ {xs:List V}{us:List Value},Vals xs us→xs.all flatV=true→us.any (eqU x)=xs.any fun y=>eqV y x
 | _,_,.nil,_=>rfl
 | y::xs,u::us,.cons r t,f=>by
  rw[List.all_cons,Bool.and_eq_true] at f
  rw[List.any_cons,List.any_cons,eqU_of r f.1,any_eqU t f.2]
theorem mem_eqAt {A:Around}{s:Shared}{x:V}{v:Value}(rx:RelV x v)(fx:flatV x=true):∀ {xs:List V}{us:List Value},Vals xs us→xs.all flatV=true→∀ u∈us,SeqAt.EqAt A s u v (eqU x u)
 | _,_,.nil,_=>fun u hu=>by cases hu
 | y::xs,u::us,.cons r t,f=>fun u' hu=>by
  rw[List.all_cons,Bool.and_eq_true] at f
  rcases List.mem_cons.mp hu with rfl | hu
  ·rw[eqU_of r f.1];exact eqAt_V r rx f.1 fx
  ·exact mem_eqAt rx fx t f.2 u' hu
def inV (x:V)(xs:List V):Bool:=xs.any fun y=>eqV y x
def rIn (K:PySem.W.Frag)(neg:Bool):R2:=fun x y H Q=>∃ p xs,y=.ref p∧(SqL K H p xs∨SqT K H p xs)∧flatV x=true∧xs.all flatV=true∧Q (.bl (if neg then !inV x xs else inV x xs)) H
theorem op_in_seq:OpR X (compareOp .In) (rIn X.K false):=by
 intro pins s σ H x y v u Q I rx ry h
 obtain⟨p,xs,rfl,hq,fx,fs,q⟩:=h
 cases ry
 rcases hq with hq | hq
 ·obtain⟨its,r,pl,hz⟩:=I.list hq
  refine SeqAt.in_listAt (eqU x) pl.isList (fun w hw=>mem_eqAt rx fx r fs w (by simpa using hw)) ⟨.bl _,H,I,rfl,?_⟩
  rw[show its.toArray.any (eqU x)=its.any (eqU x) by simp,any_eqU r fs]
  exact q
 ·obtain⟨its,r,pl,hz⟩:=I.tuple hq
  refine SeqAt.in_tupleAt (eqU x) pl (fun w hw=>mem_eqAt rx fx r fs w (by simpa using hw)) ⟨.bl _,H,I,rfl,?_⟩
  rw[show its.toArray.any (eqU x)=its.any (eqU x) by simp,any_eqU r fs]
  exact q
theorem call_len_seq:CallR X (.builtin "len") (fun xs H Q=>∃ p ys,xs=[.ref p]∧(SqL X.K H p ys∨SqT X.K H p ys)∧Q (.int ys.length) H):=by
 intro pins s σ H xs us Q I r h
 obtain⟨p,ys,rfl,hq,q⟩:=h
 obtain⟨u,rfl,rx⟩:=vals1 r
 cases rx
 have hn:=line63
 rcases hq with hq | hq
 ·obtain⟨its,r',pl,hz⟩:=I.list hq
  have hlen:=r'.length
  exact Calls.call_len_list pl.isList (by simp only[List.size_toArray] <;> omega) ⟨.int ys.length,H,I.tok _,⟨s.toks+1,by rw[List.size_toArray,hlen]⟩,q⟩
 ·obtain⟨its,r',pl,hz⟩:=I.tuple hq
  have hlen:=r'.length
  exact len_tuple pl (by simp only[List.size_toArray] <;> omega) ⟨.int ys.length,H,I.tok _,⟨s.toks+1,by rw[List.size_toArray,hlen]⟩,q⟩
theorem call_len_str:CallR X (.builtin "len") (fun xs H Q=>∃ z,xs=[.str z]∧z.length≤sizeLine∧Q (.int z.length) H):=by
 intro pins s σ H xs us Q I r h
 obtain⟨z,rfl,hz,q⟩:=h
 obtain⟨u,rfl,t,rfl⟩:=vals1 r
 have hn:=line63
 exact len_str (by omega) ⟨.int z.length,H,I.tok _,⟨_,rfl⟩,q⟩
theorem CallR.or {f:Value}{r r':List V→Hp→VK→Prop}(h:CallR X f r)(h':CallR X f r'):CallR X f (fun xs H Q=>r xs H Q∨r' xs H Q):=by
 intro pins s σ H xs us Q I rs q
 rcases q with q | q
 ·exact h pins s σ H xs us Q I rs q
 ·exact h' pins s σ H xs us Q I rs q
theorem call_list_of:CallR X (.type "list") (fun xs H Q=>∃ p ys,xs=[.ref p]∧(SqL X.K H p ys∨SqT X.K H p ys)∧∀ l,H l=none→Q (.ref l) (upd H l (.lst ys))):=by
 intro pins s σ H xs us Q I r h
 obtain⟨p,ys,rfl,hq,q⟩:=h
 obtain⟨u,rfl,rx⟩:=vals1 r
 cases rx
 have fin:∀ (its:List Value),Vals ys its→ys.length≤sizeLine→∀ (h':Heap) (c':Nat),(∀ b o',s.heap.get? b=some o'→h'.get? b=some o') →
   h'.get? s.heap.objs.size=some { cls:=.type "list",dict:=none,data:=.seq its.toArray c',slots:=#[] }→EP X pins σ Q (.ref s.heap.objs.size) { s with heap:=h' }:=fun its r' hz h' c' kp e =>
  ⟨.ref s.heap.objs.size,_,I.laid (t':=s.toks) kp (Nat.le_refl _) (show ObjOk X.prog X.w _ h' _ (.lst ys) from ⟨hz,its,c',r',e⟩),rfl,q _ (I.hok.fresh (Nat.le_refl _))⟩
 rcases hq with hq | hq
 ·obtain⟨its,r',pl,hz⟩:=I.list hq
  have hlen:=r'.length
  obtain⟨o,ho,hc,n,hd⟩:=pl.isList
  exact call_list_seq p (.inl rfl) ho hc hd (fun h' c' kp e=>fin its r' hz h' c' kp e) (by simp only[List.size_toArray] <;> omega)
 ·obtain⟨its,r',pl,hz⟩:=I.tuple hq
  have hlen:=r'.length
  obtain⟨o,ho,hc,n,hd⟩:=pl
  exact call_list_seq p (.inr rfl) ho hc hd (fun h' c' kp e=>fin its r' hz h' c' kp e) (by simp only[List.size_toArray] <;> omega)
def tyV (K:PySem.W.Frag)(T:String)(x:V)(H:Hp):Prop:=match x with
 | .str _=>T="str"
 | .int _=>T="int"
 | .ref p=>(T="list"∧∃ xs,SqL K H p xs)∨(T="tuple"∧∃ o,K.lookup p=some o∧o.cls=.type "tuple"∧o.dict=none) ∨
   (T="dict"∧((∃ kvs,H p=some (.dK kvs))∨∃ kvs,H p=some (.dT kvs)))∨(T="set"∧∃ S n,H p=some (.set S n))
 | _=>False
theorem tyV_is {pins:List (Addr×Obj)}{σ:St}{H:Hp}{s:Shared}{T:String}{x:V}{v:Value}(I:Inv X pins σ H s)(r:RelV x v)(ty:tyV X.K T x H) :
  s.TypeIs v T∧∀ a,v=.ref a→∃ ob,s.heap.get? a=some ob∧ob.dict=none:=by
 cases x with
 | str z =>
  obtain⟨t,rfl⟩:=r
  cases (show T="str" from ty)
  exact⟨typeIs_str s z t,fun _ e=>nomatch e⟩
 | int i =>
  obtain⟨t,rfl⟩:=r
  cases (show T="int" from ty)
  exact⟨typeIs_int s i t,fun _ e=>nomatch e⟩
 | ref p =>
  cases r
  rcases ty with⟨rfl,xs,hq⟩ | ⟨rfl,o,hk,hc,hd⟩ | ⟨rfl,hk⟩ | ⟨rfl,S,n,hk⟩
  ·obtain⟨its,_,pl,_⟩:=I.list hq
   refine⟨pl.isList.typeIs,fun a e=>?_⟩
   cases e
   obtain⟨o,n,e,c,hd,_⟩:=pl
   exact⟨o,e,hd⟩
  ·refine⟨⟨o,I.kIn p o hk,hc⟩,fun a e=>?_⟩
   cases e
   exact⟨o,I.kIn _ o hk,hd⟩
  ·have z:∃ o,s.heap.get? p=some o∧o.ExactDict:=by
    rcases hk with⟨kvs,hk⟩ | ⟨kvs,hk⟩
    ·obtain⟨_,_,_,_,o,_,_,e,ex,_⟩:=I.hok p _ hk
     exact⟨o,e,ex⟩
    ·obtain⟨_,_,_,_,o,_,_,e,ex,_⟩:=I.hok p _ hk
     exact⟨o,e,ex⟩
   obtain⟨o,e,ex⟩:=z
   refine⟨⟨o,e,ex.1⟩,fun a e2=>?_⟩
   cases e2
   exact⟨o,e,ex.2.1⟩
  ·obtain⟨o,_,_,_,e,ex,_⟩:=I.hok p _ hk
   refine⟨⟨o,e,ex.1⟩,fun a e2=>?_⟩
   cases e2
   exact⟨o,e,ex.2.1⟩
 | _=>exact False.elim ty
def tBM (K:PySem.W.Frag)(T:String)(r:V→List V→Hp→VK→Prop)(to:TE)(t:TA):TE:=fun σ H Q=>to σ H fun x H1=>tyV K T x H1∧t σ H1 fun xs H2=>r x xs H2 Q
variable {o e:Expr}{es:List Expr}{to:TE}{t:TA}{name:Str}{apos cpos:Pos}{T id:String}{r:V→List V→Hp→VK→Prop}
theorem pe_bm (pa:PlainAttrs T)(slot:Slot T name id)(hty:typeOf (.builtin id)=pure (.type "method_descriptor"))(hm:MtR X id r)(ho:PE X o to)(ha:PA X (e::es) t)
  (hbase:attributeBase o name X.env (eval o X.env)=eval o X.env:=by rfl)
  (hfew:((backTo cpos (starEach (e::es) X.env)).all (fun x=>!x.1) && (backToKw cpos (keywordEach [] X.env)).all (fun x=>x.1.isSome)
   && decide ((e::es).length+([]:List Keyword).length+(if ([]:List Keyword).isEmpty then 0 else 1)<30))=true:=by rfl)
  (hline:(apos.endLine == cpos.line)=true:=by rfl) (hs:starEach (e::es) X.env=(false,eval e X.env)::starEach es X.env:=by rfl) (hplain:(backTo cpos (starEach es X.env)).any (·.1)=false:=by rfl) :
  PE X (.Call (.Attribute o name apos) (e::es) [] cpos) (tBM X.K T r to t):=by
 intro pins s σ H Q I h
 refine wpAny_Call_method_late hbase hfew hline rfl (thn (ho pins s σ H _ I h) fun v s1 ⟨x,H1,I1,r1,ty,q1⟩=>?_)
 obtain⟨h1,h2⟩:=tyV_is I1 r1 ty
 refine⟨T,id,pa,slot,hty,h1,h2,?_⟩
 have hA:=ha cpos pins s1 σ H1 _ I1 q1
 rw[hs] at hA ⊢
 refine Calls.callWith_builtin (by show (false || (backTo cpos (starEach es X.env)).any (·.1))=false;rw[hplain] <;> rfl) (Calls.evalArgs_plain ?_)
 exact thn hA fun us s2 ⟨vs,H2,I2,r2,q2⟩=>hm pins s2 σ H2 x vs v us Q I2 r1 r2 q2
end
end L2
namespace L2
open PySem PySem.Spec PyProof.Rows
def MtM (X:Cx)(id:String)(r:V→List V→Hp→VK→Prop):Prop :=
 ∀ (pins:List (Addr×Obj)) (s:Shared) (σ:St) (H:Hp) (x:V) (xs:List V) (v:Value) (us:List Value) (Q:VK),Inv X pins σ H s→RelV x v→Vals xs us→r x xs H Q →
  wpAny (model X.prog X.w) X.A (call (.builtin id) (v::us)) (EP X pins σ Q) X.xe s
theorem Vals.one:∀ {x:V}{us:List Value},Vals [x] us→∃ u,us=[u]∧RelV x u
 | _,_,.cons r .nil=>⟨_,rfl,r⟩
theorem Vals.two:∀ {x y:V}{us:List Value},Vals [x,y] us→∃ u v,us=[u,v]∧RelV x u∧RelV y v
 | _,_,_,.cons r (.cons q .nil)=>⟨_,_,rfl,r,q⟩
theorem Vals.zero:∀ {us:List Value},Vals [] us→us=[]
 | _,.nil=>rfl
theorem Vals.reverse {xs:List V}{us:List Value}(h:Vals xs us):Vals xs.reverse us.reverse:=by
 induction h with
 | nil=>exact .nil
 | cons r t ih=>rw[List.reverse_cons,List.reverse_cons];exact Vals.append ih (.cons r .nil)
theorem Vals.rep {xs:List V}{us:List Value}(h:Vals xs us):∀ k:Nat,Vals (List.replicate k xs).flatten (List.replicate k us).flatten
 | 0=>.nil
 | k+1=>by
  rw[List.replicate_succ,List.replicate_succ,List.flatten_cons,List.flatten_cons]
  exact Vals.append h (Vals.rep h k)
theorem foldl_rep (its:List Value):∀ (k:Nat) (acc:List Value),
  List.foldl (fun x1 x2=>x1++x2) acc.toArray (List.replicate k its.toArray)=(acc++(List.replicate k its).flatten).toArray
 | 0,acc=>by simp
 | k+1,acc=>by
  have e:acc.toArray++its.toArray=(acc++its).toArray:=by simp
  have e2:(acc++its)++(List.replicate k its).flatten=acc++(List.replicate (k+1) its).flatten:=by
   rw[List.replicate_succ,List.flatten_cons,List.append_assoc]
  rw[← e2,← foldl_rep its k (acc++its),← e,List.replicate_succ,List.foldl_cons]
section
variable {X:Cx}{pins:List (Addr×Obj)}{σ:St}{H:Hp}{s:Shared}{l b:Addr}{xs ys zs:List V}
theorem Inv.lset {its its':List Value}{n:Nat}{f:Array Value→Array Value}{t':Nat}(I:Inv X pins σ H s)(hH:H l=some (.lst xs))
  (e:s.heap.get? l=some { cls:=.type "list",data:=.seq its.toArray n }) (hf:f its.toArray=its'.toArray) (hv:Vals ys its') (hz:ys.length≤sizeLine) :
  Inv X pins σ (upd H l (.lst ys)) { s with heap:=s.heap.update l (Obj.mapSeq f),toks:=t' }:=by
 have q:=PySem.IsL.update e f
 rw[hf] at q
 refine I.write (x:=l) (e:=l) (by rw[hH];exact trivial) (.inl rfl) (fun b' u hb hu=>(Heap.get?_update_other s.heap (Obj.mapSeq f) (Ne.symm hb)).trans hu) ⟨_,q⟩ ?_
 exact⟨hz,its',_,hv,q⟩
theorem Inv.lnew {its:List Value}{t':Nat}(I:Inv X pins σ H s)(hv:Vals ys its)(hz:ys.length≤sizeLine) :
  Inv X pins σ (upd H s.heap.objs.size (.lst ys)) { s with heap:=s.heap.push { cls:=.type "list",data:=.seq its.toArray },toks:=t' } :=
 I.laid (fun _ _ q=>Heap.get?_push_of_some _ q) (Nat.le_refl _) ⟨hz,its,0,hv,Heap.get?_push_size _ rfl⟩
theorem Inv.fresh (I:Inv X pins σ H s):H s.heap.objs.size=none:=I.hok.fresh (Nat.le_refl _)
theorem Inv.lstM (I:Inv X pins σ H s)(hH:H l=some (.lst xs)):xs.length≤sizeLine∧∃ (its:List Value) (n:Nat),Vals xs its∧xs.length=its.length∧s.heap.get? l=some { cls:=.type "list",data:=.seq its.toArray n }:=by
 obtain⟨z,its,n,r,e⟩:=I.hok l _ hH
 exact⟨z,its,n,r,r.length,e⟩
theorem notLongL {n:Nat}(h:n≤sizeLine):Builtin.List.listTooLong n=false:=by
 unfold Builtin.List.listTooLong
 exact decide_eq_false (by omega)
end
section
variable {X:Cx}
def rAppend:V→List V→Hp→VK→Prop:=fun x vs H Q=>∃ l xs y,x=.ref l∧vs=[y]∧H l=some (.lst xs)∧xs.length<sizeLine∧Q .non (upd H l (.lst (xs++[y])))
theorem mt_append:MtM X "list.append" rAppend:=by
 intro pins s σ H x vs v us Q I rx rv h
 obtain⟨l,xs,y,rfl,rfl,hH,hz,q⟩:=h
 cases rx
 obtain⟨u,rfl,ru⟩:=rv.one
 obtain⟨z,its,n,r,hl,e⟩:=I.lstM hH
 refine call_meets F.slot_list_append ⟨_,e,rfl⟩ F.entry_list_append (F.args_list_append_2 _ _) (PySem.list_append l its.toArray n u (by rw[List.size_toArray];omega)) ⟨e,?_⟩
 refine⟨.non,_,I.lset (its':=its++[u]) hH e (by simp) (r.append (.cons ru .nil)) ?_,rfl,q⟩
 rw[List.length_append,List.length_singleton]
 omega
def rExtend:V→List V→Hp→VK→Prop:=fun x vs H Q=>∃ l b xs zs,x=.ref l∧vs=[.ref b]∧H l=some (.lst xs)∧H b=some (.lst zs)∧xs.length+zs.length≤sizeLine∧Q .non (upd H l (.lst (xs++zs)))
theorem mt_extend:MtM X "list.extend" rExtend:=by
 intro pins s σ H x vs v us Q I rx rv h
 obtain⟨l,b,xs,zs,rfl,rfl,hH,hB,hz,q⟩:=h
 cases rx
 obtain⟨u,rfl,ru⟩:=rv.one
 cases ru
 obtain⟨z,its,n,r,hl,e⟩:=I.lstM hH
 obtain⟨z2,its2,n2,r2,hl2,e2⟩:=I.lstM hB
 have hsz:its.toArray.size+its2.toArray.size≤sizeLine:=by rw[List.size_toArray,List.size_toArray];omega
 have hlong:¬ (!its.toArray.isEmpty && Builtin.List.listTooLong (its.toArray.size+its2.toArray.size))=true:=by
  rw[notLongL hsz,Bool.and_false]
  exact Bool.false_ne_true
 refine call_meets F.slot_list_extend ⟨_,e,rfl⟩ F.entry_list_extend (F.args_list_extend_2 _ _)
  (AutoSeq1.list_extend_list_list_0 l its.toArray n b its2.toArray n2 hlong (by rw[List.size_toArray];omega) (by omega)) ⟨e,e2,?_⟩
 refine⟨.non,_,I.lset (its':=its++its2) hH e (by simp) (r.append r2) ?_,rfl,q⟩
 rw[List.length_append]
 omega
def rCat:R2:=fun x y H Q=>∃ l b xs zs,x=.ref l∧y=.ref b∧H l=some (.lst xs)∧H b=some (.lst zs)∧xs.length+zs.length≤sizeLine∧∀ p,H p=none→Q (.ref p) (upd H p (.lst (xs++zs)))
theorem op_cat:OpR X (binaryOp .Add) rCat:=by
 intro pins s σ H x y v u Q I rx ry h
 obtain⟨l,b,xs,zs,rfl,rfl,hH,hB,hz,q⟩:=h
 cases rx
 cases ry
 obtain⟨z,its,n,r,hl,e⟩:=I.lstM hH
 obtain⟨z2,its2,n2,r2,hl2,e2⟩:=I.lstM hB
 refine PySem.P.add_list e e2 ?_ (by rw[List.size_toArray,List.size_toArray];omega)
 have ea:its.toArray++its2.toArray=(its++its2).toArray:=by simp
 rw[ea]
 exact⟨.ref _,_,I.lnew (t':=s.toks) (r.append r2) (by rw[List.length_append];omega),rfl,q _ I.fresh⟩
def rRep:R2:=fun x y H Q=>∃ l k xs,x=.ref l∧y=.int k∧H l=some (.lst xs)∧-(2 ^ 63)≤k∧k<2 ^ 63∧xs.length * k.toNat≤sizeLine ∧
 ∀ p,H p=none→Q (.ref p) (upd H p (.lst (List.replicate k.toNat xs).flatten))
theorem len_rep {α:Type}(xs:List α)(k:Nat):(List.replicate k xs).flatten.length=k * xs.length:=by
 induction k with
 | zero=>simp
 | succ k ih=>rw[List.replicate_succ,List.flatten_cons,List.length_append,ih,Nat.succ_mul,Nat.add_comm]
theorem op_rep:OpR X (binaryOp .Mult) rRep:=by
 intro pins s σ H x y v u Q I rx ry h
 obtain⟨l,k,xs,rfl,rfl,hH,h1,h2,hz,q⟩:=h
 cases rx
 obtain⟨t,rfl⟩:=ry
 obtain⟨z,its,n,r,hl,e⟩:=I.lstM hH
 have hlen:its.toArray.size * k.toNat≤sizeLine:=by rw[List.size_toArray,← hl];exact hz
 have hcap:¬ its.toArray.size * k.toNat>(2 ^ 63 - 1) / 8:=by
  have:(sizeLine:Nat)≤(2 ^ 63 - 1) / 8:=by decide
  omega
 have hfit:¬ (!Builtin.List.listFitsIndex k)=true:=by
  rw[fitsIndex_both h1 h2]
  exact Bool.false_ne_true
 have hlong:¬ Builtin.List.listTooLong (its.toArray.size * k.toNat)=true:=by
  rw[notLongL hlen]
  exact Bool.false_ne_true
 have hnew:List.foldl (fun x1 x2=>x1++x2) #[] (List.replicate (if its.toArray.isEmpty=true then 0 else k.toNat) its.toArray)=(List.replicate k.toNat its).flatten.toArray:=by
  have f0:∀ m:Nat,List.foldl (fun x1 x2=>x1++x2) #[] (List.replicate m its.toArray)=(List.replicate m its).flatten.toArray:=fun m=>by
   have:=foldl_rep its m []
   rw[List.nil_append] at this
   exact this
  rw[f0]
  cases its with
  | nil=>simp
  | cons a r'=>rw[if_neg (by simp)]
 refine wpAny_binaryOp_repeat_ref (T:="list") (U:="int") (by decide) ⟨_,e,rfl⟩ (fun s'=>typeIs_int s' k t) noFill_list_mul F.fills_int_mul F.slot_int_rmul repeat_list F.slot_int_index.lookup
  (call_meets F.slot_int_rmul (typeIs_int s k t) F.entry_int_rmul (F.args_int_rmul_2 _ _) (int___rmul___int_list k t l its.toArray n)
   ⟨e,rfl,⟨_,e,rfl⟩,call_meets F.slot_list_mul ⟨_,e,rfl⟩ F.entry_list_mul (F.args_list_mul_2 _ _) (AutoListH.list___mul___list_int_3 l its.toArray n k t hfit hcap hlong) ⟨e,?_⟩⟩)
 rw[hnew]
 exact⟨.ref _,_,I.lnew (t':=s.toks) (r.rep k.toNat) (by rw[len_rep,Nat.mul_comm];exact hz),rfl,q _ I.fresh⟩
end
section
variable {prog:Program}{w:World}{A:Around}{E:Value→Shared→Prop}{s:Shared}
end
section
variable {X:Cx}
end
end L2
namespace Att
open PySem PySem.W PySem.Calls PyProof.Rows
theorem ints_of_wellAll {P:Params}{h:Heap}:∀ (ns:List Int) (vs:List Value),WellAll P h vs (ns.map WData.int)→IntsAre vs ns:=by
 intro ns
 induction ns with
 | nil =>
  intro vs w
  rw[List.map_nil] at w
  cases w
  exact .nil
 | cons n ns ih =>
  intro vs w
  rw[List.map_cons] at w
  cases w with
  | cons a b =>
   cases a
   exact .cons _ _ (ih _ b)
theorem script_of {l:OpenLaw}{n:Nat}(hn:l.most=some n){P:Params}{h:Heap}{args:List WData}{vals:List Value}
  (hpre:l.row.toRowW.claim.pre args=true) (hwl:WellAll P h vals args) :
  ∃ a vs ns,vals=[Value.ref a]∧args=[WData.list (ns.map WData.int)]∧h.get? a=some { cls:=.type "list",data:=.seq vs.toArray }∧IntsAre vs ns∧ns.length≤n:=by
 have hsh:WShape.hasAll [] args [.list .int]=true:=(pre_splitW hpre).1
 have hc:l.pre.holds [] { args:=args }=true:=(pre_splitW hpre).2
 obtain⟨d,r,rfl,h1,h2⟩:=hasAllW_cons hsh
 obtain rfl:=hasAllW_nil h2
 obtain⟨xs,rfl,h3⟩:=hasW_list h1
 obtain⟨ns,rfl⟩:=items_int h3
 have hlen:ns.length≤n:=by
  unfold OpenLaw.pre at hc
  have h4:(WTm.not (.lt (.lit (.int (n:Int))) (.len (.arg 0)))).holds [] { args:=[.list (ns.map .int)] }=true:=by
   have h4:=(holds_andW hc).1
   rw[hn] at h4
   exact h4
  have h5:=condW_of h4 (w_not (w_lt w_lit (w_len_list (w_arg rfl))))
  rw[List.length_map] at h5
  refine Nat.le_of_not_lt fun q=>?_
  have q':(n:Int)<((ns.length:Nat):Int):=by omega
  first
   | (rw[decide_eq_true q'] at h5;exact absurd h5 (by decide))
   | (simp at h5;omega)
 cases hwl with
 | cons w1 w2 =>
  cases w2
  cases w1 with
  | list ho hall=>exact⟨_,_,ns,rfl,rfl,ho,ints_of_wellAll ns _ hall,hlen⟩
theorem post_true (l:OpenLaw)(args:List WData):l.row.toRowW.claim.post args (.bool true) args=true :=
 postW_of (r:=l.row.toRowW) (X:=(true == true))
  (show WShape.has [] (.bool true) .bool=true by first | rfl | decide | simp[WShape.has,WShape.arms,WShape.armsAll])
  (show (WTm.eq .res (.lit (.bool true))).value [] { args:=args,res:=some (.bool true),after:=args }=some (.bool (true == true)) from w_eq_bool (w_res rfl) w_lit) rfl
theorem attach_call {l:OpenLaw}{n:Nat}{q:Program}{loose:List Str}{XP:(Str→Option Value)→Heap→Prop}{YP:World→Heap→Prop}{d:DefRec}
  (hn:l.most=some n) (hdf:d.params.defaults=[])
  (call:∀ (w:World) (s₀ s₁:Shared) (mg mb:Str→Option Value) (fa:Addr) (o:Obj) (pm cd doc:Value) (a:Addr) (vs:List Value) (ns:List Int),
   Ground q loose [] XP w s₀ mg mb s₁.heap→YP w s₁.heap →
   s₁.heap.get? fa=some o→o.data=.func (docDef d.name d.params d.body d.scope pm cd doc)→s₁.heap.CodeRec cd d.name→mg d.name=some (.ref fa) →
   s₁.heap.get? a=some { cls:=.type "list",data:=.seq vs.toArray }→IntsAre vs ns→ns.length≤n→s₁.gens=#[] →
   codeAny (model l.prog w) callerA (.call (.ref fa) ⟨[.ref a],[]⟩) (fun r s'=>r=.ok (.ret (.bool true))∧OldK s₁.heap s'.heap∧s'.os=s₁.os∧AllBare s'.gens) s₁) :
  WalkO q loose XP YP l.row.toRowW d [] (fun f vs=>PySem.call f vs):=by
 intro w s₀ s₁ mg mb G Y fa o pm cd doc dV kV ho hd hcd hD hmg hg args vals as hpre hlay hrd hwl hlo
 obtain rfl:dV=.none:=Dflts.none hD hdf
 obtain rfl:kV=.none:=Dflts.noKw hD
 obtain⟨a,vs,ns,rfl,rfl,hobj,hints,hlen⟩:=script_of hn hpre hwl
 refine enter_call (codeAny_mono (call w s₀ s₁ mg mb fa o pm cd doc a vs ns G Y ho (fd_plain hd) hcd hmg hobj hints hlen hg) fun r s' hq=>?_)
 obtain⟨rfl,h2,h3,h4⟩:=hq
 exact⟨.inl ⟨.bool true,.bool true,[],rfl,fun _=>rfl,.bool true,post_true l _,fun _=>⟨List.Pairwise.nil,fun _ hm=>(nomatch hm)⟩⟩,h2,h3,h4⟩
section
variable {prog:Program}{w:World}{A:Around}{E:Value→Shared→Prop}{s:Shared}{K:Frag}
def ledger (h:Heap)(L d:Addr):List (Addr×Obj):=(List.range h.objs.size).filterMap fun a=>if a=L∨a=d then none else (h.get? a).map fun o=>(a,o)
end
end Att
namespace L2
open PySem PySem.Spec PyProof.Rows
theorem vals_ints:∀ {vs:List Value}{ns:List Int},IntsAre vs ns→Vals (ns.map V.int) vs
 | _,_,.nil=>.nil
 | _,_,.cons n t h=>.cons ⟨t,rfl⟩ (vals_ints h)
def Only (H:Hp):Prop:=∀ b,H b=none∨∃ o xs,H b=some (.frz o (.lst xs))
theorem law_call {P:Program}{w:World}{K:PySem.W.Frag}{mg mb:Str→Option Value}{CX:CXT}{k:Nat}{fa a:Addr}{fd:FuncData}{x:Str}{sp:Sp}{s₁:Shared}{vs:List Value}{ns:List Int}
  (KX:K.In s₁.heap) (hns:s₁.heap.Ns mainGlobals mg) (hb:s₁.heap.Ns builtinsNs mb) (hbb:∀ x:Str,x≠"__name__"→mb x=bootBuiltins x) (hlim:s₁.heap.NoLimit) (hg:s₁.gens=#[])
  (ha:s₁.heap.get? a=some { cls:=.type "list",data:=.seq vs.toArray }) (hi:IntsAre vs ns) (hl:ns.length≤sizeLine) (hr:Room k callerA)
  (F:∀ base:Heap,K.In base→base.Ns mainGlobals mg→FnOk P w K mg base CX k fa fd [x] sp) (hbind:∀ (s:Shared) (u:Value),BindsTo s fd ⟨[u],[]⟩ [(x,u)])
  (hsp:∀ H:Hp,Only H→SqL K H a (ns.map V.int)→sp [.ref a] H (fun v _=>v=.bl true) fun _ _ _=>False)
  (hCX:∀ H e s',CX [] H s₁ (fun _ _ _=>False) e s'→False) :
  codeAny (model P w) callerA (.call (.ref fa) ⟨[.ref a],[]⟩) (fun r s'=>r=.ok (.ret (.bool true))∧OldK s₁.heap s'.heap∧s'.os=s₁.os∧AllBare s'.gens) s₁:=by
 have rv:=vals_ints hi
 have lenV:=hi.length
 have core:∀ H:Hp,Only H→SqL K H a (ns.map V.int)→HOk P w H s₁.heap→(∀ b,H b≠none→b=a)→(H a≠none→K.lookup a=none) →
   codeAny (model P w) callerA (.call (.ref fa) ⟨[.ref a],[]⟩) (fun r s'=>r=.ok (.ret (.bool true))∧OldK s₁.heap s'.heap∧s'.os=s₁.os∧AllBare s'.gens) s₁:=by
  intro H hO hS hok hA hK
  have base_of:∀ {b:Addr}{o:Obj},s₁.heap.get? b=some o→H b=none→(hidT s₁.heap H).get? b=some o:=fun e n=>hidT_get e n
  have noA:∀ {b:Addr}{o:Obj}{es:Array DictEntry}{ep:Nat},s₁.heap.get? b=some o→o.data=.dict es ep→H b=none:=fun {b o es ep} e d=>by
   cases q:H b with
   | none=>rfl
   | some u =>
    have e':b=a:=hA b (by rw[q];simp)
    subst e'
    rw[ha] at e;cases e
    have d':Data.seq vs.toArray _=Data.dict es ep:=d
    cases d'
  have nsK:∀ {b:Addr}{m:Str→Option Value},s₁.heap.Ns b m→(hidT s₁.heap H).Ns b m:=fun {b m} ⟨o,es,ep,e,d,r⟩=>⟨o,es,ep,base_of e (noA e d),d,r⟩
  have hKb:K.In (hidT s₁.heap H):=fun b o e=>base_of (KX b o e) (by
   cases q:H b with
   | none=>rfl
   | some u =>
    have e':b=a:=hA b (by rw[q];simp)
    subst e'
    rw[hK (by rw[q];simp)] at e;cases e)
  have hM:Mod K mg (hidT s₁.heap H):=⟨hKb,nsK hns,⟨mb,nsK hb,hbb⟩,let ⟨mc,h1,h2⟩:=hlim;⟨mc,nsK h1,h2⟩⟩
  have e0:Env0 P w K mg (hidT s₁.heap H) callerA [] s₁ H:=⟨rfl,hM,fun b o e=>of_hidT e,Nat.le_of_eq (hidT_size _ _),trivial,fun b hb=>absurd (show b∈([]:List Addr) from hb) (by simp),hok,.of_eq hg⟩
  refine codeAny_mono ((F _ hKb (nsK hns)).run callerA [] s₁ H ⟨[.ref a],[]⟩ [.ref a] [.ref a] _ _ hr e0 (hbind s₁ (.ref a)) (.cons rfl .nil) (hsp H hO hS)) fun r s' h=>?_
  cases r with
  | error e=>exact (hCX H e s' h).elim
  | ok fl =>
   cases fl with
   | next=>exact False.elim h
   | brk=>exact False.elim h
   | cont=>exact False.elim h
   | ret u =>
    obtain⟨v,H',os,bare,un,hok',r',q⟩:=h
    have q':v=.bl true:=q
    subst q'
    obtain rfl:u=Value.bool true:=r'
    refine⟨rfl,OldK.of_keep fun b o e=>?_,os,bare⟩
    cases q:H b with
    | none=>exact un.keep b o e q (by intro z;exact absurd (show b∈([]:List Addr) from z) (by simp)) (by simp)
    | some u =>
     rcases hO b with z | ⟨ob,xs,z⟩
     ·rw[q] at z;cases z
     ·have z2:=un.frzs b ob _ z
      obtain⟨e1,_⟩:=hok b _ z
      obtain⟨e2,_⟩:=hok' b _ z2
      rw[e] at e1;cases e1
      exact e2
 cases hk:K.lookup a with
 | some o =>
  have e:=KX a o hk
  rw[ha] at e
  cases e
  refine core (fun _=>none) (fun _=>.inl rfl) (.inr ⟨_,vs.toArray,_,hk,rfl,rfl,rfl,by rw[List.size_toArray,lenV];exact hl,by simpa using rv⟩) (fun b u z=>by have z':(none:Option HO)=some u:=z;cases z') (fun b z=>absurd rfl z) fun z=>absurd rfl z
 | none =>
  refine core (fun b=>if b=a then some (.frz { cls:=.type "list",data:=.seq vs.toArray } (.lst (ns.map V.int))) else none) (fun b=>?_) (.inl (.inr ⟨{ cls:=.type "list",data:=.seq vs.toArray },if_pos rfl⟩)) (fun b u z=>?_) (fun b z=>?_) fun _=>hk
  ·by_cases hb:b=a
   ·exact .inr ⟨_,_,if_pos hb⟩
   ·exact .inl (if_neg hb)
  ·by_cases hb:b=a
   ·have z':=(if_pos hb).symm.trans z
    cases z'
    subst hb
    exact⟨ha,by rw[List.length_map];exact hl,vs,_,rv,ha⟩
   ·have z':=(if_neg hb).symm.trans z
    cases z'
  ·by_cases hb:b=a
   ·exact hb
   ·exact absurd (if_neg hb) z
end L2
namespace L2
open PySem PySem.Spec PyProof.Rows
abbrev KOf {K:PySem.W.Frag}{h:Heap}(_:K.In h):PySem.W.Frag:=K
theorem walk_of {l:PySem.W.OpenLaw}{n k:Nat}{q:Program}{loose:List Str}{XP:(Str→Option Value)→Heap→Prop}{YP:World→Heap→Prop}{d:DefRec}{K:Params→PySem.W.Frag}{CX:World→CXT}{sp:World→Sp}{x:Str}
  (hn:l.most=some n) (hn2:n≤sizeLine) (hdf:d.params.defaults=[]) (hr:Room k callerA)
  (hY:∀ (w:World) (h:Heap),YP w h→(K w.params).In h)
  (F:∀ (w:World) (mg:Str→Option Value) (fa:Addr) (h:Heap),(K w.params).In h→h.Ns mainGlobals mg→mg d.name=some (.ref fa) →
   ∃ fd:FuncData,(∀ (s:Shared) (u:Value),BindsTo s fd ⟨[u],[]⟩ [(x,u)]) ∧
    ∀ base:Heap,(K w.params).In base→base.Ns mainGlobals mg→FnOk l.prog w (K w.params) mg base (CX w) k fa fd [x] (sp w))
  (hsp:∀ (w:World) (H:Hp) (a:Addr) (ns:List Int),ns.length≤n→Only H→SqL (K w.params) H a (ns.map V.int)→sp w [.ref a] H (fun v _=>v=.bl true) fun _ _ _=>False)
  (hCX:∀ (w:World) (H:Hp) (s:Shared) (e:Value) (s':Shared),CX w [] H s (fun _ _ _=>False) e s'→False) :
  PySem.W.WalkO q loose XP YP l.row.toRowW d [] (fun f vs=>PySem.call f vs):=by
 refine Att.attach_call hn hdf fun w s₀ s₁ mg mb fa o pm cd doc a vs ns G Y ho hd hcd hmg hobj hints hlen hg=>?_
 have KX:=hY w _ Y
 obtain⟨fd,hb,hF⟩:=F w mg fa _ KX G.T.g hmg
 exact law_call KX G.T.g G.T.b G.T.builtins G.T.nolimit hg hobj hints (Nat.le_trans hlen hn2) hr hF hb (fun H hO hS=>hsp w H a ns hlen hO hS) fun H e s'=>hCX w H s₁ e s'
end L2
namespace L2
open PySem PySem.Spec PyProof.Rows
def inClass (s:Stmt)(j:Nat):Stmt:=match s with
 | .ClassDef _ _ _ body _ _ _ _ _ _ _=>body.getD j (.Pass ⟨0,0,0,0⟩)
 | _=>.Pass ⟨0,0,0,0⟩
def defArgs (s:Stmt):Arguments:=match s with
 | .FunctionDef _ a _ _ _ _ _ _ _ _=>a
 | _=>{ posonlyargs:=[],args:=[],vararg:=none,kwonlyargs:=[],kw_defaults:=[],kwarg:=none,defaults:=[] }
def defBody (s:Stmt):List Stmt:=match s with
 | .FunctionDef _ _ b _ _ _ _ _ _ _=>b
 | _=>[]
def defScope (s:Stmt):Scope:=match s with
 | .FunctionDef _ _ _ _ _ _ sc _ _ _=>sc
 | _=>{ kind:=.function,names:=[],isGenerator:=false,isCoroutine:=false }
abbrev CX0:CXT:=fun _ _ _ _ _ _=>False
abbrev E0:XK:=fun _ _ _=>False
theorem pass0 {X:Cx}:Passes CX0 X E0:=fun _ _ _ _ _ _ _ h=>h.elim
structure Fun (K:PySem.W.Frag)(x qual:Str)(st:Stmt)(f:Addr)(fd:FuncData):Prop where
 ex:∃ (oc:Value) (od:Option Addr) (kV doc pm:Value) (an:Option Addr) (cdv ct:Value) (osl:Array (Option Value)),
  fd=PySem.W.fnOf x qual (defArgs st) (defBody st) (defScope st) .none kV doc pm an cdv ct∧K.lookup f=some ⟨oc,od,.func fd,osl⟩∧PySem.W.codeIn K cdv qual=true
 kp:PySem.W.keepIn K (.ref f)=true
section
variable {P:Program}{w:World}{K:PySem.W.Frag}{mg:Str→Option Value}{base:Heap}
theorem Fun.ok {x qual:Str}{st:Stmt}{f:Addr}{fd:FuncData}{N ps:List Str}{k:Nat}{sp:Sp}(F:Fun K x qual st f fd)(S:FnScope N ps (defScope st))(len:∀ vs H Q E,sp vs H Q E→vs.length=ps.length)
  (hbody:∀ (cdv:Value) (A:Around) (outer:List Env) (s:Shared) (H:Hp) (vs:List V) (Q:VK) (E:XK),Room k (A.deeper (envOfC qual (defScope st) s.heap.objs.size f cdv))→sp vs H Q E →
   ∃ t,PSs (cxOf CX0 P w K mg base N qual (defScope st) f cdv A outer s H E).nox (defBody st) t∧t { nx:=fun _ H'=>Q .non H',rt:=Q } (start N vs) H):FnOk P w K mg base CX0 (k+1) f fd ps sp:=by
 obtain⟨oc,od,kV,doc,pm,an,cdv,ct,osl,rfl,lk,hcd⟩:=F.ex
 refine fn_of lk hcd S len fun A outer s H vs Q E hr hsp=>?_
 obtain⟨t,h,q⟩:=hbody cdv A outer s H vs Q E hr hsp
 exact⟨t,h.nox,q⟩
theorem Fun.binds {x qual:Str}{st:Stmt}{f:Addr}{fd:FuncData}{ps:List Str}(F:Fun K x qual st f fd)
  (h:∀ (kV doc pm:Value) (an:Option Addr) (cdv ct:Value) (us:List Value),us.length=ps.length→bindArgs (PySem.W.fnOf x qual (defArgs st) (defBody st) (defScope st) .none kV doc pm an cdv ct) ⟨us,[]⟩=pure (ps.zip us)):Binds K fd ps []:=by
 obtain⟨oc,od,kV,doc,pm,an,cdv,ct,osl,rfl,lk,hcd⟩:=F.ex
 exact .all (h kV doc pm an cdv ct)
theorem fun_mk {x qual:Str}{st:Stmt}{f:Addr}{oc:Value}{od an:Option Addr}{osl:Array (Option Value)}{kV doc pm cdv ct:Value}(l:K.lookup f=some ⟨oc,od,.func (PySem.W.fnOf x qual (defArgs st) (defBody st) (defScope st) .none kV doc pm an cdv ct),osl⟩)
  (c:PySem.W.codeIn K cdv qual=true) (k:PySem.W.keepIn K (.ref f)=true):Fun K x qual st f (PySem.W.fnOf x qual (defArgs st) (defBody st) (defScope st) .none kV doc pm an cdv ct):=⟨⟨oc,od,kV,doc,pm,an,cdv,ct,osl,rfl,l,c⟩,k⟩
end
theorem small1000 {n:Nat}(h:n≤1000):n<sizeLine:=Nat.lt_of_le_of_lt h (by decide)
section
variable {X:Cx}
theorem pv (i:Nat){x:Str}{pos:Pos}(hN:X.N[i]?=some x:=by rfl)(hv:Vis X.env.scope x:=by first | exact Or.inl rfl | exact Or.inr (Or.inl rfl) | exact Or.inr (Or.inr rfl))(hd:(x == ("__debug__":Str))=false:=by decide)
  (hcd:(x == ("__classdict__":Str))=false:=by decide):PE X (.Name x pos) (tVar i):=pe_var hN hv hd hcd
end
theorem iteF {A B:Prop}(h:B):if false=true then A else B:=by
 rw[if_neg Bool.false_ne_true]
 exact h
theorem iteT {A B:Prop}(h:A):if true=true then A else B:=by
 rw[if_pos rfl]
 exact h
theorem ite2 {c A B:Prop}[Decidable c](h1:c→A)(h2:¬ c→B):if c then A else B:=by
 by_cases h:c
 ·rw[if_pos h]
  exact h1 h
 ·rw[if_neg h]
  exact h2 h
theorem iteNS {c A B:Prop}[Decidable c](hc:c)(h:B):if (!decide c)=true then A else B:=by
 rw[decide_eq_true hc]
 exact iteF h
def Same (H H':Hp):Prop:=∀ b o,H b=some o→H' b=some o
theorem Same.refl (H:Hp):Same H H:=fun _ _ h=>h
theorem Same.trans {H H1 H2:Hp}(a:Same H H1)(b:Same H1 H2):Same H H2:=fun c o h=>b c o (a c o h)
theorem Same.free {H H':Hp}(e:Same H H'){l:Addr}(h:H' l=Option.none):H l=Option.none:=by
 cases q:H l with
 | none=>rfl
 | some o =>
  rw[e l o q] at h
  cases h
theorem Same.seq {K:PySem.W.Frag}{H H':Hp}{a:Addr}{xs:List V}(e:Same H H')(h:SqL K H a xs):SqL K H' a xs:=by
 rcases h with (h | ⟨o,h⟩) | h
 ·exact .inl (.inl (e _ _ h))
 ·exact .inl (.inr ⟨o,e _ _ h⟩)
 ·exact .inr h
end L2
namespace L2
open PySem PySem.Spec PyProof.Rows
def iota (n:Nat):List Int:=(List.range n).map fun k=>((k:Nat):Int)
theorem iota_length (n:Nat):(iota n).length=n:=by simp[iota]
theorem iota_succ (n:Nat):iota (n+1)=iota n++[(n:Int)]:=by simp[iota,List.range_succ]
theorem mem_iota {n:Nat}{x:Int}:x∈iota n↔0≤x∧x<n:=by
 unfold iota
 rw[List.mem_map]
 constructor
 ·rintro⟨k,hk,rfl⟩
  rw[List.mem_range] at hk
  omega
 ·rintro⟨h1,h2⟩
  exact⟨x.toNat,List.mem_range.mpr (by omega),by omega⟩
theorem iota_nodup (n:Nat):(iota n).Nodup:=by
 unfold iota
 exact List.Pairwise.map _ (fun a b h z=>h (by omega)) List.nodup_range
theorem iota_sorted (n:Nat):(iota n).Pairwise (·≤·):=by
 induction n with
 | zero=>exact .nil
 | succ n ih =>
  rw[iota_succ,List.pairwise_append]
  refine⟨ih,List.pairwise_singleton _ _,fun a ha b hb=>?_⟩
  have h1:=mem_iota.mp ha
  have h2:b=(n:Int):=by simpa using hb
  omega
section
variable {X:Cx}
theorem line20:(1048576:Nat)≤sizeLine:=by rw[sizeLine_eq];decide
def rSorted (K:PySem.W.Frag):List V→Hp→VK→Prop:=fun xs H Q=>∃ (p:Addr) (ns:List Int),xs=[.ref p]∧SqL K H p (ns.map V.int)∧ns.length<64∧∀ (l:Addr) (ms:List Int),H l=none→ms.Perm ns→ms.Pairwise (·≤·)→Q (.ref l) (upd H l (.lst (ms.map V.int)))
theorem call_sorted:CallR X (.builtin "sorted") (rSorted X.K):=by
 intro pins s σ H xs us Q I r h
 obtain⟨p,ns,rfl,hq,hl,q⟩:=h
 obtain⟨u,rfl,rx⟩:=vals1 r
 cases rx
 obtain⟨its,rv,pl,hz⟩:=I.list hq
 have hi:IntsAre its ns:=intsAre_of rv
 have hlen:=rv.length
 rw[List.length_map] at hlen hz
 refine PyProof.Rows.sorted_ints pl.isList hi (by omega) fun out ms a1 a2 a3=>?_
 obtain⟨e,he⟩:=sortedAll_at s.heap its out
 have hfr:H (s.heap.objs.size+1)=none:=I.hok.fresh (Nat.le_succ _)
 refine⟨.ref (s.heap.objs.size+1),_,I.laid (t':=s.toks) (o:=.lst (ms.map V.int)) (fun b u q=>sortedAll_old q) (Nat.le_succ _) ⟨?_,out.toList,e,vals_ints a1,?_⟩,rfl,q _ ms hfr a2 a3⟩
 ·rw[List.length_map,a2.length_eq];exact hz
 ·simpa using he
def rRange1:List V→Hp→VK→Prop:=fun xs H Q=>∃ j,xs=[.int j]∧∀ r,H r=none→Q (.ref r) (upd H r (.rng 0 j))
theorem call_range1:CallR X (.type "range") rRange1:=by
 intro pins s σ H xs us Q I r h
 obtain⟨j,rfl,q⟩:=h
 obtain⟨u,rfl,t,rfl⟩:=vals1 r
 refine call_range_1 ⟨.ref s.heap.objs.size,_,I.laid (o:=.rng 0 j) (fun b u q=>Heap.get?_push_of_some _ q) (Nat.le_refl _) ⟨_,_,_,Heap.get?_push_size _ rfl⟩,rfl,q _ (I.hok.fresh (Nat.le_refl _))⟩
def rngV (lo:Int)(n:Nat):List V:=(List.range n).map fun k=>V.int (lo+(k:Nat))
theorem rngV_iota (n:Nat):rngV 0 n=(iota n).map V.int:=by simp[rngV,iota]
theorem vals_items:∀ {n:Nat}{its:List Value}{lo:Int},its.length=n→(∀ (j:Nat) v,its[j]?=some v→∃ t,v=.int (lo+(j:Nat) * 1) t)→Vals (rngV lo n) its
 | 0,[],_,_,_=>.nil
 | n+1,v::its,lo,hl,h=>by
  have e:rngV lo (n+1)=V.int lo::rngV (lo+1) n:=by
   unfold rngV
   rw[List.range_succ_eq_map,List.map_cons,List.map_map]
   congr 1
   ·simp
   ·refine List.map_congr_left fun k _=>?_
    show V.int (lo+((k+1:Nat):Int))=V.int (lo+1+(k:Nat))
    congr 1
    omega
  rw[e]
  obtain⟨t,ht⟩:=h 0 v rfl
  refine .cons ⟨t,by rw[ht];simp⟩ (vals_items (by simpa using hl) fun j w hw=>?_)
  obtain⟨t',ht'⟩:=h (j+1) w (by simpa using hw)
  refine⟨t',?_⟩
  rw[ht']
  congr 1
  push_cast
  omega
def rListRng:List V→Hp→VK→Prop:=fun xs H Q=>∃ r lo hi,xs=[.ref r]∧H r=some (.rng lo hi)∧-1048576≤lo∧lo≤1048576∧-1048576≤hi∧hi≤1048576∧(hi - lo).toNat≤1048576 ∧
 ∀ l,H l=none→Q (.ref l) (upd H l (.lst (rngV lo (hi - lo).toNat)))
theorem call_list_rng (hc:X.calm=true):CallR X (.type "list") rListRng:=by
 intro pins s σ H xs us Q I r h
 obtain⟨a,lo,hi,rfl,hr,h1,h2,h3,h4,h5,q⟩:=h
 obtain⟨u,rfl,rx⟩:=vals1 r
 cases rx
 obtain⟨t,u,v,e⟩:∃ t u v,s.heap.get? a=some { cls:=.type "range",data:=.fields #[.int lo t,.int hi u,.int 1 v] }:=I.hok a _ hr
 have hn:Builtin.Range.rangeSize lo hi 1=((hi - lo).toNat:Int):=by rw[rangeSize_one];split <;> omega
 refine call_list_range (n:=(hi - lo).toNat) (I.ok.hd hc) e (small_one (by omega) (by omega) (by omega) (by omega)) hn (by omega) fun h' tk acc c' kp e' items=>?_
 refine⟨.ref s.heap.objs.size,_,I.laid (o:=.lst (rngV lo (hi - lo).toNat)) kp (Nat.le_refl _) ⟨?_,acc.toList,c',vals_items (by simpa using items.1) fun j w hw=>items.2 j w (by simpa using hw),by simpa using e'⟩,rfl,q _ (I.hok.fresh (Nat.le_refl _))⟩
 have:=line20
 simp[rngV]
 omega
def eqVs:List V→List V→Bool
 | [],[]=>true
 | x::xs,y::ys=>eqV x y && eqVs xs ys
 | _,_=>false
theorem eqVs_len:∀ {xs ys:List V},xs.length≠ys.length→eqVs xs ys=false
 | [],[],h=>absurd rfl h
 | [],_::_,_=>rfl
 | _::_,[],_=>rfl
 | x::xs,y::ys,h=>by
  unfold eqVs
  rw[eqVs_len (xs:=xs) (ys:=ys) (by simpa using h),Bool.and_false]
theorem eqVs_all:∀ {xs ys:List V},xs.length=ys.length→(List.range xs.length).all (fun j=>eqV (xs.getD j .non) (ys.getD j .non))=eqVs xs ys
 | [],[],_=>rfl
 | [],_::_,h=>by cases h
 | _::_,[],h=>by cases h
 | x::xs,y::ys,h=>by
  rw[List.length_cons,List.range_succ_eq_map,List.all_cons,List.all_map]
  unfold eqVs
  rw[← eqVs_all (xs:=xs) (ys:=ys) (by simpa using h)]
  rfl
theorem eqVs_ints:∀ {ns ms:List Int},eqVs (ns.map V.int) (ms.map V.int)=decide (ns=ms)
 | [],[]=>rfl
 | [],_::_=>by simp[eqVs]
 | _::_,[]=>by simp[eqVs]
 | n::ns,m::ms=>by
  show (n == m && eqVs (ns.map V.int) (ms.map V.int))=_
  rw[eqVs_ints]
  by_cases h1:n=m <;> by_cases h2:ns=ms <;> simp[h1,h2]
theorem flat_ints (ns:List Int):(ns.map V.int).all flatV=true:=by
 rw[List.all_map,List.all_eq_true]
 intro _ _
 rfl
def rEqL (K:PySem.W.Frag)(neg:Bool):R2:=fun x y H Q=>∃ p q xs ys,x=.ref p∧y=.ref q∧SqL K H p xs∧SqL K H q ys∧xs.all flatV=true∧ys.all flatV=true∧Q (.bl (if neg then !eqVs xs ys else eqVs xs ys)) H
theorem eqAt_items {A:Around}{s:Shared}{xs ys:List V}{us ws:List Value}(rx:Vals xs us)(ry:Vals ys ws)(fx:xs.all flatV=true)(fy:ys.all flatV=true)(j:Nat)(h1:j<us.toArray.size)(h2:j<ws.toArray.size) :
  SeqAt.EqAt A s us.toArray[j] ws.toArray[j] (eqV (xs.getD j .non) (ys.getD j .non)):=by
 have l1:=rx.length
 have l2:=ry.length
 rw[List.size_toArray] at h1 h2
 have g1:xs[j]?=some (xs.getD j .non):=by simp[List.getD,show j<xs.length by omega]
 have g2:ys[j]?=some (ys.getD j .non):=by simp[List.getD,show j<ys.length by omega]
 obtain⟨u,e1,r1⟩:=rx.get g1
 obtain⟨w,e2,r2⟩:=ry.get g2
 have q1:us.toArray[j]=u:=by
  rw[List.getElem?_eq_getElem h1] at e1
  simpa using e1
 have q2:ws.toArray[j]=w:=by
  rw[List.getElem?_eq_getElem h2] at e2
  simpa using e2
 rw[q1,q2]
 exact eqAt_V r1 r2 (List.all_eq_true.mp fx _ (List.mem_of_getElem? g1)) (List.all_eq_true.mp fy _ (List.mem_of_getElem? g2))
theorem op_eq_lst (hu:X.A.units<cLine):OpR X (compareOp .Eq) (rEqL X.K false):=by
 intro pins s σ H x y v u Q I rx ry h
 obtain⟨p,q,xs,ys,rfl,rfl,hp,hq,fx,fy,k⟩:=h
 cases rx
 cases ry
 obtain⟨us,r1,p1,_⟩:=I.list hp
 obtain⟨ws,r2,p2,_⟩:=I.list hq
 have l1:=r1.length
 have l2:=r2.length
 by_cases e:xs.length=ys.length
 ·refine SeqAt.eq_listAt (e:=fun j=>eqV (xs.getD j .non) (ys.getD j .non)) p1.isList p2.isList (by rw[List.size_toArray,List.size_toArray];omega) hu (fun j h1 h2=>eqAt_items r1 r2 fx fy j h1 h2) (fin_bl I k ?_)
  rw[List.size_toArray,← l1,eqVs_all e]
  rfl
 ·refine SeqAt.eq_list_lengthsAt p1.isList p2.isList (by rw[List.size_toArray,List.size_toArray];simp;omega) hu (fin_bl I k ?_)
  rw[eqVs_len e]
  rfl
theorem op_ne_lst (hu:X.A.units<cLine):OpR X (compareOp .NotEq) (rEqL X.K true):=by
 intro pins s σ H x y v u Q I rx ry h
 obtain⟨p,q,xs,ys,rfl,rfl,hp,hq,fx,fy,k⟩:=h
 cases rx
 cases ry
 obtain⟨us,r1,p1,_⟩:=I.list hp
 obtain⟨ws,r2,p2,_⟩:=I.list hq
 have l1:=r1.length
 have l2:=r2.length
 by_cases e:xs.length=ys.length
 ·refine SeqAt.RcNeAt.lists (e:=fun j=>eqV (xs.getD j .non) (ys.getD j .non)) p1.isList p2.isList (by rw[List.size_toArray,List.size_toArray];omega) hu (fun j h1 h2=>eqAt_items r1 r2 fx fy j h1 h2) _ _ _ _ (fin_bl I k ?_)
  rw[List.size_toArray,← l1,eqVs_all e]
  rfl
 ·refine SeqAt.RcNeAt.lists_lengths p1.isList p2.isList (by rw[List.size_toArray,List.size_toArray];simp;omega) hu _ _ _ _ (fin_bl I k ?_)
  rw[eqVs_len e]
  rfl
def rIsI (K:PySem.W.Frag):List V→Hp→VK→Prop:=fun xs H Q=>∃ x T t b,xs=[x,.ty T]∧TyOf K H x t∧PySem.W.kitOne K t (.type T)=some b∧Q (.bl b) H
theorem call_isinst:CallR X (.builtin "isinstance") (rIsI X.K):=by
 intro pins s σ H xs us Q I r h
 obtain⟨x,T,t,b,rfl,ty,e,q⟩:=h
 obtain⟨u,w,rfl,rx,rT⟩:=Vals.two r
 cases (show w=Value.type T from rT)
 exact isinst_ok I rx ty e fun tk=>⟨.bl b,H,I.tok tk,rfl,q⟩
end
end L2
namespace L2
open PySem PySem.Spec PyProof.Rows
section
variable {X:Cx}
def rNotB:R2:=fun x y H Q=>∃ b,y=.bl b∧((∃ i,x=.int i∧Q (.bl true) H)∨(∃ c,x=.bl c∧Q (.bl (c != b)) H))
theorem op_notB:OpR X (compareOp .IsNot) rNotB:=by
 intro pins s σ H x y v u Q I rx ry h
 obtain⟨b,rfl,h⟩:=h
 cases (show u=Value.bool b from ry)
 rcases h with⟨i,rfl,q⟩ | ⟨c,rfl,q⟩
 ·obtain⟨t,rfl⟩:=rx
  exact wpAny_pure ⟨.bl true,H,I,rfl,q⟩
 ·cases (show v=Value.bool c from rx)
  exact isnot_bool ⟨.bl (c != b),H,I,rfl,q⟩
theorem strsAre_of:∀ {zs:List Str}{us:List Value},Vals (zs.map V.str) us→StrsAre us zs
 | [],_,r=>by cases r;exact .nil
 | z::zs,_,r=>by
  cases r with
  | cons r t =>
   obtain⟨k,rfl⟩:=r
   exact .cons z k (strsAre_of t)
def rJoin (K:PySem.W.Frag):V→List V→Hp→VK→Prop:=fun x vs H Q=>∃ (sep:Str) (l:Addr) (zs:List Str),x=.str sep∧vs=[.ref l]∧SqL K H l (zs.map V.str)∧(zs.map (·.length)).sum+zs.length * sep.length≤16777216∧Q (.str (Txt.join sep zs)) H
theorem mt_join:MtR X "str.join" (rJoin X.K):=by
 intro pins s σ H x xs v us Q I rx rs h
 obtain⟨sep,l,zs,rfl,rfl,hq,hs,q⟩:=h
 obtain⟨t,rfl⟩:=rx
 obtain⟨u,rfl,rl⟩:=Vals.one rs
 cases rl
 obtain⟨its,r,pl,_⟩:=I.list hq
 exact join_list pl.isList (by simpa using strsAre_of r) hs fun t' k=>⟨.str (Txt.join sep zs),H,I.tok k,⟨t',rfl⟩,q⟩
def Ite (K:PySem.W.Frag)(a:Addr):It :=
 ⟨fun i H=>∃ xs x,SqL K H a xs∧xs[i]?=some x,fun i H x H'=>∃ t y,H t=none∧x=.ref t∧H'=upd H t (.tup [.int i,y])∧∀ xs,SqL K H a xs→xs[i]?=some y,fun i H=>∃ xs,SqL K H a xs∧xs.length≤i⟩
theorem turn_enum {P:Program}{w:World}{K:PySem.W.Frag}{elts:List Expr}{k1:Nat}{tp:Pos}(a e it:Addr)(hne:e≠it) :
  Turn P w K (.Tuple elts k1 tp) (Ite K a) [e,it] e (fun i h=>(∃ old,IsEnum h e it ((i:Nat):Int) old)∧h.IsListIter it a i) where
 mem:=by simp
 obj:=fun i h st b hb=>by
  obtain⟨⟨old,h1⟩,o,h2,_,h3⟩:=st
  rcases List.mem_cons.mp hb with rfl | hb
  ·exact⟨_,h1,fun v z=>by cases z⟩
  ·have e2:b=it:=by simpa using hb
   subst e2
   exact⟨o,h2,fun v z=>by rw[h3] at z;cases z⟩
 keep:=fun i h h' st k=>by
  obtain⟨⟨old,h1⟩,h2⟩:=st
  exact⟨⟨old,k e (by simp) _ h1⟩,h2.at fun o q=>k it (by simp) o q⟩
 item:=by
  intro X hP hw hK hc i pins s σ H E I hf st hg
  subst hP hw hK
  obtain⟨⟨old,he⟩,hit⟩:=st
  obtain⟨xs,x,hq,hx⟩:=hg
  obtain⟨its,rv,p,hz⟩:=I.list hq
  obtain⟨u,hu,ru⟩:=rv.get hx
  have fe:=hf e (by simp)
  have fi:=hf it (by simp)
  refine wpAny_pyNext_enum_item he hit p.isList (x:=u) (by simpa using hu) hne fun h1 eo hit1 tup hs1 kp=>⟨_,rfl,?_⟩
  refine wpAny_letOwnedTupleGo_enum eo fun h2 he2 sb=>?_
  have lte:=Heap.lt_size he
  have ne2:s.heap.objs.size≠e:=Nat.ne_of_gt lte
  have tup2:h2.get? s.heap.objs.size=some { cls:=.type "tuple",data:=.seq #[.int i s.toks,u] }:=sb.extBut _ _ ne2 tup
  have kp2:∀ b o,b≠e→b≠it→s.heap.get? b=some o→h2.get? b=some o:=fun b o z1 z2 q=>sb.extBut b o z1 (kp b o z1 z2 q)
  have hfr:H s.heap.objs.size=none:=I.hok.fresh (Nat.le_refl _)
  have nt:∀ b o,H b=some o→b≠e∧b≠it:=fun b o q=>⟨fun z=>(by rw[z,fe.1] at q;cases q),fun z=>(by rw[z,fi.1] at q;cases q)⟩
  have hok2:HOk X.prog X.w (upd H s.heap.objs.size (.tup [.int i,x])) h2:=fun b o q=>by
   by_cases hb:b=s.heap.objs.size
   ·subst hb
    rw[upd_same] at q
    cases q
    have l2:(2:Nat)≤sizeLine:=by rw[sizeLine_eq];decide
    exact⟨l2,[.int i s.toks,u],.cons ⟨_,rfl⟩ (.cons ru .nil),⟨_,tup2,rfl,_,rfl⟩⟩
   ·rw[upd_ne hb] at q
    refine (I.hok b o q).stay (fun c v hc z=>?_) (fun c z=>by rw[upd_ne (ne_of_none z hfr)];exact z) fun c ys z=>by rw[upd_ne (ne_of_none z hfr)];exact z
    rcases hc with hc | hc
    ·subst hc
     exact kp2 c v (nt c _ q).1 (nt c _ q).2 z
    ·exact kp2 c v (nt c _ hc).1 (nt c _ hc).2 z
  have I2:Inv X pins σ (upd H s.heap.objs.size (.tup [.int i,x])) { s with heap:=h2,toks:=s.toks+1 }:=by
   refine I.step (g':=s.gens) (d':=s.drawn) (t':=s.toks+1) (ch:=[e,it]) (fun b hb=>?_) (fun b o _ _ hc q _=>kp2 b o (fun z=>hc (by simp[z])) (fun z=>hc (by simp[z])) q)
    (fun b o _ _ hc q _=>⟨o.slots,kp2 b o (fun z=>hc (by simp[z])) (fun z=>hc (by simp[z])) q⟩) (fun b o _ q n=>by rw[upd_ne (Nat.ne_of_lt (Heap.lt_size q))];exact n)
    (fun b o hc q=>⟨o,kp2 b o (fun z=>hc (by simp[z])) (fun z=>hc (by simp[z])) q⟩) (fun b ys q=>by rw[upd_ne (ne_of_none q hfr)];exact q) (fun b o u q=>by rw[upd_ne (ne_of_none q hfr)];exact q)
    (fun b ps q=>⟨#[],by rw[upd_ne (ne_of_none q hfr),q];simp⟩) (fun m hm=>?_) hok2 I.bare
   ·rcases List.mem_cons.mp hb with rfl | hb
    ·exact⟨fe.2.2.2.1,fe.2.1,fe.2.2.2.2.1,fe.2.2.2.2.2⟩
    ·have e2:b=it:=by simpa using hb
     subst e2
     exact⟨fi.2.2.2.1,fi.2.1,fi.2.2.2.2.1,fi.2.2.2.2.2⟩
   ·obtain⟨o,es,ep,ho,r⟩:=hm
    exact⟨o,es,ep,kp2 _ o (Ne.symm fe.2.1) (Ne.symm fi.2.1) ho,r⟩
  refine⟨.ref s.heap.objs.size,_,I2,rfl,⟨_,x,hfr,rfl,rfl,fun ys hy=>by rw[I.list_inj hy hq];exact hx⟩,⟨⟨u,?_⟩,?_⟩,fun b hb=>?_⟩
  ·have:=he2
   rw[show ((i:Nat):Int)+1=((i+1:Nat):Int) by omega] at this
   exact this
  ·obtain⟨o,h1,h2'⟩:=hit1
   exact⟨o,sb.extBut _ _ (Ne.symm hne) h1,h2'⟩
  ·have hb0:=(hf b hb).1
   have:b≠s.heap.objs.size:=by
    rcases List.mem_cons.mp hb with rfl | hb
    ·exact Ne.symm ne2
    ·have e2:b=it:=by simpa using hb
     subst e2
     obtain⟨o,h1,_⟩:=hit
     exact Nat.ne_of_lt (Heap.lt_size h1)
   rw[upd_ne this]
   exact hb0
 done:=by
  intro X hP hw hK hc i pins s σ H E I hf st hg
  subst hP hw hK
  obtain⟨⟨old,he⟩,hit⟩:=st
  obtain⟨xs,hq,hx⟩:=hg
  obtain⟨its,rv,p,hz⟩:=I.list hq
  obtain⟨f0,f1,f2,f3,f4,f5⟩:=hf it (by simp)
  have hl:=rv.length
  exact wpAny_pyNext_enum_end (I.ok.hd hc) he hit p.isList (by simp;omega) fun h' eb=>⟨rfl,I.turned (t':=s.toks) (fun b o hb e=>eb b o hb e) f0 f1 f3 f4 f5⟩
 self:=fun A i s Q E st h=>by
  obtain⟨⟨old,he⟩,_⟩:=st
  exact wpAny_pyIter_enum he h
def iEnum (K:PySem.W.Frag)(ta:TA):TI:=fun σ H R=>ta σ H fun vs H1=>∃ a,vs=[.ref a]∧(∃ xs,SqL K H1 a xs)∧R (Ite K a) H1
theorem pi_enum {elts:List Expr}{k1:Nat}{tp:Pos}{l:Expr}{ta:TA}{p pos:Pos}(hg:Gl X "enumerate")(hm:X.mg "enumerate"=none)(ha:PA X [l] ta)(hs:starEach [l] X.env=[(false,eval l X.env)]:=by rfl) :
  PI X (.Tuple elts k1 tp) (.Call (.Name "enumerate" p) [l] [] pos) (iEnum X.K ta):=by
 intro pins s σ H R I h
 refine Call_ (ld_blt I hg hm boot_enumerate (PyProof.Rows.callWith_type1 (thn (ha pos pins s σ H _ I h) fun us s1 ⟨vs,H1,I1,r1,q1⟩=>?_) hs rfl))
 obtain⟨a,e,⟨xs,hq⟩,q⟩:=q1
 subst e
 obtain⟨u,rfl,rl⟩:=Vals.one r1
 cases rl
 obtain⟨its,rv,pl,hz⟩:=I1.list hq
 refine call_enumerate_list pl.isList fun h' he hit hsz kp=>?_
 refine wpAny_pyIter_enum he ?_
 have I2:Inv X pins σ H1 { s1 with heap:=h' }:=I1.kept (t':=s1.toks) kp
 refine⟨s1.heap.objs.size+1,[s1.heap.objs.size+1,s1.heap.objs.size],_,_,H1,rfl,I2,turn_enum a _ _ (Nat.succ_ne_self _),⟨⟨_,he⟩,hit⟩,fun b hb=>?_,q⟩
 rcases List.mem_cons.mp hb with rfl | hb
 ·exact I1.fpOk (Nat.le_succ _) (I1.hok.fresh (Nat.le_succ _))
 ·have e2:b=s1.heap.objs.size:=by simpa using hb
  subst e2
  exact I1.fpOk (Nat.le_refl _) (I1.hok.fresh (Nat.le_refl _))
theorem for_enum {K:PySem.W.Frag}{a:Addr}{xs:List V}{g:TG}{tb:TS}{D:Ends}{σ:St}{H:Hp}(Pv:Nat→St→Hp→Prop)(h0:Pv 0 σ H)(hl:∀ i σ H,i≤xs.length→Pv i σ H→SqL K H a xs)
  (hs:∀ i x t σ H,xs[i]?=some x→H t=none→Pv i σ H→g (.ref t) σ (upd H t (.tup [.int (i:Nat),x])) fun σ2 H2=>tb { D with nx:=Pv (i+1),ct:=Pv (i+1),bk:=D.nx } σ2 H2) (hd:∀ σ H,Pv xs.length σ H→D.nx σ H) :
  ∃ W:Nat→Nat→St→Hp→Prop,(∃ m,W 0 m σ H)∧∀ i m σ H,W i m σ H →
   ((Ite K a).stop i H∧D.nx σ H)∨((Ite K a).go i H∧∃ N:St→Hp→Prop,(∀ σ' H',N σ' H'→∃ m',m'<m∧W (i+1) m' σ' H')∧∀ x H',(Ite K a).yld i H x H'→g x σ H' fun σ2 H2=>tb { D with nx:=N,ct:=N,bk:=D.nx } σ2 H2):=by
 refine⟨fun i m σ H=>m=xs.length - i∧i≤xs.length∧Pv i σ H,⟨xs.length,by simp,Nat.zero_le _,h0⟩,?_⟩
 rintro i m σ H ⟨rfl,hi,p⟩
 have q:=hl i σ H hi p
 by_cases hlt:i<xs.length
 ·refine .inr ⟨⟨xs,xs[i],q,by simp[hlt]⟩,Pv (i+1),fun σ' H' p'=>⟨xs.length - (i+1),by omega,rfl,hlt,p'⟩,fun x H' y=>?_⟩
  obtain⟨t,z,ht,rfl,rfl,y⟩:=y
  exact hs i z t σ _ (y xs q) ht p
 ·have e:i=xs.length:=by omega
  subst e
  exact .inl ⟨⟨xs,q,Nat.le_refl _⟩,hd σ H p⟩
def Its (lo c:Int)(n:Nat):It:=⟨fun i _=>i<n,fun i H x H'=>H'=H∧x=.int (lo+(i:Nat) * c),fun i _=>n≤i⟩
theorem turn_step {P:Program}{w:World}{K:PySem.W.Frag}{tg:Expr}(it:Addr)(lo c:Int)(n:Nat):Turn P w K tg (Its lo c n) [it] it (fun i h=>IsRangeIter h it (lo+(i:Nat) * c) ((n:Int) - (i:Nat)) c) where
 mem:=by simp
 obj:=fun i h st b hb=>by
  have e:b=it:=by simpa using hb
  subst e
  exact⟨_,st,fun v z=>by cases z⟩
 keep:=fun i h h' st k=>k it (by simp) _ st
 item:=by
  intro X hP hw hK hc i pins s σ H E I hf st hg
  subst hP hw hK
  obtain⟨f0,f1,f2,f3,f4,f5⟩:=hf it (by simp)
  have W:=Walks.range (prog:=X.prog) (w:=X.w) (I.ok.hd hc) it lo c n
  refine W.item i s _ _ hg st fun v h' tk hv st' kk=>?_
  obtain⟨t,rfl⟩:=hv
  have I1:Inv X pins σ H { s with heap:=h',toks:=tk }:=I.turned (fun b o hb e=>kk b o (by simpa using hb) e) f0 f1 f3 f4 f5
  exact⟨_,rfl,go_of (s:={ s with heap:=h',toks:=tk }) (n:="range_iterator") st' rfl rfl (by decide) ⟨.int (lo+(i:Nat) * c),H,I1,⟨t,rfl⟩,⟨rfl,rfl⟩,st',fun b hb=>(hf b hb).1⟩⟩
 done:=by
  intro X hP hw hK hc i pins s σ H E I hf st hg
  subst hP hw hK
  obtain⟨f0,f1,f2,f3,f4,f5⟩:=hf it (by simp)
  exact wpAny_pyNext_range_end (I.ok.hd hc) st (by have:n≤i:=hg;omega) fun h' eb=>⟨rfl,I.turned (t':=s.toks) (fun b o hb e=>eb b o hb e) f0 f1 f3 f4 f5⟩
 self:=fun _ _ _ _ _ st h=>wpAny_pyIter_rangeiter st h
def half2 (a b:Int):Nat:=((b - a+1) / 2).toNat
theorem size_two (a b:Int):Builtin.Range.rangeSize a b 2=(half2 a b:Int):=by
 unfold Builtin.Range.rangeSize half2
 simp only[show (2:Int)>0 by decide,if_true]
 split <;> omega
theorem small_two {a b:Int}(h1:-1048576≤a)(h2:a≤1048576)(h3:-1048576≤b)(h4:b≤1048576):Builtin.Range.small a b 2=true:=by
 unfold Builtin.Range.small
 rw[size_two]
 unfold half2
 simp only[Builtin.Range.rangeFitsLong,Bool.and_eq_true,Bool.or_eq_true,decide_eq_true_eq,beq_iff_eq,show (2:Int)>0 by decide,if_true]
 omega
def iRng3 (ta:TA):TI:=fun σ H R=>ta σ H fun vs H1=>∃ i j:Int,vs=[.int i,.int j,.int 2]∧(-1048576≤i∧i≤1048576∧-1048576≤j∧j≤1048576)∧R (Its i 2 (half2 i j)) H1
theorem pi_range3 {tg a b c:Expr}{ta:TA}{p pos:Pos}(hg:Gl X "range")(hm:X.mg "range"=none)(ha:PA X [a,b,c] ta)(hs:starEach [a,b,c] X.env=[(false,eval a X.env),(false,eval b X.env),(false,eval c X.env)]:=by rfl)
  (hs2:starEach [b,c] X.env=[(false,eval b X.env),(false,eval c X.env)]:=by rfl):PI X tg (.Call (.Name "range" p) [a,b,c] [] pos) (iRng3 ta):=by
 intro pins s σ H R I h
 refine Call_ (ld_blt I hg hm boot_range (PyProof.Rows.callWith_type1 (thn (ha pos pins s σ H _ I h) fun us s1 ⟨vs,H1,I1,r1,q1⟩=>?_) (by rw[hs,hs2]) (by rw[hs2];rfl)))
 obtain⟨i,j,e,⟨q1,q2,q3,q4⟩,q⟩:=q1
 subst e
 cases r1 with
 | cons r rr =>
  cases rr with
  | cons r' rr =>
   cases rr with
   | cons r'' rr =>
    cases rr
    obtain⟨t,rfl⟩:=r
    obtain⟨t',rfl⟩:=r'
    obtain⟨t'',rfl⟩:=r''
    refine call_range_3 (by decide) ?_ (Or.inl (PyProof.noPylong_small (by decide)))
    refine wpAny_pyIter_range (IsRange.new ..) (small_two q1 q2 q3 q4) ?_
    have I2:Inv X pins σ H1 { s1 with heap:=s1.heap.push { cls:=.type "range",data:=.fields #[.int i t,.int j t',.int 2 t''] } }:=I1.kept (t':=s1.toks) fun b o e=>Heap.get?_push_of_some _ e
    refine⟨(s1.heap.push { cls:=.type "range",data:=.fields #[.int i t,.int j t',.int 2 t''] }).objs.size,[(s1.heap.push { cls:=.type "range",data:=.fields #[.int i t,.int j t',.int 2 t''] }).objs.size],_,_,H1,rfl,
     I2.kept (t':=s1.toks) fun b o e=>Heap.get?_push_of_some _ e,turn_step _ i 2 (half2 i j),?_,fun b hb=>?_,q⟩
    ·have e1:i+((0:Nat):Int) * 2=i:=by simp
     have e2:((half2 i j:Nat):Int) - ((0:Nat):Int)=Builtin.Range.rangeSize i j 2:=by rw[size_two];simp
     show IsRangeIter _ _ (i+((0:Nat):Int) * 2) (((half2 i j:Nat):Int) - ((0:Nat):Int)) 2
     rw[e1,e2]
     exact Heap.get?_push_size _ rfl
    ·have e:b=(s1.heap.push { cls:=.type "range",data:=.fields #[.int i t,.int j t',.int 2 t''] }).objs.size:=by simpa using hb
     subst e
     exact I2.fpOk (Nat.le_refl _) (I2.hok.fresh (Nat.le_refl _))
theorem for_step {lo c:Int}{n:Nat}{g:TG}{tb:TS}{D:Ends}{σ:St}{H:Hp}(Pv:Nat→St→Hp→Prop)(h0:Pv 0 σ H)
  (hs:∀ (i:Nat) σ H,i<n→Pv i σ H→g (.int (lo+(i:Nat) * c)) σ H fun σ2 H2=>tb { D with nx:=Pv (i+1),ct:=Pv (i+1),bk:=D.nx } σ2 H2) (hd:∀ σ H,Pv n σ H→D.nx σ H) :
  ∃ W:Nat→Nat→St→Hp→Prop,(∃ m,W 0 m σ H)∧∀ i m σ H,W i m σ H →
   ((Its lo c n).stop i H∧D.nx σ H)∨((Its lo c n).go i H∧∃ N:St→Hp→Prop,(∀ σ' H',N σ' H'→∃ m',m'<m∧W (i+1) m' σ' H')∧∀ x H',(Its lo c n).yld i H x H'→g x σ H' fun σ2 H2=>tb { D with nx:=N,ct:=N,bk:=D.nx } σ2 H2):=by
 refine⟨fun i m σ H=>m=n - i∧i≤n∧Pv i σ H,⟨n,by simp,Nat.zero_le _,h0⟩,?_⟩
 rintro i m σ H ⟨rfl,hi,p⟩
 by_cases hlt:i<n
 ·refine .inr ⟨hlt,Pv (i+1),fun σ' H' p'=>⟨n - (i+1),by omega,rfl,hlt,p'⟩,fun x H' y=>?_⟩
  obtain⟨e,y⟩:=y
  subst e y
  exact hs i σ _ hlt p
 ·have e:i=n:=by omega
  subst e
  exact .inl ⟨Nat.le_refl _,hd σ H p⟩
end
end L2
namespace L2
open PySem PySem.Spec PyProof.Rows
theorem clos_go (env:Env):∀ (names:List (Str×NameKind)) (acc:List (Str×Addr)),(∀ y∈names,y.2=.free→∃ c,env.cells.lookup y.1=some c)→(∀ y c,acc.lookup y=some c→env.cells.lookup y=some c) →
  ∃ cl:List (Str×Addr),(forIn names acc fun (x:Str×NameKind) cs=>if (x.2 == NameKind.free)=true then do
    let c ← cellOf env x.1
    pure (ForInStep.yield ((x.1,c)::cs))
   else pure (ForInStep.yield cs):Sem (List (Str×Addr)))=pure cl∧(∀ y c,cl.lookup y=some c→env.cells.lookup y=some c)∧(∀ y,(acc.lookup y).isSome=true→(cl.lookup y).isSome=true)∧∀ y,(y,NameKind.free)∈names→(cl.lookup y).isSome=true
 | [],acc,_,ha=>⟨acc,rfl,ha,fun _ h=>h,fun _ h=>absurd h (by simp)⟩
 | (n,k)::r,acc,hf,ha=>by
  rw[List.forIn_cons]
  by_cases hk:(k == NameKind.free)=true
  ·have hk':k=.free:=by simpa using hk
   subst hk'
   obtain⟨c,hc⟩:=hf (n,.free) List.mem_cons_self rfl
   have ha':∀ y d,((n,c)::acc).lookup y=some d→env.cells.lookup y=some d:=fun y d h=>by
    rw[List.lookup_cons] at h
    cases e:y == n with
    | true =>
     simp only[e] at h
     have e':y=n:=by simpa using e
     cases h
     rw[e']
     exact hc
    | false =>
     simp only[e] at h
     exact ha y d h
   obtain⟨cl,h1,h2,h3,h4⟩:=clos_go env r ((n,c)::acc) (fun y hy=>hf y (List.mem_cons_of_mem _ hy)) ha'
   have hin:(((n,c)::acc).lookup n).isSome=true:=by rw[List.lookup_cons];simp
   refine⟨cl,?_,h2,fun y hy=>h3 y ?_,fun y hy=>?_⟩
   ·have e:cellOf env n=pure c:=by unfold cellOf;rw[hc]
    simp only[hk,if_true,e,pure_bind]
    exact h1
   ·rw[List.lookup_cons]
    cases e:y == n with
    | true=>rfl
    | false=>exact hy
   ·rcases List.mem_cons.mp hy with e | hy
    ·cases e
     exact h3 _ hin
    ·exact h4 y hy
  ·obtain⟨cl,h1,h2,h3,h4⟩:=clos_go env r acc (fun y hy=>hf y (List.mem_cons_of_mem _ hy)) ha
   refine⟨cl,?_,h2,h3,fun y hy=>?_⟩
   ·simp only[hk,if_false,pure_bind,Bool.false_eq_true]
    exact h1
   ·rcases List.mem_cons.mp hy with e | hy
    ·cases e
     exact absurd rfl hk
    ·exact h4 y hy
theorem clos_of {scope:Scope}{env:Env}(hf:∀ y∈scope.names,y.2=.free→∃ c,env.cells.lookup y.1=some c) :
  ∃ cl,closureFor scope env=pure cl∧(∀ y c,cl.lookup y=some c→env.cells.lookup y=some c)∧∀ y,(y,NameKind.free)∈scope.names→∃ c,cl.lookup y=some c:=by
 obtain⟨cl,h1,h2,_,h4⟩:=clos_go env scope.names [] hf fun y c h=>by cases h
 refine⟨cl,?_,h2,fun y hy=>Option.isSome_iff_exists.mp (h4 y hy)⟩
 show ((forIn scope.names [] fun (x:Str×NameKind) cs=>if (x.2 == NameKind.free)=true then do
    let c ← cellOf env x.1
    pure (ForInStep.yield ((x.1,c)::cs))
   else pure (ForInStep.yield cs):Sem (List (Str×Addr))) >>= fun cs=>pure cs)=pure cl
 rw[h1]
 rfl
def Cx.comp (X:Cx)(scope:Scope)(cl:List (Str×Addr))(N':List Str)(s₃:Shared)(H₃:Hp)(fp:List Addr):Cx :=
 { X with N:=N',s₀:=s₃,H₀:=H₃,env:=compEnvC scope cl s₃.heap.objs.size X.env,outer:=X.stack,ex:=fp,fn:=fun _=>false,pn:=[],xe:=fun _ _=>False }
def PIfs (X:Cx)(ifs:List Expr)(t:TT):Prop :=
 ∀ (pins:List (Addr×Obj)) (s:Shared) (σ:St) (H:Hp) (Q:Bool→Hp→Prop),Inv X pins σ H s→t σ H Q →
  wpAny (model X.prog X.w) X.A (forIn ifs true fun c r=>if r=true then do let ok ← isTrue c X.env (eval c X.env);pure (ForInStep.yield ok) else pure (ForInStep.yield r)) (TP X pins σ Q) X.xe s
def tAlw:TT:=fun _ H Q=>Q true H
theorem pifs_nil {X:Cx}:PIfs X [] tAlw:=fun _ _ _ H _ I h=>wpAny_pure ⟨H,I,h⟩
theorem pifs_one {X:Cx}{c:Expr}{t:TT}(h:PT X c t):PIfs X [c] t:=fun pins s σ H Q I hq=>wpAny_tests_one (h pins s σ H Q I hq)
def capV (σ:St)(cap:List Nat):St:=cap.map fun k=>(σ[k]?).join
def LCG (J:It)(l:Addr)(σ':St)(tt:TT)(te:TE)(Q:VK)(H1:Hp):Prop:=∃ W:Nat→Nat→Hp→Prop,(∃ m,W 0 m (upd H1 l (.lst [])))∧∀ i m H2,W i m H2 →
 (J.stop i H2∧Q (.ref l) H2)∨(J.go i H2∧∀ x H3,J.yld i H2 x H3→tt (some x::σ') H3 fun b H4=>if b=true then te (some x::σ') H4 fun y H5=>∃ ys m',H5 l=some (.lst ys)∧ys.length<sizeLine∧m'<m∧W (i+1) m' (upd H5 l (.lst (ys++[y])))
  else ∃ m',m'<m∧W (i+1) m' H4)
def tLC (cap:List Nat)(wi:TI)(tt:TT)(te:TE):TE:=fun σ H Q=>wi σ H fun J H1=>∀ l,H1 l=none→LCG J l (capV σ cap) tt te Q H1
section
variable {X:Cx}
theorem relabel_free {scope:Scope}{env:Env}(hcell:∀ y∈scope.names,y.2≠.cell){y:Str}(h:(relabel scope env).names.lookup y=some .cell∨(relabel scope env).names.lookup y=some .free):(y,NameKind.free)∈scope.names:=by
 have key:∀ k,(relabel scope env).names.lookup y=some k→k≠.local→(k=.cell∨k=.free)→(y,NameKind.free)∈scope.names:=fun k hk _ ho=>by
  have hm:=PySem.mem_of_lookup hk
  unfold relabel at hm
  obtain⟨⟨n,k'⟩,hn,e⟩:=List.mem_map.mp hm
  dsimp only at e
  split at e
  ·rename_i hc
   cases e
   simp only[Bool.and_eq_true,beq_iff_eq] at hc
   rw[hc.1.1] at hn
   exact hn
  ·cases e
   rcases ho with rfl | rfl
   ·exact absurd rfl (hcell _ hn)
   ·exact hn
 rcases h with h | h
 ·exact key _ h (by decide) (.inl rfl)
 ·exact key _ h (by decide) (.inr rfl)
theorem comp_ok {pins:List (Addr×Obj)}{σ:St}{H:Hp}{s:Shared}{scope:Scope}{cl:List (Str×Addr)}{N':List Str}{fp:List Addr}(I:Inv X pins σ H s)(hf:∀ b∈fp,FpOk X pins H b)(hlt:∀ b∈fp,b<s.heap.objs.size)
  (hkind:scope.kind=.function) (hcell:∀ y∈scope.names,y.2≠.cell) (ca:∀ y c,cl.lookup y=some c→X.env.cells.lookup y=some c) (cb:∀ y,(y,NameKind.free)∈scope.names→∃ c,cl.lookup y=some c) :
  (X.comp scope cl N' s H fp).Ok where
 mod:=I.mod
 kind:=hkind
 glob:=I.ok.glob
 blt:=I.ok.blt
 above:=Nat.le_refl _
 inj:=fun x y c h1 h2=>I.ok.inj x y c (ca x c h1) (ca y c h2)
 has:=fun x hx=>cb x (relabel_free hcell hx)
 cab:=fun x c h=>by cases h
 hd:=I.ok.hd
 frames:=I.ok.frames
 stk:=.inl rfl
 exf:=fun b hb=>⟨Nat.ne_of_lt (hlt b hb),fun x c h=>(hf b hb).2.2.2.2.1 x c (ca x c h)⟩
 bs:=I.bs
 bsz:=Nat.le_trans I.ok.bsz I.sz
 noex:=fun b o e hb=>by
  rcases (hf b hb).2.2.2.1 with z | z
  ·exact I.ok.noex b o e z
  ·exact absurd (Nat.lt_of_lt_of_le (Heap.lt_size e) (Nat.le_trans I.ok.bsz z)) (Nat.lt_irrefl _)
 exfs:=fun b hb hs=>by
  rcases List.mem_cons.mp (I.stkSub b hs) with z | z
  ·exact (hf b hb).2.1 z
  ·exact (hf b hb).2.2.1 z
 funs:=I.stack
 frf:=I.stkFree
theorem inv_comp {pins:List (Addr×Obj)}{σ:St}{H:Hp}{s:Shared}{scope:Scope}{cl:List (Str×Addr)}{x:Str}{cap:List Nat}{caps:List Str}{fp:List Addr}{h':Heap}{t':Nat}(I:Inv X pins σ H s)(ok:(X.comp scope cl (x::caps) s H fp).Ok)
  (ca:∀ y c,cl.lookup y=some c→X.env.cells.lookup y=some c) (cb:∀ y,(y,NameKind.free)∈scope.names→∃ c,cl.lookup y=some c) (hcell:∀ y∈scope.names,y.2≠.cell)
  (hcap:cap.map (fun k=>X.N[k]?)=caps.map some) (hvis:∀ y∈caps,((relabel scope X.env).names.lookup y=some .cell∨(relabel scope X.env).names.lookup y=some .free)∧(X.env.kindOf y=some .cell∨X.env.kindOf y=some .free))
  (hn:h'.Ns s.heap.objs.size fun _=>none) (kp:∀ b o,s.heap.get? b=some o→h'.get? b=some o):Inv (X.comp scope cl (x::caps) s H fp) [] (none::capV σ cap) H { s with heap:=h',toks:=t' }:=by
 have hlen:cap.length=caps.length:=by
  have:=congrArg List.length hcap
  simpa using this
 refine⟨ok,rfl,I.bare,Un.kept kp,⟨_,hn,fun i y v h1 h2 h3=>?_⟩,fun y c h=>?_,I.hok.fresh (Nat.le_refl _),fun y c h=>I.freeC y c (ca y c h),fun p hp=>absurd (show p∈([]:List (Addr×Obj)) from hp) (by simp),I.hok.kept kp,?_⟩
 ·cases i with
  | zero=>exact absurd h2 (by simp)
  | succ j =>
   have h1':caps[j]?=some y:=h1
   have h2':(capV σ cap)[j]?=some (some v):=h2
   unfold capV at h2'
   rw[List.getElem?_map] at h2'
   cases hk:cap[j]? with
   | none=>rw[hk] at h2';cases h2'
   | some k =>
    rw[hk] at h2'
    have h2'':(σ[k]?).join=some v:=by simpa using h2'
    have hN:X.N[k]?=some y:=by
     have:=congrArg (fun l=>l[j]?) hcap
     simp only[List.getElem?_map,hk,h1',Option.map_some] at this
     exact Option.some.inj this
    have hσ:σ[k]?=some (some v):=by
     cases e:σ[k]? with
     | none=>rw[e] at h2'';cases h2''
     | some o=>rw[e] at h2'';exact congrArg some h2''
    obtain⟨hv1,hv2⟩:=hvis y (List.mem_of_getElem? h1')
    obtain⟨m,_,hl⟩:=I.loc
    obtain⟨u,r,l⟩:=hl k y v hN hσ (by
     rcases hv2 with z | z
     ·exact .inr (.inl z)
     ·exact .inr (.inr z))
    refine⟨u,r,?_⟩
    obtain⟨c,hc⟩:=cb y (relabel_free hcell hv1)
    rcases l with⟨z,_⟩ | ⟨_,c',hc',hcl⟩
    ·rcases hv2 with q | q <;> (rw[z] at q;cases q)
    ·have e:=ca y c hc
     rw[hc'] at e
     have e2:c'=c:=Option.some.inj e
     rw[e2] at hcl
     obtain⟨o,ho,hd⟩:=hcl
     exact .inr ⟨hv1,c,hc,o,kp _ _ ho,hd⟩
 ·obtain⟨v,o,ho,hd⟩:=I.cell y c (ca y c h)
  exact⟨v,o,kp _ _ ho,hd⟩
 ·show (none::capV σ cap).length=(x::caps).length
  simp[capV,hlen]
theorem pe_lcomp {elt iter:Expr}{x:Str}{px:Pos}{ifs:List Expr}{scope:Scope}{pos:Pos}{cap:List Nat}{caps:List Str}{wi:TI}{tt:TT}{te:TE}(hc:X.calm=true)(hi:PI X (.Name x px) iter wi)(hkind:scope.kind=.function)
  (hnames:∀ y∈scope.names,y.2=.local→scope.names.lookup y.1=some .local) (hcell:∀ y∈scope.names,y.2≠.cell) (hx:scope.names.lookup x=some .local)
  (hfree:∀ y∈scope.names,y.2=.free→X.env.kindOf y.1=some .cell∨X.env.kindOf y.1=some .free) (hcap:cap.map (fun k=>X.N[k]?)=caps.map some)
  (hvis:∀ y∈caps,((relabel scope X.env).names.lookup y=some .cell∨(relabel scope X.env).names.lookup y=some .free)∧(X.env.kindOf y=some .cell∨X.env.kindOf y=some .free)) (nd:(x::caps).Nodup)
  (body:∀ cl s₃ H₃ fp,PIfs (X.comp scope cl (x::caps) s₃ H₃ fp) ifs tt∧PE (X.comp scope cl (x::caps) s₃ H₃ fp) elt te) (hs:∀ v,foldedSetIterable iter X.env v=pure v:=by intro _;rfl) :
  PE X (.ListComp elt [⟨.Name x px,iter,ifs,0⟩] scope pos) (tLC cap wi tt te):=by
 intro pins s σ H Q I h
 rw[eval_ListComp]
 obtain⟨cl,hcl,ca,cb⟩:=clos_of (scope:=scope) (env:=X.env) fun y hy hf=>I.ok.has y.1 (hfree y hy hf)
 refine wpAny_comprehension_free (use:=none) rfl hs hcl hkind hnames (thn (hi pins s σ H _ I h) fun v s1 h1=>thn h1 fun itv s2 h2=>?_)
 obtain⟨it,fp,tn,J,H2,e,I2,T,st2,f2,rest⟩:=h2
 subst e
 have hfr:H2 s2.heap.objs.size=none:=I2.hok.fresh (Nat.le_refl _)
 obtain⟨W,⟨m0,w0⟩,turn⟩:=rest s2.heap.objs.size hfr
 refine wpAny_newObj_type (wpAny_newFunctionEnv hcell (by intro y hy;simp at hy) (fun h4 hn4 hs4=>?_) hkind)
 dsimp only at hn4 hs4 ⊢
 have I3:Inv X pins σ (upd H2 s2.heap.objs.size (.lst [])) { s2 with heap:=s2.heap.push { cls:=.type "list",dict:=none,data:=.seq ([]:List Value).toArray } } :=
  I2.laid (t':=s2.toks) (o:=.lst []) (fun b o e=>Heap.get?_push_of_some _ e) (Nat.le_refl _) ⟨Nat.zero_le _,[],0,.nil,Heap.get?_push_size _ rfl⟩
 generalize hs3:({ s2 with heap:=s2.heap.push { cls:=.type "list",dict:=none,data:=.seq ([]:List Value).toArray } }:Shared)=s3 at I3
 have hz3:s3.heap=s2.heap.push { cls:=.type "list",dict:=none,data:=.seq ([]:List Value).toArray }:=by rw[← hs3]
 rw[← hz3] at hn4 hs4 ⊢
 have kp3:∀ b o,s3.heap.get? b=some o→h4.get? b=some o:=fun b o e=>hs4.extBut b o (Nat.ne_of_lt (Heap.lt_size e)) (Heap.get?_push_of_some _ e)
 have lt2:∀ b∈fp,b<s2.heap.objs.size:=fun b hb=>let ⟨o,e,_⟩:=T.obj 0 _ st2 b hb;Heap.lt_size e
 have hz:s3.heap.objs.size=s2.heap.objs.size+1:=by rw[hz3,Heap.size_push]
 have lt3:∀ b∈fp,b<s3.heap.objs.size:=fun b hb=>by rw[hz];exact Nat.lt_succ_of_lt (lt2 b hb)
 have f3:∀ b∈fp,FpOk X pins (upd H2 s2.heap.objs.size (.lst [])) b:=fun b hb=>⟨by rw[upd_ne (Nat.ne_of_lt (lt2 b hb))];exact (f2 b hb).1,(f2 b hb).2⟩
 have ok':(X.comp scope cl (x::caps) s3 (upd H2 s2.heap.objs.size (.lst [])) fp).Ok:=comp_ok I3 f3 lt3 hkind hcell ca cb
 have I4:Inv (X.comp scope cl (x::caps) s3 (upd H2 s2.heap.objs.size (.lst [])) fp) [] (none::capV σ cap) (upd H2 s2.heap.objs.size (.lst [])) { s3 with heap:=h4,toks:=s2.toks+([]:List (Str×Value)).length } :=
  inv_comp I3 ok' ca cb hcell hcap hvis hn4 kp3
 have st4:tn 0 h4:=T.keep _ _ _ st2 fun b hb o e=>kp3 b o (by rw[hz3];exact Heap.get?_push_of_some _ e)
 obtain⟨bI,bE⟩:=body cl s3 (upd H2 s2.heap.objs.size (.lst [])) fp
 have stat:∀ {H':Hp},(∀ b∈fp,H' b=none)→∀ b∈fp,FpOk (X.comp scope cl (x::caps) s3 (upd H2 s2.heap.objs.size (.lst [])) fp) [] H' b:=fun {H'} hn b hb =>
  ⟨hn b hb,Nat.ne_of_lt (lt3 b hb),ok'.exfs b hb,.inl hb,fun y c hy=>(f2 b hb).2.2.2.2.1 y c (ca y c hy),fun p hp=>absurd (show p∈([]:List (Addr×Obj)) from hp) (by simp)⟩
 have es:({ s2 with heap:=h4,toks:=s2.toks+([]:List (Str×Value)).length }:Shared)={ s3 with heap:=h4,toks:=s2.toks+([]:List (Str×Value)).length }:=by rw[← hs3]
 rw[es]
 have fin:∀ {σ':St}{H':Hp}{s':Shared},Inv (X.comp scope cl (x::caps) s3 (upd H2 s2.heap.objs.size (.lst [])) fp) [] σ' H' s'→Q (.ref s2.heap.objs.size) H' →
   compPost (model X.prog X.w) X.A X.xe none (EP X pins σ Q) (.ref s2.heap.objs.size) s3.heap.objs.size (.ok .next) s':=fun {σ' H' s'} J' q=>by
  obtain⟨m,hn,_⟩:=J'.loc
  refine⟨m,hn,fun h' sb=>?_⟩
  have IX:Inv X pins σ H' s':=I3.call' J'.os J'.base J'.hok J'.bare fun b hb=>⟨(f3 b hb).2.2.2.1,(f3 b hb).2.1,(f3 b hb).2.2.2.2.1,(f3 b hb).2.2.2.2.2⟩
  have fc:=I3.fpOk (Nat.le_refl _) (I3.hok.fresh (Nat.le_refl _))
  exact⟨.ref s2.heap.objs.size,H',IX.turned (t':=s'.toks) (fun b o hb e=>sb.extBut b o hb e) J'.free fc.2.1 fc.2.2.2.1 fc.2.2.2.2.1 fc.2.2.2.2.2,rfl,q⟩
 have loop:codeAny (model X.prog X.w) X.A (.compLoop (.ListComp elt [⟨.Name x px,iter,ifs,0⟩] scope pos) 0 (.ref it) (.ref s2.heap.objs.size) (compEnvC scope cl s3.heap.objs.size X.env))
   (compPost (model X.prog X.w) X.A X.xe none (EP X pins σ Q) (.ref s2.heap.objs.size) s3.heap.objs.size) { s3 with heap:=h4,toks:=s2.toks+([]:List (Str×Value)).length }:=by
  refine codeAny_compLoop_tests (fun n s'=>∃ i o H',Inv (X.comp scope cl (x::caps) s3 (upd H2 s2.heap.objs.size (.lst [])) fp) [] (o::capV σ cap) H' s'∧tn i s'.heap∧(∀ b∈fp,H' b=none)∧W i n H') ?_ m0
   ⟨0,none,_,I4,st4,fun b hb=>(f3 b hb).1,w0⟩
  rintro n s5 ⟨i,o,H5,I5,st5,fr5,w5⟩
  rcases turn i n H5 w5 with⟨stop,qn⟩ | ⟨go,step⟩
  ·refine thn (T.done (X.comp scope cl (x::caps) s3 (upd H2 s2.heap.objs.size (.lst [])) fp) rfl rfl rfl hc i [] s5 _ H5 _ I5 (stat fr5) st5 stop) fun r s6 ⟨hr,I6⟩=>?_
   subst hr
   exact fin I6 qn
  ·refine thn (T.item (X.comp scope cl (x::caps) s3 (upd H2 s2.heap.objs.size (.lst [])) fp) rfl rfl rfl hc i [] s5 _ H5 _ I5 (stat fr5) st5 go) fun r s6 ⟨u,hr,h6⟩=>?_
   subst hr
   dsimp only
   show wpAny (model X.prog X.w) X.A ((pure ():Sem Unit) >>= fun _=>assign (.Name x px) (compEnvC scope cl s3.heap.objs.size X.env) u) _ _ s6
   refine wpAny_bind (thn h6 fun _ s7 ⟨y,H7,I7,r7,y7,st7,fr7⟩=>?_)
   have I7':=I7.pinned (stat fr7) (T.obj _ _ st7)
   have pg:=pg_name (X:=X.comp scope cl (x::caps) s3 (upd H2 s2.heap.objs.size (.lst [])) fp) (i:=0) (x:=x) (pos:=px) nd rfl (.inl (lookup_relabel_local hx)) (.inr (lookup_relabel_local hx))
   refine wpAny_mono (pg _ s7 _ H7 y u (fun σ' H'=>σ'=some y::capV σ cap∧H'=H7) I7' r7 ⟨rfl,rfl⟩) (fun _ s8 ⟨σ8,H8,I8,e8,e8'⟩=>?_) fun _ _ f=>f.elim
   subst e8 e8'
   have again:∀ {H9:Hp}{s9:Shared}{m':Nat},Inv (X.comp scope cl (x::caps) s3 (upd H2 s2.heap.objs.size (.lst [])) fp) ([]++pinsAt fp s7.heap) (some y::capV σ cap) H9 s9→m'<n→W (i+1) m' H9 →
     ∃ m,m<n∧∃ i o H',Inv (X.comp scope cl (x::caps) s3 (upd H2 s2.heap.objs.size (.lst [])) fp) [] (o::capV σ cap) H' s9∧tn i s9.heap∧(∀ b∈fp,H' b=none)∧W i m H':=fun {H9 s9 m'} I9 hm w9=>by
    have pin9:=fun b hb o e=>I9.pin (b,o) (List.mem_append_right _ (List.mem_append_right _ (mem_pinsAt hb e)))
    refine⟨m',hm,i+1,some y,H9,I9.unpinned,T.keep _ _ _ st7 fun b hb o e=>(pin9 b hb o e).1,fun b hb=>?_,w9⟩
    obtain⟨o,e,d⟩:=T.obj _ _ st7 b hb
    exact (pin9 b hb o e).2.1
   refine wpAny_mono (bI _ s8 _ H8 _ I8 (step y H8 y7)) (fun ok s9 ⟨H9,I9,q9⟩=>?_) fun _ _ f=>f.elim
   cases ok with
   | false =>
    rw[if_neg Bool.false_ne_true] at q9 ⊢
    obtain⟨m',hm,w9⟩:=q9
    exact again I9 hm w9
   | true =>
    rw[if_pos rfl] at q9 ⊢
    refine wpAny_mono (bE _ s9 _ H9 _ I9 q9) (fun z s10 ⟨v10,H10,I10,r10,ys,m',hl,hsz,hm,w10⟩=>?_) fun _ _ f=>f.elim
    refine wpAny_mono (mt_append (X:=X.comp scope cl (x::caps) s3 (upd H2 s2.heap.objs.size (.lst [])) fp) _ s10 _ H10 (.ref s2.heap.objs.size) [v10] (.ref s2.heap.objs.size) [z] (fun _ H'=>H'=upd H10 s2.heap.objs.size (.lst (ys++[v10]))) I10 rfl (.cons r10 .nil) ⟨_,ys,v10,rfl,rfl,hl,hsz,rfl⟩) (fun _ s11 ⟨_,H11,I11,_,e11⟩=>?_) fun _ _ f=>f.elim
    subst e11
    exact again I11 hm w10
 refine codeAny_compStart_list loop (T.self _ 0 _ _ _ st4 loop)
end
end L2
namespace L2
open PySem PySem.Spec PyProof.Rows
theorem lc_range {lo:Int}{n:Nat}{l:Addr}{H1:Hp}{te:TE}{σ':St}{Q:VK}(f:Nat→V)(hn:n≤1000)(hl:H1 l=none)
  (he:∀ (i:Nat) H2 (R:VK),i<n→Same H1 H2→(∀ H3,Same H2 H3→R (f i) H3)→te (some (.int (lo+(i:Nat)))::σ') H2 R) (hq:∀ H2,Same H1 H2→H2 l=some (.lst ((List.range n).map f))→Q (.ref l) H2) :
  LCG (Itr lo n) l σ' tAlw te Q H1:=by
 refine⟨fun i m H2=>m=n - i∧i≤n∧Same H1 H2∧H2 l=some (.lst ((List.range i).map f)),⟨n,by simp,Nat.zero_le _,fun b o e=>by rw[upd_ne (ne_of_none e hl)];exact e,upd_same⟩,?_⟩
 rintro i m H2 ⟨rfl,hi,s2,h2⟩
 by_cases hlt:i<n
 ·refine .inr ⟨hlt,fun x H3 y=>?_⟩
  obtain⟨e,y⟩:=y
  subst e y
  unfold tAlw
  dsimp only
  rw[if_pos rfl]
  refine he i _ _ hlt s2 fun H4 s4=>⟨_,n - (i+1),s4 _ _ h2,?_,by omega,rfl,hlt,fun b o e=>?_,?_⟩
  ·rw[List.length_map,List.length_range]
   exact small1000 (by omega)
  ·rw[upd_ne (ne_of_none e hl)]
   exact s4 _ _ (s2 _ _ e)
  ·rw[upd_same,List.range_succ,List.map_append]
   rfl
 ·have e:i=n:=by omega
  subst e
  exact .inl ⟨Nat.le_refl _,hq H2 s2 h2⟩
end L2
namespace L2
open PySem PySem.Spec PyProof.Rows
theorem lc_range_if {lo:Int}{n:Nat}{l:Addr}{H1:Hp}{tt:TT}{te:TE}{σ':St}{Q:VK}(p:Nat→Bool)(f:Nat→V)(hn:n≤1000)(hl:H1 l=none)
  (ht:∀ (i:Nat) H2 (R:Bool→Hp→Prop),i<n→Same H1 H2→(∀ H3,Same H2 H3→R (p i) H3)→tt (some (.int (lo+(i:Nat)))::σ') H2 R)
  (he:∀ (i:Nat) H2 (R:VK),i<n→p i=true→Same H1 H2→(∀ H3,Same H2 H3→R (f i) H3)→te (some (.int (lo+(i:Nat)))::σ') H2 R)
  (hq:∀ H2,Same H1 H2→H2 l=some (.lst (((List.range n).filter p).map f))→Q (.ref l) H2) :
  LCG (Itr lo n) l σ' tt te Q H1:=by
 refine⟨fun i m H2=>m=n - i∧i≤n∧Same H1 H2∧H2 l=some (.lst (((List.range i).filter p).map f)),⟨n,by simp,Nat.zero_le _,fun b o e=>by rw[upd_ne (ne_of_none e hl)];exact e,upd_same⟩,?_⟩
 rintro i m H2 ⟨rfl,hi,s2,h2⟩
 by_cases hlt:i<n
 ·refine .inr ⟨hlt,fun x H3 y=>?_⟩
  obtain⟨e,y⟩:=y
  subst e y
  refine ht i _ _ hlt s2 fun H4 s4=>?_
  have s14:Same H1 H4:=s2.trans s4
  cases q:p i with
  | false =>
   rw[if_neg Bool.false_ne_true]
   refine⟨n - (i+1),by omega,rfl,hlt,s14,?_⟩
   rw[List.range_succ,List.filter_append,List.filter_cons,q,List.filter_nil]
   simp only[Bool.false_eq_true,if_false,List.append_nil]
   exact s4 _ _ h2
  | true =>
   rw[if_pos rfl]
   refine he i _ _ hlt q s14 fun H5 s5=>⟨_,n - (i+1),s5 _ _ (s4 _ _ h2),?_,by omega,rfl,hlt,fun b o e=>?_,?_⟩
   ·rw[List.length_map]
    refine small1000 (Nat.le_trans (List.length_filter_le _ _) ?_)
    rw[List.length_range]
    omega
   ·rw[upd_ne (ne_of_none e hl)]
    exact s5 _ _ (s14 _ _ e)
   ·rw[upd_same,List.range_succ,List.filter_append,List.filter_cons,q,List.filter_nil,List.map_append]
    rfl
 ·have e:i=n:=by omega
  subst e
  exact .inl ⟨Nat.le_refl _,hq H2 s2 h2⟩
theorem lc_list_if {K:PySem.W.Frag}{a:Addr}{xs:List V}{l:Addr}{H1:Hp}{tt:TT}{te:TE}{σ':St}{Q:VK}(p:V→Bool)(f:V→V)(hn:xs.length≤1000)(hl:H1 l=none)(hx:SqL K H1 a xs)
  (ht:∀ x H2 (R:Bool→Hp→Prop),x∈xs→Same H1 H2→(∀ H3,Same H2 H3→R (p x) H3)→tt (some x::σ') H2 R)
  (he:∀ x H2 (R:VK),x∈xs→p x=true→Same H1 H2→(∀ H3,Same H2 H3→R (f x) H3)→te (some x::σ') H2 R)
  (hq:∀ H2,Same H1 H2→H2 l=some (.lst ((xs.filter p).map f))→Q (.ref l) H2) :
  LCG (Itl K a) l σ' tt te Q H1:=by
 refine⟨fun i m H2=>m=xs.length - i∧i≤xs.length∧Same H1 H2∧H2 l=some (.lst (((xs.take i).filter p).map f)),⟨xs.length,by simp,Nat.zero_le _,fun b o e=>by rw[upd_ne (ne_of_none e hl)];exact e,by rw[upd_same];rfl⟩,?_⟩
 rintro i m H2 ⟨rfl,hi,s2,h2⟩
 by_cases hlt:i<xs.length
 ·refine .inr ⟨⟨xs,xs[i],s2.seq hx,by simp[hlt]⟩,fun x H3 y=>?_⟩
  obtain⟨e,y⟩:=y
  subst e
  have hxi:=y xs (s2.seq hx)
  have hm:=List.mem_of_getElem? hxi
  have tk:xs.take (i+1)=xs.take i++[x]:=by
   rw[List.take_succ,hxi]
   rfl
  refine ht x _ _ hm s2 fun H4 s4=>?_
  have s14:Same H1 H4:=s2.trans s4
  cases q:p x with
  | false =>
   rw[if_neg Bool.false_ne_true]
   refine⟨xs.length - (i+1),by omega,rfl,hlt,s14,?_⟩
   rw[tk,List.filter_append,List.filter_cons,q,List.filter_nil]
   simp only[Bool.false_eq_true,if_false,List.append_nil]
   exact s4 _ _ h2
  | true =>
   rw[if_pos rfl]
   refine he x _ _ hm q s14 fun H5 s5=>⟨_,xs.length - (i+1),s5 _ _ (s4 _ _ h2),?_,by omega,rfl,hlt,fun b o e=>?_,?_⟩
   ·rw[List.length_map]
    refine small1000 (Nat.le_trans (List.length_filter_le _ _) ?_)
    rw[List.length_take]
    omega
   ·rw[upd_ne (ne_of_none e hl)]
    exact s5 _ _ (s14 _ _ e)
   ·rw[upd_same,tk,List.filter_append,List.filter_cons,q,List.filter_nil,List.map_append]
    rfl
 ·have e:i=xs.length:=by omega
  subst e
  rw[List.take_length] at h2
  exact .inl ⟨⟨xs,s2.seq hx,Nat.le_refl _⟩,hq H2 s2 h2⟩
end L2
set_option maxHeartbeats 4000000
namespace L2
open PySem PySem.Spec PyProof.Rows
section
variable {X:Cx}
theorem met_all (val:Nat→Int):∀ n,(firstMet val n).length=n↔((List.range n).map val).Nodup
 | 0=>by simp[firstMet_zero]
 | n+1=>by
  have le:=firstMet_length_le val n
  have ih:=met_all val n
  have an:=firstMet_any val n (val n)
  rw[firstMet_succ]
  unfold step_dedup
  rw[List.range_succ,List.map_append,List.nodup_append,← ih]
  by_cases h:(firstMet val n).any (· == val n)=true
  ·rw[if_pos h]
   constructor
   ·intro z;omega
   ·rintro⟨_,_,d⟩
    rw[an,List.any_eq_true] at h
    obtain⟨y,hy,e⟩:=h
    exact absurd (by simpa using e) (d y hy (val n) (by simp))
  ·rw[if_neg h,List.length_append,List.length_singleton]
   constructor
   ·intro z
    refine⟨by omega,by simp,fun a ha b hb e=>h ?_⟩
    rw[an,List.any_eq_true]
    have eb:b=val n:=by simpa using hb
    exact⟨a,ha,by rw[e,eb];simp⟩
   ·rintro⟨z,_⟩
    omega
theorem getD_map (ns:List Int):(List.range ns.length).map (fun i=>ns.getD i 0)=ns:=by
 refine List.ext_getElem? fun i=>?_
 by_cases h:i<ns.length
 ·rw[List.getElem?_map,List.getElem?_range h,List.getElem?_eq_getElem h]
  simp[List.getD,h]
 ·rw[List.getElem?_eq_none (by simp;omega),List.getElem?_eq_none (by omega)]
def rSet (K:PySem.W.Frag):List V→Hp→VK→Prop:=fun xs H Q=>∃ (p:Addr) (ns:List Int),xs=[.ref p]∧SqL K H p (ns.map V.int)∧ns.length<1000∧∀ (l:Addr) (S:Int→Bool) (n:Nat),H l=none→n≤ns.length→(n=ns.length↔ns.Nodup)→Q (.ref l) (upd H l (.set S n))
theorem call_set (hc:X.calm=true):CallR X (.type "set") (rSet X.K):=by
 intro pins s σ H xs us Q I r h
 obtain⟨p,ns,rfl,hq,hl,q⟩:=h
 obtain⟨u,rfl,rx⟩:=vals1 r
 cases rx
 obtain⟨its,rv,pl,hz⟩:=I.list hq
 have hi:IntsAre its ns:=intsAre_of rv
 have hlen:=rv.length
 rw[List.length_map] at hlen hz
 refine call_set_list (I.ok.hd hc) pl.isList (by simpa using hi) (by rw[List.size_toArray];unfold scanBound;omega) fun h' tk hS hk=>?_
 have hsz:its.toArray.size=ns.length:=by rw[List.size_toArray,hlen]
 rw[hsz] at hS
 have hm:=met_all (fun i=>ns.getD i 0) ns.length
 rw[getD_map] at hm
 exact⟨.ref s.heap.objs.size,_,I.laid (t':=tk) (o:=.set _ _) (fun b u q=>hk b u (Heap.lt_size q) q) (Nat.le_refl _) hS,rfl,q _ _ _ (I.hok.fresh (Nat.le_refl _)) (firstMet_length_le _ _) hm⟩
def rLenSet:List V→Hp→VK→Prop:=fun xs H Q=>∃ (p:Addr) (S:Int→Bool) (n:Nat),xs=[.ref p]∧H p=some (.set S n)∧Q (.int n) H
theorem call_lenSet:CallR X (.builtin "len") rLenSet:=by
 intro pins s σ H xs us Q I r h
 obtain⟨p,S,n,rfl,hq,q⟩:=h
 obtain⟨u,rfl,rx⟩:=vals1 r
 cases rx
 obtain⟨o,es,ep,t,ho,hex,hd,_,_,hsc,hf,e⟩:s.heap.SetOf (intKind X.prog X.w) p S n:=I.hok p _ hq
 subst e
 refine call_len_set ho hex hd hf ?_ ⟨.int es.size,H,I.tok _,⟨_,rfl⟩,q⟩
 unfold scanBound at hsc
 omega
end
end L2
namespace Rv
open PySem PyProof.Rows
theorem nolen_lr:typeLookup (.type "list_reverseiterator") "__len__"=pure none:=by rw[typeLookup_type,builtinLookup_eq_fast];kernel_rfl
theorem hint_lr:typeLookup (.type "list_reverseiterator") "__length_hint__"=pure (some (.builtin "list_reverseiterator.__length_hint__")):=by rw[typeLookup_type,builtinLookup_eq_fast];kernel_rfl
section
variable {prog:Program}{w:World}{A:Around}{E:Value→Shared→Prop}{s:Shared}
theorem hint {it:Addr}{Q:Bool→Shared→Prop}(hT:s.TypeIs (.ref it) "list_reverseiterator")(h:Q false s):wpAny (model prog w) A (Builtin.List.listLengthHint (.ref it)) Q E s:=by
 unfold Builtin.List.listLengthHint
 refine wpAny_bind (wpAny_specialOf hT nolen_lr ?_)
 show wpAny _ A (specialOf (Value.ref it) (Str.ofString "__length_hint__") >>= _) _ _ _
 refine wpAny_bind (wpAny_specialOf hT hint_lr ?_)
 (generalize hid:("list_reverseiterator.__length_hint__":String)=id0;(fail_if_success (clear hid id0));wp_delta;rw[show splitId id0=some ("list_reverseiterator","__length_hint__") from by subst hid;decide +kernel];subst hid)
 refine wpAny_bind (wpAny_isInstance (b:=true) hT (by rw[isSubtype_type];kernel_rfl) ?_)
 exact wpAny_pure h
theorem extend {R:Result→Shared→Prop}{it l:Addr}{items:Array Value}(hh:A.handled=none)(hit:s.heap.IsRevIter it l ((items.size:Int) - 1))(hl:s.heap.IsList l items)(hne:l≠it)(S:Addr)(hSi:S≠it)(hSl:S≠l)(res:Value)(c₀:Nat)
  (hS:s.heap.get? S=some { cls:=.type "list",data:=.seq #[] c₀ })
  (hR:∀ h' tk acc' c',(∀ b o,b≠S→b≠it→s.heap.get? b=some o→h'.get? b=some o)→h'.get? S=some { cls:=.type "list",dict:=none,data:=.seq acc' c',slots:=#[] }→ItemsOf (fun i v=>items[items.size - 1 - i]?=some v) acc' items.size→R (.ok (.ret res)) { s with heap:=h',toks:=tk })
  (hn:items.size≤sizeLine) :
  wpAny (model prog w) A.in1 (Builtin.List.listExtendWith (.ref S) (.ref it) res)
   (fun fin s'=>match fin with | .done f=>R (.ok f) s' | .again c'=>c'.quiet=true∧codeAny (model prog w) A c' R s') (fun e s'=>R (.error e) s') s:=by
 have hSf:S∉[it,l]:=by simp only[List.mem_cons,List.not_mem_nil,or_false,not_or];exact⟨hSi,hSl⟩
 have W:=Walks.listRev (prog:=prog) (w:=w) (A:=A.in1) hh it l hne items
 have st:(0:Nat)≤items.size∧s.heap.IsRevIter it l ((items.size:Int) - 1 - ((0:Nat):Int))∧s.heap.IsList l items:=⟨Nat.zero_le _,by simpa using hit,hl⟩
 unfold Builtin.List.listExtendWith
 refine wpAny_bind (wpAny_typeOf (T:="list_reverseiterator") hit.typeIs ?_)
 have h1:Builtin.List.listSameRef (.ref S) (.ref it)=false:=by simp[Builtin.List.listSameRef,hSi]
 have h2:(Value.type "list_reverseiterator" == Value.type "list")=false:=by decide
 have h3:(Value.type "list_reverseiterator" == Value.type "tuple")=false:=by decide
 simp only[h1,h2,h3,Bool.or_false,Bool.false_eq_true,if_false]
 refine wpAny_bind (wpAny_pyIter_revIter hit ?_)
 refine wpAny_bind (wpAny_holding (hint hit.typeIs ?_))
 refine wpAny_ite_split (fun z=>by cases z) (fun _=>?_)
 refine wpAny_pure ⟨plainId_quiet PySem.F.plain_extend_loop _,codeAny_extend_loopS W.toS hn S hSf res items.size 0 _ #[] c₀ rfl (Nat.zero_le _) st hS (ItemsOf.nil _) fun s' acc' c' hm hS' hacc=>?_⟩
 rw[Moved.eq_with hm]
 refine hR s'.heap s'.toks acc' c' (fun b o hb hbi e=>hm.heap b o (fun hmem=>?_) e) hS' hacc
 rcases List.mem_cons.mp hmem with e' | hmem
 ·exact hb e'
 ·exact hbi (List.mem_singleton.mp hmem)
theorem init {R:Result→Shared→Prop}{it l:Addr}{items:Array Value}(hh:A.handled=none)(hit:s.heap.IsRevIter it l ((items.size:Int) - 1))(hl:s.heap.IsList l items)(hne:l≠it)(S:Addr)(hSi:S≠it)(hSl:S≠l)
  (hS:s.heap.get? S=some { cls:=.type "list",data:=.seq #[] })
  (hR:∀ h' tk acc' c',(∀ b o,b≠S→b≠it→s.heap.get? b=some o→h'.get? b=some o)→h'.get? S=some { cls:=.type "list",dict:=none,data:=.seq acc' c',slots:=#[] }→ItemsOf (fun i v=>items[items.size - 1 - i]?=some v) acc' items.size→R (.ok (.ret .none)) { s with heap:=h',toks:=tk })
  (hn:items.size≤sizeLine) :
  wpAny (model prog w) A.in1 (Builtin.«list.__init__» ⟨[.ref S,.ref it],[]⟩)
   (fun fin s'=>match fin with | .done f=>R (.ok f) s' | .again c'=>c'.quiet=true∧codeAny (model prog w) A c' R s') (fun e s'=>R (.error e) s') s:=by
 show wpAny _ _ (do let old ← Builtin.List.listItems (.ref S);Builtin.List.listUpdate (.ref S) (fun _=>#[]);letGo old.toList.reverse;Builtin.List.listExtendWith (.ref S) (.ref it) .none) _ _ s
 refine wpAny_bind ?_
 unfold Builtin.List.listItems
 refine wpAny_bind (wpAny_seqItems hS rfl (wpAny_pure ?_))
 show wpAny _ _ (updateSeq S (fun _=>#[]) >>= fun _=>letGo (#[]:Array Value).toList.reverse >>= fun _=>Builtin.List.listExtendWith (.ref S) (.ref it) .none) _ _ s
 refine wpAny_bind (wpAny_updateSeq hS rfl ?_)
 have hS₂:=Heap.get?_update_self (Obj.mapSeq (fun _=>(#[]:Array Value))) hS rfl
 have oth:∀ b o,b≠S→s.heap.get? b=some o→(s.heap.update S (Obj.mapSeq (fun _=>(#[]:Array Value)))).get? b=some o :=
  fun b o hb e=>(Heap.get?_update_other _ _ (Ne.symm hb)).trans e
 refine wpAny_bind (wpAny_letGo ?_)
 refine extend hh (hit.at fun o e=>oth it o hSi.symm e) (hl.at fun o e=>oth l o hSl.symm e) hne S hSi hSl .none _ hS₂ (fun h' tk acc' c' hk hS' hacc=>?_) hn
 exact hR h' tk acc' c' (fun b o hb hbi e=>hk b o hb hbi (oth b o hb e)) hS' hacc
end
end Rv
namespace L2
open PySem PySem.Spec PyProof.Rows
section
variable {X:Cx}
end
end L2
namespace L2
open PySem PySem.Spec PyProof.Rows
section
variable {X:Cx}
end
end L2
namespace Pl
open PySem L2
theorem perm_len {ns:List Int}{n:Nat}(h:ns.Perm (iota n)):ns.length=n:=by rw[h.length_eq,iota_length]
theorem perm_mem {ns:List Int}{n:Nat}(h:ns.Perm (iota n)){x:Int}:x∈ns↔0≤x∧x<n:=h.mem_iff.trans mem_iota
theorem perm_nodup {ns:List Int}{n:Nat}(h:ns.Perm (iota n)):ns.Nodup:=h.nodup_iff.mpr (iota_nodup n)
theorem perm_ins {ns:List Int}{n:Nat}(h:ns.Perm (iota n))(g:Nat):(ns.take g++[(n:Int)]++ns.drop g).Perm (iota (n+1)):=by
 rw[iota_succ]
 have h1:(ns.take g++[(n:Int)]++ns.drop g).Perm (ns.take g++ns.drop g++[(n:Int)]):=by
  rw[List.append_assoc,List.append_assoc]
  exact List.Perm.append_left _ List.perm_append_comm
 rw[List.take_append_drop] at h1
 exact h1.trans (h.append_right _)
theorem same_sorted {a b:List Int}(hp:a.Perm b)(ha:a.Pairwise (·≤·))(hb:b.Pairwise (·≤·)):a=b:=PySem.W.ksm_same hp ha hb
def plc (ns:List Int):List Int:=(iota ns.length).map fun s=>((ns.idxOf s:Nat):Int)
theorem plc_length (ns:List Int):(plc ns).length=ns.length:=by simp[plc,iota_length]
theorem plc_get {ns:List Int}{n:Nat}(h:ns.Perm (iota n)){s:Nat}(hs:s<n):∃ j:Nat,(plc ns)[s]?=some (j:Int)∧j<n∧ns[j]?=some (s:Int):=by
 have hm:(s:Int)∈ns:=(perm_mem h).mpr (by omega)
 have hl:=perm_len h
 refine⟨ns.idxOf (s:Int),?_,?_,?_⟩
 ·unfold plc
  rw[List.getElem?_map,hl]
  have:(iota n)[s]?=some (s:Int):=by
   unfold iota
   rw[List.getElem?_map,List.getElem?_range hs]
   rfl
  rw[this]
  rfl
 ·have:=List.idxOf_lt_length_of_mem hm
  omega
 ·have hlt:=List.idxOf_lt_length_of_mem hm
  rw[List.getElem?_eq_getElem hlt,List.getElem_idxOf hlt]
def Fnd (ns:List Int)(i:Nat)(f:List Int):Prop:=f.length=ns.length∧∀ j s,j<i→ns[j]?=some s→f[s.toNat]?=some ((j:Nat):Int)
theorem Fnd.step {ns:List Int}{n i:Nat}{f:List Int}{s:Int}(h:ns.Perm (iota n))(F:Fnd ns i f)(hs:ns[i]?=some s):Fnd ns (i+1) (f.set s.toNat (i:Int)):=by
 refine⟨by rw[List.length_set];exact F.1,fun j t hj ht=>?_⟩
 have ms:=(perm_mem h).mp (List.mem_of_getElem? hs)
 have mt:=(perm_mem h).mp (List.mem_of_getElem? ht)
 have hl:=perm_len h
 by_cases e:j=i
 ·subst e
  rw[hs] at ht
  cases ht
  rw[List.getElem?_set_self (by have:=F.1;omega)]
 ·have ne:t≠s:=fun z=>by
   subst z
   have h1:=(List.getElem?_eq_some_iff.mp ht)
   have h2:=(List.getElem?_eq_some_iff.mp hs)
   obtain⟨l1,e1⟩:=h1
   obtain⟨l2,e2⟩:=h2
   have nd:=List.pairwise_iff_getElem.mp (perm_nodup h)
   rcases Nat.lt_or_gt_of_ne e with z | z
   ·exact nd j i l1 l2 z (e1.trans e2.symm)
   ·exact nd i j l2 l1 z (e2.trans e1.symm)
  rw[List.getElem?_set_ne (by omega)]
  exact F.2 j t (by omega) ht
theorem Fnd.eq {ns:List Int}{n:Nat}{f:List Int}(h:ns.Perm (iota n))(F:Fnd ns n f):f=plc ns:=by
 have hl:=perm_len h
 refine List.ext_getElem? fun s=>?_
 by_cases hs:s<n
 ·obtain⟨j,h1,h2,h3⟩:=plc_get h hs
  rw[h1]
  exact F.2 j (s:Int) h2 h3
 ·rw[List.getElem?_eq_none (by rw[F.1];omega),List.getElem?_eq_none (by rw[plc_length];omega)]
theorem str_app (a b:Str):(a++b).cps.toList=a.cps.toList++b.cps.toList:=by
 show (a.cps++b.cps).toList=_
 rw[Array.toList_append]
theorem join0:∀ zs:List Str,(Str.join ⟨#[]⟩ zs).cps.toList=(zs.map fun z=>z.cps.toList).flatten
 | []=>rfl
 | [z]=>by simp[Str.join]
 | z::y::r=>by
  show (z++⟨#[]⟩++Str.join ⟨#[]⟩ (y::r)).cps.toList=_
  rw[str_app,str_app,join0 (y::r)]
  simp
theorem glue0 (zs:List Str):(Txt.join ⟨#[]⟩ zs).cps.toList=(zs.map fun z=>z.cps.toList).flatten:=by
 show (Builtin.Str.glued ⟨#[]⟩ zs).cps.toList=_
 rw[StrLaws.glued_eq_join]
 exact join0 zs
theorem join_ones (cs:List Nat):(Txt.join ⟨#[]⟩ (cs.map fun c=>(⟨#[c]⟩:Str))).cps.toList=cs:=by
 rw[glue0,List.map_map]
 induction cs with
 | nil=>rfl
 | cons c cs ih =>
  rw[List.map_cons,List.flatten_cons,ih]
  rfl
end Pl
namespace Pl
open PySem L2
def wr (ps:List Int)(c s:Nat):Bool:=decide (min (ps.getD c 0) (ps.getD (c+1) 0)<ps.getD s 0) && decide (ps.getD s 0<max (ps.getD c 0) (ps.getD (c+1) 0))
def cr (ps:List Int)(a b:Nat):Bool:=wr ps a b != wr ps a (b+1)
def NoX (ps:List Int):Prop:=∀ a b:Nat,a+2≤b→b+1<ps.length→(b - a) % 2=0→cr ps a b=false
theorem min_if (i j:Int):(if j<i then j else i)=min i j:=by
 rw[Int.min_def];split <;> split <;> omega
theorem max_if (i j:Int):(if j>i then j else i)=max i j:=by
 rw[Int.max_def];split <;> split <;> omega
end Pl
namespace Pl
open PySem L2
def turn (ns:List Int)(m:Nat):List Int:=ns.drop m++ns.take m
theorem nodup_at {ns:List Int}(nd:ns.Nodup){i j:Nat}{s:Int}(h1:ns[i]?=some s)(h2:ns[j]?=some s):i=j:=by
 obtain⟨l1,e1⟩:=List.getElem?_eq_some_iff.mp h1
 obtain⟨l2,e2⟩:=List.getElem?_eq_some_iff.mp h2
 have q:=List.pairwise_iff_getElem.mp nd
 rcases Nat.lt_trichotomy i j with z | z | z
 ·exact absurd (e1.trans e2.symm) (q i j l1 l2 z)
 ·exact z
 ·exact absurd (e2.trans e1.symm) (q j i l2 l1 z)
def btw (x y u:Int):Bool:=decide (min x y<u) && decide (u<max x y)
theorem wr_btw (ps:List Int)(c s:Nat):wr ps c s=btw (ps.getD c 0) (ps.getD (c+1) 0) (ps.getD s 0):=rfl
end Pl
namespace Pl
open PySem L2
def ins (ns:List Int)(g:Nat):List Int:=ns.take g++[(ns.length:Int)]++ns.drop g
theorem ins_perm {ns:List Int}{n:Nat}(h:ns.Perm (iota n))(g:Nat):(ins ns g).Perm (iota (n+1)):=by
 unfold ins
 rw[perm_len h]
 exact perm_ins h g
def shf (g x:Int):Int:=if g≤x then x+1 else x
theorem ins_get_old {ns:List Int}{g j:Nat}{s:Int}(hg:g≤ns.length)(hj:ns[j]?=some s):(ins ns g)[(shf g j).toNat]?=some s:=by
 have hjn:j<ns.length:=(List.getElem?_eq_some_iff.mp hj).1
 unfold ins shf
 by_cases c:(g:Int)≤j
 ·rw[if_pos c,show ((j:Int)+1).toNat=j+1 by omega,List.getElem?_append_right (by simp;omega)]
  simp only[List.length_append,List.length_take,List.length_singleton,List.getElem?_drop]
  rw[show g+(j+1 - (min g ns.length+1))=j by omega]
  exact hj
 ·rw[if_neg c,show ((j:Int)).toNat=j by omega,List.getElem?_append_left (by simp;omega),List.getElem?_append_left (by simp;omega),List.getElem?_take_of_lt (by omega)]
  exact hj
theorem ins_get_new {ns:List Int}{g:Nat}(hg:g≤ns.length):(ins ns g)[g]?=some (ns.length:Int):=by
 unfold ins
 rw[List.getElem?_append_left (by simp;omega),List.getElem?_append_right (by simp;omega)]
 simp[show g - min g ns.length=0 by omega]
theorem plc_at {ns:List Int}{n s j:Nat}(h:ns.Perm (iota n))(hs:ns[j]?=some (s:Int)):(plc ns).getD s 0=(j:Int):=by
 have hs':s<n:=by
  have:=(perm_mem h).mp (List.mem_of_getElem? hs)
  omega
 obtain⟨k,k1,k2,k3⟩:=plc_get h hs'
 have e:=nodup_at (perm_nodup h) k3 hs
 subst e
 rw[List.getD_eq_getElem?_getD,k1]
 rfl
theorem plc_rng {ns:List Int}{n s:Nat}(h:ns.Perm (iota n))(hs:s<n):0≤(plc ns).getD s 0∧(plc ns).getD s 0<n:=by
 obtain⟨j,j1,j2,j3⟩:=plc_get h hs
 rw[plc_at h j3]
 omega
theorem plc_old {ns:List Int}{n g s:Nat}(h:ns.Perm (iota n))(hg:g≤n)(hs:s<n):(plc (ins ns g)).getD s 0=shf g ((plc ns).getD s 0):=by
 obtain⟨j,j1,j2,j3⟩:=plc_get h hs
 have e:=ins_get_old (g:=g) (by rw[perm_len h];exact hg) j3
 rw[plc_at h j3,plc_at (ins_perm h g) e]
 have:0≤shf g (j:Int):=by unfold shf;split <;> omega
 omega
theorem plc_new {ns:List Int}{n g:Nat}(h:ns.Perm (iota n))(hg:g≤n):(plc (ins ns g)).getD n 0=(g:Int):=by
 have e:=ins_get_new (ns:=ns) (g:=g) (by rw[perm_len h];exact hg)
 rw[perm_len h] at e
 exact plc_at (ins_perm h g) e
theorem btw_shf (g x y u:Int):btw (shf g x) (shf g y) (shf g u)=btw x y u:=by
 have m:∀ a b:Int,(shf g a<shf g b)↔a<b:=fun a b=>by unfold shf;split <;> split <;> omega
 have key:(btw (shf g x) (shf g y) (shf g u)=true)↔(btw x y u=true):=by
  unfold btw
  simp only[Bool.and_eq_true,decide_eq_true_eq,Int.min_def,Int.max_def]
  by_cases c:x≤y
  ·have c':shf g x≤shf g y:=by unfold shf;split <;> split <;> omega
   rw[if_pos c,if_pos c,if_pos c',if_pos c',m,m]
  ·have c':¬ shf g x≤shf g y:=by unfold shf;split <;> split <;> omega
   rw[if_neg c,if_neg c,if_neg c',if_neg c',m,m]
 exact Bool.eq_iff_iff.mpr key
theorem btw_gap (g x y:Int):btw (shf g x) (shf g y) g=(decide (min x y<g) && decide (g≤max x y)):=by
 have key:(btw (shf g x) (shf g y) g=true)↔((decide (min x y<g) && decide (g≤max x y))=true):=by
  unfold btw shf
  simp only[Bool.and_eq_true,decide_eq_true_eq,Int.min_def,Int.max_def]
  by_cases c1:g≤x <;> by_cases c2:g≤y <;> simp only[c1,c2,if_true,if_false] <;> (repeat' split) <;> omega
 exact Bool.eq_iff_iff.mpr key
def FitG (ps:List Int)(st g:Nat):Prop:=∀ c:Nat,c+1<st→(st+1+c) % 2=0→wr ps c (st - 1)=(decide (min (ps.getD c 0) (ps.getD (c+1) 0)<(g:Int)) && decide ((g:Int)≤max (ps.getD c 0) (ps.getD (c+1) 0)))
theorem wr_old {ns:List Int}{n g c s:Nat}(h:ns.Perm (iota n))(hg:g≤n)(hc:c+1<n)(hs:s<n):wr (plc (ins ns g)) c s=wr (plc ns) c s:=by
 rw[wr_btw,wr_btw,plc_old h hg (by omega),plc_old h hg hc,plc_old h hg hs,btw_shf]
theorem wr_new {ns:List Int}{n g c:Nat}(h:ns.Perm (iota n))(hg:g≤n)(hc:c+1<n):wr (plc (ins ns g)) c n=(decide (min ((plc ns).getD c 0) ((plc ns).getD (c+1) 0)<(g:Int)) && decide ((g:Int)≤max ((plc ns).getD c 0) ((plc ns).getD (c+1) 0))):=by
 rw[wr_btw,plc_old h hg (by omega),plc_old h hg hc,plc_new h hg,btw_gap]
theorem nox_ins {ns:List Int}{n g:Nat}(h:ns.Perm (iota n))(h1:1≤n)(hg:g≤n):NoX (plc (ins ns g))↔(NoX (plc ns)∧FitG (plc ns) n g):=by
 have l1:(plc ns).length=n:=by rw[plc_length,perm_len h]
 have l2:(plc (ins ns g)).length=n+1:=by rw[plc_length,perm_len (ins_perm h g)]
 have bb:∀ a b:Bool,(a != b)=false↔a=b:=by decide
 constructor
 ·intro N
  refine⟨fun a b hab hb hp=>?_,fun c hc hp=>?_⟩
  ·have:=N a b hab (by omega) hp
   unfold cr at this ⊢
   rw[wr_old h hg (by omega) (by omega),wr_old h hg (by omega) (by omega)] at this
   exact this
  ·have:=N c (n - 1) (by omega) (by omega) (by omega)
   unfold cr at this
   rw[show n - 1+1=n by omega,wr_old h hg (by omega) (by omega),wr_new h hg (by omega),bb] at this
   exact this
 ·rintro⟨N,F⟩ a b hab hb hp
  unfold cr
  by_cases e:b+1=n
  ·rw[e,wr_old h hg (by omega) (by omega),wr_new h hg (by omega),bb]
   have:=F a (by omega) (by omega)
   rw[show b=n - 1 by omega]
   exact this
  ·rw[wr_old h hg (by omega) (by omega),wr_old h hg (by omega) (by omega)]
   exact N a b hab (by omega) hp
end Pl
namespace Pl
open PySem L2
structure Fre (ps:List Int)(L:Nat→Prop):Prop where
 odd:∀ a b,L a→L b→a<b→(∀ e,a<e→e<b→¬ L e)→(b - a) % 2=1
theorem Fre.congr {ps:List Int}{L L':Nat→Prop}(F:Fre ps L)(h:∀ c,L c↔L' c):Fre ps L':=by
 have e:L=L':=funext fun c=>propext (h c)
 subst e
 exact F
theorem Fre.none {ps:List Int}:Fre ps (fun _=>False):=⟨fun _ _ h=>h.elim⟩
theorem Fre.mid {ps:List Int}{L:Nat→Prop}(F:Fre ps L){a b j i:Nat}(ha:L a)(hb:L b)(hno:∀ e,a<e→e<b→¬ L e)
  (j1:a<j) (j2:j<b) (j3:(j - (a+1)) % 2=0) (i1:j<i) (i2:i<b) (i3:(i - (j+1)) % 2=0):Fre ps (fun c=>L c∨c=j∨c=i):=by
 have hodd:=F.odd a b ha hb (by omega) hno
 refine⟨fun x y hx hy hxy he=>?_⟩
 have nj:¬ (x<j∧j<y):=fun ⟨h1,h2⟩=>he j h1 h2 (.inr (.inl rfl))
 have ni:¬ (x<i∧i<y):=fun ⟨h1,h2⟩=>he i h1 h2 (.inr (.inr rfl))
 have na:¬ (x<a∧a<y):=fun ⟨h1,h2⟩=>he a h1 h2 (.inl ha)
 have nb:¬ (x<b∧b<y):=fun ⟨h1,h2⟩=>he b h1 h2 (.inl hb)
 rcases hx with hx | rfl | rfl <;> rcases hy with hy | rfl | rfl
 ·exact F.odd x y hx hy hxy fun e h1 h2 h3=>he e h1 h2 (.inl h3)
 ·have:¬ (a<x):=fun z=>hno x z (by omega) hx
  omega
 ·have:¬ (a<x):=fun z=>hno x z (by omega) hx
  omega
 ·have:¬ (y<b):=fun z=>hno y (by omega) z hy
  omega
 ·omega
 ·omega
 ·have:¬ (y<b):=fun z=>hno y (by omega) z hy
  omega
 ·omega
 ·omega
theorem Fre.first {ps:List Int}{L:Nat→Prop}(F:Fre ps L){b j:Nat}(hb:L b)(hno:∀ e,e<b→¬ L e)(j2:j<b)(j3:(b - j) % 2=1):Fre ps (fun c=>L c∨c=j):=by
 refine⟨fun x y hx hy hxy he=>?_⟩
 have nb:¬ (x<b∧b<y):=fun ⟨h1,h2⟩=>he b h1 h2 (.inl hb)
 rcases hx with hx | rfl <;> rcases hy with hy | rfl
 ·exact F.odd x y hx hy hxy fun e h1 h2 h3=>he e h1 h2 (.inl h3)
 ·exact absurd hx (hno x (by omega))
 ·have:¬ (y<b):=fun z=>hno y z hy
  omega
 ·omega
theorem Fre.last {ps:List Int}{L:Nat→Prop}(F:Fre ps L){a j:Nat}(ha:L a)(hno:∀ e,a<e→e+1<ps.length→¬ L e)(hL:∀ c,L c→c+1<ps.length)(j1:a<j)(j3:(j - a) % 2=1):Fre ps (fun c=>L c∨c=j):=by
 refine⟨fun x y hx hy hxy he=>?_⟩
 have na:¬ (x<a∧a<y):=fun ⟨h1,h2⟩=>he a h1 h2 (.inl ha)
 rcases hx with hx | rfl <;> rcases hy with hy | rfl
 ·exact F.odd x y hx hy hxy fun e h1 h2 h3=>he e h1 h2 (.inl h3)
 ·have:¬ (a<x):=fun z=>hno x z (hL x hx) hx
  omega
 ·exact absurd hy (hno y (by omega) (hL y hy))
 ·omega
structure Part (n:Nat)(L:Nat→Prop)(f l:Nat):Prop where
 le:f≤l
 lt:l<n
 fst:f=0∨∃ c,L c∧f=c+1
 lst:l+1=n∨L l
 no:∀ e,f≤e→e<l→¬ L e
theorem Fre.part {ps:List Int}{L:Nat→Prop}{n f l:Nat}(F:Fre ps L)(P:Part n L f l)(h1:0<f)(h2:l+1<n):(l - f) % 2=0:=by
 obtain⟨a,ha,rfl⟩:∃ c,L c∧f=c+1:=by
  rcases P.fst with z | z
  ·omega
  ·exact z
 have hb:L l:=by
  rcases P.lst with z | z
  ·omega
  ·exact z
 have:=P.le
 have:=F.odd a l ha hb (by omega) fun e h1 h2=>P.no e (by omega) h2
 omega
end Pl
namespace Pl
open PySem L2
def First (ms:List Int)(i first:Nat):Prop:=(i=0∧first=0)∨∃ j p:Nat,i=j+1∧ms[j]?=some (p:Int)∧first=p+1
structure Srt (n:Nat)(L:Nat→Prop)(ms:List Int):Prop where
 mem:∀ x,x∈ms↔∃ c:Nat,L c∧x=(c:Int)
 inc:ms.Pairwise (·<·)
 bnd:∀ c,L c→c+1<n
theorem Srt.lt {n:Nat}{L:Nat→Prop}{ms:List Int}(S:Srt n L ms){i j:Nat}{x y:Int}(hi:ms[i]?=some x)(hj:ms[j]?=some y)(h:i<j):x<y:=by
 obtain⟨l1,e1⟩:=List.getElem?_eq_some_iff.mp hi
 obtain⟨l2,e2⟩:=List.getElem?_eq_some_iff.mp hj
 rw[← e1,← e2]
 exact List.pairwise_iff_getElem.mp S.inc i j l1 l2 h
theorem Srt.le {n:Nat}{L:Nat→Prop}{ms:List Int}(S:Srt n L ms){i j:Nat}{x y:Int}(hi:ms[i]?=some x)(hj:ms[j]?=some y)(h:i≤j):x≤y:=by
 by_cases e:i=j
 ·subst e
  rw[hi] at hj
  cases hj
  omega
 ·have:=S.lt hi hj (by omega)
  omega
theorem Srt.at {n:Nat}{L:Nat→Prop}{ms:List Int}(S:Srt n L ms)(hn:1≤n){i first:Nat}(hi:i≤ms.length)(F:First ms i first) :
  ∃ last:Nat,(ms++[((n:Int) - 1)])[i]?=some (last:Int)∧Part n L first last∧(i<ms.length→First ms (i+1) (last+1)∧last+1<n)∧(i=ms.length→last+1=n):=by
 have hF:first=0∨∃ j p:Nat,i=j+1∧ms[j]?=some (p:Int)∧first=p+1∧L p:=by
  rcases F with⟨_,z⟩ | ⟨j,p,h1,h2,h3⟩
  ·exact .inl z
  ·obtain⟨c,hc,e⟩:=(S.mem p).mp (List.mem_of_getElem? h2)
   have e':c=p:=by omega
   subst e'
   exact .inr ⟨j,c,h1,h2,h3,hc⟩
 by_cases hk:i<ms.length
 ·obtain⟨c,hc,e⟩:=(S.mem _).mp (List.getElem_mem hk)
  have hg:ms[i]?=some (c:Int):=by rw[List.getElem?_eq_getElem hk,e]
  have hb:=S.bnd c hc
  refine⟨c,by rw[List.getElem?_append_left hk];exact hg,⟨?_,by omega,?_,.inr hc,fun e h1 h2 he=>?_⟩,fun _=>⟨.inr ⟨i,c,rfl,hg,rfl⟩,hb⟩,fun z=>by omega⟩
  ·rcases hF with z | ⟨j,p,h1,h2,h3,h4⟩
   ·omega
   ·have:=S.lt h2 hg (by omega)
    omega
  ·rcases hF with z | ⟨j,p,h1,h2,h3,h4⟩
   ·exact .inl z
   ·exact .inr ⟨p,h4,h3⟩
  ·obtain⟨q,hq⟩:=List.getElem?_of_mem ((S.mem (e:Int)).mpr ⟨e,he,rfl⟩)
   by_cases hqi:i≤q
   ·have:=S.le hg hq hqi
    omega
   ·rcases hF with z | ⟨j,p,h3,h4,h5,h6⟩
    ·rcases F with⟨z1,_⟩ | ⟨j,p,_,_,z2⟩
     ·omega
     ·omega
    ·have:=S.le hq h4 (by omega)
     omega
 ·have ei:i=ms.length:=by omega
  refine⟨n - 1,?_,⟨?_,by omega,?_,.inl (by omega),fun e h1 h2 he=>?_⟩,fun z=>absurd z hk,fun _=>by omega⟩
  ·rw[List.getElem?_append_right (by omega),ei,Nat.sub_self]
   simp
   omega
  ·rcases hF with z | ⟨j,p,h1,h2,h3,h4⟩
   ·omega
   ·have:=S.bnd p h4
    omega
  ·rcases hF with z | ⟨j,p,h1,h2,h3,h4⟩
   ·exact .inl z
   ·exact .inr ⟨p,h4,h3⟩
  ·obtain⟨q,hq⟩:=List.getElem?_of_mem ((S.mem (e:Int)).mpr ⟨e,he,rfl⟩)
   have hql:=(List.getElem?_eq_some_iff.mp hq).1
   rcases hF with z | ⟨j,p,h3,h4,h5,h6⟩
   ·rcases F with⟨z1,_⟩ | ⟨j,p,_,_,z2⟩
    ·omega
    ·omega
   ·have:=S.le hq h4 (by omega)
    omega
end Pl
namespace Pl
open PySem L2
def lc (ps:List Int)(c:Nat):Nat:=if decide (ps.getD c 0<ps.getD (c+1) 0)=decide (c % 2=0) then 86 else 77
def lcs (ps:List Int):List Nat:=(List.range (ps.length - 1)).map (lc ps)
def Lets (cs:List Nat):Prop:=∀ c∈cs,c=86∨c=77
theorem shf_lt (g a b:Int):(shf g a<shf g b)↔a<b:=by unfold shf;split <;> split <;> omega
theorem lc_old {ns:List Int}{n g c:Nat}(h:ns.Perm (iota n))(hg:g≤n)(hc:c+1<n):lc (plc (ins ns g)) c=lc (plc ns) c:=by
 unfold lc
 rw[plc_old h hg (by omega),plc_old h hg hc]
 have e:decide (shf g ((plc ns).getD c 0)<shf g ((plc ns).getD (c+1) 0))=decide ((plc ns).getD c 0<(plc ns).getD (c+1) 0):=Bool.eq_iff_iff.mpr (by rw[decide_eq_true_eq,decide_eq_true_eq];exact shf_lt _ _ _)
 rw[e]
theorem lc_new {ns:List Int}{n g:Nat}(h:ns.Perm (iota n))(h1:1≤n)(hg:g≤n):lc (plc (ins ns g)) (n - 1)=if decide ((plc ns).getD (n - 1) 0<(g:Int))=decide ((n - 1) % 2=0) then 86 else 77:=by
 unfold lc
 rw[plc_old h hg (by omega),show n - 1+1=n by omega,plc_new h hg]
 have e:decide (shf g ((plc ns).getD (n - 1) 0)<(g:Int))=decide ((plc ns).getD (n - 1) 0<(g:Int)):=Bool.eq_iff_iff.mpr (by rw[decide_eq_true_eq,decide_eq_true_eq];unfold shf;split <;> omega)
 rw[e]
theorem lcs_ins {ns:List Int}{n g:Nat}(h:ns.Perm (iota n))(h1:1≤n)(hg:g≤n):lcs (plc (ins ns g))=lcs (plc ns)++[lc (plc (ins ns g)) (n - 1)]:=by
 unfold lcs
 rw[plc_length,perm_len (ins_perm h g),plc_length,perm_len h,show n+1 - 1=(n - 1)+1 by omega,List.range_succ,List.map_append]
 congr 1
 refine List.map_congr_left fun c hc=>?_
 have:=List.mem_range.mp hc
 exact lc_old h hg (by omega)
theorem nox_single:NoX (plc [0]):=fun a b hab hb=>by have e:(plc [0]).length=1:=rfl;omega
end Pl
namespace Pl
open PySem L2
def fstP (ms:List Nat)(j:Nat):Nat:=if j=0 then 0 else ms.getD (j - 1) 0+1
def lstP (n:Nat)(ms:List Nat)(j:Nat):Nat:=if j<ms.length then ms.getD j 0 else n - 1
def endsP (n:Nat)(ms:List Nat):List (Nat×Nat):=(List.range (ms.length+1)).map fun j=>(fstP ms j,lstP n ms j)
theorem endsP_length (n:Nat)(ms:List Nat):(endsP n ms).length=ms.length+1:=by unfold endsP;rw[List.length_map,List.length_range]
theorem endsP_get {n:Nat}{ms:List Nat}{j:Nat}(h:j≤ms.length):(endsP n ms)[j]?=some (fstP ms j,lstP n ms j):=by
 unfold endsP
 rw[List.getElem?_map,List.getElem?_range (by omega)]
 rfl
def likeP (side f l:Nat):List Nat:=((List.range (l - f)).filter fun i=>decide ((f+i) % 2=side % 2)).map fun i=>f+i
theorem mem_likeP {side f l d:Nat}:d∈likeP side f l↔f≤d∧d<l∧d % 2=side % 2:=by
 unfold likeP
 rw[List.mem_map]
 constructor
 ·rintro⟨i,hi,rfl⟩
  obtain⟨h1,h2⟩:=List.mem_filter.mp hi
  have:=List.mem_range.mp h1
  have:=of_decide_eq_true h2
  omega
 ·rintro⟨h1,h2,h3⟩
  exact⟨d - f,List.mem_filter.mpr ⟨List.mem_range.mpr (by omega),decide_eq_true (by rw[show f+(d - f)=d by omega];exact h3)⟩,by omega⟩
theorem likeP_length (side f l:Nat):(likeP side f l).length≤l - f:=by
 unfold likeP
 rw[List.length_map]
 refine Nat.le_trans (List.length_filter_le _ _) ?_
 rw[List.length_range]
 exact Nat.le_refl _
theorem inc_get {ms:List Nat}(inc:ms.Pairwise (·<·)){i j:Nat}(hij:i<j)(hj:j<ms.length):ms.getD i 0<ms.getD j 0:=by
 have:=List.pairwise_iff_getElem.mp inc i j (by omega) hj hij
 simpa [List.getD,hj,show i<ms.length by omega] using this
theorem get_mem {ms:List Nat}{j:Nat}(hj:j<ms.length):ms.getD j 0∈ms:=by
 simp[List.getD,hj]
theorem mem_get {ms:List Nat}{c:Nat}(h:c∈ms):∃ j,j<ms.length∧ms.getD j 0=c:=by
 obtain⟨j,hj⟩:=List.getElem?_of_mem h
 refine⟨j,(List.getElem?_eq_some_iff.mp hj).1,?_⟩
 rw[List.getD,hj]
 rfl
theorem inc_below {ms:List Nat}(inc:ms.Pairwise (·<·)){j e:Nat}(hj:j<ms.length)(he:e∈ms)(lt:e<ms.getD j 0):1≤j∧e≤ms.getD (j - 1) 0:=by
 obtain⟨i,hi,rfl⟩:=mem_get he
 have hij:i<j:=by
  rcases Nat.lt_trichotomy i j with h | h | h
  ·exact h
  ·subst h;omega
  ·have:=inc_get inc h hi;omega
 refine⟨by omega,?_⟩
 by_cases h:i=j - 1
 ·rw[h];exact Nat.le_refl _
 ·exact Nat.le_of_lt (inc_get inc (by omega) (by omega))
theorem inc_above {ms:List Nat}(inc:ms.Pairwise (·<·)){j e:Nat}(hj:j<ms.length)(he:e∈ms)(lt:ms.getD j 0<e):j+1<ms.length∧ms.getD (j+1) 0≤e:=by
 obtain⟨i,hi,rfl⟩:=mem_get he
 have hij:j<i:=by
  rcases Nat.lt_trichotomy i j with h | h | h
  ·have:=inc_get inc h hj;omega
  ·subst h;omega
  ·exact h
 refine⟨by omega,?_⟩
 by_cases h:i=j+1
 ·rw[h];exact Nat.le_refl _
 ·exact Nat.le_of_lt (inc_get inc (by omega) hi)
theorem fst_le {n:Nat}{ms:List Nat}(inc:ms.Pairwise (·<·))(bnd:∀ c∈ms,c+1<n)(h1:1≤n){j:Nat}(hj:j≤ms.length):fstP ms j≤lstP n ms j∧lstP n ms j<n:=by
 unfold fstP lstP
 split
 ·split
  ·rename_i h
   have:=bnd _ (get_mem h)
   omega
  ·omega
 ·split
  ·rename_i h
   have:=bnd _ (get_mem h)
   have:=inc_get inc (show j - 1<j by omega) h
   omega
  ·have:=bnd _ (get_mem (show j - 1<ms.length by omega))
   omega
end Pl
namespace L2
open PySem PySem.Spec PyProof.Rows
section
variable {κ:Type}[DecidableEq κ]
def valV (kvs:List (κ×V))(k:κ):Option V:=(kvs.find? fun kv=>decide (kv.1=k)).map (·.2)
def putK (kvs:List (κ×V))(k:κ)(v:V):List (κ×V) :=
 if (kvs.any fun kv=>decide (kv.1=k))=true then kvs.map (fun kv=>if kv.1=k then (kv.1,v) else kv) else kvs++[(k,v)]
def dropK (kvs:List (κ×V))(k:κ):List (κ×V):=kvs.filter fun kv=>decide (kv.1≠k)
theorem valV_pos {p:κ×V}{r:List (κ×V)}{k:κ}(e:p.1=k):valV (p::r) k=some p.2:=by simp[valV,List.find?_cons,e]
theorem valV_neg {p:κ×V}{r:List (κ×V)}{k:κ}(e:¬ p.1=k):valV (p::r) k=valV r k:=by simp[valV,List.find?_cons,e]
theorem valV_any (k:κ):∀ kvs:List (κ×V),(kvs.any fun kv=>decide (kv.1=k))=(valV kvs k).isSome
 | []=>rfl
 | p::r=>by
  rw[List.any_cons]
  by_cases e:p.1=k
  ·simp only[valV_pos e,decide_eq_true e,Bool.true_or,Option.isSome_some]
  ·rw[valV_neg e,decide_eq_false e,Bool.false_or];exact valV_any k r
theorem RelO.isSome_eq {o:Option V}{u:Option Value}(r:RelO o u):o.isSome=u.isSome:=by
 cases o with
 | none=>cases u with
  | none=>rfl
  | some _=>exact (show False from r).elim
 | some _=>cases u with
  | none=>exact (show False from r).elim
  | some _=>rfl
theorem RelO.getD {o:Option V}{u:Option Value}{d:V}{d':Value}(r:RelO o u)(rd:RelV d d'):RelV (o.getD d) (u.getD d'):=by
 cases o with
 | none=>cases u with
  | none=>exact rd
  | some _=>exact (show False from r).elim
 | some _=>cases u with
  | none=>exact (show False from r).elim
  | some _=>exact r
theorem KV.val {kvs:List (κ×V)}{vs:List (κ×Value)}(r:KV kvs vs)(k:κ):RelO (valV kvs k) (valueAt vs k):=by
 unfold KV at r
 induction r with
 | nil=>exact True.intro
 | @cons p q ps qs h t ih =>
  obtain⟨h1,h2⟩:=h
  by_cases e:p.1=k
  ·have e':q.1=k:=h1.symm.trans e
   have b:valueAt (q::qs) k=some q.2:=by simp[valueAt,List.find?_cons,e']
   rw[valV_pos e,b];exact h2
  ·have e':¬ q.1=k:=fun z=>e (h1.trans z)
   have b:valueAt (q::qs) k=valueAt qs k:=by simp[valueAt,List.find?_cons,e']
   rw[valV_neg e,b];exact ih
theorem KV.any {kvs:List (κ×V)}{vs:List (κ×Value)}(r:KV kvs vs)(k:κ):(kvs.any fun kv=>decide (kv.1=k))=vs.any fun kv=>decide (kv.1=k):=by
 unfold KV at r
 induction r with
 | nil=>rfl
 | cons h t ih=>rw[List.any_cons,List.any_cons,ih,h.1]
theorem KV.repl {kvs:List (κ×V)}{vs:List (κ×Value)}(r:KV kvs vs)(k:κ){y:V}{u:Value}(ry:RelV y u) :
  KV (kvs.map fun kv=>if kv.1=k then (kv.1,y) else kv) (vs.map fun kv=>if kv.1=k then (kv.1,u) else kv):=by
 unfold KV at r ⊢
 induction r with
 | nil=>exact .nil
 | @cons p q ps qs h t ih =>
  rw[List.map_cons,List.map_cons]
  refine .cons ?_ ih
  obtain⟨h1,h2⟩:=h
  by_cases e:p.1=k
  ·rw[if_pos e,if_pos (h1.symm.trans e)];exact⟨h1,ry⟩
  ·rw[if_neg e,if_neg (fun z=>e (h1.trans z))];exact⟨h1,h2⟩
theorem KV.put {kvs:List (κ×V)}{vs:List (κ×Value)}(r:KV kvs vs)(k:κ){y:V}{u:Value}(ry:RelV y u):KV (putK kvs k y) (stored vs k u):=by
 unfold putK stored
 rw[r.any k]
 by_cases e:(vs.any fun kv=>decide (kv.1=k))=true
 ·rw[if_pos e,if_pos e];exact r.repl k ry
 ·rw[if_neg e,if_neg e];exact Paired.snoc r ⟨rfl,ry⟩
theorem KV.drop {kvs:List (κ×V)}{vs:List (κ×Value)}(r:KV kvs vs)(k:κ):KV (dropK kvs k) (without vs k):=by
 unfold KV at r ⊢
 unfold dropK without
 induction r with
 | nil=>exact .nil
 | @cons p q ps qs h t ih =>
  obtain⟨h1,h2⟩:=h
  rw[List.filter_cons,List.filter_cons]
  by_cases e:p.1=k
  ·have a:¬ decide (p.1≠k)=true:=by simp[e]
   have b:¬ decide (q.1≠k)=true:=by simp[h1.symm.trans e]
   rw[if_neg a,if_neg b];exact ih
  ·have e':¬ q.1=k:=fun z=>e (h1.trans z)
   have a:decide (p.1≠k)=true:=by simp[e]
   have b:decide (q.1≠k)=true:=by simp[e']
   rw[if_pos a,if_pos b];exact .cons ⟨h1,h2⟩ ih
theorem KV.keys {kvs:List (κ×V)}{vs:List (κ×Value)}(r:KV kvs vs):kvs.map (·.1)=vs.map (·.1):=by
 unfold KV at r
 induction r with
 | nil=>rfl
 | cons h t ih=>rw[List.map_cons,List.map_cons,ih,h.1]
theorem KV.length {kvs:List (κ×V)}{vs:List (κ×Value)}(r:KV kvs vs):kvs.length=vs.length:=Paired.length r
end
abbrev KT (H:Hp):List (List Key×V)→List (List Key×Addr×Value)→Prop:=Paired fun p q=>p.1=q.1∧H q.2.1=some (.tup (p.1.map kV))∧RelV p.2 q.2.2
theorem KT.val {H:Hp}{kvs:List (List Key×V)}{xs:List (List Key×Addr×Value)}(r:KT H kvs xs)(k:List Key):RelO (valV kvs k) ((atKey xs k).map (·.2)):=by
 induction r with
 | nil=>exact True.intro
 | @cons p q ps qs h t ih =>
  obtain⟨h1,_,h2⟩:=h
  by_cases e:p.1=k
  ·have e':q.1=k:=h1.symm.trans e
   have b:atKey (q::qs) k=some q.2:=by simp[atKey,List.find?_cons,e']
   rw[valV_pos e,b];exact h2
  ·have e':¬ q.1=k:=fun z=>e (h1.trans z)
   have b:atKey (q::qs) k=atKey qs k:=by simp[atKey,List.find?_cons,e']
   rw[valV_neg e,b];exact ih
theorem KT.repl {H:Hp}{kvs:List (List Key×V)}{xs:List (List Key×Addr×Value)}(r:KT H kvs xs)(k:List Key){y:V}{u:Value}(ry:RelV y u) :
  KT H (kvs.map fun kv=>if kv.1=k then (kv.1,y) else kv) (xs.map (putAt k u)):=by
 induction r with
 | nil=>exact .nil
 | @cons p q ps qs h t ih =>
  rw[List.map_cons,List.map_cons]
  refine .cons ?_ ih
  obtain⟨h1,h2,h3⟩:=h
  unfold putAt
  by_cases e:p.1=k
  ·rw[if_pos e,if_pos (h1.symm.trans e)];exact⟨h1,h2,ry⟩
  ·rw[if_neg e,if_neg (fun z=>e (h1.trans z))];exact⟨h1,h2,h3⟩
theorem KT.put {H:Hp}{kvs:List (List Key×V)}{xs:List (List Key×Addr×Value)}(r:KT H kvs xs)(k:List Key){b:Addr}{y:V}{u:Value}(hb:H b=some (.tup (k.map kV)))(ry:RelV y u) :
  KT H (putK kvs k y) (storedH xs k b u):=by
 have e:(kvs.any fun kv=>decide (kv.1=k))=(atKey xs k).isSome:=by
  rw[valV_any,(r.val k).isSome_eq,Option.isSome_map]
 unfold putK storedH
 rw[e]
 by_cases q:(atKey xs k).isSome=true
 ·rw[if_pos q,if_pos q];exact r.repl k ry
 ·rw[if_neg q,if_neg q];exact Paired.snoc r ⟨rfl,hb,ry⟩
theorem KT.keeps {H H':Hp}{kvs:List (List Key×V)}{xs:List (List Key×Addr×Value)}(r:KT H kvs xs)(ht:∀ b ys,H b=some (.tup ys)→H' b=some (.tup ys)):KT H' kvs xs :=
 Paired.mapP r fun _ _ z=>⟨z.1,ht _ _ z.2.1,z.2.2⟩
section
variable {P:Program}{w:World}{H:Hp}{h:Heap}{a:Addr}
end
def DGet (H:Hp)(a:Addr)(y:V)(r:Option V):Prop :=
 (∃ kvs k,Rd H a (.dK kvs)∧y=kV k∧r=valV kvs k)∨∃ kvs k b,Rd H a (.dT kvs)∧y=.ref b∧H b=some (.tup (k.map kV))∧r=valV kvs k
def DPut (H:Hp)(a:Addr)(y v:V)(H':Hp):Prop :=
 (∃ kvs k,H a=some (.dK kvs)∧y=kV k∧kvs.length<sizeLine∧H'=upd H a (.dK (putK kvs k v))) ∨
 ∃ kvs k b,H a=some (.dT kvs)∧y=.ref b∧H b=some (.tup (k.map kV))∧kvs.length<sizeLine∧H'=upd H a (.dT (putK kvs k v))
theorem DGet.k {H:Hp}{a:Addr}{kvs:List (Key×V)}{k:Key}(e:H a=some (.dK kvs)):DGet H a (kV k) (valV kvs k):=.inl ⟨kvs,k,.inl e,rfl,rfl⟩
theorem DGet.t {H:Hp}{a b:Addr}{kvs:List (List Key×V)}{k:List Key}(e:H a=some (.dT kvs))(eb:H b=some (.tup (k.map kV))):DGet H a (.ref b) (valV kvs k):=.inr ⟨kvs,k,b,.inl e,rfl,eb,rfl⟩
theorem DPut.k {H:Hp}{a:Addr}{kvs:List (Key×V)}{k:Key}{v:V}(e:H a=some (.dK kvs))(hl:kvs.length<sizeLine):DPut H a (kV k) v (upd H a (.dK (putK kvs k v))):=.inl ⟨kvs,k,e,rfl,hl,rfl⟩
theorem DPut.t {H:Hp}{a b:Addr}{kvs:List (List Key×V)}{k:List Key}{v:V}(e:H a=some (.dT kvs))(eb:H b=some (.tup (k.map kV)))(hl:kvs.length<sizeLine) :
  DPut H a (.ref b) v (upd H a (.dT (putK kvs k v))):=.inr ⟨kvs,k,b,e,rfl,eb,hl,rfl⟩
section
variable {X:Cx}{pins:List (Addr×Obj)}{σ:St}{H:Hp}{s:Shared}{a:Addr}{y v:V}{u r:Value}{o:Option V}{A:Around}{E:Value→Shared→Prop}
end
section
variable {X:Cx}{pins:List (Addr×Obj)}{σ:St}{H:Hp}{s:Shared}{a:Addr}{kvs:List (Key×V)}{k:Key}{u:Value}{A:Around}{E:Value→Shared→Prop}
end
section
variable {X:Cx}{o i e value:Expr}{pos pos' tpos:Pos}{td ty tv:TE}
end
section
variable {X:Cx}{pos:Pos}
end
structure M1 (X:Cx)(o:Expr)(m:Str)(apos:Pos)(e:Expr)(cpos:Pos):Prop where
 base:attributeBase o m X.env (eval o X.env)=eval o X.env
 few:((backTo cpos (starEach [e] X.env)).all (fun x=>!x.1) && (backToKw cpos (keywordEach [] X.env)).all (fun x=>x.1.isSome)
  && decide (([e]:List Expr).length+([]:List Keyword).length+(if ([]:List Keyword).isEmpty then 0 else 1)<30))=true
 line:(apos.endLine == cpos.line)=true
 trees:backTo cpos (starEach [e] X.env)=[(false,eval e X.env)]
structure M2 (X:Cx)(o:Expr)(m:Str)(apos:Pos)(e f:Expr)(cpos:Pos):Prop where
 base:attributeBase o m X.env (eval o X.env)=eval o X.env
 few:((backTo cpos (starEach [e,f] X.env)).all (fun x=>!x.1) && (backToKw cpos (keywordEach [] X.env)).all (fun x=>x.1.isSome)
  && decide (([e,f]:List Expr).length+([]:List Keyword).length+(if ([]:List Keyword).isEmpty then 0 else 1)<30))=true
 line:(apos.endLine == cpos.line)=true
 trees:backTo cpos (starEach [e,f] X.env)=[(false,eval e X.env),(false,eval f X.env)]
section
variable {X:Cx}{pins:List (Addr×Obj)}{σ:St}{H:Hp}{s:Shared}{a:Addr}{y d:V}{u r:Value}{o:Option V}{A:Around}{E:Value→Shared→Prop}
end
section
variable {X:Cx}{o e f:Expr}{apos cpos:Pos}{td ty tx:TE}
end
section
variable {X:Cx}{pins:List (Addr×Obj)}{σ:St}{H:Hp}{s:Shared}{a:Addr}{kvs:List (Key×V)}{A:Around}{E:Value→Shared→Prop}
end
section
variable {X:Cx}{pins:List (Addr×Obj)}{σ:St}{H:Hp}{s:Shared}{a:Addr}{y:V}{u:Value}{A:Around}{E:Value→Shared→Prop}
end
end L2
namespace L2
open PySem PySem.Spec PyProof.Rows
structure LL (H:Hp)(l:Addr)(as:List Addr)(pss:List (List Int)):Prop where
 lst:H l=some (.lst (as.map V.ref))
 len:as.length=pss.length
 at_:∀ (i:Nat) (a:Addr) (p:List Int),as[i]?=some a→pss[i]?=some p→H a=some (.lst (p.map V.int))
theorem LL.same {H H':Hp}{l:Addr}{as:List Addr}{pss:List (List Int)}(x:LL H l as pss)(s:Same H H'):LL H' l as pss:=⟨s _ _ x.lst,x.len,fun i a p h1 h2=>s _ _ (x.at_ i a p h1 h2)⟩
theorem refs_of:∀ {as:List Addr}{its:List Value},Vals (as.map V.ref) its→its=as.map Value.ref
 | [],_,.nil=>rfl
 | a::as,_,.cons r t=>by
  obtain rfl:_=Value.ref a:=r
  rw[refs_of t]
  rfl
section
variable {X:Cx}
theorem eqAt_lists {pins:List (Addr×Obj)}{s:Shared}{σ:St}{H:Hp}{A:Around}{a b:Addr}{ns ms:List Int}(I:Inv X pins σ H s)(ha:SqL X.K H a (ns.map V.int))(hb:SqL X.K H b (ms.map V.int))(hu:A.units<cLine) :
  SeqAt.EqAt A s (.ref a) (.ref b) (decide (ns=ms)):=by
 by_cases e:a=b
 ·subst e
  have e2:=I.list_inj ha hb
  have e3:ns=ms:=by
   have:∀ {x y:List Int},x.map V.int=y.map V.int→x=y:=fun {x y} h=>by
    have:=congrArg (List.map fun v=>match v with | V.int i=>i | _=>0) h
    simpa [Function.comp_def] using this
   exact this e2
  rw[decide_eq_true e3]
  exact SeqAt.EqAt.same _
 ·obtain⟨us,r1,p1,_⟩:=I.list ha
  obtain⟨ws,r2,p2,_⟩:=I.list hb
  have l1:=r1.length
  have l2:=r2.length
  refine SeqAt.EqAt.of_refs e ?_
  by_cases el:ns.length=ms.length
  ·have el':(ns.map V.int).length=(ms.map V.int).length:=by rw[List.length_map,List.length_map];exact el
   have h:=SeqAt.RcAt.lists (e:=fun j=>eqV ((ns.map V.int).getD j .non) ((ms.map V.int).getD j .non)) p1.isList p2.isList (by rw[List.size_toArray,List.size_toArray];omega) hu (fun j h1 h2=>eqAt_items r1 r2 (flat_ints _) (flat_ints _) j h1 h2)
   rw[List.size_toArray,← l1,eqVs_all el',eqVs_ints] at h
   exact h
  ·have h:=SeqAt.RcAt.lists_lengths (A:=A) p1.isList p2.isList (by rw[List.size_toArray,List.size_toArray];rw[List.length_map] at l1 l2;simp;omega) hu
   rw[decide_eq_false (fun z=>el (by rw[z]))]
   exact h
theorem map_int_inj {x y:List Int}(h:x.map V.int=y.map V.int):x=y:=by
 have:=congrArg (List.map fun v=>match v with | V.int i=>i | _=>0) h
 simpa [Function.comp_def] using this
theorem in1_units {k:Nat}{A:Around}(r:Room k A):A.in1.units<cLine:=by
 have:=r.units
 show A.units+1<cLine
 omega
end
end L2
namespace L2
open PySem PySem.Spec PyProof.Rows
section
variable {X:Cx}
end
end L2
namespace L2
open PySem PySem.Spec PyProof.Rows
def Exc0 (h:Heap)(e:Addr)(C:Value)(od:Option Addr):Prop:=∃ oe vs,h.get? e=some oe∧oe.cls=C∧oe.dict=od∧oe.data=.fields vs∧vs[1]?=some .none
def ExcT (h:Heap)(e T:Addr)(C:Value)(od:Option Addr)(fl:Value):Prop :=
 ∃ oe vs oT ts,h.get? e=some oe∧oe.cls=C∧oe.dict=od∧oe.data=.fields vs∧vs[1]?=some (.ref T)∧T≠e∧h.get? T=some oT∧oT.data=.fields ts∧ts[3]?=some fl
structure Nt (fs xs:List Addr)(h h':Heap):Prop where
 keep:∀ b o,h.get? b=some o→b∉fs→b∉xs→h'.get? b=some o
 slot:∀ b o,h.get? b=some o→b∉xs→∃ sl,h'.get? b=some { o with slots:=sl }
 there:∀ b o,h.get? b=some o→∃ o',h'.get? b=some o'
theorem Nt.refl {fs xs:List Addr}{h:Heap}:Nt fs xs h h:=⟨fun _ _ e _ _=>e,fun _ o e _=>⟨o.slots,e⟩,fun _ o e=>⟨o,e⟩⟩
theorem Nt.trans {fs xs ys:List Addr}{h h' h'':Heap}(a:Nt fs xs h h')(b:Nt fs ys h' h''):Nt fs (xs++ys) h h'' :=
 ⟨fun c o e hf hx=>b.keep c o (a.keep c o e hf fun z=>hx (List.mem_append.mpr (.inl z))) hf fun z=>hx (List.mem_append.mpr (.inr z)),
  fun c o e hx=>by
  obtain⟨sl,e1⟩:=a.slot c o e fun z=>hx (List.mem_append.mpr (.inl z))
  obtain⟨sl',e2⟩:=b.slot c _ e1 fun z=>hx (List.mem_append.mpr (.inr z))
  exact⟨sl',e2⟩,
  fun c o e=>by
  obtain⟨o',e1⟩:=a.there c o e
  exact b.there c o' e1⟩
theorem Un.noted {fs xs:List Addr}{H0 H:Hp}{h0 h h':Heap}(u:Un fs [] H0 H h0 h)(hx:∀ b∈xs,h0.get? b=none)(k:Nt fs xs h h'):Un fs [] H0 H h0 h' where
 keep:=fun b o e n hf he=>k.keep b o (u.keep b o e n hf he) hf fun z=>by rw[hx b z] at e;cases e
 slot:=fun b o e n hf he=>by
  obtain⟨sl,e1⟩:=u.slot b o e n hf he
  obtain⟨sl',e2⟩:=k.slot b _ e1 fun z=>by rw[hx b z] at e;cases e
  exact⟨sl',e2⟩
 free:=u.free
 there:=fun b o e he=>by
  obtain⟨o',e1⟩:=u.there b o e he
  exact k.there b o' e1
 tups:=u.tups
 frzs:=u.frzs
 tbls:=u.tbls
theorem HOk.noted {P:Program}{w:World}{fs xs:List Addr}{H:Hp}{h h':Heap}(x:HOk P w H h)(hf:∀ b∈fs,H b=none)(hx:∀ b∈xs,H b=none)(k:Nt fs xs h h'):HOk P w H h':=fun a o e =>
 (x a o e).stay (fun b u n q=>by
  have hs:∃ v,H b=some v:=by
   rcases n with rfl | n
   ·exact⟨o,e⟩
   ·exact⟨_,n⟩
  obtain⟨v,hv⟩:=hs
  exact k.keep b u q (fun z=>by rw[hf b z] at hv;cases hv) fun z=>by rw[hx b z] at hv;cases hv) (fun _ q=>q) fun _ _ q=>q
theorem dict_mapFields (f:Array Value→Array Value)(o:Obj):(Obj.mapFields f o).dict=o.dict:=by
 unfold Obj.mapFields
 split <;> rfl
section
variable {M:Model}{A:Around}{E:Value→Shared→Prop}{s:Shared}
theorem note_entry {base:Heap}{env:Env}{outer:List Env}{L e:Addr}{oe:Obj}{vs:Array Value}{head:Value}{hadNext:Bool}{Q:Unit→Shared→Prop}
  (hfr:A.frames=some (env::outer)) (hl:s.heap.FunFrames base (env::outer)) (hf:env.frame=some L)
  (he:s.heap.get? e=some oe) (hd:oe.data=.fields vs) (hsz:1<vs.size)
  (h:∀ h' T,Nt (frs (env::outer)) [e] s.heap h'→ExcT h' e T oe.cls oe.dict (rawInt L)→s.heap.get? T=none→Q () { s with heap:=h' }) :
  wpAny M A (do let a ← frameOf env;let pl ← entryPlaceOf L hadNext;let b ← EntryCells.newEntry head a .none (rawInt L) .none pl;setField (.ref e) 1 b) Q E s:=by
 have hene:e∉(env::outer).filterMap (·.frame):=fun hm=>by
  obtain⟨_,o,ho,hnf⟩:=hl.mem hm
  rw[he] at ho;injection ho with ho;subst ho;exact hnf vs hd
 refine wpAny_bind (wpAny_frameOf_fun hfr hl hf fun h₁ hs₁=>?_)
 refine wpAny_bind (wpAny_entryPlaceOf fun pl hpl=>?_)
 unfold EntryCells.newEntry newFields
 refine wpAny_bind (wpAny_newObj_type ?_ (hpl.sizeOk5 _ _ _ _ _))
 have he₁:h₁.get? e=some oe:=(hs₁.2.1 e hene).trans he
 generalize hT:({ cls:=.type "traceback",dict:=none,data:=.fields ([head,.ref L,.none,rawInt L,.none]++(if pl.isEmpty then List.replicate 6 Value.none else pl)).toArray }:Obj)=oT
 have he₂:=Heap.get?_push_of_some (h:=h₁) oT he₁
 refine wpAny_setField he₂ hd hsz (h _ h₁.objs.size ?_ ?_ ?_)
 ·have keep:∀ b o,b≠e→h₁.get? b=some o→((h₁.push oT).update e (Obj.mapFields (·.setIfInBounds 1 (Value.ref h₁.objs.size)))).get? b=some o:=fun b o hbe hb=>by
   rw[Heap.get?_update_other _ _ (Ne.symm hbe)]
   exact Heap.get?_push_of_some _ hb
  have hd₃:=Obj.data_mapFields hd (·.setIfInBounds 1 (Value.ref h₁.objs.size))
  have he₃:=Heap.get?_update_self (Obj.mapFields (·.setIfInBounds 1 (Value.ref h₁.objs.size))) he₂ (Obj.isFreed_of_fields hd₃)
  refine⟨fun b o q hb hx=>keep b o (fun z=>hx (by rw[z];exact List.mem_singleton.mpr rfl)) ((hs₁.2.1 b hb).trans q),fun b o q hx=>?_,fun b o q=>?_⟩
  ·obtain⟨sl,e1⟩:=hs₁.2.2 b o q
   exact⟨sl,keep b _ (fun z=>hx (by rw[z];exact List.mem_singleton.mpr rfl)) e1⟩
  ·by_cases hb:b=e
   ·subst hb
    exact⟨_,he₃⟩
   ·obtain⟨sl,e1⟩:=hs₁.2.2 b o q
    exact⟨_,keep b _ hb e1⟩
 ·have hTe:h₁.objs.size≠e:=Nat.ne_of_gt (Heap.lt_size he₁)
  have hd₃:=Obj.data_mapFields hd (·.setIfInBounds 1 (Value.ref h₁.objs.size))
  have he₃:=Heap.get?_update_self (Obj.mapFields (·.setIfInBounds 1 (Value.ref h₁.objs.size))) he₂ (Obj.isFreed_of_fields hd₃)
  have hT₃:((h₁.push oT).update e (Obj.mapFields (·.setIfInBounds 1 (Value.ref h₁.objs.size)))).get? h₁.objs.size=some oT :=
   (Heap.get?_update_other (h₁.push oT) (Obj.mapFields (·.setIfInBounds 1 (Value.ref h₁.objs.size))) (Ne.symm hTe)).trans (Heap.get?_push_size h₁ (by rw[← hT];rfl))
  subst hT
  exact⟨_,_,_,_,he₃,Obj.cls_mapFields _ _,dict_mapFields _ _,hd₃,by simp[hsz],hTe,hT₃,rfl,by first | (simp;done) | (rcases hpl with rfl | ⟨_,_,_,_,_,_,_,rfl⟩ <;> simp)⟩
 ·cases q:s.heap.get? h₁.objs.size with
  | none=>rfl
  | some o =>
   obtain⟨sl,e1⟩:=hs₁.2.2 _ o q
   exact absurd (Heap.lt_size e1) (Nat.lt_irrefl _)
theorem note_first {base:Heap}{env:Env}{outer:List Env}{L e:Addr}{C:Value}{od:Option Addr}{Q:Unit→Shared→Prop}
  (hfr:A.frames=some (env::outer)) (hl:s.heap.FunFrames base (env::outer)) (hf:env.frame=some L) (hx:Exc0 s.heap e C od)
  (h:∀ h' T,Nt (frs (env::outer)) [e] s.heap h'→ExcT h' e T C od (rawInt L)→s.heap.get? T=none→Q () { s with heap:=h' }):wpAny M A (noteFrame (.ref e) env) Q E s:=by
 obtain⟨oe,vs,he,rfl,rfl,hd,h1⟩:=hx
 unfold noteFrame
 simp only[hf]
 refine wpAny_bind (wpAny_field he hd h1 ?_)
 rw[if_neg (by decide)]
 exact note_entry hfr hl hf he hd (Array.getElem?_eq_some_iff.mp h1).1 h
theorem note_next {base:Heap}{env:Env}{outer:List Env}{L e T:Addr}{C:Value}{od:Option Addr}{Q:Unit→Shared→Prop}
  (hfr:A.frames=some (env::outer)) (hl:s.heap.FunFrames base (env::outer)) (hf:env.frame=some L) (hx:ExcT s.heap e T C od .none)
  (h:∀ h' T',Nt (frs (env::outer)) [T,e] s.heap h'→ExcT h' e T' C od (rawInt L)→s.heap.get? T'=none→Q () { s with heap:=h' }):wpAny M A (noteFrame (.ref e) env) Q E s:=by
 obtain⟨oe,vs,oT,ts,he,rfl,rfl,hd,h1,hTe,hT,hdT,h3⟩:=hx
 unfold noteFrame
 simp only[hf]
 refine wpAny_bind (wpAny_field he hd h1 ?_)
 rw[if_pos (show (Value.ref T != Value.none)=true from by simp)]
 refine wpAny_bind (wpAny_field hT hdT h3 ?_)
 rw[if_neg (show ¬ ((Value.none == rawInt L)=true) from by simp[rawInt])]
 refine wpAny_bind (wpAny_setField hT hdT (Array.getElem?_eq_some_iff.mp h3).1 ?_)
 have other:∀ b,b≠T→(s.heap.update T (Obj.mapFields (·.setIfInBounds 3 Value.none))).get? b=s.heap.get? b:=fun b hb=>Heap.get?_update_other _ _ (Ne.symm hb)
 have noRecord:∀ b o,s.heap.get? b=some o→(∀ vs,o.data≠.fields vs)→b≠T:=fun b o hb hnf q=>by
  rw[q,hT] at hb;injection hb with hb;subst hb;exact hnf ts hdT
 have hdT2:=Obj.data_mapFields hdT (·.setIfInBounds 3 Value.none)
 have hT2:=Heap.get?_update_self (Obj.mapFields (·.setIfInBounds 3 Value.none)) hT (Obj.isFreed_of_fields hdT2)
 have nt:Nt (frs (env::outer)) [T] s.heap (s.heap.update T (Obj.mapFields (·.setIfInBounds 3 Value.none))):=⟨fun b o q _ hx=>(other b fun z=>hx (by rw[z];exact List.mem_singleton.mpr rfl)).trans q,
  fun b o q hx=>⟨o.slots,(other b fun z=>hx (by rw[z];exact List.mem_singleton.mpr rfl)).trans q⟩,fun b o q=>by
   by_cases hb:b=T
   ·subst hb;exact⟨_,hT2⟩
   ·exact⟨o,(other b hb).trans q⟩⟩
 refine note_entry hfr (hl.of_keeps fun b o hb hnf=>⟨o,(other b (noRecord b o hb hnf)).trans hb,rfl⟩) hf ((other e (Ne.symm hTe)).trans he) hd (Array.getElem?_eq_some_iff.mp h1).1
  fun h' T' n2 x2 f2=>h h' T' (nt.trans n2) x2 ?_
 cases q:s.heap.get? T' with
 | none=>rfl
 | some o =>
  obtain⟨o',e1⟩:=nt.there T' o q
  have f2:(s.heap.update T (Obj.mapFields (·.setIfInBounds 3 Value.none))).get? T'=none:=f2
  rw[f2] at e1
  cases e1
theorem flight_none {fs:List Addr}{e T:Addr}{C fl:Value}{od:Option Addr}{Q:Unit→Shared→Prop}(hx:ExcT s.heap e T C od fl)
  (h:∀ h',Nt fs [T] s.heap h'→ExcT h' e T C od .none→Q () { s with heap:=h' }):wpAny M A (setFlight (.ref e) none) Q E s:=by
 obtain⟨oe,vs,oT,ts,he,rfl,rfl,hd,h1,hTe,hT,hdT,h3⟩:=hx
 have hsz3:3<ts.size:=(Array.getElem?_eq_some_iff.mp h3).1
 unfold setFlight
 refine wpAny_bind (wpAny_field he hd h1 ?_)
 rw[if_pos (show (Value.ref T != Value.none)=true from by simp)]
 have other:∀ b,b≠T→(s.heap.update T (Obj.mapFields (·.setIfInBounds 3 ((none:Option Addr).elim Value.none fun f=>rawInt f)))).get? b=s.heap.get? b :=
  fun b hb=>Heap.get?_update_other _ _ (Ne.symm hb)
 have hdT2:=Obj.data_mapFields hdT (·.setIfInBounds 3 ((none:Option Addr).elim Value.none fun f=>rawInt f))
 have hT2:=Heap.get?_update_self (Obj.mapFields (·.setIfInBounds 3 ((none:Option Addr).elim Value.none fun f=>rawInt f))) hT (Obj.isFreed_of_fields hdT2)
 refine wpAny_setField hT hdT hsz3 (h _ ⟨fun b o q _ hx=>(other b fun z=>hx (by rw[z];exact List.mem_singleton.mpr rfl)).trans q,
  fun b o q hx=>⟨o.slots,(other b fun z=>hx (by rw[z];exact List.mem_singleton.mpr rfl)).trans q⟩,fun b o q=>?_⟩ ?_)
 ·by_cases hb:b=T
  ·subst hb;exact⟨_,hT2⟩
  ·exact⟨o,(other b hb).trans q⟩
 ·exact⟨oe,vs,_,_,(other e (Ne.symm hTe)).trans he,rfl,rfl,hd,h1,hTe,hT2,hdT2,by simp[hsz3]⟩
end
end L2
namespace L2
open PySem PySem.Spec PyProof.Rows
def CX1 (P:Program)(w:World):CXT:=fun outer H s E ev s'=>∃ (e T:Addr) (C:Value) (od:Option Addr) (H':Hp),ev=.ref e∧s.heap.get? e=none∧s.heap.get? T=none∧ExcT s'.heap e T C od .none∧H' e=none∧H' T=none ∧
 s'.os=s.os∧AllBare s'.gens∧Un (frs outer) [] H H' s.heap s'.heap∧HOk P w H' s'.heap∧E C od H'
theorem ObjOk.there {P:Program}{w:World}{H:Hp}{h:Heap}{a:Addr}{o:HO}(x:ObjOk P w H h a o):∃ u,h.get? a=some u:=by
 cases o with
 | lst xs=>obtain⟨_,_,_,_,e⟩:=x;exact⟨_,e⟩
 | tup xs=>obtain⟨_,_,_,o,e,_⟩:=x;exact⟨_,e⟩
 | dK kvs=>obtain⟨_,_,_,_,o,_,_,e,_⟩:=x;exact⟨_,e⟩
 | dT kvs=>obtain⟨_,_,_,_,o,_,_,e,_⟩:=x;exact⟨_,e⟩
 | set S n=>obtain⟨o,_,_,_,e,_⟩:=x;exact⟨_,e⟩
 | ins C dx fs=>obtain⟨_,_,_,e,_⟩:=x;exact⟨_,e⟩
 | own y=>obtain⟨_,e⟩:=x;exact⟨_,e⟩
 | xd fs=>obtain⟨_,⟨_,_,_,e,_⟩,_⟩:=x;exact⟨_,e⟩
 | met f y=>exact⟨_,x⟩
 | rng lo hi=>obtain⟨_,_,_,e⟩:=x;exact⟨_,e⟩
 | frz o u=>obtain⟨e,_⟩:=x;exact⟨_,e⟩
 | tbl ps=>exact⟨_,x⟩
 | ext φ=>exact x.2.1
theorem HOk.none_of {P:Program}{w:World}{H:Hp}{h:Heap}{a:Addr}(x:HOk P w H h)(e:h.get? a=none):H a=none:=by
 cases q:H a with
 | none=>rfl
 | some o =>
  obtain⟨u,e1⟩:=(x a o q).there
  rw[e] at e1
  cases e1
theorem Nt.front {fs xs:List Addr}{f:Addr}{h h':Heap}(k:Nt (f::fs) xs h h'):Nt fs (f::xs) h h' :=
 ⟨fun b o e hf hx=>k.keep b o e (fun z=>(List.mem_cons.mp z).elim (fun z=>hx (by rw[z];exact List.mem_cons_self)) fun z=>hf z) fun z=>hx (List.mem_cons_of_mem _ z),
  fun b o e hx=>k.slot b o e fun z=>hx (List.mem_cons_of_mem _ z),k.there⟩
section
variable {P:Program}{w:World}{K:PySem.W.Frag}{mg:Str→Option Value}{base:Heap}{N:List Str}{qual:Str}{scope:Scope}{f:Addr}{cd:Value}{A:Around}{outer:List Env}{s:Shared}{H:Hp}{E:XK}
theorem left_frame {pins:List (Addr×Obj)}{σ:St}{H':Hp}{s':Shared}{e T:Addr}{xs:List Addr}{C:Value}{od:Option Addr}{h1:Heap}{M:Model}{B:Around}{R:Value→Shared→Prop}(J:Inv (cxOf (CX1 P w) P w K mg base N qual scope f cd A outer s H E) pins σ H' s')
  (n1:Nt (frs (envOfC qual scope s.heap.objs.size f cd::outer)) xs s'.heap h1) (x:ExcT h1 e T C od (rawInt s.heap.objs.size)) (hx:∀ b∈xs,s.heap.get? b=none∧H' b=none) (he:s.heap.get? e=none) (hT:s'.heap.get? T=none) (ne:H' e=none) (hE:E C od H') :
  wpAny M B (setFlight (.ref e) none) (fun _ s''=>CX1 P w outer H s E (.ref e) s'') R { s' with heap:=h1 }:=by
 have nT:H' T=none:=HOk.none_of J.hok hT
 have oT:s.heap.get? T=none:=by
  cases q:s.heap.get? T with
  | none=>rfl
  | some o =>
   obtain⟨o',e1⟩:=J.base.there T o q (by show T∉([]:List Addr);simp)
   rw[hT] at e1
   cases e1
 refine flight_none (fs:=frs (envOfC qual scope s.heap.objs.size f cd::outer)) x fun h2 n2 x2=>?_
 have n12:Nt (frs (envOfC qual scope s.heap.objs.size f cd::outer)) (xs++[T]) s'.heap h2:=n1.trans n2
 have old:∀ b∈xs++[T],s.heap.get? b=none∧H' b=none:=fun b hb=>by
  rcases List.mem_append.mp hb with z | z
  ·exact hx b z
  ·rw[List.mem_singleton.mp z]
   exact⟨oT,nT⟩
 have nf:Nt (frs outer) (s.heap.objs.size::(xs++[T])) s'.heap h2:=Nt.front n12
 refine⟨e,T,C,od,H',rfl,he,oT,x2,ne,nT,J.os,J.bare,Un.noted J.base (fun b hb=>?_) nf,HOk.noted J.hok J.stkFree (fun b hb=>(old b hb).2) n12,hE⟩
 rcases List.mem_cons.mp hb with z | z
 ·rw[z]
  exact Heap.get?_none_of_le (Nat.le_refl _)
 ·exact (old b z).1
theorem pass_next {pins:List (Addr×Obj)}{σ:St}{H':Hp}{s':Shared}{e T:Addr}{C:Value}{od:Option Addr}(J:Inv (cxOf (CX1 P w) P w K mg base N qual scope f cd A outer s H E) pins σ H' s')
  (he:s.heap.get? e=none) (hT:s.heap.get? T=none) (x:ExcT s'.heap e T C od .none) (ne:H' e=none) (nT:H' T=none) (hE:E C od H'):(cxOf (CX1 P w) P w K mg base N qual scope f cd A outer s H E).xe (.ref e) s':=by
 show wpAny _ _ (leaving _ _) _ _ _
 unfold leaving
 refine wpAny_bind (note_next J.ok.frames J.stack rfl x fun h1 T' n1 x1 f1=>?_)
 exact left_frame J n1 x1 (fun b hb=>by
  rcases List.mem_cons.mp hb with z | z
  ·rw[z];exact⟨hT,nT⟩
  ·rw[List.mem_singleton.mp z];exact⟨he,ne⟩) he f1 ne hE
theorem pass_first {pins:List (Addr×Obj)}{σ:St}{H':Hp}{s':Shared}{e:Addr}{C:Value}{od:Option Addr}(J:Inv (cxOf (CX1 P w) P w K mg base N qual scope f cd A outer s H E) pins σ H' s')
  (he:s.heap.get? e=none) (x:Exc0 s'.heap e C od) (ne:H' e=none) (hE:E C od H'):(cxOf (CX1 P w) P w K mg base N qual scope f cd A outer s H E).xe (.ref e) s':=by
 show wpAny _ _ (leaving _ _) _ _ _
 unfold leaving
 refine wpAny_bind (note_first J.ok.frames J.stack rfl x fun h1 T' n1 x1 f1=>?_)
 exact left_frame J n1 x1 (fun b hb=>by rw[List.mem_singleton.mp hb];exact⟨he,ne⟩) he f1 ne hE
theorem pass1 {E':XK}(h:∀ C od H',E' C od H'→E C od H'):Passes (CX1 P w) (cxOf (CX1 P w) P w K mg base N qual scope f cd A outer s H E) E':=by
 rintro pins σ H1 s1 ev s' I ⟨e,T,C,od,H',rfl,he,hT,x,ne,nT,ho,hb,un,hok,q⟩
 have J:Inv (cxOf (CX1 P w) P w K mg base N qual scope f cd A outer s H E) pins σ H' s':=I.call' (ch:=[]) ho un hok hb (fun b z=>absurd z (by simp))
 have old:∀ b,s1.heap.get? b=none→s.heap.get? b=none:=fun b hb=>by
  cases q:s.heap.get? b with
  | none=>rfl
  | some o =>
   obtain⟨o',e1⟩:=I.base.there b o q (by show b∉([]:List Addr);simp)
   rw[hb] at e1
   cases e1
 exact pass_next J (old e he) (old T hT) x ne nT (h _ _ _ q)
theorem Fun.okX {x:Str}{st:Stmt}{fd:FuncData}{ps:List Str}{k:Nat}{sp:Sp}(F:Fun K x qual st f fd)(S:FnScope N ps (defScope st))(len:∀ vs H Q E,sp vs H Q E→vs.length=ps.length)
  (hbody:∀ (cdv:Value) (A:Around) (outer:List Env) (s:Shared) (H:Hp) (vs:List V) (Q:VK) (E:XK),Room k (A.deeper (envOfC qual (defScope st) s.heap.objs.size f cdv))→sp vs H Q E →
   ∃ t,PSs (cxOf (CX1 P w) P w K mg base N qual (defScope st) f cdv A outer s H E) (defBody st) t∧t { nx:=fun _ H'=>Q .non H',rt:=Q } (start N vs) H):FnOk P w K mg base (CX1 P w) (k+1) f fd ps sp:=by
 obtain⟨oc,od,kV,doc,pm,an,cdv,ct,osl,rfl,lk,hcd⟩:=F.ex
 refine fn_of lk hcd S len fun A outer s H vs Q E hr hsp=>?_
 exact hbody cdv A outer s H vs Q E hr hsp
theorem FnOk.calm {k:Nat}{fd:FuncData}{ps:List Str}{sp:Sp}{CX:CXT}(F:FnOk P w K mg base CX0 k f fd ps sp):FnOk P w K mg base CX k f fd ps sp :=
 ⟨F.len,fun A outer s H args us vs Q E hr he hb hv hs=>codeAny_mono (F.run A outer s H args us vs Q E hr he hb hv hs) fun r s' q=>by
  cases r with
  | ok fl=>cases fl <;> exact q
  | error e=>exact False.elim q⟩
end
end L2
namespace L2
open PySem PySem.Spec PyProof.Rows
def ExcCls (h:Heap)(C:Addr)(bm:List Value):Prop :=
 ∃ (nm q:Str) (N:Addr) (bs:List Value) (hdct:Bool) (sn:List Str) (sub:List Value) (ab:Bool) (col:Option Bool) (dd:Option Addr) (k0 k1 k2 k3 k5:Option Value) (mN:Str→Option Value),
  h.get? C=some (excClassObj nm q C N bs bm hdct sn sub ab col dd k0 k1 k2 k3 k5 "ValueError.__new__")∧h.Ns N mN∧mN "__init__"=none∧OwnTail h [.type "ValueError",.type "Exception",.type "BaseException",.type "object"] bm
theorem ExcCls.keeps {h h':Heap}{C:Addr}{bm:List Value}(x:ExcCls h C bm)(k:∀ b o,h.get? b=some o→h'.get? b=some o):ExcCls h' C bm:=by
 obtain⟨nm,q,N,bs,hdct,sn,sub,ab,col,dd,k0,k1,k2,k3,k5,mN,h1,h2,h3,h4⟩:=x
 exact⟨nm,q,N,bs,hdct,sn,sub,ab,col,dd,k0,k1,k2,k3,k5,mN,k _ _ h1,h2.keeps k,h3,h4.keeps k⟩
def Raises (X:Cx)(E:XK):Prop:=∀ (pins:List (Addr×Obj)) (σ:St) (H:Hp) (s:Shared) (e:Addr) (C:Value) (od:Option Addr),Inv X pins σ H s→X.s₀.heap.get? e=none→Exc0 s.heap e C od→H e=none→E C od H→X.xe (.ref e) s
theorem raises1 {P:Program}{w:World}{K:PySem.W.Frag}{mg:Str→Option Value}{base:Heap}{N:List Str}{qual:Str}{scope:Scope}{f:Addr}{cd:Value}{A:Around}{outer:List Env}{s:Shared}{H:Hp}{E E':XK}
  (h:∀ C od H',E' C od H'→E C od H'):Raises (cxOf (CX1 P w) P w K mg base N qual scope f cd A outer s H E) E' :=
 fun _ _ _ _ _ _ _ I he x ne q=>pass_first I he x ne (h _ _ _ q)
section
variable {X:Cx}{E:XK}{x:Str}{C:Addr}{bm:List Value}{e₀:Expr}{args:List Expr}{t:TA}{np cpos pos:Pos}
def tRaise (t:TA)(C:Addr)(E:XK):TS:=fun _ σ H=>t σ H fun vs H1=>vs.length≤sizeLine∧E (.ref C) none H1
theorem ps_raise (hc:X.calm=true)(hex:X.ex=[])(hg:Gl X x)(hm:X.mg x=some (.ref C))(k:ExcCls X.base C bm)(hx:Raises X E)(ha:PA X (e₀::args) t)
  (he₀:starEach (e₀::args) X.env=(false,eval e₀ X.env)::starEach args X.env:=by rfl) (hpl:(backTo cpos (starEach (e₀::args) X.env)).any (·.1)=false:=by rfl) (hd:(x == ("__debug__":Str))=false:=by decide):PS X (.Raise (some (.Call (.Name x np) (e₀::args) [] cpos)) none pos) (tRaise t C E):=by
 intro pins s σ H D I h
 have kb:=k
 obtain⟨nm,q,N,bs,hdct,sn,sub,ab,col,dd,k0,k1,k2,k3,k5,mN,h1,h2,h3,h4⟩:=kb
 refine wpAny_Raise_call_subT (C:=C) (nm:=nm) (q:=q) (N:=N) (bs:=bs) (bm:=bm) (hdct:=hdct) (sn:=sn) (sub:=sub) (ab:=ab) (col:=col) (dd:=dd) (k0:=k0) (k1:=k1) (k2:=k2) (k3:=k3) (k5:=k5) PySem.F.excBase_ValueError (h4.hasType (by decide)) (I.ok.hd hc) hpl h3 (ld_glob I hg hm ⟨rfl,?_⟩ hd)
 have hA:=ha cpos pins s σ H _ I h
 rw[he₀] at hA ⊢
 refine Calls.evalArgs_plain (thn hA fun us s1 ⟨vs,H1,I1,r,q1,q2⟩=>⟨rfl,by rw[← r.length];exact q1,I1.bk _ _ h1,h2.keeps I1.bk,h4.keeps I1.bk,fun h' e hm=>?_⟩)
 obtain⟨tt,he,htn,ht⟩:=hm.there
 have old:X.s₀.heap.get? e=none:=by
  cases q:X.s₀.heap.get? e with
  | none=>rfl
  | some o =>
   obtain⟨o',e1⟩:=I1.base.there e o q (by rw[hex];simp)
   rw[hm.new] at e1
   cases e1
 have hok:HOk X.prog X.w H1 h':=I1.hok.kept hm.keeps
 have J:Inv X pins σ H1 { s1 with heap:=h' }:=I1.un (Un.kept hm.keeps) hok
 exact hx pins σ H1 _ e (.ref C) none J old ⟨_,_,he,rfl,rfl,rfl,rfl⟩ (HOk.none_of I1.hok hm.new) q2
end
end L2
namespace L2
open PySem PySem.Spec PyProof.Rows
section
variable {X:Cx}{pins:List (Addr×Obj)}{σ:St}{H:Hp}{s:Shared}
theorem name_goes {M:Model}{A:Around}{E:Value→Shared→Prop}{i:Nat}{n:Str}{pos:Pos}{Q:Unit→Shared→Prop}(I:Inv X pins σ H s)(hN:X.N.Nodup)(hi:X.N[i]?=some n)(hk:X.env.scope.names.lookup n=some .local)
  (h:∀ s',Inv X pins (σ.set i none) H s'→Q () s'):wpAny M A (do bindName X.env n .none;unbindBehindTheSuite X.env n pos) Q E s:=by
 refine wpAny_bind (wpAny_bindName (store_ok I hN hi (Or.inl hk) (v:=.non) rfl (fun s1 I1=>?_) (.inr hk)))
 have hcls:(X.env.scope.kind == .class || (X.env.scope.kind == .module && X.env.locals != X.env.globals))=false:=by rw[I.ok.kind];rfl
 have hiσ:i<σ.length:=by rw[I.len];exact (List.getElem?_eq_some_iff.mp hi).1
 have hk':X.env.kindOf n=some .local:=hk
 unfold unbindBehindTheSuite
 refine wpAny_onRaise ?_
 unfold unbindName
 refine wpAny_bind (wpAny_point (wpAny_bind ?_))
 unfold deleteName
 simp only[hk',hcls]
 rw[if_neg (by decide)]
 obtain⟨m,hn,hl⟩:=id I1.loc
 have hm:(m n).isSome=true:=by
  obtain⟨u,_,q⟩:=hl i n .non hi (List.getElem?_set_self hiσ) (Or.inl hk)
  rcases q with⟨_,e⟩ | ⟨k,_⟩
  ·rw[e];rfl
  ·rw[hk'] at k
   rcases k with k | k <;> cases k
 refine wpAny_bind (wpAny_nsDel_keeps hn fun h' v hn' hs=>?_)
 simp only[hm,Bool.not_true,Bool.false_eq_true,if_false]
 refine wpAny_pure (wpAny_point (h _ ?_))
 obtain⟨oL,_,_,hoL,_⟩:=id hn
 refine⟨I1.ok,I1.os,I1.bare,⟨fun b o e n hb hx=>?_,fun b o e n hb hx=>?_,I1.base.free,fun b o e hx=>?_,I1.base.tups,I1.base.frzs,I1.base.tbls⟩,⟨_,hn',fun j y v' e1 e2 e3=>?_⟩,fun y c e=>?_,I1.free,I1.freeC,fun p hp=>?_,fun b ob e=>?_,by simpa using I.len⟩
 ·exact (hs.2 b (Nat.ne_of_lt (Nat.lt_of_lt_of_le (Heap.lt_size e) I.ok.above))).trans (I1.base.keep b o e n hb hx)
 ·obtain⟨sl,e1⟩:=I1.base.slot b o e n hb hx
  exact⟨sl,(hs.2 b (Nat.ne_of_lt (Nat.lt_of_lt_of_le (Heap.lt_size e) I.ok.above))).trans e1⟩
 ·obtain⟨o',e1⟩:=I1.base.there b o e hx
  exact⟨o',(hs.2 b (Nat.ne_of_lt (Nat.lt_of_lt_of_le (Heap.lt_size e) I.ok.above))).trans e1⟩
 ·by_cases hj:j=i
  ·subst hj
   rw[List.getElem?_set_self hiσ] at e2
   cases e2
  ·rw[List.getElem?_set_ne (Ne.symm hj)] at e2
   obtain⟨u',r',q⟩:=hl j y v' e1 (by rw[List.getElem?_set_ne (Ne.symm hj)];exact e2) e3
   refine⟨u',r',?_⟩
   rcases q with⟨k,e⟩ | ⟨k,c,e,z⟩
   ·refine .inl ⟨k,?_⟩
    have:y≠n:=fun e=>hj (nodup_ix hN e1 (e ▸ hi))
    simp[this,e]
   ·exact .inr ⟨k,c,e,z.sameBut hs (I1.cne y c e)⟩
 ·obtain⟨w',z⟩:=I1.cell y c e
  exact⟨w',z.sameBut hs (I1.cne y c e)⟩
 ·obtain⟨e,n,ne,nf,d⟩:=I1.pin p hp
  exact⟨(hs.2 p.1 ne).trans e,n,ne,nf,d⟩
 ·refine (I1.hok b ob e).stay (fun c w' hc q=>(hs.2 c ?_).trans q) (fun _ q=>q) fun _ _ q=>q
  rintro rfl
  rcases hc with rfl | hc
  ·rw[I1.free] at e;cases e
  ·rw[I1.free] at hc;cases hc
abbrev Cx.hand (X:Cx)(e:Addr):Cx:={ X with A:=X.A.mark (some (.ref e)),calm:=false,xe:=fun _ _=>False }
theorem Cx.Ok.hand (ok:X.Ok)(e:Addr):(X.hand e).Ok :=
 ⟨ok.mod,ok.kind,ok.glob,ok.blt,ok.above,ok.inj,ok.has,ok.cab,(fun h=>(by cases h)),ok.frames,ok.stk,ok.exf,ok.bs,ok.bsz,ok.noex,ok.exfs,ok.funs,ok.frf⟩
theorem Inv.hand (I:Inv X pins σ H s)(e:Addr):Inv (X.hand e) pins σ H s:=⟨I.ok.hand e,I.os,I.bare,I.base,I.loc,I.cell,I.free,I.freeC,I.pin,I.hok,I.len⟩
theorem Inv.unhand {e:Addr}(ok:X.Ok)(I:Inv (X.hand e) pins σ H s):Inv X pins σ H s:=⟨ok,I.os,I.bare,I.base,I.loc,I.cell,I.free,I.freeC,I.pin,I.hok,I.len⟩
end
def EShape (h:Heap)(C:Addr)(bm:List Value):Prop :=
 ∃ (nm q:Str) (N:Addr) (bs:List Value) (hdct:Bool) (sn:List Str) (sub:List Value) (ab:Bool) (col:Option Bool) (dd:Option Addr) (k0 k1 k2 k3 k5:Option Value) (newId:String),
  h.get? C=some (excClassObj nm q C N bs bm hdct sn sub ab col dd k0 k1 k2 k3 k5 newId)
theorem ExcCls.shape {h:Heap}{C:Addr}{bm:List Value}(x:ExcCls h C bm):EShape h C bm:=by
 obtain⟨nm,q,N,bs,hdct,sn,sub,ab,col,dd,k0,k1,k2,k3,k5,mN,h1,h2,h3,h4⟩:=x
 exact⟨nm,q,N,bs,hdct,sn,sub,ab,col,dd,k0,k1,k2,k3,k5,_,h1⟩
theorem EShape.keeps {h h':Heap}{C:Addr}{bm:List Value}(x:EShape h C bm)(k:∀ b o,h.get? b=some o→h'.get? b=some o):EShape h' C bm:=by
 obtain⟨nm,q,N,bs,hdct,sn,sub,ab,col,dd,k0,k1,k2,k3,k5,i,h1⟩:=x
 exact⟨nm,q,N,bs,hdct,sn,sub,ab,col,dd,k0,k1,k2,k3,k5,i,k _ _ h1⟩
section
variable {M:Model}{A:Around}{E:Value→Shared→Prop}{s:Shared}
theorem exc_matches {e C S:Addr}{oe:Obj}{bm bmS:List Value}{Q:Bool→Shared→Prop}(hC:EShape s.heap C bm)(hS:EShape s.heap S bmS)(he:s.heap.get? e=some oe)(hcls:oe.cls=.ref C)
  (hbase:bmS.contains (.type "BaseException")=true) (hq:Q ((Value.ref C::bm).contains (.ref S)) s):wpAny M A (excMatches (.ref e) (.ref S)) Q E s:=by
 obtain⟨hp,g,d,tk,os⟩:=s
 obtain⟨nm,q,N,bs,hdct,sn,sub,ab,col,dd,k0,k1,k2,k3,k5,i,h1⟩:=hC
 obtain⟨nm',q',N',bs',hdct',sn',sub',ab',col',dd',k0',k1',k2',k3',k5',i',h2⟩:=hS
 have hcB:(Value.ref S::bmS).contains (.type "BaseException")=true:=by rw[List.contains_cons,hbase,Bool.or_true]
 have f:=tc_notTuple
 unfold excMatches
 repeat (first | (with_reducible refine wpAny_loadPart_at he ?_;rw[hcls]) | with_reducible refine wpAny_loadPart_at h2 ?_ | (with_reducible refine wpAny_isSubtype_exc h2 ?_;rw[hcB]) | with_reducible refine wpAny_isSubtype_exc h1 ?_ | wp_step)
 cases hb:(Value.ref C::bm).contains (.ref S) <;> (rw[hb] at hq;wp_walk;exact hq)
end
end L2
namespace L2
open PySem PySem.Spec PyProof.Rows
def XP (X:Cx)(pins:List (Addr×Obj))(EX:St→XK)(ev:Value)(s':Shared):Prop:=∃ σ1 H1 s1,Inv X pins σ1 H1 s1∧CX1 X.prog X.w X.stack H1 s1 (EX σ1) ev s'
def PEx (X:Cx)(e:Expr)(t:TE)(EX:St→XK):Prop :=
 ∀ (pins:List (Addr×Obj)) (s:Shared) (σ:St) (H:Hp) (Q:VK),Inv X pins σ H s→t σ H Q→wpAny (model X.prog X.w) X.A (eval e X.env) (EP X pins σ Q) (XP X pins EX) s
def PSx (X:Cx)(st:Stmt)(t:TS)(EX:St→XK):Prop :=
 ∀ (pins:List (Addr×Obj)) (s:Shared) (σ:St) (H:Hp) (D:Ends),Inv X pins σ H s→t D σ H→wpAny (model X.prog X.w) X.A (exec st X.env) (SP X pins D) (XP X pins EX) s
def PSsx (X:Cx)(st:List Stmt)(t:TS)(EX:St→XK):Prop :=
 ∀ (pins:List (Addr×Obj)) (s:Shared) (σ:St) (H:Hp) (D:Ends),Inv X pins σ H s→t D σ H→wpAny (model X.prog X.w) X.A (execs st X.env) (SP X pins D) (XP X pins EX) s
section
variable {X:Cx}{EX:St→XK}{k:Nat}{f C:Addr}{fd:FuncData}{ps:List Str}{sp:Sp}{dvs:List V}{ds:List Value}{x m:Str}{p pos apos:Pos}{e o:Expr}{es:List Expr}{ta te:TE}{t:TA}{st:Stmt}{rest:List Stmt}{ts us:TS}
def tCallX (sp:Sp)(dvs:List V)(EX:St→XK)(t:TA):TE:=fun σ H Q=>t σ H fun vs H1=>sp (vs++dvs) H1 Q (EX σ)
theorem run_fnX {pins:List (Addr×Obj)}{σ:St}{H:Hp}{s:Shared}{Q:VK}{us:List Value}{vs:List V}(F:FnOk X.prog X.w X.K X.mg X.base (CX1 X.prog X.w) k f fd ps sp)(hr:Room k X.A)(hb:Binds X.K fd ps ds)(hd:Vals dvs ds)
  (I:Inv X pins σ H s) (r:Vals vs us) (h:sp (vs++dvs) H Q (EX σ)):wpAny (model X.prog X.w) X.A (call (.ref f) us) (EP X pins σ Q) (XP X pins EX) s:=by
 have r2:Vals (vs++dvs) (us++ds):=r.append hd
 have hl:(us++ds).length=ps.length:=by rw[← r2.length];exact F.len _ _ _ _ h
 refine wpAny_call (codeAny_mono (F.run X.A X.stack s H ⟨us,[]⟩ (us++ds) (vs++dvs) Q (EX σ) hr I.env0 (hb s us I.kIn hl) r2 h) fun r s' hq=>?_)
 cases r with
 | error e=>exact⟨σ,H,s,I,hq⟩
 | ok fl =>
  cases fl with
  | ret u=>exact I.after hq
  | next=>exact False.elim hq
  | brk=>exact False.elim hq
  | cont=>exact False.elim hq
theorem nox_mono {α:Type}{s:Shared}{M:Model}{A:Around}{c:Sem α}{Q Q':α→Shared→Prop}{E:Value→Shared→Prop}(h:wpAny M A c Q (fun _ _=>False) s)(k:∀ a s',Q a s'→Q' a s'):wpAny M A c Q' E s :=
 wpAny_mono h k fun _ _ z=>False.elim z
theorem pex_call (F:FnOk X.prog X.w X.K X.mg X.base (CX1 X.prog X.w) k f fd ps sp)(hr:Room k X.A)(hg:Gl X x)(hm:X.mg x=some (.ref f))(hk:PySem.W.keepIn X.K (.ref f)=true)(hb:Binds X.K fd ps ds)(hd:Vals dvs ds)
  (ha:PA X.nox (e::es) t) (hdb:(x == ("__debug__":Str))=false:=by decide) (he:starEach (e::es) X.env=(false,eval e X.env)::starEach es X.env:=by rfl) (hpl:(backTo pos (starEach es X.env)).any (·.1)=false:=by rfl) :
  PEx X (.Call (.Name x p) (e::es) [] pos) (tCallX sp dvs EX t) EX:=by
 intro pins s σ H Q I h
 refine wpAny_Call_Name_kw (ld_glob I hg hm ?_ hdb)
 refine PySem.W.callWith_K (h₀:=X.base) I.ok.mod.kin hk (nox_mono (ha pos pins s σ H _ (I.wish _) h) fun us s1 ⟨vs,H1,I1,r,q⟩=>⟨I1.unwish.kIn,?_⟩) he hpl
 exact run_fnX F hr hb hd I1.unwish r q
theorem psx_expr (he:PEx X e te EX)(hs:swapsWith e none pos.line X.env=pure false:=by rfl):PSx X (.Expr e pos) (tDrop te) EX:=by
 intro pins s σ H D I h
 exact wpAny_Expr_any (thn (he pins s σ H _ I h) fun v s1 ⟨x,H1,I1,r1,q1⟩=>⟨σ,H1,I1,q1⟩) I.quiet hs
theorem pssx_nil:PSsx X [] tNext EX:=fun _ _ σ H _ I h=>wpAny_execs_nil ⟨σ,H,I,h⟩
theorem pssx_cons (h1:PSx X st ts EX)(h2:PSsx X rest us EX):PSsx X (st::rest) (tSeq ts us) EX:=by
 intro pins s σ H D I h
 refine wpAny_execs_cons (thn (h1 pins s σ H { D with nx:=us D } I h) fun f s1 q=>?_)
 cases f with
 | next =>
  obtain⟨σ',H',I',q⟩:=q
  exact h2 pins s1 σ' H' D I' q
 | ret v=>exact q
 | brk=>exact q
 | cont=>exact q
theorem pssx_one (h1:PSx X st ts EX):PSsx X [st] ts EX:=by
 intro pins s σ H D I h
 refine wpAny_execs_cons (thn (h1 pins s σ H D I h) fun f s1 q=>?_)
 cases f with
 | next=>exact wpAny_execs_nil q
 | ret v=>exact q
 | brk=>exact q
 | cont=>exact q
theorem psx_if {c:Expr}{a b:List Stmt}{tc:TT}(hc:PT X.nox c tc)(ha:PSsx X a ts EX)(hb:PSsx X b us EX):PSx X (.If c a b pos) (tIfS tc ts us) EX:=by
 intro pins s σ H D I h
 refine wpAny_If (nox_mono (hc pins s σ H _ (I.wish _) h) fun d s1 ⟨H1,I1,q1⟩=>?_)
 cases d with
 | true=>exact ha pins s1 σ H1 D I1.unwish q1
 | false=>exact hb pins s1 σ H1 D I1.unwish q1
end
end L2
namespace L2
open PySem PySem.Spec PyProof.Rows
def excO (e C:Addr)(od:Option Addr):HO:=.ext fun h=>∃ oe vs,h.get? e=some oe∧oe.cls=.ref C∧oe.dict=od∧oe.data=.fields vs
theorem excO_ok {P:Program}{w:World}{H:Hp}{h:Heap}{e T C:Addr}{od:Option Addr}{fl:Value}(x:ExcT h e T (.ref C) od fl):ObjOk P w H h e (excO e C od):=by
 obtain⟨oe,vs,oT,ts,he,hc,ho,hd,_⟩:=x
 exact⟨⟨oe,vs,he,hc,ho,hd⟩,⟨oe,he⟩,fun h1 h2 ⟨oe,vs,q1,q2⟩ k=>⟨oe,vs,k _ q1,q2⟩⟩
theorem Un.track {fs:List Addr}{H0 H:Hp}{h0 h:Heap}{e:Addr}{o:HO}(u:Un fs [] H0 H h0 h)(he:h0.get? e=none)(ne:H e=none):Un fs [] H0 (upd H e o) h0 h where
 keep:=u.keep
 slot:=u.slot
 free:=fun b ob q n hx=>by
  rw[upd_ne (fun z=>by rw[z,he] at q;cases q)]
  exact u.free b ob q n hx
 there:=u.there
 tups:=fun b xs q=>by
  have:=u.tups b xs q
  rw[upd_ne (fun z=>by rw[z,ne] at this;cases this)]
  exact this
 frzs:=fun b ob v q=>by
  have:=u.frzs b ob v q
  rw[upd_ne (fun z=>by rw[z,ne] at this;cases this)]
  exact this
 tbls:=fun b ps q=>by
  obtain⟨more,this⟩:=u.tbls b ps q
  exact⟨more,by rw[upd_ne (fun z=>by rw[z,ne] at this;cases this)];exact this⟩
theorem HOk.track {P:Program}{w:World}{H:Hp}{h:Heap}{e:Addr}{o:HO}(x:HOk P w H h)(ne:H e=none)(new:ObjOk P w (upd H e o) h e o):HOk P w (upd H e o) h:=fun b u q=>by
 by_cases hb:b=e
 ·subst hb
  rw[upd_same] at q
  cases q
  exact new
 ·rw[upd_ne hb] at q
  exact (x b u q).stay (fun _ _ _ z=>z) (fun c z=>by rw[upd_ne (fun y=>by rw[y,ne] at z;cases z)];exact z) fun c xs z=>by rw[upd_ne (fun y=>by rw[y,ne] at z;cases z)];exact z
section
variable {X:Cx}{EX:St→XK}{x n:Str}{i:Nat}{S:Addr}{bmS:List Value}{body suite:List Stmt}{b₀:Stmt}{px hpos pos:Pos}{tb ts:TS}
def tTry (base:Heap)(i:Nat)(S:Addr)(tb:TS)(EX:St→XK)(ts:TS):TS:=fun D σ H=>tb D σ H ∧
 ∀ σ1 C od H',EX σ1 C od H'→∃ Ca bm,C=.ref Ca∧EShape base Ca bm∧(Value.ref Ca::bm).contains (.ref S)=true ∧
  ∀ e,H' e=none→ts { nx:=fun σ2 H2=>D.nx (σ2.set i none) H2,rt:=D.rt,bk:=fun σ2 H2=>D.bk (σ2.set i none) H2,ct:=fun σ2 H2=>D.ct (σ2.set i none) H2 } (σ1.set i (some (.ref e))) (upd H' e (excO e Ca od))
theorem ps_try (hN:X.N.Nodup)(hi:X.N[i]?=some n)(hk:X.env.scope.names.lookup n=some .local)(hst:X.stack=X.env::X.outer∧X.env.frame=some X.env.locals)(hg:Gl X x)(hm:X.mg x=some (.ref S))(hS:EShape X.base S bmS)(hb:bmS.contains (.type "BaseException")=true)
  (hbody:PSsx X body tb EX) (hsuite:∀ e,PSs (X.hand e) (b₀::suite) ts) (hd:(x == ("__debug__":Str))=false:=by decide) :
  PS X (.Try body [.ExceptHandler (some (.Name x px)) (some n) (b₀::suite) hpos] [] [] pos) (tTry X.base i S tb EX ts):=by
 intro pins s σ H D I ⟨h1,h2⟩
 refine wpAny_Try_except (wpAny_mono (hbody pins s σ H D I h1) (fun f s1 q=>?_) fun ev s1 q=>?_)
 ·cases f with
  | next=>exact wpAny_execs_nil q
  | ret v=>exact q
  | brk=>exact q
  | cont=>exact q
 obtain⟨σ1,H1,s0,I0,e,T,C,od,H',rfl,he,hT,x0,ne,nT,ho,hbare,un,hok,q⟩:=q
 obtain⟨Ca,bm,rfl,hC,hin,hr⟩:=h2 σ1 C od H' q
 have J:Inv X pins σ1 H' s1:=I0.call' (ch:=[]) ho un hok hbare (fun b z=>absurd z (by simp))
 have fr:=J.ok.frames
 have stk:=J.stack
 have sf:=J.stkFree
 rw[hst.1] at fr stk sf un
 refine note_next fr stk hst.2 x0 fun ha T' n1 x1 f1=>?_
 have nT':H' T'=none:=HOk.none_of hok f1
 have oT':s0.heap.get? T'=none:=by
  cases q:s0.heap.get? T' with
  | none=>rfl
  | some o =>
   obtain⟨o',e1⟩:=un.there T' o q (by simp)
   rw[f1] at e1
   cases e1
 refine flight_none (fs:=frs (X.env::X.outer)) x1 fun hb2 n2 x2=>?_
 have old:∀ b,b∈([T,e]++[T']:List Addr)∨b∈(([T,e]++[T'])++[T']:List Addr)→s0.heap.get? b=none∧H' b=none:=fun b hb=>by
  have:b=T∨b=e∨b=T':=by
   rcases hb with hb | hb
   ·simp only[List.mem_append,List.mem_cons,List.not_mem_nil,or_false] at hb
    rcases hb with (hb | hb) | hb
    ·exact .inl hb
    ·exact .inr (.inl hb)
    ·exact .inr (.inr hb)
   ·simp only[List.mem_append,List.mem_cons,List.not_mem_nil,or_false] at hb
    rcases hb with ((hb | hb) | hb) | hb
    ·exact .inl hb
    ·exact .inr (.inl hb)
    ·exact .inr (.inr hb)
    ·exact .inr (.inr hb)
  rcases this with rfl | rfl | rfl
  ·exact⟨hT,nT⟩
  ·exact⟨he,ne⟩
  ·exact⟨oT',nT'⟩
 have n12:=n1.trans n2
 have J2:Inv X pins σ1 H' { s1 with heap:=hb2 }:=I0.call' (ch:=[]) ho (by rw[hst.1];exact Un.noted un (fun b hb=>(old b (.inl hb)).1) n12) (HOk.noted hok sf (fun b hb=>(old b (.inl hb)).2) n12) hbare (fun b z=>absurd z (by simp))
 refine wpAny_handleBy_cons (codeAny_handlers_test ?_) (by intro q;cases q)
 refine ld_glob (J2.hand e) hg hm ?_ hd
 obtain⟨oe,vs,oT,ts',xe,xc,_⟩:=id x2
 refine exc_matches (C:=Ca) (bm:=bm) (bmS:=bmS) (hC.keeps J2.bk) (hS.keeps J2.bk) xe xc hb ?_
 rw[hin]
 refine codeAny_handlers_suite_as ?_
 refine flight_none (fs:=frs (X.env::X.outer)) x2 fun hc2 n3 x3=>?_
 have n123:=n12.trans n3
 have J3:Inv X pins σ1 (upd H' e (excO e Ca od)) { s1 with heap:=hc2 }:=I0.call' (ch:=[]) ho (by rw[hst.1];exact Un.track (Un.noted un (fun b hb=>(old b (.inr hb)).1) n123) he ne)
  (HOk.track (HOk.noted hok sf (fun b hb=>(old b (.inr hb)).2) n123) ne (excO_ok x3)) hbare (fun b z=>absurd z (by simp))
 refine store_ok J3 hN hi (Or.inl hk) (v:=.ref e) rfl (fun s4 I4=>?_) (.inr hk)
 refine wpAny_mono (hsuite e pins s4 _ _ _ (I4.hand e) (hr e ne)) (fun fl s5 q5=>?_) fun _ _ z=>False.elim z
 cases fl with
 | next =>
  obtain⟨σ2,H2,I5,q5⟩:=q5
  exact name_goes (I5.unhand J.ok) hN hi hk fun s6 I6=>⟨_,H2,I6,q5⟩
 | brk =>
  obtain⟨σ2,H2,I5,q5⟩:=q5
  exact name_goes (I5.unhand J.ok) hN hi hk fun s6 I6=>⟨_,H2,I6,q5⟩
 | cont =>
  obtain⟨σ2,H2,I5,q5⟩:=q5
  exact name_goes (I5.unhand J.ok) hN hi hk fun s6 I6=>⟨_,H2,I6,q5⟩
 | ret u =>
  obtain⟨v,σ2,H2,I5,r5,q5⟩:=q5
  exact name_goes (I5.unhand J.ok) hN hi hk fun s6 I6=>⟨v,_,H2,I6,r5,q5⟩
end
end L2
namespace L2
open PySem PySem.Spec PyProof.Rows PySem.W
section
variable {prog:Program}{w:World}{A:Around}{E:Value→Shared→Prop}{s:Shared}{K:PySem.W.Frag}{x D:Addr}{ox:Obj}{odo:Option Obj}
theorem exc_class {Q:Option Value→Shared→Prop}(X:K.In s.heap)(I:PySem.W.InstAt s.heap x ox D odo)(hga:findIn K (.ref D) "__getattribute__"=some (some (.builtin "BaseException.__getattribute__")))(hgt:findIn K (.ref D) "__getattr__"=some none)
  (ha:findIn K (.ref D) "__class__"=some (some (.builtin "object.__class__"))) (hn:specialIn K (.builtin "object.__class__") "__get__"=some (some (.builtin "getset_descriptor.__get__"))) (htk:takesIn K (.builtin "object.__class__")=some true)
  (hm:mroIn K D (.type "object")=some true) (hfo:findObj K D odo "__class__"=some (.bind (.builtin "getset_descriptor.__get__") (.builtin "object.__class__"))) (hm2:mroIn K D (.type "BaseException")=some true) (h:Q (some (.ref D)) { s with toks:=s.toks+1 }):wpAny (model prog w) A (getAttr? (.ref x) "__class__") Q E s:=by
 obtain⟨hh,g,d,t,os⟩:=s
 have L0:=I.type (M:=model prog w)
 have L1:=looks_findIn (M:=model prog w) X hga
 have L2:=looks_findIn (M:=model prog w) X hgt
 unfold getAttr? getAttrBy? getAttrBy
 refine wpAny_bind (wpAny_mkText (wpAny_bind (wpAny_attempt (wpAny_holding (wpAny_bind (L0.at (wpAny_bind (L1.at ?_))))))))
 have hx2:(Value.builtin "BaseException.__getattribute__" == Value.builtin "object.__getattribute__")=false:=by decide +kernel
 have f3:=F.attrBase_ValueError.ga.bind (.ref x)
 show wpAny _ _ (if (onTheHeap (Value.ref D) && Value.builtin "BaseException.__getattribute__" == Value.builtin "object.__getattribute__")=true then _ else _) _ _ _
 rw[hx2,Bool.and_false,if_neg Bool.false_ne_true]
 unfold getAttrByItsOwn hookBefore
 have hf:findObj K D odo "__class__"=some (.bind (.builtin "getset_descriptor.__get__") (.builtin "object.__class__")):=hfo
 have L3:=looks_find (M:=model prog w) X I hf
 have L4:=looks_mroIn (M:=model prog w) X hm2
 have ha2:=F.args_bexc_ga (.ref x) (.str "__class__" t)
 have hk:builtinKind "BaseException.__getattribute__"=some .slot:=by decide +kernel
 have hsplit:splitId "BaseException.__getattribute__"=some ("BaseException","__getattribute__"):=by decide +kernel
 refine wpAny_bind (L2.at ?_)
 refine wpAny_bind (wpAny_attempt (wpAny_holding ?_))
 unfold callGetattribute boundAndCalled
 rw[if_neg (by simp)]
 refine wpAny_bind (wpAny_of_eq f3 ?_)
 refine wpAny_call (codeAny_call_builtin F.attrBase_ValueError.ga.plain F.entry_bexc_ga ?_)
 simp only[checkBuiltinCall,hk,hsplit]
 refine wpAny_bind ?_
 unfold isInstance
 refine wpAny_bind (L0.at (L4.at ?_))
 repeat (first | assumption | wp_step)
 refine wpAny_loadPart I.at_ (wpAny_pure ?_)
 rw[I.cls]
 refine wpAny_bind (L3.at ?_)
 show wpAny _ _ (holding [Value.builtin "object.__class__"] (call (.builtin "getset_descriptor.__get__") [Value.builtin "object.__class__",.ref x,.ref D]) >>= ret) _ _ _
 refine wpAny_bind (wpAny_holding (wpAny_call (class_get (ox:=ox) (od:=odo) X I hm ?_)))
 refine wpAny_pure ?_
 show wpAny _ _ (handedOut (Value.ref D)) _ _ _
 exact wpAny_pure (wpAny_pure h)
end
structure ExcIn (K:PySem.W.Frag)(D:Addr):Prop where
 ga:findIn K (.ref D) "__getattribute__"=some (some (.builtin "BaseException.__getattribute__"))
 gt:findIn K (.ref D) "__getattr__"=some none
 cls:(clsIn K D).isSome=true
 at_:findIn K (.ref D) "__class__"=some (some (.builtin "object.__class__"))
 get:specialIn K (.builtin "object.__class__") "__get__"=some (some (.builtin "getset_descriptor.__get__"))
 tk:takesIn K (.builtin "object.__class__")=some true
 obj:mroIn K D (.type "object")=some true
 exc:mroIn K D (.type "BaseException")=some true
theorem ExcIn.found {K:PySem.W.Frag}{D:Addr}(F:ExcIn K D)(odo:Option Obj):findObj K D odo "__class__"=some (.bind (.builtin "getset_descriptor.__get__") (.builtin "object.__class__")):=by
 obtain⟨cd,hc⟩:=Option.isSome_iff_exists.mp F.cls
 unfold findObj
 rw[hc,Option.bind_some,F.at_,Option.bind_some]
 simp[F.get,F.tk]
theorem kitx_exc {K:PySem.W.Frag}{x D:Addr}(F:ExcIn K D):KitX K (.ref x) (.ref D) (fun h=>∃ ox odo,PySem.W.InstAt h x ox D odo) where
 ty:=fun _ _ _ ⟨_,_,I⟩=>I.type
 it:=fun _ _ X _=>by
  obtain⟨cdD,hcD⟩:=Option.isSome_iff_exists.mp F.cls
  unfold clsIn at hcD
  split at hcD
  ·rename_i c' d' cd' sl' ho
   intro A' Q' E' s' k q
   unfold isType loadHead
   exact wpAny_bind (wpAny_loadPart (k _ _ (X _ _ ho)) (wpAny_pure q))
  ·cases hcD
 ne:=fun h tp dd its n sl X htp=>by
  obtain⟨cdD,hcD⟩:=Option.isSome_iff_exists.mp F.cls
  refine Bool.eq_false_iff.mpr fun q=>?_
  have e:D=tp:=Value.ref.inj (beq_iff_eq.mp q)
  subst e
  unfold clsIn at hcD
  split at hcD
  ·rename_i c' d' cd' sl' ho
   have z:=(X _ _ ho).symm.trans htp
   cases z
  ·cases hcD
 ca:=fun X ⟨_,odo,I⟩ k=>exc_class X I F.ga F.gt F.at_ F.get F.tk F.obj (F.found odo) F.exc k
section
variable {X:Cx}{pins:List (Addr×Obj)}{σ:St}{H:Hp}{s:Shared}{A:Around}{E:Value→Shared→Prop}{Q:Value→Shared→Prop}{c:Value}{b:Bool}
theorem isinst_exc {e D:Addr}{od:Option Addr}(I:Inv X pins σ H s)(ea:H e=some (excO e D od))(hod:od=none∨∃ dx fs,od=some dx∧H dx=some (.xd fs))(F:ExcIn X.K D)(k:PySem.W.kitOne X.K (.ref D) c=some b)(h:∀ tk,Q (.bool b) { s with toks:=tk }) :
  wpAny (model X.prog X.w) A (call (.builtin "isinstance") [.ref e,c]) Q E s:=by
 obtain⟨⟨oe,vs,h1,h2,h3,h4⟩,_,_⟩:=I.hok e _ ea
 refine PySem.W.kia_one (kitx_exc F) I.kIn ?_ k (fun z=>nomatch z) h
 rcases hod with rfl | ⟨dx,fs,rfl,hx⟩
 ·exact⟨oe,none,h1,h2,by unfold notCls;rw[h4],by rw[h3];trivial⟩
 ·obtain⟨od,e1⟩:=(I.hok dx _ hx).there
  exact⟨oe,some od,h1,h2,by unfold notCls;rw[h4],by rw[h3];exact e1⟩
end
end L2
namespace L2
open PySem PySem.Spec PyProof.Rows
section
variable {X:Cx}
def clsV:V→Option Value
 | .ty T=>some (.type T)
 | .ref C=>some (.ref C)
 | _=>none
def rIsX (K:PySem.W.Frag):List V→Hp→VK→Prop:=fun xs H Q=>∃ e D od c cv b,xs=[.ref e,c]∧clsV c=some cv∧H e=some (excO e D od)∧(od=none∨∃ dx fs,od=some dx∧H dx=some (.xd fs))∧ExcIn K D∧PySem.W.kitOne K (.ref D) cv=some b∧Q (.bl b) H
theorem call_isX:CallR X (.builtin "isinstance") (rIsX X.K):=by
 intro pins s σ H xs us Q I r h
 obtain⟨e,D,od,c,cv,b,rfl,hc,ea,hod,F,k,q⟩:=h
 obtain⟨u,w,rfl,rx,rT⟩:=Vals.two r
 cases (show u=Value.ref e from rx)
 have hw:w=cv:=by
  cases c with
  | ty T=>cases (show w=Value.type T from rT);exact Option.some.inj hc
  | ref C=>cases (show w=Value.ref C from rT);exact Option.some.inj hc
  | _=>cases hc
 subst hw
 exact isinst_exc I ea hod F k fun tk=>⟨.bl b,H,I.tok tk,rfl,q⟩
end
abbrev calmA (A:Around):Around:={ A with handled:=none }
structure FnOkM (P:Program)(w:World)(K:PySem.W.Frag)(mg:Str→Option Value)(base:Heap)(k:Nat)(f:Addr)(fd:FuncData)(ps:List Str)(sp:Sp):Prop where
 len:∀ vs H Q E,sp vs H Q E→vs.length=ps.length
 run:∀ (A:Around) (outer:List Env) (s:Shared) (H:Hp) (args:Args) (us:List Value) (vs:List V) (Q:VK) (E:XK),Room k (calmA A)→Env0 P w K mg base A outer s H→BindsTo s fd args (ps.zip us)→Vals vs us→sp vs H Q E →
  codeAny (model P w) A (.call (.ref f) args) (CR CX0 outer P w H s Q E) s
def cxM (P:Program)(w:World)(K:PySem.W.Frag)(mg:Str→Option Value)(base:Heap)(N:List Str)(qual:Str)(scope:Scope)(f:Addr)(cd:Value)(A:Around)(outer:List Env)(s:Shared)(H:Hp):Cx :=
 { cxOf CX0 P w K mg base N qual scope f cd A outer s H E0 with calm:=false,xe:=fun _ _=>False }
section
variable {P:Program}{w:World}{K:PySem.W.Frag}{mg:Str→Option Value}{base:Heap}{k:Nat}{f:Addr}{fd:FuncData}{ps:List Str}{sp:Sp}
theorem FnOkM.ok {CX:CXT}(F:FnOkM P w K mg base k f fd ps sp):FnOk P w K mg base CX k f fd ps sp :=
 FnOk.calm ⟨F.len,fun A outer s H args us vs Q E hr=>F.run A outer s H args us vs Q E ⟨rfl,hr.dp,hr.un⟩⟩
theorem Fun.okM {x qual:Str}{st:Stmt}{N:List Str}(F:Fun K x qual st f fd)(S:FnScope N ps (defScope st))(len:∀ vs H Q E,sp vs H Q E→vs.length=ps.length)
  (hbody:∀ (cdv:Value) (A:Around) (outer:List Env) (s:Shared) (H:Hp) (vs:List V) (Q:VK) (E:XK),Room k (calmA (A.deeper (envOfC qual (defScope st) s.heap.objs.size f cdv)))→sp vs H Q E →
   ∃ t,PSs (cxM P w K mg base N qual (defScope st) f cdv A outer s H) (defBody st) t∧t { nx:=fun _ H'=>Q .non H',rt:=Q } (start N vs) H):FnOkM P w K mg base (k+1) f fd ps sp:=by
 obtain⟨oc,od,kV,doc,pm,an,cdv,ct,osl,rfl,lk,hcd⟩:=F.ex
 refine⟨len,fun A outer s H args us vs Q E hr e0 hb r hsp=>?_⟩
 have hl:=len _ _ _ _ hsp
 have KX:K.In s.heap:=e0.mod.kin.keeps fun b o e=>(e0.bs b o e).1
 have lim:s.heap.NoLimit:=e0.mod.nolimit.keeps fun b o e=>(e0.bs b o e).1
 have hkind:∀ y∈ps.zip us,(defScope st).names.lookup y.1=some .local∨((defScope st).names.lookup y.1=some .cell∧((cellsFrom (s.heap.objs.size+1) (defScope st).names []).lookup y.1).isSome=true):=fun ⟨n,v⟩ hy=>by
  rcases S.par n (List.of_mem_zip hy).1 with q | q
  ·exact .inl q
  ·exact .inr ⟨q,PySem.W.cellsFrom_some _ _ _ (.inl q)⟩
 have hdep:A.depth<recursionLimit:=hr.depth
 refine codeAny_call_function hdep (KX _ _ lk) rfl S.co S.gen rfl (PySem.W.codeRec_of KX hcd) (hb _ _ _ _ ?_)
 refine wpAny_newFunctionEnv_cells S.kind hkind fun env he s1 x=>?_
 subst he
 refine⟨lim.keeps x.toInCall.keep,codeAny_func ?_⟩
 have hr':Room k (calmA (A.deeper (envOfC qual (defScope st) s.heap.objs.size f cdv))):=hr.deeper (envOfC qual (defScope st) s.heap.objs.size f cdv)
 obtain⟨t,ht,hq⟩:=hbody cdv A outer s H vs Q E hr' hsp
 have e1:Env0 P w K mg base (calmA A) outer s H:=⟨e0.frames,e0.mod,e0.bs,e0.bsz,e0.funs,e0.frf,e0.hok,e0.bare⟩
 have I0:Inv (cxOf CX0 P w K mg base N qual (defScope st) f cdv (calmA A) outer s H E0) [] (start N vs) H s1:=inv_start S rfl e1 hl r x
 have ok:=I0.ok
 have I:Inv (cxM P w K mg base N qual (defScope st) f cdv A outer s H) [] (start N vs) H s1 :=
  ⟨⟨ok.mod,ok.kind,ok.glob,ok.blt,ok.above,ok.inj,ok.has,ok.cab,(fun h=>(by cases h)),ok.frames,ok.stk,ok.exf,ok.bs,ok.bsz,ok.noex,ok.exfs,ok.funs,ok.frf⟩,I0.os,I0.bare,I0.base,I0.loc,I0.cell,I0.free,I0.freeC,I0.pin,I0.hok,I0.len⟩
 refine wpAny_mono (ht [] s1 (start N vs) H _ I hq) (fun fl s' hs=>?_) fun e s' hs=>False.elim hs
 have fin:∀ {σ':St}{H':Hp}{v:V}{u:Value},Inv (cxM P w K mg base N qual (defScope st) f cdv A outer s H) [] σ' H' s'→RelV v u→Q v H'→CE outer P w H s Q u s' :=
  fun {σ' H' v u} J rv q=>⟨v,H',J.os,J.bare,J.base,J.hok,rv,q⟩
 cases fl with
 | ret u =>
  obtain⟨v,σ',H',J,rv,q⟩:=hs
  exact fin J rv q
 | next =>
  obtain⟨σ',H',J,q⟩:=hs
  exact fin (v:=V.non) (u:=Value.none) J rfl q
 | brk =>
  obtain⟨_,_,_,q⟩:=hs
  exact False.elim q
 | cont =>
  obtain⟨_,_,_,q⟩:=hs
  exact False.elim q
end
section
variable {X:Cx}{k:Nat}{f:Addr}{fd:FuncData}{ps:List Str}{sp:Sp}{dvs:List V}{ds:List Value}{x:Str}{p pos:Pos}{e:Expr}{es:List Expr}{t:TA}
theorem pe_callM (F:FnOkM X.prog X.w X.K X.mg X.base k f fd ps sp)(hr:Room k (calmA X.A))(hg:Gl X x)(hm:X.mg x=some (.ref f))(hk:PySem.W.keepIn X.K (.ref f)=true)(hb:Binds X.K fd ps ds)(hd:Vals dvs ds)
  (ha:PA X (e::es) t) (hdb:(x == ("__debug__":Str))=false:=by decide) (he:starEach (e::es) X.env=(false,eval e X.env)::starEach es X.env:=by rfl) (hpl:(backTo pos (starEach es X.env)).any (·.1)=false:=by rfl) :
  PE X (.Call (.Name x p) (e::es) [] pos) (tCall sp dvs E0 t):=by
 intro pins s σ H Q I h
 refine wpAny_Call_Name_kw (ld_glob I hg hm ?_ hdb)
 refine PySem.W.callWith_K (h₀:=X.base) I.ok.mod.kin hk (thn (ha pos pins s σ H _ I h) fun us s1 ⟨vs,H1,I1,r,q⟩=>⟨I1.kIn,?_⟩) he hpl
 have r2:Vals (vs++dvs) (us++ds):=r.append hd
 have hl:(us++ds).length=ps.length:=by rw[← r2.length];exact F.len _ _ _ _ q
 refine wpAny_call (codeAny_mono (F.run X.A X.stack s1 H1 ⟨us,[]⟩ (us++ds) (vs++dvs) Q E0 hr I1.env0 (hb s1 us I1.kIn hl) r2 q) fun r s' hq=>?_)
 cases r with
 | error e=>exact False.elim hq
 | ok fl =>
  cases fl with
  | ret u=>exact I1.after hq
  | next=>exact False.elim hq
  | brk=>exact False.elim hq
  | cont=>exact False.elim hq
end
end L2
namespace L2
open PySem PySem.Spec PyProof.Rows PySem.W
abbrev bmV:List Value:=[.type "ValueError",.type "Exception",.type "BaseException",.type "object"]
end L2
namespace L2
open PySem PySem.Spec PyProof.Rows
section
variable {X:Cx}
def rCount:V→List V→Hp→VK→Prop:=fun x vs H Q=>∃ a b:Str,x=.str a∧vs=[.str b]∧Q (.int (Txt.count a b)) H
theorem mt_count:MtR X "str.count" rCount:=by
 intro pins s σ H x xs v us Q I rx rs h
 obtain⟨a,b,rfl,rfl,q⟩:=h
 obtain⟨t,rfl⟩:=rx
 obtain⟨u,rfl,ru⟩:=Vals.one rs
 obtain⟨t2,rfl⟩:=ru
 exact SC.count ⟨.int (Txt.count a b),H,I.tok _,⟨_,rfl⟩,q⟩
def rIns0:V→List V→Hp→VK→Prop:=fun x vs H Q=>∃ l xs y,x=.ref l∧vs=[.int 0,y]∧H l=some (.lst xs)∧xs.length<sizeLine∧Q .non (upd H l (.lst (y::xs)))
theorem mt_ins0:MtM X "list.insert" rIns0:=by
 intro pins s σ H x vs v us Q I rx rv h
 obtain⟨l,xs,y,rfl,rfl,hH,hz,q⟩:=h
 cases rx
 obtain⟨u0,u,rfl,r0,ru⟩:=rv.two
 obtain⟨t,rfl⟩:=r0
 obtain⟨z,its,n,r,hl,e⟩:=I.lstM hH
 refine call_meets F.slot_list_insert ⟨_,e,rfl⟩ F.entry_list_insert (F.args_list_insert_3 _ _ _) (AutoSeq1.list_insert_list_int_val_1 l its.toArray n 0 t u (by decide) (by rw[List.size_toArray];omega)) ⟨e,?_⟩
 refine⟨.non,_,I.lset (its':=u::its) hH e ?_ (.cons ru r) ?_,rfl,q⟩
 ·simp
 ·rw[List.length_cons]
  omega
def IteS (z:Str):It :=
 ⟨fun i _=>i<z.cps.size,fun i H x H'=>∃ t c,H t=none∧x=.ref t∧H'=upd H t (.tup [.int i,.str ⟨#[c]⟩])∧z.cps[i]?=some c,fun i _=>z.cps.size≤i⟩
theorem turn_enumS {P:Program}{w:World}{K:PySem.W.Frag}{elts:List Expr}{k1:Nat}{tp:Pos}{z:Str}{tz:Tok}{ty:String}(e it:Addr)(hne:e≠it)
  (D:∀ A:Around,A.handled=none→Draws P w A it [it] z.cps.size (fun i v=>∃ c u,z.cps[i]?=some c∧v=.str ⟨#[c]⟩ u) (fun i h=>h.IsStrIter it ty z tz i)) :
  Turn P w K (.Tuple elts k1 tp) (IteS z) [e,it] e (fun i h=>i≤z.cps.size∧(∃ old,IsEnum h e it ((i:Nat):Int) old)∧h.IsStrIter it ty z tz i) where
 mem:=by simp
 obj:=fun i h st b hb=>by
  obtain⟨_,⟨old,h1⟩,o,h2,_,h3⟩:=st
  rcases List.mem_cons.mp hb with rfl | hb
  ·exact⟨_,h1,fun v z=>by cases z⟩
  ·have e2:b=it:=by simpa using hb
   subst e2
   exact⟨o,h2,fun v z=>by rw[h3] at z;cases z⟩
 keep:=fun i h h' st k=>by
  obtain⟨hi,⟨old,h1⟩,o,h2,h3⟩:=st
  exact⟨hi,⟨old,k e (by simp) _ h1⟩,o,k it (by simp) o h2,h3⟩
 item:=by
  intro X hP hw hK hc i pins s σ H E I hf st hg
  subst hP hw hK
  obtain⟨hi,⟨old,he⟩,hit⟩:=st
  have fe:=hf e (by simp)
  have fi:=hf it (by simp)
  refine wpAny_pyNext_enum_itemD (D X.A.in1 (I.ok.hd hc)) he hit hg hne (by simpa using hne) fun u h1 tk hP eo hit1 tup hs1 kp=>⟨_,rfl,?_⟩
  obtain⟨c,t0,hcz,rfl⟩:=hP
  refine wpAny_letOwnedTupleGo_enum eo fun h2 he2 sb=>?_
  have lte:=Heap.lt_size he
  have ne2:s.heap.objs.size≠e:=Nat.ne_of_gt lte
  have tup2:h2.get? s.heap.objs.size=some { cls:=.type "tuple",data:=.seq #[.int i tk,.str ⟨#[c]⟩ t0] }:=sb.extBut _ _ ne2 tup
  have kp2:∀ b o,b≠e→b≠it→s.heap.get? b=some o→h2.get? b=some o:=fun b o z1 z2 q=>sb.extBut b o z1 (kp b o z1 z2 q)
  have hfr:H s.heap.objs.size=none:=I.hok.fresh (Nat.le_refl _)
  have nt:∀ b o,H b=some o→b≠e∧b≠it:=fun b o q=>⟨fun z=>(by rw[z,fe.1] at q;cases q),fun z=>(by rw[z,fi.1] at q;cases q)⟩
  have hok2:HOk X.prog X.w (upd H s.heap.objs.size (.tup [.int i,.str ⟨#[c]⟩])) h2:=fun b o q=>by
   by_cases hb:b=s.heap.objs.size
   ·subst hb
    rw[upd_same] at q
    cases q
    have l2:(2:Nat)≤sizeLine:=by rw[sizeLine_eq];decide
    exact⟨l2,[.int i tk,.str ⟨#[c]⟩ t0],.cons ⟨_,rfl⟩ (.cons ⟨_,rfl⟩ .nil),⟨_,tup2,rfl,_,rfl⟩⟩
   ·rw[upd_ne hb] at q
    refine (I.hok b o q).stay (fun c v hc z=>?_) (fun c z=>by rw[upd_ne (ne_of_none z hfr)];exact z) fun c ys z=>by rw[upd_ne (ne_of_none z hfr)];exact z
    rcases hc with hc | hc
    ·subst hc
     exact kp2 c v (nt c _ q).1 (nt c _ q).2 z
    ·exact kp2 c v (nt c _ hc).1 (nt c _ hc).2 z
  have I2:Inv X pins σ (upd H s.heap.objs.size (.tup [.int i,.str ⟨#[c]⟩])) { s with heap:=h2,toks:=tk+1 }:=by
   refine I.step (g':=s.gens) (d':=s.drawn) (t':=tk+1) (ch:=[e,it]) (fun b hb=>?_) (fun b o _ _ hc q _=>kp2 b o (fun z=>hc (by simp[z])) (fun z=>hc (by simp[z])) q)
    (fun b o _ _ hc q _=>⟨o.slots,kp2 b o (fun z=>hc (by simp[z])) (fun z=>hc (by simp[z])) q⟩) (fun b o _ q n=>by rw[upd_ne (Nat.ne_of_lt (Heap.lt_size q))];exact n)
    (fun b o hc q=>⟨o,kp2 b o (fun z=>hc (by simp[z])) (fun z=>hc (by simp[z])) q⟩) (fun b ys q=>by rw[upd_ne (ne_of_none q hfr)];exact q) (fun b o u q=>by rw[upd_ne (ne_of_none q hfr)];exact q)
    (fun b ps q=>⟨#[],by rw[upd_ne (ne_of_none q hfr),q];simp⟩) (fun m hm=>?_) hok2 I.bare
   ·rcases List.mem_cons.mp hb with rfl | hb
    ·exact⟨fe.2.2.2.1,fe.2.1,fe.2.2.2.2.1,fe.2.2.2.2.2⟩
    ·have e2:b=it:=by simpa using hb
     subst e2
     exact⟨fi.2.2.2.1,fi.2.1,fi.2.2.2.2.1,fi.2.2.2.2.2⟩
   ·obtain⟨o,es,ep,ho,r⟩:=hm
    exact⟨o,es,ep,kp2 _ o (Ne.symm fe.2.1) (Ne.symm fi.2.1) ho,r⟩
  refine⟨.ref s.heap.objs.size,_,I2,rfl,⟨_,c,hfr,rfl,rfl,hcz⟩,⟨hg,⟨.str ⟨#[c]⟩ t0,?_⟩,?_⟩,fun b hb=>?_⟩
  ·have:=he2
   rw[show ((i:Nat):Int)+1=((i+1:Nat):Int) by omega] at this
   exact this
  ·obtain⟨o,h1,h2'⟩:=hit1
   exact⟨o,sb.extBut _ _ (Ne.symm hne) h1,h2'⟩
  ·have hb0:=(hf b hb).1
   have:b≠s.heap.objs.size:=by
    rcases List.mem_cons.mp hb with rfl | hb
    ·exact Ne.symm ne2
    ·have e2:b=it:=by simpa using hb
     subst e2
     obtain⟨o,h1,_⟩:=hit
     exact Nat.ne_of_lt (Heap.lt_size h1)
   rw[upd_ne this]
   exact hb0
 done:=by
  intro X hP hw hK hc i pins s σ H E I hf st hg
  subst hP hw hK
  obtain⟨hi,⟨old,he⟩,hit⟩:=st
  obtain⟨f0,f1,f2,f3,f4,f5⟩:=hf it (by simp)
  have ei:i=z.cps.size:=Nat.le_antisymm hi hg
  subst ei
  exact wpAny_pyNext_enum_endD (D X.A.in1 (I.ok.hd hc)) he hit fun h' eb=>⟨rfl,I.turned (t':=s.toks) (fun b o hb e=>eb b o hb e) f0 f1 f3 f4 f5⟩
 self:=fun A i s Q E st h=>by
  obtain⟨_,⟨old,he⟩,_⟩:=st
  exact wpAny_pyIter_enum he h
def iEnumS (ta:TA):TI:=fun σ H R=>ta σ H fun vs H1=>∃ z:Str,vs=[.str z]∧R (IteS z) H1
theorem pi_enumS {elts:List Expr}{k1:Nat}{tp:Pos}{l:Expr}{ta:TA}{p pos:Pos}(hg:Gl X "enumerate")(hm:X.mg "enumerate"=none)(ha:PA X [l] ta)(hs:starEach [l] X.env=[(false,eval l X.env)]:=by rfl) :
  PI X (.Tuple elts k1 tp) (.Call (.Name "enumerate" p) [l] [] pos) (iEnumS ta):=by
 intro pins s σ H R I h
 refine Call_ (ld_blt I hg hm boot_enumerate (PyProof.Rows.callWith_type1 (thn (ha pos pins s σ H _ I h) fun us s1 ⟨vs,H1,I1,r1,q1⟩=>?_) hs rfl))
 obtain⟨z,e,q⟩:=q1
 subst e
 obtain⟨u,rfl,rl⟩:=Vals.one r1
 obtain⟨tz,rfl⟩:=rl
 refine call_enumerate_str fun h' he hit hsz kp=>?_
 refine wpAny_pyIter_enum he ?_
 have I2:Inv X pins σ H1 { s1 with heap:=h' }:=I1.kept (t':=s1.toks) kp
 have D:∀ A:Around,A.handled=none→Draws X.prog X.w A s1.heap.objs.size [s1.heap.objs.size] z.cps.size (fun i v=>∃ c u,z.cps[i]?=some c∧v=.str ⟨#[c]⟩ u) (fun i h=>h.IsStrIter s1.heap.objs.size (strIterType z) z tz i):=fun A hh=>by
  unfold strIterType
  split
  ·exact Draws.strAscii hh _ z tz
  ·exact Draws.strWide hh _ z tz
 refine⟨s1.heap.objs.size+1,[s1.heap.objs.size+1,s1.heap.objs.size],_,_,H1,rfl,I2,turn_enumS _ _ (Nat.succ_ne_self _) D,⟨Nat.zero_le _,⟨_,he⟩,hit⟩,fun b hb=>?_,q⟩
 rcases List.mem_cons.mp hb with rfl | hb
 ·exact I1.fpOk (Nat.le_succ _) (I1.hok.fresh (Nat.le_succ _))
 ·have e2:b=s1.heap.objs.size:=by simpa using hb
  subst e2
  exact I1.fpOk (Nat.le_refl _) (I1.hok.fresh (Nat.le_refl _))
theorem for_enumS {z:Str}{g:TG}{tb:TS}{D:Ends}{σ:St}{H:Hp}(Pv:Nat→St→Hp→Prop)(h0:Pv 0 σ H)
  (hs:∀ i c t σ H,z.cps[i]?=some c→H t=none→Pv i σ H→g (.ref t) σ (upd H t (.tup [.int (i:Nat),.str ⟨#[c]⟩])) fun σ2 H2=>tb { D with nx:=Pv (i+1),ct:=Pv (i+1),bk:=D.nx } σ2 H2) (hd:∀ σ H,Pv z.cps.size σ H→D.nx σ H) :
  ∃ W:Nat→Nat→St→Hp→Prop,(∃ m,W 0 m σ H)∧∀ i m σ H,W i m σ H →
   ((IteS z).stop i H∧D.nx σ H)∨((IteS z).go i H∧∃ N:St→Hp→Prop,(∀ σ' H',N σ' H'→∃ m',m'<m∧W (i+1) m' σ' H')∧∀ x H',(IteS z).yld i H x H'→g x σ H' fun σ2 H2=>tb { D with nx:=N,ct:=N,bk:=D.nx } σ2 H2):=by
 refine⟨fun i m σ H=>m=z.cps.size - i∧i≤z.cps.size∧Pv i σ H,⟨z.cps.size,by simp,Nat.zero_le _,h0⟩,?_⟩
 rintro i m σ H ⟨rfl,hi,p⟩
 by_cases hlt:i<z.cps.size
 ·refine .inr ⟨hlt,Pv (i+1),fun σ' H' p'=>⟨z.cps.size - (i+1),by omega,rfl,hlt,p'⟩,fun x H' y=>?_⟩
  obtain⟨t,c,ht,rfl,rfl,y⟩:=y
  exact hs i c t σ _ y ht p
 ·have e:i=z.cps.size:=by omega
  subst e
  exact .inl ⟨Nat.le_refl _,hd σ H p⟩
end
end L2
namespace Pl
open PySem L2
theorem two_sum:∀ l:List Nat,∃ k:Nat,(k:Int)+((l.map fun n=>if decide (n=86)=true then (1:Int) else 0).sum+(l.map fun n=>if decide (n=77)=true then (1:Int) else 0).sum)=l.length∧(k=0↔Lets l)
 | []=>⟨0,by simp,⟨fun _ c hc=>(by cases hc),fun _=>rfl⟩⟩
 | n::r=>by
  obtain⟨k,e,i⟩:=two_sum r
  rw[List.map_cons,List.map_cons,List.sum_cons,List.sum_cons,List.length_cons]
  by_cases h1:n=86
  ·subst h1
   refine⟨k,by simp only[decide_true,if_true,show ((86:Nat)=77)=False by simp,decide_false,Bool.false_eq_true,if_false];omega,i.trans ⟨fun L c hc=>?_,fun L c hc=>L c (List.mem_cons_of_mem _ hc)⟩⟩
   rcases List.mem_cons.mp hc with rfl | hc
   ·exact .inl rfl
   ·exact L c hc
  ·by_cases h2:n=77
   ·subst h2
    refine⟨k,by simp only[decide_true,if_true,show ((77:Nat)=86)=False by simp,decide_false,Bool.false_eq_true,if_false];omega,i.trans ⟨fun L c hc=>?_,fun L c hc=>L c (List.mem_cons_of_mem _ hc)⟩⟩
    rcases List.mem_cons.mp hc with rfl | hc
    ·exact .inr rfl
    ·exact L c hc
   ·refine⟨k+1,by simp only[h1,h2,decide_false,Bool.false_eq_true,if_false];omega,⟨fun z=>by omega,fun L=>?_⟩⟩
    exact absurd (L n (List.mem_cons_self ..)) (by omega)
theorem count_lets (z:Str):(Txt.count z "V"+Txt.count z "M"=(z.length:Int))↔Lets z.cps.toList:=by
 have a:Txt.count z "V"=_:=PyProof.Rows.count_is z 86
 have b:Txt.count z "M"=_:=PyProof.Rows.count_is z 77
 rw[PyProof.Rows.countIn_signs_sum] at a b
 rw[a,b]
 obtain⟨k,e,i⟩:=two_sum z.cps.toList
 have el:(z.length:Int)=z.cps.toList.length:=by rw[Array.length_toList];rfl
 rw[el,← i]
 omega
theorem end_nox {ns:List Int}{n g:Nat}(h:ns.Perm (iota n))(h1:1≤n)(hx:NoX (plc ns))(he:(plc ns).getD (n - 1) 0=0∨(plc ns).getD (n - 1) 0=(n:Int) - 1)(hg:g=0∨g=n):NoX (plc (ins ns g)):=by
 refine (nox_ins h h1 (by omega)).mpr ⟨hx,fun c hc _=>?_⟩
 have r0:=plc_rng h (s:=c) (by omega)
 have r1:=plc_rng h (s:=c+1) (by omega)
 have e1:wr (plc ns) c (n - 1)=false:=by
  unfold wr
  rw[Bool.and_eq_false_iff,decide_eq_false_iff_not,decide_eq_false_iff_not]
  omega
 rw[e1]
 symm
 rw[Bool.and_eq_false_iff,decide_eq_false_iff_not,decide_eq_false_iff_not]
 omega
def PileAt (cs:List Nat)(i:Nat)(ms:List Int):Prop:=ms.Perm (iota (i+1))∧NoX (plc ms)∧lcs (plc ms)=cs.take i∧((plc ms).getD i 0=0∨(plc ms).getD i 0=(i:Int))
theorem PileAt.zero (cs:List Nat):PileAt cs 0 [0]:=⟨List.Perm.refl _,nox_single,rfl,.inl rfl⟩
theorem PileAt.ins {cs:List Nat}{i c g:Nat}{ms:List Int}(h:PileAt cs i ms)(hc:cs[i]?=some c)(hg:g=0∨g=i+1)(he:(if decide ((0:Int)<g)=decide (i % 2=0) then 86 else 77)=c):PileAt cs (i+1) (Pl.ins ms g):=by
 obtain⟨p,x,l,e⟩:=h
 have hr:=plc_rng p (s:=i) (by omega)
 refine⟨ins_perm p g,end_nox p (by omega) x (by rw[show i+1 - 1=i by omega];omega) hg,?_,?_⟩
 ·rw[lcs_ins p (by omega) (by omega),l,List.take_succ,hc,lc_new p (by omega) (by omega),show i+1 - 1=i by omega]
  have ed:decide ((plc ms).getD i 0<(g:Int))=decide ((0:Int)<g):=Bool.eq_iff_iff.mpr (by rw[decide_eq_true_eq,decide_eq_true_eq];omega)
  rw[ed,he]
  rfl
 ·rw[plc_new p (by omega)]
  omega
end Pl
namespace L2
open PySem PySem.Spec PyProof.Rows
theorem lc_rangeR {lo:Int}{n:Nat}{l:Addr}{H1:Hp}{te:TE}{σ':St}{Q:VK}(Rv:Nat→V→Hp→Prop)(st:∀ i v H H',Rv i v H→(∀ b o,b≠l→H b=some o→H' b=some o)→Rv i v H')(hn:n≤1000)(hl:H1 l=none)
  (he:∀ (i:Nat) ys H2 (R:VK),i<n→Same H1 H2→H2 l=some (.lst ys)→(∀ v H3,Same H2 H3→Rv i v H3→R v H3)→te (some (.int (lo+(i:Nat)))::σ') H2 R)
  (hq:∀ vs H2,Same H1 H2→H2 l=some (.lst vs)→vs.length=n→(∀ i v,vs[i]?=some v→Rv i v H2)→Q (.ref l) H2) :
  LCG (Itr lo n) l σ' tAlw te Q H1:=by
 refine⟨fun i m H2=>m=n - i∧i≤n∧Same H1 H2∧∃ vs,H2 l=some (.lst vs)∧vs.length=i∧∀ j v,vs[j]?=some v→Rv j v H2,⟨n,by simp,Nat.zero_le _,fun b o e=>by rw[upd_ne (ne_of_none e hl)];exact e,[],upd_same,rfl,fun j v z=>by simp at z⟩,?_⟩
 rintro i m H2 ⟨rfl,hi,s2,vs,h2,vl,hv⟩
 by_cases hlt:i<n
 ·refine .inr ⟨hlt,fun x H3 y=>?_⟩
  obtain⟨e,y⟩:=y
  subst e y
  unfold tAlw
  dsimp only
  rw[if_pos rfl]
  refine he i vs _ _ hlt s2 h2 fun v H4 s4 r4=>⟨vs,n - (i+1),s4 _ _ h2,small1000 (by omega),by omega,rfl,hlt,fun b o e=>?_,vs++[v],upd_same,by simp[vl],fun j u hu=>?_⟩
  ·rw[upd_ne (ne_of_none e hl)]
   exact s4 _ _ (s2 _ _ e)
  ·have keep:∀ b o,b≠l→H4 b=some o→upd H4 l (.lst (vs++[v])) b=some o:=fun b o nb e=>by rw[upd_ne nb];exact e
   by_cases hj:j<vs.length
   ·rw[List.getElem?_append_left hj] at hu
    exact st _ _ _ _ (st _ _ _ _ (hv j u hu) fun b o _ e=>s4 b o e) keep
   ·rw[List.getElem?_append_right (by omega)] at hu
    have ej:j - vs.length=0:=by
     cases hk:j - vs.length with
     | zero=>rfl
     | succ k=>rw[hk] at hu;simp at hu
    rw[ej] at hu
    have eu:v=u:=by simpa using hu
    subst eu
    have:j=i:=by omega
    subst this
    exact st _ _ _ _ r4 keep
 ·have e:i=n:=by omega
  subst e
  exact .inl ⟨Nat.le_refl _,hq vs H2 s2 h2 vl hv⟩
structure LZ (H:Hp)(l:Addr)(zs:List (Addr×List Int)):Prop where
 lst:H l=some (.lst (zs.map fun z=>V.ref z.1))
 at_:∀ z∈zs,H z.1=some (.lst (z.2.map V.int))
theorem LZ.same {H H':Hp}{l:Addr}{zs:List (Addr×List Int)}(x:LZ H l zs)(s:Same H H'):LZ H' l zs:=⟨s _ _ x.lst,fun z hz=>s _ _ (x.at_ z hz)⟩
theorem LZ.but {H H':Hp}{l k:Addr}{zs:List (Addr×List Int)}(x:LZ H l zs)(hl:l≠k)(hk:∀ z∈zs,z.1≠k)(s:∀ b o,b≠k→H b=some o→H' b=some o):LZ H' l zs:=⟨s _ _ hl x.lst,fun z hz=>s _ _ (hk z hz) (x.at_ z hz)⟩
theorem LZ.ll {H:Hp}{l:Addr}{zs:List (Addr×List Int)}(x:LZ H l zs):LL H l (zs.map (·.1)) (zs.map (·.2)) where
 lst:=by rw[x.lst,List.map_map];rfl
 len:=by rw[List.length_map,List.length_map]
 at_:=fun i a p h1 h2=>by
  rw[List.getElem?_map] at h1 h2
  cases e:zs[i]? with
  | none=>rw[e] at h1;cases h1
  | some z =>
   rw[e] at h1 h2
   have h1:z.1=a:=by simpa using h1
   have h2:z.2=p:=by simpa using h2
   rw[← h1,← h2]
   exact x.at_ z (List.mem_of_getElem? e)
theorem LL.lz {H:Hp}{l:Addr}{as:List Addr}{pss:List (List Int)}(x:LL H l as pss):LZ H l (as.zip pss)∧(as.zip pss).map (·.2)=pss:=by
 have e1:(as.zip pss).map (·.1)=as:=List.map_fst_zip (by rw[x.len];exact Nat.le_refl _)
 have e2:(as.zip pss).map (·.2)=pss:=List.map_snd_zip (by rw[x.len];exact Nat.le_refl _)
 refine⟨⟨?_,fun z hz=>?_⟩,e2⟩
 ·rw[x.lst]
  conv=>lhs;rw[← e1]
  rw[List.map_map]
  rfl
 ·obtain⟨i,hi⟩:=List.getElem?_of_mem hz
  refine x.at_ i z.1 z.2 ?_ ?_
  ·have:((as.zip pss).map (·.1))[i]?=some z.1:=by rw[List.getElem?_map,hi];rfl
   rw[e1] at this
   exact this
  ·have:((as.zip pss).map (·.2))[i]?=some z.2:=by rw[List.getElem?_map,hi];rfl
   rw[e2] at this
   exact this
end L2
namespace Pl
open PySem L2
open Classical in
noncomputable def noxb (ms:List Int):Bool:=decide (NoX (plc ms))
theorem noxb_iff (ms:List Int):noxb ms=true↔NoX (plc ms):=by unfold noxb;simp
noncomputable def block (ms:List Int):List (List Int):=((List.range (ms.length+1)).map (ins ms)).filter noxb
noncomputable def grown:List (List Int)→List (List Int)
 | []=>[]
 | ms::r=>block ms++grown r
theorem mem_grown {x:List Int}:∀ {pss:List (List Int)},x∈grown pss↔∃ ms∈pss,x∈block ms
 | []=>⟨fun h=>(by cases h),fun ⟨_,h,_⟩=>(by cases h)⟩
 | m::r=>by
  show x∈block m++grown r↔_
  rw[List.mem_append,mem_grown (pss:=r)]
  constructor
  ·rintro (h | ⟨y,h1,h2⟩)
   ·exact⟨m,List.mem_cons_self ..,h⟩
   ·exact⟨y,List.mem_cons_of_mem _ h1,h2⟩
  ·rintro⟨y,h1,h2⟩
   rcases List.mem_cons.mp h1 with rfl | h1
   ·exact .inl h2
   ·exact .inr ⟨y,h1,h2⟩
theorem mem_block {ms x:List Int}:x∈block ms↔(∃ g,g≤ms.length∧x=ins ms g)∧NoX (plc x):=by
 unfold block
 rw[List.mem_filter,noxb_iff,List.mem_map]
 constructor
 ·rintro⟨⟨g,h1,rfl⟩,h2⟩
  exact⟨⟨g,by have:=List.mem_range.mp h1;omega,rfl⟩,h2⟩
 ·rintro⟨⟨g,h1,rfl⟩,h2⟩
  exact⟨⟨g,List.mem_range.mpr (by omega),rfl⟩,h2⟩
theorem out_ins {ms:List Int}{n g:Nat}(h:ms.Perm (iota n)):(ins ms g).filter (fun x=>decide (x≠(n:Int)))=ms:=by
 have hl:=perm_len h
 have a:∀ l:List Int,(∀ x∈l,x∈ms)→l.filter (fun x=>decide (x≠(n:Int)))=l:=fun l hs=>List.filter_eq_self.mpr fun x hx=>by
  have:=(perm_mem h).mp (hs x hx)
  exact decide_eq_true (by omega)
 unfold ins
 rw[List.filter_append,List.filter_append,a _ fun x hx=>List.mem_of_mem_take hx,a _ fun x hx=>List.mem_of_mem_drop hx,hl]
 simp
theorem block_nodup {ms:List Int}{n:Nat}(h:ms.Perm (iota n)):(block ms).Nodup:=by
 have hl:=perm_len h
 unfold block
 refine List.Nodup.sublist List.filter_sublist ?_
 unfold List.Nodup
 rw[List.pairwise_map]
 refine List.Pairwise.imp_of_mem ?_ (List.nodup_range (n:=ms.length+1))
 intro a b ha hb ne e
 have ha:=List.mem_range.mp ha
 have hb:=List.mem_range.mp hb
 have h1:=ins_get_new (ns:=ms) (g:=a) (by omega)
 have h2:=ins_get_new (ns:=ms) (g:=b) (by omega)
 rw[e] at h1
 exact ne (nodup_at (perm_nodup (ins_perm h b)) h1 h2)
theorem unins {xs:List Int}{n:Nat}(h:xs.Perm (iota (n+1))):∃ (ms:List Int) (g:Nat),ms.Perm (iota n)∧g≤ms.length∧xs=ins ms g:=by
 have hm:(n:Int)∈xs:=(perm_mem h).mpr (by omega)
 obtain⟨s,t,rfl⟩:=List.append_of_mem hm
 have p:(s++t).Perm (iota n):=by
  have h1:((n:Int)::(s++t)).Perm ((n:Int)::iota n):=(List.perm_middle.symm.trans h).trans (by rw[iota_succ];exact List.perm_append_comm)
  exact List.Perm.cons_inv h1
 refine⟨s++t,s.length,p,by simp,?_⟩
 unfold ins
 rw[perm_len p,List.take_left,List.drop_left,List.append_assoc]
 rfl
def AllP (n:Nat)(pss:List (List Int)):Prop:=pss.Nodup∧∀ ms,ms∈pss↔ms.Perm (iota n)∧NoX (plc ms)
theorem grown_nodup {n:Nat}:∀ {pss:List (List Int)},pss.Nodup→(∀ ms∈pss,ms.Perm (iota n))→(grown pss).Nodup
 | [],_,_=>List.nodup_nil
 | m::r,nd,hp=>by
  have pm:=hp m (List.mem_cons_self ..)
  obtain⟨nm,nr⟩:=List.nodup_cons.mp nd
  show (block m++grown r).Nodup
  refine List.nodup_append.mpr ⟨block_nodup pm,grown_nodup nr fun ms h=>hp ms (List.mem_cons_of_mem _ h),fun a ha b hb e=>?_⟩
  subst e
  obtain⟨y,h1,h2⟩:=mem_grown.mp hb
  obtain⟨⟨g,_,rfl⟩,_⟩:=mem_block.mp ha
  obtain⟨⟨g2,_,e2⟩,_⟩:=mem_block.mp h2
  have o1:=out_ins (g:=g) pm
  have o2:=out_ins (g:=g2) (hp y (List.mem_cons_of_mem _ h1))
  rw[e2,o2] at o1
  exact nm (o1 ▸ h1)
theorem AllP.step {n:Nat}{pss:List (List Int)}(h1:1≤n)(h:AllP n pss):AllP (n+1) (grown pss):=by
 refine⟨grown_nodup h.1 fun ms hm=>((h.2 ms).mp hm).1,fun x=>?_⟩
 rw[mem_grown]
 constructor
 ·rintro⟨ms,hm,hb⟩
  obtain⟨⟨g,_,rfl⟩,hx⟩:=mem_block.mp hb
  exact⟨ins_perm ((h.2 ms).mp hm).1 g,hx⟩
 ·rintro⟨hp,hx⟩
  obtain⟨ms,g,pm,hg,rfl⟩:=unins hp
  have hl:=perm_len pm
  exact⟨ms,(h.2 ms).mpr ⟨pm,((nox_ins pm h1 (by omega)).mp hx).1⟩,mem_block.mpr ⟨⟨g,hg,rfl⟩,hx⟩⟩
theorem AllP.one:AllP 1 [[0]]:=by
 refine⟨by decide,fun ms=>?_⟩
 rw[List.mem_singleton]
 constructor
 ·rintro rfl
  exact⟨List.Perm.refl _,nox_single⟩
 ·rintro⟨hp,_⟩
  exact List.perm_singleton.mp hp
def fac:Nat→Nat
 | 0=>1
 | n+1=>fac n * (n+1)
theorem fac7 {n:Nat}(h:n≤7):fac n≤10000:=by
 have:n=0∨n=1∨n=2∨n=3∨n=4∨n=5∨n=6∨n=7:=by omega
 rcases this with rfl | rfl | rfl | rfl | rfl | rfl | rfl | rfl <;> decide
end Pl
namespace L2
open PySem PySem.Spec PyProof.Rows
theorem sl_listK {X:Cx}{K:PySem.W.Frag}(h:X.K=K):SlR X (rSlL K):=h ▸ sl_list
theorem keys_of:∀ {vs:List V}{G:Nat→Addr→Prop},(∀ i v,vs[i]?=some v→∃ a,v=.ref a∧G i a)→∃ as:List Addr,vs=as.map V.ref∧∀ i a,as[i]?=some a→G i a
 | [],G,_=>⟨[],rfl,fun i a z=>by simp at z⟩
 | v::vs,G,h=>by
  obtain⟨a,e,g⟩:=h 0 v rfl
  obtain⟨as,e2,g2⟩:=keys_of (vs:=vs) (G:=fun i a=>G (i+1) a) fun i u hu=>h (i+1) u hu
  subst e e2
  refine⟨a::as,rfl,fun i b hb=>?_⟩
  cases i with
  | zero =>
   have:a=b:=by simpa using hb
   subst this
   exact g
  | succ i=>exact g2 i b hb
theorem lz_of {H:Hp}{l:Addr}{vs:List V}{n:Nat}{f:Nat→List Int}{G:Addr→Prop}(hl:H l=some (.lst vs))(hn:vs.length=n)(hv:∀ i v,vs[i]?=some v→∃ a,v=.ref a∧G a∧H a=some (.lst ((f i).map V.int))) :
  ∃ zs:List (Addr×List Int),LZ H l zs∧(∀ z∈zs,G z.1)∧zs.map (·.2)=(List.range n).map f:=by
 obtain⟨as,e,g⟩:=keys_of hv
 subst e
 rw[List.length_map] at hn
 have lx:LL H l as ((List.range n).map f):=⟨hl,by rw[List.length_map,List.length_range,hn],fun i a p h1 h2=>by
  obtain⟨_,h3⟩:=g i a h1
  rw[List.getElem?_map] at h2
  cases e:(List.range n)[i]? with
  | none=>rw[e] at h2;cases h2
  | some j =>
   have ej:i=j:=by
    have hi:=(List.getElem?_eq_some_iff.mp e).1
    rw[List.length_range] at hi
    rw[List.getElem?_range hi] at e
    exact Option.some.inj e
   subst ej
   rw[e] at h2
   have:f i=p:=by simpa using h2
   rw[← this]
   exact h3⟩
 obtain⟨z1,z2⟩:=lx.lz
 refine⟨_,z1,fun z hz=>?_,z2⟩
 obtain⟨h1,h2⟩:=List.of_mem_zip (a:=z.1) (b:=z.2) (by simpa using hz)
 obtain⟨i,hi⟩:=List.getElem?_of_mem h1
 exact (g i z.1 hi).1
theorem line_big {n:Nat}(h:n≤1048575):n<sizeLine:=by have:=line20;omega
theorem LZ.nil {H:Hp}{l:Addr}(h:H l=some (.lst [])):LZ H l []:=⟨h,fun z hz=>by cases hz⟩
end L2
namespace Ts
open PySem PyProof.Rows
section
variable {P:Program}{w:World}{A:Around}{E:Value→Shared→Prop}{s:Shared}
end
end Ts
namespace L2
open PySem PySem.Spec PyProof.Rows
theorem any_range (bs:List Bool):((List.range bs.length).any fun i=>(bs[i]?).getD false)=bs.any id:=by
 refine Bool.eq_iff_iff.mpr ?_
 rw[List.any_eq_true,List.any_eq_true]
 constructor
 ·rintro⟨i,hi,e⟩
  have hl:=List.mem_range.mp hi
  rw[List.getElem?_eq_getElem hl,Option.getD_some] at e
  exact⟨bs[i],List.getElem_mem hl,e⟩
 ·rintro⟨b,hb,e⟩
  obtain⟨i,hi⟩:=List.getElem?_of_mem hb
  refine⟨i,List.mem_range.mpr (List.getElem?_eq_some_iff.mp hi).1,?_⟩
  rw[hi,Option.getD_some]
  exact e
theorem all_range (bs:List Bool):((List.range bs.length).all fun i=>(bs[i]?).getD true)=bs.all id:=by
 refine Bool.eq_iff_iff.mpr ?_
 rw[List.all_eq_true,List.all_eq_true]
 constructor
 ·intro h b hb
  obtain⟨i,hi⟩:=List.getElem?_of_mem hb
  have:=h i (List.mem_range.mpr (List.getElem?_eq_some_iff.mp hi).1)
  rw[hi,Option.getD_some] at this
  exact this
 ·intro h i hi
  have hl:=List.mem_range.mp hi
  rw[List.getElem?_eq_getElem hl,Option.getD_some]
  exact h _ (List.getElem_mem hl)
theorem bools_of:∀ {bs:List Bool}{us:List Value},Vals (bs.map V.bl) us→us=bs.map Value.bool
 | [],_,r=>by cases r;rfl
 | b::bs,_,r=>by
  cases r with
  | cons r t =>
   cases (show _=Value.bool b from r)
   rw[bools_of t]
   rfl
section
variable {X:Cx}
def rAny (K:PySem.W.Frag):List V→Hp→VK→Prop:=fun xs H Q=>∃ (p:Addr) (bs:List Bool),xs=[.ref p]∧SqL K H p (bs.map V.bl)∧Q (.bl (bs.any id)) H
def rAll (K:PySem.W.Frag):List V→Hp→VK→Prop:=fun xs H Q=>∃ (p:Addr) (bs:List Bool),xs=[.ref p]∧SqL K H p (bs.map V.bl)∧Q (.bl (bs.all id)) H
theorem walked {h h':Heap}{o:Obj}(hk:∀ b x,b∉[h.objs.size]→(h.push o).get? b=some x→h'.get? b=some x):∀ b x,h.get? b=some x→h'.get? b=some x:=fun b x e=>by
 refine hk b x (fun z=>?_) (Heap.get?_push_of_some _ e)
 have lt:=Heap.lt_size e
 rw[List.mem_singleton.mp z] at lt
 exact Nat.lt_irrefl _ lt
theorem call_anyL (hc:X.calm=true):CallR X (.builtin "any") (rAny X.K):=by
 intro pins s σ H xs us Q I r h
 obtain⟨p,bs,rfl,hq,q⟩:=h
 obtain⟨u,rfl,rx⟩:=vals1 r
 cases rx
 obtain⟨its,rv,pl,hz⟩:=I.list hq
 obtain rfl:=bools_of rv
 have lp:p<s.heap.objs.size:=by obtain⟨_,e,_⟩:=pl.isList;exact Heap.lt_size e
 refine call_any_walk (wpAny_pyIter_list pl.isList ?_)
 refine⟨s.heap.objs.size,[s.heap.objs.size,p],[s.heap.objs.size],(bs.map Value.bool).toArray.size,_,_,fun i=>(bs[i]?).getD false,rfl,Walks.list (A:=X.A.in1) (I.ok.hd hc) _ p (Nat.ne_of_lt lp) _,
  ⟨⟨_,Heap.get?_push_size _ rfl,rfl,rfl⟩,pl.isList.push _⟩,fun i v s' Q' E' hP hQ=>?_,fun h' tk hk=>?_⟩
 ·have hP2:(bs.map Value.bool)[i]?=some v:=by simpa using hP
  rw[List.getElem?_map] at hP2
  cases e:bs[i]? with
  | none=>rw[e] at hP2;cases hP2
  | some b =>
   dsimp only at hQ
   rw[e] at hP2 hQ
   have:Value.bool b=v:=by simpa using hP2
   rw[← this]
   exact wpAny_truthy_bool hQ
 ·rw[List.size_toArray,List.length_map,any_range]
  exact⟨.bl (bs.any id),H,I.kept (t':=tk) (walked hk),rfl,q⟩
theorem call_allL (hc:X.calm=true):CallR X (.builtin "all") (rAll X.K):=by
 intro pins s σ H xs us Q I r h
 obtain⟨p,bs,rfl,hq,q⟩:=h
 obtain⟨u,rfl,rx⟩:=vals1 r
 cases rx
 obtain⟨its,rv,pl,hz⟩:=I.list hq
 obtain rfl:=bools_of rv
 have lp:p<s.heap.objs.size:=by obtain⟨_,e,_⟩:=pl.isList;exact Heap.lt_size e
 refine call_all_walk (wpAny_pyIter_list pl.isList ?_)
 refine⟨s.heap.objs.size,[s.heap.objs.size,p],[s.heap.objs.size],(bs.map Value.bool).toArray.size,_,_,fun i=>(bs[i]?).getD true,rfl,Walks.list (A:=X.A.in1) (I.ok.hd hc) _ p (Nat.ne_of_lt lp) _,
  ⟨⟨_,Heap.get?_push_size _ rfl,rfl,rfl⟩,pl.isList.push _⟩,fun i v s' Q' E' hP hQ=>?_,fun h' tk hk=>?_⟩
 ·have hP2:(bs.map Value.bool)[i]?=some v:=by simpa using hP
  rw[List.getElem?_map] at hP2
  cases e:bs[i]? with
  | none=>rw[e] at hP2;cases hP2
  | some b =>
   dsimp only at hQ
   rw[e] at hP2 hQ
   have:Value.bool b=v:=by simpa using hP2
   rw[← this]
   exact wpAny_truthy_bool hQ
 ·rw[List.size_toArray,List.length_map,all_range]
  exact⟨.bl (bs.all id),H,I.kept (t':=tk) (walked hk),rfl,q⟩
theorem Same.tup {K:PySem.W.Frag}{H H':Hp}{a:Addr}{xs:List V}(e:Same H H')(h:SqT K H a xs):SqT K H' a xs:=by
 rcases h with (h | ⟨o,h⟩) | h
 ·exact .inl (.inl (e _ _ h))
 ·exact .inl (.inr ⟨o,e _ _ h⟩)
 ·exact .inr h
end
end L2
namespace Ts
open PySem PyProof.Rows
section
variable {prog:Program}{w:World}{A:Around}{E:Value→Shared→Prop}{s:Shared}
end
end Ts
namespace L2
open PySem PySem.Spec PyProof.Rows
section
variable {X:Cx}
end
end L2
namespace Zp
open PySem PyProof.Rows
theorem ap {a b:Nat}(h:a<b∨b<a):a≠b:=by omega
section
variable {prog:Program}{w:World}{A:Around}{E:Value→Shared→Prop}{s:Shared}
theorem alive {a:Addr}{o:Obj}{Q:Option Obj→Shared→Prop}(ho:s.heap.get? a=some o)(h:Q (some o) s):wpAny (model prog w) A (loadIfAlive a) Q E s:=fun Γ p hΓ=>by
 unfold loadIfAlive
 rw[Sem.wp_loadIfAlive,ho]
 simpa using h
abbrev ZipAt (h:Heap)(z TI TO:Addr)(f0:Value)(f1:Bool):Prop:=h.get? z=some { cls:=.type "zip",dict:=none,data:=.fields #[f0,.bool f1,.bool false,.ref TI,.ref TO],slots:=#[] }
theorem held_next {z TI TO i1 i2 l1 l2 T0:Addr}{f1:Bool}{k:Nat}{xs ys:Array Value}{x y:Value}{Q:Value→Shared→Prop}(D:ZipApart z TI TO i1 i2 l1 l2)
  (hz:ZipAt s.heap z TI TO (rawInt T0) f1) (hT0:∃ o,s.heap.get? T0=some o) (hTI:IsPair s.heap TI (.ref i1) (.ref i2))
  (h1:s.heap.IsListIter i1 l1 k) (h2:s.heap.IsListIter i2 l2 k) (hl1:s.heap.IsList l1 xs) (hl2:s.heap.IsList l2 ys) (hx:xs[k]?=some x) (hy:ys[k]?=some y)
  (hQ:∀ h' g1,ZipAt h' z TI TO (rawInt T0) g1→h'.IsListIter i1 l1 (k+1)→h'.IsListIter i2 l2 (k+1)→IsPair h' s.heap.objs.size x y→(∀ c o,c≠z→c≠i1→c≠i2→s.heap.get? c=some o→h'.get? c=some o)→Q (.ref s.heap.objs.size) { s with heap:=h' }) :
  wpAny (model prog w) A (Builtin.«zip.__next__» ⟨[.ref z],[]⟩) (fun fin s'=>∃ v,fin=.done (.ret v)∧Q v s') E s:=by
 obtain⟨o0,hT0⟩:=hT0
 show wpAny _ _ (field (.ref z) 2 >>= _) _ _ _
 refine wpAny_bind (wpAny_field hz rfl (x:=.bool false) rfl ?_)
 show wpAny _ _ (field (.ref z) 3 >>= _) _ _ _
 refine wpAny_bind (wpAny_field hz rfl (x:=.ref TI) rfl (wpAny_bind (wpAny_seqItems hTI rfl ?_)))
 show wpAny _ _ (Builtin.SmallTypes.ownedTupleIsFree (.ref z) >>= _) _ _ _
 refine wpAny_bind ?_
 have key:∀ (Qf:Bool→Shared→Prop),(∀ h₁ g1,ZipAt h₁ z TI TO (rawInt T0) g1→Heap.SameBut z s.heap h₁→Qf false { s with heap:=h₁ })→wpAny (model prog w) A (Builtin.SmallTypes.ownedTupleIsFree (.ref z)) Qf E s:=fun Qf hf=>by
  unfold Builtin.SmallTypes.ownedTupleIsFree
  refine wpAny_bind (wpAny_field hz rfl (x:=rawInt T0) rfl ?_)
  show wpAny _ _ (loadIfAlive ((T0:Int).toNat) >>= _) _ _ _
  rw[Int.toNat_natCast]
  refine wpAny_bind (alive hT0 ?_)
  show wpAny _ _ (field (.ref z) 1 >>= _) _ _ _
  refine wpAny_bind (wpAny_field hz rfl (x:=.bool f1) rfl ?_)
  cases f1 with
  | true=>exact wpAny_pure (hf s.heap true hz ⟨rfl,fun _ _=>rfl⟩)
  | false =>
   show wpAny _ _ (setField (.ref z) 1 (.bool true) >>= _) _ _ _
   exact wpAny_bind (wpAny_setField_rec hz (by simp) fun h₁ hz₁ hs₁=>wpAny_pure (hf h₁ true hz₁ hs₁))
 refine key _ fun h₁ g1 hz₁ hs₁=>?_
 simp only[Bool.false_eq_true,if_false,← Array.forIn_toList,List.forIn_cons,List.forIn_nil]
 refine wpAny_bind (wpAny_bind (wpAny_bind (wpAny_holding ?_)))
 show wpAny _ _ (Builtin.SmallTypes.nextOf (.ref i1) >>= _) _ _ _
 refine wpAny_bind (wpAny_nextOf_list_item (h1.extBut hs₁.extBut D.i1z) (hl1.extBut hs₁.extBut D.l1z) hx fun h₂ h1₂ hs₂=>wpAny_pure (wpAny_pure ?_))
 refine wpAny_bind (wpAny_bind (wpAny_holding ?_))
 show wpAny _ _ (Builtin.SmallTypes.nextOf (.ref i2) >>= _) _ _ _
 refine wpAny_bind (wpAny_nextOf_list_item ((h2.extBut hs₁.extBut D.i2z).extBut hs₂.extBut D.i12.symm) ((hl2.extBut hs₁.extBut D.l2z).extBut hs₂.extBut D.l2i1) hy fun h₃ h2₃ hs₃=>wpAny_pure (wpAny_pure (wpAny_pure ?_)))
 refine wpAny_bind (wpAny_newTuple (wpAny_pure ⟨_,rfl,?_⟩) (by show 2≤sizeLine;decide))
 have hsz:h₃.objs.size=s.heap.objs.size:=by rw[hs₃.1,hs₂.1,hs₁.1]
 have hz₃:ZipAt h₃ z TI TO (rawInt T0) g1:=hs₃.extBut _ _ D.i2z.symm (hs₂.extBut _ _ D.i1z.symm hz₁)
 have kp:∀ c o,c≠z→c≠i1→c≠i2→s.heap.get? c=some o→h₃.get? c=some o:=fun c o c1 c2 c3 e=>hs₃.extBut _ _ c3 (hs₂.extBut _ _ c2 (hs₁.extBut _ _ c1 e))
 have h1₃:h₃.IsListIter i1 l1 (k+1):=h1₂.extBut hs₃.extBut D.i12
 show Q (.ref h₃.objs.size) _
 rw[hsz]
 refine hQ _ g1 (Heap.get?_push_of_some _ hz₃) (h1₃.at fun o e=>Heap.get?_push_of_some _ e) (h2₃.at fun o e=>Heap.get?_push_of_some _ e) ?_ fun c o c1 c2 c3 e=>Heap.get?_push_of_some _ (kp c o c1 c2 c3 e)
 rw[← hsz]
 exact Heap.get?_push_size _ rfl
theorem held_pyNext {z TI TO i1 i2 l1 l2 T0:Addr}{f1:Bool}{k:Nat}{xs ys:Array Value}{x y:Value}{Q:Option Value→Shared→Prop}(D:ZipApart z TI TO i1 i2 l1 l2)
  (hz:ZipAt s.heap z TI TO (rawInt T0) f1) (hT0:∃ o,s.heap.get? T0=some o) (hTI:IsPair s.heap TI (.ref i1) (.ref i2))
  (h1:s.heap.IsListIter i1 l1 k) (h2:s.heap.IsListIter i2 l2 k) (hl1:s.heap.IsList l1 xs) (hl2:s.heap.IsList l2 ys) (hx:xs[k]?=some x) (hy:ys[k]?=some y)
  (hQ:∀ h' g1,ZipAt h' z TI TO (rawInt T0) g1→h'.IsListIter i1 l1 (k+1)→h'.IsListIter i2 l2 (k+1)→IsPair h' s.heap.objs.size x y→(∀ c o,c≠z→c≠i1→c≠i2→s.heap.get? c=some o→h'.get? c=some o)→Q (some (.ref s.heap.objs.size)) { s with heap:=h' }) :
  wpAny (model prog w) A (pyNext (.ref z)) Q E s:=by
 have hT:s.TypeIs (.ref z) "zip":=⟨_,hz,rfl⟩
 unfold pyNext
 exact wpAny_bind (wpAny_attempt (wpAny_callSpecial?_slot (name:=Str.ofString "__next__") hT F.slot_zip_next (wpAny_call_entry F.slot_zip_next hT F.entry_zip_next
  (held_next D hz hT0 hTI h1 h2 hl1 hl2 hx hy fun h' g1 a1 a2 a3 a4 a5=>wpAny_pure (hQ h' g1 a1 a2 a3 a4 a5)) (F.args_zip_next_1 _))))
theorem held_end {z TI TO i1 i2 l1 l2 T0:Addr}{f1:Bool}{k:Nat}{xs:Array Value}{Q:Option Value→Shared→Prop}(hh:A.handled=none)(D:ZipApart z TI TO i1 i2 l1 l2)
  (hz:ZipAt s.heap z TI TO (rawInt T0) f1) (hT0:∃ o,s.heap.get? T0=some o) (hTI:IsPair s.heap TI (.ref i1) (.ref i2)) (h1:s.heap.IsListIter i1 l1 k) (hl1:s.heap.IsList l1 xs) (hx:xs[k]?=none)
  (hQ:∀ h',(∀ c o,c≠z→c≠i1→s.heap.get? c=some o→h'.get? c=some o)→Q none { s with heap:=h' }):wpAny (model prog w) A (pyNext (.ref z)) Q E s:=by
 obtain⟨o0,hT0⟩:=hT0
 have hT:s.TypeIs (.ref z) "zip":=⟨_,hz,rfl⟩
 unfold pyNext
 refine wpAny_bind (wpAny_attempt (wpAny_callSpecial?_slot (name:=Str.ofString "__next__") hT F.slot_zip_next (wpAny_call_entry F.slot_zip_next hT F.entry_zip_next ?_ (F.args_zip_next_1 _))))
 show wpAny _ _ (field (.ref z) 2 >>= _) _ _ _
 refine wpAny_bind (wpAny_field hz rfl (x:=.bool false) rfl ?_)
 show wpAny _ _ (field (.ref z) 3 >>= _) _ _ _
 refine wpAny_bind (wpAny_field hz rfl (x:=.ref TI) rfl (wpAny_bind (wpAny_seqItems hTI rfl ?_)))
 show wpAny _ _ (Builtin.SmallTypes.ownedTupleIsFree (.ref z) >>= _) _ _ _
 refine wpAny_bind ?_
 have key:∀ (Qf:Bool→Shared→Prop) (E':Value→Shared→Prop),(∀ h₁ g1,ZipAt h₁ z TI TO (rawInt T0) g1→Heap.SameBut z s.heap h₁→Qf false { s with heap:=h₁ })→wpAny (model prog w) A.in1 (Builtin.SmallTypes.ownedTupleIsFree (.ref z)) Qf E' s:=fun Qf E' hf=>by
  unfold Builtin.SmallTypes.ownedTupleIsFree
  refine wpAny_bind (wpAny_field hz rfl (x:=rawInt T0) rfl ?_)
  show wpAny _ _ (loadIfAlive ((T0:Int).toNat) >>= _) _ _ _
  rw[Int.toNat_natCast]
  refine wpAny_bind (alive hT0 ?_)
  show wpAny _ _ (field (.ref z) 1 >>= _) _ _ _
  refine wpAny_bind (wpAny_field hz rfl (x:=.bool f1) rfl ?_)
  cases f1 with
  | true=>exact wpAny_pure (hf s.heap true hz ⟨rfl,fun _ _=>rfl⟩)
  | false =>
   show wpAny _ _ (setField (.ref z) 1 (.bool true) >>= _) _ _ _
   exact wpAny_bind (wpAny_setField_rec hz (by simp) fun h₁ hz₁ hs₁=>wpAny_pure (hf h₁ true hz₁ hs₁))
 refine key _ _ fun h₁ g1 hz₁ hs₁=>?_
 simp only[Bool.false_eq_true,if_false,← Array.forIn_toList,List.forIn_cons,List.forIn_nil]
 refine wpAny_bind (wpAny_bind (wpAny_bind (wpAny_holding ?_)))
 show wpAny _ _ (Builtin.SmallTypes.nextOf (.ref i1) >>= _) _ _ _
 refine wpAny_bind (wpAny_nextOf_list_end hh (h1.extBut hs₁.extBut D.i1z) (hl1.extBut hs₁.extBut D.l1z) hx fun h₂ e hs₂ he=>?_)
 obtain⟨oe,hoe,hce⟩:=he
 refine wpAny_bind (wpAny_isInstance (T:="StopIteration") (b:=true) ⟨oe,hoe,hce⟩ isSubtype_stop ?_)
 exact wpAny_pure (hQ _ fun c o c1 c2 e=>hs₂ _ _ c2 (hs₁.extBut _ _ c1 e))
end
section
variable {prog:Program}{w:World}{A:Around}{R:Result→Shared→Prop}
theorem fill_loop {S it:Addr}{res:Value}{n:Nat}(J:Nat→Array Value→Shared→Prop)(hn:n≤sizeLine)
  (hsz:∀ i acc s,J i acc s→acc.size=i)
  (hitem:∀ i acc s (E:Value→Shared→Prop),i<n→J i acc s→wpAny (model prog w) A.in1 (pyNext (.ref it)) (fun r s'=>∃ x c,r=some x∧s'.heap.get? S=some { cls:=.type "list",dict:=none,data:=.seq acc c,slots:=#[] }∧J (i+1) (acc.push x) { s' with heap:=s'.heap.update S (Obj.mapSeq (·.push x)) }) E s)
  (hdone:∀ acc s (E:Value→Shared→Prop),J n acc s→wpAny (model prog w) A.in1 (pyNext (.ref it)) (fun r s'=>r=none∧R (.ok (.ret res)) s') E s) :
  ∀ (k i:Nat) (acc:Array Value) (s:Shared),n - i=k→i≤n→J i acc s→codeAny (model prog w) A (.builtin "list.extend.loop" ⟨[.ref S,.ref it,res],[]⟩) R s:=by
 intro k
 induction k with
 | zero =>
  intro i acc s hk hi hJ
  obtain rfl:i=n:=by omega
  refine codeAny_builtin PySem.F.entry_extend_loop ?_
  rw[Around.under_plainId PySem.F.plain_extend_loop _]
  show wpAny _ A.in1 (pyNext (.ref it) >>= _) _ _ s
  refine wpAny_bind (wpAny_mono (hdone acc s _ hJ) (fun r s' h=>?_) fun _ _ e=>e)
  obtain⟨rfl,h⟩:=h
  exact wpAny_pure h
 | succ k ih =>
  intro i acc s hk hi hJ
  refine codeAny_builtin PySem.F.entry_extend_loop ?_
  rw[Around.under_plainId PySem.F.plain_extend_loop _]
  show wpAny _ A.in1 (pyNext (.ref it) >>= _) _ _ s
  refine wpAny_bind (wpAny_mono (hitem i acc s _ (by omega) hJ) (fun r s' h=>?_) fun _ _ e=>e)
  obtain⟨x,c,rfl,hS,hJ'⟩:=h
  have za:=hsz i acc s hJ
  show wpAny _ A.in1 (updateSeq S (·.push x) >>= _) _ _ _
  exact wpAny_bind (wpAny_updateSeq hS rfl (wpAny_pure ⟨plainId_quiet PySem.F.plain_extend_loop _,ih (i+1) _ _ (by omega) (by omega) hJ'⟩) (by rw[za];omega) (by show (acc.push x).size≤sizeLine+1;rw[Array.size_push,za];omega))
end
theorem nolen_zip:typeLookup (.type "zip") "__len__"=pure none:=by rw[typeLookup_type,builtinLookup_eq_fast];kernel_rfl
theorem nohint_zip:typeLookup (.type "zip") "__length_hint__"=pure none:=by rw[typeLookup_type,builtinLookup_eq_fast];kernel_rfl
section
variable {prog:Program}{w:World}{A:Around}{E:Value→Shared→Prop}{s:Shared}
theorem zip_hint {z:Addr}{Q:Bool→Shared→Prop}(hT:s.TypeIs (.ref z) "zip")(h:Q true s):wpAny (model prog w) A (Builtin.List.listLengthHint (.ref z)) Q E s:=by
 unfold Builtin.List.listLengthHint
 refine wpAny_bind (wpAny_specialOf hT nolen_zip ?_)
 show wpAny _ A (specialOf (Value.ref z) (Str.ofString "__length_hint__") >>= _) _ _ _
 exact wpAny_bind (wpAny_specialOf hT nohint_zip (wpAny_pure h))
end
end Zp
namespace Zp
open PySem PyProof.Rows
section
variable {prog:Program}{w:World}{A:Around}{E:Value→Shared→Prop}{s:Shared}
abbrev ListAt (h:Heap)(S:Nat)(acc:Array Value)(c:Nat):Prop:=h.get? S=some { cls:=.type "list",dict:=none,data:=.seq acc c,slots:=#[] }
structure Filling (s:Shared)(z TI TO i1 i2 l1 l2 S:Nat)(xs ys:Array Value)(i:Nat)(acc:Array Value)(h:Heap)(Ts:List Nat):Prop where
 kept:∀ (b:Nat) o,s.heap.get? b=some o→h.get? b=some o
 zip:(i=0∧ZipAt h z TI TO .none false)∨∃ (T0:Nat) (f1:Bool),ZipAt h z TI TO (rawInt T0) f1∧Ts[0]?=some T0
 ti:IsPair h TI (.ref i1) (.ref i2)
 to_:∃ a b,IsPair h TO a b
 it1:h.IsListIter i1 l1 i
 it2:h.IsListIter i2 l2 i
 lst:∃ c,ListAt h S acc c
 acc:acc.toList=Ts.map Value.ref
 len:Ts.length=i
 tup:∀ (j:Nat) (T:Nat),Ts[j]?=some T→s.heap.objs.size≤T∧T≠S∧T≠z∧T≠TO∧T≠i1∧T≠i2∧∃ x y,xs[j]?=some x∧ys[j]?=some y∧IsPair h T x y
 inc:Ts.Pairwise (·<·)
theorem Filling.grow {z TI TO i1 i2 l1 l2 S:Nat}{xs ys acc:Array Value}{i:Nat}{h h':Heap}{Ts:List Nat}{x y:Value}(F:Filling s z TI TO i1 i2 l1 l2 S xs ys i acc h Ts)
  (hs:s.heap.objs.size≤z∧s.heap.objs.size≤TI∧s.heap.objs.size≤TO∧s.heap.objs.size≤i1∧s.heap.objs.size≤i2∧s.heap.objs.size≤S) (dS:S≠z∧S≠TI∧S≠TO∧S≠i1∧S≠i2) (dT:TI≠z∧TI≠TO∧TI≠i1∧TI≠i2)
  (hx:xs[i]?=some x) (hy:ys[i]?=some y)
  (zip':∃ (T0:Nat) (f1:Bool),ZipAt h' z TI TO (rawInt T0) f1∧(Ts++[h.objs.size])[0]?=some T0) (to':∃ a b,IsPair h' TO a b) (a1:h'.IsListIter i1 l1 (i+1)) (a2:h'.IsListIter i2 l2 (i+1)) (tp:IsPair h' h.objs.size x y)
  (kp:∀ (c:Nat) o,c≠z→c≠TO→c≠i1→c≠i2→h.get? c=some o→h'.get? c=some o) :
  (∃ c,ListAt h' S acc c)∧Filling s z TI TO i1 i2 l1 l2 S xs ys (i+1) (acc.push (.ref h.objs.size)) (h'.update S (Obj.mapSeq (·.push (.ref h.objs.size)))) (Ts++[h.objs.size]):=by
 obtain⟨c,hS⟩:=F.lst
 have hS':ListAt h' S acc c:=kp S _ dS.1 dS.2.2.1 dS.2.2.2.1 dS.2.2.2.2 hS
 have lt:(S:Nat)<h.objs.size:=Heap.lt_size hS
 have up:∀ (b:Nat) o,b≠S→h'.get? b=some o→(h'.update S (Obj.mapSeq (·.push (.ref h.objs.size)))).get? b=some o:=fun b o nb e=>(Heap.get?_update_other _ _ (Ne.symm nb)).trans e
 have lz:(z:Nat)<h.objs.size:=by
  rcases F.zip with⟨_,e⟩ | ⟨_,_,e,_⟩
  ·exact Heap.lt_size e
  ·exact Heap.lt_size e
 have lto:(TO:Nat)<h.objs.size:=by obtain⟨_,_,e⟩:=F.to_;exact Heap.lt_size e
 have l1':(i1:Nat)<h.objs.size:=by obtain⟨_,e,_⟩:=F.it1;exact Heap.lt_size e
 have l2':(i2:Nat)<h.objs.size:=by obtain⟨_,e,_⟩:=F.it2;exact Heap.lt_size e
 have sle:s.heap.objs.size≤h.objs.size:=Nat.le_trans hs.1 (Nat.le_of_lt lz)
 refine⟨⟨c,hS'⟩,⟨fun b o e=>?_,.inr ?_,?_,?_,a1.at fun o e=>up _ o dS.2.2.2.1.symm e,a2.at fun o e=>up _ o dS.2.2.2.2.symm e,⟨_,Heap.get?_update_self _ hS' rfl⟩,?_,?_,fun j T hj=>?_,?_⟩⟩
 ·have hb:(b:Nat)<s.heap.objs.size:=Heap.lt_size e
  exact up b o (ap (by omega)) (kp b o (ap (by omega)) (ap (by omega)) (ap (by omega)) (ap (by omega)) (F.kept b o e))
 ·obtain⟨T0,f1,e1,e2⟩:=zip'
  exact⟨T0,f1,up _ _ dS.1.symm e1,e2⟩
 ·exact up _ _ dS.2.1.symm (kp _ _ dT.1 dT.2.1 dT.2.2.1 dT.2.2.2 F.ti)
 ·obtain⟨a,b,e⟩:=to'
  exact⟨a,b,up _ _ dS.2.2.1.symm e⟩
 ·rw[Array.toList_push,F.acc,List.map_append]
  rfl
 ·rw[List.length_append,F.len]
  rfl
 ·by_cases hl:j<Ts.length
  ·rw[List.getElem?_append_left hl] at hj
   obtain⟨b1,b2,b3,b4,b5,b6,x',y',b7,b8,b9⟩:=F.tup j T hj
   exact⟨b1,b2,b3,b4,b5,b6,x',y',b7,b8,up _ _ b2 (kp _ _ b3 b4 b5 b6 b9)⟩
  ·rw[List.getElem?_append_right (by omega)] at hj
   have e0:j - Ts.length=0:=by
    cases q:j - Ts.length with
    | zero=>rfl
    | succ m=>rw[q] at hj;simp at hj
   rw[e0] at hj
   have eT:h.objs.size=T:=by simpa using hj
   have ej:j=i:=by have:=F.len;omega
   subst eT ej
   exact⟨sle,ap (by omega),ap (by omega),ap (by omega),ap (by omega),ap (by omega),x,y,hx,hy,up _ _ (ap (by omega)) tp⟩
 ·refine List.pairwise_append.mpr ⟨F.inc,List.pairwise_singleton _ _,fun a ha b hb=>?_⟩
  rw[List.mem_singleton.mp hb]
  obtain⟨j,hj⟩:=List.getElem?_of_mem ha
  obtain⟨_,_,_,_,_,_,_,_,_,_,e⟩:=F.tup j a hj
  exact Heap.lt_size e
theorem list_zip {l1 l2:Nat}{xs ys:Array Value}{Q:Value→Shared→Prop}(hh:A.handled=none)(hl1:s.heap.IsList l1 xs)(hl2:s.heap.IsList l2 ys)(h0:0<xs.size)(hle:xs.size≤ys.size)(hn:xs.size≤sizeLine)
  (hQ:∀ h' (Ts:List Nat) (S:Nat) (c:Nat),(∀ b o,s.heap.get? b=some o→h'.get? b=some o)→s.heap.objs.size≤S→ListAt h' S (Ts.map Value.ref).toArray c→Ts.length=xs.size→Ts.Pairwise (·<·) →
   (∀ (j:Nat) (T:Nat),Ts[j]?=some T→s.heap.objs.size≤T∧T≠S∧∃ x y,xs[j]?=some x∧ys[j]?=some y∧IsPair h' T x y)→Q (.ref S) { s with heap:=h' }) :
  wpAny (model prog w) A (call (.type "zip") [.ref l1,.ref l2]) (fun z s1=>wpAny (model prog w) A (call (.type "list") [z]) Q E s1) E s:=by
 have b1:l1<s.heap.objs.size:=by obtain⟨_,e,_⟩:=hl1;exact Heap.lt_size e
 have b2:l2<s.heap.objs.size:=by obtain⟨_,e,_⟩:=hl2;exact Heap.lt_size e
 refine call_zip_2 hl1 hl2 fun hp hz hTI hTO hit1 hit2 hsz hk=>?_
 have D:=zipApart_new b1 b2
 refine callType_codes (Q₁:=fun obj s₁=>obj=.ref hp.objs.size∧s₁={ s with heap:=hp.push { cls:=.type "list",data:=.seq #[] } }) PySem.F.called_list (PySem.F.typeCall_list_1 _) PySem.F.entry_list_init (code_list_new _ ⟨rfl,rfl⟩) fun obj s₁ h₁=>?_
 obtain⟨rfl,rfl⟩:=h₁
 have hS:(hp.push { cls:=.type "list",data:=.seq #[] }).get? hp.objs.size=some { cls:=.type "list",data:=.seq #[] }:=Heap.get?_push_size _ rfl
 refine⟨⟨_,hS,rfl⟩,PySem.F.args_list_init_2 _ _,?_⟩
 have S5:hp.objs.size=s.heap.objs.size+5:=hsz
 show wpAny _ _ (do let old ← Builtin.List.listItems (.ref hp.objs.size);Builtin.List.listUpdate (.ref hp.objs.size) (fun _=>#[]);letGo old.toList.reverse;Builtin.List.listExtendWith (.ref hp.objs.size) (.ref (s.heap.objs.size+4)) .none) _ _ _
 refine wpAny_bind ?_
 unfold Builtin.List.listItems
 refine wpAny_bind (wpAny_seqItems hS rfl (wpAny_pure ?_))
 show wpAny _ _ (updateSeq hp.objs.size (fun _=>#[]) >>= fun _=>letGo (#[]:Array Value).toList.reverse >>= fun _=>Builtin.List.listExtendWith (.ref hp.objs.size) (.ref (s.heap.objs.size+4)) .none) _ _ _
 refine wpAny_bind (wpAny_updateSeq hS rfl ?_)
 have hS₂:=Heap.get?_update_self (Obj.mapSeq (fun _=>(#[]:Array Value))) hS rfl
 refine wpAny_bind (wpAny_letGo ?_)
 have old2:∀ b o,hp.get? b=some o→((hp.push { cls:=.type "list",data:=.seq #[] }).update hp.objs.size (Obj.mapSeq (fun _=>(#[]:Array Value)))).get? b=some o:=fun b o e =>
  (Heap.get?_update_other _ _ (Nat.ne_of_gt (Heap.lt_size e))).trans (Heap.get?_push_of_some _ e)
 unfold Builtin.List.listExtendWith
 refine wpAny_bind (wpAny_typeOf (T:="zip") ⟨_,old2 _ _ hz,rfl⟩ ?_)
 have e1:Builtin.List.listSameRef (.ref hp.objs.size) (.ref (s.heap.objs.size+4))=false:=by
  have:hp.objs.size≠s.heap.objs.size+4:=by omega
  simp[Builtin.List.listSameRef,this]
 have e2:(Value.type "zip" == Value.type "list")=false:=by decide
 have e3:(Value.type "zip" == Value.type "tuple")=false:=by decide
 simp only[e1,e2,e3,Bool.or_false,Bool.false_eq_true,if_false]
 refine wpAny_bind (wpAny_pyIter_zip (old2 _ _ hz) (wpAny_bind (wpAny_holding (zip_hint ⟨_,old2 _ _ hz,rfl⟩ ?_))))
 show wpAny _ _ (rule "list.extend.makes-room" >>= fun _=>Builtin.List.listTouch (.ref hp.objs.size) >>= fun _=>again (.builtin "list.extend.loop" ⟨[.ref hp.objs.size,.ref (s.heap.objs.size+4),.none],[]⟩)) _ _ _
 refine wpAny_bind (wpAny_rule (wpAny_bind ?_))
 show wpAny _ _ (updateSeq hp.objs.size (·.push .none) >>= fun _=>updateSeq hp.objs.size (·.pop)) _ _ _
 refine wpAny_bind (wpAny_updateSeq hS₂ rfl ?_)
 have hS₃:=Heap.get?_update_self (Obj.mapSeq (·.push Value.none)) hS₂ rfl
 refine wpAny_updateSeq (hz:=by seq_fits) hS₃ rfl ?_
 have hS₄:=Heap.get?_update_self (Obj.mapSeq (·.pop)) hS₃ rfl
 have old4:∀ b o,hp.get? b=some o→_:=fun b o (e:hp.get? b=some o)=>(Heap.get?_update_other _ (Obj.mapSeq (·.pop)) (Nat.ne_of_gt (Heap.lt_size e))).trans ((Heap.get?_update_other _ (Obj.mapSeq (·.push Value.none)) (Nat.ne_of_gt (Heap.lt_size e))).trans (old2 b o e))
 refine wpAny_pure ⟨plainId_quiet PySem.F.plain_extend_loop _,?_⟩
 generalize ((((hp.push { cls:=.type "list",data:=.seq #[] }).update hp.objs.size (Obj.mapSeq (fun _=>(#[]:Array Value)))).update hp.objs.size (Obj.mapSeq (·.push Value.none))).update hp.objs.size (Obj.mapSeq (·.pop)))=h4 at hS₄ old4 ⊢
 have hs6:s.heap.objs.size≤s.heap.objs.size+4∧s.heap.objs.size≤s.heap.objs.size+2∧s.heap.objs.size≤s.heap.objs.size+3∧s.heap.objs.size≤s.heap.objs.size∧s.heap.objs.size≤s.heap.objs.size+1∧s.heap.objs.size≤hp.objs.size:=by omega
 have dS:hp.objs.size≠s.heap.objs.size+4∧hp.objs.size≠s.heap.objs.size+2∧hp.objs.size≠s.heap.objs.size+3∧hp.objs.size≠s.heap.objs.size∧hp.objs.size≠s.heap.objs.size+1:=by omega
 have dT:s.heap.objs.size+2≠s.heap.objs.size+4∧s.heap.objs.size+2≠s.heap.objs.size+3∧s.heap.objs.size+2≠s.heap.objs.size∧s.heap.objs.size+2≠s.heap.objs.size+1:=by omega
 have F0:Filling s (s.heap.objs.size+4) (s.heap.objs.size+2) (s.heap.objs.size+3) s.heap.objs.size (s.heap.objs.size+1) l1 l2 hp.objs.size xs ys 0 #[] h4 [] :=
  ⟨fun b o e=>old4 _ _ (hk b o e),.inl ⟨rfl,old4 _ _ hz⟩,old4 _ _ hTI,⟨_,_,old4 _ _ hTO⟩,hit1.at fun o e=>old4 _ o e,hit2.at fun o e=>old4 _ o e,⟨_,hS₄⟩,rfl,rfl,fun j T z=>by simp at z,List.Pairwise.nil⟩
 refine fill_loop (n:=xs.size) (fun i acc s'=>∃ h Ts,s'={ s with heap:=h }∧Filling s (s.heap.objs.size+4) (s.heap.objs.size+2) (s.heap.objs.size+3) s.heap.objs.size (s.heap.objs.size+1) l1 l2 hp.objs.size xs ys i acc h Ts) hn ?_ ?_ ?_ xs.size 0 #[] _ (by omega) (Nat.zero_le _) ⟨h4,[],rfl,F0⟩
 ·rintro i acc s' ⟨h,Ts,rfl,F⟩
  have:=congrArg List.length F.acc
  rw[Array.length_toList,List.length_map,F.len] at this
  exact this
 ·rintro i acc s' E' hi ⟨h,Ts,rfl,F⟩
  have hx:xs[i]?=some xs[i]:=Array.getElem?_eq_getElem hi
  have hy:ys[i]?=some (ys[i]'(by omega)):=Array.getElem?_eq_getElem (by omega)
  have li1:h.IsList l1 xs:=hl1.at fun o e=>F.kept _ o e
  have li2:h.IsList l2 ys:=hl2.at fun o e=>F.kept _ o e
  rcases F.zip with⟨rfl,e⟩ | ⟨T0,f1,e,e0⟩
  ·obtain⟨ta,tb,hto⟩:=F.to_
   refine wpAny_pyNext_zip_item (s:={ s with heap:=h }) D e F.ti hto F.it1 F.it2 li1 li2 hx hy fun h' q1 q2 q3 q4 q5 q6 q7=>?_
   have ets:Ts=[]:=List.length_eq_zero_iff.mp F.len
   obtain⟨⟨c,g1⟩,g2⟩:=F.grow hs6 dS dT hx hy ⟨h.objs.size,false,q1,by rw[ets];rfl⟩ ⟨_,_,q2⟩ q3 q4 q5 q7
   exact⟨_,c,rfl,g1,_,_,rfl,g2⟩
  ·obtain⟨_,_,_,_,_,_,_,_,_,_,al⟩:=F.tup 0 T0 e0
   refine held_pyNext (s:={ s with heap:=h }) D e ⟨_,al⟩ F.ti F.it1 F.it2 li1 li2 hx hy fun h' g1 q1 q2 q3 q4 q5=>?_
   obtain⟨ta,tb,hto⟩:=F.to_
   have lto:=D.TOz
   obtain⟨⟨c,r1⟩,r2⟩:=F.grow hs6 dS dT hx hy ⟨T0,g1,q1,by
    have hl:0<Ts.length:=(List.getElem?_eq_some_iff.mp e0).1
    rw[List.getElem?_append_left hl]
    exact e0⟩ ⟨ta,tb,q5 _ _ D.TOz D.TOi1 D.TOi2 hto⟩ q2 q3 q4 fun c o c1 _ c3 c4 e=>q5 c o c1 c3 c4 e
   exact⟨_,c,rfl,r1,_,_,rfl,r2⟩
 ·rintro acc s' E' ⟨h,Ts,rfl,F⟩
  have li1:h.IsList l1 xs:=hl1.at fun o e=>F.kept _ o e
  rcases F.zip with⟨e,_⟩ | ⟨T0,f1,e,e0⟩
  ·omega
  ·obtain⟨_,_,_,_,_,_,_,_,_,_,al⟩:=F.tup 0 T0 e0
   refine held_end (s:={ s with heap:=h }) (A:=A.in1.in1) hh D e ⟨_,al⟩ F.ti F.it1 li1 (by simp) fun h' kp=>?_
   obtain⟨c,hl⟩:=F.lst
   have ea:acc=(Ts.map Value.ref).toArray:=by rw[← F.acc,Array.toArray_toList]
   refine⟨rfl,rfl,hQ h' Ts _ c (fun (b:Nat) o e=>?_) (by omega) ?_ F.len F.inc fun j T hj=>?_⟩
   ·have hb:(b:Nat)<s.heap.objs.size:=Heap.lt_size e
    exact kp b o (ap (by omega)) (ap (by omega)) (F.kept b o e)
   ·rw[← ea]
    exact kp _ _ dS.1 dS.2.2.2.1 hl
   ·obtain⟨b1,b2,b3,b4,b5,b6,x,y,b7,b8,b9⟩:=F.tup j T hj
    exact⟨b1,b2,x,y,b7,b8,kp _ _ b3 b5 b9⟩
end
end Zp
namespace L2
open PySem PySem.Spec PyProof.Rows
def updAll (H:Hp):List (Addr×HO)→Hp
 | []=>H
 | p::r=>upd (updAll H r) p.1 p.2
theorem updAll_not {H:Hp}{b:Addr}:∀ {L:List (Addr×HO)},b∉L.map (·.1)→updAll H L b=H b
 | [],_=>rfl
 | p::r,h=>by
  have h1:b≠p.1:=fun z=>h (by rw[z];exact List.mem_cons_self ..)
  show upd (updAll H r) p.1 p.2 b=_
  rw[upd_ne h1]
  exact updAll_not fun z=>h (List.mem_cons_of_mem _ z)
theorem updAll_mem {H:Hp}:∀ {L:List (Addr×HO)},(L.map (·.1)).Nodup→∀ p∈L,updAll H L p.1=some p.2
 | [],_,p,h=>by cases h
 | q::r,nd,p,h=>by
  obtain⟨n1,n2⟩:=List.nodup_cons.mp nd
  show upd (updAll H r) q.1 q.2 p.1=_
  rcases List.mem_cons.mp h with rfl | h
  ·exact upd_same
  ·have:p.1≠q.1:=fun z=>n1 (by show q.1∈r.map (·.1);rw[← z];exact List.mem_map_of_mem h)
   rw[upd_ne this]
   exact updAll_mem n2 p h
theorem updAll_inv {H:Hp}{b:Addr}{o:HO}:∀ {L:List (Addr×HO)},updAll H L b=some o→(b,o)∈L∨H b=some o
 | [],h=>.inr h
 | q::r,h=>by
  by_cases e:b=q.1
  ·subst e
   have h2:upd (updAll H r) q.1 q.2 q.1=some o:=h
   rw[upd_same] at h2
   cases h2
   exact .inl (List.mem_cons_self ..)
  ·have h2:upd (updAll H r) q.1 q.2 b=some o:=h
   rw[upd_ne e] at h2
   rcases updAll_inv h2 with z | z
   ·exact .inl (List.mem_cons_of_mem _ z)
   ·exact .inr z
theorem updAll_same {H:Hp}{L:List (Addr×HO)}(h:∀ p∈L,H p.1=none):Same H (updAll H L):=fun b o e=>by
 rw[updAll_not fun z=>?_]
 ·exact e
 ·obtain⟨p,hp,rfl⟩:=List.mem_map.mp z
  rw[h p hp] at e
  cases e
theorem Inv.laidAll {X:Cx}{pins:List (Addr×Obj)}{σ:St}{H:Hp}{s:Shared}{h':Heap}{L:List (Addr×HO)}{t':Nat}(I:Inv X pins σ H s)(k:∀ b u,s.heap.get? b=some u→h'.get? b=some u)(hp:∀ p∈L,s.heap.objs.size≤p.1)
  (new:∀ p∈L,∀ H2,ObjOk X.prog X.w H2 h' p.1 p.2):Inv X pins σ (updAll H L) { s with heap:=h',toks:=t' }:=by
 have sm:Same H (updAll H L):=updAll_same fun p h=>I.hok.fresh (hp p h)
 refine I.step (g':=s.gens) (d':=s.drawn) (t':=t') (ch:=[]) (fun b hb=>by cases hb) (fun b o _ _ _ q _=>k b o q) (fun b o _ _ _ q _=>⟨o.slots,k b o q⟩) (fun b o _ q n=>?_)
  (fun b o _ q=>⟨o,k b o q⟩) (fun b ys q=>sm _ _ q) (fun b o u q=>sm _ _ q) (fun b ps q=>⟨#[],by rw[sm _ _ q];simp⟩) (fun m hm=>?_) (fun b o q=>?_) I.bare
 ·rw[updAll_not fun z=>?_]
  ·exact n
  ·obtain⟨p,h,rfl⟩:=List.mem_map.mp z
   exact absurd (Heap.lt_size q) (Nat.not_lt.mpr (hp p h))
 ·obtain⟨o,es,ep,ho,r⟩:=hm
  exact⟨o,es,ep,k _ o ho,r⟩
 ·rcases updAll_inv q with z | z
  ·exact new _ z _
  ·exact (I.hok b o z).stay (fun c v _ e=>k c v e) (fun c e=>sm _ _ e) fun c ys e=>sm _ _ e
section
variable {X:Cx}
theorem boot_zip:bootBuiltins "zip"=some (.type "zip"):=by decide +kernel
def tLZip (K:PySem.W.Frag)(ta:TA):TE:=fun σ H Q=>ta σ H fun vs H1=>∃ a b xs ys,vs=[.ref a,.ref b]∧SqL K H1 a xs∧SqL K H1 b ys∧0<xs.length∧xs.length≤ys.length ∧
 ∀ (l:Addr) (ts:List Addr) H2,Same H1 H2→H1 l=none→H2 l=some (.lst (ts.map V.ref))→ts.length=xs.length→(∀ (j:Nat) (t:Addr),ts[j]?=some t→H1 t=none∧∃ x y,xs[j]?=some x∧ys[j]?=some y∧H2 t=some (.tup [x,y]))→Q (.ref l) H2
theorem pe_listzip {e1 e2:Expr}{ta:TA}{p pos p2 pos2:Pos}(hc:X.calm=true)(hg2:Gl X "list")(hm2:X.mg "list"=none)(hb2:bootBuiltins "list"=some (.type "list"))(hg:Gl X "zip")(hm:X.mg "zip"=none)(ha:PA X [e1,e2] ta)
  (hs:starEach (e1::[e2]) X.env=(false,eval e1 X.env)::starEach [e2] X.env:=by rfl) (hpl:(backTo pos (starEach [e2] X.env)).any (·.1)=false:=by rfl)
  (hs2:starEach [Expr.Call (.Name "zip" p) [e1,e2] [] pos] X.env=[(false,eval (.Call (.Name "zip" p) [e1,e2] [] pos) X.env)]:=by rfl) :
  PE X (.Call (.Name "list" p2) [.Call (.Name "zip" p) [e1,e2] [] pos] [] pos2) (tLZip X.K ta):=by
 intro pins s σ H Q I h
 refine Call_ (ld_blt I hg2 hm2 hb2 (PyProof.Rows.callWith_type1 ?_ hs2 rfl))
 rw[hs2]
 refine Calls.spliced_cons ?_
 refine Call_ (ld_blt I hg hm boot_zip (PyProof.Rows.callWith_type1 (thn (ha pos pins s σ H _ I h) fun us s1 ⟨vs,H1,I1,r1,q1⟩=>?_) hs hpl))
 obtain⟨a,b,xs,ys,e,ha1,hb1,h0,hle,q⟩:=q1
 subst e
 obtain⟨u,v,rfl,ra,rb⟩:=Vals.two r1
 cases ra
 cases rb
 obtain⟨itx,rvx,plx,hzx⟩:=I1.list ha1
 obtain⟨ity,rvy,ply,hzy⟩:=I1.list hb1
 have lx:=rvx.length
 have ly:=rvy.length
 refine wpAny_mono (Zp.list_zip (Q:=EP X pins σ Q) (E:=X.xe) (I1.ok.hd hc) plx.isList ply.isList (by rw[List.size_toArray];omega) (by rw[List.size_toArray,List.size_toArray];omega) (by rw[List.size_toArray];omega) fun h' Ts S c kp hS hl hn inc ht=>?_) (fun z s2 hz=>Calls.spliced_nil hz) fun _ _ e=>e
 rw[List.size_toArray] at hn
 have lzz:Ts.length=((xs.zip ys).map fun p=>HO.tup [p.1,p.2]).length:=by rw[List.length_map,List.length_zip];omega
 have ek:(Ts.zip ((xs.zip ys).map fun p=>HO.tup [p.1,p.2])).map (·.1)=Ts:=List.map_fst_zip (Nat.le_of_eq lzz)
 have at_:∀ (j:Nat) (T:Addr) (x y:V),Ts[j]?=some T→xs[j]?=some x→ys[j]?=some y→(Ts.zip ((xs.zip ys).map fun p=>HO.tup [p.1,p.2]))[j]?=some (T,HO.tup [x,y]):=fun j T x y e1 e2 e3=>by
  rw[List.getElem?_zip_eq_some]
  refine⟨e1,?_⟩
  rw[List.getElem?_map]
  have:(xs.zip ys)[j]?=some (x,y):=List.getElem?_zip_eq_some.mpr ⟨e2,e3⟩
  rw[this]
  rfl
 have vr:∀ as:List Addr,Vals (as.map V.ref) (as.map Value.ref):=fun as=>by
  induction as with
  | nil=>exact .nil
  | cons a as ih=>exact .cons rfl ih
 have nS:S∉Ts:=fun z=>by
  obtain⟨j,hj⟩:=List.getElem?_of_mem z
  exact (ht j S hj).2.1 rfl
 have nd:(((S,HO.lst (Ts.map V.ref))::Ts.zip ((xs.zip ys).map fun p=>HO.tup [p.1,p.2])).map (·.1)).Nodup:=by
  rw[List.map_cons,ek]
  exact List.nodup_cons.mpr ⟨nS,inc.imp fun q=>Nat.ne_of_lt q⟩
 have l2:(2:Nat)≤sizeLine:=by rw[sizeLine_eq];decide
 have frs:∀ p∈(S,HO.lst (Ts.map V.ref))::Ts.zip ((xs.zip ys).map fun p=>HO.tup [p.1,p.2]),s1.heap.objs.size≤p.1:=fun p hp=>by
  rcases List.mem_cons.mp hp with rfl | hp
  ·exact hS
  ·have:p.1∈Ts:=by
    have:=List.mem_map_of_mem (f:=(·.1)) hp
    rw[ek] at this
    exact this
   obtain⟨j,hj⟩:=List.getElem?_of_mem this
   exact (ht j _ hj).1
 have I2:=I1.laidAll (t':=s1.toks) (L:=(S,HO.lst (Ts.map V.ref))::Ts.zip ((xs.zip ys).map fun p=>HO.tup [p.1,p.2])) kp frs fun p hp H2=>by
  rcases List.mem_cons.mp hp with rfl | hp
  ·exact⟨by rw[List.length_map];omega,Ts.map Value.ref,c,vr Ts,hl⟩
  ·obtain⟨j,hj⟩:=List.getElem?_of_mem hp
   obtain⟨e1,e2⟩:=List.getElem?_zip_eq_some.mp hj
   rw[List.getElem?_map] at e2
   cases e3:(xs.zip ys)[j]? with
   | none=>rw[e3] at e2;cases e2
   | some xy =>
    rw[e3] at e2
    obtain⟨ex,ey⟩:=List.getElem?_zip_eq_some.mp e3
    have e2:HO.tup [xy.1,xy.2]=p.2:=by simpa using e2
    rw[← e2]
    obtain⟨_,_,x',y',f1,f2,f3⟩:=ht j p.1 e1
    obtain⟨u1,g1,g2⟩:=rvx.get ex
    obtain⟨u2,g3,g4⟩:=rvy.get ey
    have i1:u1=x':=by
     have:itx[j]?=some x':=by simpa using f1
     rw[g1] at this
     exact Option.some.inj this
    have i2:u2=y':=by
     have:ity[j]?=some y':=by simpa using f2
     rw[g3] at this
     exact Option.some.inj this
    subst i1 i2
    exact⟨l2,[u1,u2],.cons g2 (.cons g4 .nil),⟨_,f3,rfl,_,rfl⟩⟩
 refine⟨.ref S,_,I2,rfl,q S Ts _ (updAll_same fun p hp=>I1.hok.fresh (frs p hp)) (I1.hok.fresh hS) (updAll_mem nd _ (List.mem_cons_self ..)) (by omega) fun j T hj=>?_⟩
 have hjx:j<xs.length:=by have:=(List.getElem?_eq_some_iff.mp hj).1;omega
 have e1:xs[j]?=some xs[j]:=List.getElem?_eq_getElem hjx
 have e2:ys[j]?=some (ys[j]'(by omega)):=List.getElem?_eq_getElem (by omega)
 exact⟨I1.hok.fresh (ht j T hj).1,_,_,e1,e2,updAll_mem nd (T,_) (List.mem_cons_of_mem _ (List.mem_of_getElem? (at_ j T _ _ hj e1 e2)))⟩
end
end L2
namespace Zp
open PySem PyProof.Rows
theorem typeCall3 (a b c:Value):checkTypeCall "zip" ⟨[a,b,c],[]⟩=pure ():=by kernel_rfl
theorem newCall3 (a b c:Value):checkBuiltinCall "zip.__new__" ⟨[.type "zip",a,b,c],[]⟩=pure ():=by kernel_rfl
theorem init4 (a b c d:Value):argsOk "object.__init__" ⟨[a,b,c,d],[]⟩:=by
 unfold argsOk;rw[signature?_of (id:="object.__init__") (n:=['_','_','t','i','n','i','_','_']) (o:=['t','c','e','j','b','o']) (by kernel_rfl) PySem.F.owner_object];kernel_rfl
abbrev Trip (h:Heap)(T:Addr)(a b c:Value):Prop:=h.get? T=some { cls:=.type "tuple",data:=.seq #[a,b,c] }
abbrev itOf (l:Addr):Obj:={ cls:=.type "list_iterator",data:=.fields #[.ref l,.int 0 0] }
abbrev q1 (h:Heap)(l1:Addr):Heap:=h.push (itOf l1)
abbrev q2 (h:Heap)(l1 l2:Addr):Heap:=(q1 h l1).push (itOf l2)
abbrev q3 (h:Heap)(l1 l2 l3:Addr):Heap:=(q2 h l1 l2).push (itOf l3)
abbrev q4 (h:Heap)(l1 l2 l3:Addr):Heap:=(q3 h l1 l2 l3).push { cls:=.type "tuple",data:=.seq #[.ref h.objs.size,.ref (q1 h l1).objs.size,.ref (q2 h l1 l2).objs.size] }
abbrev q5 (h:Heap)(l1 l2 l3:Addr):Heap:=(q4 h l1 l2 l3).push { cls:=.type "tuple",data:=.seq #[.none,.none,.none] }
abbrev q6 (h:Heap)(l1 l2 l3:Addr):Heap:=(q5 h l1 l2 l3).push { cls:=.type "zip",data:=.fields #[.none,.bool false,.bool false,.ref (q3 h l1 l2 l3).objs.size,.ref (q4 h l1 l2 l3).objs.size] }
theorem meets_new3 (l1 l2 l3:Addr)(xs ys zs:Array Value) :
  Meets (Builtin.«zip.__new__» ⟨[.type "zip",.ref l1,.ref l2,.ref l3],[]⟩) (fun _ R s=>s.heap.IsList l1 xs∧s.heap.IsList l2 ys∧s.heap.IsList l3 zs∧R (.ok (.ret (.ref (q5 s.heap l1 l2 l3).objs.size))) { s with heap:=q6 s.heap l1 l2 l3 }) :=
 .of_wp fun prog w A R s h=>by
  obtain⟨hp,g,d,tk,os⟩:=s;obtain⟨hl1,hl2,hl3,h⟩:=h
  have hsub:=sub_zip
  have L1:Heap.IsList (Shared.heap ⟨hp,g,d,tk,os⟩) l1 xs:=hl1
  have L2:Heap.IsList (Shared.heap ⟨hp.push (itOf l1),g,d,tk,os⟩) l2 ys:=Heap.IsList.push hl2 _
  have L3:Heap.IsList (Shared.heap ⟨(hp.push (itOf l1)).push (itOf l2),g,d,tk,os⟩) l3 zs:=Heap.IsList.push (Heap.IsList.push hl3 _) _
  wp_walk using wpAny_pyIter_list L1,wpAny_pyIter_list L2,wpAny_pyIter_list L3
  exact⟨_,rfl,h⟩
section
variable {prog:Program}{w:World}{A:Around}{E:Value→Shared→Prop}{s:Shared}
theorem call_zip3 {l1 l2 l3:Addr}{xs ys zs:Array Value}{Q:Value→Shared→Prop}(hl1:s.heap.IsList l1 xs)(hl2:s.heap.IsList l2 ys)(hl3:s.heap.IsList l3 zs)
  (h:∀ h',IsZip h' (s.heap.objs.size+5) (s.heap.objs.size+3) (s.heap.objs.size+4) .none→Trip h' (s.heap.objs.size+3) (.ref s.heap.objs.size) (.ref (s.heap.objs.size+1)) (.ref (s.heap.objs.size+2)) →
   Trip h' (s.heap.objs.size+4) .none .none .none→h'.IsListIter s.heap.objs.size l1 0→h'.IsListIter (s.heap.objs.size+1) l2 0→h'.IsListIter (s.heap.objs.size+2) l3 0 →
   (∀ c o,s.heap.get? c=some o→h'.get? c=some o)→Q (.ref (s.heap.objs.size+5)) { s with heap:=h' }) :
  wpAny (model prog w) A (call (.type "zip") [.ref l1,.ref l2,.ref l3]) Q E s:=by
 refine callType_new PySem.F.called_zip (by decide) (typeCall3 _ _ _) (newCall3 _ _ _) (fun obj=>init4 obj _ _ _) PySem.F.entry_zip_new (meets_new3 l1 l2 l3 xs ys zs) ⟨hl1,hl2,hl3,?_⟩
 have z1:(q1 s.heap l1).objs.size=s.heap.objs.size+1:=Heap.size_push ..
 have z2:(q2 s.heap l1 l2).objs.size=s.heap.objs.size+2:=by rw[Heap.size_push,z1]
 have z3:(q3 s.heap l1 l2 l3).objs.size=s.heap.objs.size+3:=by rw[Heap.size_push,z2]
 have z4:(q4 s.heap l1 l2 l3).objs.size=s.heap.objs.size+4:=by rw[Heap.size_push,z3]
 have z5:(q5 s.heap l1 l2 l3).objs.size=s.heap.objs.size+5:=by rw[Heap.size_push,z4]
 have up:∀ {hh:Heap}{o:Obj}{b:Addr}{ob:Obj},hh.get? b=some ob→(hh.push o).get? b=some ob:=fun e=>Heap.get?_push_of_some _ e
 have g6:(q6 s.heap l1 l2 l3).get? (q5 s.heap l1 l2 l3).objs.size=some _:=Heap.get?_push_size _ rfl
 have g5:(q6 s.heap l1 l2 l3).get? (q4 s.heap l1 l2 l3).objs.size=some _:=up (Heap.get?_push_size _ rfl)
 have g4:(q6 s.heap l1 l2 l3).get? (q3 s.heap l1 l2 l3).objs.size=some _:=up (up (Heap.get?_push_size _ rfl))
 have g3:(q6 s.heap l1 l2 l3).get? (q2 s.heap l1 l2).objs.size=some _:=up (up (up (Heap.get?_push_size _ rfl)))
 have g2:(q6 s.heap l1 l2 l3).get? (q1 s.heap l1).objs.size=some _:=up (up (up (up (Heap.get?_push_size _ rfl))))
 have g1:(q6 s.heap l1 l2 l3).get? s.heap.objs.size=some _:=up (up (up (up (up (Heap.get?_push_size _ rfl)))))
 show _∧_
 rw[z3,z4,z5] at g6
 rw[z1,z2,z3] at g4
 rw[z4] at g5
 rw[z2] at g3
 rw[z1] at g2
 rw[z5]
 exact⟨⟨_,g6,rfl⟩,h _ g6 g4 g5 ⟨_,g1,rfl,rfl⟩ ⟨_,g2,rfl,rfl⟩ ⟨_,g3,rfl,rfl⟩ fun c o x=>up (up (up (up (up (up x)))))⟩
theorem upd_trip {T:Addr}{a b c x:Value}{k:Nat}{Q:Unit→Shared→Prop}(hT:Trip s.heap T a b c)
  (h:∀ h',h'.get? T=some { cls:=.type "tuple",data:=.seq ((#[a,b,c]:Array Value).setIfInBounds k x) }→Heap.SameBut T s.heap h'→Q () { s with heap:=h' }) :
  wpAny (model prog w) A (updateSeq T (·.setIfInBounds k x)) Q E s:=by
 refine wpAny_updateSeq hT rfl (h _ ?_ (Heap.SameBut.update ..))
 rw[Heap.get?_update_self _ hT rfl]
 simp[Obj.mapSeq]
theorem next3 {n l1 l2 l3:Nat}{k:Nat}{xs ys zs:Array Value}{x y v a b c:Value}{Q:Value→Shared→Prop}(b1:l1<n)(b2:l2<n)(b3:l3<n)
  (hz:IsZip s.heap (n+5) (n+3) (n+4) .none) (hTI:Trip s.heap (n+3) (.ref n) (.ref (n+1)) (.ref (n+2))) (hTO:Trip s.heap (n+4) a b c)
  (h1:s.heap.IsListIter n l1 k) (h2:s.heap.IsListIter (n+1) l2 k) (h3:s.heap.IsListIter (n+2) l3 k) (hl1:s.heap.IsList l1 xs) (hl2:s.heap.IsList l2 ys) (hl3:s.heap.IsList l3 zs) (hx:xs[k]?=some x) (hy:ys[k]?=some y) (hv:zs[k]?=some v)
  (hQ:∀ h',IsZip h' (n+5) (n+3) (n+4) (rawInt s.heap.objs.size)→Trip h' (n+4) x y v→h'.IsListIter n l1 (k+1)→h'.IsListIter (n+1) l2 (k+1)→h'.IsListIter (n+2) l3 (k+1)→Trip h' s.heap.objs.size x y v →
   (∀ (c:Nat) o,c≠n+5→c≠n+4→c≠n→c≠n+1→c≠n+2→s.heap.get? c=some o→h'.get? c=some o)→Q (.ref s.heap.objs.size) { s with heap:=h' }) :
  wpAny (model prog w) A (Builtin.«zip.__next__» ⟨[.ref (n+5)],[]⟩) (fun fin s'=>∃ v,fin=.done (.ret v)∧Q v s') E s:=by
 show wpAny _ _ (field (.ref (n+5)) 2 >>= _) _ _ _
 refine wpAny_bind (wpAny_field hz rfl (x:=.bool false) rfl ?_)
 show wpAny _ _ (field (.ref (n+5)) 3 >>= _) _ _ _
 refine wpAny_bind (wpAny_field hz rfl (x:=.ref (n+3)) rfl (wpAny_bind (wpAny_seqItems hTI rfl ?_)))
 show wpAny _ _ (Builtin.SmallTypes.ownedTupleIsFree (.ref (n+5)) >>= _) _ _ _
 refine wpAny_bind ?_
 unfold Builtin.SmallTypes.ownedTupleIsFree
 refine wpAny_bind (wpAny_field hz rfl (x:=.none) rfl (wpAny_pure ?_))
 simp only[if_true]
 refine wpAny_bind (wpAny_rule (wpAny_bind (wpAny_field hz rfl (x:=.ref (n+4)) rfl (wpAny_bind (wpAny_setField_rec hz (by simp) fun k1 hz1 t1=>?_)))))
 replace hz1:IsZip k1 (n+5) (n+3) (n+4) .ellipsis:=hz1
 refine wpAny_bind ?_
 simp only[List.zipIdx_cons,List.zipIdx_nil,List.forIn_cons,List.forIn_nil]
 refine wpAny_bind (wpAny_bind (wpAny_onRaise ?_))
 show wpAny _ _ (Builtin.SmallTypes.nextOf (.ref n) >>= _) _ _ _
 refine wpAny_bind (wpAny_nextOf_list_item (h1.extBut t1.extBut (Zp.ap (by omega))) (hl1.extBut t1.extBut (Zp.ap (by omega))) hx fun k2 g2 t2=>wpAny_pure ?_)
 have o2:Trip k2 (n+4) a b c:=t2.extBut _ _ (Zp.ap (by omega)) (t1.extBut _ _ (Zp.ap (by omega)) hTO)
 refine wpAny_bind (wpAny_seqItems o2 rfl (wpAny_bind (upd_trip o2 fun k3 o3 t3=>wpAny_bind (wpAny_letGo (wpAny_pure ?_)))))
 replace o3:Trip k3 (n+4) x b c:=o3
 refine wpAny_bind (wpAny_bind (wpAny_onRaise ?_))
 show wpAny _ _ (Builtin.SmallTypes.nextOf (.ref (n+1)) >>= _) _ _ _
 refine wpAny_bind (wpAny_nextOf_list_item (((h2.extBut t1.extBut (Zp.ap (by omega))).extBut t2.extBut (Zp.ap (by omega))).extBut t3.extBut (Zp.ap (by omega))) (((hl2.extBut t1.extBut (Zp.ap (by omega))).extBut t2.extBut (Zp.ap (by omega))).extBut t3.extBut (Zp.ap (by omega))) hy fun k4 g4 t4=>wpAny_pure ?_)
 have o4:Trip k4 (n+4) x b c:=t4.extBut _ _ (Zp.ap (by omega)) o3
 refine wpAny_bind (wpAny_seqItems o4 rfl (wpAny_bind (upd_trip o4 fun k5 o5 t5=>wpAny_bind (wpAny_letGo (wpAny_pure ?_)))))
 replace o5:Trip k5 (n+4) x y c:=o5
 refine wpAny_bind (wpAny_bind (wpAny_onRaise ?_))
 show wpAny _ _ (Builtin.SmallTypes.nextOf (.ref (n+2)) >>= _) _ _ _
 refine wpAny_bind (wpAny_nextOf_list_item (((((h3.extBut t1.extBut (Zp.ap (by omega))).extBut t2.extBut (Zp.ap (by omega))).extBut t3.extBut (Zp.ap (by omega))).extBut t4.extBut (Zp.ap (by omega))).extBut t5.extBut (Zp.ap (by omega))) (((((hl3.extBut t1.extBut (Zp.ap (by omega))).extBut t2.extBut (Zp.ap (by omega))).extBut t3.extBut (Zp.ap (by omega))).extBut t4.extBut (Zp.ap (by omega))).extBut t5.extBut (Zp.ap (by omega))) hv fun k6 g6 t6=>wpAny_pure ?_)
 have o6:Trip k6 (n+4) x y c:=t6.extBut _ _ (Zp.ap (by omega)) o5
 refine wpAny_bind (wpAny_seqItems o6 rfl (wpAny_bind (upd_trip o6 fun k7 o7 t7=>wpAny_bind (wpAny_letGo (wpAny_pure (wpAny_pure ?_))))))
 replace o7:Trip k7 (n+4) x y v:=o7
 refine wpAny_bind (wpAny_seqItems o7 rfl (wpAny_bind (wpAny_newTuple ?_)))
 have hsz:k7.objs.size=s.heap.objs.size:=by rw[t7.1,t6.1,t5.1,t4.1,t3.1,t2.1,t1.1]
 have keep:∀ (c:Nat) o,c≠n+5→c≠n+4→c≠n→c≠n+1→c≠n+2→s.heap.get? c=some o→k7.get? c=some o:=fun c o c1 c2 c3 c4 c5 e =>
  t7.extBut _ _ c2 (t6.extBut _ _ c5 (t5.extBut _ _ c2 (t4.extBut _ _ c4 (t3.extBut _ _ c2 (t2.extBut _ _ c3 (t1.extBut _ _ c1 e))))))
 have z7:IsZip k7 (n+5) (n+3) (n+4) .ellipsis:=t7.extBut _ _ (Zp.ap (by omega)) (t6.extBut _ _ (Zp.ap (by omega)) (t5.extBut _ _ (Zp.ap (by omega)) (t4.extBut _ _ (Zp.ap (by omega)) (t3.extBut _ _ (Zp.ap (by omega)) (t2.extBut _ _ (Zp.ap (by omega)) hz1)))))
 have i7:k7.IsListIter n l1 (k+1):=((((g2.extBut t3.extBut (Zp.ap (by omega))).extBut t4.extBut (Zp.ap (by omega))).extBut t5.extBut (Zp.ap (by omega))).extBut t6.extBut (Zp.ap (by omega))).extBut t7.extBut (Zp.ap (by omega))
 have j7:k7.IsListIter (n+1) l2 (k+1):=((g4.extBut t5.extBut (Zp.ap (by omega))).extBut t6.extBut (Zp.ap (by omega))).extBut t7.extBut (Zp.ap (by omega))
 have m7:k7.IsListIter (n+2) l3 (k+1):=g6.extBut t7.extBut (Zp.ap (by omega))
 have lz:(n+5:Nat)<k7.objs.size:=Heap.lt_size z7
 show wpAny _ _ (Builtin.SmallTypes.ownedTupleHandOut (.ref (n+5)) (.ref k7.objs.size) >>= _) _ _ _
 refine wpAny_bind ?_
 unfold Builtin.SmallTypes.ownedTupleHandOut
 have z8:IsZip (k7.push { cls:=.type "tuple",data:=.seq #[x,y,v] }) (n+5) (n+3) (n+4) .ellipsis:=Heap.get?_push_of_some _ z7
 refine wpAny_bind (wpAny_setField_rec z8 (by simp) fun k9 z9 t9=>?_)
 replace z9:IsZip k9 (n+5) (n+3) (n+4) (rawInt k7.objs.size):=z9
 refine wpAny_setField_rec z9 (by simp) fun k10 z10 t10=>?_
 replace z10:IsZip k10 (n+5) (n+3) (n+4) (rawInt k7.objs.size):=z10
 have up:∀ (c:Nat) o,c≠n+5→k7.get? c=some o→k10.get? c=some o:=fun c o c1 e=>t10.extBut _ _ c1 (t9.extBut _ _ c1 (Heap.get?_push_of_some _ e))
 have T10:Trip k10 k7.objs.size x y v:=t10.extBut _ _ (Zp.ap (by omega)) (t9.extBut _ _ (Zp.ap (by omega)) (Heap.get?_push_size _ rfl))
 rw[hsz] at z10 T10
 refine wpAny_pure ⟨_,rfl,?_⟩
 show Q (.ref k7.objs.size) _
 rw[hsz]
 exact hQ k10 z10 (up _ _ (Zp.ap (by omega)) o7) (i7.at fun o e=>up _ o (Zp.ap (by omega)) e) (j7.at fun o e=>up _ o (Zp.ap (by omega)) e) (m7.at fun o e=>up _ o (Zp.ap (by omega)) e) T10 fun c o c1 c2 c3 c4 c5 e=>up c o c1 (keep c o c1 c2 c3 c4 c5 e)
theorem pyNext3 {n l1 l2 l3:Nat}{k:Nat}{xs ys zs:Array Value}{x y v a b c:Value}{Q:Option Value→Shared→Prop}(b1:l1<n)(b2:l2<n)(b3:l3<n)
  (hz:IsZip s.heap (n+5) (n+3) (n+4) .none) (hTI:Trip s.heap (n+3) (.ref n) (.ref (n+1)) (.ref (n+2))) (hTO:Trip s.heap (n+4) a b c)
  (h1:s.heap.IsListIter n l1 k) (h2:s.heap.IsListIter (n+1) l2 k) (h3:s.heap.IsListIter (n+2) l3 k) (hl1:s.heap.IsList l1 xs) (hl2:s.heap.IsList l2 ys) (hl3:s.heap.IsList l3 zs) (hx:xs[k]?=some x) (hy:ys[k]?=some y) (hv:zs[k]?=some v)
  (hQ:∀ h',IsZip h' (n+5) (n+3) (n+4) (rawInt s.heap.objs.size)→Trip h' (n+4) x y v→h'.IsListIter n l1 (k+1)→h'.IsListIter (n+1) l2 (k+1)→h'.IsListIter (n+2) l3 (k+1)→Trip h' s.heap.objs.size x y v →
   (∀ (c:Nat) o,c≠n+5→c≠n+4→c≠n→c≠n+1→c≠n+2→s.heap.get? c=some o→h'.get? c=some o)→Q (some (.ref s.heap.objs.size)) { s with heap:=h' }) :
  wpAny (model prog w) A (pyNext (.ref (n+5))) Q E s:=by
 have hT:s.TypeIs (.ref (n+5)) "zip":=⟨_,hz,rfl⟩
 unfold pyNext
 exact wpAny_bind (wpAny_attempt (wpAny_callSpecial?_slot (name:=Str.ofString "__next__") hT PySem.F.slot_zip_next (wpAny_call_entry PySem.F.slot_zip_next hT PySem.F.entry_zip_next
  (next3 b1 b2 b3 hz hTI hTO h1 h2 h3 hl1 hl2 hl3 hx hy hv fun h' a1 a2 a3 a4 a5 a6 a7=>wpAny_pure (hQ h' a1 a2 a3 a4 a5 a6 a7)) (PySem.F.args_zip_next_1 _))))
theorem end3 {n l1:Nat}{k:Nat}{xs:Array Value}{Q:Option Value→Shared→Prop}(hh:A.handled=none)(b1:l1<n)
  (hz:IsZip s.heap (n+5) (n+3) (n+4) .none) (hTI:Trip s.heap (n+3) (.ref n) (.ref (n+1)) (.ref (n+2))) (h1:s.heap.IsListIter n l1 k) (hl1:s.heap.IsList l1 xs) (hx:xs[k]?=none)
  (hQ:∀ h',(∀ (c:Nat) o,c≠n+5→c≠n→s.heap.get? c=some o→h'.get? c=some o)→Q none { s with heap:=h' }):wpAny (model prog w) A (pyNext (.ref (n+5))) Q E s:=by
 have hT:s.TypeIs (.ref (n+5)) "zip":=⟨_,hz,rfl⟩
 unfold pyNext
 refine wpAny_bind (wpAny_attempt (wpAny_callSpecial?_slot (name:=Str.ofString "__next__") hT PySem.F.slot_zip_next (wpAny_call_entry PySem.F.slot_zip_next hT PySem.F.entry_zip_next ?_ (PySem.F.args_zip_next_1 _))))
 show wpAny _ _ (field (.ref (n+5)) 2 >>= _) _ _ _
 refine wpAny_bind (wpAny_field hz rfl (x:=.bool false) rfl ?_)
 show wpAny _ _ (field (.ref (n+5)) 3 >>= _) _ _ _
 refine wpAny_bind (wpAny_field hz rfl (x:=.ref (n+3)) rfl (wpAny_bind (wpAny_seqItems hTI rfl ?_)))
 show wpAny _ _ (Builtin.SmallTypes.ownedTupleIsFree (.ref (n+5)) >>= _) _ _ _
 refine wpAny_bind ?_
 unfold Builtin.SmallTypes.ownedTupleIsFree
 refine wpAny_bind (wpAny_field hz rfl (x:=.none) rfl (wpAny_pure ?_))
 simp only[if_true]
 refine wpAny_bind (wpAny_rule (wpAny_bind (wpAny_field hz rfl (x:=.ref (n+4)) rfl (wpAny_bind (wpAny_setField_rec hz (by simp) fun k1 hz1 t1=>?_)))))
 replace hz1:IsZip k1 (n+5) (n+3) (n+4) .ellipsis:=hz1
 refine wpAny_bind ?_
 simp only[List.zipIdx_cons,List.zipIdx_nil,List.forIn_cons,List.forIn_nil]
 refine wpAny_bind (wpAny_bind (wpAny_onRaise ?_))
 show wpAny _ _ (Builtin.SmallTypes.nextOf (.ref n) >>= _) _ _ _
 refine wpAny_bind (wpAny_nextOf_list_end hh (h1.extBut t1.extBut (Zp.ap (by omega))) (hl1.extBut t1.extBut (Zp.ap (by omega))) hx fun k2 e t2 he=>?_)
 obtain⟨oe,hoe,hce⟩:=he
 have z2:IsZip k2 (n+5) (n+3) (n+4) .ellipsis:=t2 _ _ (Zp.ap (by omega)) hz1
 have nez:e≠n+5:=fun q=>by subst q;rw[z2] at hoe;cases hoe;simp at hce
 refine wpAny_setField_rec z2 (by simp) fun k3 _ t3=>?_
 refine wpAny_bind (wpAny_isInstance (T:="StopIteration") (b:=true) ⟨oe,t3.extBut _ _ nez hoe,hce⟩ isSubtype_stop ?_)
 exact wpAny_pure (hQ _ fun c o c1 c2 e=>t3.extBut _ _ c1 (t2 _ _ c2 (t1.extBut _ _ c1 e)))
end
end Zp
namespace L2
open PySem PySem.Spec PyProof.Rows
def Itz (K:PySem.W.Frag)(a b c:Addr):It :=
 ⟨fun i H=>∃ xs ys zs x y z,SqL K H a xs∧SqL K H b ys∧SqL K H c zs∧xs[i]?=some x∧ys[i]?=some y∧zs[i]?=some z,
  fun i H v H'=>∃ t x y z,H t=none∧v=.ref t∧H'=upd H t (.tup [x,y,z])∧(∀ xs,SqL K H a xs→xs[i]?=some x)∧(∀ ys,SqL K H b ys→ys[i]?=some y)∧∀ zs,SqL K H c zs→zs[i]?=some z,
  fun i H=>∃ xs,SqL K H a xs∧xs.length≤i⟩
theorem turn_zip3 {P:Program}{w:World}{K:PySem.W.Frag}{elts:List Expr}{k1:Nat}{tp:Pos}(n a b c:Nat)(b1:a<n)(b2:b<n)(b3:c<n) :
  Turn P w K (.Tuple elts k1 tp) (Itz K a b c) [n+5,n+3,n+4,n,n+1,n+2] (n+5) (fun i h=>IsZip h (n+5) (n+3) (n+4) .none∧Zp.Trip h (n+3) (.ref n) (.ref (n+1)) (.ref (n+2))∧(∃ u v x,Zp.Trip h (n+4) u v x)∧h.IsListIter n a i∧h.IsListIter (n+1) b i∧h.IsListIter (n+2) c i) where
 mem:=by simp
 obj:=fun i h st q hq=>by
  obtain⟨h1,h2,⟨_,_,_,h3⟩,⟨o4,h4,_,d4⟩,⟨o5,h5,_,d5⟩,⟨o6,h6,_,d6⟩⟩:=st
  simp only[List.mem_cons,List.not_mem_nil,or_false] at hq
  rcases hq with rfl | rfl | rfl | rfl | rfl | rfl
  ·exact⟨_,h1,fun v z=>by cases z⟩
  ·exact⟨_,h2,fun v z=>by cases z⟩
  ·exact⟨_,h3,fun v z=>by cases z⟩
  ·exact⟨o4,h4,fun v z=>by rw[d4] at z;cases z⟩
  ·exact⟨o5,h5,fun v z=>by rw[d5] at z;cases z⟩
  ·exact⟨o6,h6,fun v z=>by rw[d6] at z;cases z⟩
 keep:=fun i h h' st k=>by
  obtain⟨h1,h2,⟨u,v,x,h3⟩,h4,h5,h6⟩:=st
  exact⟨k _ (by simp) _ h1,k _ (by simp) _ h2,⟨u,v,x,k _ (by simp) _ h3⟩,h4.at fun o q=>k _ (by simp) o q,h5.at fun o q=>k _ (by simp) o q,h6.at fun o q=>k _ (by simp) o q⟩
 item:=by
  intro X hP hw hK hc i pins s σ H E I hf st hg
  subst hP hw hK
  obtain⟨h1,h2,⟨u,v,w',h3⟩,h4,h5,h6⟩:=st
  obtain⟨xs,ys,zs,x,y,z,qa,qb,qc,ex,ey,ez⟩:=hg
  obtain⟨itx,rx,px,_⟩:=I.list qa
  obtain⟨ity,ry,py,_⟩:=I.list qb
  obtain⟨itz,rz,pz,_⟩:=I.list qc
  obtain⟨ux,gx,rvx⟩:=rx.get ex
  obtain⟨uy,gy,rvy⟩:=ry.get ey
  obtain⟨uz,gz,rvz⟩:=rz.get ez
  refine Zp.pyNext3 b1 b2 b3 h1 h2 h3 h4 h5 h6 px.isList py.isList pz.isList (x:=ux) (y:=uy) (v:=uz) (by simpa using gx) (by simpa using gy) (by simpa using gz) fun k1 a1 a2 a3 a4 a5 a6 a7=>⟨_,rfl,?_⟩
  refine wpAny_letOwnedTupleGo_zip a1 fun k2 z2 t2=>?_
  have lt5:(n+5:Nat)<s.heap.objs.size:=Heap.lt_size h1
  have kp2:∀ q o,q∉[n+5,n+4,n,n+1,n+2]→s.heap.get? q=some o→k2.get? q=some o:=fun q o hq e=>by
   simp only[List.mem_cons,List.not_mem_nil,or_false,not_or] at hq
   exact t2.extBut _ _ hq.1 (a7 q o hq.1 hq.2.1 hq.2.2.1 hq.2.2.2.1 hq.2.2.2.2 e)
  have lt4:n+4<s.heap.objs.size:=Heap.lt_size h3
  have hfr:H s.heap.objs.size=none:=I.hok.fresh (Nat.le_refl _)
  have tup2:Zp.Trip k2 s.heap.objs.size ux uy uz:=t2.extBut _ _ (Zp.ap (by omega)) a6
  have sub:∀ q∈[n+5,n+4,n,n+1,n+2],q∈[n+5,n+3,n+4,n,n+1,n+2]:=fun q hq=>by
   simp only[List.mem_cons,List.not_mem_nil,or_false] at hq ⊢
   rcases hq with h | h | h | h | h <;> simp[h]
  have nt:∀ q o,H q=some o→q∉[n+5,n+4,n,n+1,n+2]:=fun q o e hq=>by
   have:=(hf q (sub q hq)).1
   rw[this] at e
   cases e
  have hok2:HOk X.prog X.w (upd H s.heap.objs.size (.tup [x,y,z])) k2:=fun q o e=>by
   by_cases hq:q=s.heap.objs.size
   ·subst hq
    rw[upd_same] at e
    cases e
    have l3:(3:Nat)≤sizeLine:=by rw[sizeLine_eq];decide
    exact⟨l3,[ux,uy,uz],.cons rvx (.cons rvy (.cons rvz .nil)),⟨_,tup2,rfl,_,rfl⟩⟩
   ·rw[upd_ne hq] at e
    refine (I.hok q o e).stay (fun c v hc z=>?_) (fun c z=>by rw[upd_ne (ne_of_none z hfr)];exact z) fun c ys z=>by rw[upd_ne (ne_of_none z hfr)];exact z
    rcases hc with hc | hc
    ·subst hc
     exact kp2 c v (nt c _ e) z
    ·exact kp2 c v (nt c _ hc) z
  have I2:Inv X pins σ (upd H s.heap.objs.size (.tup [x,y,z])) { s with heap:=k2,toks:=s.toks }:=by
   refine I.step (g':=s.gens) (d':=s.drawn) (t':=s.toks) (ch:=[n+5,n+4,n,n+1,n+2]) (fun b hb=>?_) (fun b o _ _ hc q _=>kp2 b o hc q)
    (fun b o _ _ hc q _=>⟨o.slots,kp2 b o hc q⟩) (fun b o _ q n=>by rw[upd_ne (Nat.ne_of_lt (Heap.lt_size q))];exact n)
    (fun b o hc q=>⟨o,kp2 b o hc q⟩) (fun b ys q=>by rw[upd_ne (ne_of_none q hfr)];exact q) (fun b o u q=>by rw[upd_ne (ne_of_none q hfr)];exact q)
    (fun b ps q=>⟨#[],by rw[upd_ne (ne_of_none q hfr),q];simp⟩) (fun m hm=>?_) hok2 I.bare
   ·have fb:=hf b (sub b hb)
    exact⟨fb.2.2.2.1,fb.2.1,fb.2.2.2.2.1,fb.2.2.2.2.2⟩
   ·obtain⟨o,es,ep,ho,r⟩:=hm
    exact⟨o,es,ep,kp2 _ o (fun hq=>(hf _ (sub _ hq)).2.1 rfl) ho,r⟩
  refine⟨.ref s.heap.objs.size,_,I2,rfl,⟨_,x,y,z,hfr,rfl,rfl,fun l hl=>by rw[I.list_inj hl qa];exact ex,fun l hl=>by rw[I.list_inj hl qb];exact ey,fun l hl=>by rw[I.list_inj hl qc];exact ez⟩,
   ⟨z2,t2.extBut _ _ (Zp.ap (by omega)) (a7 _ _ (Zp.ap (by omega)) (Zp.ap (by omega)) (Zp.ap (by omega)) (Zp.ap (by omega)) (Zp.ap (by omega)) h2),⟨_,_,_,t2.extBut _ _ (Zp.ap (by omega)) a2⟩,a3.at fun o e=>t2.extBut _ o (Zp.ap (by omega)) e,a4.at fun o e=>t2.extBut _ o (Zp.ap (by omega)) e,a5.at fun o e=>t2.extBut _ o (Zp.ap (by omega)) e⟩,fun q hq=>?_⟩
  have h0:=(hf q hq).1
  have lq:q<s.heap.objs.size:=by
   simp only[List.mem_cons,List.not_mem_nil,or_false] at hq
   rcases hq with rfl | rfl | rfl | rfl | rfl | rfl
   ·exact lt5
   ·exact Nat.lt_of_le_of_lt (show n+3≤n+5 by omega) lt5
   ·exact Nat.lt_of_le_of_lt (show n+4≤n+5 by omega) lt5
   ·exact Nat.lt_of_le_of_lt (show q≤q+5 by exact Nat.le_add_right _ _) lt5
   ·exact Nat.lt_of_le_of_lt (show n+1≤n+5 by omega) lt5
   ·exact Nat.lt_of_le_of_lt (show n+2≤n+5 by omega) lt5
  rw[upd_ne (Nat.ne_of_lt lq)]
  exact h0
 done:=by
  intro X hP hw hK hc i pins s σ H E I hf st hg
  subst hP hw hK
  obtain⟨h1,h2,_,h4,_,_⟩:=st
  obtain⟨xs,qa,ex⟩:=hg
  obtain⟨itx,rx,px,_⟩:=I.list qa
  have hl:=rx.length
  have f5:=hf (n+5) (by simp)
  have f0:=hf n (by simp)
  refine Zp.end3 (I.ok.hd hc) b1 h1 h2 h4 px.isList (by simp;omega) fun h' kp=>⟨rfl,?_⟩
  have kp2:∀ q o,q∉[n+5,n]→s.heap.get? q=some o→h'.get? q=some o:=fun q o hq e=>by
   simp only[List.mem_cons,List.not_mem_nil,or_false,not_or] at hq
   exact kp q o hq.1 hq.2 e
  have nt:∀ q o,H q=some o→q∉[n+5,n]:=fun q o e hq=>by
   simp only[List.mem_cons,List.not_mem_nil,or_false] at hq
   rcases hq with rfl | rfl
   ·rw[f5.1] at e;cases e
   ·rw[f0.1] at e;cases e
  refine I.step (g':=s.gens) (d':=s.drawn) (t':=s.toks) (ch:=[n+5,n]) (fun b hb=>?_) (fun b o _ _ hc q _=>kp2 b o hc q) (fun b o _ _ hc q _=>⟨o.slots,kp2 b o hc q⟩) (fun _ _ _ _ z=>z)
   (fun b o hc q=>⟨o,kp2 b o hc q⟩) (fun _ _ e=>e) (fun _ _ _ e=>e) (fun b ps e=>⟨#[],by rw[e];simp⟩) (fun m hm=>?_) (fun q o e=>?_) I.bare
  ·simp only[List.mem_cons,List.not_mem_nil,or_false] at hb
   rcases hb with rfl | rfl
   ·exact⟨f5.2.2.2.1,f5.2.1,f5.2.2.2.2.1,f5.2.2.2.2.2⟩
   ·exact⟨f0.2.2.2.1,f0.2.1,f0.2.2.2.2.1,f0.2.2.2.2.2⟩
  ·obtain⟨o,es,ep,ho,r⟩:=hm
   exact⟨o,es,ep,kp2 _ o (fun hq=>by
    simp only[List.mem_cons,List.not_mem_nil,or_false] at hq
    rcases hq with h | h
    ·exact f5.2.1 h.symm
    ·exact f0.2.1 h.symm) ho,r⟩
  ·refine (I.hok q o e).stay (fun c v hc z=>?_) (fun _ z=>z) fun _ _ z=>z
   rcases hc with hc | hc
   ·subst hc
    exact kp2 c v (nt c _ e) z
   ·exact kp2 c v (nt c _ hc) z
 self:=fun A i s Q E st h=>wpAny_pyIter_zip st.1 h
section
variable {X:Cx}
def iZip3 (K:PySem.W.Frag)(ta:TA):TI:=fun σ H R=>ta σ H fun vs H1=>∃ a b c,vs=[.ref a,.ref b,.ref c]∧(∃ xs,SqL K H1 a xs)∧(∃ xs,SqL K H1 b xs)∧(∃ xs,SqL K H1 c xs)∧R (Itz K a b c) H1
theorem pi_zip3 {elts:List Expr}{k1:Nat}{tp:Pos}{e1 e2 e3:Expr}{ta:TA}{p pos:Pos}(hg:Gl X "zip")(hm:X.mg "zip"=none)(ha:PA X [e1,e2,e3] ta)
  (hs:starEach (e1::[e2,e3]) X.env=(false,eval e1 X.env)::starEach [e2,e3] X.env:=by rfl) (hpl:(backTo pos (starEach [e2,e3] X.env)).any (·.1)=false:=by rfl) :
  PI X (.Tuple elts k1 tp) (.Call (.Name "zip" p) [e1,e2,e3] [] pos) (iZip3 X.K ta):=by
 intro pins s σ H R I h
 refine Call_ (ld_blt I hg hm boot_zip (PyProof.Rows.callWith_type1 (thn (ha pos pins s σ H _ I h) fun us s1 ⟨vs,H1,I1,r1,q1⟩=>?_) hs hpl))
 obtain⟨a,b,c,e,⟨xs,qa⟩,⟨ys,qb⟩,⟨zs,qc⟩,q⟩:=q1
 subst e
 cases r1 with
 | cons ra r1 =>
 cases r1 with
 | cons rb r1 =>
 cases r1 with
 | cons rc r1 =>
 cases r1
 cases ra
 cases rb
 cases rc
 obtain⟨itx,rx,px,_⟩:=I1.list qa
 obtain⟨ity,ry,py,_⟩:=I1.list qb
 obtain⟨itz,rz,pz,_⟩:=I1.list qc
 have ba:a<s1.heap.objs.size:=by obtain⟨_,e,_⟩:=px.isList;exact Heap.lt_size e
 have bb:b<s1.heap.objs.size:=by obtain⟨_,e,_⟩:=py.isList;exact Heap.lt_size e
 have bc:c<s1.heap.objs.size:=by obtain⟨_,e,_⟩:=pz.isList;exact Heap.lt_size e
 refine Zp.call_zip3 px.isList py.isList pz.isList fun h' z1 z2 z3 z4 z5 z6 kp=>?_
 refine wpAny_pyIter_zip z1 ?_
 have I2:Inv X pins σ H1 { s1 with heap:=h' }:=I1.kept (t':=s1.toks) kp
 refine⟨s1.heap.objs.size+5,_,_,_,H1,rfl,I2,turn_zip3 s1.heap.objs.size a b c ba bb bc,⟨z1,z2,⟨_,_,_,z3⟩,z4,z5,z6⟩,fun q hq=>?_,q⟩
 have:s1.heap.objs.size≤q:=by
  simp only[List.mem_cons,List.not_mem_nil,or_false] at hq
  rcases hq with rfl | rfl | rfl | rfl | rfl | rfl
  ·exact Nat.le_add_right _ _
  ·exact Nat.le_add_right _ _
  ·exact Nat.le_add_right _ _
  ·exact Nat.le_refl _
  ·exact Nat.le_add_right _ _
  ·exact Nat.le_add_right _ _
 exact I1.fpOk this (I1.hok.fresh this)
end
theorem for_zip3 {K:PySem.W.Frag}{a b c:Addr}{xs ys zs:List V}{g:TG}{tb:TS}{D:Ends}{σ:St}{H:Hp}(Pv:Nat→St→Hp→Prop)(h0:Pv 0 σ H)(hl:∀ i σ H,Pv i σ H→SqL K H a xs∧SqL K H b ys∧SqL K H c zs)(ly:xs.length≤ys.length)(lz:xs.length≤zs.length)
  (hs:∀ i x y z t σ H,xs[i]?=some x→ys[i]?=some y→zs[i]?=some z→H t=none→Pv i σ H→g (.ref t) σ (upd H t (.tup [x,y,z])) fun σ2 H2=>tb { D with nx:=Pv (i+1),ct:=Pv (i+1),bk:=D.nx } σ2 H2) (hd:∀ σ H,Pv xs.length σ H→D.nx σ H) :
  ∃ W:Nat→Nat→St→Hp→Prop,(∃ m,W 0 m σ H)∧∀ i m σ H,W i m σ H →
   ((Itz K a b c).stop i H∧D.nx σ H)∨((Itz K a b c).go i H∧∃ N:St→Hp→Prop,(∀ σ' H',N σ' H'→∃ m',m'<m∧W (i+1) m' σ' H')∧∀ x H',(Itz K a b c).yld i H x H'→g x σ H' fun σ2 H2=>tb { D with nx:=N,ct:=N,bk:=D.nx } σ2 H2):=by
 refine⟨fun i m σ H=>m=xs.length - i∧i≤xs.length∧Pv i σ H,⟨xs.length,by simp,Nat.zero_le _,h0⟩,?_⟩
 rintro i m σ H ⟨rfl,hi,p⟩
 obtain⟨qa,qb,qc⟩:=hl i σ H p
 by_cases hlt:i<xs.length
 ·refine .inr ⟨⟨xs,ys,zs,_,_,_,qa,qb,qc,List.getElem?_eq_getElem hlt,List.getElem?_eq_getElem (by omega),List.getElem?_eq_getElem (by omega)⟩,Pv (i+1),fun σ' H' p'=>⟨xs.length - (i+1),by omega,rfl,hlt,p'⟩,fun v H' y=>?_⟩
  obtain⟨t,x,y,z,ht,rfl,rfl,f1,f2,f3⟩:=y
  exact hs i x y z t σ _ (f1 xs qa) (f2 ys qb) (f3 zs qc) ht p
 ·have e:i=xs.length:=by omega
  subst e
  exact .inl ⟨⟨xs,qa,Nat.le_refl _⟩,hd σ H p⟩
end L2
namespace L2
open PySem PySem.Spec PyProof.Rows
def LCG2 (K:PySem.W.Frag)(J:It)(l:Addr)(σ':St)(tt:TT)(te:TE)(Q:VK)(H1:Hp):Prop:=∃ W:Nat→Nat→Hp→Prop,(∃ m,W 0 m (upd H1 l (.lst [])))∧∀ i m H2,W i m H2 →
 (J.stop i H2∧Q (.ref l) H2)∨(J.go i H2∧∀ x H3,J.yld i H2 x H3→∃ ta y1 y2,x=.ref ta∧SqT K H3 ta [y1,y2]∧tt (some y1::some y2::σ') H3 fun b H4=>if b=true then te (some y1::some y2::σ') H4 fun y H5=>∃ ys m',H5 l=some (.lst ys)∧ys.length<sizeLine∧m'<m∧W (i+1) m' (upd H5 l (.lst (ys++[y])))
  else ∃ m',m'<m∧W (i+1) m' H4)
def tLC2 (K:PySem.W.Frag)(cap:List Nat)(wi:TI)(tt:TT)(te:TE):TE:=fun σ H Q=>wi σ H fun J H1=>∀ l,H1 l=none→LCG2 K J l (capV σ cap) tt te Q H1
section
variable {prog:Program}{w:World}{A:Around}{R:Result→Shared→Prop}{s:Shared}
theorem comp_loop_go {elt target iter:Expr}{ifs:List Expr}{scope:Scope}{pos:Pos}{it acc:Value}{env:Env}(J:Nat→Shared→Prop)
  (turn:∀ n s,J n s→wpAny (model prog w) A (pyNext it) (fun r s₁=>match r with
   | none=>R (.ok .next) s₁
   | some v=>wpAny (model prog w) A (letOwnedTupleGo target it v) (fun _ s₀=>wpAny (model prog w) A (assign target env v) (fun _ s₂ =>
     wpAny (model prog w) A (forIn ifs true fun c r=>if r=true then do let ok ← isTrue c env (eval c env);pure (ForInStep.yield ok) else pure (ForInStep.yield r)) (fun ok s₃ =>
      if ok=true then wpAny (model prog w) A (eval elt env) (fun x s₄=>wpAny (model prog w) A (call (.builtin "list.append") [acc,x]) (fun _ s₅=>∃ m,m<n∧J m s₅) (notedBy (model prog w) A env fun e s'=>R (.error e) s') s₄) (notedBy (model prog w) A env fun e s'=>R (.error e) s') s₃
      else ∃ m,m<n∧J m s₃) (notedBy (model prog w) A env fun e s'=>R (.error e) s') s₂) (notedBy (model prog w) A env fun e s'=>R (.error e) s') s₀) (notedBy (model prog w) A env fun e s'=>R (.error e) s') s₁) (notedBy (model prog w) A env fun e s'=>R (.error e) s') s)
  (n:Nat) (h:J n s):codeAny (model prog w) A (.compLoop (.ListComp elt [⟨target,iter,ifs,0⟩] scope pos) 0 it acc env) R s:=by
 refine codeAny_loop rfl J (fun n s hJ=>?_) n h
 show wpAny _ A ((compTurn (.ListComp elt [⟨target,iter,ifs,0⟩] scope pos) 0 it acc env).onRaise (fun x=>do { noteFrame x env;theTreesLotGoes x })) _ _ s
 refine wpAny_noted ?_
 rw[compTurn_list]
 refine wpAny_bind (wpAny_standAt (wpAny_bind (wpAny_mono (turn n s hJ) (fun r s₁ h₁=>?_) fun _ _ z=>z)))
 cases r with
 | none=>exact wpAny_pure h₁
 | some v =>
  refine wpAny_bind (wpAny_mono h₁ (fun _ s₀ h₀=>wpAny_bind (wpAny_mono h₀ (fun _ s₂ h₂=>wpAny_bind (wpAny_mono h₂ (fun ok s₃ h₃=>?_) fun _ _ z=>z)) fun _ _ z=>z)) fun _ _ z=>z)
  cases ok with
  | false=>exact wpAny_pure ⟨rfl,h₃⟩
  | true=>exact wpAny_bind (wpAny_bind (wpAny_mono h₃ (fun x s₄ h₄=>wpAny_bind (wpAny_mono h₄ (fun _ s₅ h₅=>wpAny_pure (wpAny_pure ⟨rfl,h₅⟩)) fun _ _ z=>z)) fun _ _ z=>z))
end
section
variable {X:Cx}
theorem inv_comp2 {pins:List (Addr×Obj)}{σ:St}{H:Hp}{s:Shared}{scope:Scope}{cl:List (Str×Addr)}{x x2:Str}{cap:List Nat}{caps:List Str}{fp:List Addr}{h':Heap}{t':Nat}(I:Inv X pins σ H s)(ok:(X.comp scope cl (x::x2::caps) s H fp).Ok)
  (ca:∀ y c,cl.lookup y=some c→X.env.cells.lookup y=some c) (cb:∀ y,(y,NameKind.free)∈scope.names→∃ c,cl.lookup y=some c) (hcell:∀ y∈scope.names,y.2≠.cell)
  (hcap:cap.map (fun k=>X.N[k]?)=caps.map some) (hvis:∀ y∈caps,((relabel scope X.env).names.lookup y=some .cell∨(relabel scope X.env).names.lookup y=some .free)∧(X.env.kindOf y=some .cell∨X.env.kindOf y=some .free))
  (hn:h'.Ns s.heap.objs.size fun _=>none) (kp:∀ b o,s.heap.get? b=some o→h'.get? b=some o):Inv (X.comp scope cl (x::x2::caps) s H fp) [] (none::none::capV σ cap) H { s with heap:=h',toks:=t' }:=by
 have hlen:cap.length=caps.length:=by
  have:=congrArg List.length hcap
  simpa using this
 refine⟨ok,rfl,I.bare,Un.kept kp,⟨_,hn,fun i y v h1 h2 h3=>?_⟩,fun y c h=>?_,I.hok.fresh (Nat.le_refl _),fun y c h=>I.freeC y c (ca y c h),fun p hp=>absurd (show p∈([]:List (Addr×Obj)) from hp) (by simp),I.hok.kept kp,?_⟩
 ·cases i with
  | zero=>exact absurd h2 (by simp)
  | succ j0 =>
   cases j0 with
   | zero=>exact absurd h2 (by simp)
   | succ j =>
   have h1':caps[j]?=some y:=h1
   have h2':(capV σ cap)[j]?=some (some v):=h2
   unfold capV at h2'
   rw[List.getElem?_map] at h2'
   cases hk:cap[j]? with
   | none=>rw[hk] at h2';cases h2'
   | some k =>
    rw[hk] at h2'
    have h2'':(σ[k]?).join=some v:=by simpa using h2'
    have hN:X.N[k]?=some y:=by
     have:=congrArg (fun l=>l[j]?) hcap
     simp only[List.getElem?_map,hk,h1',Option.map_some] at this
     exact Option.some.inj this
    have hσ:σ[k]?=some (some v):=by
     cases e:σ[k]? with
     | none=>rw[e] at h2'';cases h2''
     | some o=>rw[e] at h2'';exact congrArg some h2''
    obtain⟨hv1,hv2⟩:=hvis y (List.mem_of_getElem? h1')
    obtain⟨m,_,hl⟩:=I.loc
    obtain⟨u,r,l⟩:=hl k y v hN hσ (by
     rcases hv2 with z | z
     ·exact .inr (.inl z)
     ·exact .inr (.inr z))
    refine⟨u,r,?_⟩
    obtain⟨c,hc⟩:=cb y (relabel_free hcell hv1)
    rcases l with⟨z,_⟩ | ⟨_,c',hc',hcl⟩
    ·rcases hv2 with q | q <;> (rw[z] at q;cases q)
    ·have e:=ca y c hc
     rw[hc'] at e
     have e2:c'=c:=Option.some.inj e
     rw[e2] at hcl
     obtain⟨o,ho,hd⟩:=hcl
     exact .inr ⟨hv1,c,hc,o,kp _ _ ho,hd⟩
 ·obtain⟨v,o,ho,hd⟩:=I.cell y c (ca y c h)
  exact⟨v,o,kp _ _ ho,hd⟩
 ·show (none::none::capV σ cap).length=(x::x2::caps).length
  simp[capV,hlen]
theorem pe_lcomp2 {elt iter:Expr}{x x2:Str}{px px2 pt:Pos}{kt:Nat}{ifs:List Expr}{scope:Scope}{pos:Pos}{cap:List Nat}{caps:List Str}{wi:TI}{tt:TT}{te:TE}(hc:X.calm=true)(hi:PI X (.Tuple [.Name x px,.Name x2 px2] kt pt) iter wi)(hkind:scope.kind=.function)
  (hnames:∀ y∈scope.names,y.2=.local→scope.names.lookup y.1=some .local) (hcell:∀ y∈scope.names,y.2≠.cell) (hx:scope.names.lookup x=some .local) (hx2:scope.names.lookup x2=some .local)
  (hfree:∀ y∈scope.names,y.2=.free→X.env.kindOf y.1=some .cell∨X.env.kindOf y.1=some .free) (hcap:cap.map (fun k=>X.N[k]?)=caps.map some)
  (hvis:∀ y∈caps,((relabel scope X.env).names.lookup y=some .cell∨(relabel scope X.env).names.lookup y=some .free)∧(X.env.kindOf y=some .cell∨X.env.kindOf y=some .free)) (nd:(x::x2::caps).Nodup)
  (body:∀ cl s₃ H₃ fp,PIfs (X.comp scope cl (x::x2::caps) s₃ H₃ fp) ifs tt∧PE (X.comp scope cl (x::x2::caps) s₃ H₃ fp) elt te) (hs:∀ v,foldedSetIterable iter X.env v=pure v:=by intro _;rfl) :
  PE X (.ListComp elt [⟨.Tuple [.Name x px,.Name x2 px2] kt pt,iter,ifs,0⟩] scope pos) (tLC2 X.K cap wi tt te):=by
 intro pins s σ H Q I h
 rw[eval_ListComp]
 obtain⟨cl,hcl,ca,cb⟩:=clos_of (scope:=scope) (env:=X.env) fun y hy hf=>I.ok.has y.1 (hfree y hy hf)
 refine wpAny_comprehension_free (use:=none) rfl hs hcl hkind hnames (thn (hi pins s σ H _ I h) fun v s1 h1=>thn h1 fun itv s2 h2=>?_)
 obtain⟨it,fp,tn,J,H2,e,I2,T,st2,f2,rest⟩:=h2
 subst e
 have hfr:H2 s2.heap.objs.size=none:=I2.hok.fresh (Nat.le_refl _)
 obtain⟨W,⟨m0,w0⟩,turn⟩:=rest s2.heap.objs.size hfr
 refine wpAny_newObj_type (wpAny_newFunctionEnv hcell (by intro y hy;simp at hy) (fun h4 hn4 hs4=>?_) hkind)
 dsimp only at hn4 hs4 ⊢
 have I3:Inv X pins σ (upd H2 s2.heap.objs.size (.lst [])) { s2 with heap:=s2.heap.push { cls:=.type "list",dict:=none,data:=.seq ([]:List Value).toArray } } :=
  I2.laid (t':=s2.toks) (o:=.lst []) (fun b o e=>Heap.get?_push_of_some _ e) (Nat.le_refl _) ⟨Nat.zero_le _,[],0,.nil,Heap.get?_push_size _ rfl⟩
 generalize hs3:({ s2 with heap:=s2.heap.push { cls:=.type "list",dict:=none,data:=.seq ([]:List Value).toArray } }:Shared)=s3 at I3
 have hz3:s3.heap=s2.heap.push { cls:=.type "list",dict:=none,data:=.seq ([]:List Value).toArray }:=by rw[← hs3]
 rw[← hz3] at hn4 hs4 ⊢
 have kp3:∀ b o,s3.heap.get? b=some o→h4.get? b=some o:=fun b o e=>hs4.extBut b o (Nat.ne_of_lt (Heap.lt_size e)) (Heap.get?_push_of_some _ e)
 have lt2:∀ b∈fp,b<s2.heap.objs.size:=fun b hb=>let ⟨o,e,_⟩:=T.obj 0 _ st2 b hb;Heap.lt_size e
 have hz:s3.heap.objs.size=s2.heap.objs.size+1:=by rw[hz3,Heap.size_push]
 have lt3:∀ b∈fp,b<s3.heap.objs.size:=fun b hb=>by rw[hz];exact Nat.lt_succ_of_lt (lt2 b hb)
 have f3:∀ b∈fp,FpOk X pins (upd H2 s2.heap.objs.size (.lst [])) b:=fun b hb=>⟨by rw[upd_ne (Nat.ne_of_lt (lt2 b hb))];exact (f2 b hb).1,(f2 b hb).2⟩
 have ok':(X.comp scope cl (x::x2::caps) s3 (upd H2 s2.heap.objs.size (.lst [])) fp).Ok:=comp_ok I3 f3 lt3 hkind hcell ca cb
 have I4:Inv (X.comp scope cl (x::x2::caps) s3 (upd H2 s2.heap.objs.size (.lst [])) fp) [] (none::none::capV σ cap) (upd H2 s2.heap.objs.size (.lst [])) { s3 with heap:=h4,toks:=s2.toks+([]:List (Str×Value)).length } :=
  inv_comp2 I3 ok' ca cb hcell hcap hvis hn4 kp3
 have st4:tn 0 h4:=T.keep _ _ _ st2 fun b hb o e=>kp3 b o (by rw[hz3];exact Heap.get?_push_of_some _ e)
 obtain⟨bI,bE⟩:=body cl s3 (upd H2 s2.heap.objs.size (.lst [])) fp
 have stat:∀ {H':Hp},(∀ b∈fp,H' b=none)→∀ b∈fp,FpOk (X.comp scope cl (x::x2::caps) s3 (upd H2 s2.heap.objs.size (.lst [])) fp) [] H' b:=fun {H'} hn b hb =>
  ⟨hn b hb,Nat.ne_of_lt (lt3 b hb),ok'.exfs b hb,.inl hb,fun y c hy=>(f2 b hb).2.2.2.2.1 y c (ca y c hy),fun p hp=>absurd (show p∈([]:List (Addr×Obj)) from hp) (by simp)⟩
 have es:({ s2 with heap:=h4,toks:=s2.toks+([]:List (Str×Value)).length }:Shared)={ s3 with heap:=h4,toks:=s2.toks+([]:List (Str×Value)).length }:=by rw[← hs3]
 rw[es]
 have fin:∀ {σ':St}{H':Hp}{s':Shared},Inv (X.comp scope cl (x::x2::caps) s3 (upd H2 s2.heap.objs.size (.lst [])) fp) [] σ' H' s'→Q (.ref s2.heap.objs.size) H' →
   compPost (model X.prog X.w) X.A X.xe none (EP X pins σ Q) (.ref s2.heap.objs.size) s3.heap.objs.size (.ok .next) s':=fun {σ' H' s'} J' q=>by
  obtain⟨m,hn,_⟩:=J'.loc
  refine⟨m,hn,fun h' sb=>?_⟩
  have IX:Inv X pins σ H' s':=I3.call' J'.os J'.base J'.hok J'.bare fun b hb=>⟨(f3 b hb).2.2.2.1,(f3 b hb).2.1,(f3 b hb).2.2.2.2.1,(f3 b hb).2.2.2.2.2⟩
  have fc:=I3.fpOk (Nat.le_refl _) (I3.hok.fresh (Nat.le_refl _))
  exact⟨.ref s2.heap.objs.size,H',IX.turned (t':=s'.toks) (fun b o hb e=>sb.extBut b o hb e) J'.free fc.2.1 fc.2.2.2.1 fc.2.2.2.2.1 fc.2.2.2.2.2,rfl,q⟩
 have loop:codeAny (model X.prog X.w) X.A (.compLoop (.ListComp elt [⟨.Tuple [.Name x px,.Name x2 px2] kt pt,iter,ifs,0⟩] scope pos) 0 (.ref it) (.ref s2.heap.objs.size) (compEnvC scope cl s3.heap.objs.size X.env))
   (compPost (model X.prog X.w) X.A X.xe none (EP X pins σ Q) (.ref s2.heap.objs.size) s3.heap.objs.size) { s3 with heap:=h4,toks:=s2.toks+([]:List (Str×Value)).length }:=by
  refine comp_loop_go (fun n s'=>∃ i o o2 H',Inv (X.comp scope cl (x::x2::caps) s3 (upd H2 s2.heap.objs.size (.lst [])) fp) [] (o::o2::capV σ cap) H' s'∧tn i s'.heap∧(∀ b∈fp,H' b=none)∧W i n H') ?_ m0
   ⟨0,none,none,_,I4,st4,fun b hb=>(f3 b hb).1,w0⟩
  rintro n s5 ⟨i,o,o2,H5,I5,st5,fr5,w5⟩
  rcases turn i n H5 w5 with⟨stop,qn⟩ | ⟨go,step⟩
  ·refine thn (T.done (X.comp scope cl (x::x2::caps) s3 (upd H2 s2.heap.objs.size (.lst [])) fp) rfl rfl rfl hc i [] s5 _ H5 _ I5 (stat fr5) st5 stop) fun r s6 ⟨hr,I6⟩=>?_
   subst hr
   exact fin I6 qn
  ·refine thn (T.item (X.comp scope cl (x::x2::caps) s3 (upd H2 s2.heap.objs.size (.lst [])) fp) rfl rfl rfl hc i [] s5 _ H5 _ I5 (stat fr5) st5 go) fun r s6 ⟨u,hr,h6⟩=>?_
   subst hr
   dsimp only
   refine thn h6 fun _ s7 ⟨y,H7,I7,r7,y7,st7,fr7⟩=>?_
   have I7':=I7.pinned (stat fr7) (T.obj _ _ st7)
   obtain⟨ta,y1,y2,ey,hty,step⟩:=step y H7 y7
   subst ey
   have pg1:=pg_name (X:=X.comp scope cl (x::x2::caps) s3 (upd H2 s2.heap.objs.size (.lst [])) fp) (i:=0) (x:=x) (pos:=px) nd rfl (.inl (lookup_relabel_local hx)) (.inr (lookup_relabel_local hx))
   have pg2:=pg_name (X:=X.comp scope cl (x::x2::caps) s3 (upd H2 s2.heap.objs.size (.lst [])) fp) (i:=1) (x:=x2) (pos:=px2) nd rfl (.inl (lookup_relabel_local hx2)) (.inr (lookup_relabel_local hx2))
   have pg:=pg_tup (X:=X.comp scope cl (x::x2::caps) s3 (upd H2 s2.heap.objs.size (.lst [])) fp) (pos:=pt) (k:=kt) hc (pgs_cons pg1 (pgs_cons pg2 pgs_nil))
   refine wpAny_mono (pg _ s7 _ H7 (.ref ta) u (fun σ' H'=>σ'=some y1::some y2::capV σ cap∧H'=H7) I7' r7 ⟨ta,_,rfl,hty,rfl,y1,_,rfl,y2,_,rfl,rfl,rfl,rfl⟩) (fun _ s8 ⟨σ8,H8,I8,e8,e8'⟩=>?_) fun _ _ f=>f.elim
   subst e8 e8'
   have again:∀ {H9:Hp}{s9:Shared}{m':Nat},Inv (X.comp scope cl (x::x2::caps) s3 (upd H2 s2.heap.objs.size (.lst [])) fp) ([]++pinsAt fp s7.heap) (some y1::some y2::capV σ cap) H9 s9→m'<n→W (i+1) m' H9 →
     ∃ m,m<n∧∃ i o o2 H',Inv (X.comp scope cl (x::x2::caps) s3 (upd H2 s2.heap.objs.size (.lst [])) fp) [] (o::o2::capV σ cap) H' s9∧tn i s9.heap∧(∀ b∈fp,H' b=none)∧W i m H':=fun {H9 s9 m'} I9 hm w9=>by
    have pin9:=fun b hb o e=>I9.pin (b,o) (List.mem_append_right _ (List.mem_append_right _ (mem_pinsAt hb e)))
    refine⟨m',hm,i+1,some y1,some y2,H9,I9.unpinned,T.keep _ _ _ st7 fun b hb o e=>(pin9 b hb o e).1,fun b hb=>?_,w9⟩
    obtain⟨o,e,d⟩:=T.obj _ _ st7 b hb
    exact (pin9 b hb o e).2.1
   refine wpAny_mono (bI _ s8 _ H8 _ I8 step) (fun ok s9 ⟨H9,I9,q9⟩=>?_) fun _ _ f=>f.elim
   cases ok with
   | false =>
    rw[if_neg Bool.false_ne_true] at q9 ⊢
    obtain⟨m',hm,w9⟩:=q9
    exact again I9 hm w9
   | true =>
    rw[if_pos rfl] at q9 ⊢
    refine wpAny_mono (bE _ s9 _ H9 _ I9 q9) (fun z s10 ⟨v10,H10,I10,r10,ys,m',hl,hsz,hm,w10⟩=>?_) fun _ _ f=>f.elim
    refine wpAny_mono (mt_append (X:=X.comp scope cl (x::x2::caps) s3 (upd H2 s2.heap.objs.size (.lst [])) fp) _ s10 _ H10 (.ref s2.heap.objs.size) [v10] (.ref s2.heap.objs.size) [z] (fun _ H'=>H'=upd H10 s2.heap.objs.size (.lst (ys++[v10]))) I10 rfl (.cons r10 .nil) ⟨_,ys,v10,rfl,rfl,hl,hsz,rfl⟩) (fun _ s11 ⟨_,H11,I11,_,e11⟩=>?_) fun _ _ f=>f.elim
    subst e11
    exact again I11 hm w10
 refine codeAny_compStart_list loop (T.self _ 0 _ _ _ st4 loop)
end
theorem lc2_list {K:PySem.W.Frag}{a:Addr}{ts:List Addr}{l:Addr}{H1:Hp}{te:TE}{σ':St}{Q:VK}{ps:List (V×V)}(Rv:Nat→V→Hp→Prop)(st:∀ i v H H',Rv i v H→(∀ b o,b≠l→H b=some o→H' b=some o)→Rv i v H')(hn:ts.length≤1000)(hl:H1 l=none)
  (ha:SqL K H1 a (ts.map V.ref)) (hlen:ts.length=ps.length) (ht:∀ (i:Nat) (t:Addr) (p:V×V),ts[i]?=some t→ps[i]?=some p→SqT K H1 t [p.1,p.2])
  (he:∀ (i:Nat) (p:V×V) ys H2 (R:VK),ps[i]?=some p→Same H1 H2→H2 l=some (.lst ys)→(∀ v H3,Same H2 H3→Rv i v H3→R v H3)→te (some p.1::some p.2::σ') H2 R)
  (hq:∀ vs H2,Same H1 H2→H2 l=some (.lst vs)→vs.length=ps.length→(∀ i v,vs[i]?=some v→Rv i v H2)→Q (.ref l) H2):LCG2 K (Itl K a) l σ' tAlw te Q H1:=by
 refine⟨fun i m H2=>m=ts.length - i∧i≤ts.length∧Same H1 H2∧∃ vs,H2 l=some (.lst vs)∧vs.length=i∧∀ j v,vs[j]?=some v→Rv j v H2,⟨ts.length,by simp,Nat.zero_le _,fun b o e=>by rw[upd_ne (ne_of_none e hl)];exact e,[],upd_same,rfl,fun j v z=>by simp at z⟩,?_⟩
 rintro i m H2 ⟨rfl,hi,s2,vs,h2,vl,hv⟩
 by_cases hlt:i<ts.length
 ·have et:(ts.map V.ref)[i]?=some (.ref ts[i]):=by rw[List.getElem?_map,List.getElem?_eq_getElem hlt];rfl
  refine .inr ⟨⟨_,_,s2.seq ha,et⟩,fun x H3 y=>?_⟩
  obtain⟨e,y⟩:=y
  subst e
  have ex:=y _ (s2.seq ha)
  rw[et] at ex
  obtain rfl:V.ref ts[i]=x:=Option.some.inj ex
  have ep:ps[i]?=some (ps[i]'(by omega)):=List.getElem?_eq_getElem (by omega)
  have tq:=ht i _ _ (List.getElem?_eq_getElem hlt) ep
  refine⟨ts[i],_,_,rfl,s2.tup tq,?_⟩
  unfold tAlw
  dsimp only
  rw[if_pos rfl]
  refine he i _ vs _ _ ep s2 h2 fun v H4 s4 r4=>⟨vs,ts.length - (i+1),s4 _ _ h2,small1000 (by omega),by omega,rfl,hlt,fun b o e=>?_,vs++[v],upd_same,by simp[vl],fun j u hu=>?_⟩
  ·rw[upd_ne (ne_of_none e hl)]
   exact s4 _ _ (s2 _ _ e)
  ·have keep:∀ b o,b≠l→H4 b=some o→upd H4 l (.lst (vs++[v])) b=some o:=fun b o nb e=>by rw[upd_ne nb];exact e
   by_cases hj:j<vs.length
   ·rw[List.getElem?_append_left hj] at hu
    exact st _ _ _ _ (st _ _ _ _ (hv j u hu) fun b o _ e=>s4 b o e) keep
   ·rw[List.getElem?_append_right (by omega)] at hu
    have ej:j - vs.length=0:=by
     cases hk:j - vs.length with
     | zero=>rfl
     | succ k=>rw[hk] at hu;simp at hu
    rw[ej] at hu
    have eu:v=u:=by simpa using hu
    subst eu
    have:j=i:=by omega
    subst this
    exact st _ _ _ _ r4 keep
 ·have e:i=ts.length:=by omega
  subst e
  exact .inl ⟨⟨_,s2.seq ha,by rw[List.length_map];exact Nat.le_refl _⟩,hq vs H2 s2 h2 (by omega) hv⟩
end L2
namespace L2
open PySem PySem.Spec PyProof.Rows
end L2
namespace L2
open PySem PySem.Spec PyProof.Rows
section
variable {X:Cx}
end
end L2
namespace L2
open PySem PySem.Spec PyProof.Rows PySem.W
theorem kept_all {g h h':Heap}{L:Addr}{m:Str→Option Value}(k:∀ b o,g.get? b=some o→h.get? b=some o)(F:Fr g L h' m)(N:News g L h' (allNews g h L)) :
  ∀ b o,b≠L→h.get? b=some o→h'.get? b=some o:=fun b o h1 e=>by
 cases q:g.get? b with
 | some u =>
  have:=k b u q
  rw[e] at this;cases this
  exact F.keep b _ q
 | none=>exact (N (b,o) (mem_allNews h1 q e)).1
section
variable {X:Cx}{pins:List (Addr×Obj)}{σ:St}{H:Hp}{s:Shared}{h':Heap}
theorem Inv.anew {t':Nat}{m:Str→Option Value}(I:Inv X pins σ H s)(hl:∀ (i:Nat) (x:Str) (v:V),X.N[i]?=some x→σ[i]?=some (some v)→Vis X.env.scope x→∃ u,RelV v u∧Look X.env s.heap m x u)
  (k:∀ b o,b≠X.env.locals→s.heap.get? b=some o→h'.get? b=some o) (hL:h'.Ns X.env.locals m):Inv X pins σ H { s with heap:=h',toks:=t' }:=by
 have old:∀ {b:Addr}{o:Obj},X.s₀.heap.get? b=some o→b≠X.env.locals:=fun e=>Nat.ne_of_lt (Nat.lt_of_lt_of_le (Heap.lt_size e) I.ok.above)
 refine⟨I.ok,I.os,I.bare,⟨fun b o e n hb hx=>k b o (old e) (I.base.keep b o e n hb hx),fun b o e n hb hx=>?_,I.base.free,fun b o e hx=>?_,I.base.tups,I.base.frzs,I.base.tbls⟩,⟨m,hL,fun i x v h1 h2 h3=>?_⟩,fun x c e=>?_,I.free,I.freeC,fun p hp=>?_,fun b u e=>?_,I.len⟩
 ·obtain⟨sl,e2⟩:=I.base.slot b o e n hb hx
  exact⟨sl,k b _ (old e) e2⟩
 ·obtain⟨o',e2⟩:=I.base.there b o e hx
  exact⟨o',k b _ (old e) e2⟩
 ·obtain⟨u,r,l⟩:=hl i x v h1 h2 h3
  refine⟨u,r,?_⟩
  rcases l with l | ⟨l1,c,l2,o,l3,l4⟩
  ·exact .inl l
  ·exact .inr ⟨l1,c,l2,o,k c o (I.cne x c l2) l3,l4⟩
 ·obtain⟨v,o,e1,e2⟩:=I.cell x c e
  exact⟨v,o,k c o (I.cne x c e) e1,e2⟩
 ·obtain⟨e1,e2,e3,e4⟩:=I.pin p hp
  exact⟨k _ _ e3 e1,e2,e3,e4⟩
 ·refine (I.hok b u e).stay (fun c v hc q=>k c v ?_ q) (fun _ q=>q) fun _ _ q=>q
  rintro rfl
  rcases hc with z | z
  ·rw[← z,I.free] at e;cases e
  ·rw[I.free] at z;cases z
end
section
variable {M:Model}{A:Around}{E:Value→Shared→Prop}{s:Shared}
theorem abs_if (z:Int):(if z<0 then -z else z)=(z.natAbs:Int):=by split <;> omega
end
section
variable {prog:Program}{w:World}{A:Around}{E:Value→Shared→Prop}{s:Shared}
theorem lam_body {env:Env}{m mg mb:Str→Option Value}{a cA:Addr}{its:Array Value}{c x y:Int}{t t1 t2:Tok}{p0 p1 p2 p3 p4 p5 p6 p7 p8 p9 p10:Pos}{q:Nat}{Q:Value→Shared→Prop}
  (hk:env.scope.kind=.function) (hgl:env.globals=mainGlobals) (hbl:env.builtins=builtinsNs) (kc:env.kindOf "crease"=some .local) (ka:env.kindOf "at"=some .free) (kb:env.kindOf "abs"=some .globalImplicit)
  (hn:s.heap.Ns env.locals m) (hm:m "crease"=some (.int c t)) (hcl:env.cells.lookup (Str.ofString "at")=some cA) (hcell:s.heap.IsCell cA (some (.ref a))) (hL:s.heap.IsList a its)
  (hg:s.heap.Ns mainGlobals mg) (hmg:mg "abs"=none) (hb:s.heap.Ns builtinsNs mb) (hmb:∀ x:Str,x≠"__name__"→mb x=bootBuiltins x)
  (h0:0≤c) (h1:c.toNat+1<its.size) (hz:its.size≤sizeLine) (e1:its[c.toNat+1]?=some (.int x t1)) (e0:its[c.toNat]?=some (.int y t2))
  (h:∀ u tk,Q (.int ((x - y).natAbs:Int) u) { s with toks:=tk }) :
  wpAny (model prog w) A (eval (.Call (.Name "abs" p1) [.BinOp (.Subscript (.Name "at" p2) (.BinOp (.Name "crease" p3) .Add (.Constant (.int 1) q p4) p5) p6) .Sub (.Subscript (.Name "at" p7) (.Name "crease" p8) p9) p10] [] p0) env) Q E s:=by
 have nat:∀ tk,({ s with toks:=tk }:Shared).heap=s.heap:=fun _=>rfl
 have at_:∀ {p:Pos}{tk:Nat}{E':Value→Shared→Prop}{Q':Value→Shared→Prop},Q' (.ref a) { s with toks:=tk }→wpAny (model prog w) A (eval (.Name "at" p) env) Q' E' { s with toks:=tk }:=fun hq=>wpAny_Name (wpAny_loadName_free hk ka hcl hcell hq (by decide)) (by decide)
 have cr_:∀ {p:Pos}{tk:Nat}{E':Value→Shared→Prop}{Q':Value→Shared→Prop},Q' (.int c t) { s with toks:=tk }→wpAny (model prog w) A (eval (.Name "crease" p) env) Q' E' { s with toks:=tk }:=fun hq=>wpAny_Name (wpAny_loadName_local hk kc hn hm hq) (by decide)
 have hfit:∀ k:Int,k≤c+1→k<2 ^ 63:=fun k hle=>by
  have:=line63
  omega
 refine wpAny_Call_Name_kw (Calls.Name_function_global hk kb (Calls.loadGlobal_builtin (by rw[hgl];exact hg) hmg (by rw[hbl];exact hb) ((hmb _ (by decide)).trans boot_abs) ?_) (by decide))
 refine PyProof.Rows.callWith_builtin1 (Calls.spliced_cons (wpAny_BinOp ?_)) rfl rfl
 refine Subscript_ (at_ (tk:=s.toks) ?_)
 refine wpAny_BinOp (cr_ (wpAny_Constant_int ?_))
 refine add_int ?_
 refine item_listR hL (by omega) (hfit _ (by omega)) (by rw[show (c+1).toNat=c.toNat+1 by omega];exact e1) ?_ (by with_unfolding_all rfl)
 refine Subscript_ (at_ (cr_ ?_))
 refine item_listR hL h0 (hfit _ (by omega)) e0 ?_ (by with_unfolding_all rfl)
 refine sub_int ?_
 refine Calls.spliced_nil ?_
 refine call_abs_int fun u tk=>?_
 rw[abs_if]
 exact h u tk
end
end L2
namespace L2
open PySem PySem.Spec PyProof.Rows PySem.W
def codeP (c:Addr)(q:Str):Heap→Prop:=fun h=>h.CodeRec (.ref c) q
def tri (pos:Pos)(c:Addr):Array Value:=#[rawInt pos.line,rawInt pos.col,.ref c]
def Tab (H:Hp)(T:Addr)(pos:Pos)(q:Str):Prop:=H T=some (.tbl #[])∨∃ c,H T=some (.tbl (tri pos c))∧H c=some (.ext (codeP c q))
def SameT (H H':Hp):Prop:=∀ b o,H b=some o→(∀ ps,o≠.tbl ps)→H' b=some o
theorem SameT.refl {H:Hp}:SameT H H:=fun _ _ e _=>e
theorem SameT.trans {H H1 H2:Hp}(a:SameT H H1)(b:SameT H1 H2):SameT H H2:=fun x o e n=>b x o (a x o e n) n
theorem Tab.there {H:Hp}{T:Addr}{pos:Pos}{q:Str}(x:Tab H T pos q):∃ ps,H T=some (.tbl ps):=by
 rcases x with e | ⟨c,e,_⟩
 ·exact⟨_,e⟩
 ·exact⟨_,e⟩
theorem Tab.stay {H H':Hp}{T:Addr}{pos:Pos}{q:Str}(x:Tab H T pos q)(k:∀ b o,H b=some o→H' b=some o):Tab H' T pos q:=by
 rcases x with e | ⟨c,e,f⟩
 ·exact .inl (k _ _ e)
 ·exact .inr ⟨c,k _ _ e,k _ _ f⟩
def Bm (mg:Str→Option Value)(h:Heap):Prop:=∃ bm ob,mg "__builtins__"=some (.ref bm)∧bm≠builtinsNs∧h.get? bm=some ob∧ob.cls=.type "module"∧ob.dict=some builtinsNs∧ob.data=.plain
def lamP (o:Value→Obj)(f:Addr):Heap→Prop:=fun h=>∃ v,h.get? f=some (o v)
abbrev lamO (mg:Str→Option Value)(qual:Str)(params:Arguments)(body:Expr)(scope:Scope)(clos:List (Str×Addr))(c:Addr)(v:Value):Obj:=kla_obj "<lambda>" qual params body scope clos ((mg "__name__").getD .none) c v
def tLam (T:Addr)(pos:Pos)(qual:Str)(o:Addr→Value→Obj):TE:=fun _ H Q=>Tab H T pos qual∧∀ f c H',H f=none→SameT H H'→H' T=some (.tbl (tri pos c))→H' c=some (.ext (codeP c qual))→H' f=some (.ext (lamP (o c) f))→Q (.ref f) H'
theorem codeP_ok {P:Program}{w:World}{H:Hp}{h:Heap}{c:Addr}{q:Str}(x:h.CodeRec (.ref c) q):ObjOk P w H h c (.ext (codeP c q)):=by
 obtain⟨c0,o,vs,t,e,h1,h2,h3⟩:=x
 cases e
 refine⟨⟨c,o,vs,t,rfl,h1,h2,h3⟩,⟨o,h1⟩,fun g1 g2 hx k=>?_⟩
 obtain⟨c0,o,vs,t,e,h1,h2,h3⟩:=hx
 cases e
 exact⟨c,o,vs,t,rfl,k _ h1,h2,h3⟩
theorem lamP_ok {P:Program}{w:World}{H:Hp}{h:Heap}{f:Addr}{o:Value→Obj}{v:Value}(x:h.get? f=some (o v)):ObjOk P w H h f (.ext (lamP o f)) :=
 ⟨⟨v,x⟩,⟨_,x⟩,fun _ _ ⟨v,e⟩ k=>⟨v,k _ e⟩⟩
section
variable {X:Cx}{params:Arguments}{body:Expr}{scope:Scope}{pos:Pos}{clos:List (Str×Addr)}{c T:Addr}
theorem pe_lam (hcl:closureFor scope X.env=pure clos)(hcode:X.env.code=.ref c)(C:CodeHd X.base c T)(B:Bm X.mg X.base)(hdef:defaultsOf params X.env=([],[]):=by rfl) :
  PE X (.Lambda params body scope pos) (tLam T pos (X.env.qual++"<lambda>") fun c v=>lamO X.mg (X.env.qual++"<lambda>") params body scope clos c v):=by
 intro pins s σ H Q I h
 obtain⟨tab,q⟩:=h
 obtain⟨ps0,eT⟩:=tab.there
 have neT:∀ b o,X.base.get? b=some o→b≠T:=fun b o e z=>by
  have:=(I.bs b o e).2
  rw[z,eT] at this;cases this
 obtain⟨bm,ob,b1,b2,b3,b4,b5,b6⟩:=B
 obtain⟨og,es,ep,g1,g2,_⟩:=I.mod.glob
 have hgP:mainGlobals≠T:=neT _ _ g1
 have hb:s.heap.BuiltinsAt X.mg T:=⟨bm,ob,b1,b2,(fun z=>by rw[z,g1] at b3;cases b3;rw[g2] at b6;cases b6),neT _ _ b3,I.bk _ _ b3,b4,b5,b6⟩
 rcases tab with e | ⟨c',e1,e2⟩
 ·have hP:s.heap.get? T=some (tabObj #[]):=I.hok T _ e
  refine kla_eval hdef (kla_makeFunction (mg:=X.mg) (ps:=#[]) hcl I.ok.glob (I.mod.glob.keeps I.bk) hcode (C.keeps I.bk) hP trivial rfl hgP hb fun c' ctv h' tk hx hge hlt hrec htb=>?_)
  have htb':h'.get? T=some (tabObj (tri pos c')):=by
   have z:(#[]:Array Value)++#[rawInt pos.line,rawInt pos.col,.ref c']=tri pos c':=rfl
   rw[z] at htb
   exact htb
  have lT:T<s.heap.objs.size:=Heap.lt_size hP
  have nc:c'≠T:=Nat.ne_of_gt (Nat.lt_of_lt_of_le lT hge)
  have nf:h'.objs.size≠T:=Nat.ne_of_gt (Nat.lt_trans (Nat.lt_of_lt_of_le lT hge) hlt)
  have nfc:h'.objs.size≠c':=Nat.ne_of_gt hlt
  let qual:=X.env.qual++"<lambda>"
  let ob:=lamO X.mg qual params body scope clos c' ctv
  have hxx:∀ b o,b≠T→s.heap.get? b=some o→(h'.push ob).get? b=some o:=fun b o nb e=>Heap.get?_push_of_some _ (hx b o nb e)
  have hH:∀ b,b<s.heap.objs.size→b≠T→upd (upd (upd H T (.tbl (tri pos c'))) c' (.ext (codeP c' qual))) h'.objs.size (.ext (lamP (fun v=>lamO X.mg qual params body scope clos c' v) h'.objs.size)) b=H b:=fun b hb nb=>by
   rw[upd_ne (Nat.ne_of_lt (Nat.lt_trans (Nat.lt_of_lt_of_le hb hge) hlt)),upd_ne (Nat.ne_of_lt (Nat.lt_of_lt_of_le hb hge)),upd_ne nb]
  have hHT:upd (upd (upd H T (.tbl (tri pos c'))) c' (.ext (codeP c' qual))) h'.objs.size (.ext (lamP (fun v=>lamO X.mg qual params body scope clos c' v) h'.objs.size)) T=some (.tbl (tri pos c')):=by
   rw[upd_ne nf.symm,upd_ne nc.symm,upd_same]
  have hHc:upd (upd (upd H T (.tbl (tri pos c'))) c' (.ext (codeP c' qual))) h'.objs.size (.ext (lamP (fun v=>lamO X.mg qual params body scope clos c' v) h'.objs.size)) c'=some (.ext (codeP c' qual)):=by
   rw[upd_ne nfc.symm,upd_same]
  have nT:∀ b o,H b=some o→(∀ ps,o≠.tbl ps)→b≠T:=fun b o e1 n z=>by
   rw[z,e] at e1;cases e1;exact n _ rfl
  have un:Un X.fs [] H (upd (upd (upd H T (.tbl (tri pos c'))) c' (.ext (codeP c' qual))) h'.objs.size (.ext (lamP (fun v=>lamO X.mg qual params body scope clos c' v) h'.objs.size))) s.heap (h'.push ob):=by
   have nb:∀ b,H b=none→b≠T:=fun b n z=>by rw[z,e] at n;cases n
   refine⟨fun b o e n _ _=>hxx b o (nb b n) e,fun b o e n _ _=>⟨o.slots,hxx b o (nb b n) e⟩,fun b o e n _=>by rw[hH b (Heap.lt_size e) (nb b n)];exact n,fun b o e _=>?_,fun b xs e=>?_,fun b o u e=>?_,fun b ps e1=>?_⟩
   ·by_cases hb:b=T
    ·exact⟨_,by rw[hb];exact Heap.get?_push_of_some _ htb'⟩
    ·exact⟨o,hxx b o hb e⟩
   ·rw[hH b (I.hok.lt e) (nT b _ e (fun _ z=>by cases z))];exact e
   ·rw[hH b (I.hok.lt e) (nT b _ e (fun _ z=>by cases z))];exact e
   ·by_cases hb:b=T
    ·rw[hb,e] at e1;cases e1
     exact⟨tri pos c',by rw[hb,hHT];simp⟩
    ·exact⟨#[],by rw[hH b (I.hok.lt e1) hb,e1];simp⟩
  have hok:HOk X.prog X.w (upd (upd (upd H T (.tbl (tri pos c'))) c' (.ext (codeP c' qual))) h'.objs.size (.ext (lamP (fun v=>lamO X.mg qual params body scope clos c' v) h'.objs.size))) (h'.push ob):=fun b u e1=>by
   by_cases h1:b=h'.objs.size
   ·subst h1
    rw[upd_same] at e1;cases e1
    exact lamP_ok (v:=ctv) (o:=fun v=>lamO X.mg qual params body scope clos c' v) (Heap.get?_push_size _ rfl)
   ·by_cases h2:b=c'
    ·rw[h2,hHc] at e1;cases e1
     rw[h2]
     obtain⟨c0,o,vs,t,z,r1,r2,r3⟩:=hrec
     cases z
     exact codeP_ok ⟨c',o,vs,t,rfl,Heap.get?_push_of_some _ r1,r2,r3⟩
    ·by_cases h3:b=T
     ·rw[h3,hHT] at e1;cases e1
      rw[h3]
      exact Heap.get?_push_of_some _ htb'
     ·have e3:H b=some u:=by rw[upd_ne h1,upd_ne h2,upd_ne h3] at e1;exact e1
      refine (I.hok b u e3).stay (fun d v hc r=>hxx d v ?_ r) (fun d r=>?_) fun d xs r=>?_
      ·rcases hc with rfl | hc
       ·exact h3
       ·exact nT d _ hc (fun _ z=>by cases z)
      ·rw[hH d (I.hok.lt r) (nT d _ r (fun _ z=>by cases z))];exact r
      ·rw[hH d (I.hok.lt r) (nT d _ r (fun _ z=>by cases z))];exact r
  refine⟨.ref h'.objs.size,_,I.un (t':=tk) un hok,rfl,q h'.objs.size c' _ (I.hok.fresh (Nat.le_trans hge (Nat.le_of_lt hlt))) (fun b o e1 n=>?_) hHT hHc upd_same⟩
  rw[hH b (I.hok.lt e1) (nT b o e1 n)];exact e1
 ·have hP:s.heap.get? T=some (tabObj (tri pos c')):=I.hok T _ e1
  refine kla_eval hdef (kla_makeFunctionHit (mg:=X.mg) (ps:=tri pos c') (cv:=.ref c') hcl I.ok.glob (I.mod.glob.keeps I.bk) hcode (C.keeps I.bk) hP (by simp[TriplesOk,tri,rawInt]) (by simp[codeAmong,tri,rawInt]) hb fun ctv h' tk hk hsz=>?_)
  have hn:H h'.objs.size=none:=I.hok.fresh hsz
  refine⟨.ref h'.objs.size,_,I.laid (t':=tk) (o:=.ext (lamP (fun v=>lamO X.mg (X.env.qual++"<lambda>") params body scope clos c' v) h'.objs.size)) (fun b u e=>Heap.get?_push_of_some _ (hk b u e)) hsz (lamP_ok (v:=ctv) (o:=fun v=>lamO X.mg (X.env.qual++"<lambda>") params body scope clos c' v) (Heap.get?_push_size _ rfl)),rfl,
   q h'.objs.size c' _ hn (fun b o e n=>?_) ?_ ?_ upd_same⟩
  ·rw[upd_ne (ne_of_none e hn)];exact e
  ·rw[upd_ne (ne_of_none e1 hn)];exact e1
  ·rw[upd_ne (ne_of_none e2 hn)];exact e2
end
end L2
namespace L2
open PySem PySem.Spec PyProof.Rows PySem.W
theorem SameT.seq {K:PySem.W.Frag}{H H':Hp}{a:Addr}{xs:List V}(e:SameT H H')(h:SqL K H a xs):SqL K H' a xs:=by
 rcases h with (h | ⟨o,h⟩) | h
 ·exact .inl (.inl (e _ _ h fun _ z=>by cases z))
 ·exact .inl (.inr ⟨o,e _ _ h fun _ z=>by cases z⟩)
 ·exact .inr h
def widI (ps:List Int)(n:Int):Int:=((ps.getD (n.toNat+1) 0 - ps.getD n.toNat 0).natAbs:Int)
theorem ints_get {its:List Value}{ps:List Int}(hi:IntsAre its ps){i:Nat}(h:i<ps.length):∃ t,its[i]?=some (.int (ps.getD i 0) t):=by
 obtain⟨n,hn⟩:∃ n,ps[i]?=some n:=⟨_,List.getElem?_eq_getElem h⟩
 obtain⟨t,ht⟩:=hi.get i n hn
 exact⟨t,by rw[ht];simp[hn]⟩
abbrev lamB (p0 p1 p2 p3 p4 p5 p6 p7 p8 p9 p10:Pos)(q:Nat):Expr:=.Call (.Name "abs" p1) [.BinOp (.Subscript (.Name "at" p2) (.BinOp (.Name "crease" p3) .Add (.Constant (.int 1) q p4) p5) p6) .Sub (.Subscript (.Name "at" p7) (.Name "crease" p8) p9) p10] [] p0
structure LamS (params:Arguments)(scope:Scope):Prop where
 kind:scope.kind=.function
 co:scope.isCoroutine=false
 gen:scope.isGenerator=false
 nocell:∀ x∈scope.names,x.2≠.cell
 cr:scope.names.lookup (Str.ofString "crease")=some .local
 at_:scope.names.lookup (Str.ofString "at")=some .free
 abs:scope.names.lookup (Str.ofString "abs")=some .globalImplicit
 bind:∀ (qual:Str) (body:Expr) (cl:List (Str×Addr)) (pm cd ct v:Value),bindArgs (kla_fn "<lambda>" qual params body scope cl pm cd ct) ⟨[v],[]⟩=pure [(Str.ofString "crease",v)]
section
variable {X:Cx}{pins:List (Addr×Obj)}{σ:St}{H:Hp}{s:Shared}{params:Arguments}{scope:Scope}{qual:Str}{p0 p1 p2 p3 p4 p5 p6 p7 p8 p9 p10:Pos}{q0 k:Nat}{l f c a cA:Addr}{ns ps:List Int}{Q:VK}
theorem call_maxkey (hr:Room (k+1) X.A)(S:LamS params scope)(hab:X.mg "abs"=none)(I:Inv X pins σ H s)(hl:SqL X.K H l (ns.map V.int))(hne:0<ns.length)(hbd:∀ n∈ns,0≤n∧n.toNat+1<ps.length)(ha:SqL X.K H a (ps.map V.int))
  (hcA:s.heap.IsCell cA (some (.ref a))) (hcL:cA≠X.env.locals) (hc:H c=some (.ext (codeP c qual)))
  (hf:H f=some (.ext (lamP (fun v=>lamO X.mg qual params (lamB p0 p1 p2 p3 p4 p5 p6 p7 p8 p9 p10 q0) scope [(Str.ofString "at",cA)] c v) f)))
  (q:∀ M,M∈ns→(∀ n∈ns,widI ps n≤widI ps M)→Q (.int M) H) :
  wpAny (model X.prog X.w) X.A (call (.builtin "max") [.ref l] [(Str.ofString "key",.ref f)]) (EP X pins σ Q) X.xe s:=by
 obtain⟨m,hn,hloc⟩:=I.loc
 have F:Fr X.base X.env.locals s.heap m:=⟨hn,I.bk,Nat.le_trans I.ok.bsz I.ok.above⟩
 obtain⟨its,rv,pl,hz⟩:=I.list hl
 have hi:IntsAre its ns:=intsAre_of rv
 have hlen:=hi.length
 obtain⟨itsA,rvA,plA,hzA⟩:=I.list ha
 have hiA:IntsAre itsA ps:=intsAre_of rvA
 have hlenA:=hiA.length
 have noL:∀ {b:Addr}{o:Obj},s.heap.get? b=some o→(∀ es ep,o.data≠.dict es ep)→b≠X.env.locals:=fun {b o} e nd z=>by
  obtain⟨oL,es,ep,e1,e2,_⟩:=hn
  rw[z,e1] at e;cases e
  exact nd _ _ e2
 have isL:∀ {b:Addr}{v:Array Value},s.heap.IsList b v→∀ h:Heap,(∀ x o,x≠X.env.locals→s.heap.get? x=some o→h.get? x=some o)→h.IsList b v:=fun {b v} x h kp=>by
  obtain⟨o,e1,e2,e3,e4⟩:=x
  exact⟨o,kp b o (noL e1 fun es ep z=>by rw[e4] at z;cases z) e1,e2,e3,e4⟩
 refine kmk_max (h₀:=X.base) (L:=X.env.locals) (m:=m) (news:=allNews X.base s.heap X.env.locals) (vs:=its) (fun i=>widI ps (ns.getD i 0)) hr.hd F news_all (fun h F' N'=>isL pl.isList h (kept_all I.bk F' N')) (by omega) (fun i v hv h tk own F' N'=>?_) fun i v h' tk' hv hb F' N'=>?_
 ·have hi':i<its.length:=(List.getElem?_eq_some_iff.mp hv).1
  obtain⟨t,ht⟩:=ints_get hi (i:=i) (by omega)
  rw[ht] at hv
  obtain rfl:Value.int (ns.getD i 0) t=v:=Option.some.inj hv
  have hmem:ns.getD i 0∈ns:=by
   have e:ns.getD i 0=ns[i]'(by omega):=by simp[List.getD,List.getElem?_eq_getElem (show i<ns.length by omega)]
   rw[e];exact List.getElem_mem _
  generalize ns.getD i 0=n at hmem ht ⊢
  obtain⟨n0,n1⟩:=hbd n hmem
  have kp:∀ b o,b≠X.env.locals→s.heap.get? b=some o→h.get? b=some o:=kept_all I.bk F' fun p hp=>N' p (List.mem_append_left _ hp)
  obtain⟨⟨ctv,hfo⟩,_,_⟩:=I.hok f _ hf
  obtain⟨⟨c0,oc,vs,tq,z,r1,r2,r3⟩,_,_⟩:=I.hok c _ hc
  cases z
  have hfo':=kp f _ (fun z=>by rw[z,I.free] at hf;cases hf) hfo
  have hcd:h.CodeRec (.ref c) qual:=⟨c,oc,vs,tq,rfl,kp c _ (fun z=>by rw[z,I.free] at hc;cases hc) r1,r2,r3⟩
  refine wpAny_call (kla_callFunE (s:={ s with heap:=h,toks:=tk }) hr.in1.depth hfo' rfl S.co S.gen rfl hcd ?_)
  rw[S.bind]
  refine wpAny_pure (wpAny_newFunctionEnv S.nocell (fun y hy=>by obtain rfl:=List.mem_singleton.mp hy;exact S.cr) (fun h₁ hns hsb=>⟨?_,?_⟩) S.kind)
  ·exact (I.mod.nolimit.keeps F'.keep).fresh _ hsb
  have hk₁:∀ b o,h.get? b=some o→h₁.get? b=some o:=fun b o e=>hsb.extBut b o (Nat.ne_of_lt (Heap.lt_size e)) (Heap.get?_push_of_some _ e)
  have kp₁:∀ b o,b≠X.env.locals→s.heap.get? b=some o→h₁.get? b=some o:=fun b o nb e=>hk₁ b o (kp b o nb e)
  obtain⟨mb,hb1,hb2⟩:=I.mod.blt
  obtain⟨t1,ht1⟩:=ints_get hiA (i:=n.toNat+1) n1
  obtain⟨t0,ht0⟩:=ints_get hiA (i:=n.toNat) (by omega)
  obtain⟨oA,hA1,hA2⟩:=hcA
  refine kla_codeExpr (lam_body (m:=fun x=>[(Str.ofString "crease",Value.int n t)].reverse.lookup x) (a:=a) (cA:=cA) (its:=itsA.toArray) (x:=ps.getD (n.toNat+1) 0) (y:=ps.getD n.toNat 0) (mg:=X.mg) (mb:=mb) S.kind rfl rfl S.cr S.at_ S.abs hns rfl rfl ⟨oA,kp₁ _ _ hcL hA1,hA2⟩ (isL plA.isList h₁ kp₁)
   ((I.mod.glob.keeps F'.keep).keeps hk₁) hab ((hb1.keeps F'.keep).keeps hk₁) hb2 n0 (by rw[List.size_toArray];omega) (by rw[List.size_toArray];rw[List.length_map] at hzA;omega) (by simpa using ht1) (by simpa using ht0) fun u tk2=>?_)
  exact⟨h₁,tk2,u,rfl,rfl,⟨F'.ns.keeps hk₁,fun b o e=>hk₁ b o (F'.keep b o e),F'.above⟩,N'.grown hk₁⟩
 ·have hi':i<its.length:=(List.getElem?_eq_some_iff.mp hv).1
  obtain⟨t,ht⟩:=ints_get hi (i:=i) (by omega)
  rw[ht] at hv
  obtain rfl:Value.int (ns.getD i 0) t=v:=Option.some.inj hv
  refine⟨.int (ns.getD i 0),H,I.anew hloc (kept_all I.bk F' N') F'.ns,⟨t,rfl⟩,q _ ?_ fun n hn'=>?_⟩
  ·have e:ns.getD i 0=ns[i]'(by omega):=by simp[List.getD,List.getElem?_eq_getElem (show i<ns.length by omega)]
   rw[e];exact List.getElem_mem _
  ·obtain⟨j,hj,ej⟩:=List.getElem_of_mem hn'
   have:=(hb j (by omega)).1
   have e2:ns.getD j 0=n:=by rw[← ej];simp[hj]
   rw[e2] at this
   exact this
end
end L2
namespace L2
open PySem PySem.Spec PyProof.Rows PySem.W
theorem boot_maxB:bootBuiltins "max"=some (.builtin "max"):=by decide +kernel
def tMaxK (K:PySem.W.Frag)(T:Addr)(pos:Pos)(qual:Str)(ia:Nat)(te:TE):TE:=fun σ H Q=>te σ H fun x H1=>∃ (l a:Addr) (ns ps:List Int),x=.ref l∧SqL K H1 l (ns.map V.int)∧0<ns.length∧σ[ia]?=some (some (.ref a))∧SqL K H1 a (ps.map V.int) ∧
 (∀ n∈ns,0≤n∧n.toNat+1<ps.length)∧Tab H1 T pos qual∧∀ M H2,M∈ns→(∀ n∈ns,widI ps n≤widI ps M)→SameT H1 H2→Tab H2 T pos qual→Q (.int M) H2
section
variable {X:Cx}{params:Arguments}{scope:Scope}{p0 p1 p2 p3 p4 p5 p6 p7 p8 p9 p10 p pos lpos kpos:Pos}{q0 k ia:Nat}{c T cA:Addr}{e:Expr}{te:TE}
theorem pe_maxkey (hr:Room (k+1) X.A)(S:LamS params scope)(hab:X.mg "abs"=none)(hmx:X.mg "max"=none)(hg:Gl X "max")(hcl:closureFor scope X.env=pure [(Str.ofString "at",cA)])(hcc:X.env.cells.lookup (Str.ofString "at")=some cA)(hka:X.env.kindOf "at"=some .cell)
  (hN:X.N[ia]?=some "at") (hcode:X.env.code=.ref c) (C:CodeHd X.base c T) (B:Bm X.mg X.base) (he:PE X e te) (hdef:defaultsOf params X.env=([],[]):=by rfl) (hst:starEach [e] X.env=[(false,eval e X.env)]:=by rfl) :
  PE X (.Call (.Name "max" p) [e] [⟨some "key",.Lambda params (lamB p0 p1 p2 p3 p4 p5 p6 p7 p8 p9 p10 q0) scope lpos,kpos⟩] pos) (tMaxK X.K T lpos (X.env.qual++"<lambda>") ia te):=by
 intro pins s σ H Q I h
 refine wpAny_Call_Name_kw (ld_blt I hg hmx boot_maxB ?_)
 refine callWith_kw ?_ (by rw[hst];rfl) (by rw[hst];rfl) rfl rfl
 rw[hst]
 refine Calls.spliced_cons (thn (he pins s σ H _ I h) fun u s1 ⟨x,H1,I1,r1,l,a,ns,ps,ex,hl,hne,hva,ha,hb,tab,q⟩=>?_)
 subst ex
 obtain rfl:u=Value.ref l:=r1
 refine Calls.spliced_nil ?_
 refine thn (pk_cons (nm:=some "key") (kpos:=kpos) (pe_lam (params:=params) (body:=lamB p0 p1 p2 p3 p4 p5 p6 p7 p8 p9 p10 q0) (pos:=lpos) hcl hcode C B hdef) pk_nil pos pins s1 σ H1 (fun zs H2=>∃ f c2,zs=[.ref f]∧SameT H1 H2∧H2 T=some (.tbl (tri lpos c2))∧H2 c2=some (.ext (codeP c2 (X.env.qual++"<lambda>"))) ∧
   H2 f=some (.ext (lamP (fun v=>lamO X.mg (X.env.qual++"<lambda>") params (lamB p0 p1 p2 p3 p4 p5 p6 p7 p8 p9 p10 q0) scope [(Str.ofString "at",cA)] c2 v) f))) I1 ⟨tab,fun f c2 H2 h1 h2 h3 h4 h5=>⟨f,c2,rfl,h2,h3,h4,h5⟩⟩) fun ws s2 ⟨zs,H2,I2,rz,f,c2,ez,h2,h3,h4,h5⟩=>?_
 subst ez
 obtain⟨u,rfl,ru⟩:=vals1 rz
 obtain rfl:u=Value.ref f:=ru
 obtain⟨m,hn,hloc⟩:=I2.loc
 obtain⟨u,ru,lk⟩:=hloc ia "at" (.ref a) hN hva (.inr (.inl hka))
 obtain rfl:u=Value.ref a:=ru
 have hcell:s2.heap.IsCell cA (some (.ref a)):=by
  rcases lk with⟨z,_⟩ | ⟨_,c3,e3,h6⟩
  ·rw[hka] at z;cases z
  ·rw[hcc] at e3;cases e3;exact h6
 exact call_maxkey hr S hab I2 (h2.seq hl) hne hb (h2.seq ha) hcell (I2.cne _ _ hcc) h4 h5 fun M hM hmax=>q M H2 hM hmax h2 (.inr ⟨c2,h3,h4⟩)
end
end L2
namespace L2
open PySem PySem.Spec PyProof.Rows PySem.W
def OnlyT (T:Addr)(H:Hp):Prop:=∀ b,H b=none∨(∃ o xs,H b=some (.frz o (.lst xs)))∨(b=T∧H b=some (.tbl #[]))
theorem law_callT {P:Program}{w:World}{K:PySem.W.Frag}{mg mb:Str→Option Value}{CX:CXT}{k:Nat}{fa a c T:Addr}{fd:FuncData}{x:Str}{sp:Sp}{s₁:Shared}{vs:List Value}{ns:List Int}
  (KX:K.In s₁.heap) (hns:s₁.heap.Ns mainGlobals mg) (hb:s₁.heap.Ns builtinsNs mb) (hbb:∀ x:Str,x≠"__name__"→mb x=bootBuiltins x) (hlim:s₁.heap.NoLimit) (hg:s₁.gens=#[])
  (C:CodeHd s₁.heap c T) (hT:s₁.heap.get? T=some (tabObj #[])) (B:Bm mg s₁.heap) (hKT:noTabs K=true)
  (ha:s₁.heap.get? a=some { cls:=.type "list",data:=.seq vs.toArray }) (hi:IntsAre vs ns) (hl:ns.length≤sizeLine) (hr:Room k callerA)
  (F:∀ base:Heap,K.In base→base.Ns mainGlobals mg→CodeHd base c T→Bm mg base→FnOk P w K mg base CX k fa fd [x] sp) (hbind:∀ (s:Shared) (u:Value),BindsTo s fd ⟨[u],[]⟩ [(x,u)])
  (hsp:∀ H:Hp,OnlyT T H→H T=some (.tbl #[])→SqL K H a (ns.map V.int)→sp [.ref a] H (fun v _=>v=.bl true) fun _ _ _=>False)
  (hCX:∀ H e s',CX [] H s₁ (fun _ _ _=>False) e s'→False) :
  codeAny (model P w) callerA (.call (.ref fa) ⟨[.ref a],[]⟩) (fun r s'=>r=.ok (.ret (.bool true))∧OldK s₁.heap s'.heap∧s'.os=s₁.os∧AllBare s'.gens) s₁:=by
 have rv:=vals_ints hi
 have lenV:=hi.length
 have neT:a≠T:=fun z=>by rw[z,hT] at ha;cases ha
 have hKT':K.lookup T=none:=by
  cases e:K.lookup T with
  | none=>rfl
  | some o =>
   have e1:=KX T o e
   rw[hT] at e1;cases e1
   have h2:=List.all_eq_true.mp hKT (T,tabObj #[]) (mem_of_lookupK e)
   exact absurd (show false=true from h2) Bool.false_ne_true
 have core:∀ H:Hp,OnlyT T H→H T=some (.tbl #[])→SqL K H a (ns.map V.int)→HOk P w H s₁.heap→(∀ b,H b≠none→b=a∨b=T)→(H a≠none→K.lookup a=none) →
   codeAny (model P w) callerA (.call (.ref fa) ⟨[.ref a],[]⟩) (fun r s'=>r=.ok (.ret (.bool true))∧OldK s₁.heap s'.heap∧s'.os=s₁.os∧AllBare s'.gens) s₁:=by
  intro H hO hHT hS hok hA hK
  have base_of:∀ {b:Addr}{o:Obj},s₁.heap.get? b=some o→H b=none→(hidT s₁.heap H).get? b=some o:=fun e n=>hidT_get e n
  have un_of:∀ {b:Addr}{o:Obj},s₁.heap.get? b=some o→o.cls≠.none→(∀ v,o.data≠.seq v 0)→H b=none:=fun {b o} e d1 d2=>by
   cases q:H b with
   | none=>rfl
   | some u =>
    rcases hA b (by rw[q];simp) with z | z
    ·rw[z,ha] at e;cases e;exact absurd rfl (d2 _)
    ·rw[z,hT] at e;cases e;exact absurd rfl d1
  have noA:∀ {b:Addr}{o:Obj}{es:Array DictEntry}{ep:Nat},s₁.heap.get? b=some o→o.data=.dict es ep→H b=none:=fun {b o es ep} e d=>by
   cases q:H b with
   | none=>rfl
   | some u =>
    rcases hA b (by rw[q];simp) with z | z
    ·rw[z,ha] at e;cases e;cases d
    ·rw[z,hT] at e;cases e;cases d
  have nsK:∀ {b:Addr}{m:Str→Option Value},s₁.heap.Ns b m→(hidT s₁.heap H).Ns b m:=fun {b m} ⟨o,es,ep,e,d,r⟩=>⟨o,es,ep,base_of e (noA e d),d,r⟩
  have hKb:K.In (hidT s₁.heap H):=fun b o e=>base_of (KX b o e) (by
   cases q:H b with
   | none=>rfl
   | some u =>
    rcases hA b (by rw[q];simp) with z | z
    ·rw[z] at e q;rw[hK (by rw[q];simp)] at e;cases e
    ·rw[z,hKT'] at e;cases e)
  have hM:Mod K mg (hidT s₁.heap H):=⟨hKb,nsK hns,⟨mb,nsK hb,hbb⟩,let ⟨mc,h1,h2⟩:=hlim;⟨mc,nsK h1,h2⟩⟩
  have hC:CodeHd (hidT s₁.heap H) c T:=by
   obtain⟨o,vs',file,tf,flags,tg,inF,text,tt,e1,e2,e3,r⟩:=C
   exact⟨o,vs',file,tf,flags,tg,inF,text,tt,base_of e1 (un_of e1 (by rw[e2];nofun) fun v z=>by rw[e3] at z;cases z),e2,e3,r⟩
  have hB:Bm mg (hidT s₁.heap H):=by
   obtain⟨bm,ob,b1,b2,b3,b4,b5,b6⟩:=B
   exact⟨bm,ob,b1,b2,base_of b3 (un_of b3 (by rw[b4];nofun) fun v z=>by rw[b6] at z;cases z),b4,b5,b6⟩
  have e0:Env0 P w K mg (hidT s₁.heap H) callerA [] s₁ H:=⟨rfl,hM,fun b o e=>of_hidT e,Nat.le_of_eq (hidT_size _ _),trivial,fun b hb=>absurd (show b∈([]:List Addr) from hb) (by simp),hok,.of_eq hg⟩
  refine codeAny_mono ((F _ hKb (nsK hns) hC hB).run callerA [] s₁ H ⟨[.ref a],[]⟩ [.ref a] [.ref a] _ _ hr e0 (hbind s₁ (.ref a)) (.cons rfl .nil) (hsp H hO hHT hS)) fun r s' h=>?_
  cases r with
  | error e=>exact (hCX H e s' h).elim
  | ok fl =>
   cases fl with
   | next=>exact False.elim h
   | brk=>exact False.elim h
   | cont=>exact False.elim h
   | ret u =>
    obtain⟨v,H',os,bare,un,hok',r',q⟩:=h
    have q':v=.bl true:=q
    subst q'
    obtain rfl:u=Value.bool true:=r'
    have nin:∀ b:Addr,b∉frs ([]:List Env):=fun b z=>absurd (show b∈([]:List Addr) from z) (by simp)
    have kp:∀ b o,b≠T→s₁.heap.get? b=some o→s'.heap.get? b=some o:=fun b o nb e=>by
     cases q:H b with
     | none=>exact un.keep b o e q (nin b) (by simp)
     | some u =>
      rcases hO b with z | ⟨ob,xs,z⟩ | ⟨z,_⟩
      ·rw[q] at z;cases z
      ·have z2:=un.frzs b ob _ z
       obtain⟨e1,_⟩:=hok b _ z
       obtain⟨e2,_⟩:=hok' b _ z2
       rw[e] at e1;cases e1
       exact e2
      ·exact absurd z nb
    obtain⟨more,hT'⟩:=un.tbls T #[] hHT
    have hT2:s'.heap.get? T=some (tabObj (#[]++more)):=hok' T _ hT'
    refine⟨rfl,⟨fun b o e=>?_,fun b o e=>?_⟩,os,bare⟩
    ·by_cases hbT:b=T
     ·rw[hbT,hT] at e;cases e
      rw[hbT]
      exact .inr (.inl ⟨(C.tab hT).isCodeTable,rfl,#[],more,rfl,hT2⟩)
     ·exact .inl (kp b o hbT e)
    ·by_cases hbT:b=T
     ·exact⟨_,by rw[hbT];exact hT2⟩
     ·exact⟨o,kp b o hbT e⟩
 cases hk:K.lookup a with
 | some o =>
  have e:=KX a o hk
  rw[ha] at e
  cases e
  refine core (fun b=>if b=T then some (.tbl #[]) else none) (fun b=>?_) (if_pos rfl) (.inr ⟨_,vs.toArray,_,hk,rfl,rfl,rfl,by rw[List.size_toArray,lenV];exact hl,by simpa using rv⟩) (fun b u z=>?_) (fun b z=>?_) fun z=>absurd (if_neg neT) z
  ·by_cases h1:b=T
   ·exact .inr (.inr ⟨h1,if_pos h1⟩)
   ·exact .inl (if_neg h1)
  ·by_cases h1:b=T
   ·have z':=(if_pos h1).symm.trans z
    cases z'
    rw[h1]
    exact hT
   ·have z':=(if_neg h1).symm.trans z
    cases z'
  ·by_cases h1:b=T
   ·exact .inr h1
   ·exact absurd (if_neg h1) z
 | none =>
  refine core (fun b=>if b=T then some (.tbl #[]) else if b=a then some (.frz { cls:=.type "list",data:=.seq vs.toArray } (.lst (ns.map V.int))) else none) (fun b=>?_) (if_pos rfl) (.inl (.inr ⟨{ cls:=.type "list",data:=.seq vs.toArray },(if_neg neT).trans (if_pos rfl)⟩)) (fun b u z=>?_) (fun b z=>?_) fun _=>hk
  ·by_cases h1:b=T
   ·exact .inr (.inr ⟨h1,if_pos h1⟩)
   ·by_cases h2:b=a
    ·exact .inr (.inl ⟨_,_,(if_neg h1).trans (if_pos h2)⟩)
    ·exact .inl ((if_neg h1).trans (if_neg h2))
  ·by_cases h1:b=T
   ·have z':=(if_pos h1).symm.trans z
    cases z'
    rw[h1]
    exact hT
   ·by_cases h2:b=a
    ·have z':some (HO.frz { cls:=.type "list",data:=.seq vs.toArray } (.lst (ns.map V.int)))=some u:=by rw[← z];show _=(if b=T then _ else _);rw[if_neg h1,if_pos h2]
     cases z'
     rw[h2]
     exact⟨ha,by rw[List.length_map];exact hl,vs,_,rv,ha⟩
    ·have z':(none:Option HO)=some u:=by rw[← z];show _=(if b=T then _ else _);rw[if_neg h1,if_neg h2]
     cases z'
  ·by_cases h1:b=T
   ·exact .inr h1
   ·by_cases h2:b=a
    ·exact .inl h2
    ·exact absurd (show (if b=T then _ else _)=none by rw[if_neg h1,if_neg h2]) z
theorem walk_ofT {l:PySem.W.OpenLaw}{n k:Nat}{q:Program}{loose:List Str}{XP:(Str→Option Value)→Heap→Prop}{YP:World→Heap→Prop}{d dT:DefRec}{K:Params→PySem.W.Frag}{CX:World→CXT}{sp:World→Sp}{x y:Str}{c T:Addr}
  (hn:l.most=some n) (hn2:n≤sizeLine) (hdf:d.params.defaults=[]) (hr:Room k callerA)
  (hY:∀ (w:World) (h:Heap),YP w h→(K w.params).In h) (hrec:(recsOf q).find? (fun e=>e.name == y)=some dT) (htab:∀ w:World,tabIn (K w.params) y=some (c,T)) (hno:∀ w:World,noTabs (K w.params)=true)
  (F:∀ (w:World) (mg:Str→Option Value) (fa:Addr) (h:Heap),(K w.params).In h→h.Ns mainGlobals mg→mg d.name=some (.ref fa) →
   ∃ fd:FuncData,(∀ (s:Shared) (u:Value),BindsTo s fd ⟨[u],[]⟩ [(x,u)]) ∧
    ∀ base:Heap,(K w.params).In base→base.Ns mainGlobals mg→CodeHd base c T→Bm mg base→FnOk l.prog w (K w.params) mg base (CX w) k fa fd [x] (sp w))
  (hsp:∀ (w:World) (H:Hp) (a:Addr) (ns:List Int),ns.length≤n→OnlyT T H→H T=some (.tbl #[])→SqL (K w.params) H a (ns.map V.int)→sp w [.ref a] H (fun v _=>v=.bl true) fun _ _ _=>False)
  (hCX:∀ (w:World) (H:Hp) (s:Shared) (e:Value) (s':Shared),CX w [] H s (fun _ _ _=>False) e s'→False) :
  PySem.W.WalkO q loose XP YP l.row.toRowW d [] (fun f vs=>PySem.call f vs):=by
 refine Att.attach_call hn hdf fun w s₀ s₁ mg mb fa o pm cd doc a vs ns G Y ho hd hcd hmg hobj hints hlen hg=>?_
 have KX:=hY w _ Y
 obtain⟨fd,hb,hF⟩:=F w mg fa _ KX G.T.g hmg
 obtain⟨C,hT⟩:=tab_of G.T KX hrec (htab w)
 exact law_callT KX G.T.g G.T.b G.T.builtins G.T.nolimit hg C hT G.T.bmain (hno w) hobj hints (Nat.le_trans hlen hn2) hr hF hb (fun H hO h1 hS=>hsp w H a ns hlen hO h1 hS) fun H e s'=>hCX w H s₁ e s'
end L2
namespace PySem.AutoSeq1
open PySem PySem.Spec
theorem ext_tup (l:Addr)(xs:Array Value)(n:Nat)(b:Addr)(ys:Array Value)(n2:Nat)(d:Option Addr)(sl:Array (Option Value))(h0:¬(!xs.isEmpty && Builtin.List.listTooLong (xs.size+ys.size))=true)(h1:xs.size≤sizeLine)(h2:xs.size+ys.size≤sizeLine+1) :
  Meets (Builtin.«list.extend» ⟨[.ref l,.ref b],[]⟩) (fun _ R s=>s.heap.get? l=some ⟨.type "list",none,.seq xs n,#[]⟩∧s.heap.get? b=some ⟨.type "tuple",d,.seq ys n2,sl⟩∧R (.ok (.ret Value.none)) { s with heap:=s.heap.update l (Obj.mapSeq fun x=>x++ys),toks:=s.toks }) :=
 .of_wp fun prog w A R s h=>by
  obtain⟨hp,g,dr,tk,os⟩:=s
  obtain⟨hl,hb,h⟩:=h
  have g1:=idx_int;have g2:=sub_tuple_tuple;have g3:=sub_list_list
  have g4:=sub_tuple_list;have g5:=sub_list_tuple
  have hz:(xs++ys).size≤sizeLine+1:=by rw[Array.size_append];exact h2
  wp_walk using (wpAny_updateSeq hl rfl (hz:=h1) (_hz':=hz)),wpAny_loadPart' hl,wpAny_loadPart' hb
  exact⟨_,rfl,h⟩
end PySem.AutoSeq1
namespace L2
open PySem PySem.Spec PyProof.Rows
section
variable {X:Cx}
def rExtT:V→List V→Hp→VK→Prop:=fun x vs H Q=>∃ l b xs zs,x=.ref l∧vs=[.ref b]∧H l=some (.lst xs)∧H b=some (.tup zs)∧xs.length+zs.length≤sizeLine∧Q .non (upd H l (.lst (xs++zs)))
theorem mt_extT:MtM X "list.extend" rExtT:=by
 intro pins s σ H x vs v us Q I rx rv h
 obtain⟨l,b,xs,zs,rfl,rfl,hH,hB,hz,q⟩:=h
 cases rx
 obtain⟨u,rfl,ru⟩:=rv.one
 cases ru
 obtain⟨z,its,n,r,hl,e⟩:=I.lstM hH
 obtain⟨its2,r2,⟨⟨cl,d,dt,sl⟩,e2,c1,n2,c2⟩,_⟩:=I.tuple (SqT.of hB)
 cases c1
 cases c2
 have hl2:=r2.length
 have hsz:its.toArray.size+its2.toArray.size≤sizeLine:=by rw[List.size_toArray,List.size_toArray];omega
 have hlong:¬ (!its.toArray.isEmpty && Builtin.List.listTooLong (its.toArray.size+its2.toArray.size))=true:=by
  rw[notLongL hsz,Bool.and_false]
  exact Bool.false_ne_true
 refine call_meets F.slot_list_extend ⟨_,e,rfl⟩ F.entry_list_extend (F.args_list_extend_2 _ _) (AutoSeq1.ext_tup l its.toArray n b its2.toArray n2 d sl hlong (by rw[List.size_toArray];omega) (by omega)) ⟨e,e2,?_⟩
 refine⟨.non,_,I.lset (its':=its++its2) hH e (by simp) (r.append r2) ?_,rfl,q⟩
 rw[List.length_append]
 omega
end
end L2
namespace L2
open PySem PySem.Spec PyProof.Rows PySem.W
open PySem.Builtin PySem.Builtin.ObjectAttr
structure XCls (K:PySem.W.Frag)(C S:Addr):Prop where
 mro:∃ cd,clsIn K C=some cd∧cd.mro=.ref C::.ref S::bmV∧cd.hasDict=true
 sa:findIn K (.ref C) "__setattr__"=some (some (.builtin "object.__setattr__"))
 exc:ExcIn K C
section
variable {prog:Program}{w:World}{A:Around}{E:Value→Shared→Prop}{s:Shared}{K:PySem.W.Frag}{x C D S:Addr}{ox:Obj}{odo:Option Obj}{name:Str}{v:Value}
theorem exc_value {Q:Value→Shared→Prop}{expr:Bool}(X:K.In s.heap)(I:InstAt s.heap x ox D odo)(FX:ExcIn K D)(hf:findObj K D odo name=some (.value v))(hh:handedIn v=true)
  (h:Q v { s with toks:=s.toks+1 }):wpAny (model prog w) A (getAttr (.ref x) name expr) Q E s:=by
 obtain⟨hp,g,d,t,os⟩:=s
 have L0:=I.type (M:=model prog w)
 have L1:=looks_findIn (M:=model prog w) X FX.ga
 have L2:=looks_findIn (M:=model prog w) X FX.gt
 have L3:=looks_find (M:=model prog w) X I hf
 have L4:=looks_mroIn (M:=model prog w) X FX.exc
 unfold getAttr getAttrBy
 refine wpAny_bind (wpAny_mkText (wpAny_holding (wpAny_bind (L0.at (wpAny_bind (L1.at ?_))))))
 have hx2:(Value.builtin "BaseException.__getattribute__" == Value.builtin "object.__getattribute__")=false:=by decide +kernel
 have f3:=PySem.F.attrBase_ValueError.ga.bind (.ref x)
 show wpAny _ _ (if (onTheHeap (Value.ref D) && Value.builtin "BaseException.__getattribute__" == Value.builtin "object.__getattribute__")=true then _ else _) _ _ _
 rw[hx2,Bool.and_false,if_neg Bool.false_ne_true]
 unfold getAttrByItsOwn hookBefore
 have ha2:=PySem.F.args_bexc_ga (.ref x) (.str name t)
 have hk:builtinKind "BaseException.__getattribute__"=some .slot:=by decide +kernel
 have hsplit:splitId "BaseException.__getattribute__"=some ("BaseException","__getattribute__"):=by decide +kernel
 refine wpAny_bind (L2.at ?_)
 refine wpAny_bind (wpAny_attempt (wpAny_holding ?_))
 unfold callGetattribute boundAndCalled
 rw[show (expr && onTheHeap (Value.builtin "BaseException.__getattribute__"))=false from Bool.and_false _,if_neg (by decide)]
 refine wpAny_bind (wpAny_of_eq f3 ?_)
 refine wpAny_call (codeAny_call_builtin PySem.F.attrBase_ValueError.ga.plain PySem.F.entry_bexc_ga ?_)
 simp only[checkBuiltinCall,hk,hsplit]
 refine wpAny_bind ?_
 unfold isInstance
 refine wpAny_bind (L0.at (L4.at ?_))
 repeat (first | assumption | wp_step)
 refine wpAny_loadPart I.at_ (wpAny_pure ?_)
 rw[I.cls]
 refine wpAny_bind (L3.at ?_)
 refine wpAny_pure ?_
 show wpAny _ _ (handedOut v) _ _ _
 rw[handedOut_of hh]
 exact wpAny_pure h
theorem refuse_X (self:Value)(C S:Addr):refuseLoop self "__setattr__" (.ref C::.ref S::bmV)=pure ():=by
 rw[refuseLoop_ref,refuseLoop_ref]
 exact PySem.F.store_ValueError.passes self
theorem osaX {tk:Tok}{R:Result→Shared→Prop}(X:K.In s.heap)(I:InstAt s.heap x ox C odo)(c:XCls K C S)(ht:findIn K (.ref C) name=some none)
  (h:wpAny (model prog w) A.in1 (storeInOwnDict (.ref x) (.ref C) (.str name tk) name v false)
   (fun fin s'=>match fin with | .done f=>R (.ok f) s' | .again c'=>c'.quiet=true∧codeAny (model prog w) A c' R s') (fun e s'=>R (.error e) s') s) :
  codeAny (model prog w) A (.call (.builtin "object.__setattr__") ⟨[.ref x,.str name tk,v],[]⟩) R s:=by
 have SF:=PySem.F.store_object
 obtain⟨cd,hc,hm,_⟩:=c.mro
 have sub:Looks (model prog w) s.heap (isInstance (.ref x) (.type "object")) true:=I.type.andThen (looks_mroIn X c.exc.obj)
 refine codeAny_call_builtin SF.slot.plain SF.entry (@check_slot (model prog w) _ _ s "object.__setattr__" "object" "__setattr__" (.ref x) [.str name tk,v] [] _ SF.kind SF.split sub (SF.args (.ref x) (.str name tk) v) ?_)
 have hmro:Looks (model prog w) s.heap (mroOf (.ref C)) cd.mro:=(looks_clsIn X hc).andThen .now
 rw[osa_eq,refuse_eq]
 refine wpAny_bind (wpAny_bind (I.type.here (wpAny_bind (hmro.here ?_))))
 rw[hm,refuse_X]
 refine wpAny_pure (wpAny_bind (I.type.here (wpAny_bind ((looks_findIn X ht).here (wpAny_bind (wpAny_pure ?_))))))
 exact h
theorem exc_set0 {vs:Array Value}{sl:Array (Option Value)}{Q:Unit→Shared→Prop}(X:K.In s.heap)(c:XCls K C S)(ht:findIn K (.ref C) name=some none)
  (hx:s.heap.get? x=some ⟨.ref C,none,.fields vs,sl⟩)
  (h:∀ h' tk,h'.Ns1 s.heap.objs.size (fun y=>if y=name then some v else none) →
   Heap.SameBut s.heap.objs.size ((s.heap.push { cls:=.type "dict",data:=.dict #[] }).update x fun o=>{ cls:=o.cls,dict:=some s.heap.objs.size,data:=o.data,slots:=o.slots }) h'→Q () { s with heap:=h',toks:=tk }) :
  wpAny (model prog w) A (setAttr (.ref x) name v) Q E s:=by
 have I:InstAt s.heap x ⟨.ref C,none,.fields vs,sl⟩ C none:=⟨hx,rfl,rfl,trivial⟩
 refine set_plain X I c.sa (osaX (s:={ s with toks:=s.toks+1 }) X I c ht ?_)
 obtain⟨cd,hc,hm,hdd⟩:=c.mro
 refine wpAny_bind (wpAny_pure (wpAny_bind (wpAny_bind (wpAny_loadPart hx (wpAny_bind (Looks.here (s:={ s with toks:=s.toks+1 }) (looks_clsIn X hc) ?_))))))
 rw[hdd]
 have hx1:(s.heap.push { cls:=.type "dict",data:=.dict #[] }).get? x=some ⟨.ref C,none,.fields vs,sl⟩:=Heap.get?_push_of_some _ hx
 have hxs:x≠s.heap.objs.size:=Nat.ne_of_lt (Heap.lt_size hx)
 refine wpAny_bind (wpAny_alloc' ?_)
 refine wpAny_bind (wpAny_update' hx1 ?_)
 refine wpAny_pure ?_
 have hgd:((s.heap.push { cls:=.type "dict",data:=.dict #[] }).update x fun o=>{ cls:=o.cls,dict:=some s.heap.objs.size,data:=o.data,slots:=o.slots }).get? s.heap.objs.size=some { cls:=.type "dict",data:=.dict #[] } :=
  (Heap.get?_update_ne _ _ _ _ hxs.symm).trans (Heap.get?_push_at rfl rfl)
 have hnd:((s.heap.push { cls:=.type "dict",data:=.dict #[] }).update x fun o=>{ cls:=o.cls,dict:=some s.heap.objs.size,data:=o.data,slots:=o.slots }).Ns s.heap.objs.size (fun _=>none) :=
  ⟨_,#[],_,hgd,rfl,fun e he=>absurd he (by simp),fun _=>rfl⟩
 show wpAny _ _ (storeInDict s.heap.objs.size (.str name s.toks) name v) _ _ _
 unfold storeInDict newKeyGuard
 refine wpAny_bind (wpAny_pure (wpAny_bind (wpAny_nsSet1 (Heap.Ns1.of_empty hnd) fun h' hn' hs=>?_)))
 obtain⟨oD,esD,epD,hoD,hdD,hcD⟩:=hn'.count (Within.cons name v Within.nil)
 refine wpAny_bind (wpAny_lookBehind hoD (by rw[hdD];exact pastItsLine_dict (Nat.le_trans hcD (by rw[List.length_cons,List.length_nil,sizeLine_eq];omega))) ?_)
 exact wpAny_pure (h h' _ hn' hs)
theorem exc_set1 {vs:Array Value}{sl:Array (Option Value)}{dx:Addr}{mA:Str→Option Value}{ns:List Str}{Q:Unit→Shared→Prop}(X:K.In s.heap)(c:XCls K C S)(ht:findIn K (.ref C) name=some none)
  (hx:s.heap.get? x=some ⟨.ref C,some dx,.fields vs,sl⟩) (hA:s.heap.Ns1 dx mA) (hw:PySem.Within mA ns) (hsz:ns.length+1≤sizeLine)
  (h:∀ h' tk,h'.Ns1 dx (fun y=>if y=name then some v else mA y)→Heap.SameBut dx s.heap h'→Q () { s with heap:=h',toks:=tk }) :
  wpAny (model prog w) A (setAttr (.ref x) name v) Q E s:=by
 obtain⟨od,hod,_⟩:=lookIn_ns hA
 have I:InstAt s.heap x ⟨.ref C,some dx,.fields vs,sl⟩ C (some od):=⟨hx,rfl,rfl,hod⟩
 refine set_plain X I c.sa (osaX (s:={ s with toks:=s.toks+1 }) X I c ht ?_)
 obtain⟨cd,hc,hm,hdd⟩:=c.mro
 refine wpAny_bind (wpAny_pure (wpAny_bind (wpAny_bind (wpAny_loadPart hx (wpAny_bind (Looks.here (s:={ s with toks:=s.toks+1 }) (looks_clsIn X hc) ?_))))))
 rw[hdd]
 refine wpAny_pure (a:=some dx) (wpAny_bind (wpAny_pure (wpAny_bind ?_)))
 refine wpAny_nsSet1 (s:={ s with toks:=s.toks+1 }) hA fun h' hn2 hs2=>?_
 obtain⟨oD,esD,epD,hoD,hdD,hcD⟩:=hn2.count (PySem.Within.cons name v hw)
 refine wpAny_bind (wpAny_lookBehind hoD (by rw[hdD];exact pastItsLine_dict (Nat.le_trans hcD (by rw[List.length_cons];omega))) ?_)
 exact wpAny_pure (h _ _ hn2 hs2)
end
end L2
namespace L2
open PySem PySem.Spec PyProof.Rows PySem.W
def ExcClsI (h:Heap)(C:Addr)(bm:List Value)(fI:Addr):Prop :=
 ∃ (nm q:Str) (N:Addr) (bs:List Value) (hdct:Bool) (sn:List Str) (sub:List Value) (ab:Bool) (col:Option Bool) (dd:Option Addr) (k0 k1 k2 k3 k5:Option Value) (mN:Str→Option Value),
  h.get? C=some (excClassObj nm q C N bs bm hdct sn sub ab col dd k0 k1 k2 k3 k5 "ValueError.__new__")∧h.Ns N mN∧mN "__init__"=some (.ref fI)∧OwnTail h bmV bm
theorem ns_some_of {K:PySem.W.Frag}{h:Heap}{N:Addr}{mg:Str→Option Value}{n:Str}{v:Value}(X:K.In h)(G:h.Ns N mg)(e:nsIn K N n=some (some v)):mg n=some v:=by
 obtain⟨o,es,ep,ho,hd,_,hf⟩:=G
 unfold nsIn at e
 split at e
 ·rename_i c d es' n' sl q
  have:=X _ _ q
  rw[ho] at this
  cases this
  cases hd
  split at e
  ·rename_i en he
   cases e
   rw[← hf]
   unfold nsFind findBy
   rw[← Array.find?_toList,he]
   rfl
  ·split at e <;> cases e
 ·cases e
section
variable {prog:Program}{w:World}{A:Around}{E:Value→Shared→Prop}{h:Heap}{g:Array GenState}{d:Drawn}{t:Nat}{os:OsState}
variable {nm q:Str}{C N:Addr}{bs bm:List Value}{hdct:Bool}{sn:List Str}{sub:List Value}{ab:Bool}{col:Option Bool}{dd:Option Addr}{k0 k1 k2 k3 k5:Option Value}
theorem type_call_I {mN:Str→Option Value}{rest:List Value}{fI:Addr}{oI:Obj}{Q:Fin→Shared→Prop}(T:OwnTail h bmV bm)
  (hC:h.get? C=some (excClassObj nm q C N bs bm hdct sn sub ab col dd k0 k1 k2 k3 k5 "ValueError.__new__")) (hn:h.Ns N mN) (hi:mN "__init__"=some (.ref fI)) (hfI:h.get? fI=some oI) (hfc:oI.cls=.type "function")
  (hq:∀ h' e,Heap.MadeExcOf h h' e (.ref C) rest→wpAny (model prog w) A (call (.ref fI) (.ref e::rest)) (fun r s'=>r=.none∧Q (.done (.ret (.ref e))) s') E ⟨h',g,d,t,os⟩) (hrest:rest.length≤sizeLine) :
  wpAny (model prog w) A (Builtin.«type.__call__» ⟨.ref C::rest,[]⟩) Q E ⟨h,g,d,t,os⟩:=by
 have F:=PySem.F.excBase_ValueError
 repeat (first | with_reducible refine wpAny_loadPart_at hC ?_ | with_reducible refine wpAny_madeBy_exc hC ?_ | wp_step)
 refine codeAny_call_builtin_code (Code.quiet_builtin _ F.quiet) (wpAny_check_new_subT F T hC ?_)
 refine codeAny_exc_new_subT F T hC ?_ hrest
 show wpAny _ _ _ _ _ ⟨(h.push { cls:=.type "tuple",data:=.seq rest.toArray }).push { cls:=.ref C,data:=.fields #[.ref h.objs.size,.none,.none,.none,.bool false,.none] },g,d,t,os⟩
 generalize hh1:(h.push { cls:=.type "tuple",data:=.seq rest.toArray }).push { cls:=.ref C,data:=.fields #[.ref h.objs.size,.none,.none,.none,.bool false,.none] }=h1
 have kp:∀ b o,h.get? b=some o→h1.get? b=some o:=fun b o e=>by rw[← hh1];exact Heap.get?_push_of_some _ (Heap.get?_push_of_some _ e)
 have hget:h1.get? (h.objs.size+1)=some { cls:=.ref C,data:=.fields #[.ref h.objs.size,.none,.none,.none,.bool false,.none] }:=by rw[← hh1];heap_get
 have htup:h1.get? h.objs.size=some { cls:=.type "tuple",data:=.seq rest.toArray }:=by rw[← hh1];exact Heap.get?_push_of_some _ (Heap.get?_push_at rfl rfl)
 have hC₁:=kp _ _ hC
 have hcC:(Value.ref C::bm).contains (.ref C)=true:=by simp
 unfold isInstance
 repeat (first | with_reducible refine wpAny_loadPart_at hget ?_ | (with_reducible refine wpAny_isSubtype_exc hC₁ ?_;rw[hcC]) | wp_step)
 show wpAny _ _ (typeLookup (.ref C) _) _ _ _
 refine wpAny_typeLookup_tail hC₁ (hn.keeps kp) (T.keeps kp) F.mroIs F.init.lookup ?_
 rw[hi]
 refine wpAny_holding (wpAny_bind ?_)
 unfold bindSpecial
 refine wpAny_bind (wpAny_typeOf (T:="function") ⟨_,kp _ _ hfI,hfc⟩ ?_)
 rw[if_pos (by decide)]
 refine wpAny_pure (wpAny_bind (wpAny_mono (hq h1 (h.objs.size+1) ⟨kp,Heap.get?_none_of_le (Nat.le_succ _),h.objs.size,hget,Heap.get?_none_of_le (Nat.le_refl _),htup⟩) (fun r s' hr=>?_) fun _ _ x=>x))
 obtain⟨rfl,hQ⟩:=hr
 wp_walk
 exact hQ
theorem call_I {mN:Str→Option Value}{rest:List Value}{fI:Addr}{oI:Obj}{Q:Value→Shared→Prop}(T:OwnTail h bmV bm)
  (hC:h.get? C=some (excClassObj nm q C N bs bm hdct sn sub ab col dd k0 k1 k2 k3 k5 "ValueError.__new__")) (hn:h.Ns N mN) (hi:mN "__init__"=some (.ref fI)) (hfI:h.get? fI=some oI) (hfc:oI.cls=.type "function")
  (hq:∀ h' e,Heap.MadeExcOf h h' e (.ref C) rest →
   wpAny (model prog w) (A.under (.builtin "type.__call__" ⟨.ref C::rest,[]⟩)) (call (.ref fI) (.ref e::rest)) (fun r s'=>r=.none∧Q (.ref e) s') E ⟨h',g,d,t,os⟩) (hrest:rest.length≤sizeLine) :
  wpAny (model prog w) A (call (.ref C) rest) Q E ⟨h,g,d,t,os⟩:=by
 have f1:=tc_lookup
 have f2:=tc_bind (.ref C)
 have hT:(⟨h,g,d,t,os⟩:Shared).TypeIs (.ref C) "type":=⟨_,hC,rfl⟩
 refine wpAny_call (codeAny_of_tree ?_)
 show wpAny _ _ (callAny (.ref C) _) _ _ _
 repeat (any_goals (first | assumption | with_reducible refine wpAny_loadPart_at hC ?_ | wp_step))
 refine⟨rfl,?_⟩
 refine codeAny_call_builtin_at (Code.quiet_builtin _ (by decide +kernel)) entry_typeCall (wpAny_check_type_call_sub hC (type_call_I (hrest:=hrest) T hC hn hi hfI hfc fun h' e hm=>?_))
 exact hq h' e hm
theorem exc_initB {s:Shared}{e t0:Addr}{od:Option Addr}{vs:Array Value}{sl:Array (Option Value)}{rest:List Value}{Q:Value→Shared→Prop}(T:OwnTail s.heap bmV bm)
  (hC:s.heap.get? C=some (excClassObj nm q C N bs bm hdct sn sub ab col dd k0 k1 k2 k3 k5 "ValueError.__new__")) (he:s.heap.get? e=some ⟨.ref C,od,.fields vs,sl⟩) (h0:vs[0]?=some (.ref t0)) (hrest:rest.length≤sizeLine)
  (hq:Q .none { s with heap:=(s.heap.push { cls:=.type "tuple",data:=.seq rest.toArray }).update e (Obj.mapFields (·.setIfInBounds 0 (.ref s.heap.objs.size))) }) :
  wpAny (model prog w) A (call (.builtin "ValueError.__init__") (.ref e::rest)) Q E s:=by
 have F:=PySem.F.excBase_ValueError
 obtain⟨hp,g,d,t,os⟩:=s
 refine wpAny_call (codeAny_call_builtin F.init.plain F.initEntry (wpAny_check_init_subT F T hC he rfl ?_))
 unfold Builtin.«BaseException.__init__»
 dsimp only
 rw[if_neg (by simp)]
 unfold newTuple Builtin.BaseException.bexcPut
 have hsz:0<vs.size:=(Array.getElem?_eq_some_iff.mp h0).1
 have he₁:=Heap.get?_push_of_some (h:=hp) { cls:=.type "tuple",data:=.seq rest.toArray } he
 refine wpAny_bind (wpAny_newObj_type (wpAny_bind (wpAny_bind (wpAny_field he₁ rfl h0 (wpAny_bind (wpAny_setField he₁ rfl hsz ?_))))) (by show rest.toArray.size≤sizeLine;rw[List.size_toArray];exact hrest))
 exact wpAny_letGo (wpAny_pure hq)
theorem raise_X {M:Model}{env:Env}{x:Sem Value}{s:Shared}{Q:Flow→Shared→Prop}(hh:A.handled=none)
  (hx:wpAny M A x (fun v s₁=>∃ e Ca bm od vs sl,v=.ref e∧EShape s₁.heap Ca bm∧bm.contains (.type "BaseException")=true∧s₁.heap.get? e=some ⟨.ref Ca,od,.fields vs,sl⟩∧vs[1]?=some .none∧E (.ref e) s₁) E s) :
  wpAny M A (raiseStmt env (some x) none) Q E s:=by
 unfold raiseStmt
 refine wpAny_bind (wpAny_mono hx (fun v s₁ h₁=>?_) fun _ _ x=>x)
 obtain⟨e,C,bm,od,vs,sl,rfl,⟨nm,q,N,bs,hdct,sn,sub,ab,col,dd,k0,k1,k2,k3,k5,i,hC⟩,hb,he,h1,hE⟩:=h₁
 obtain⟨hp,g,d,tk,os⟩:=s₁
 have hcB:(Value.ref C::bm).contains (.type "BaseException")=true:=by rw[List.contains_cons,hb,Bool.or_true]
 repeat (first | with_reducible refine wpAny_field he rfl h1 ?_ | with_reducible refine wpAny_loadPart_at he ?_ | with_reducible refine wpAny_loadPart_at hC ?_ | (with_reducible refine wpAny_isSubtype_exc hC ?_;rw[hcB]) | wp_step)
 exact wpAny_raiseNew_none hh hE
end
def excN (e C:Addr)(od:Option Addr):HO:=.ext fun h=>∃ vs sl t0,h.get? e=some ⟨.ref C,od,.fields vs,sl⟩∧vs[0]?=some (.ref t0)∧vs[1]?=some .none
theorem excN_ok {P:Program}{w:World}{H:Hp}{h:Heap}{e C t0:Addr}{od:Option Addr}{vs:Array Value}{sl:Array (Option Value)}(a:h.get? e=some ⟨.ref C,od,.fields vs,sl⟩)(b:vs[0]?=some (.ref t0))(c:vs[1]?=some .none):ObjOk P w H h e (excN e C od) :=
 ⟨⟨vs,sl,t0,a,b,c⟩,⟨_,a⟩,fun _ _ ⟨vs,sl,t0,a,b⟩ k=>⟨vs,sl,t0,k _ a,b⟩⟩
theorem upd_self {H:Hp}{a:Addr}{o:HO}(h:H a=some o):upd H a o=H:=by
 funext b
 by_cases e:b=a
 ·rw[e,upd_same,h]
 ·rw[upd_ne e]
def era (e:Addr)(H:Hp):Hp:=fun b=>if b=e then none else H b
theorem era_same {H:Hp}{e:Addr}:era e H e=none:=if_pos rfl
theorem era_ne {H:Hp}{e b:Addr}(h:b≠e):era e H b=H b:=if_neg h
section
variable {X:Cx}{pins:List (Addr×Obj)}{σ:St}{H:Hp}{s:Shared}{h':Heap}
theorem Inv.put {x:Addr}{o0 o:HO}{t':Nat}(I:Inv X pins σ H s)(ex:H x=some o0)(nT:∀ xs,o0≠.tup xs)(nF:∀ a b,o0≠.frz a b)(nB:∀ ps,o0≠.tbl ps)(nO:∀ y,o0≠.own y)
  (k:∀ b u,b≠x→s.heap.get? b=some u→h'.get? b=some u) (hx:∃ u,h'.get? x=some u) (new:ObjOk X.prog X.w (upd H x o) h' x o):Inv X pins σ (upd H x o) { s with heap:=h',toks:=t' }:=by
 have nn:∀ b,H b=none→b≠x:=fun b n z=>by rw[z,ex] at n;cases n
 have ns:∀ b u,H b=some u→u≠o0→b≠x:=fun b u q d z=>by rw[z,ex] at q;cases q;exact d rfl
 refine I.un ⟨fun b u q n _ _=>k b u (nn b n) q,fun b u q n _ _=>⟨u.slots,k b u (nn b n) q⟩,fun b u q n _=>by rw[upd_ne (nn b n)];exact n,fun b u q _=>?_,
  fun b xs q=>by rw[upd_ne (ns b _ q fun z=>nT xs z.symm)];exact q,fun b u xs q=>by rw[upd_ne (ns b _ q fun z=>nF u xs z.symm)];exact q,fun b ps q=>⟨#[],by rw[upd_ne (ns b _ q fun z=>nB ps z.symm),q];simp⟩⟩ fun b u q=>?_
 ·by_cases hb:b=x
  ·rw[hb];exact hx
  ·exact⟨u,k b u hb q⟩
 ·by_cases hb:b=x
  ·subst hb
   rw[upd_same] at q
   cases q
   exact new
  ·rw[upd_ne hb] at q
   refine (I.hok b u q).stay (fun c v hc r=>k c v ?_ r) (fun c r=>by rw[upd_ne (ns c _ r fun z=>nO b z.symm)];exact r) fun c xs r=>by rw[upd_ne (ns c _ r fun z=>nT xs z.symm)];exact r
   rcases hc with rfl | hc
   ·exact hb
   ·exact ns c _ hc fun z=>nO b z.symm
theorem Inv.era {e C:Addr}{od:Option Addr}(I:Inv X pins σ H s)(he:H e=some (excN e C od)):Inv X pins σ (era e H) s:=by
 have ns:∀ b u,H b=some u→u≠excN e C od→b≠e:=fun b u q d z=>by rw[z,he] at q;cases q;exact d rfl
 refine I.un (h':=s.heap) (t':=s.toks) ⟨fun b u q _ _ _=>q,fun b u q _ _ _=>⟨u.slots,q⟩,fun b u q n _=>?_,fun b u q _=>⟨u,q⟩,
  fun b xs q=>by rw[era_ne (ns b _ q fun z=>by cases z)];exact q,fun b u xs q=>by rw[era_ne (ns b _ q fun z=>by cases z)];exact q,fun b ps q=>⟨#[],by rw[era_ne (ns b _ q fun z=>by cases z),q];simp⟩⟩ fun b u q=>?_
 ·by_cases hb:b=e
  ·rw[hb];exact era_same
  ·rw[era_ne hb];exact n
 ·by_cases hb:b=e
  ·rw[hb,era_same] at q;cases q
  ·rw[era_ne hb] at q
   exact (I.hok b u q).stay (fun _ _ _ r=>r) (fun c r=>by rw[era_ne (ns c _ r fun z=>by cases z)];exact r) fun c xs r=>by rw[era_ne (ns c _ r fun z=>by cases z)];exact r
end
section
variable {X:Cx}{E:XK}{x:Str}{C S fI:Addr}{bm:List Value}{e e₀ o value:Expr}{es args:List Expr}{t:TA}{ta tv:TE}{f:Str}{p np cpos pos pos' apos:Pos}{kk:Nat}{fd:FuncData}{ps:List Str}{sp:Sp}
def tRaiseI (C:Addr)(sp:Sp)(t:TA)(E:XK):TS:=fun _ σ H=>t σ H fun vs H1=>vs.length≤sizeLine∧∀ e,H1 e=none →
 sp (.ref e::vs) (upd H1 e (excN e C none)) (fun v H2=>v=.non∧∃ od,H2 e=some (excN e C od)∧E (.ref C) od (era e H2)) E0
theorem ps_raiseI (hc:X.calm=true)(hex:X.ex=[])(hg:Gl X x)(hm:X.mg x=some (.ref C))(k:ExcClsI X.base C bm fI)(hk:keepIn X.K (.ref C)=true)(hfn:isFn X.K (.ref fI)=true)(hx:Raises X E)
  (F:FnOk X.prog X.w X.K X.mg X.base CX0 kk fI fd ps sp) (hr:Room (kk+1) X.A) (hb:Binds X.K fd ps []) (ha:PA X (e₀::args) t)
  (he₀:starEach (e₀::args) X.env=(false,eval e₀ X.env)::starEach args X.env:=by rfl) (hpl:(backTo cpos (starEach args X.env)).any (·.1)=false:=by rfl) (hd:(x == ("__debug__":Str))=false:=by decide):PS X (.Raise (some (.Call (.Name x np) (e₀::args) [] cpos)) none pos) (tRaiseI C sp t E):=by
 intro pins s σ H D I h
 obtain⟨nm,q,N,bs,hdct,sn,sub,ab,col,dd,k0,k1,k2,k3,k5,mN,h1,h2,h3,h4⟩:=k
 rw[arm_exec_Raise]
 refine wpAny_bind (wpAny_standAt (raise_X (I.ok.hd hc) (wpAny_bind (wpAny_mono (Q:=fun v s₁=>∃ e Ca bm od vs sl,v=.ref e∧EShape s₁.heap Ca bm∧bm.contains (.type "BaseException")=true∧s₁.heap.get? e=some ⟨.ref Ca,od,.fields vs,sl⟩∧vs[1]?=some .none∧X.xe (.ref e) s₁) (wpAny_Call_ofName (ld_glob I hg hm ?_ hd)) (fun v s₃ h₃=>wpAny_bind (wpAny_standAt (wpAny_pure h₃))) fun _ _ x=>x))))
 refine callWith_K (h₀:=X.base) I.ok.mod.kin hk (thn (ha cpos pins s σ H _ I h) fun us s1 ⟨vs,H1,I1,r,q1,q2⟩=>⟨I1.kIn,?_⟩) he₀ hpl
 obtain⟨oI,hoI,hcI⟩:∃ oI,s1.heap.get? fI=some oI∧oI.cls=.type "function":=by
  have z:=beq_iff_eq.mp hfn
  unfold typeIn at z
  cases l:X.K.lookup fI with
  | none=>simp[l] at z
  | some oI=>exact⟨oI,I1.kIn _ _ l,by simpa [l] using z⟩
 obtain⟨hp,g,d,tk,os⟩:=s1
 refine call_I (h4.keeps I1.bk) (I1.bk _ _ h1) (h2.keeps I1.bk) h3 hoI hcI (fun h' ea hm=>?_) (by rw[List.nil_append,← r.length];exact q1)
 rw[List.nil_append] at hm ⊢
 obtain⟨tt,he,htn,ht⟩:=hm.there
 have old:X.s₀.heap.get? ea=none:=by
  cases q:X.s₀.heap.get? ea with
  | none=>rfl
  | some o =>
   obtain⟨o',e1⟩:=I1.base.there ea o q (by rw[hex];simp)
   rw[hm.new] at e1
   cases e1
 have ne:H1 ea=none:=HOk.none_of I1.hok hm.new
 have I2:Inv X pins σ (upd H1 ea (excN ea C none)) ⟨h',g,d,tk,os⟩:=I1.un (t':=tk) (Un.track (Un.kept hm.keeps) hm.new ne) (HOk.track (I1.hok.kept hm.keeps) ne (excN_ok he rfl rfl))
 have hq:=q2 ea ne
 have r2:Vals (V.ref ea::vs) (Value.ref ea::us):=.cons rfl r
 have hl:(Value.ref ea::us++[]).length=ps.length:=by
  have e:=r2.length
  rw[F.len _ _ _ _ hq] at e
  rw[List.append_nil]
  exact e.symm
 refine wpAny_call (codeAny_mono (F.run _ X.stack _ _ ⟨Value.ref ea::us,[]⟩ (Value.ref ea::us) _ _ E0 (hr.make C us []) (I2.env0.make C us []) (by simpa using hb _ (Value.ref ea::us) I2.kIn hl) r2 hq) fun r s' hq'=>?_)
 cases r with
 | error e=>exact False.elim hq'
 | ok fl =>
  cases fl with
  | ret u =>
   obtain⟨v,H',I3,rv,ev,od,hod,hE⟩:=I2.after hq'
   subst ev
   refine⟨rv,ea,C,bm,?_⟩
   obtain⟨⟨vs',sl,t0,g1,g2,g3⟩,_,_⟩:=I3.hok ea _ hod
   exact⟨od,vs',sl,rfl,⟨nm,q,N,bs,hdct,sn,sub,ab,col,dd,k0,k1,k2,k3,k5,_,I3.bk _ _ h1⟩,h4.hasType (by decide),g1,g3,hx pins σ _ s' ea (.ref C) od (I3.era hod) old ⟨_,vs',g1,rfl,rfl,rfl,g3⟩ era_same hE⟩
  | next=>exact False.elim hq'
  | brk=>exact False.elim hq'
  | cont=>exact False.elim hq'
structure XIni (K:PySem.W.Frag)(S:Addr):Prop where
 ga:specialIn K (.ref S) "__getattribute__"=some (some (.builtin "type.__getattribute__"))
 rd:readsIn K S (.type "type")=true
 fd:findCls K (.ref S) (.type "type") "__init__"=some (.val (.builtin "ValueError.__init__"))
theorem Vals.uncons:∀ {x:V}{xs:List V}{us:List Value},Vals (x::xs) us→∃ u us',us=u::us'∧RelV x u∧Vals xs us'
 | _,_,_,.cons r t=>⟨_,_,rfl,r,t⟩
def tIniB (C:Addr)(t:TA):TE:=fun σ H Q=>t σ H fun vs H1=>∃ e ws od,vs=.ref e::ws∧ws.length≤sizeLine∧H1 e=some (excN e C od)∧Q .non H1
theorem pe_iniB {pl:Sem Bool}(hg:Gl X x)(hm:X.mg x=some (.ref S))(i:XIni X.K S)(k:ExcClsI X.base C bm fI)(ha:PA X (e::es) t)(hd:(x == ("__debug__":Str))=false:=by decide)
  (hst:starEach (e::es) X.env=(false,eval e X.env)::starEach es X.env:=by rfl) (hpl:(backTo pos (starEach es X.env)).any (·.1)=false:=by rfl)
  (ht:eval (.Call (.Attribute (.Name x p) "__init__" apos) (e::es) [] pos) X.env=(do
   let ov ← eval (.Name x p) X.env
   standAt apos.atName
   let (f,first) ← holding [ov] (getMethod ov "__init__" pl)
   callWith pos f first (backTo pos (starEach (e::es) X.env)) (backToKw pos (keywordEach [] X.env))):=by rfl) :
  PE X (.Call (.Attribute (.Name x p) "__init__" apos) (e::es) [] pos) (tIniB C t):=by
 intro pins s σ H Q I h
 refine methodCall_KW (pl:=pl) (ld_glob I hg hm ?_ hd) ht
 refine method_cls I.kIn i.ga (cls_value I.kIn i.rd i.fd rfl ?_)
 have hA:=ha pos pins _ σ H _ (I.tok (s.toks+1)) h
 rw[hst] at hA ⊢
 refine Calls.callWith_builtin (by show (false || (backTo pos (starEach es X.env)).any (·.1))=false;rw[hpl] <;> rfl) (Calls.evalArgs_plain ?_)
 refine thn hA fun us s2 ⟨vs,H2,I2,r2,ea,ws,od,ev,hl,he,q⟩=>?_
 subst ev
 obtain⟨u,us',rfl,rx,r3⟩:=r2.uncons
 obtain rfl:u=Value.ref ea:=rx
 obtain⟨⟨vs',sl,t0,g1,g2,g3⟩,_,_⟩:=I2.hok ea _ he
 obtain⟨nm,q',N,bs,hdct,sn,sub,ab,col,dd,k0,k1,k2,k3,k5,mN,h1,h2,h3,h4⟩:=k
 refine exc_initB (h4.keeps I2.bk) (I2.bk _ _ h1) g1 g2 (by rw[← r3.length];exact hl) ?_
 have ge:=Heap.get?_update_self (Obj.mapFields (·.setIfInBounds 0 (Value.ref s2.heap.objs.size))) (Heap.get?_push_of_some (h:=s2.heap) { cls:=.type "tuple",data:=.seq us'.toArray } g1) rfl
 have hs0:0<vs'.size:=(Array.getElem?_eq_some_iff.mp g2).1
 have J:=I2.put (t':=s2.toks) (o:=excN ea C od) he (fun _ z=>by cases z) (fun _ _ z=>by cases z) (fun _ z=>by cases z) (fun _ z=>by cases z)
  (fun b u hb z=>(Heap.get?_update_ne _ _ _ _ hb).trans (Heap.get?_push_of_some _ z)) ⟨_,ge⟩ (excN_ok (t0:=s2.heap.objs.size) ge (by simp[hs0]) (by rw[Array.getElem?_setIfInBounds_ne (by decide)];exact g3))
 rw[upd_self he] at J
 exact⟨.non,H2,J,rfl,q⟩
def sFldX (K:PySem.W.Frag)(ta tv:TE)(f:Str):TS:=fun D σ H=>tv σ H fun y H1=>ta σ H1 fun x H2=>∃ e C S od,x=.ref e∧H2 e=some (excN e C od)∧XCls K C S∧NoAttr K C f ∧
 ((od=none∧∀ dx,H2 dx=none→D.nx σ (upd (upd H2 dx (.xd [(f,y)])) e (excN e C (some dx))))∨∃ dx fs,od=some dx∧H2 dx=some (.xd fs)∧fs.length<1000∧D.nx σ (upd H2 dx (.xd (putF f y fs))))
theorem ps_fldX (ha:PE X o ta)(hv:PE X value tv)(hs:swapsWith value (some (.Attribute o f pos')) pos.line X.env=pure false:=by rfl):PS X (.Assign [.Attribute o f pos'] value pos) (sFldX X.K ta tv f):=by
 intro pins s σ H D I h
 refine plainObj_wpAny_Assign_Attribute (thn (hv pins s σ H _ I h) fun u s1 ⟨y,H1,I1,ry,q⟩=>thn (ha pins s1 σ H1 _ I1 q) fun ov s2 ⟨x,H2,I2,rx,ea,C,S,od,ex,he,c,n,q2⟩=>?_) hs
 subst ex
 obtain rfl:ov=Value.ref ea:=rx
 obtain⟨⟨vs,sl,t0,g1,g2,g3⟩,_,_⟩:=I2.hok ea _ he
 have rel:∀ (fs:List (Str×V)) (mA:Str→Option Value),(∀ g,RelO (fs.lookup g) (mA g))→∀ g,RelO ((putF f y fs).lookup g) (if g=f then some u else mA g):=fun fs mA r g=>by
  rw[lookup_putF]
  by_cases q:g=f
  ·rw[if_pos q,if_pos q];exact ry
  ·rw[if_neg q,if_neg q];exact r g
 rcases q2 with⟨rfl,q2⟩ | ⟨dx,fs,rfl,hd,hl,q2⟩
 ·refine exc_set0 I2.kIn c n g1 fun h' tk hn sb=>?_
  have ne:ea≠s2.heap.objs.size:=Nat.ne_of_lt (Heap.lt_size g1)
  have hnone:H2 s2.heap.objs.size=none:=I2.hok.fresh (Nat.le_refl _)
  have kk:∀ b u,b≠ea→s2.heap.get? b=some u→h'.get? b=some u:=fun b u hb g=>(sb.2 b (Nat.ne_of_lt (Heap.lt_size g))).trans ((Heap.get?_update_ne _ _ _ _ hb).trans (Heap.get?_push_of_some _ g))
  have ge:h'.get? ea=some ⟨.ref C,some s2.heap.objs.size,.fields vs,sl⟩:=(sb.2 ea ne).trans (Heap.get?_update_self _ (Heap.get?_push_of_some _ g1) rfl)
  have nn:∀ b,H2 b=none→b≠ea:=fun b n z=>by rw[z,he] at n;cases n
  have ns:∀ b u,H2 b=some u→u≠excN ea C none→b≠ea:=fun b u q d z=>by rw[z,he] at q;cases q;exact d rfl
  have nd:∀ b u,H2 b=some u→b≠s2.heap.objs.size:=fun b u q z=>by rw[z,hnone] at q;cases q
  refine⟨σ,_,I2.un (t':=tk) (H':=upd (upd H2 s2.heap.objs.size (.xd [(f,y)])) ea (excN ea C (some s2.heap.objs.size))) ⟨fun b u g n _ _=>kk b u (nn b n) g,fun b u g n _ _=>⟨u.slots,kk b u (nn b n) g⟩,fun b u g n _=>?_,fun b u g _=>?_,
   fun b xs q=>by rw[upd_ne (ns b _ q fun z=>by cases z),upd_ne (nd b _ q)];exact q,fun b u xs q=>by rw[upd_ne (ns b _ q fun z=>by cases z),upd_ne (nd b _ q)];exact q,
   fun b ps q=>⟨#[],by rw[upd_ne (ns b _ q fun z=>by cases z),upd_ne (nd b _ q),q];simp⟩⟩ (fun b u q=>?_),q2 _ hnone⟩
  ·rw[upd_ne (nn b n),upd_ne (Nat.ne_of_lt (Heap.lt_size g))];exact n
  ·by_cases hb:b=ea
   ·rw[hb];exact⟨_,ge⟩
   ·exact⟨u,kk b u hb g⟩
  ·by_cases hb:b=ea
   ·subst hb
    rw[upd_same] at q
    cases q
    exact excN_ok ge g2 g3
   ·rw[upd_ne hb] at q
    by_cases hb2:b=s2.heap.objs.size
    ·rw[hb2,upd_same] at q
     cases q
     rw[hb2]
     exact⟨_,hn,rel [] (fun _=>none) fun _=>trivial⟩
    ·rw[upd_ne hb2] at q
     refine (I2.hok b u q).stay (fun c v hc r=>kk c v ?_ r) (fun c r=>by rw[upd_ne (ns c _ r fun z=>by cases z),upd_ne (nd c _ r)];exact r) fun c xs r=>by rw[upd_ne (ns c _ r fun z=>by cases z),upd_ne (nd c _ r)];exact r
     rcases hc with rfl | hc
     ·exact hb
     ·exact ns c _ hc fun z=>by cases z
 ·obtain⟨mA,hA,r⟩:=I2.hok dx _ hd
  have wi:PySem.Within mA (fs.map (·.1)):=fun g hg=>by
   have z:=r g
   cases l:fs.lookup g with
   | none=>rw[l] at z;exact absurd (RelO.none_of z) hg
   | some v =>
    obtain⟨l1,l2,e,_⟩:=List.lookup_eq_some_iff.mp l
    rw[e]
    simp
  refine exc_set1 (ns:=fs.map (·.1)) I2.kIn c n g1 hA wi (by rw[List.length_map,sizeLine_eq];omega) fun h' tk hn sb=>?_
  have hx:∃ o,h'.get? dx=some o:=let ⟨o,_,_,e',_⟩:=hn;⟨o,e'⟩
  exact⟨σ,_,I2.put (t':=tk) (o:=.xd (putF f y fs)) hd (fun _ z=>by cases z) (fun _ _ z=>by cases z) (fun _ z=>by cases z) (fun _ z=>by cases z) (fun b u hb z=>(sb.2 b hb).trans z) hx ⟨_,hn,rel fs mA r⟩,q2⟩
def tFldX (K:PySem.W.Frag)(ta:TE)(f:Str):TE:=fun σ H Q=>ta σ H fun x H1=>∃ e C dx fs v,x=.ref e∧H1 e=some (excO e C (some dx))∧H1 dx=some (.xd fs)∧ExcIn K C∧hasDictIn K C=true∧NoAttr K C f∧fs.lookup f=some v∧Q v H1
theorem pe_fldX (he:PE X e ta)(hb:attributeBase e f X.env (eval e X.env)=eval e X.env:=by rfl):PE X (.Attribute e f pos) (tFldX X.K ta f):=by
 intro pins s σ H Q I h
 refine attr_of hb (thn (he pins s σ H _ I h) fun u s1 ⟨x,H1,I1,rx,a,C,dx,fs,v,ex,ea,ed,F,hd,n,l,q⟩=>?_)
 subst ex
 obtain rfl:u=Value.ref a:=rx
 obtain⟨⟨oe,vs,g1,g2,g3,g4⟩,_,_⟩:=I1.hok a _ ea
 obtain⟨mA,hn,r⟩:=I1.hok dx _ ed
 obtain⟨od,ho,hl⟩:=lookIn_ns hn
 obtain⟨u,hu,ru⟩:=RelO.some_of (v:=v) (o:=mA f) (by rw[← l];exact r f)
 exact exc_value I1.kIn ⟨g1,g2,by unfold notCls;rw[g4],by rw[g3];exact ho⟩ F (findObj_own hd n rfl (by rw[hl,hu])) (handed_of ru) ⟨v,H1,I1.tok _,ru,q⟩
end
theorem excClsI_lk {K:PySem.W.Frag}{h:Heap}{C D fI:Addr}{dd dd':Option Addr}{nm qn nm' qn':Str}{bs sub bs' sub' bm':List Value}{ns ns':Addr}{hd ab hd' ab':Bool}{sn sn':List Str}{col col':Option Bool}{k0 k1 k2 k3 k5:Option Value}{sl':Array (Option Value)}{oc':Value}(X:K.In h)
  (l:K.lookup C=some ⟨.type "type",dd,.cls ⟨nm,bs,.ref C::.ref D::bmV,ns,qn,hd,sn,sub,ab,col,false⟩,#[k0,k1,k2,k3,some (.builtin "ValueError.__new__"),k5]⟩) (o:nsOkIn K ns=true) (i:nsIn K ns "__init__"=some (some (.ref fI)))
  (l':K.lookup D=some ⟨oc',dd',.cls ⟨nm',bs',bm',ns',qn',hd',sn',sub',ab',col',false⟩,sl'⟩) (o':nsOkIn K ns'=true) (i':nsIn K ns' "__init__"=some none):ExcClsI h C (.ref D::bmV) fI :=
 ⟨nm,qn,ns,bs,hd,sn,sub,ab,col,dd,k0,k1,k2,k3,k5,_,X _ _ l,.of_isNs (isNs_of_in X o),ns_some_of X (.of_isNs (isNs_of_in X o)) i,.own (X _ _ l') (.of_isNs (isNs_of_in X o')) (nsMap_none_of_in X o' i') .base⟩
theorem clsIn_lk {K:PySem.W.Frag}{C:Addr}{oc:Value}{dd:Option Addr}{cd:ClassData}{sl:Array (Option Value)}(l:K.lookup C=some ⟨oc,dd,.cls cd,sl⟩):clsIn K C=some cd:=by
 unfold clsIn
 rw[l]
end L2
namespace L2
open PySem PySem.Spec PyProof.Rows
section
variable {X:Cx}
def rEqLL:R2:=fun x y H Q=>∃ (p q:Addr) (as bs:List Addr) (pss:List (List Int)),x=.ref p∧y=.ref q∧LL H p as pss∧LL H q bs pss∧Q (.bl true) H
theorem op_eqLL (hu:X.A.units<cLine)(hu2:X.A.in1.units<cLine):OpR X (compareOp .Eq) rEqLL:=by
 intro pins s σ H x y v u Q I rx ry h
 obtain⟨p,q,as,bs,pss,rfl,rfl,hp,hq,k⟩:=h
 cases rx
 cases ry
 obtain⟨us,r1,p1,_⟩:=I.list (SqL.of hp.lst)
 obtain⟨ws,r2,p2,_⟩:=I.list (SqL.of hq.lst)
 obtain rfl:=refs_of r1
 obtain rfl:=refs_of r2
 have l1:=hp.len
 have l2:=hq.len
 refine SeqAt.eq_listAt (e:=fun _=>true) p1.isList p2.isList (by rw[List.size_toArray,List.size_toArray,List.length_map,List.length_map];omega) hu (fun j h1 h2=>?_) (fin_bl I k ?_)
 ·rw[List.size_toArray,List.length_map] at h1 h2
  have e1:as[j]?=some as[j]:=List.getElem?_eq_getElem h1
  have e2:bs[j]?=some bs[j]:=List.getElem?_eq_getElem h2
  have e3:pss[j]?=some (pss[j]'(by omega)):=List.getElem?_eq_getElem (by omega)
  have:=eqAt_lists (A:=X.A.in1) I (SqL.of (hp.at_ j _ _ e1 e3)) (SqL.of (hq.at_ j _ _ e2 e3)) hu2
  rw[decide_eq_true rfl] at this
  simpa using this
 ·rw[List.all_eq_true.mpr fun _ _=>rfl]
end
end L2
namespace Sf
open PySem L2 Pl
def top (i:Nat):Stmt:=PySem.Challenge.pw_stripfold_k09_refused.main.body.getD i (.Pass ⟨0,0,0,0⟩)
abbrev s_Crossing:Stmt:=top 8
abbrev sCheck:Stmt:=top 10
abbrev sPlaces:Stmt:=top 11
abbrev sLetter:Stmt:=top 12
abbrev sLetters:Stmt:=top 13
abbrev sTurned:Stmt:=top 14
abbrev sWraps:Stmt:=top 16
abbrev sCross:Stmt:=top 17
abbrev sCrossing:Stmt:=top 18
abbrev s_foldable_places:Stmt:=top 19
abbrev s_check_creases:Stmt:=top 21
abbrev s_ends_of_parts:Stmt:=top 22
abbrev s_creases_like:Stmt:=top 23
abbrev s_wrapped_within:Stmt:=top 24
abbrev s_inner_parts_odd:Stmt:=top 25
abbrev s_lies_free:Stmt:=top 26
abbrev s_free:Stmt:=top 27
abbrev s_widest_like:Stmt:=top 28
abbrev s_step_within:Stmt:=top 29
abbrev s_opening:Stmt:=top 30
abbrev s_Bench:Stmt:=top 32
abbrev s_check_row:Stmt:=top 35
abbrev s_check_count:Stmt:=top 36
abbrev s_pile_of:Stmt:=top 37
abbrev s_laid_in:Stmt:=top 38
abbrev s_piles:Stmt:=top 39
abbrev s_piles_with:Stmt:=top 40
abbrev sDrawn:Stmt:=top 42
abbrev sNumber:Stmt:=top 43
abbrev sCounts:Stmt:=top 44
abbrev sSize:Stmt:=top 45
abbrev s_law_is_pile:Stmt:=top 46
abbrev sLPlaces:Stmt:=top 47
abbrev sPile:Stmt:=top 48
abbrev sFits:Stmt:=top 49
abbrev sGood:Stmt:=top 50
abbrev sLWraps:Stmt:=top 51
abbrev sNone:Stmt:=top 52
abbrev s_law_spoiled:Stmt:=top 53
abbrev s_law_creases:Stmt:=top 54
abbrev s_law_creases_good:Stmt:=top 55
abbrev s_law_asked:Stmt:=top 56
abbrev s_law_kinds:Stmt:=top 57
abbrev s_law_due_kinds:Stmt:=top 58
abbrev s_law_word:Stmt:=top 59
abbrev s_law_crossed:Stmt:=top 60
abbrev s_law_piles_asked:Stmt:=top 61
abbrev s_law_row:Stmt:=top 62
abbrev s_law_listed:Stmt:=top 63
abbrev sLaw:Stmt:=top 64
end Sf
namespace Sf
open PySem L2 Pl
structure Own (mg:Str→Option Value):Prop where
 len:mg "len"=none
 sorted:mg "sorted"=none
 list:mg "list"=none
 range:mg "range"=none
 enumerate:mg "enumerate"=none
 isinstance:mg "isinstance"=none
 int:mg "int"=none
 str:mg "str"=none
structure Def (K:PySem.W.Frag)(mg:Str→Option Value)(x:Str)(st:Stmt)(ps:List Str)(f:Addr)(fd:FuncData):Prop where
 fn:Fun K x x st f fd
 bd:Binds K fd ps []
 at_:mg x=some (.ref f)
theorem boot_list:bootBuiltins "list"=some (.type "list"):=by decide +kernel
theorem boot_range':bootBuiltins "range"=some (.type "range"):=by decide +kernel
theorem boot_int:bootBuiltins "int"=some (.type "int"):=by decide +kernel
theorem boot_isinstance:bootBuiltins "isinstance"=some (.builtin "isinstance"):=by decide +kernel
theorem same_new {H:Hp}{p:Addr}{o:HO}(h:H p=none):Same H (upd H p o):=fun b u e=>by rw[upd_ne (ne_of_none e h)];exact e
theorem small_line {n:Nat}(h:n≤1000):n≤sizeLine:=Nat.le_of_lt (small1000 h)
theorem at_int {ps:List Int}{c:Nat}(h:c<ps.length):atI (ps.map V.int) (c:Int)=some (.int (ps.getD c 0)):=by
 refine atI_nat ?_
 rw[List.getElem?_map,List.getElem?_eq_getElem h]
 simp[List.getD,h]
theorem rep0 (n:Nat):(List.replicate n ([V.int 0]:List V)).flatten=(List.replicate n (0:Int)).map V.int:=by
 induction n with
 | zero=>rfl
 | succ n ih =>
  rw[List.replicate_succ,List.flatten_cons,ih,List.replicate_succ,List.map_cons]
  rfl
def spCheck (K:PySem.W.Frag):Sp:=fun vs H Q _=>∃ (p:Addr) (ns:List Int) (n:Nat),vs=[.ref p]∧SqL K H p (ns.map V.int)∧ns.Perm (iota n)∧1≤n∧n≤60∧∀ H',Same H H'→Q .non H'
def spPlaces (K:PySem.W.Frag):Sp:=fun vs H Q _=>∃ (p:Addr) (ns:List Int) (n:Nat),vs=[.ref p]∧SqL K H p (ns.map V.int)∧ns.Perm (iota n)∧1≤n∧n≤60∧∀ l H',Same H H'→H l=none→H' l=some (.lst ((plc ns).map V.int))→Q (.ref l) H'
section
variable {P:Program}{w:World}{K:PySem.W.Frag}{mg:Str→Option Value}{base:Heap}
theorem scCheck:FnScope ["pile"] ["pile"] (defScope sCheck):=fs
theorem ok_check {f:Addr}{fd:FuncData}(D:Def K mg "check_pile" sCheck ["pile"] f fd)(T:Own mg):FnOk P w K mg base CX0 1 f fd ["pile"] (spCheck K):=by
 refine D.fn.ok scCheck (fun vs H Q E h=>?_) (fun cdv A outer s H vs Q E hr h=>?_)
 ·obtain⟨p,ns,n,rfl,_⟩:=h
  rfl
 ·obtain⟨p,ns,n,rfl,hq,hp,h1,h2,k⟩:=h
  have hl:=perm_len hp
  refine⟨_,pss_one (ps_if (pw_or (pt_cmpR op_eq (pe_callB call_len_seq (by rfl) T.len PySem.boot_len (pa_cons (pv 0) pa_nil)) pe_int (nomark _))
   (pw_or1 (pt_cmpR (op_ne_lst hr.units0) (pe_callB call_sorted (by rfl) T.sorted PyProof.Rows.boot_sorted (pa_cons (pv 0) pa_nil))
    (pe_callTy (call_list_rng rfl) (by rfl) T.list boot_list (pa_cons (pe_callTy call_range1 (by rfl) T.range boot_range' (pa_cons (pe_callB call_len_seq (by rfl) T.len PySem.boot_len (pa_cons (pv 0) pa_nil)) pa_nil)) pa_nil)) (nomark _)))).pt
   pss_never pss_nil),?_⟩
  refine⟨_,rfl,p,_,rfl,.inl hq,rfl,_,rfl,?_⟩
  rw[List.length_map,hl]
  refine ite2 (fun z=>?_) (fun _=>?_)
  ·exfalso
   have:=of_decide_eq_true z
   injection this with this
   omega
  ·refine⟨_,rfl,p,ns,rfl,hq,by omega,fun l ms hl1 pm so=>?_⟩
   have e:ms=iota n:=same_sorted (pm.trans hp) so (iota_sorted n)
   subst e
   have s1:=same_new (o:=.lst ((iota n).map V.int)) hl1
   refine⟨_,rfl,p,_,rfl,.inl (s1.seq hq),_,rfl,fun r hr1=>?_⟩
   have s2:=same_new (o:=.rng 0 ((ns.map V.int).length:Int)) hr1
   rw[List.length_map,hl] at s2 ⊢
   refine⟨r,0,(n:Int),rfl,upd_same,by omega,by omega,by omega,by omega,by omega,fun l2 hl2=>?_⟩
   have s3:=same_new (o:=.lst (rngV 0 ((n:Int) - 0).toNat)) hl2
   refine⟨l,l2,_,_,rfl,rfl,SqL.of (s3 _ _ (s2 _ _ upd_same)),SqL.of upd_same,flat_ints _,?_,?_⟩
   ·rw[show ((n:Int) - 0).toNat=n by omega,rngV_iota];exact flat_ints _
   ·rw[show ((n:Int) - 0).toNat=n by omega,rngV_iota,eqVs_ints]
    refine⟨_,rfl,?_⟩
    simp only[decide_true,if_true,Bool.not_true]
    refine iteF ?_
    rw[show ((n:Int) - 0).toNat=n by omega,rngV_iota] at s3
    exact k _ (s1.trans (s2.trans s3))
theorem scPlaces:FnScope ["pile","found","place","stamp"] ["pile"] (defScope sPlaces):=fs
theorem ok_places {f fC:Addr}{fd fdC:FuncData}(D:Def K mg "places" sPlaces ["pile"] f fd)(DC:Def K mg "check_pile" sCheck ["pile"] fC fdC)(T:Own mg):FnOk P w K mg base CX0 2 f fd ["pile"] (spPlaces K):=by
 have GC:FnOk P w K mg base CX0 1 fC fdC ["pile"] (spCheck K):=ok_check DC T
 refine D.fn.ok scPlaces (fun vs H Q E h=>?_) (fun cdv A outer s H vs Q E hr h=>?_)
 ·obtain⟨p,ns,n,rfl,_⟩:=h
  rfl
 ·obtain⟨p,ns,n,rfl,hq,hp,h1,h2,k⟩:=h
  have hl:=perm_len hp
  refine⟨_,pss_cons (ps_expr (pe_call GC hr rfl DC.at_ DC.fn.kp DC.bd .nil pass0 (pa_cons (pv 0) pa_nil)))
   (pss_cons (ps_set (i:=1) scPlaces.nd rfl (Or.inl rfl) (pe_op op_rep (pe_lst (pa_cons pe_int pa_nil)) (pe_callB call_len_seq (by rfl) T.len PySem.boot_len (pa_cons (pv 0) pa_nil))))
   (pss_cons (ps_for PassesOwn.never rfl (pi_enum rfl T.enumerate (pa_cons (pv 0) pa_nil))
     (pg_tup rfl (pgs_cons (pg_name (i:=2) scPlaces.nd rfl (Or.inl rfl)) (pgs_cons (pg_name (i:=3) scPlaces.nd rfl (Or.inl rfl)) pgs_nil)))
     (pss_one (ps_asg (pv 2) (pg_sub (pv 1) (pv 3) set_list))))
   (pss_one (ps_ret (pv 1))))),?_⟩
  refine⟨_,rfl,p,ns,n,rfl,hq,hp,h1,h2,fun H1 s1=>?_⟩
  refine⟨small_line (by decide),fun z hz=>⟨_,rfl,p,_,rfl,.inl ((same_new hz).seq (s1.seq hq)),z,_,[.int 0],rfl,rfl,upd_same,?_,?_,?_,fun l hl2=>?_⟩⟩
  ·rw[List.length_map];omega
  ·rw[List.length_map];omega
  ·rw[List.length_map,hl];exact small_line (by simp;omega)
  have s2:Same H _:=s1.trans ((same_new hz).trans (same_new (o:=.lst ((List.replicate n (0:Int)).map V.int)) hl2))
  rw[List.length_map,hl,show ((n:Int)).toNat=n by omega,rep0]
  have hlH:H l=none:=(s1.trans (same_new hz)).free hl2
  refine⟨_,rfl,p,rfl,⟨_,s2.seq hq⟩,for_enum (K:=K) (a:=p) (xs:=ns.map V.int) (fun i σ H2=>∃ (fs:List Int) (v u:Option V),σ=[some (.ref p),some (.ref l),v,u]∧Same H H2∧H2 l=some (.lst (fs.map V.int))∧Fnd ns i fs)
   ⟨_,none,none,rfl,s2,upd_same,by simp[hl],fun j s hj=>by omega⟩ (fun i σ H2 _ ⟨_,_,_,_,s3,_⟩=>s3.seq hq) ?_ ?_⟩
  ·rintro i y t σ H2 hi ht ⟨fs,v,u,rfl,s3,hf,F⟩
   rw[List.getElem?_map] at hi
   cases e:ns[i]? with
   | none=>rw[e] at hi;cases hi
   | some x =>
    rw[e] at hi
    cases hi
    have hx:=(perm_mem hp).mp (List.mem_of_getElem? e)
    have nt:l≠t:=ne_of_none hf ht
    have hfl:=F.1
    have ht2:(upd H2 t (.tup [.int (i:Nat),.int x])) l=some (.lst (fs.map V.int)):=by rw[upd_ne nt];exact hf
    refine⟨t,_,rfl,SqT.of upd_same,rfl,_,_,rfl,_,_,rfl,rfl,_,rfl,_,rfl,_,rfl,l,_,x,x.toNat,rfl,rfl,ht2,?_,?_⟩
    ·rw[List.length_map]
     unfold ixN
     rw[if_pos hx.1,if_pos (by omega)]
    ·refine⟨fs.set x.toNat (i:Int),_,_,rfl,fun b o eb=>?_,?_,F.step hp e⟩
     ·have nb:b≠l:=ne_of_none eb hlH
      rw[upd_ne nb]
      exact same_new ht b o (s3 b o eb)
     ·rw[upd_same,List.map_set]
  ·rintro σ H2 ⟨fs,v,u,rfl,s3,hf,F⟩
   rw[List.length_map,hl] at F
   have e:=F.eq hp
   subst e
   exact⟨_,rfl,k l H2 s3 hlH hf⟩
end
end Sf
namespace Sf
open PySem L2 Pl
def spLetter (K:PySem.W.Frag):Sp:=fun vs H Q _=>∃ (a:Addr) (ps:List Int) (c:Nat),vs=[.ref a,.int (c:Int)]∧SqL K H a (ps.map V.int)∧c+1<ps.length∧Q (.str ⟨#[lc ps c]⟩) H
def spLetters (K:PySem.W.Frag):Sp:=fun vs H Q _=>∃ (p:Addr) (ns:List Int) (n:Nat),vs=[.ref p]∧SqL K H p (ns.map V.int)∧ns.Perm (iota n)∧1≤n∧n≤60∧∀ z H',Same H H'→z.cps.toList=lcs (plc ns)→Q (.str z) H'
section
variable {P:Program}{w:World}{K:PySem.W.Frag}{mg:Str→Option Value}{base:Heap}
theorem scLetter:FnScope ["at","crease","rises"] ["at","crease"] (defScope sLetter):=fs
theorem ok_letter {f:Addr}{fd:FuncData}(D:Def K mg "letter" sLetter ["at","crease"] f fd):FnOk P w K mg base CX0 1 f fd ["at","crease"] (spLetter K):=by
 refine D.fn.ok scLetter (fun vs H Q E h=>?_) (fun cdv A outer s H vs Q E hr h=>?_)
 ·obtain⟨a,ps,c,rfl,_⟩:=h
  rfl
 ·obtain⟨a,ps,c,rfl,hq,hc,k⟩:=h
  refine⟨_,pss_cons (ps_set (i:=2) scLetter.nd rfl (Or.inl rfl) (pe_cmpR op_gt (pe_ix ix_list (pv 0) (pe_op op_add (pv 1) pe_int) (fun _ _=>rfl)) (pe_ix ix_list (pv 0) (pv 1) (fun _ _=>rfl)) (nomark _)))
   (pss_one (ps_ret (pe_ifExp (pt_cmpR op_eq (pv 2) (pe_cmpR op_eq (pe_op op_mod (pv 1) pe_int) pe_int (nomark _)) (nomark _)) pe_str pe_str))),?_⟩
  refine⟨_,rfl,_,rfl,_,_,rfl,rfl,a,_,_,_,rfl,rfl,hq,at_int (c:=c+1) hc,_,rfl,_,rfl,a,_,_,_,rfl,rfl,hq,at_int (c:=c) (by omega),_,_,rfl,rfl,?_⟩
  refine⟨_,rfl,_,rfl,_,_,rfl,rfl,(by show (0:Int)<2;decide),rfl,rfl,_,rfl,?_⟩
  have e2:decide (V.int ((c:Int) % 2)=V.int 0)=decide (c % 2=0):=by
   by_cases h:c % 2=0
   ·rw[decide_eq_true h,decide_eq_true]
    congr 1
    omega
   ·rw[decide_eq_false h,decide_eq_false]
    intro z
    injection z with z
    omega
  rw[e2]
  show if decide (V.bl (decide (ps.getD c 0<ps.getD (c+1) 0))=V.bl (decide (c % 2=0)))=true then Q (.str "V") H else Q (.str "M") H
  unfold lc at k
  by_cases e:decide (ps.getD c 0<ps.getD (c+1) 0)=decide (c % 2=0)
  ·rw[if_pos e] at k
   rw[e,decide_eq_true rfl]
   exact iteT k
  ·rw[if_neg e] at k
   rw[decide_eq_false (fun z=>e (by injection z))]
   exact iteF k
theorem scLetters:FnScope ["pile","at"] ["pile"] (defScope sLetters):=fs
theorem ok_letters {f fC fP fL:Addr}{fd fdC fdP fdL:FuncData}(D:Def K mg "letters" sLetters ["pile"] f fd)(DP:Def K mg "places" sPlaces ["pile"] fP fdP)(DC:Def K mg "check_pile" sCheck ["pile"] fC fdC)
  (DL:Def K mg "letter" sLetter ["at","crease"] fL fdL) (T:Own mg):FnOk P w K mg base CX0 3 f fd ["pile"] (spLetters K):=by
 have GP:FnOk P w K mg base CX0 2 fP fdP ["pile"] (spPlaces K):=ok_places DP DC T
 have GL:FnOk P w K mg base CX0 1 fL fdL ["at","crease"] (spLetter K):=ok_letter DL
 refine D.fn.ok scLetters (fun vs H Q E h=>?_) (fun cdv A outer s H vs Q E hr h=>?_)
 ·obtain⟨p,ns,n,rfl,_⟩:=h
  rfl
 ·obtain⟨p,ns,n,rfl,hq,hp,h1,h2,k⟩:=h
  have hl:=perm_len hp
  have pl:=plc_length ns
  have hr1:=hr.mono (show 1≤2 by decide)
  refine⟨_,pss_cons (ps_set (i:=1) scLetters.nd rfl (Or.inr rfl) (pe_call GP hr rfl DP.at_ DP.fn.kp DP.bd .nil pass0 (pa_cons (pv 0) pa_nil)))
   (pss_one (ps_ret (pe_bm PySem.F.plainAttrs_str PySem.F.slot_str_join PySem.F.type_str_join mt_join pe_str
    (pa_cons (pe_lcomp (cap:=[1]) (caps:=["at"]) rfl (pi_range1 rfl T.range (pa_cons (pe_op op_sub (pe_callB call_len_seq (by rfl) T.len PySem.boot_len (pa_cons (pv 1) pa_nil)) pe_int) pa_nil))
     rfl (by decide +kernel) (by decide +kernel) rfl (by show ∀ y:Str×NameKind,y∈_→y.2=NameKind.free→(defScope sLetters).names.lookup y.1=some .cell∨(defScope sLetters).names.lookup y.1=some .free;decide +kernel) rfl (fun y hy=>by rw[List.mem_singleton.mp hy];exact⟨.inl rfl,.inl rfl⟩) (by decide +kernel)
     (fun cl s₃ H₃ fp=>⟨pifs_nil,pe_call GL hr1 rfl DL.at_ DL.fn.kp DL.bd .nil pass0 (pa_cons (pv 1) (pa_cons (pv 0) pa_nil))⟩)) pa_nil)))),?_⟩
  refine⟨_,rfl,p,ns,n,rfl,hq,hp,h1,h2,fun l H1 s1 hl0 hl1=>?_⟩
  refine⟨rfl,_,rfl,l,_,rfl,.inl (SqL.of hl1),_,_,rfl,rfl,_,rfl,?_,?_,fun l2 hl2=>?_⟩
  ·rw[List.length_map,pl,hl];omega
  ·rw[List.length_map,pl,hl];omega
  have en:(((plc ns).map V.int).length - 1:Int).toNat=n - 1:=by rw[List.length_map,pl,hl];omega
  rw[en]
  refine lc_range (lo:=0) (n:=n - 1) (fun c=>V.str ⟨#[lc (plc ns) c]⟩) (by omega) hl2 (fun i H2 R hi s2 hR=>?_) fun H2 s2 h2=>?_
  ·refine⟨_,rfl,_,rfl,l,plc ns,i,?_,s2.seq (SqL.of hl1),by omega,hR H2 (Same.refl _)⟩
   simp
  ·refine⟨_,l2,(lcs (plc ns)).map fun c=>⟨#[c]⟩,rfl,rfl,?_,?_,?_⟩
   ·refine SqL.of (h2.trans ?_)
    congr 2
    unfold lcs
    rw[List.map_map,List.map_map,pl,hl]
    rfl
   ·have:∀ cs:List Nat,((cs.map fun c=>(⟨#[c]⟩:Str)).map (·.length)).sum=cs.length:=fun cs=>by
     induction cs with
     | nil=>rfl
     | cons c cs ih =>
      rw[List.map_cons,List.map_cons,List.sum_cons,ih,List.length_cons]
      show 1+cs.length=_
      omega
    rw[this,List.length_map]
    unfold lcs
    rw[List.length_map,List.length_range,pl,hl]
    show n - 1+(n - 1) * 0≤_
    omega
   ·exact k _ H2 (s1.trans s2) (join_ones _)
end
end Sf
namespace Sf
open PySem L2 Pl
def spDrawn (K:PySem.W.Frag):Sp:=fun vs H Q _=>∃ (a:Addr) (ns:List Int) (k:Nat),vs=[.ref a,.int (k:Int)]∧SqL K H a (ns.map V.int)∧Q (.int (ns.getD k 0)) H
def spNumber (K:PySem.W.Frag):Sp:=fun vs H Q _=>∃ (a:Addr) (ns:List Int) (k:Nat),vs=[.ref a,.int (k:Int)]∧SqL K H a (ns.map V.int)∧k≤100000∧∀ v H',Same H H'→0≤v→v<2147483647→Q (.int v) H'
def spCounts:Sp:=fun vs H Q _=>∃ i,vs=[.int i]∧Q (.bl true) H
def spSize:Sp:=fun vs H Q _=>∃ c,vs=[.int c]∧∀ (n:Nat) H',Same H H'→1≤n→n≤60→Q (.int (n:Int)) H'
def spPile (K:PySem.W.Frag):Sp:=fun vs H Q _=>∃ (a:Addr) (ns:List Int) (st n:Nat),vs=[.ref a,.int (st:Int),.int (n:Int)]∧SqL K H a (ns.map V.int)∧st≤1000∧n≤60 ∧
 ∀ (l:Addr) (ms:List Int) H',Same H H'→H l=none→ms.Perm (iota n)→H' l=some (.lst (ms.map V.int))→Q (.ref l) H'
theorem cut_take (xs:List V){g:Nat}(hg:g≤xs.length):cutV xs none (some (g:Int))=xs.take g:=by
 unfold cutV
 rw[HT.sIx_none,HT.sIx_nat,Nat.min_eq_left hg]
 rfl
theorem cut_drop (xs:List V){g:Nat}(hg:g≤xs.length):cutV xs (some (g:Int)) none=xs.drop g:=by
 unfold cutV
 rw[HT.sIx_none,HT.sIx_nat,Nat.min_eq_left hg,List.take_of_length_le (by rw[List.length_drop];omega)]
section
variable {P:Program}{w:World}{K:PySem.W.Frag}{mg:Str→Option Value}{base:Heap}
theorem scDrawn:FnScope ["_law_script","_law_k"] ["_law_script","_law_k"] (defScope sDrawn):=fs
theorem ok_drawn {f:Addr}{fd:FuncData}(D:Def K mg "_law_drawn" sDrawn ["_law_script","_law_k"] f fd)(T:Own mg):FnOk P w K mg base CX0 1 f fd ["_law_script","_law_k"] (spDrawn K):=by
 refine D.fn.ok scDrawn (fun vs H Q E h=>?_) (fun cdv A outer s H vs Q E hr h=>?_)
 ·obtain⟨a,ns,k,rfl,_⟩:=h
  rfl
 ·obtain⟨a,ns,k,rfl,hq,q⟩:=h
  refine⟨_,pss_one (ps_ret (pe_ifExp (pt_cmpR op_lt (pv 1) (pe_callB call_len_seq (by rfl) T.len PySem.boot_len (pa_cons (pv 0) pa_nil)) (nomark _)) (pe_ix ix_list (pv 0) (pv 1) (fun _ _=>rfl)) pe_int)),?_⟩
  refine⟨_,rfl,_,rfl,a,_,rfl,.inl hq,_,_,rfl,rfl,_,rfl,?_⟩
  rw[List.length_map]
  refine ite2 (fun z=>?_) (fun z=>?_)
  ·have z':=of_decide_eq_true z
   exact⟨_,rfl,_,rfl,a,_,_,_,rfl,rfl,hq,at_int (by omega),q⟩
  ·have z':¬ ((k:Int)<ns.length):=fun y=>z (decide_eq_true y)
   have e:ns.getD k 0=0:=by
    rw[List.getD_eq_getElem?_getD,List.getElem?_eq_none (by omega)]
    rfl
   rw[e] at q
   exact q
theorem scNumber:FnScope ["_law_script","_law_k","_law_cell"] ["_law_script","_law_k"] (defScope sNumber):=fs
theorem ok_number {f:Addr}{fd:FuncData}(D:Def K mg "_law_number" sNumber ["_law_script","_law_k"] f fd)(T:Own mg):FnOk P w K mg base CX0 1 f fd ["_law_script","_law_k"] (spNumber K):=by
 refine D.fn.ok scNumber (fun vs H Q E h=>?_) (fun cdv A outer s H vs Q E hr h=>?_)
 ·obtain⟨a,ns,k,rfl,_⟩:=h
  rfl
 ·obtain⟨a,ns,k,rfl,hq,hk,q⟩:=h
  refine⟨_,pss_cons (ps_set (i:=2) scNumber.nd rfl (Or.inl rfl) (pe_op op_add (pe_op op_mul (pe_op op_mul (pv 1) (pv 1)) pe_int) (pv 1)))
   (pss_cons (ps_if (pt_cmpR op_lt (pv 1) (pe_callB call_len_seq (by rfl) T.len PySem.boot_len (pa_cons (pv 0) pa_nil)) (nomark _))
    (pss_one (ps_set (i:=2) scNumber.nd rfl (Or.inl rfl) (pe_ix ix_list (pv 0) (pv 1) (fun _ _=>rfl))))
    (pss_one (ps_if (pt_cmpR (op_ne_lst hr.units0) (pv 0) (pe_lst pa_nil) (nomark _))
     (pss_one (ps_set (i:=2) scNumber.nd rfl (Or.inl rfl) (pe_op op_add (pv 2) (pe_ix ix_list (pv 0) (pe_op op_mod (pv 1) (pe_callB call_len_seq (by rfl) T.len PySem.boot_len (pa_cons (pv 0) pa_nil))) (fun _ _=>rfl)))))
     pss_nil)))
   (pss_one (ps_ret (pe_op op_mod (pe_op op_mul (pv 2) pe_int) pe_int)))),?_⟩
  have last:∀ (c:Int) H',Same H H'→tRet (tOp (rI (fun _ j=>0<j) fun i j=>V.int (i % j)) (tOp (rI CMul fun i j=>V.int (i * j)) (tVar 2) (tC (.int 48271))) (tC (.int 2147483647))) { nx:=fun _ H'=>Q .non H',rt:=Q } [some (.ref a),some (.int (k:Int)),some (.int c)] H':=fun c H' s' =>
   ⟨_,rfl,_,_,rfl,rfl,.inr ⟨by decide,by decide⟩,_,_,rfl,rfl,(by show (0:Int)<2147483647;decide),q _ H' s' (Int.emod_nonneg _ (by decide)) (Int.emod_lt_of_pos _ (by decide))⟩
  have kb:-(2 ^ 64)<(k:Int)∧(k:Int)<2 ^ 64:=by constructor <;> omega
  have kk:-(2 ^ 64)<(k:Int) * (k:Int)∧(k:Int) * (k:Int)<2 ^ 64:=by
   have h1:(k:Int) * (k:Int)≤100000 * 100000:=Int.mul_le_mul (by omega) (by omega) (by omega) (by omega)
   have h2:0≤(k:Int) * (k:Int):=Int.mul_nonneg (by omega) (by omega)
   constructor <;> omega
  refine⟨_,rfl,_,rfl,_,_,rfl,rfl,.inl kb,_,_,rfl,rfl,.inl kk,_,rfl,_,_,rfl,rfl,?_⟩
  refine⟨_,rfl,_,rfl,a,_,rfl,.inl hq,_,_,rfl,rfl,_,rfl,?_⟩
  rw[List.length_map]
  refine ite2 (fun z=>?_) (fun z=>?_)
  ·have z':=of_decide_eq_true z
   exact⟨_,rfl,_,rfl,a,_,_,_,rfl,rfl,hq,at_int (by omega),last _ H (Same.refl H)⟩
  ·refine⟨_,rfl,small_line (by decide),fun e he=>⟨a,e,_,_,rfl,rfl,(same_new he).seq hq,SqL.of upd_same,flat_ints _,rfl,_,rfl,?_⟩⟩
   have s1:=same_new (o:=.lst []) he
   refine ite2 (fun y=>?_) (fun y=>?_)
   ·have hne:ns≠[]:=fun z=>by subst z;cases y
    have hpos:0<ns.length:=List.length_pos_iff.mpr hne
    have it:atI (ns.map V.int) ((k:Int) % ((ns.map V.int).length:Int))=some (.int (ns.getD (k % ns.length) 0)):=by
     rw[List.length_map]
     have e:=at_int (ps:=ns) (c:=k % ns.length) (Nat.mod_lt _ hpos)
     rw[Int.natCast_emod] at e
     exact e
    refine⟨_,rfl,_,rfl,_,rfl,_,rfl,a,_,rfl,.inl (s1.seq hq),_,_,rfl,rfl,?_,a,_,_,_,rfl,rfl,s1.seq hq,it,_,_,rfl,rfl,last _ _ s1⟩
    rw[List.length_map]
    omega
   ·exact last _ _ s1
theorem scCounts:FnScope ["_law_thing"] ["_law_thing"] (defScope sCounts):=fs
theorem ok_counts {f:Addr}{fd:FuncData}(D:Def K mg "_law_counts" sCounts ["_law_thing"] f fd)(T:Own mg):FnOk P w K mg base CX0 1 f fd ["_law_thing"] spCounts:=by
 refine D.fn.ok scCounts (fun vs H Q E h=>?_) (fun cdv A outer s H vs Q E hr h=>?_)
 ·obtain⟨i,rfl,_⟩:=h
  rfl
 ·obtain⟨i,rfl,q⟩:=h
  refine⟨_,pss_one (ps_ret (pe_and (pe_callB call_isinst (by rfl) T.isinstance boot_isinstance (pa_cons (pv 0) (pa_cons (pe_bltn (by rfl) T.int boot_int (v:=.ty "int") rfl) pa_nil)))
   (pe_and (pe_cmpR op_notB (pv 0) pe_bl (nomark _)) (pe_one (pe_cmpR op_notB (pv 0) pe_bl (nomark _)))))),?_⟩
  refine⟨_,rfl,_,"int",_,true,rfl,.int i,rfl,true,rfl,iteT ?_⟩
  refine⟨_,rfl,true,rfl,.inl ⟨i,rfl,true,rfl,iteT ?_⟩⟩
  exact⟨_,rfl,false,rfl,.inl ⟨i,rfl,q⟩⟩
theorem scSize:FnScope ["_law_cell"] ["_law_cell"] (defScope sSize):=fs
theorem ok_size {f:Addr}{fd:FuncData}(D:Def K mg "_law_size" sSize ["_law_cell"] f fd):FnOk P w K mg base CX0 1 f fd ["_law_cell"] spSize:=by
 refine D.fn.ok scSize (fun vs H Q E h=>?_) (fun cdv A outer s H vs Q E hr h=>?_)
 ·obtain⟨i,rfl,_⟩:=h
  rfl
 ·obtain⟨c,rfl,q⟩:=h
  refine⟨_,pss_one (ps_ret (pe_op op_add pe_int (pe_op op_mod (pe_op op_fdiv (pv 0) pe_int) (pe_ix ix_list (pe_lst (pa_cons pe_int (pa_cons pe_int (pa_cons pe_int (pa_cons pe_int (pa_cons pe_int (pa_cons pe_int (pa_cons pe_int (pa_cons pe_int pa_nil)))))))))
   (pe_op op_mod (pv 0) pe_int) (fun _ _=>rfl))))),?_⟩
  refine⟨_,rfl,_,_,rfl,rfl,⟨by decide,by decide⟩,small_line (by decide),fun l hl=>⟨_,rfl,_,_,rfl,rfl,(by show (0:Int)<8;decide),?_⟩⟩
  have h0:=Int.emod_nonneg c (show (8:Int)≠0 by decide)
  have h8:=Int.emod_lt_of_pos c (show (0:Int)<8 by decide)
  have key:∃ m:Int,atI ([V.int 6,.int 9,.int 17,.int 9,.int 17,.int 12,.int 3,.int 2]:List V) (c % 8)=some (.int m)∧0<m∧m≤60:=by
   have:c % 8=0∨c % 8=1∨c % 8=2∨c % 8=3∨c % 8=4∨c % 8=5∨c % 8=6∨c % 8=7:=by omega
   rcases this with h | h | h | h | h | h | h | h <;> rw[h] <;> exact⟨_,rfl,by decide,by decide⟩
  obtain⟨m,e,m1,m2⟩:=key
  refine⟨l,_,_,_,rfl,rfl,SqL.of upd_same,e,_,_,rfl,rfl,m1,_,_,rfl,rfl,?_⟩
  have b0:=Int.emod_nonneg (c / 8) (show m≠0 by omega)
  have b1:=Int.emod_lt_of_pos (c / 8) m1
  have e3:=Int.toNat_of_nonneg (show 0≤1+c / 8 % m by omega)
  show Q (V.int (1+c / 8 % m)) _
  rw[← e3]
  exact q _ _ (same_new hl) (by omega) (by omega)
theorem scPile:FnScope ["_law_script","_law_start","_law_size_here","_law_pile_here","_law_stamp","_law_gap"] ["_law_script","_law_start","_law_size_here"] (defScope sPile):=fs
theorem ok_pile {f fN:Addr}{fd fdN:FuncData}(D:Def K mg "_law_pile" sPile ["_law_script","_law_start","_law_size_here"] f fd)(DN:Def K mg "_law_number" sNumber ["_law_script","_law_k"] fN fdN)(T:Own mg) :
  FnOk P w K mg base CX0 2 f fd ["_law_script","_law_start","_law_size_here"] (spPile K):=by
 have GN:FnOk P w K mg base CX0 1 fN fdN ["_law_script","_law_k"] (spNumber K):=ok_number DN T
 refine D.fn.ok scPile (fun vs H Q E h=>?_) (fun cdv A outer s H vs Q E hr h=>?_)
 ·obtain⟨a,ns,st,n,rfl,_⟩:=h
  rfl
 ·obtain⟨a,ns,st,n,rfl,hq,h1,h2,k⟩:=h
  refine⟨_,pss_cons (ps_set (i:=3) scPile.nd rfl (Or.inl rfl) (pe_lst pa_nil))
   (pss_cons (ps_for PassesOwn.never rfl (pi_range1 rfl T.range (pa_cons (pv 2) pa_nil)) (pg_name (i:=4) scPile.nd rfl (Or.inl rfl))
    (pss_cons (ps_set (i:=5) scPile.nd rfl (Or.inl rfl) (pe_op op_mod (pe_call GN hr rfl DN.at_ DN.fn.kp DN.bd .nil pass0 (pa_cons (pv 0) (pa_cons (pe_op op_add (pv 1) (pv 4)) pa_nil))) (pe_op op_add (pv 4) pe_int)))
    (pss_one (ps_set (i:=3) scPile.nd rfl (Or.inl rfl) (pe_op op_cat (pe_op op_cat (pe_slice sl_list (pv 3) po_none (po_some (pv 5))) (pe_lst (pa_cons (pv 4) pa_nil))) (pe_slice sl_list (pv 3) (po_some (pv 5)) po_none))))))
   (pss_one (ps_ret (pv 3)))),?_⟩
  refine⟨small_line (by decide),fun l0 hl0=>?_⟩
  refine⟨_,rfl,_,rfl,by omega,by omega,for_range (lo:=0) (n:=(n:Int).toNat) (fun i σ H2=>∃ (l:Addr) (ms:List Int) (v u:Option V),σ=[some (.ref a),some (.int (st:Int)),some (.int (n:Int)),some (.ref l),v,u]∧Same H H2∧H l=none∧H2 l=some (.lst (ms.map V.int))∧ms.Perm (iota i))
   ⟨l0,[],none,none,rfl,same_new hl0,hl0,upd_same,List.Perm.refl _⟩ ?_ ?_⟩
  ·rintro i σ H2 hi ⟨l,ms,v,u,rfl,s2,hl,h3,pm⟩
   have ml:=perm_len pm
   refine⟨_,rfl,_,rfl,_,rfl,_,_,rfl,rfl,a,ns,st+i,?_,s2.seq hq,by omega,fun y H3 s3 y1 y2=>?_⟩
   ·simp
   refine⟨_,rfl,_,_,rfl,rfl,_,_,rfl,rfl,?_,?_⟩
   ·show (0:Int)<0+(i:Int)+1
    omega
   have g0:=Int.emod_nonneg y (show (0+(i:Int)+1)≠0 by omega)
   have g1:=Int.emod_lt_of_pos y (show (0:Int)<0+(i:Int)+1 by omega)
   obtain⟨g,hg⟩:∃ g:Nat,y % (0+(i:Int)+1)=(g:Int):=⟨(y % (0+(i:Int)+1)).toNat,by omega⟩
   show gName 5 (V.int (y % (0+(i:Int)+1))) _ _ _
   rw[hg] at g0 g1 ⊢
   have gl:g≤(ms.map V.int).length:=by rw[List.length_map,ml];omega
   have h3':=s3 _ _ h3
   refine⟨_,rfl,_,rfl,_,rfl,l,_,rfl,SqL.of h3',fun p1 hp1=>?_⟩
   rw[cut_take _ gl]
   refine⟨_,rfl,small_line (by show 1≤1000;decide),fun p2 hp2=>?_⟩
   have t1:=same_new (o:=.lst ((ms.map V.int).take g)) hp1
   have t2:=same_new (o:=.lst [V.int (0+(i:Int))]) hp2
   refine⟨p1,p2,_,_,rfl,rfl,t2 _ _ upd_same,upd_same,?_,fun p3 hp3=>?_⟩
   ·refine small_line ?_
    rw[List.length_take,List.length_map]
    simp
    omega
   have t3:=same_new (o:=.lst ((ms.map V.int).take g++[V.int (0+(i:Int))])) hp3
   refine⟨_,rfl,_,rfl,_,rfl,l,_,rfl,SqL.of (t3 _ _ (t2 _ _ (t1 _ _ h3'))),fun p4 hp4=>?_⟩
   rw[cut_drop _ gl]
   have t4:=same_new (o:=.lst ((ms.map V.int).drop g)) hp4
   refine⟨p3,p4,_,_,rfl,rfl,t4 _ _ upd_same,upd_same,?_,fun p5 hp5=>?_⟩
   ·refine small_line ?_
    rw[List.length_append,List.length_take,List.length_drop,List.length_map]
    simp
    omega
   have s5:Same H _:=s2.trans (s3.trans (t1.trans (t2.trans (t3.trans t4))))
   refine⟨p5,ms.take g++[(i:Int)]++ms.drop g,_,_,rfl,s5.trans (same_new hp5),s5.free hp5,?_,perm_ins pm g⟩
   rw[upd_same,List.map_append,List.map_append,List.map_take,List.map_drop]
   simp
  ·rintro σ H2 ⟨l,ms,v,u,rfl,s2,hl,h3,pm⟩
   rw[show (n:Int).toNat=n by omega] at pm
   exact⟨_,rfl,k l ms H2 s2 hl pm h3⟩
end
end Sf
namespace Sf
open PySem L2 Pl
theorem boot_min:bootBuiltins "min"=some (.builtin "min"):=by decide +kernel
theorem boot_max:bootBuiltins "max"=some (.builtin "max"):=by decide +kernel
structure OwnM (mg:Str→Option Value):Prop where
 min:mg "min"=none
 max:mg "max"=none
def spWraps (K:PySem.W.Frag):Sp:=fun vs H Q _=>∃ (l:Addr) (ps:List Int) (c s:Nat),vs=[.ref l,.int (c:Int),.int (s:Int)]∧SqL K H l (ps.map V.int)∧c+1<ps.length∧s<ps.length∧Q (.bl (wr ps c s)) H
def spCross (K:PySem.W.Frag):Sp:=fun vs H Q _=>∃ (l:Addr) (ps:List Int) (a b:Nat),vs=[.ref l,.int (a:Int),.int (b:Int)]∧SqL K H l (ps.map V.int)∧a+1<ps.length∧b+1<ps.length∧Q (.bl (cr ps a b)) H
def spCrossing (K:PySem.W.Frag):Sp:=fun vs H Q _=>∃ (p:Addr) (ns:List Int) (n:Nat),vs=[.ref p]∧SqL K H p (ns.map V.int)∧ns.Perm (iota n)∧1≤n∧n≤60 ∧
 (∀ H',Same H H'→NoX (plc ns)→Q .non H')∧∀ (t:Addr) (a b:Nat) H',Same H H'→H t=none→H' t=some (.tup [.int (a:Int),.int (b:Int)])→a+2≤b→b+1<n→(b - a) % 2=0→cr (plc ns) a b=true→Q (.ref t) H'
def spLPlaces (K:PySem.W.Frag):Sp:=fun vs H Q _=>∃ (p:Addr) (ns:List Int) (n:Nat),vs=[.ref p]∧SqL K H p (ns.map V.int)∧ns.Perm (iota n)∧n≤60∧∀ l H',Same H H'→H l=none→H' l=some (.lst ((plc ns).map V.int))→Q (.ref l) H'
def spNone (K:PySem.W.Frag):Sp:=fun vs H Q _=>∃ (l:Addr) (ps:List Int),vs=[.ref l]∧SqL K H l (ps.map V.int)∧1≤ps.length∧ps.length≤60∧∀ b:Bool,(b=true↔NoX ps)→Q (.bl b) H
section
variable {P:Program}{w:World}{K:PySem.W.Frag}{mg:Str→Option Value}{base:Heap}
theorem scWraps:FnScope ["at","crease","stamp","low","high"] ["at","crease","stamp"] (defScope sWraps):=fs
theorem ok_wraps {f:Addr}{fd:FuncData}(D:Def K mg "wraps" sWraps ["at","crease","stamp"] f fd)(M:OwnM mg):FnOk P w K mg base CX0 1 f fd ["at","crease","stamp"] (spWraps K):=by
 refine D.fn.ok scWraps (fun vs H Q E h=>?_) (fun cdv A outer s H vs Q E hr h=>?_)
 ·obtain⟨l,ps,c,s',rfl,_⟩:=h
  rfl
 ·obtain⟨l,ps,c,s',rfl,hq,h1,h2,k⟩:=h
  refine⟨_,pss_cons (ps_set (i:=3) scWraps.nd rfl (Or.inl rfl) (pe_callB (call_min2 rfl) (by rfl) M.min boot_min (pa_cons (pe_ix ix_list (pv 0) (pv 1) (fun _ _=>rfl)) (pa_cons (pe_ix ix_list (pv 0) (pe_op op_add (pv 1) pe_int) (fun _ _=>rfl)) pa_nil))))
   (pss_cons (ps_set (i:=4) scWraps.nd rfl (Or.inl rfl) (pe_callB (call_max2 rfl) (by rfl) M.max boot_max (pa_cons (pe_ix ix_list (pv 0) (pv 1) (fun _ _=>rfl)) (pa_cons (pe_ix ix_list (pv 0) (pe_op op_add (pv 1) pe_int) (fun _ _=>rfl)) pa_nil))))
   (pss_one (ps_ret (pe_and (pe_cmpR op_lt (pv 3) (pe_ix ix_list (pv 0) (pv 2) (fun _ _=>rfl)) (nomark _)) (pe_one (pe_cmpR op_lt (pe_ix ix_list (pv 0) (pv 2) (fun _ _=>rfl)) (pv 4) (nomark _))))))),?_⟩
  have e0:=at_int (ps:=ps) (c:=c) (by omega)
  have e1:=at_int (ps:=ps) (c:=c+1) h1
  have e2:=at_int (ps:=ps) (c:=s') h2
  refine⟨_,rfl,_,rfl,l,_,_,_,rfl,rfl,hq,e0,_,rfl,_,rfl,_,_,rfl,rfl,l,_,_,_,rfl,rfl,hq,e1,_,_,rfl,?_⟩
  rw[min_if]
  refine⟨_,rfl,_,rfl,l,_,_,_,rfl,rfl,hq,e0,_,rfl,_,rfl,_,_,rfl,rfl,l,_,_,_,rfl,rfl,hq,e1,_,_,rfl,?_⟩
  rw[max_if]
  unfold wr at k
  refine⟨_,rfl,_,rfl,_,rfl,l,_,_,_,rfl,rfl,hq,e2,_,_,rfl,rfl,_,rfl,?_⟩
  refine ite2 (fun z=>?_) (fun z=>?_)
  ·rw[z,Bool.true_and] at k
   exact⟨_,rfl,_,rfl,l,_,_,_,rfl,rfl,hq,e2,_,rfl,_,_,rfl,rfl,k⟩
  ·rw[Bool.eq_false_iff.mpr z,Bool.false_and] at k
   exact k
theorem scCross:FnScope ["at","one","other"] ["at","one","other"] (defScope sCross):=fs
theorem ok_cross {f fW:Addr}{fd fdW:FuncData}(D:Def K mg "cross" sCross ["at","one","other"] f fd)(DW:Def K mg "wraps" sWraps ["at","crease","stamp"] fW fdW)(M:OwnM mg):FnOk P w K mg base CX0 2 f fd ["at","one","other"] (spCross K):=by
 have GW:FnOk P w K mg base CX0 1 fW fdW ["at","crease","stamp"] (spWraps K):=ok_wraps DW M
 refine D.fn.ok scCross (fun vs H Q E h=>?_) (fun cdv A outer s H vs Q E hr h=>?_)
 ·obtain⟨l,ps,a,b,rfl,_⟩:=h
  rfl
 ·obtain⟨l,ps,a,b,rfl,hq,h1,h2,k⟩:=h
  refine⟨_,pss_one (ps_ret (pe_cmpR op_ne (pe_call GW hr rfl DW.at_ DW.fn.kp DW.bd .nil pass0 (pa_cons (pv 0) (pa_cons (pv 1) (pa_cons (pv 2) pa_nil))))
   (pe_call GW hr rfl DW.at_ DW.fn.kp DW.bd .nil pass0 (pa_cons (pv 0) (pa_cons (pv 1) (pa_cons (pe_op op_add (pv 2) pe_int) pa_nil)))) (nomark _))),?_⟩
  refine⟨_,rfl,_,rfl,_,rfl,l,ps,a,b,rfl,hq,h1,by omega,_,rfl,_,rfl,_,rfl,_,_,rfl,rfl,l,ps,a,b+1,rfl,hq,h1,h2,rfl,?_⟩
  rw[dec_bl]
  exact k
theorem scCrossing:FnScope ["pile","at","creases","one","other"] ["pile"] (defScope sCrossing):=fs
theorem ok_crossing {f fC fP fW fX:Addr}{fd fdC fdP fdW fdX:FuncData}(D:Def K mg "crossing" sCrossing ["pile"] f fd)(DP:Def K mg "places" sPlaces ["pile"] fP fdP)(DC:Def K mg "check_pile" sCheck ["pile"] fC fdC)
  (DX:Def K mg "cross" sCross ["at","one","other"] fX fdX) (DW:Def K mg "wraps" sWraps ["at","crease","stamp"] fW fdW) (T:Own mg) (M:OwnM mg):FnOk P w K mg base CX0 3 f fd ["pile"] (spCrossing K):=by
 have GP:FnOk P w K mg base CX0 2 fP fdP ["pile"] (spPlaces K):=ok_places DP DC T
 have GX:FnOk P w K mg base CX0 2 fX fdX ["at","one","other"] (spCross K):=ok_cross DX DW M
 refine D.fn.ok scCrossing (fun vs H Q E h=>?_) (fun cdv A outer s H vs Q E hr h=>?_)
 ·obtain⟨p,ns,n,rfl,_⟩:=h
  rfl
 ·obtain⟨p,ns,n,rfl,hq,hp,h1,h2,kN,kT⟩:=h
  have hl:=perm_len hp
  have pl:=plc_length ns
  refine⟨_,pss_cons (ps_set (i:=1) scCrossing.nd rfl (Or.inl rfl) (pe_call GP hr rfl DP.at_ DP.fn.kp DP.bd .nil pass0 (pa_cons (pv 0) pa_nil)))
   (pss_cons (ps_set (i:=2) scCrossing.nd rfl (Or.inl rfl) (pe_op op_sub (pe_callB call_len_seq (by rfl) T.len PySem.boot_len (pa_cons (pv 1) pa_nil)) pe_int))
   (pss_cons (ps_for PassesOwn.never rfl (pi_range1 rfl T.range (pa_cons (pv 2) pa_nil)) (pg_name (i:=3) scCrossing.nd rfl (Or.inl rfl))
    (pss_one (ps_for PassesOwn.never rfl (pi_range3 rfl T.range (pa_cons (pe_op op_add (pv 3) pe_int) (pa_cons (pv 2) (pa_cons pe_int pa_nil)))) (pg_name (i:=4) scCrossing.nd rfl (Or.inl rfl))
     (pss_one (ps_if (pt_val (pe_call GX hr (by rfl) DX.at_ DX.fn.kp DX.bd .nil pass0 (pa_cons (pv 1) (pa_cons (pv 3) (pa_cons (pv 4) pa_nil))))) (pss_one (ps_ret (pe_tup (pa_cons (pv 3) (pa_cons (pv 4) pa_nil))))) pss_nil)))))
   (pss_one (ps_ret pe_non)))),?_⟩
  refine⟨_,rfl,p,ns,n,rfl,hq,hp,h1,h2,fun la H1 s1 hla0 hla=>?_⟩
  refine⟨_,rfl,la,_,rfl,.inl (SqL.of hla),_,_,rfl,rfl,?_⟩
  rw[List.length_map,pl,hl]
  refine⟨_,rfl,_,rfl,by omega,by omega,for_range (lo:=0) (n:=((n:Int) - 1).toNat) (fun i σ H2=>∃ (v u:Option V),σ=[some (.ref p),some (.ref la),some (.int ((n:Int) - 1)),v,u]∧Same H1 H2 ∧
    ∀ a b:Nat,a<i→a+2≤b→b+1<n→(b - a) % 2=0→cr (plc ns) a b=false) ⟨none,none,rfl,Same.refl _,fun a b ha=>by omega⟩ ?_ ?_⟩
  ·rintro i σ H2 hi ⟨v,u,rfl,s2,hno⟩
   refine⟨_,rfl,_,_,rfl,rfl,_,rfl,_,_,rfl,⟨by omega,by omega,by omega,by omega⟩,for_step (lo:=0+(i:Int)+2) (c:=2) (n:=half2 (0+(i:Int)+2) ((n:Int) - 1)) (fun j σ H3=>∃ (u:Option V),σ=[some (.ref p),some (.ref la),some (.int ((n:Int) - 1)),some (.int (0+(i:Int))),u]∧Same H1 H3 ∧
    ∀ t:Nat,t<j→cr (plc ns) i (i+2+2 * t)=false) ⟨_,rfl,s2,fun t ht=>by omega⟩ ?_ ?_⟩
   ·rintro j σ H3 hj ⟨u,rfl,s3,hj2⟩
    have hj':i+2+2 * j+1<n:=by unfold half2 at hj;omega
    refine⟨_,rfl,_,rfl,_,rfl,la,plc ns,i,i+2+2 * j,?_,SqL.of (s3 _ _ hla),by omega,by omega,_,rfl,?_⟩
    ·have e:(0+(i:Int)+2+(j:Nat) * 2)=((i+2+2 * j:Nat):Int):=by omega
     rw[e]
     simp
    refine ite2 (fun z=>?_) (fun z=>?_)
    ·refine⟨_,rfl,_,rfl,small_line (by show 2≤1000;decide),fun t ht=>?_⟩
     have s3':=s1.trans s3
     refine kT t i (i+2+2 * j) _ (s3'.trans (same_new ht)) (s3'.free ht) ?_ (by omega) hj' (by omega) z
     have e:(0+(i:Int)+2+(j:Nat) * 2)=((i+2+2 * j:Nat):Int):=by omega
     rw[upd_same,e]
     simp
    ·refine⟨_,rfl,s3,fun t ht=>?_⟩
     by_cases e:t=j
     ·rw[e];exact Bool.eq_false_iff.mpr z
     ·exact hj2 t (by omega)
   ·rintro σ H3 ⟨u,rfl,s3,hj2⟩
    refine⟨_,_,rfl,s3,fun a b ha hab hb hpar=>?_⟩
    by_cases e:a=i
    ·subst e
     have:=hj2 ((b - a - 2) / 2) (by unfold half2;omega)
     rw[show a+2+2 * ((b - a - 2) / 2)=b by omega] at this
     exact this
    ·exact hno a b (by omega) hab hb hpar
  ·rintro σ H2 ⟨v,u,rfl,s2,hno⟩
   exact kN H2 (s1.trans s2) fun a b hab hb hpar=>hno a b (by rw[pl,hl] at hb;omega) hab (by rw[pl,hl] at hb;exact hb) hpar
end
end Sf
namespace Sf
open PySem L2 Pl
structure Errs (K:PySem.W.Frag)(mg:Str→Option Value)(cl:Nat→Addr):Prop where
 n0:mg "NoPile"=some (.ref (cl 0))
 n1:mg "Crossing"=some (.ref (cl 1))
 n2:mg "NoCrease"=some (.ref (cl 2))
 n3:mg "NoLetters"=some (.ref (cl 3))
 n4:mg "NoCount"=some (.ref (cl 4))
 n5:mg "Stuck"=some (.ref (cl 5))
 val:mg "ValueError"=none
 inn:∀ i,i<6→ExcIn K (cl i)
 kit:∀ i j,i<6→j<6→PySem.W.kitOne K (.ref (cl i)) (.ref (cl j))=some (decide (j=i))
 kitV:∀ i,i<6→PySem.W.kitOne K (.ref (cl i)) (.type "ValueError")=some true
theorem boot_ValueError:bootBuiltins "ValueError"=some (.type "ValueError"):=by decide +kernel
def Held (cl:Nat→Addr)(H:Hp)(e:Addr)(i:Nat):Prop:=i<6∧∃ od,H e=some (excO e (cl i) od)∧(od=none∨∃ dx fs,od=some dx∧H dx=some (.xd fs))
theorem Held.same {cl:Nat→Addr}{H H':Hp}{e:Addr}{i:Nat}(x:Held cl H e i)(s:Same H H'):Held cl H' e i:=by
 obtain⟨hi,od,h,o⟩:=x
 refine⟨hi,od,s _ _ h,?_⟩
 rcases o with o | ⟨dx,fs,o,h2⟩
 ·exact .inl o
 ·exact .inr ⟨dx,fs,o,s _ _ h2⟩
structure ErrsB (mg:Str→Option Value)(base:Heap)(cl:Nat→Addr)(S:Addr):Prop where
 at_:mg "StripError"=some (.ref S)
 sup:∃ bm,EShape base S bm∧bm.contains (.type "BaseException")=true
 all:∀ i,i<6→∃ bm,EShape base (cl i) bm∧(Value.ref (cl i)::bm).contains (.ref S)=true
def OdOk (H:Hp)(od:Option Addr):Prop:=od=none∨∃ dx fs,od=some dx∧H dx=some (.xd fs)
end Sf
namespace Sf
open PySem L2 Pl
seal PS PSs PE PA PSsx PSx PEx
def kindsL (i:Nat):List V:=[.bl (decide (0=i)),.bl (decide (1=i)),.bl (decide (2=i)),.bl (decide (3=i)),.bl (decide (4=i)),.bl (decide (5=i)),.bl false]
def spKinds (cl:Nat→Addr):Sp:=fun vs H Q _=>∃ (e:Addr) (i:Nat),vs=[.ref e]∧Held cl H e i∧∀ (l:Addr) H',Same H H'→H' l=some (.lst (kindsL i))→Q (.ref l) H'
section
variable {P:Program}{w:World}{K:PySem.W.Frag}{mg:Str→Option Value}{base:Heap}
theorem scKinds:FnScope ["_law_e","_law_told"] ["_law_e"] (defScope s_law_kinds):=fs
theorem ok_kinds {f:Addr}{fd:FuncData}{cl:Nat→Addr}(D:Def K mg "_law_kinds" s_law_kinds ["_law_e"] f fd)(T:Own mg)(R:Errs K mg cl):FnOkM P w K mg base 1 f fd ["_law_e"] (spKinds cl):=by
 refine Fun.okM D.fn scKinds (fun vs H Q E h=>?_) (fun cdv A outer s H vs Q E hr h=>?_)
 ·obtain⟨e,i,rfl,_⟩:=h
  rfl
 ·obtain⟨e,i,rfl,he,k⟩:=h
  refine⟨_,pss_cons (ps_set (i:=1) scKinds.nd rfl (Or.inl rfl) (pe_lst (pa_cons (pe_callB call_isX (by rfl) T.isinstance boot_isinstance (pa_cons (pv 0) (pa_cons (pe_glob (v:=.ref (cl 0)) (by rfl) R.n0 rfl) pa_nil)))
    (pa_cons (pe_callB call_isX (by rfl) T.isinstance boot_isinstance (pa_cons (pv 0) (pa_cons (pe_glob (v:=.ref (cl 1)) (by rfl) R.n1 rfl) pa_nil)))
    (pa_cons (pe_callB call_isX (by rfl) T.isinstance boot_isinstance (pa_cons (pv 0) (pa_cons (pe_glob (v:=.ref (cl 2)) (by rfl) R.n2 rfl) pa_nil)))
    (pa_cons (pe_callB call_isX (by rfl) T.isinstance boot_isinstance (pa_cons (pv 0) (pa_cons (pe_glob (v:=.ref (cl 3)) (by rfl) R.n3 rfl) pa_nil))) pa_nil))))))
   (pss_one (ps_ret (pe_op op_cat (pv 1) (pe_lst (pa_cons (pe_callB call_isX (by rfl) T.isinstance boot_isinstance (pa_cons (pv 0) (pa_cons (pe_glob (v:=.ref (cl 4)) (by rfl) R.n4 rfl) pa_nil)))
    (pa_cons (pe_callB call_isX (by rfl) T.isinstance boot_isinstance (pa_cons (pv 0) (pa_cons (pe_glob (v:=.ref (cl 5)) (by rfl) R.n5 rfl) pa_nil)))
    (pa_cons (pe_not (pe_callB call_isX (by rfl) T.isinstance boot_isinstance (pa_cons (pv 0) (pa_cons (pe_bltn (v:=.ty "ValueError") (by rfl) R.val boot_ValueError rfl) pa_nil)))) pa_nil))))))),?_⟩
  obtain⟨hi,od,ho,hx⟩:=id he
  have F:=R.inn i hi
  refine⟨_,rfl,e,_,od,_,_,_,rfl,rfl,ho,hx,F,R.kit i 0 hi (by decide),?_⟩
  refine⟨_,rfl,e,_,od,_,_,_,rfl,rfl,ho,hx,F,R.kit i 1 hi (by decide),?_⟩
  refine⟨_,rfl,e,_,od,_,_,_,rfl,rfl,ho,hx,F,R.kit i 2 hi (by decide),?_⟩
  refine⟨_,rfl,e,_,od,_,_,_,rfl,rfl,ho,hx,F,R.kit i 3 hi (by decide),?_⟩
  refine⟨small_line (by show 4≤1000;decide),fun l1 hl1=>?_⟩
  have s1:=same_new (o:=.lst [.bl (decide (0=i)),.bl (decide (1=i)),.bl (decide (2=i)),.bl (decide (3=i))]) hl1
  obtain⟨_,od1,ho1,hx1⟩:=he.same s1
  refine⟨_,rfl,_,rfl,e,_,od1,_,_,_,rfl,rfl,ho1,hx1,F,R.kit i 4 hi (by decide),?_⟩
  refine⟨_,rfl,e,_,od1,_,_,_,rfl,rfl,ho1,hx1,F,R.kit i 5 hi (by decide),?_⟩
  refine⟨_,rfl,e,_,od1,_,_,_,rfl,rfl,ho1,hx1,F,R.kitV i hi,true,rfl,?_⟩
  refine⟨small_line (by show 3≤1000;decide),fun l2 hl2=>⟨l1,l2,_,_,rfl,rfl,same_new hl2 _ _ upd_same,upd_same,small_line (by show 7≤1000;decide),fun l3 hl3=>k l3 _ (s1.trans ((same_new hl2).trans (same_new hl3))) upd_same⟩⟩
end
end Sf
namespace Sf
open PySem L2 Pl
seal PS PSs PE PA PSsx PSx PEx
def spCheckX (K:PySem.W.Frag)(cP:Addr):Sp:=fun vs H Q E=>∃ (p:Addr) (ns:List Int),vs=[.ref p]∧SqL K H p (ns.map V.int)∧ns.length≤60 ∧
 ((ns≠[]∧ns.Perm (iota ns.length))→∀ H',Same H H'→Q .non H')∧(¬ (ns≠[]∧ns.Perm (iota ns.length))→∀ H',Same H H'→E (.ref cP) none H')
section
variable {P:Program}{w:World}{K:PySem.W.Frag}{mg:Str→Option Value}{base:Heap}
theorem ok_checkX {f cP:Addr}{fd:FuncData}{bm:List Value}(D:Def K mg "check_pile" sCheck ["pile"] f fd)(T:Own mg)(hP:mg "NoPile"=some (.ref cP))(C:ExcCls base cP bm):FnOk P w K mg base (CX1 P w) 1 f fd ["pile"] (spCheckX K cP):=by
 refine Fun.okX D.fn scCheck (fun vs H Q E h=>?_) (fun cdv A outer s H vs Q E hr h=>?_)
 ·obtain⟨p,ns,rfl,_⟩:=h
  rfl
 ·obtain⟨p,ns,rfl,hq,hl,k1,k2⟩:=h
  refine⟨_,pss_one (ps_if (pw_or (pt_cmpR op_eq (pe_callB call_len_seq (by rfl) T.len PySem.boot_len (pa_cons (pv 0) pa_nil)) pe_int (nomark _))
   (pw_or1 (pt_cmpR (op_ne_lst hr.units0) (pe_callB call_sorted (by rfl) T.sorted PyProof.Rows.boot_sorted (pa_cons (pv 0) pa_nil))
    (pe_callTy (call_list_rng rfl) (by rfl) T.list boot_list (pa_cons (pe_callTy call_range1 (by rfl) T.range boot_range' (pa_cons (pe_callB call_len_seq (by rfl) T.len PySem.boot_len (pa_cons (pv 0) pa_nil)) pa_nil)) pa_nil)) (nomark _)))).pt
   (pss_one (ps_raise (E:=E) rfl rfl (by rfl) hP C (raises1 fun _ _ _ h=>h) (pa_cons pe_str pa_nil))) pss_nil),?_⟩
  refine⟨_,rfl,p,_,rfl,.inl hq,rfl,_,rfl,?_⟩
  rw[List.length_map]
  refine ite2 (fun z=>?_) (fun z=>?_)
  ·have:=of_decide_eq_true z
   injection this with this
   refine⟨small_line (by show 1≤1000;decide),k2 (fun h=>h.1 (List.length_eq_zero_iff.mp (by omega))) _ (Same.refl _)⟩
  ·have hne:ns≠[]:=fun e=>by
    subst e
    exact z rfl
   refine⟨_,rfl,p,ns,rfl,hq,by omega,fun l ms hl1 pm so=>?_⟩
   have s1:=same_new (o:=.lst (ms.map V.int)) hl1
   refine⟨_,rfl,p,_,rfl,.inl (s1.seq hq),_,rfl,fun r hr1=>?_⟩
   have s2:=same_new (o:=.rng 0 ((ns.map V.int).length:Int)) hr1
   rw[List.length_map] at s2 ⊢
   refine⟨r,0,(ns.length:Int),rfl,upd_same,by omega,by omega,by omega,by omega,by omega,fun l2 hl2=>?_⟩
   have s3:=same_new (o:=.lst (rngV 0 ((ns.length:Int) - 0).toNat)) hl2
   refine⟨l,l2,_,_,rfl,rfl,SqL.of (s3 _ _ (s2 _ _ upd_same)),SqL.of upd_same,flat_ints _,?_,?_⟩
   ·rw[show ((ns.length:Int) - 0).toNat=ns.length by omega,rngV_iota];exact flat_ints _
   ·rw[show ((ns.length:Int) - 0).toNat=ns.length by omega,rngV_iota,eqVs_ints]
    refine⟨_,rfl,?_⟩
    have s:Same H _:=s1.trans (s2.trans s3)
    rw[show ((ns.length:Int) - 0).toNat=ns.length by omega,rngV_iota] at s
    by_cases e:ms=iota ns.length
    ·rw[decide_eq_true e]
     refine iteF (k1 ⟨hne,?_⟩ _ s)
     rw[← e]
     exact pm.symm
    ·rw[decide_eq_false e]
     refine iteT ⟨small_line (by show 1≤1000;decide),k2 (fun h=>e ?_) _ s⟩
     exact same_sorted (pm.trans h.2) so (iota_sorted _)
end
end Sf
namespace L2
theorem FnOk.or {P:PySem.Program}{w:PySem.World}{K:PySem.W.Frag}{mg:PySem.Str→Option PySem.Value}{base:PySem.Heap}{CX:CXT}{k:Nat}{f:PySem.Addr}{fd:PySem.FuncData}{ps:List PySem.Str}{sp sp':Sp}(F:FnOk P w K mg base CX k f fd ps sp)(G:FnOk P w K mg base CX k f fd ps sp') :
  FnOk P w K mg base CX k f fd ps (fun vs H Q E=>sp vs H Q E∨sp' vs H Q E) :=
 ⟨fun vs H Q E h=>h.elim (F.len vs H Q E) (G.len vs H Q E),fun A outer s H args us vs Q E hr he hb hv h=>h.elim (F.run A outer s H args us vs Q E hr he hb hv) (G.run A outer s H args us vs Q E hr he hb hv)⟩
end L2
namespace Sf
open PySem L2 Pl
seal PS PSs PE PA PSsx PSx PEx
def spNo (K:PySem.W.Frag)(cP:Addr):Sp:=fun vs H _ E=>∃ (p:Addr) (ns:List Int),vs=[.ref p]∧SqL K H p (ns.map V.int)∧ns.length≤60∧¬ (ns≠[]∧ns.Perm (iota ns.length))∧∀ H',Same H H'→E (.ref cP) none H'
def spNoBy (K:PySem.W.Frag)(cP:Addr):Sp:=fun vs H _ E=>∃ (p:Addr) (by_:V) (ns:List Int),vs=[.ref p,by_]∧SqL K H p (ns.map V.int)∧ns.length≤60∧¬ (ns≠[]∧ns.Perm (iota ns.length))∧∀ H',Same H H'→E (.ref cP) none H'
section
variable {P:Program}{w:World}{K:PySem.W.Frag}{mg:Str→Option Value}{base:Heap}
theorem scPlacesX:FnScope ["pile","found","place","stamp"] ["pile"] (defScope sPlaces):=fs
theorem no_places {f fC cP:Addr}{fd fdC:FuncData}{bm:List Value}(D:Def K mg "places" sPlaces ["pile"] f fd)(DC:Def K mg "check_pile" sCheck ["pile"] fC fdC)(T:Own mg)(hP:mg "NoPile"=some (.ref cP))(C:ExcCls base cP bm):FnOk P w K mg base (CX1 P w) 2 f fd ["pile"] (spNo K cP):=by
 have GC:FnOk P w K mg base (CX1 P w) 1 fC fdC ["pile"] (spCheckX K cP):=ok_checkX DC T hP C
 refine Fun.okX D.fn scPlacesX (fun vs H Q E h=>?_) (fun cdv A outer s H vs Q E hr h=>?_)
 ·obtain⟨p,ns,rfl,_⟩:=h
  rfl
 ·obtain⟨p,ns,rfl,hq,hl,no,k⟩:=h
  refine⟨_,pss_cons (ps_expr (pe_call (E:=E) GC hr rfl DC.at_ DC.fn.kp DC.bd .nil (pass1 fun _ _ _ h=>h) (pa_cons (pv 0) pa_nil))) pss_never,?_⟩
  exact⟨_,rfl,p,ns,rfl,hq,hl,fun h=>absurd h no,fun _ H' s=>k H' s⟩
theorem scLettersX:FnScope ["pile","at"] ["pile"] (defScope sLetters):=fs
theorem no_letters {f fP fC cP:Addr}{fd fdP fdC:FuncData}{bm:List Value}(D:Def K mg "letters" sLetters ["pile"] f fd)(DP:Def K mg "places" sPlaces ["pile"] fP fdP)(DC:Def K mg "check_pile" sCheck ["pile"] fC fdC)(T:Own mg)(hP:mg "NoPile"=some (.ref cP))(C:ExcCls base cP bm):FnOk P w K mg base (CX1 P w) 3 f fd ["pile"] (spNo K cP):=by
 have GP:FnOk P w K mg base (CX1 P w) 2 fP fdP ["pile"] (spNo K cP):=no_places DP DC T hP C
 refine Fun.okX D.fn scLettersX (fun vs H Q E h=>?_) (fun cdv A outer s H vs Q E hr h=>?_)
 ·obtain⟨p,ns,rfl,_⟩:=h
  rfl
 ·obtain⟨p,ns,rfl,hq,hl,no,k⟩:=h
  refine⟨_,pss_cons (ps_set (i:=1) scLettersX.nd rfl (Or.inr rfl) (pe_call (E:=E) GP hr rfl DP.at_ DP.fn.kp DP.bd .nil (pass1 fun _ _ _ h=>h) (pa_cons (pv 0) pa_nil))) pss_never,?_⟩
  exact⟨_,rfl,p,ns,rfl,hq,hl,no,k⟩
theorem scCrossingX:FnScope ["pile","at","creases","one","other"] ["pile"] (defScope sCrossing):=fs
theorem no_crossing {f fP fC cP:Addr}{fd fdP fdC:FuncData}{bm:List Value}(D:Def K mg "crossing" sCrossing ["pile"] f fd)(DP:Def K mg "places" sPlaces ["pile"] fP fdP)(DC:Def K mg "check_pile" sCheck ["pile"] fC fdC)(T:Own mg)(hP:mg "NoPile"=some (.ref cP))(C:ExcCls base cP bm):FnOk P w K mg base (CX1 P w) 3 f fd ["pile"] (spNo K cP):=by
 have GP:FnOk P w K mg base (CX1 P w) 2 fP fdP ["pile"] (spNo K cP):=no_places DP DC T hP C
 refine Fun.okX D.fn scCrossingX (fun vs H Q E h=>?_) (fun cdv A outer s H vs Q E hr h=>?_)
 ·obtain⟨p,ns,rfl,_⟩:=h
  rfl
 ·obtain⟨p,ns,rfl,hq,hl,no,k⟩:=h
  refine⟨_,pss_cons (ps_set (i:=1) scCrossingX.nd rfl (Or.inl rfl) (pe_call (E:=E) GP hr rfl DP.at_ DP.fn.kp DP.bd .nil (pass1 fun _ _ _ h=>h) (pa_cons (pv 0) pa_nil))) pss_never,?_⟩
  exact⟨_,rfl,p,ns,rfl,hq,hl,no,k⟩
end
end Sf
namespace Sf
open PySem L2 Pl
def spFits (K:PySem.W.Frag):Sp:=fun vs H Q _=>∃ (l:Addr) (ps:List Int) (st g:Nat),vs=[.ref l,.int (st:Int),.int (g:Int)]∧SqL K H l (ps.map V.int)∧ps.length=st∧1≤st∧st≤60∧∀ b:Bool,Q (.bl b) H
def spGood (K:PySem.W.Frag):Sp:=fun vs H Q _=>∃ (a:Addr) (ns:List Int) (st n:Nat),vs=[.ref a,.int (st:Int),.int (n:Int)]∧SqL K H a (ns.map V.int)∧st≤1000∧1≤n∧n≤60 ∧
 ∀ (l:Addr) (ms:List Int) H',Same H H'→H l=none→ms.Perm (iota n)→H' l=some (.lst (ms.map V.int))→Q (.ref l) H'
def forBody (s:Stmt):List Stmt:=match s with
 | .For _ _ b _ _=>b
 | _=>[]
section
variable {P:Program}{w:World}{K:PySem.W.Frag}{mg:Str→Option Value}{base:Heap}
theorem scLWraps:FnScope ["_law_at","_law_crease","_law_stamp","_law_low","_law_high"] ["_law_at","_law_crease","_law_stamp"] (defScope sLWraps):=fs
theorem ok_lwraps {f:Addr}{fd:FuncData}(D:Def K mg "_law_wraps" sLWraps ["_law_at","_law_crease","_law_stamp"] f fd)(M:OwnM mg):FnOk P w K mg base CX0 1 f fd ["_law_at","_law_crease","_law_stamp"] (spWraps K):=by
 refine D.fn.ok scLWraps (fun vs H Q E h=>?_) (fun cdv A outer s H vs Q E hr h=>?_)
 ·obtain⟨l,ps,c,s',rfl,_⟩:=h
  rfl
 ·obtain⟨l,ps,c,s',rfl,hq,h1,h2,k⟩:=h
  refine⟨_,pss_cons (ps_set (i:=3) scLWraps.nd rfl (Or.inl rfl) (pe_callB (call_min2 rfl) (by rfl) M.min boot_min (pa_cons (pe_ix ix_list (pv 0) (pv 1) (fun _ _=>rfl)) (pa_cons (pe_ix ix_list (pv 0) (pe_op op_add (pv 1) pe_int) (fun _ _=>rfl)) pa_nil))))
   (pss_cons (ps_set (i:=4) scLWraps.nd rfl (Or.inl rfl) (pe_callB (call_max2 rfl) (by rfl) M.max boot_max (pa_cons (pe_ix ix_list (pv 0) (pv 1) (fun _ _=>rfl)) (pa_cons (pe_ix ix_list (pv 0) (pe_op op_add (pv 1) pe_int) (fun _ _=>rfl)) pa_nil))))
   (pss_one (ps_ret (pe_and (pe_cmpR op_lt (pv 3) (pe_ix ix_list (pv 0) (pv 2) (fun _ _=>rfl)) (nomark _)) (pe_one (pe_cmpR op_lt (pe_ix ix_list (pv 0) (pv 2) (fun _ _=>rfl)) (pv 4) (nomark _))))))),?_⟩
  have e0:=at_int (ps:=ps) (c:=c) (by omega)
  have e1:=at_int (ps:=ps) (c:=c+1) h1
  have e2:=at_int (ps:=ps) (c:=s') h2
  refine⟨_,rfl,_,rfl,l,_,_,_,rfl,rfl,hq,e0,_,rfl,_,rfl,_,_,rfl,rfl,l,_,_,_,rfl,rfl,hq,e1,_,_,rfl,?_⟩
  rw[min_if]
  refine⟨_,rfl,_,rfl,l,_,_,_,rfl,rfl,hq,e0,_,rfl,_,rfl,_,_,rfl,rfl,l,_,_,_,rfl,rfl,hq,e1,_,_,rfl,?_⟩
  rw[max_if]
  unfold wr at k
  refine⟨_,rfl,_,rfl,_,rfl,l,_,_,_,rfl,rfl,hq,e2,_,_,rfl,rfl,_,rfl,?_⟩
  refine ite2 (fun z=>?_) (fun z=>?_)
  ·rw[z,Bool.true_and] at k
   exact⟨_,rfl,_,rfl,l,_,_,_,rfl,rfl,hq,e2,_,rfl,_,_,rfl,rfl,k⟩
  ·rw[Bool.eq_false_iff.mpr z,Bool.false_and] at k
   exact k
theorem scLPlaces:FnScope ["_law_pile_here","_law_at","_law_k"] ["_law_pile_here"] (defScope sLPlaces):=fs
theorem ok_lplaces {f:Addr}{fd:FuncData}(D:Def K mg "_law_places" sLPlaces ["_law_pile_here"] f fd)(T:Own mg):FnOk P w K mg base CX0 1 f fd ["_law_pile_here"] (spLPlaces K):=by
 refine D.fn.ok scLPlaces (fun vs H Q E h=>?_) (fun cdv A outer s H vs Q E hr h=>?_)
 ·obtain⟨p,ns,n,rfl,_⟩:=h
  rfl
 ·obtain⟨p,ns,n,rfl,hq,hp,h2,k⟩:=h
  have hl:=perm_len hp
  refine⟨_,pss_cons (ps_set (i:=1) scLPlaces.nd rfl (Or.inl rfl) (pe_op op_rep (pe_lst (pa_cons pe_int pa_nil)) (pe_callB call_len_seq (by rfl) T.len PySem.boot_len (pa_cons (pv 0) pa_nil))))
   (pss_cons (ps_for PassesOwn.never rfl (pi_range1 rfl T.range (pa_cons (pe_callB call_len_seq (by rfl) T.len PySem.boot_len (pa_cons (pv 0) pa_nil)) pa_nil)) (pg_name (i:=2) scLPlaces.nd rfl (Or.inl rfl))
     (pss_one (ps_asg (pv 2) (pg_sub (pv 1) (pe_ix ix_list (pv 0) (pv 2) (fun _ _=>rfl)) set_list))))
   (pss_one (ps_ret (pv 1)))),?_⟩
  refine⟨small_line (by decide),fun z hz=>⟨_,rfl,p,_,rfl,.inl ((same_new hz).seq hq),z,_,[.int 0],rfl,rfl,upd_same,?_,?_,?_,fun l hl2=>?_⟩⟩
  ·rw[List.length_map];omega
  ·rw[List.length_map];omega
  ·rw[List.length_map,hl];exact small_line (by simp;omega)
  have s2:Same H _:=(same_new hz).trans (same_new (o:=.lst ((List.replicate n (0:Int)).map V.int)) hl2)
  rw[List.length_map,hl,show ((n:Int)).toNat=n by omega,rep0]
  have hlH:H l=none:=(same_new hz).free hl2
  refine⟨_,rfl,p,_,rfl,.inl (s2.seq hq),_,rfl,?_,?_,?_⟩
  ·rw[List.length_map];omega
  ·rw[List.length_map];omega
  refine for_range (lo:=0) (n:=(((ns.map V.int).length:Nat):Int).toNat) (fun i σ H2=>∃ (fs:List Int) (v:Option V),σ=[some (.ref p),some (.ref l),v]∧Same H H2∧H2 l=some (.lst (fs.map V.int))∧Fnd ns i fs)
   ⟨_,none,rfl,s2,upd_same,by simp[hl],fun j s hj=>by omega⟩ ?_ ?_
  ·rintro i σ H2 hi ⟨fs,v,rfl,s3,hf,F⟩
   rw[List.length_map,hl] at hi
   obtain⟨x,e⟩:∃ x,ns[i]?=some x:=⟨_,List.getElem?_eq_getElem (show i<ns.length by omega)⟩
   have hx:=(perm_mem hp).mp (List.mem_of_getElem? e)
   have hfl:=F.1
   have ge:atI (ns.map V.int) (0+(i:Int))=some (.int x):=by
    rw[Int.zero_add]
    exact atI_nat (by rw[List.getElem?_map,e];rfl)
   refine⟨_,rfl,_,rfl,_,rfl,_,rfl,p,_,_,_,rfl,rfl,s3.seq hq,ge,l,_,x,x.toNat,rfl,rfl,hf,?_,?_⟩
   ·rw[List.length_map]
    unfold ixN
    rw[if_pos hx.1,if_pos (by omega)]
   ·refine⟨fs.set x.toNat (i:Int),_,rfl,fun b o eb=>?_,?_,F.step hp e⟩
    ·rw[upd_ne (ne_of_none eb hlH)]
     exact s3 b o eb
    ·rw[upd_same,List.map_set,Int.zero_add]
  ·rintro σ H2 ⟨fs,v,rfl,s3,hf,F⟩
   rw[List.length_map,hl,show ((n:Int)).toNat=n by omega] at F
   have e:=F.eq hp
   subst e
   exact⟨_,rfl,k l H2 s3 hlH hf⟩
theorem scFits:FnScope ["_law_at","_law_stamp","_law_gap","_law_crease","_law_low","_law_high"] ["_law_at","_law_stamp","_law_gap"] (defScope sFits):=fs
theorem ok_fits {f:Addr}{fd:FuncData}(D:Def K mg "_law_fits" sFits ["_law_at","_law_stamp","_law_gap"] f fd)(T:Own mg)(M:OwnM mg):FnOk P w K mg base CX0 1 f fd ["_law_at","_law_stamp","_law_gap"] (spFits K):=by
 refine D.fn.ok scFits (fun vs H Q E h=>?_) (fun cdv A outer s H vs Q E hr h=>?_)
 ·obtain⟨l,ps,st,g,rfl,_⟩:=h
  rfl
 ·obtain⟨l,ps,st,g,rfl,hq,hl,h1,h2,k⟩:=h
  refine⟨_,pss_cons (ps_for PassesOwn.never rfl (pi_range3 rfl T.range (pa_cons (pe_op op_mod (pe_op op_add (pv 1) pe_int) pe_int) (pa_cons (pe_op op_sub (pv 1) pe_int) (pa_cons pe_int pa_nil)))) (pg_name (i:=3) scFits.nd rfl (Or.inl rfl))
    (pss_cons (ps_set (i:=4) scFits.nd rfl (Or.inl rfl) (pe_callB (call_min2 rfl) (by rfl) M.min boot_min (pa_cons (pe_ix ix_list (pv 0) (pv 3) (fun _ _=>rfl)) (pa_cons (pe_ix ix_list (pv 0) (pe_op op_add (pv 3) pe_int) (fun _ _=>rfl)) pa_nil))))
    (pss_cons (ps_set (i:=5) scFits.nd rfl (Or.inl rfl) (pe_callB (call_max2 rfl) (by rfl) M.max boot_max (pa_cons (pe_ix ix_list (pv 0) (pv 3) (fun _ _=>rfl)) (pa_cons (pe_ix ix_list (pv 0) (pe_op op_add (pv 3) pe_int) (fun _ _=>rfl)) pa_nil))))
    (pss_one (ps_if (pt_cmpR op_ne
      (pe_and (pe_cmpR op_lt (pv 4) (pe_ix ix_list (pv 0) (pe_op op_sub (pv 1) pe_int) (fun _ _=>rfl)) (nomark _)) (pe_one (pe_cmpR op_lt (pe_ix ix_list (pv 0) (pe_op op_sub (pv 1) pe_int) (fun _ _=>rfl)) (pv 5) (nomark _))))
      (pe_and (pe_cmpR op_lt (pv 4) (pv 2) (nomark _)) (pe_one (pe_cmpR op_le (pv 2) (pv 5) (nomark _)))) (nomark _)) (pss_one (ps_ret pe_bl)) pss_nil)))))
   (pss_one (ps_ret pe_bl)),?_⟩
  have m0:=Int.emod_nonneg ((st:Int)+1) (show (2:Int)≠0 by decide)
  have m1:=Int.emod_lt_of_pos ((st:Int)+1) (show (0:Int)<2 by decide)
  obtain⟨m,hm⟩:∃ m:Nat,((st:Int)+1) % 2=(m:Int):=⟨(((st:Int)+1) % 2).toNat,by omega⟩
  refine⟨_,rfl,_,_,rfl,rfl,_,_,rfl,rfl,(by show (0:Int)<2;decide),_,rfl,_,_,rfl,rfl,?_⟩
  show ∃ i j:Int,[V.int (((st:Int)+1) % 2),V.int ((st:Int) - 1),V.int 2]=[.int i,.int j,.int 2]∧_
  rw[hm]
  refine⟨_,_,rfl,⟨by omega,by omega,by omega,by omega⟩,for_step (lo:=(m:Int)) (c:=2) (n:=half2 (m:Int) ((st:Int) - 1)) (fun j σ H2=>∃ (u v w':Option V),σ=[some (.ref l),some (.int (st:Int)),some (.int (g:Int)),u,v,w']∧H2=H)
   ⟨_,_,_,rfl,rfl⟩ ?_ ?_⟩
  ·rintro j σ H2 hj ⟨u,v,w',rfl,rfl⟩
   have hj':m+2 * j+1<st:=by unfold half2 at hj;omega
   have ec:((m:Int)+(j:Nat) * 2)=((m+2 * j:Nat):Int):=by omega
   rw[ec]
   have e0:=at_int (ps:=ps) (c:=m+2 * j) (by omega)
   have e1:atI (ps.map V.int) (((m+2 * j:Nat):Int)+1)=some (.int (ps.getD (m+2 * j+1) 0)):=at_int (c:=m+2 * j+1) (by omega)
   have e2:atI (ps.map V.int) ((st:Int) - 1)=some (.int (ps.getD (st - 1) 0)):=by
    have:=at_int (ps:=ps) (c:=st - 1) (by omega)
    rw[show ((st - 1:Nat):Int)=(st:Int) - 1 by omega] at this
    exact this
   refine⟨_,rfl,_,rfl,l,_,_,_,rfl,rfl,hq,e0,_,rfl,_,rfl,_,_,rfl,rfl,l,_,_,_,rfl,rfl,hq,e1,_,_,rfl,?_⟩
   rw[min_if]
   refine⟨_,rfl,_,rfl,l,_,_,_,rfl,rfl,hq,e0,_,rfl,_,rfl,_,_,rfl,rfl,l,_,_,_,rfl,rfl,hq,e1,_,_,rfl,?_⟩
   rw[max_if]
   refine⟨_,rfl,_,rfl,_,rfl,_,_,rfl,rfl,l,_,_,_,rfl,rfl,hq,e2,_,_,rfl,rfl,_,rfl,ite2 (fun _=>?_) (fun _=>?_)⟩
   ·refine⟨_,rfl,_,rfl,_,_,rfl,rfl,l,_,_,_,rfl,rfl,hq,e2,_,rfl,_,_,rfl,rfl,?_⟩
    exact⟨_,rfl,_,rfl,_,_,rfl,rfl,_,rfl,ite2 (fun _=>⟨_,rfl,_,rfl,_,_,rfl,rfl,rfl,_,rfl,ite2 (fun _=>k false) (fun _=>⟨_,_,_,rfl,rfl⟩)⟩) (fun _=>⟨rfl,_,rfl,ite2 (fun _=>k false) (fun _=>⟨_,_,_,rfl,rfl⟩)⟩)⟩
   ·exact⟨_,rfl,_,rfl,_,_,rfl,rfl,_,rfl,ite2 (fun _=>⟨_,rfl,_,rfl,_,_,rfl,rfl,rfl,_,rfl,ite2 (fun _=>k false) (fun _=>⟨_,_,_,rfl,rfl⟩)⟩) (fun _=>⟨rfl,_,rfl,ite2 (fun _=>k false) (fun _=>⟨_,_,_,rfl,rfl⟩)⟩)⟩
  ·rintro σ H2 ⟨u,v,w',rfl,rfl⟩
   exact k true
theorem scGood:FnScope ["_law_script","_law_start","_law_size_here","_law_pile_here","_law_stamp","_law_at","_law_number_here","_law_gap"] ["_law_script","_law_start","_law_size_here"] (defScope sGood):=fs
theorem ok_good {f fN fLP fF:Addr}{fd fdN fdLP fdF:FuncData}(D:Def K mg "_law_good" sGood ["_law_script","_law_start","_law_size_here"] f fd)(DN:Def K mg "_law_number" sNumber ["_law_script","_law_k"] fN fdN)
  (DLP:Def K mg "_law_places" sLPlaces ["_law_pile_here"] fLP fdLP) (DF:Def K mg "_law_fits" sFits ["_law_at","_law_stamp","_law_gap"] fF fdF) (T:Own mg) (M:OwnM mg) :
  FnOk P w K mg base CX0 2 f fd ["_law_script","_law_start","_law_size_here"] (spGood K):=by
 have GN:FnOk P w K mg base CX0 1 fN fdN ["_law_script","_law_k"] (spNumber K):=ok_number DN T
 have GL:FnOk P w K mg base CX0 1 fLP fdLP ["_law_pile_here"] (spLPlaces K):=ok_lplaces DLP T
 have GF:FnOk P w K mg base CX0 1 fF fdF ["_law_at","_law_stamp","_law_gap"] (spFits K):=ok_fits DF T M
 refine D.fn.ok scGood (fun vs H Q E h=>?_) (fun cdv A outer s H vs Q E hr h=>?_)
 ·obtain⟨a,ns,st,n,rfl,_⟩:=h
  rfl
 ·obtain⟨a,ns,st,n,rfl,hq,h1,h2,h3,k⟩:=h
  obtain⟨tc,hcat,hread⟩:∃ t,PS ((cxOf CX0 P w K mg base ["_law_script","_law_start","_law_size_here","_law_pile_here","_law_stamp","_law_at","_law_number_here","_law_gap"] "_law_good" (defScope sGood) f cdv A outer s H E).nox) ((forBody ((defBody sGood).getD 1 (.Pass ⟨0,0,0,0⟩))).getD 4 (.Pass ⟨0,0,0,0⟩)) t ∧
    ∀ (D:Ends) (l:Addr) (ms:List Int) (i g:Nat) (u5 u6:Option V) H2,H2 l=some (.lst (ms.map V.int))→ms.length=i→i≤60→g≤i →
     (∀ (l':Addr) H3,Same H2 H3→H2 l'=none→H3 l'=some (.lst ((ms.take g++[(i:Int)]++ms.drop g).map V.int))→D.nx [some (.ref a),some (.int (st:Int)),some (.int (n:Int)),some (.ref l'),some (.int (i:Int)),u5,u6,some (.int (g:Int))] H3) →
     t D [some (.ref a),some (.int (st:Int)),some (.int (n:Int)),some (.ref l),some (.int (i:Int)),u5,u6,some (.int (g:Int))] H2:=by
   refine⟨_,ps_set (i:=3) scGood.nd rfl (Or.inl rfl) (pe_op op_cat (pe_op op_cat (pe_slice sl_list (pv 3) po_none (po_some (pv 7))) (pe_lst (pa_cons (pv 4) pa_nil))) (pe_slice sl_list (pv 3) (po_some (pv 7)) po_none)),?_⟩
   intro D l ms i g u5 u6 H2 hl hm hi hg kk
   have gl:g≤(ms.map V.int).length:=by rw[List.length_map,hm];exact hg
   refine⟨_,rfl,_,rfl,_,rfl,l,_,rfl,SqL.of hl,fun p1 hp1=>?_⟩
   rw[cut_take _ gl]
   refine⟨_,rfl,small_line (by show 1≤1000;decide),fun p2 hp2=>?_⟩
   have t1:=same_new (o:=.lst ((ms.map V.int).take g)) hp1
   have t2:=same_new (o:=.lst [V.int (i:Int)]) hp2
   refine⟨p1,p2,_,_,rfl,rfl,t2 _ _ upd_same,upd_same,?_,fun p3 hp3=>?_⟩
   ·refine small_line ?_
    rw[List.length_take,List.length_map]
    simp
    omega
   have t3:=same_new (o:=.lst ((ms.map V.int).take g++[V.int (i:Int)])) hp3
   refine⟨_,rfl,_,rfl,_,rfl,l,_,rfl,SqL.of (t3 _ _ (t2 _ _ (t1 _ _ hl))),fun p4 hp4=>?_⟩
   rw[cut_drop _ gl]
   have t4:=same_new (o:=.lst ((ms.map V.int).drop g)) hp4
   refine⟨p3,p4,_,_,rfl,rfl,t4 _ _ upd_same,upd_same,?_,fun p5 hp5=>?_⟩
   ·refine small_line ?_
    rw[List.length_append,List.length_take,List.length_drop,List.length_map]
    simp
    omega
   have s5:Same H2 _:=t1.trans (t2.trans (t3.trans t4))
   refine kk p5 _ (s5.trans (same_new hp5)) (s5.free hp5) ?_
   rw[upd_same,List.map_append,List.map_append,List.map_take,List.map_drop]
   rfl
  refine⟨_,pss_cons (ps_set (i:=3) scGood.nd rfl (Or.inl rfl) (pe_lst (pa_cons pe_int pa_nil)))
   (pss_cons (ps_for PassesOwn.never rfl (pi_range2 rfl T.range (pa_cons pe_int (pa_cons (pv 2) pa_nil))) (pg_name (i:=4) scGood.nd rfl (Or.inl rfl))
    (pss_cons (ps_set (i:=5) scGood.nd rfl (Or.inl rfl) (pe_call GL hr rfl DLP.at_ DLP.fn.kp DLP.bd .nil pass0 (pa_cons (pv 3) pa_nil)))
    (pss_cons (ps_set (i:=6) scGood.nd rfl (Or.inl rfl) (pe_call GN hr rfl DN.at_ DN.fn.kp DN.bd .nil pass0 (pa_cons (pv 0) (pa_cons (pe_op op_add (pv 1) (pv 4)) pa_nil))))
    (pss_cons (ps_set (i:=7) scGood.nd rfl (Or.inl rfl) (pe_op op_mod (pv 6) (pe_op op_add (pv 4) pe_int)))
    (pss_cons (ps_if (pt_not (pt_val (pe_call GF hr (by rfl) DF.at_ DF.fn.kp DF.bd .nil pass0 (pa_cons (pv 5) (pa_cons (pv 4) (pa_cons (pv 7) pa_nil))))))
      (pss_one (ps_set (i:=7) scGood.nd rfl (Or.inl rfl) (pe_op op_add (pe_ix ix_list (pv 5) (pe_op op_sub (pv 4) pe_int) (fun _ _=>rfl)) (pe_op op_mod (pe_op op_fdiv (pv 6) pe_int) pe_int)))) pss_nil)
    (pss_one hcat))))))
   (pss_one (ps_ret (pv 3)))),?_⟩
  refine⟨small_line (by decide),fun l0 hl0=>?_⟩
  refine⟨_,rfl,_,_,rfl,⟨by omega,by omega,by omega,by omega⟩,for_range (lo:=1) (n:=((n:Int) - 1).toNat) (fun i σ H2=>∃ (l:Addr) (ms:List Int) (v4 v5 v6 v7:Option V),σ=[some (.ref a),some (.int (st:Int)),some (.int (n:Int)),some (.ref l),v4,v5,v6,v7]∧Same H H2∧H l=none∧H2 l=some (.lst (ms.map V.int))∧ms.Perm (iota (i+1)))
   ⟨l0,[0],none,none,none,none,rfl,same_new hl0,hl0,upd_same,List.Perm.refl _⟩ ?_ ?_⟩
  ·rintro i σ H2 hi ⟨l,ms,v4,v5,v6,v7,rfl,s2,hl,hl2,pm⟩
   have ml:=perm_len pm
   rw[show (1:Int)+(i:Nat)=((i+1:Nat):Int) by omega]
   refine⟨_,rfl,l,ms,i+1,rfl,SqL.of hl2,pm,by omega,fun la H3 s3 hla0 hla=>?_⟩
   have pl:=plc_length ms
   refine⟨_,rfl,_,rfl,_,rfl,_,_,rfl,rfl,a,ns,st+(i+1),?_,(s2.trans s3).seq hq,by omega,fun y H4 s4 y1 y2=>?_⟩
   ·simp
   refine⟨_,rfl,_,rfl,_,_,rfl,rfl,_,_,rfl,rfl,?_,?_⟩
   ·show (0:Int)<((i+1:Nat):Int)+1
    omega
   have g0:=Int.emod_nonneg y (show ((i+1:Nat):Int)+1≠0 by omega)
   have g1:=Int.emod_lt_of_pos y (show (0:Int)<((i+1:Nat):Int)+1 by omega)
   obtain⟨g,hg⟩:∃ g:Nat,y % (((i+1:Nat):Int)+1)=(g:Int):=⟨(y % (((i+1:Nat):Int)+1)).toNat,by omega⟩
   show gName 7 (V.int (y % (((i+1:Nat):Int)+1))) _ _ _
   rw[hg] at g0 g1 ⊢
   have hl4:=s4 _ _ (s3 _ _ hl2)
   have hla4:=s4 _ _ hla
   have ends:∀ (D:Ends) (g':Nat),g'≤i+1→(∀ σ H5,(∃ (l:Addr) (ms:List Int) (v4 v5 v6 v7:Option V),σ=[some (.ref a),some (.int (st:Int)),some (.int (n:Int)),some (.ref l),v4,v5,v6,v7]∧Same H H5∧H l=none∧H5 l=some (.lst (ms.map V.int))∧ms.Perm (iota (i+1+1)))→D.nx σ H5) →
     tc D [some (.ref a),some (.int (st:Int)),some (.int (n:Int)),some (.ref l),some (.int ((i+1:Nat):Int)),some (.ref la),some (.int y),some (.int (g':Int))] H4:=fun D g' hg' hD =>
    hread D l ms (i+1) g' _ _ H4 hl4 ml (by omega) hg' fun l' H5 s5 f5 e5=>hD _ _ ⟨l',_,_,_,_,_,rfl,s2.trans (s3.trans (s4.trans s5)),(s2.trans (s3.trans s4)).free f5,e5,perm_ins pm g'⟩
   refine⟨_,rfl,_,rfl,_,rfl,la,plc ms,i+1,g,rfl,SqL.of hla4,by rw[pl,ml],by omega,by omega,fun b=>?_⟩
   cases b with
   | true=>exact⟨true,rfl,iteF (ends _ g (by omega) fun _ _ z=>z)⟩
   | false =>
    refine⟨false,rfl,iteT ?_⟩
    obtain⟨j,j1,j2,j3⟩:=plc_get pm (s:=i) (by omega)
    have ej:atI ((plc ms).map V.int) (((i+1:Nat):Int) - 1)=some (.int (j:Int)):=by
     rw[show ((i+1:Nat):Int) - 1=((i:Nat):Int) by omega]
     exact atI_nat (by rw[List.getElem?_map,j1];rfl)
    refine⟨_,rfl,_,rfl,_,_,rfl,rfl,la,_,_,_,rfl,rfl,SqL.of hla4,ej,_,rfl,_,_,rfl,rfl,⟨by decide,by decide⟩,_,_,rfl,rfl,(by show (0:Int)<2;decide),_,_,rfl,rfl,?_⟩
    have b0:=Int.emod_nonneg (y / 64) (show (2:Int)≠0 by decide)
    have b1:=Int.emod_lt_of_pos (y / 64) (show (0:Int)<2 by decide)
    have:=fun D hD=>ends D (j+(y / 64 % 2).toNat) (by omega) hD
    rw[show ((j+(y / 64 % 2).toNat:Nat):Int)=(j:Int)+y / 64 % 2 by omega] at this
    exact this _ fun _ _ z=>z
  ·rintro σ H2 ⟨l,ms,v4,v5,v6,v7,rfl,s2,hl,hl2,pm⟩
   rw[show ((n:Int) - 1).toNat+1=n by omega] at pm
   exact⟨_,rfl,k l ms H2 s2 hl pm hl2⟩
end
end Sf
namespace Sf
open PySem L2 Pl
section
variable {P:Program}{w:World}{K:PySem.W.Frag}{mg:Str→Option Value}{base:Heap}
theorem scNone:FnScope ["_law_at","_law_one","_law_other"] ["_law_at"] (defScope sNone):=fs
theorem ok_none {f fW:Addr}{fd fdW:FuncData}(D:Def K mg "_law_none_cross" sNone ["_law_at"] f fd)
  (DW:Def K mg "_law_wraps" sLWraps ["_law_at","_law_crease","_law_stamp"] fW fdW) (T:Own mg) (M:OwnM mg):FnOk P w K mg base CX0 2 f fd ["_law_at"] (spNone K):=by
 have GW:FnOk P w K mg base CX0 1 fW fdW ["_law_at","_law_crease","_law_stamp"] (spWraps K):=ok_lwraps DW M
 refine D.fn.ok scNone (fun vs H Q E h=>?_) (fun cdv A outer s H vs Q E hr h=>?_)
 ·obtain⟨l,ps,rfl,_⟩:=h
  rfl
 ·obtain⟨l,ps,rfl,hq,h1,h2,k⟩:=h
  refine⟨_,pss_cons (ps_for PassesOwn.never rfl (pi_range1 rfl T.range (pa_cons (pe_op op_sub (pe_callB call_len_seq (by rfl) T.len PySem.boot_len (pa_cons (pv 0) pa_nil)) pe_int) pa_nil)) (pg_name (i:=1) scNone.nd rfl (Or.inl rfl))
    (pss_one (ps_for PassesOwn.never rfl (pi_range3 rfl T.range (pa_cons (pe_op op_add (pv 1) pe_int) (pa_cons (pe_op op_sub (pe_callB call_len_seq (by rfl) T.len PySem.boot_len (pa_cons (pv 0) pa_nil)) pe_int) (pa_cons pe_int pa_nil)))) (pg_name (i:=2) scNone.nd rfl (Or.inl rfl))
     (pss_one (ps_if (pt_cmpR op_ne (pe_call GW hr rfl DW.at_ DW.fn.kp DW.bd .nil pass0 (pa_cons (pv 0) (pa_cons (pv 1) (pa_cons (pv 2) pa_nil)))) (pe_call GW hr rfl DW.at_ DW.fn.kp DW.bd .nil pass0 (pa_cons (pv 0) (pa_cons (pv 1) (pa_cons (pe_op op_add (pv 2) pe_int) pa_nil)))) (nomark _)) (pss_one (ps_ret pe_bl)) pss_nil)))))
   (pss_one (ps_ret pe_bl)),?_⟩
  refine⟨_,rfl,l,_,rfl,.inl hq,_,_,rfl,rfl,_,rfl,?_,?_,?_⟩
  ·rw[List.length_map];omega
  ·rw[List.length_map];omega
  refine for_range (lo:=0) (n:=((((ps.map V.int).length:Nat):Int) - 1).toNat) (fun i σ H2=>∃ (v u:Option V),σ=[some (.ref l),v,u]∧H2=H∧∀ a b:Nat,a<i→a+2≤b→b+1<ps.length→(b - a) % 2=0→cr ps a b=false) ⟨none,none,rfl,rfl,fun a b ha=>by omega⟩ ?_ ?_
  ·rintro i σ H2 hi ⟨v,u,rfl,rfl,hno⟩
   rw[List.length_map] at hi
   rw[show (0:Int)+(i:Nat)=(i:Int) by omega]
   refine⟨_,rfl,_,_,rfl,rfl,_,rfl,l,_,rfl,.inl hq,_,_,rfl,rfl,_,_,rfl,?_,?_⟩
   ·rw[List.length_map];exact⟨by omega,by omega,by omega,by omega⟩
   rw[List.length_map]
   refine for_step (lo:=(i:Int)+2) (c:=2) (n:=half2 ((i:Int)+2) ((ps.length:Int) - 1)) (fun j σ H3=>∃ (u:Option V),σ=[some (.ref l),some (.int (i:Int)),u]∧H3=H2∧∀ t:Nat,t<j→cr ps i (i+2+2 * t)=false) ⟨_,rfl,rfl,fun t ht=>by omega⟩ ?_ ?_
   ·rintro j σ H3 hj ⟨u,rfl,rfl,hj2⟩
    have hj':i+2+2 * j+1<ps.length:=by unfold half2 at hj;omega
    rw[show ((i:Int)+2+(j:Nat) * 2)=((i+2+2 * j:Nat):Int) by omega]
    refine⟨_,rfl,_,rfl,_,rfl,l,ps,i,i+2+2 * j,rfl,hq,by omega,by omega,_,rfl,_,rfl,_,rfl,_,_,rfl,rfl,l,ps,i,i+2+2 * j+1,rfl,hq,by omega,by omega,rfl,_,rfl,?_⟩
    rw[dec_bl]
    show if cr ps i (i+2+2 * j)=true then _ else _
    refine ite2 (fun z=>?_) (fun z=>?_)
    ·refine k false ⟨fun y=>(by cases y),fun N=>?_⟩
     rw[N i (i+2+2 * j) (by omega) hj' (by omega)] at z
     cases z
    ·refine⟨_,rfl,rfl,fun t ht=>?_⟩
     by_cases e:t=j
     ·rw[e];exact Bool.eq_false_iff.mpr z
     ·exact hj2 t (by omega)
   ·rintro σ H3 ⟨u,rfl,rfl,hj2⟩
    refine⟨_,_,rfl,rfl,fun a b ha hab hb hpar=>?_⟩
    by_cases e:a=i
    ·subst e
     have:=hj2 ((b - a - 2) / 2) (by unfold half2;omega)
     rw[show a+2+2 * ((b - a - 2) / 2)=b by omega] at this
     exact this
    ·exact hno a b (by omega) hab hb hpar
  ·rintro σ H2 ⟨v,u,rfl,rfl,hno⟩
   rw[List.length_map] at hno
   exact k true ⟨fun _ a b hab hb hpar=>hno a b (by omega) hab hb hpar,fun _=>rfl⟩
end
end Sf
namespace Pl
open PySem L2
structure Rise (L:Nat→Prop)(ms:List Nat):Prop where
 mem:∀ c,c∈ms↔L c
 inc:ms.Pairwise (·<·)
end Pl
namespace Sf
open PySem L2 Pl
abbrev cz (cs:List Nat):List Int:=cs.map fun (c:Nat)=>(c:Int)
abbrev cv (cs:List Nat):List V:=(cz cs).map V.int
theorem cv_length (cs:List Nat):(cv cs).length=cs.length:=by rw[List.length_map,List.length_map]
theorem cv_append (a b:List Nat):cv a++cv b=cv (a++b):=by
 show (cz a).map V.int++(cz b).map V.int=(cz (a++b)).map V.int
 rw[← List.map_append]
 congr 1
 exact List.map_append.symm
end Sf
namespace Pl
open PySem L2
structure Pre (ps:List Int)(cs:List Nat):Prop where
 nd:cs.Nodup
 bnd:∀ c∈cs,c+1<ps.length
 free:Fre ps (fun c=>c∈cs)
theorem Pre.nil {ps:List Int}:Pre ps []:=⟨List.nodup_nil,fun c h=>by simp at h,Fre.none.congr fun c=>by simp⟩
theorem Pre.push {ps:List Int}{cs s:List Nat}(p:Pre ps cs)(sh:(∃ a,s=[a])∨∃ a b,s=[a,b]∧a<b)(hb:∀ c∈s,c+1<ps.length)(new:∀ c∈s,c∉cs)
  (F:Fre ps (fun c=>c∈cs∨c∈s)):Pre ps (cs++s):=by
 have ns:s.Nodup:=by
  rcases sh with⟨a,rfl⟩ | ⟨a,b,rfl,h⟩
  ·simp
  ·simp;omega
 refine⟨List.nodup_append.mpr ⟨p.nd,ns,fun a ha b hb z=>new b hb (z ▸ ha)⟩,fun c h=>?_,F.congr fun c=>List.mem_append.symm⟩
 rcases List.mem_append.mp h with h | h
 ·exact p.bnd c h
 ·exact hb c h
theorem filt_split (p:Nat→Bool):∀ l:List Nat,l.length=(l.filter p).length+(l.filter fun x=>!p x).length
 | []=>rfl
 | a::l=>by
  have:=filt_split p l
  cases h:p a <;> simp[List.filter_cons,h] <;> omega
theorem len_le:∀ (n:Nat) {l:List Nat},l.Nodup→(∀ c∈l,c<n)→l.length≤n
 | 0,[],_,_=>Nat.le_refl _
 | 0,a::_,_,hb=>absurd (hb a List.mem_cons_self) (Nat.not_lt_zero _)
 | n+1,l,nd,hb=>by
  have h1:(l.filter fun x=>decide (x≠n)).length≤n:=len_le n (nd.sublist List.filter_sublist) fun c hc=>by
   obtain⟨h1,h2⟩:=List.mem_filter.mp hc
   have:=hb c h1
   have:=of_decide_eq_true h2
   omega
  have h2:l.length=(l.filter fun x=>decide (x≠n)).length+(l.filter fun x=>!decide (x≠n)).length:=filt_split _ l
  have h3:(l.filter fun x=>!decide (x≠n)).length≤1:=by
   have nd3:(l.filter fun x=>!decide (x≠n)).Nodup:=nd.sublist List.filter_sublist
   have all:∀ x∈l.filter fun x=>!decide (x≠n),x=n:=fun x hx=>by
    have:=(List.mem_filter.mp hx).2
    simpa using this
   match hl:l.filter fun x=>!decide (x≠n),nd3,all with
   | [],_,_=>simp
   | [_],_,_=>simp
   | a::b::r,nd3,all =>
    have e1:=all a (by simp)
    have e2:=all b (by simp)
    simp[e1,e2] at nd3
  omega
def StepOf (ps:List Int)(f l:Nat)(s:List Nat):Prop :=
 (0<f∧l+1<ps.length∧∃ j i,s=[j,i]∧j∈likeP f f l∧i∈likeP (j+1) (j+1) l)∨(f=0∧l+1<ps.length∧∃ j,s=[j]∧j∈likeP (l+1) f l)∨(l+1=ps.length∧∃ j,s=[j]∧j∈likeP f f l)
theorem step_fre {ps:List Int}{L:Nat→Prop}{f l:Nat}{s:List Nat}(F:Fre ps L)(hL:∀ c,L c→c+1<ps.length)(P:Part ps.length L f l)(h:StepOf ps f l s) :
  Fre ps (fun c=>L c∨c∈s)∧((∃ a,s=[a])∨∃ a b,s=[a,b]∧a<b)∧∀ c∈s,f≤c∧c<l:=by
 have fA:¬ f=0→∃ c,L c∧f=c+1:=fun h=>P.fst.resolve_left h
 have lA:l+1<ps.length→L l:=fun h=>P.lst.resolve_left (by omega)
 rcases h with⟨h1,h2,j,i,rfl,hj,hi⟩ | ⟨h1,h2,j,rfl,hj⟩ | ⟨h1,j,rfl,hj⟩
 ·rw[mem_likeP] at hj hi
  obtain⟨a,ha,rfl⟩:=fA (by omega)
  refine⟨(Fre.mid F ha (lA h2) (fun e h1 h2=>P.no e (by omega) h2) (j:=j) (i:=i) (by omega) (by omega) (by omega) (by omega) (by omega) (by omega)).congr fun c=>by simp,.inr ⟨j,i,rfl,by omega⟩,fun c hc=>?_⟩
  simp at hc
  omega
 ·rw[mem_likeP] at hj
  subst h1
  refine⟨(Fre.first F (lA h2) (fun e he=>P.no e (by omega) he) (j:=j) (by omega) (by omega)).congr fun c=>by simp,.inl ⟨j,rfl⟩,fun c hc=>?_⟩
  simp at hc
  omega
 ·rw[mem_likeP] at hj
  refine⟨?_,.inl ⟨j,rfl⟩,fun c hc=>by simp at hc;omega⟩
  by_cases hf:f=0
  ·subst hf
   have no:∀ c,¬ L c:=fun c hc=>P.no c (by omega) (by have:=hL c hc;omega) hc
   refine⟨fun x y hx hy hxy _=>?_⟩
   have ex:x=j:=by simpa [no x] using hx
   have ey:y=j:=by simpa [no y] using hy
   omega
  ·obtain⟨a,ha,rfl⟩:=fA hf
   exact (Fre.last F ha (fun e e1 e2=>P.no e (by omega) (by omega)) hL (j:=j) (by omega) (by omega)).congr fun c=>by simp
theorem part_of {n:Nat}{L:Nat→Prop}{ms:List Nat}(r:Rise L ms)(hL:∀ c,L c→c+1<n)(hn:1≤n){j:Nat}(hj:j≤ms.length):Part n L (fstP ms j) (lstP n ms j):=by
 have gb:∀ i,i<ms.length→ms.getD i 0+1<n:=fun i hi=>hL _ ((r.mem _).mp (get_mem hi))
 refine⟨?_,?_,?_,?_,fun e e1 e2 hLe=>?_⟩
 ·unfold fstP lstP
  split <;> split
  ·omega
  ·omega
  ·have:=inc_get r.inc (i:=j - 1) (j:=j) (by omega) (by assumption);omega
  ·have:=gb (j - 1) (by omega);omega
 ·unfold lstP
  split
  ·have:=gb j (by assumption);omega
  ·omega
 ·unfold fstP
  split
  ·exact .inl rfl
  ·exact .inr ⟨_,(r.mem _).mp (get_mem (by omega)),rfl⟩
 ·unfold lstP
  split
  ·exact .inr ((r.mem _).mp (get_mem (by assumption)))
  ·exact .inl (by omega)
 ·have he:=(r.mem e).mpr hLe
  unfold fstP at e1
  unfold lstP at e2
  by_cases h1:j<ms.length
  ·rw[if_pos h1] at e2
   have:=inc_below r.inc h1 he e2
   rw[if_neg (by omega)] at e1
   omega
  ·have h0:j≠0:=by
    rintro rfl
    cases ms with
    | nil=>simp at he
    | cons a l=>simp at h1
   rw[if_neg h0] at e1
   have:=inc_above r.inc (j:=j - 1) (by omega) he (by omega)
   omega
theorem part_order {n:Nat}{L:Nat→Prop}{ms:List Nat}(r:Rise L ms){i j:Nat}(hij:i<j)(hj:j≤ms.length):lstP n ms i<fstP ms j:=by
 unfold fstP lstP
 rw[if_pos (by omega),if_neg (by omega)]
 by_cases h:i=j - 1
 ·rw[h];omega
 ·have:=inc_get r.inc (i:=i) (j:=j - 1) (by omega) (by omega);omega
end Pl
namespace Sf
open PySem L2 Pl
theorem boot_setZ:bootBuiltins "set"=some (.type "set"):=by decide +kernel
theorem boot_anyZ:bootBuiltins "any"=some (.builtin "any"):=by decide +kernel
theorem boot_allZ:bootBuiltins "all"=some (.builtin "all"):=by decide +kernel
structure OwnZ (mg:Str→Option Value):Prop where
 set:mg "set"=none
 any:mg "any"=none
 all:mg "all"=none
 zip:mg "zip"=none
structure Prs (H:Hp)(l:Addr)(ts:List Addr)(es:List (Nat×Nat)):Prop where
 lst:H l=some (.lst (ts.map V.ref))
 len:ts.length=es.length
 at_:∀ (i:Nat) (t:Addr) (e:Nat×Nat),ts[i]?=some t→es[i]?=some e→H t=some (.tup [.int (e.1:Int),.int (e.2:Int)])
theorem Prs.same {H H':Hp}{l:Addr}{ts:List Addr}{es:List (Nat×Nat)}(x:Prs H l ts es)(s:Same H H'):Prs H' l ts es:=⟨s _ _ x.lst,x.len,fun i t e h1 h2=>s _ _ (x.at_ i t e h1 h2)⟩
def spFoldP (K:PySem.W.Frag):Sp:=fun vs H Q _=>∃ (p:Addr) (ns:List Int) (n:Nat),vs=[.ref p]∧SqL K H p (ns.map V.int)∧ns.Perm (iota n)∧1≤n∧n≤60∧NoX (plc ns)∧∀ l H',Same H H'→H l=none→H' l=some (.lst ((plc ns).map V.int))→Q (.ref l) H'
def spCheckCr (K:PySem.W.Frag):Sp:=fun vs H Q _=>∃ (q:Addr) (n:Nat) (cs:List Nat),vs=[.int (n:Int),.ref q]∧SqL K H q (cv cs)∧cs.Nodup∧(∀ c∈cs,c+1<n)∧cs.length≤60∧∀ H',Same H H'→Q .non H'
def spEnds:Sp:=fun vs H Q _=>∃ (o:Addr) (n:Nat) (ms:List Nat),vs=[.int (n:Int),.ref o]∧H o=some (.lst (cv ms))∧1≤n∧ms.length≤60 ∧
 ∀ l ts H',Same H H'→H l=none→(∀ t∈ts,H t=none)→Prs H' l ts (endsP n ms)→Q (.ref l) H'
def spLike:Sp:=fun vs H Q _=>∃ side f l:Nat,vs=[.int (side:Int),.int (f:Int),.int (l:Int)]∧l≤1000∧f≤1000∧∀ a H',Same H H'→H a=none→H' a=some (.lst (cv (likeP side f l)))→Q (.ref a) H'
def spWW (K:PySem.W.Frag):Sp:=fun vs H Q _=>∃ (la t:Addr) (ps:List Int) (s side f l:Nat),vs=[.ref la,.int (s:Int),.int (side:Int),.ref t]∧SqL K H la (ps.map V.int)∧SqT K H t [.int (f:Int),.int (l:Int)]∧f≤l∧l<ps.length∧s<ps.length∧ps.length≤60 ∧
 ∀ (b:Bool) H',Same H H'→Q (.bl b) H'
def spInner:Sp:=fun vs H Q _=>∃ (l:Addr) (ts:List Addr) (es:List (Nat×Nat)),vs=[.ref l]∧Prs H l ts es∧1≤es.length∧es.length≤101∧∀ (b:Bool) H',Same H H'→Q (.bl b) H'
def spLies (K:PySem.W.Frag):Sp:=fun vs H Q _=>∃ (la o:Addr) (ps:List Int) (ms:List Nat),vs=[.ref la,.ref o]∧SqL K H la (ps.map V.int)∧H o=some (.lst (cv ms))∧1≤ps.length∧ps.length≤60∧ms.Pairwise (·<·)∧(∀ c∈ms,c+1<ps.length)∧ms.length≤60 ∧
 ∀ (b:Bool) H',Same H H'→Q (.bl b) H'
theorem cv_get {ms:List Nat}{j:Nat}(h:j<ms.length):(cv ms)[j]?=some (.int ((ms.getD j 0:Nat):Int)):=by
 rw[List.getElem?_map,List.getElem?_map,List.getElem?_eq_getElem h]
 simp[List.getD,h]
theorem cv_len (ms:List Nat):(cv ms).length=ms.length:=by rw[List.length_map,List.length_map]
section
variable {P:Program}{w:World}{K:PySem.W.Frag}{mg:Str→Option Value}{base:Heap}
seal PS PSs PE PA
theorem scFoldP:FnScope ["pile","pair"] ["pile"] (defScope s_foldable_places):=fs
theorem ok_foldp {f fX fP fC fCr fW:Addr}{fd fdX fdP fdC fdCr fdW:FuncData}(D:Def K mg "foldable_places" s_foldable_places ["pile"] f fd)(DX:Def K mg "crossing" sCrossing ["pile"] fX fdX)(DP:Def K mg "places" sPlaces ["pile"] fP fdP)(DC:Def K mg "check_pile" sCheck ["pile"] fC fdC)
  (DCr:Def K mg "cross" sCross ["at","one","other"] fCr fdCr) (DW:Def K mg "wraps" sWraps ["at","crease","stamp"] fW fdW) (T:Own mg) (M:OwnM mg):FnOk P w K mg base CX0 4 f fd ["pile"] (spFoldP K):=by
 have GX:FnOk P w K mg base CX0 3 fX fdX ["pile"] (spCrossing K):=ok_crossing DX DP DC DCr DW T M
 have GP:FnOk P w K mg base CX0 2 fP fdP ["pile"] (spPlaces K):=ok_places DP DC T
 refine D.fn.ok scFoldP (fun vs H Q E h=>?_) (fun cdv A outer s H vs Q E hr h=>?_)
 ·obtain⟨p,ns,n,rfl,_⟩:=h
  rfl
 ·obtain⟨p,ns,n,rfl,hq,hp,h1,h2,nx,k⟩:=h
  have hr2:=hr.mono (show 2≤3 by decide)
  have pl:(plc ns).length=n:=by rw[plc_length,perm_len hp]
  refine⟨_,pss_cons (ps_set (i:=1) scFoldP.nd rfl (Or.inl rfl) (pe_call GX hr rfl DX.at_ DX.fn.kp DX.bd .nil pass0 (pa_cons (pv 0) pa_nil)))
   (pss_cons (ps_if (pt_cmpR op_notN (pv 1) pe_non (nomark _)) pss_never pss_nil)
   (pss_one (ps_ret (pe_call GP hr2 rfl DP.at_ DP.fn.kp DP.bd .nil pass0 (pa_cons (pv 0) pa_nil))))),?_⟩
  refine⟨_,rfl,p,ns,n,rfl,hq,hp,h1,h2,fun H1 s1 _=>?_,fun t a b H1 s1 ht _ c1 c2 c3 c4=>?_⟩
  ·refine⟨_,rfl,rfl,_,rfl,iteF ?_⟩
   exact⟨_,rfl,p,ns,n,rfl,s1.seq hq,hp,h1,h2,fun l H2 s2 hl hl2=>k l H2 (s1.trans s2) (s1.free hl) hl2⟩
  ·have:=nx a b c1 (by omega) c3
   rw[c4] at this
   cases this
theorem scCheckCr:FnScope ["stamps","creases","crease"] ["stamps","creases"] (defScope s_check_creases):=fs
theorem ok_checkcr {f:Addr}{fd:FuncData}(D:Def K mg "check_creases" s_check_creases ["stamps","creases"] f fd)(T:Own mg)(Z:OwnZ mg):FnOk P w K mg base CX0 1 f fd ["stamps","creases"] (spCheckCr K):=by
 refine D.fn.ok scCheckCr (fun vs H Q E h=>?_) (fun cdv A outer s H vs Q E hr h=>?_)
 ·obtain⟨q,n,cs,rfl,_⟩:=h
  rfl
 ·obtain⟨q,n,cs,rfl,hq,nd,hb,hl,k⟩:=h
  have cl:=cv_len cs
  obtain⟨t2,h2,r2⟩:∃ t,PSs ((cxOf CX0 P w K mg base ["stamps","creases","crease"] "check_creases" (defScope s_check_creases) f cdv A outer s H E).nox) ((defBody s_check_creases).drop 1) t ∧
    ∀ (D:Ends) (v:Option V),(∀ H',Same H H'→D.nx [some (.int (n:Int)),some (.ref q),v] H')→t D [some (.int (n:Int)),some (.ref q),v] H:=by
   refine⟨_,pss_one (ps_if (pt_cmpR op_ne (pe_callB call_lenSet (by rfl) T.len PySem.boot_len (pa_cons (pe_callTy (call_set rfl) (by rfl) Z.set boot_setZ (pa_cons (pv 1) pa_nil)) pa_nil)) (pe_callB call_len_seq (by rfl) T.len PySem.boot_len (pa_cons (pv 1) pa_nil)) (nomark _)) pss_never pss_nil),?_⟩
   intro D v kD
   refine⟨_,rfl,q,cz cs,rfl,hq,by rw[List.length_map];omega,fun l S m hl0 _ hm=>?_⟩
   have s1:=same_new (o:=.set S m) hl0
   refine⟨l,S,m,rfl,upd_same,_,rfl,q,_,rfl,.inl (s1.seq hq),rfl,_,rfl,?_⟩
   refine iteNS ?_ (kD _ s1)
   show V.int _=V.int _
   have nz:(cz cs).Nodup:=by
    unfold List.Nodup
    rw[List.pairwise_map]
    exact nd.imp fun h z=>h (by omega)
   rw[hm.mpr nz,cl,List.length_map]
  refine⟨_,pss_cons (ps_for PassesOwn.never rfl (pi_list (pv 1)) (pg_name (i:=2) scCheckCr.nd rfl (Or.inl rfl))
    (pss_one (ps_if (pw_or (pt_cmpR op_lt (pv 2) pe_int (nomark _)) (pw_or1 (pt_cmpR op_gt (pv 2) (pe_op op_sub (pv 0) pe_int) (nomark _)))).pt pss_never pss_nil))) h2,?_⟩
  have val:∀ (i:Nat) (x:V),(cv cs)[i]?=some x→∃ c:Nat,x=.int (c:Int)∧c+1<n:=fun i x e=>by
   have hm:=List.mem_of_getElem? e
   obtain⟨z,hz,rfl⟩:=List.mem_map.mp hm
   obtain⟨c,hc,rfl⟩:=List.mem_map.mp hz
   exact⟨c,rfl,hb c hc⟩
  refine⟨_,rfl,q,rfl,⟨_,hq⟩,for_list (K:=K) (a:=q) (xs:=cv cs) (fun i σ H2=>∃ v:Option V,σ=[some (.int (n:Int)),some (.ref q),v]∧H2=H) ⟨none,rfl,rfl⟩ (fun i σ H2 _ ⟨_,_,e⟩=>by rw[e];exact hq) ?_ ?_⟩
  ·rintro i x σ H2 hi ⟨v,rfl,rfl⟩
   obtain⟨c,rfl,hc⟩:=val i x hi
   refine⟨_,rfl,_,_,rfl,rfl,_,rfl,ite2 (fun z=>?_) (fun _=>⟨_,rfl,_,rfl,_,_,rfl,rfl,_,_,rfl,rfl,_,rfl,ite2 (fun z=>?_) (fun _=>⟨_,rfl,rfl⟩)⟩)⟩
   ·have:=of_decide_eq_true z
    omega
   ·have:=of_decide_eq_true z
    omega
  ·rintro σ H2 ⟨v,rfl,rfl⟩
   exact r2 _ v fun H' s'=>k H' s'
theorem scEnds:FnScope ["stamps","opened","firsts","lasts"] ["stamps","opened"] (defScope s_ends_of_parts):=fs
theorem ok_ends {f:Addr}{fd:FuncData}(D:Def K mg "ends_of_parts" s_ends_of_parts ["stamps","opened"] f fd)(T:Own mg)(Z:OwnZ mg):FnOk P w K mg base CX0 1 f fd ["stamps","opened"] spEnds:=by
 refine D.fn.ok scEnds (fun vs H Q E h=>?_) (fun cdv A outer s H vs Q E hr h=>?_)
 ·obtain⟨o,n,ms,rfl,_⟩:=h
  rfl
 ·obtain⟨o,n,ms,rfl,ho,h1,hl,k⟩:=h
  have cl:=cv_len ms
  refine⟨_,pss_cons (ps_set (i:=2) scEnds.nd rfl (Or.inl rfl) (pe_op op_cat (pe_lst (pa_cons pe_int pa_nil)) (pe_lcomp (cap:=[]) (caps:=[]) rfl (pi_list (pv 1))
     rfl (by decide +kernel) (by decide +kernel) rfl (by show ∀ y:Str×NameKind,y∈_→y.2=NameKind.free→(defScope s_ends_of_parts).names.lookup y.1=some .cell∨(defScope s_ends_of_parts).names.lookup y.1=some .free;decide +kernel) rfl (fun y hy=>by cases hy) (by decide +kernel)
     (fun cl s₃ H₃ fp=>⟨pifs_nil,pe_op op_add (pv 0) pe_int⟩))))
   (pss_cons (ps_set (i:=3) scEnds.nd rfl (Or.inl rfl) (pe_op op_cat (pv 1) (pe_lst (pa_cons (pe_op op_sub (pv 0) pe_int) pa_nil))))
   (pss_one (ps_ret (pe_listzip rfl (by rfl) T.list boot_list (by rfl) Z.zip (pa_cons (pv 2) (pa_cons (pv 3) pa_nil)))))),?_⟩
  refine⟨small_line (by decide),fun l0 hl0=>?_⟩
  have t0:=same_new (o:=.lst [V.int 0]) hl0
  refine⟨_,rfl,o,rfl,⟨_,SqL.of (t0 _ _ ho)⟩,fun l1 hl1=>?_⟩
  refine lc_list_if (p:=fun _=>true) (f:=fun v=>match v with | .int c=>.int (c+1) | _=>.non) (by rw[cl];omega) hl1 (SqL.of (t0 _ _ ho)) (fun x H2 R _ _ kR=>kR H2 (Same.refl _)) (fun x H2 R hx _ s2 kR=>?_) fun H2 s2 h2=>?_
  ·obtain⟨z,hz,rfl⟩:=List.mem_map.mp hx
   exact⟨_,rfl,_,_,rfl,rfl,kR H2 (Same.refl _)⟩
  rw[List.filter_eq_self.mpr (fun _ _=>rfl),List.map_map,List.map_map] at h2
  have e1:ms.map (((fun v=>match v with | .int c=>V.int (c+1) | _=>.non) ∘ V.int) ∘ fun (c:Nat)=>(c:Int))=ms.map fun (c:Nat)=>V.int ((c:Int)+1):=List.map_congr_left fun c _=>rfl
  rw[e1] at h2
  have sm:ms.length+1≤sizeLine:=small_line (by omega)
  refine⟨l0,l1,_,_,rfl,rfl,s2 _ _ (upd_same),h2,?_,fun l2 hl2=>?_⟩
  ·rw[List.length_map]
   show 1+ms.length≤_
   omega
  have t2:=same_new (o:=.lst ([V.int 0]++ms.map fun (c:Nat)=>V.int ((c:Int)+1))) hl2
  have s02:Same H _:=t0.trans (s2.trans t2)
  refine⟨_,rfl,_,rfl,_,_,rfl,rfl,small_line (by show 1≤1000;decide),fun l3 hl3=>?_⟩
  have t3:=same_new (o:=.lst [V.int ((n:Int) - 1)]) hl3
  refine⟨o,l3,_,_,rfl,rfl,t3 _ _ (s02 _ _ ho),upd_same,?_,fun l4 hl4=>?_⟩
  ·rw[cl]
   exact sm
  have t4:=same_new (o:=.lst (cv ms++[V.int ((n:Int) - 1)])) hl4
  have s24:=t3.trans t4
  refine⟨_,rfl,_,rfl,l2,l4,[V.int 0]++ms.map (fun (c:Nat)=>V.int ((c:Int)+1)),cv ms++[V.int ((n:Int) - 1)],rfl,SqL.of (s24 _ _ upd_same),SqL.of upd_same,?_,?_,fun l ts H5 s5 hl5 h5 tl ht=>?_⟩
  ·rw[List.length_append,List.length_map]
   show 0<1+ms.length
   omega
  ·rw[List.length_append,List.length_append,List.length_map,cl]
   show 1+ms.length≤ms.length+1
   omega
  have s04:=s02.trans s24
  have tl2:ts.length=ms.length+1:=by
   rw[tl,List.length_append,List.length_map]
   show 1+ms.length=_
   omega
  refine k l ts H5 (s04.trans s5) (s04.free hl5) (fun t htm=>?_) ⟨h5,by rw[endsP_length];exact tl2,fun i t e hi he=>?_⟩
  ·obtain⟨i,hi⟩:=List.getElem?_of_mem htm
   exact s04.free (ht i t hi).1
  ·obtain⟨_,x,y,ex,ey,e5⟩:=ht i t hi
   have hil:i≤ms.length:=by have:=(List.getElem?_eq_some_iff.mp hi).1;omega
   rw[endsP_get hil] at he
   obtain rfl:=Option.some.inj he
   rw[e5]
   congr 3
   ·cases i with
    | zero =>
     have:V.int 0=x:=by simpa using ex
     rw[← this]
     rfl
    | succ i =>
     have ex2:(ms.map fun (c:Nat)=>V.int ((c:Int)+1))[i]?=some x:=ex
     rw[List.getElem?_map,List.getElem?_eq_getElem (show i<ms.length by omega)] at ex2
     have:V.int ((ms[i]:Int)+1)=x:=by simpa using ex2
     rw[← this]
     unfold fstP
     rw[if_neg (by omega)]
     simp[List.getD,show i<ms.length by omega]
   ·congr 1
    by_cases hlt:i<ms.length
    ·rw[List.getElem?_append_left (by rw[cl];exact hlt),cv_get hlt] at ey
     rw[← Option.some.inj ey]
     unfold lstP
     rw[if_pos hlt]
    ·have ei:i=ms.length:=by omega
     subst ei
     rw[List.getElem?_append_right (by rw[cl];exact Nat.le_refl _),cl,Nat.sub_self] at ey
     have:V.int ((n:Int) - 1)=y:=by simpa using ey
     rw[← this]
     unfold lstP
     rw[if_neg hlt]
     congr 1
     omega
theorem scLike:FnScope ["side","first","last"] ["side","first","last"] (defScope s_creases_like):=fs
theorem ok_like {f:Addr}{fd:FuncData}(D:Def K mg "creases_like" s_creases_like ["side","first","last"] f fd)(T:Own mg):FnOk P w K mg base CX0 1 f fd ["side","first","last"] spLike:=by
 refine D.fn.ok scLike (fun vs H Q E h=>?_) (fun cdv A outer s H vs Q E hr h=>?_)
 ·obtain⟨side,f,l,rfl,_⟩:=h
  rfl
 ·obtain⟨side,fr,la,rfl,hl,hf,k⟩:=h
  refine⟨_,pss_one (ps_ret (pe_lcomp (cap:=[0]) (caps:=["side"]) rfl (pi_range2 rfl T.range (pa_cons (pv 1) (pa_cons (pv 2) pa_nil)))
     rfl (by decide +kernel) (by decide +kernel) rfl (by show ∀ y:Str×NameKind,y∈_→y.2=NameKind.free→(defScope s_creases_like).names.lookup y.1=some .cell∨(defScope s_creases_like).names.lookup y.1=some .free;decide +kernel) rfl (fun y hy=>by rw[List.mem_singleton.mp hy];exact⟨.inl rfl,.inl rfl⟩) (by decide +kernel)
     (fun cl s₃ H₃ fp=>⟨pifs_one (pt_cmpR op_eq (pe_op op_mod (pv 0) pe_int) (pe_op op_mod (pv 1) pe_int) (nomark _)),pv 0⟩))),?_⟩
  refine⟨_,rfl,_,rfl,(fr:Int),(la:Int),rfl,⟨by omega,by omega,by omega,by omega⟩,fun l1 hl1=>?_⟩
  have en:((la:Int) - (fr:Int)).toNat=la - fr:=by omega
  rw[en]
  refine lc_range_if (p:=fun i=>decide ((fr+i) % 2=side % 2)) (f:=fun i=>V.int ((fr+i:Nat):Int)) (by omega) hl1 (fun i H2 R hi s2 kR=>?_) (fun i H2 R hi _ s2 kR=>?_) fun H2 s2 h2=>?_
  ·refine⟨_,rfl,_,_,rfl,rfl,(by show (0:Int)<2;decide),_,rfl,_,_,rfl,rfl,(by show (0:Int)<2;decide),rfl,_,rfl,?_⟩
   have e:decide (V.int (((fr:Int)+(i:Nat)) % 2)=V.int ((side:Int) % 2))=decide ((fr+i) % 2=side % 2):=by
    by_cases h:(fr+i) % 2=side % 2
    ·rw[decide_eq_true h,decide_eq_true]
     congr 1
     omega
    ·rw[decide_eq_false h,decide_eq_false]
     intro z
     injection z with z
     omega
   rw[e]
   exact kR H2 (Same.refl _)
  ·refine⟨_,rfl,?_⟩
   have:=kR H2 (Same.refl _)
   rw[show ((fr+i:Nat):Int)=(fr:Int)+(i:Nat) by omega] at this
   exact this
  ·refine k l1 H2 s2 hl1 (h2.trans ?_)
   congr 2
   unfold likeP
   show _=List.map V.int (List.map (fun (c:Nat)=>(c:Int)) (List.map _ _))
   rw[List.map_map,List.map_map]
   rfl
theorem scWW:FnScope ["at","stamp","side","ends"] ["at","stamp","side","ends"] (defScope s_wrapped_within):=fs
theorem ok_ww {f fL fW:Addr}{fd fdL fdW:FuncData}(D:Def K mg "wrapped_within" s_wrapped_within ["at","stamp","side","ends"] f fd)(DL:Def K mg "creases_like" s_creases_like ["side","first","last"] fL fdL)(DW:Def K mg "wraps" sWraps ["at","crease","stamp"] fW fdW)(T:Own mg)(M:OwnM mg)(Z:OwnZ mg) :
  FnOk P w K mg base CX0 2 f fd ["at","stamp","side","ends"] (spWW K):=by
 have GL:FnOk P w K mg base CX0 1 fL fdL ["side","first","last"] spLike:=ok_like DL T
 have GW:FnOk P w K mg base CX0 1 fW fdW ["at","crease","stamp"] (spWraps K):=ok_wraps DW M
 refine D.fn.ok scWW (fun vs H Q E h=>?_) (fun cdv A outer s H vs Q E hr h=>?_)
 ·obtain⟨la,t,ps,s,side,f,l,rfl,_⟩:=h
  rfl
 ·obtain⟨la,t,ps,st,side,fr,lt,rfl,ha,ht,h1,h2,h3,h4,k⟩:=h
  refine⟨_,pss_one (ps_ret (pe_callB (call_anyL rfl) (by rfl) Z.any boot_anyZ (pa_cons (pe_lcomp (cap:=[0,1]) (caps:=["at","stamp"]) rfl
     (pi_list (pe_call GL hr rfl DL.at_ DL.fn.kp DL.bd .nil pass0 (pa_cons (pv 2) (pa_cons (pe_ix ix_tup (pv 3) pe_int (fun _ _=>rfl)) (pa_cons (pe_ix ix_tup (pv 3) pe_int (fun _ _=>rfl)) pa_nil)))))
     rfl (by decide +kernel) (by decide +kernel) rfl (by show ∀ y:Str×NameKind,y∈_→y.2=NameKind.free→(defScope s_wrapped_within).names.lookup y.1=some .cell∨(defScope s_wrapped_within).names.lookup y.1=some .free;decide +kernel) rfl
     (fun y hy=>by rcases List.mem_cons.mp hy with rfl | hy;exact⟨.inl rfl,.inl rfl⟩;rw[List.mem_singleton.mp hy];exact⟨.inl rfl,.inl rfl⟩) (by decide +kernel)
     (fun cl s₃ H₃ fp=>⟨pifs_nil,pe_call GW hr rfl DW.at_ DW.fn.kp DW.bd .nil pass0 (pa_cons (pv 1) (pa_cons (pv 0) (pa_cons (pv 2) pa_nil)))⟩)) pa_nil))),?_⟩
  refine⟨_,rfl,_,rfl,t,_,0,_,rfl,rfl,ht,rfl,_,rfl,t,_,1,_,rfl,rfl,ht,rfl,side,fr,lt,rfl,by omega,by omega,fun a H1 s1 ha0 ha1=>?_⟩
  refine⟨a,rfl,⟨_,SqL.of ha1⟩,fun l1 hl1=>?_⟩
  have cl:=cv_len (likeP side fr lt)
  have ll:=likeP_length side fr lt
  refine lc_list_if (p:=fun _=>true) (f:=fun v=>match v with | .int c=>.bl (wr ps c.toNat st) | _=>.non) (by rw[cl];omega) hl1 (SqL.of ha1) (fun x H2 R _ _ kR=>kR H2 (Same.refl _)) (fun x H2 R hx _ s2 kR=>?_) fun H2 s2 h2'=>?_
  ·obtain⟨z,hz,rfl⟩:=List.mem_map.mp hx
   obtain⟨c,hc,rfl⟩:=List.mem_map.mp hz
   obtain⟨c1,c2,c3⟩:=mem_likeP.mp hc
   refine⟨_,rfl,_,rfl,_,rfl,la,ps,c,st,rfl,(s1.trans s2).seq ha,by omega,h3,?_⟩
   have kk:=kR H2 (Same.refl _)
   change R (V.bl (wr ps (Int.toNat (c:Int)) st)) H2 at kk
   rw[Int.toNat_natCast] at kk
   exact kk
  ·rw[List.filter_eq_self.mpr (fun _ _=>rfl),List.map_map,List.map_map] at h2'
   refine⟨l1,(likeP side fr lt).map fun c=>wr ps c st,rfl,SqL.of (h2'.trans ?_),?_⟩
   ·congr 2
    rw[List.map_map]
    exact List.map_congr_left fun c _=>rfl
   ·exact k _ H2 (s1.trans s2)
theorem scInner:FnScope ["parts"] ["parts"] (defScope s_inner_parts_odd):=fs
theorem cut_inner (xs:List V)(h:1≤xs.length):cutV xs (some 1) (some (-1))=(xs.drop 1).take (xs.length - 2):=by
 unfold cutV
 have e1:HT.sIx xs.length 0 (some 1)=1:=by rw[show (some 1:Option Int)=some ((1:Nat):Int) from rfl,HT.sIx_nat];omega
 have e2:HT.sIx xs.length xs.length (some (-1))=xs.length - 1:=by
  unfold HT.sIx
  simp
  omega
 rw[e1,e2]
 congr 1
theorem cut_one (xs:List V)(h:1≤xs.length):cutV xs (some 1) none=xs.drop 1:=by
 unfold cutV
 have e1:HT.sIx xs.length 0 (some 1)=1:=by rw[show (some 1:Option Int)=some ((1:Nat):Int) from rfl,HT.sIx_nat];omega
 rw[e1,HT.sIx_none]
 exact List.take_of_length_le (by rw[List.length_drop];exact Nat.le_refl _)
theorem ok_inner {f:Addr}{fd:FuncData}(D:Def K mg "inner_parts_odd" s_inner_parts_odd ["parts"] f fd)(T:Own mg)(Z:OwnZ mg):FnOk P w K mg base CX0 1 f fd ["parts"] spInner:=by
 refine D.fn.ok scInner (fun vs H Q E h=>?_) (fun cdv A outer s H vs Q E hr h=>?_)
 ·obtain⟨l,ts,es,rfl,_⟩:=h
  rfl
 ·obtain⟨l,ts,es,rfl,hp,h1,h2,k⟩:=h
  refine⟨_,pss_one (ps_ret (pe_callB (call_allL rfl) (by rfl) Z.all boot_allZ (pa_cons (pe_lcomp2 (cap:=[]) (caps:=[]) rfl (pi_list (pe_slice sl_list (pv 0) (po_some pe_int) (po_some (pe_un un_neg pe_int))))
     rfl (by decide +kernel) (by decide +kernel) rfl rfl (by show ∀ y:Str×NameKind,y∈_→y.2=NameKind.free→(defScope s_inner_parts_odd).names.lookup y.1=some .cell∨(defScope s_inner_parts_odd).names.lookup y.1=some .free;decide +kernel) rfl (fun y hy=>by cases hy) (by decide +kernel)
     (fun cl s₃ H₃ fp=>⟨pifs_nil,pe_cmpR op_eq (pe_op op_mod (pe_op op_sub (pv 1) (pv 0)) pe_int) pe_int (nomark _)⟩)) pa_nil))),?_⟩
  refine⟨_,rfl,_,rfl,_,rfl,_,rfl,l,_,rfl,SqL.of hp.lst,fun p1 hp1=>?_⟩
  have tl:=hp.len
  have ec:cutV (ts.map V.ref) (some 1) (some (-1))=((ts.drop 1).take (ts.length - 2)).map V.ref:=by
   rw[cut_inner _ (by rw[List.length_map];omega),List.length_map,List.map_take,List.map_drop]
  rw[ec]
  have t1:=same_new (o:=.lst (((ts.drop 1).take (ts.length - 2)).map V.ref)) hp1
  refine⟨p1,rfl,⟨_,SqL.of upd_same⟩,fun l1 hl1=>?_⟩
  have gi:∀ i,i<ts.length - 2→((ts.drop 1).take (ts.length - 2))[i]?=ts[i+1]?∧((es.drop 1).take (es.length - 2))[i]?=es[i+1]?:=fun i hi=>by
   rw[List.getElem?_take_of_lt hi,List.getElem?_drop,List.getElem?_take_of_lt (by omega),List.getElem?_drop,show 1+i=i+1 by omega]
   exact⟨rfl,rfl⟩
  have lt1:((ts.drop 1).take (ts.length - 2)).length=ts.length - 2:=by rw[List.length_take,List.length_drop];omega
  have le1:((es.drop 1).take (es.length - 2)).length=es.length - 2:=by rw[List.length_take,List.length_drop];omega
  refine lc2_list (ps:=((es.drop 1).take (es.length - 2)).map fun e=>(V.int (e.1:Int),V.int (e.2:Int))) (fun i v _=>∃ b:Bool,v=.bl b) (fun i v H2 H3 z _=>z) (by omega) hl1 (SqL.of upd_same) (by rw[List.length_map,lt1,le1,tl]) ?_ ?_ ?_
  ·intro i t p hi hpi
   have hlt:i<ts.length - 2:=by have:=(List.getElem?_eq_some_iff.mp hi).1;omega
   obtain⟨g1,g2⟩:=gi i hlt
   rw[g1] at hi
   rw[List.getElem?_map,g2] at hpi
   cases e:es[i+1]? with
   | none=>rw[e] at hpi;cases hpi
   | some q =>
    rw[e] at hpi
    obtain rfl:=Option.some.inj hpi
    exact SqT.of (t1 _ _ (hp.at_ (i+1) t q hi e))
  ·intro i p ys H2 R hpi s2 _ kR
   have hlt:i<es.length - 2:=by have:=(List.getElem?_eq_some_iff.mp hpi).1;rw[List.length_map,le1] at this;exact this
   obtain⟨g1,g2⟩:=gi i (by omega)
   rw[List.getElem?_map,g2] at hpi
   cases e:es[i+1]? with
   | none=>rw[e] at hpi;cases hpi
   | some q =>
    rw[e] at hpi
    obtain rfl:=Option.some.inj hpi
    exact⟨_,rfl,_,rfl,_,_,rfl,rfl,_,_,rfl,rfl,(by show (0:Int)<2;decide),rfl,kR _ H2 (Same.refl _) ⟨_,rfl⟩⟩
  ·intro vs H2 s2 h2l vl hv
   have eb:vs=(vs.map fun v=>match v with | .bl b=>b | _=>false).map V.bl:=by
    rw[List.map_map]
    conv=>lhs;rw[← List.map_id vs]
    refine List.map_congr_left fun v hm=>?_
    obtain⟨i,hi⟩:=List.getElem?_of_mem hm
    obtain⟨b,rfl⟩:=hv i v hi
    rfl
   rw[eb] at h2l
   exact⟨l1,_,rfl,SqL.of h2l,k _ H2 (t1.trans s2)⟩
theorem scLies:FnScope ["at","opened","parts","crease","before","behind"] ["at","opened"] (defScope s_lies_free):=fs
theorem ok_lies {f fE fI fWW fL fW:Addr}{fd fdE fdI fdWW fdL fdW:FuncData}(D:Def K mg "lies_free" s_lies_free ["at","opened"] f fd)(DE:Def K mg "ends_of_parts" s_ends_of_parts ["stamps","opened"] fE fdE)(DI:Def K mg "inner_parts_odd" s_inner_parts_odd ["parts"] fI fdI)
  (DWW:Def K mg "wrapped_within" s_wrapped_within ["at","stamp","side","ends"] fWW fdWW) (DL:Def K mg "creases_like" s_creases_like ["side","first","last"] fL fdL) (DW:Def K mg "wraps" sWraps ["at","crease","stamp"] fW fdW) (T:Own mg) (M:OwnM mg) (Z:OwnZ mg):FnOk P w K mg base CX0 3 f fd ["at","opened"] (spLies K):=by
 have GE:FnOk P w K mg base CX0 1 fE fdE ["stamps","opened"] spEnds:=ok_ends DE T Z
 have GI:FnOk P w K mg base CX0 1 fI fdI ["parts"] spInner:=ok_inner DI T Z
 have GW:FnOk P w K mg base CX0 2 fWW fdWW ["at","stamp","side","ends"] (spWW K):=ok_ww DWW DL DW T M Z
 refine D.fn.ok scLies (fun vs H Q E h=>?_) (fun cdv A outer s H vs Q E hr h=>?_)
 ·obtain⟨la,o,ps,ms,rfl,_⟩:=h
  rfl
 ·obtain⟨la,o,ps,ms,rfl,ha,ho,p1,p2,inc,bnd,ml,k⟩:=h
  have hr1:=hr.mono (show 1≤2 by decide)
  refine⟨_,pss_cons (ps_set (i:=2) scLies.nd rfl (Or.inl rfl) (pe_call GE hr1 rfl DE.at_ DE.fn.kp DE.bd .nil pass0 (pa_cons (pe_callB call_len_seq (by rfl) T.len PySem.boot_len (pa_cons (pv 0) pa_nil)) (pa_cons (pv 1) pa_nil))))
   (pss_cons (ps_if (pt_not (pt_val (pe_call GI hr1 (by rfl) DI.at_ DI.fn.kp DI.bd .nil pass0 (pa_cons (pv 2) pa_nil)))) (pss_one (ps_ret pe_bl)) pss_nil)
   (pss_cons (ps_for PassesOwn.never rfl (pi_zip3 rfl Z.zip (pa_cons (pv 1) (pa_cons (pv 2) (pa_cons (pe_slice sl_list (pv 2) (po_some pe_int) po_none) pa_nil))))
     (pg_tup rfl (pgs_cons (pg_name (i:=3) scLies.nd rfl (Or.inl rfl)) (pgs_cons (pg_name (i:=4) scLies.nd rfl (Or.inl rfl)) (pgs_cons (pg_name (i:=5) scLies.nd rfl (Or.inl rfl)) pgs_nil))))
    (pss_one (ps_if (pw_or (pt_val (pe_call GW hr (by rfl) DWW.at_ DWW.fn.kp DWW.bd .nil pass0 (pa_cons (pv 0) (pa_cons (pv 3) (pa_cons (pv 3) (pa_cons (pv 4) pa_nil)))))) (pw_or1 (pt_val (pe_call GW hr (by rfl) DWW.at_ DWW.fn.kp DWW.bd .nil pass0 (pa_cons (pv 0) (pa_cons (pe_op op_add (pv 3) pe_int) (pa_cons (pv 3) (pa_cons (pv 5) pa_nil)))))))).pt (pss_one (ps_ret pe_bl)) pss_nil)))
   (pss_one (ps_ret pe_bl)))),?_⟩
  refine⟨_,rfl,la,_,rfl,.inl ha,_,rfl,o,ps.length,ms,?_,ho,p1,by omega,fun l ts H1 s1 hl0 ht0 hp=>?_⟩
  ·show [V.int ((ps.map V.int).length:Int),V.ref o]=[V.int (ps.length:Int),V.ref o]
   rw[List.length_map]
  have el:=endsP_length ps.length ms
  have tl:=hp.len
  have eget:∀ {j},j≤ms.length→(endsP ps.length ms)[j]?=some (fstP ms j,lstP ps.length ms j):=fun h=>endsP_get h
  refine⟨_,rfl,l,ts,endsP ps.length ms,rfl,hp,by omega,by omega,fun b H2 s2=>?_⟩
  refine⟨b,rfl,?_⟩
  cases b with
  | false =>
   exact iteT (k false H2 (s1.trans s2))
  | true =>
   refine iteF ?_
   have s12:=s1.trans s2
   have hp2:=hp.same s2
   refine⟨_,rfl,_,rfl,_,rfl,_,rfl,l,_,rfl,SqL.of hp2.lst,fun p3 hp3=>?_⟩
   have ec:cutV (ts.map V.ref) (some 1) none=(ts.drop 1).map V.ref:=by rw[cut_one _ (by rw[List.length_map];omega),List.map_drop]
   rw[ec]
   have t3:=same_new (o:=.lst ((ts.drop 1).map V.ref)) hp3
   have s13:=s12.trans t3
   have hp4:=hp2.same t3
   refine⟨o,l,p3,rfl,⟨_,SqL.of (s13 _ _ ho)⟩,⟨_,SqL.of hp4.lst⟩,⟨_,SqL.of upd_same⟩,for_zip3 (K:=K) (xs:=cv ms) (ys:=ts.map V.ref) (zs:=(ts.drop 1).map V.ref)
    (fun i σ H4=>∃ (u v x:Option V),σ=[some (.ref la),some (.ref o),some (.ref l),u,v,x]∧Same (upd H2 p3 (.lst ((ts.drop 1).map V.ref))) H4)
    ⟨none,none,none,rfl,Same.refl _⟩ (fun i σ H4 ⟨_,_,_,_,s4⟩=>⟨SqL.of (s4 _ _ (s13 _ _ ho)),SqL.of (s4 _ _ hp4.lst),SqL.of (s4 _ _ upd_same)⟩) (by rw[cv_len,List.length_map];omega) (by rw[cv_len,List.length_map,List.length_drop];omega) ?_ ?_⟩
   ·rintro i x y z t σ H4 hx hy hz ht ⟨u,v,x',rfl,s4⟩
    have hi:i<ms.length:=by have:=(List.getElem?_eq_some_iff.mp hx).1;rw[cv_len] at this;exact this
    rw[cv_get hi] at hx
    obtain rfl:=Option.some.inj hx
    have hti:ts[i]?=some (ts[i]'(by omega)):=List.getElem?_eq_getElem (by omega)
    have hti1:ts[i+1]?=some (ts[i+1]'(by omega)):=List.getElem?_eq_getElem (by omega)
    rw[List.getElem?_map,hti] at hy
    obtain rfl:=Option.some.inj hy
    rw[List.getElem?_map,List.getElem?_drop,show 1+i=i+1 by omega,hti1] at hz
    obtain rfl:=Option.some.inj hz
    have t5:=same_new (o:=.tup [V.int ((ms.getD i 0:Nat):Int),V.ref ts[i],V.ref ts[i+1]]) ht
    have s5:=s4.trans t5
    have e0:=s5 _ _ (hp4.at_ i _ _ hti (eget (by omega)))
    have e1:=s5 _ _ (hp4.at_ (i+1) _ _ hti1 (eget (by omega)))
    have ha5:=s5.seq (s13.seq ha)
    have hci:=bnd _ (get_mem hi)
    have f0:=fst_le inc bnd p1 (show i≤ms.length by omega)
    have f1:=fst_le inc bnd p1 (show i+1≤ms.length by omega)
    have el0:lstP ps.length ms i=ms.getD i 0:=by unfold lstP;rw[if_pos hi]
    have ef1:fstP ms (i+1)=ms.getD i 0+1:=by unfold fstP;rw[if_neg (by omega)];rfl
    rw[el0] at e0 f0
    rw[ef1] at e1 f1
    refine⟨t,_,rfl,SqT.of upd_same,rfl,_,_,rfl,_,_,rfl,_,_,rfl,rfl,?_⟩
    refine⟨_,rfl,_,rfl,_,rfl,_,rfl,la,_,ps,ms.getD i 0,ms.getD i 0,fstP ms i,ms.getD i 0,rfl,ha5,SqT.of e0,f0.1,by omega,by omega,p2,fun b6 H6 s6=>⟨_,rfl,?_⟩⟩
    refine ite2 (fun y=>?_) (fun y=>?_)
    ·exact k false H6 (s13.trans (s5.trans s6))
    ·refine⟨_,rfl,_,rfl,_,_,rfl,rfl,_,rfl,_,rfl,la,_,ps,ms.getD i 0+1,ms.getD i 0,ms.getD i 0+1,lstP ps.length ms (i+1),rfl,s6.seq ha5,SqT.of (s6 _ _ e1),f1.1,f1.2,by omega,p2,fun b7 H7 s7=>⟨_,rfl,?_⟩⟩
     refine ite2 (fun y2=>?_) (fun y2=>?_)
     ·exact k false H7 (s13.trans (s5.trans (s6.trans s7)))
     ·exact⟨_,_,_,rfl,s5.trans (s6.trans s7)⟩
   ·rintro σ H4 ⟨u,v,x,rfl,s4⟩
    exact k true H4 (s13.trans s4)
end
end Sf
namespace Sf
open PySem L2 Pl
seal PS PSs PE PA PSsx PSx PEx
def BadC (n:Nat)(cs:List Int):Prop:=¬ (cs.Nodup∧∀ c∈cs,0≤c∧c+1<(n:Int))
theorem cz_of {n:Nat}{cs:List Int}(h:¬ BadC n cs):cs=cz (cs.map Int.toNat)∧(cs.map Int.toNat).Nodup∧∀ c∈cs.map Int.toNat,c+1<n:=by
 obtain⟨nd,hb⟩:=Classical.not_not.mp h
 have e:cs=cz (cs.map Int.toNat):=by
  have e:cs.map ((fun (c:Nat)=>(c:Int)) ∘ Int.toNat)=cs.map id:=List.map_congr_left fun x hx=>by
   show ((Int.toNat x:Nat):Int)=x
   exact Int.toNat_of_nonneg (hb x hx).1
  show cs=List.map (fun (c:Nat)=>(c:Int)) (List.map Int.toNat cs)
  rw[List.map_map,e,List.map_id]
 refine⟨e,?_,fun c hc=>?_⟩
 ·unfold List.Nodup
  rw[List.pairwise_map]
  refine List.Pairwise.imp_of_mem ?_ nd
  intro a b ha hb' hab z
  have h1:=(hb a ha).1
  have h2:=(hb b hb').1
  exact hab (by omega)
 ·obtain⟨x,hx,rfl⟩:=List.mem_map.mp hc
  have:=hb x hx
  omega
def spCheckNo (K:PySem.W.Frag)(cN:Addr):Sp:=fun vs H _ E=>∃ (q:Addr) (n:Nat) (cs:List Int),vs=[.int (n:Int),.ref q]∧SqL K H q (cs.map V.int)∧BadC n cs∧cs.length≤60∧∀ H',Same H H'→E (.ref cN) none H'
section
variable {P:Program}{w:World}{K:PySem.W.Frag}{mg:Str→Option Value}{base:Heap}
theorem no_creases {f cN:Addr}{fd:FuncData}{bm:List Value}(D:Def K mg "check_creases" s_check_creases ["stamps","creases"] f fd)(T:Own mg)(Z:OwnZ mg)(hN:mg "NoCrease"=some (.ref cN))(C:ExcCls base cN bm):FnOk P w K mg base (CX1 P w) 1 f fd ["stamps","creases"] (spCheckNo K cN):=by
 refine Fun.okX D.fn scCheckCr (fun vs H Q E h=>?_) (fun cdv A outer s H vs Q E hr h=>?_)
 ·obtain⟨q,n,cs,rfl,_⟩:=h
  rfl
 ·obtain⟨q,n,cs,rfl,hq,bad,hl,k⟩:=h
  have cl:(cs.map V.int).length=cs.length:=List.length_map ..
  obtain⟨t2,h2,r2⟩:∃ t,PSs (cxOf (CX1 P w) P w K mg base ["stamps","creases","crease"] "check_creases" (defScope s_check_creases) f cdv A outer s H E) ((defBody s_check_creases).drop 1) t ∧
    ∀ (D:Ends) (v:Option V),(∀ c∈cs,0≤c∧c+1<(n:Int))→t D [some (.int (n:Int)),some (.ref q),v] H:=by
   refine⟨_,pss_one (ps_if (pt_cmpR op_ne (pe_callB call_lenSet (by rfl) T.len PySem.boot_len (pa_cons (pe_callTy (call_set rfl) (by rfl) Z.set boot_setZ (pa_cons (pv 1) pa_nil)) pa_nil)) (pe_callB call_len_seq (by rfl) T.len PySem.boot_len (pa_cons (pv 1) pa_nil)) (nomark _))
    (pss_one (ps_raise (E:=E) rfl rfl (by rfl) hN C (raises1 fun _ _ _ h=>h) (pa_cons pe_str pa_nil))) pss_nil),?_⟩
   intro D v all
   refine⟨_,rfl,q,cs,rfl,hq,by omega,fun l S m hl0 _ hm=>?_⟩
   have s1:=same_new (o:=.set S m) hl0
   refine⟨l,S,m,rfl,upd_same,_,rfl,q,_,rfl,(.inl (s1.seq hq)),rfl,_,rfl,?_⟩
   refine ite2 (fun _=>⟨small_line (by show 1≤1000;decide),k _ s1⟩) (fun z=>?_)
   exfalso
   refine bad ⟨hm.mp ?_,all⟩
   have z2:¬ (!decide (V.int (m:Int)=V.int ((cs.map V.int).length:Int)))=true:=z
   rw[cl] at z2
   have:V.int (m:Int)=V.int (cs.length:Int):=Classical.byContradiction fun h=>z2 (by rw[decide_eq_false h];rfl)
   injection this with this
   omega
  refine⟨_,pss_cons (ps_for PassesOwn.leaving rfl (pi_list (pv 1)) (pg_name (i:=2) scCheckCr.nd rfl (Or.inl rfl))
    (pss_one (ps_if (pw_or (pt_cmpR op_lt (pv 2) pe_int (nomark _)) (pw_or1 (pt_cmpR op_gt (pv 2) (pe_op op_sub (pv 0) pe_int) (nomark _)))).pt (pss_one (ps_raise (E:=E) rfl rfl (by rfl) hN C (raises1 fun _ _ _ h=>h) (pa_cons pe_str pa_nil))) pss_nil))) h2,?_⟩
  have val:∀ (i:Nat) (x:V),(cs.map V.int)[i]?=some x→∃ c:Int,x=.int c∧cs[i]?=some c:=fun i x e=>by
   rw[List.getElem?_map] at e
   cases q:cs[i]? with
   | none=>rw[q] at e;cases e
   | some c=>rw[q] at e;exact⟨c,(Option.some.inj e).symm,rfl⟩
  have fin:∀ {i:Nat},(∀ j c,j<i→cs[j]?=some c→0≤c∧c+1<(n:Int))→i=cs.length→∀ c∈cs,0≤c∧c+1<(n:Int):=fun {i} h e c hc=>by
   obtain⟨j,hj⟩:=List.getElem?_of_mem hc
   exact h j c (by have:=(List.getElem?_eq_some_iff.mp hj).1;omega) hj
  refine⟨_,rfl,q,rfl,?_⟩
  have next:∀ {i:Nat}{c:Int},(∀ j d,j<i→cs[j]?=some d→0≤d∧d+1<(n:Int))→cs[i]?=some c→0≤c∧c+1<(n:Int)→∀ j d,j<i+1→cs[j]?=some d→0≤d∧d+1<(n:Int):=fun {i c} h e hc j d hj ej=>by
   by_cases q:j=i
   ·subst q
    rw[e] at ej
    rw[← Option.some.inj ej]
    exact hc
   ·exact h j d (by omega) ej
  refine⟨⟨_,hq⟩,for_list (K:=K) (a:=q) (xs:=cs.map V.int) (fun i σ H2=>∃ v:Option V,σ=[some (.int (n:Int)),some (.ref q),v]∧H2=H∧∀ j c,j<i→cs[j]?=some c→0≤c∧c+1<(n:Int)) ⟨none,rfl,rfl,fun j c hj=>by omega⟩ (fun i σ H2 _ ⟨_,_,e,_⟩=>by rw[e];exact hq) ?_ ?_⟩
  ·rintro i x σ H2 hi ⟨v,rfl,rfl,inv⟩
   obtain⟨c,rfl,hc⟩:=val i x hi
   refine⟨_,rfl,_,_,rfl,rfl,_,rfl,ite2 (fun z=>?_) (fun z1=>⟨_,rfl,_,rfl,_,_,rfl,rfl,_,_,rfl,rfl,_,rfl,ite2 (fun z=>?_) (fun z2=>⟨_,rfl,rfl,next inv hc ⟨?_,?_⟩⟩)⟩)⟩
   ·exact⟨small_line (by show 1≤1000;decide),k _ (Same.refl _)⟩
   ·exact⟨small_line (by show 1≤1000;decide),k _ (Same.refl _)⟩
   ·exact Int.not_lt.mp fun h=>z1 (decide_eq_true h)
   ·have:¬ ((n:Int) - 2<c):=fun h=>z2 (decide_eq_true h)
    omega
  ·rintro σ H2 ⟨v,rfl,rfl,inv⟩
   exact r2 _ v (fin inv cl)
end
end Sf
namespace Sf
open PySem L2 Pl
abbrev lpos:Pos:=⟨93,52,93,99⟩
abbrev lq:Str:=("widest_like":Str)++".<locals>."++"<lambda>"
def lamA:Stmt→Arguments:=fun s=>match defBody s with | [.Return (some (.Call _ _ [⟨_,.Lambda a _ _ _,_⟩] _)) _]=>a | _=>default
def lamSc:Stmt→Scope:=fun s=>match defBody s with | [.Return (some (.Call _ _ [⟨_,.Lambda _ _ c _,_⟩] _)) _]=>c | _=>default
theorem lamS:LamS (lamA s_widest_like) (lamSc s_widest_like):=⟨rfl,rfl,rfl,by decide +kernel,rfl,rfl,rfl,fun _ _ _ _ _ _ _=>rfl⟩
structure OwnL (mg:Str→Option Value):Prop where
 abs:mg "abs"=none
def spWidest (K:PySem.W.Frag)(T:Addr):Sp:=fun vs H Q _=>∃ (la:Addr) (ps:List Int) (side f l:Nat),vs=[.ref la,.int (side:Int),.int (f:Int),.int (l:Int)]∧SqL K H la (ps.map V.int)∧l<ps.length∧ps.length≤60∧f≤1000∧(∃ d,d∈likeP side f l)∧Tab H T lpos lq ∧
 ∀ (M:Nat) H',SameT H H'→Tab H' T lpos lq→M∈likeP side f l→Q (.int (M:Int)) H'
theorem Fun.okC {P:Program}{w:World}{K:PySem.W.Frag}{mg:Str→Option Value}{base:Heap}{x qual:Str}{st:Stmt}{f:Addr}{fd:FuncData}{N ps:List Str}{k:Nat}{sp:Sp}(F:Fun K x qual st f fd)(S:FnScope N ps (defScope st))(len:∀ vs H Q E,sp vs H Q E→vs.length=ps.length)
  (hbody:∀ (A:Around) (outer:List Env) (s:Shared) (H:Hp) (vs:List V) (Q:VK) (E:XK),Room k (A.deeper (PyProof.Rows.envOfC qual (defScope st) s.heap.objs.size f fd.code))→sp vs H Q E →
   ∃ t,PSs (cxOf CX0 P w K mg base N qual (defScope st) f fd.code A outer s H E).nox (defBody st) t∧t { nx:=fun _ H'=>Q .non H',rt:=Q } (start N vs) H):FnOk P w K mg base CX0 (k+1) f fd ps sp:=by
 obtain⟨oc,od,kV,doc,pm,an,cdv,ct,osl,rfl,lk,hcd⟩:=F.ex
 refine fn_of lk hcd S len fun A outer s H vs Q E hr hsp=>?_
 obtain⟨t,h,q⟩:=hbody A outer s H vs Q E hr hsp
 exact⟨t,h.nox,q⟩
section
variable {P:Program}{w:World}{K:PySem.W.Frag}{mg:Str→Option Value}{base:Heap}{c T:Addr}
seal PS PSs PE PA
theorem scWide:FnScope ["at","side","first","last"] ["at","side","first","last"] (defScope s_widest_like):=fs
theorem ok_wide {f fL:Addr}{fd fdL:FuncData}(D:Def K mg "widest_like" s_widest_like ["at","side","first","last"] f fd)(DL:Def K mg "creases_like" s_creases_like ["side","first","last"] fL fdL)(hcode:fd.code=.ref c)(C:PySem.W.CodeHd base c T)(B:Bm mg base)(O:Own mg)(M:OwnM mg)(A0:OwnL mg) :
  FnOk P w K mg base CX0 2 f fd ["at","side","first","last"] (spWidest K T):=by
 have GL:FnOk P w K mg base CX0 1 fL fdL ["side","first","last"] spLike:=ok_like DL O
 refine Fun.okC D.fn scWide (fun vs H Q E h=>?_) (fun A outer s H vs Q E hr h=>?_)
 ·obtain⟨la,ps,side,f,l,rfl,_⟩:=h
  rfl
 ·obtain⟨la,ps,side,fr,lt,rfl,ha,h1,h2,h3,⟨d0,hd0⟩,tab,k⟩:=h
  refine⟨_,pss_one (ps_ret (pe_maxkey (k:=0) (ia:=0) (cA:=s.heap.objs.size+1) (T:=T) (c:=c) hr lamS A0.abs M.max (by rfl) (by rfl) (by rfl) (by rfl) rfl hcode C B
   (pe_call GL hr rfl DL.at_ DL.fn.kp DL.bd .nil pass0 (pa_cons (pv 1) (pa_cons (pv 2) (pa_cons (pv 3) pa_nil)))))),?_⟩
  refine⟨_,rfl,_,rfl,_,rfl,side,fr,lt,rfl,by omega,by omega,fun a H1 s1 ha0 ha1=>?_⟩
  refine⟨a,la,cz (likeP side fr lt),ps,rfl,SqL.of ha1,?_,rfl,s1.seq ha,fun n hn=>?_,tab.stay s1,fun M H2 hM hmax st tab2=>?_⟩
  ·rw[List.length_map]
   exact List.length_pos_of_mem hd0
  ·obtain⟨d,hd,rfl⟩:=List.mem_map.mp hn
   have:=mem_likeP.mp hd
   exact⟨by omega,by rw[Int.toNat_natCast];omega⟩
  ·obtain⟨d,hd,rfl⟩:=List.mem_map.mp hM
   exact k d H2 (fun b o e n=>st b o (s1 b o e) n) tab2 hd
end
end Sf
namespace Sf
open PySem L2 Pl
theorem SameT.of {H H':Hp}(s:Same H H'):SameT H H':=fun b o e _=>s b o e
theorem SameT.new {H H':Hp}(s:SameT H H'){t:Addr}{o:HO}(h:H' t=none):SameT H (upd H' t o):=fun b u e n=>by rw[upd_ne (ne_of_none (s b u e n) h)];exact s b u e n
theorem Tab.new {H:Hp}{T t:Addr}{o:HO}(x:Tab H T lpos lq)(h:H t=none):Tab (upd H t o) T lpos lq:=x.stay fun b u e=>by rw[upd_ne (ne_of_none e h)];exact e
def spStepW (K:PySem.W.Frag)(T:Addr):Sp:=fun vs H Q _=>∃ (la:Addr) (ps:List Int) (f l:Nat),vs=[.ref la,.int (f:Int),.int (l:Int)]∧SqL K H la (ps.map V.int)∧f<l∧l<ps.length∧ps.length≤60∧(0<f→l+1<ps.length→(l - f) % 2=0)∧Tab H T lpos lq ∧
 ∀ (t:Addr) (s:List Nat) H',SameT H H'→Tab H' T lpos lq→H' t=some (.tup (cv s))→StepOf ps f l s→Q (.ref t) H'
section
variable {P:Program}{w:World}{K:PySem.W.Frag}{mg:Str→Option Value}{base:Heap}{c T:Addr}
seal PS PSs PE PA
theorem scStW:FnScope ["at","first","last","end","one"] ["at","first","last"] (defScope s_step_within):=fs
theorem ok_stw {f fW fL:Addr}{fd fdW fdL:FuncData}(D:Def K mg "step_within" s_step_within ["at","first","last"] f fd)(DW:Def K mg "widest_like" s_widest_like ["at","side","first","last"] fW fdW)(DL:Def K mg "creases_like" s_creases_like ["side","first","last"] fL fdL)
  (hcode:fdW.code=.ref c) (C:PySem.W.CodeHd base c T) (B:Bm mg base) (O:Own mg) (M:OwnM mg) (A0:OwnL mg):FnOk P w K mg base CX0 3 f fd ["at","first","last"] (spStepW K T):=by
 have GW:FnOk P w K mg base CX0 2 fW fdW ["at","side","first","last"] (spWidest K T):=ok_wide DW DL hcode C B O M A0
 refine D.fn.ok scStW (fun vs H Q E h=>?_) (fun cdv A outer s H vs Q E hr h=>?_)
 ·obtain⟨la,ps,f,l,rfl,_⟩:=h
  rfl
 ·obtain⟨la,ps,fr,lt,rfl,ha,h1,h2,h3,hodd,tab,k⟩:=h
  refine⟨_,pss_cons (ps_set (i:=3) scStW.nd rfl (Or.inl rfl) (pe_op op_sub (pe_callB call_len_seq (by rfl) O.len PySem.boot_len (pa_cons (pv 0) pa_nil)) pe_int))
   (pss_cons (ps_if (pw_and (pt_cmpR op_gt (pv 1) pe_int (nomark _)) (pw_and1 (pt_cmpR op_lt (pv 2) (pv 3) (nomark _)))).pt
    (pss_cons (ps_set (i:=4) scStW.nd rfl (Or.inl rfl) (pe_call GW hr rfl DW.at_ DW.fn.kp DW.bd .nil pass0 (pa_cons (pv 0) (pa_cons (pv 1) (pa_cons (pv 1) (pa_cons (pv 2) pa_nil))))))
     (pss_one (ps_ret (pe_tup (pa_cons (pv 4) (pa_cons (pe_call GW hr rfl DW.at_ DW.fn.kp DW.bd .nil pass0 (pa_cons (pv 0) (pa_cons (pe_op op_add (pv 4) pe_int) (pa_cons (pe_op op_add (pv 4) pe_int) (pa_cons (pv 2) pa_nil))))) pa_nil)))))) pss_nil)
   (pss_cons (ps_if (pt_cmpR op_lt (pv 2) (pv 3) (nomark _))
    (pss_one (ps_ret (pe_tup (pa_cons (pe_call GW hr rfl DW.at_ DW.fn.kp DW.bd .nil pass0 (pa_cons (pv 0) (pa_cons (pe_op op_add (pv 2) pe_int) (pa_cons (pv 1) (pa_cons (pv 2) pa_nil))))) pa_nil)))) pss_nil)
   (pss_one (ps_ret (pe_tup (pa_cons (pe_call GW hr rfl DW.at_ DW.fn.kp DW.bd .nil pass0 (pa_cons (pv 0) (pa_cons (pv 1) (pa_cons (pv 1) (pa_cons (pv 2) pa_nil))))) pa_nil)))))),?_⟩
  have pl:(ps.map V.int).length=ps.length:=List.length_map _
  have lik:∀ {side f d:Nat},f≤d→d<lt→d % 2=side % 2→∃ d,d∈likeP side f lt:=fun a b c=>⟨_,mem_likeP.mpr ⟨a,b,c⟩⟩
  refine⟨_,rfl,la,_,rfl,.inl ha,_,_,rfl,rfl,?_⟩
  refine⟨_,rfl,_,_,rfl,rfl,_,rfl,?_⟩
  refine ite2 (fun z=>?_) (fun z=>?_)
  ·have f0:=of_decide_eq_true z
   refine⟨_,rfl,_,rfl,_,_,rfl,rfl,_,rfl,?_⟩
   refine ite2 (fun z2=>?_) (fun z2=>?_)
   ·have l0:=of_decide_eq_true z2
    refine⟨_,rfl,_,rfl,_,rfl,_,rfl,la,ps,fr,fr,lt,rfl,ha,h2,h3,by omega,lik (Nat.le_refl _) h1 rfl,tab,fun j H1 s1 tab1 wj=>?_⟩
    have hj:=mem_likeP.mp wj
    have hod:=hodd (by omega) (by omega)
    refine⟨_,rfl,_,rfl,_,rfl,_,_,rfl,rfl,_,rfl,_,_,rfl,rfl,_,rfl,la,ps,j+1,j+1,lt,rfl,s1.seq ha,h2,h3,by omega,lik (Nat.le_refl _) (by omega) rfl,tab1,fun i H2 s2 tab2 wi=>?_⟩
    refine⟨small_line (by show 2≤1000;decide),fun t ht=>?_⟩
    exact k t [j,i] _ (SameT.new (s1.trans s2) ht) (Tab.new tab2 ht) upd_same (.inl ⟨by omega,by omega,j,i,rfl,wj,wi⟩)
   ·refine⟨_,rfl,_,rfl,_,_,rfl,rfl,_,rfl,?_⟩
    refine ite2 (fun z3=>absurd z3 z2) (fun _=>?_)
    have l0:¬ ((lt:Int)<((ps.map V.int).length:Int) - 1):=fun q=>z2 (decide_eq_true q)
    refine⟨_,rfl,_,rfl,_,rfl,_,rfl,la,ps,fr,fr,lt,rfl,ha,h2,h3,by omega,lik (Nat.le_refl _) h1 rfl,tab,fun j H1 s1 tab1 wj=>?_⟩
    refine⟨small_line (by show 1≤1000;decide),fun t ht=>?_⟩
    exact k t [j] _ (SameT.new s1 ht) (Tab.new tab1 ht) upd_same (.inr (.inr ⟨by omega,j,rfl,wj⟩))
  ·have f0:¬ (0:Int)<(fr:Int):=fun q=>z (decide_eq_true q)
   refine⟨_,rfl,_,rfl,_,_,rfl,rfl,_,rfl,?_⟩
   refine ite2 (fun z2=>?_) (fun z2=>?_)
   ·have l0:=of_decide_eq_true z2
    refine⟨_,rfl,_,rfl,_,_,rfl,rfl,_,rfl,_,rfl,la,ps,lt+1,fr,lt,rfl,ha,h2,h3,by omega,lik (d:=lt - 1) (by omega) (by omega) (by omega),tab,fun j H1 s1 tab1 wj=>?_⟩
    refine⟨small_line (by show 1≤1000;decide),fun t ht=>?_⟩
    exact k t [j] _ (SameT.new s1 ht) (Tab.new tab1 ht) upd_same (.inr (.inl ⟨by omega,by omega,j,rfl,wj⟩))
   ·have l0:¬ ((lt:Int)<((ps.map V.int).length:Int) - 1):=fun q=>z2 (decide_eq_true q)
    refine⟨_,rfl,_,rfl,_,rfl,_,rfl,la,ps,fr,fr,lt,rfl,ha,h2,h3,by omega,lik (Nat.le_refl _) h1 rfl,tab,fun j H1 s1 tab1 wj=>?_⟩
    refine⟨small_line (by show 1≤1000;decide),fun t ht=>?_⟩
    exact k t [j] _ (SameT.new s1 ht) (Tab.new tab1 ht) upd_same (.inr (.inr ⟨by omega,j,rfl,wj⟩))
end
end Sf
namespace Pl
theorem some_open {n:Nat}{ms:List Nat}(h:ms.length+1<n):∃ j,j≤ms.length∧fstP ms j≠lstP n ms j:=by
 by_cases hx:∃ j,j≤ms.length∧fstP ms j≠lstP n ms j
 ·exact hx
 ·exfalso
  have all:∀ j,j≤ms.length→fstP ms j=lstP n ms j:=fun j hj=>by
   by_cases e:fstP ms j=lstP n ms j
   ·exact e
   ·exact absurd ⟨j,hj,e⟩ hx
  have ind:∀ j,j≤ms.length→lstP n ms j=j:=fun j=>by
   induction j with
   | zero=>intro hj;rw[← all 0 hj];rfl
   | succ j ih =>
    intro hj
    have h1:=ih (by omega)
    have h2:=all (j+1) hj
    unfold fstP at h2
    rw[if_neg (by omega)] at h2
    unfold lstP at h1
    rw[if_pos (by omega)] at h1
    rw[← h2,Nat.add_sub_cancel,h1]
  have:=ind ms.length (Nat.le_refl _)
  unfold lstP at this
  rw[if_neg (by omega)] at this
  omega
end Pl
namespace Sf
open PySem L2 Pl
theorem Tab.updL {H:Hp}{T l:Addr}{xs ys:List V}(x:Tab H T lpos lq)(h:H l=some (.lst xs)):Tab (upd H l (.lst ys)) T lpos lq:=by
 rcases x with e | ⟨c,e,f⟩
 ·exact .inl (by rw[upd_ne (ne_of e h (by intro z;cases z))];exact e)
 ·exact .inr ⟨c,by rw[upd_ne (ne_of e h (by intro z;cases z))];exact e,by rw[upd_ne (ne_of f h (by intro z;cases z))];exact f⟩
structure Ost (T:Addr)(H0 H:Hp)(la l1 l2:Addr)(ps:List Int)(as:List Addr)(cs:List Nat):Prop where
 same:SameT H0 H
 tab:Tab H T lpos lq
 at_:H la=some (.lst (ps.map V.int))
 st:H l1=some (.lst (as.map V.ref))
 op:H l2=some (.lst (cv cs))
 len:as.length≤cs.length
 pre:Pre ps cs
 n12:l1≠l2
 na1:la≠l1
 na2:la≠l2
 f1:H0 l1=none
 f2:H0 l2=none
theorem noT {xs:List V}:∀ ps,HO.lst xs≠.tbl ps:=fun _ z=>by cases z
theorem noU {xs:List V}:∀ ps,HO.tup xs≠.tbl ps:=fun _ z=>by cases z
theorem Ost.move {T:Addr}{H0 H H':Hp}{la l1 l2:Addr}{ps:List Int}{as:List Addr}{cs:List Nat}(x:Ost T H0 H la l1 l2 ps as cs)(s:SameT H H')(t:Tab H' T lpos lq):Ost T H0 H' la l1 l2 ps as cs :=
 ⟨x.same.trans s,t,s _ _ x.at_ noT,s _ _ x.st noT,s _ _ x.op noT,x.len,x.pre,x.n12,x.na1,x.na2,x.f1,x.f2⟩
theorem Ost.push {T:Addr}{H0 H:Hp}{la l1 l2 t:Addr}{ps:List Int}{as:List Addr}{cs s:List Nat}(x:Ost T H0 H la l1 l2 ps as cs)(sl:1≤s.length)(p:Pre ps (cs++s)) :
  Ost T H0 (upd (upd H l1 (.lst (as.map V.ref++[.ref t]))) l2 (.lst (cv cs++cv s))) la l1 l2 ps (as++[t]) (cs++s):=by
 have e2:(upd H l1 (.lst (as.map V.ref++[.ref t]))) l2=some (.lst (cv cs)):=by rw[upd_ne x.n12.symm];exact x.op
 have:=x.len
 refine⟨fun b o e n=>?_,Tab.updL (Tab.updL x.tab x.st) e2,by rw[upd_ne x.na2,upd_ne x.na1];exact x.at_,?_,by rw[upd_same,cv_append],by rw[List.length_append,List.length_append,List.length_singleton];omega,p,x.n12,x.na1,x.na2,x.f1,x.f2⟩
 ·rw[upd_ne (ne_of_none e x.f2),upd_ne (ne_of_none e x.f1)];exact x.same b o e n
 ·rw[upd_ne x.n12,upd_same];simp
theorem Prs.move {H H':Hp}{l:Addr}{ts:List Addr}{es:List (Nat×Nat)}(x:Prs H l ts es)(s:SameT H H'):Prs H' l ts es:=⟨s _ _ x.lst noT,x.len,fun i t e h1 h2=>s _ _ (x.at_ i t e h1 h2) noU⟩
theorem Prs.upd2 {H:Hp}{l l1 l2:Addr}{ts:List Addr}{es:List (Nat×Nat)}{xs ys:List V}{o1 o2:HO}(x:Prs H l ts es)(h1:H l1=some (.lst xs))(h2:H l2=some (.lst ys))(n1:l≠l1)(n2:l≠l2):Prs (upd (upd H l1 o1) l2 o2) l ts es :=
 ⟨by rw[upd_ne n2,upd_ne n1];exact x.lst,x.len,fun i t e q1 q2=>by
  have h:=x.at_ i t e q1 q2
  rw[upd_ne (ne_of h h2 (by intro z;cases z)),upd_ne (ne_of h h1 (by intro z;cases z))];exact h⟩
end Sf
namespace Sf
open PySem L2 Pl
theorem nats_of {ms:List Int}{cs:List Nat}(h:ms.Perm (cz cs)):∃ ds:List Nat,ms=cz ds∧ds.Perm cs:=by
 refine⟨ms.map Int.toNat,?_,?_⟩
 ·unfold cz
  rw[List.map_map]
  conv=>lhs;rw[← List.map_id ms]
  refine List.map_congr_left fun x hx=>?_
  obtain⟨c,_,rfl⟩:=List.mem_map.mp (h.mem_iff.mp hx)
  simp
 ·have:=h.map Int.toNat
  unfold cz at this
  rw[List.map_map] at this
  have e:cs.map (Int.toNat ∘ fun (c:Nat)=>(c:Int))=cs:=by
   conv=>rhs;rw[← List.map_id cs]
   exact List.map_congr_left fun c _=>by simp
  rw[e] at this
  exact this
theorem rise_sorted {ms:List Int}{cs:List Nat}(h:ms.Perm (cz cs))(so:ms.Pairwise (·≤·))(nd:cs.Nodup):∃ ds:List Nat,ms=cz ds∧Rise (fun c=>c∈cs) ds∧ds.length=cs.length:=by
 obtain⟨ds,rfl,pd⟩:=nats_of h
 refine⟨ds,rfl,⟨fun c=>pd.mem_iff,?_⟩,pd.length_eq⟩
 have nd':ds.Nodup:=pd.nodup_iff.mpr nd
 have so':ds.Pairwise (·≤·):=(List.pairwise_map.mp so).imp fun h=>by omega
 exact List.Pairwise.imp₂ (fun a b (h1:a≤b) (h2:a≠b)=>by omega) so' nd'
def spOpenT (K:PySem.W.Frag)(T:Addr):Sp:=fun vs H Q _=>∃ (p:Addr) (ns:List Int) (n:Nat),vs=[.ref p]∧SqL K H p (ns.map V.int)∧ns.Perm (iota n)∧1≤n∧n≤60∧NoX (plc ns)∧Tab H T lpos lq ∧
 ∀ v H',SameT H H'→Tab H' T lpos lq→Q v H'
section
variable {P:Program}{w:World}{K:PySem.W.Frag}{mg:Str→Option Value}{base:Heap}{c T:Addr}
seal PS PSs PE PA
abbrev nmOpen:List Str:=["pile","at","steps","opened","parts","first","last","step"]
theorem scOpen:FnScope nmOpen ["pile"] (defScope s_opening):=fs
theorem ok_open {f fF fE fS:Addr}{fd fdF fdE fdS:FuncData}(D:Def K mg "opening" s_opening ["pile"] f fd)(DF:Def K mg "foldable_places" s_foldable_places ["pile"] fF fdF)(GF:FnOk P w K mg base CX0 4 fF fdF ["pile"] (spFoldP K))(DE:Def K mg "ends_of_parts" s_ends_of_parts ["stamps","opened"] fE fdE)(GE:FnOk P w K mg base CX0 1 fE fdE ["stamps","opened"] spEnds)
  (DS:Def K mg "step_within" s_step_within ["at","first","last"] fS fdS) (GS:FnOk P w K mg base CX0 3 fS fdS ["at","first","last"] (spStepW K T)) (O:Own mg):FnOk P w K mg base CX0 5 f fd ["pile"] (spOpenT K T):=by
 refine D.fn.ok scOpen (fun vs H Q E h=>?_) (fun cdv A outer s H vs Q E hr h=>?_)
 ·obtain⟨p,ns,n,rfl,_⟩:=h
  rfl
 ·obtain⟨p,ns,n,rfl,hp,pm,n1,n2,nx,tab,k⟩:=h
  have hr1:=hr.mono (show 1≤4 by decide)
  have hr3:=hr.mono (show 3≤4 by decide)
  have nl:=perm_len pm
  have pl:=plc_length ns
  refine⟨_,pss_cons (ps_set (i:=1) scOpen.nd rfl (Or.inl rfl) (pe_call GF hr rfl DF.at_ DF.fn.kp DF.bd .nil pass0 (pa_cons (pv 0) pa_nil)))
   (pss_cons (ps_set (i:=2) scOpen.nd rfl (Or.inl rfl) (pe_lst pa_nil)) (pss_cons (ps_set (i:=3) scOpen.nd rfl (Or.inl rfl) (pe_lst pa_nil))
   (pss_cons (ps_while PassesOwn.never (pt_cmpR op_lt (pe_callB call_len_seq (by rfl) O.len PySem.boot_len (pa_cons (pv 3) pa_nil)) (pe_op op_sub (pe_callB call_len_seq (by rfl) O.len PySem.boot_len (pa_cons (pv 1) pa_nil)) pe_int) (nomark _))
    (pss_cons (ps_set (i:=4) scOpen.nd rfl (Or.inl rfl) (pe_call GE hr1 rfl DE.at_ DE.fn.kp DE.bd .nil pass0 (pa_cons (pe_callB call_len_seq (by rfl) O.len PySem.boot_len (pa_cons (pv 1) pa_nil)) (pa_cons (pe_callB call_sorted (by rfl) O.sorted PyProof.Rows.boot_sorted (pa_cons (pv 3) pa_nil)) pa_nil))))
    (pss_one (ps_for PassesOwn.never rfl (pi_list (pv 4)) (pg_tup rfl (pgs_cons (pg_name (i:=5) scOpen.nd rfl (Or.inl rfl)) (pgs_cons (pg_name (i:=6) scOpen.nd rfl (Or.inl rfl)) pgs_nil)))
     (pss_one (ps_if (pt_cmpR op_lt (pv 5) (pv 6) (nomark _)) (pss_cons (ps_set (i:=7) scOpen.nd rfl (Or.inl rfl) (pe_call GS hr3 rfl DS.at_ DS.fn.kp DS.bd .nil pass0 (pa_cons (pv 1) (pa_cons (pv 5) (pa_cons (pv 6) pa_nil)))))
      (pss_cons (ps_expr (pe_bm PySem.F.plainAttrs_list PySem.F.slot_list_append PySem.F.type_list_append mt_append (pv 2) (pa_cons (pv 7) pa_nil))) (pss_one (ps_expr (pe_bm PySem.F.plainAttrs_list PySem.F.slot_list_extend PySem.F.type_list_extend mt_extT (pv 3) (pa_cons (pv 7) pa_nil)))))) pss_nil))))))
   (pss_one (ps_ret (pv 2)))))),?_⟩
  refine⟨_,rfl,p,ns,n,rfl,hp,pm,n1,n2,nx,fun la H1 s1 hla0 hla=>?_⟩
  refine⟨Nat.zero_le _,fun l1 hl1=>?_⟩
  refine⟨Nat.zero_le _,fun l2 hl2=>?_⟩
  have q1:=same_new (o:=.lst []) hl1
  have q2:=same_new (o:=.lst []) hl2
  have n12:l1≠l2:=fun z=>by rw[← z,upd_same] at hl2;cases hl2
  have hl2':H1 l2=none:=by rw[upd_ne n12.symm] at hl2;exact hl2
  have st0:Ost T H (upd (upd H1 l1 (.lst [])) l2 (.lst [])) la l1 l2 (plc ns) [] []:=by
   have sm:=(s1.trans q1).trans q2
   exact⟨SameT.of sm,tab.stay sm,q2 _ _ (q1 _ _ hla),q2 _ _ upd_same,upd_same,Nat.zero_le _,Pre.nil,n12,ne_of_none hla hl1,ne_of_none hla hl2',s1.free hl1,s1.free hl2'⟩
  generalize upd (upd H1 l1 (.lst [])) l2 (.lst [])=H2 at st0
  have ml:((plc ns).map V.int).length=n:=by rw[List.length_map,pl,nl]
  refine while_by (fun σ H3=>∃ (as:List Addr) (steps:List Nat) (v4 v5 v6 v7:Option V),σ=[some (.ref p),some (.ref la),some (.ref l1),some (.ref l2),v4,v5,v6,v7]∧Ost T H H3 la l1 l2 (plc ns) as steps)
   (fun _ H3=>match H3 l2 with | some (.lst xs)=>n - xs.length | _=>0) ⟨[],[],none,none,none,none,rfl,st0⟩ ?_ ?_
  ·rintro σ H3 ⟨as,steps,v4,v5,v6,v7,rfl,x⟩
   have fl:(cv steps).length=steps.length:=cv_length _
   refine⟨_,rfl,l2,_,rfl,.inl (SqL.of x.op),_,rfl,la,_,rfl,.inl (SqL.of x.at_),_,_,rfl,rfl,_,_,rfl,rfl,_,rfl,?_⟩
   refine ite2 (fun z=>?_) (fun z=>?_)
   ·have lt:=of_decide_eq_true z
    have bnd:=x.pre.bnd
    have fle:steps.length+1<n:=by omega
    refine⟨_,rfl,la,_,rfl,.inl (SqL.of x.at_),_,rfl,l2,cz steps,rfl,SqL.of x.op,by rw[List.length_map];omega,fun lo ms hlo pmS so=>?_⟩
    obtain⟨ds,rfl,ri,dl⟩:=rise_sorted pmS so x.pre.nd
    have q3:=same_new (o:=.lst ((cz ds).map V.int)) hlo
    refine⟨lo,n,ds,by rw[ml];rfl,upd_same,n1,by omega,fun lP ts H4 s4 hlP hts prs=>?_⟩
    have x4:=x.move (SameT.of (q3.trans s4)) (x.tab.stay (q3.trans s4))
    have hlP':upd H3 lo (.lst ((cz ds).map V.int)) lP=none:=hlP
    have nP1:lP≠l1:=fun z=>by rw[z] at hlP';rw[q3 _ _ x.st] at hlP';cases hlP'
    have nP2:lP≠l2:=fun z=>by rw[z] at hlP';rw[q3 _ _ x.op] at hlP';cases hlP'
    have tl:ts.length=ds.length+1:=by rw[prs.len,endsP_length]
    have hLd:∀ c,c∈steps→c+1<n:=fun c hc=>by have:=bnd c hc;omega
    refine⟨_,rfl,lP,rfl,⟨_,SqL.of prs.lst⟩,for_list (K:=K) (a:=lP) (xs:=ts.map V.ref) (fun i σ H5=>∃ (as':List Addr) (steps':List Nat) (u5 u6 u7:Option V),σ=[some (.ref p),some (.ref la),some (.ref l1),some (.ref l2),some (.ref lP),u5,u6,u7]∧Ost T H H5 la l1 l2 (plc ns) as' steps'∧Prs H5 lP ts (endsP n ds) ∧
      (∀ c∈steps',c∈steps∨∃ j,j<i∧c<lstP n ds j)∧(∀ c∈steps,c∈steps')∧steps.length≤steps'.length∧∀ j,j<i→fstP ds j≠lstP n ds j→steps.length<steps'.length)
     ⟨as,steps,v5,v6,v7,rfl,x4,prs,fun c hc=>.inl hc,fun c hc=>hc,Nat.le_refl _,fun j hj=>absurd hj (Nat.not_lt_zero _)⟩ (fun i σ H5 _ ⟨_,_,_,_,_,_,_,prs5,_⟩=>SqL.of prs5.lst) ?_ ?_⟩
    ·rintro i y σ H5 hi ⟨as',steps',u5,u6,u7,rfl,x5,prs5,in5,sub5,le5,pr5⟩
     rw[List.getElem?_map] at hi
     cases e:ts[i]? with
     | none=>rw[e] at hi;cases hi
     | some t =>
      rw[e] at hi
      obtain rfl:V.ref t=y:=Option.some.inj hi
      have hi2:i≤ds.length:=by have:=(List.getElem?_eq_some_iff.mp e).1;omega
      have ht:=prs5.at_ i t _ e (endsP_get hi2)
      have P0:=part_of ri hLd n1 hi2
      have P5:Part (plc ns).length (fun c=>c∈steps') (fstP ds i) (lstP n ds i):=by
       rw[pl,nl]
       refine⟨P0.le,P0.lt,?_,?_,fun e' e1 e2 hc=>?_⟩
       ·rcases P0.fst with z | ⟨c,h1,h2⟩
        ·exact .inl z
        ·exact .inr ⟨c,sub5 c h1,h2⟩
       ·rcases P0.lst with z | z
        ·exact .inl z
        ·exact .inr (sub5 _ z)
       ·rcases in5 e' hc with z | ⟨j,j1,j2⟩
        ·exact P0.no e' e1 e2 z
        ·have:=part_order (n:=n) ri j1 hi2
         omega
      refine⟨t,_,rfl,SqT.of ht,rfl,_,_,rfl,_,_,rfl,rfl,_,rfl,_,rfl,_,_,rfl,rfl,_,rfl,?_⟩
      refine ite2 (fun z2=>?_) (fun z2=>?_)
      ·have flt:fstP ds i<lstP n ds i:=by have:=of_decide_eq_true z2;simp only at this;omega
       have Fr5:=x5.pre.free
       refine⟨_,rfl,_,rfl,_,rfl,la,plc ns,fstP ds i,lstP n ds i,rfl,SqL.of x5.at_,flt,by rw[pl,nl];exact P0.lt,by omega,Fr5.part P5,x5.tab,fun tt st H6 s6 tab6 htt so6=>?_⟩
       obtain⟨F6,sh6,bd6⟩:=step_fre Fr5 x5.pre.bnd P5 so6
       have x6:=x5.move s6 tab6
       have P0l:=P0.lt
       have pre6:Pre (plc ns) (steps'++st):=x5.pre.push sh6 (fun c hc=>by have:=bd6 c hc;omega) (fun c hc hc2=>P5.no c (bd6 c hc).1 (bd6 c hc).2 hc2) F6
       have sl:1≤st.length:=by
        rcases sh6 with⟨a,rfl⟩ | ⟨a,b,rfl,_⟩
        ·exact Nat.le_refl _
        ·exact Nat.le_succ _
       have x7:=x6.push (t:=tt) sl pre6
       have ll:=len_le (n - 1) pre6.nd (fun c hc=>by have:=pre6.bnd c hc;omega)
       rw[List.length_append] at ll
       have las:=x5.len
       refine⟨_,rfl,.inl ⟨rfl,_,SqL.of x6.st⟩,_,rfl,l1,_,_,rfl,rfl,x6.st,small1000 (by rw[List.length_map];omega),?_⟩
       have hop:(upd H6 l1 (.lst (as'.map V.ref++[.ref tt]))) l2=some (.lst (cv steps')):=by rw[upd_ne x6.n12.symm];exact x6.op
       have htu:(upd H6 l1 (.lst (as'.map V.ref++[.ref tt]))) tt=some (.tup (cv st)):=by rw[upd_ne (ne_of htt x6.st (by intro z;cases z))];exact htt
       refine⟨_,rfl,.inl ⟨rfl,_,SqL.of hop⟩,_,rfl,l2,tt,_,_,rfl,rfl,hop,htu,small_line (by rw[cv_length,cv_length];omega),?_⟩
       refine⟨as'++[tt],steps'++st,_,_,_,rfl,x7,(prs5.move s6).upd2 x6.st x6.op nP1 nP2,fun c hc=>?_,fun c hc=>?_,by rw[List.length_append];omega,fun j hj hne=>by rw[List.length_append];omega⟩
       ·rw[List.mem_append] at hc
        rcases hc with hc | hc
        ·rcases in5 c hc with z | ⟨j,j1,j2⟩
         ·exact .inl z
         ·exact .inr ⟨j,by omega,j2⟩
        ·exact .inr ⟨i,by omega,(bd6 c hc).2⟩
       ·rw[List.mem_append]
        exact .inl (sub5 c hc)
      ·have nlt:¬ fstP ds i<lstP n ds i:=fun q=>z2 (decide_eq_true (by simp only;omega))
       have le0:=P0.le
       refine⟨as',steps',_,_,_,rfl,x5,prs5,fun c hc=>?_,sub5,le5,fun j hj hne=>?_⟩
       ·rcases in5 c hc with z | ⟨j,j1,j2⟩
        ·exact .inl z
        ·exact .inr ⟨j,by omega,j2⟩
       ·by_cases hji:j=i
        ·subst hji;omega
        ·exact pr5 j (by omega) hne
    ·rintro σ H5 ⟨as',steps',u5,u6,u7,rfl,x5,prs5,in5,sub5,le5,pr5⟩
     obtain⟨j,j1,j2⟩:=some_open (n:=n) (ms:=ds) (by omega)
     have gr:=pr5 j (by rw[List.length_map,tl];omega) j2
     refine⟨⟨as',steps',_,_,_,_,rfl,x5⟩,?_⟩
     show (match H5 l2 with | some (.lst xs)=>n - xs.length | _=>0)<(match H3 l2 with | some (.lst xs)=>n - xs.length | _=>0)
     rw[x5.op,x.op]
     show n - (cv steps').length<n - (cv steps).length
     rw[cv_length,cv_length]
     omega
   ·have ge:¬ ((cv steps).length:Int)<(((plc ns).map V.int).length:Int) - 1:=fun q=>z (decide_eq_true q)
    exact⟨_,rfl,k _ H3 x.same x.tab⟩
  ·rintro σ H3 Q1 Q2 hq ⟨v1,h1,a1,b1,h2,h3,v2,h4,a2,b2,h5,h6,i1,j1,h7,h8,i2,j2,h9,h10,b,h11,h12⟩
   exact⟨v1,h1,a1,b1,h2,h3,v2,h4,a2,b2,h5,h6,i1,j1,h7,h8,i2,j2,h9,h10,b,h11,hq _ _ h12⟩
end
end Sf
namespace L2
open PySem PySem.Spec PyProof.Rows
theorem lc_list_big {K:PySem.W.Frag}{a:Addr}{xs:List V}{l:Addr}{H1:Hp}{tt:TT}{te:TE}{σ':St}{Q:VK}(p:V→Bool)(f:V→V)(hn:xs.length<sizeLine)(hl:H1 l=none)(hx:SqL K H1 a xs)
  (ht:∀ x H2 (R:Bool→Hp→Prop),x∈xs→Same H1 H2→(∀ H3,Same H2 H3→R (p x) H3)→tt (some x::σ') H2 R)
  (he:∀ x H2 (R:VK),x∈xs→p x=true→Same H1 H2→(∀ H3,Same H2 H3→R (f x) H3)→te (some x::σ') H2 R)
  (hq:∀ H2,Same H1 H2→H2 l=some (.lst ((xs.filter p).map f))→Q (.ref l) H2) :
  LCG (Itl K a) l σ' tt te Q H1:=by
 refine⟨fun i m H2=>m=xs.length - i∧i≤xs.length∧Same H1 H2∧H2 l=some (.lst (((xs.take i).filter p).map f)),⟨xs.length,by simp,Nat.zero_le _,fun b o e=>by rw[upd_ne (ne_of_none e hl)];exact e,by rw[upd_same];rfl⟩,?_⟩
 rintro i m H2 ⟨rfl,hi,s2,h2⟩
 by_cases hlt:i<xs.length
 ·refine .inr ⟨⟨xs,xs[i],s2.seq hx,by simp[hlt]⟩,fun x H3 y=>?_⟩
  obtain⟨e,y⟩:=y
  subst e
  have hxi:=y xs (s2.seq hx)
  have hm:=List.mem_of_getElem? hxi
  have tk:xs.take (i+1)=xs.take i++[x]:=by
   rw[List.take_succ,hxi]
   rfl
  refine ht x _ _ hm s2 fun H4 s4=>?_
  have s14:Same H1 H4:=s2.trans s4
  cases q:p x with
  | false =>
   rw[if_neg Bool.false_ne_true]
   refine⟨xs.length - (i+1),by omega,rfl,hlt,s14,?_⟩
   rw[tk,List.filter_append,List.filter_cons,q,List.filter_nil]
   simp only[Bool.false_eq_true,if_false,List.append_nil]
   exact s4 _ _ h2
  | true =>
   rw[if_pos rfl]
   refine he x _ _ hm q s14 fun H5 s5=>⟨_,xs.length - (i+1),s5 _ _ (s4 _ _ h2),?_,by omega,rfl,hlt,fun b o e=>?_,?_⟩
   ·rw[List.length_map]
    refine Nat.lt_of_le_of_lt (List.length_filter_le _ _) ?_
    rw[List.length_take]
    omega
   ·rw[upd_ne (ne_of_none e hl)]
    exact s5 _ _ (s14 _ _ e)
   ·rw[upd_same,tk,List.filter_append,List.filter_cons,q,List.filter_nil,List.map_append]
    rfl
 ·have e:i=xs.length:=by omega
  subst e
  rw[List.take_length] at h2
  exact .inl ⟨⟨xs,s2.seq hx,Nat.le_refl _⟩,hq H2 s2 h2⟩
end L2
namespace Sf
open PySem L2 Pl
def spFreeP (K:PySem.W.Frag):Sp:=fun vs H Q _=>∃ (p q:Addr) (ns:List Int) (n:Nat) (cs:List Nat),vs=[.ref p,.ref q]∧SqL K H p (ns.map V.int)∧SqL K H q (cv cs)∧ns.Perm (iota n)∧1≤n∧n≤60∧NoX (plc ns)∧cs.Nodup∧(∀ c∈cs,c+1<n)∧cs.length≤60∧∀ (b:Bool) H',Same H H'→Q (.bl b) H'
def spPileOf (K:PySem.W.Frag):Sp:=fun vs H Q _=>∃ (z:Str),vs=[.str z]∧Lets z.cps.toList∧z.length≤99∧∀ v H',Same H H'→Q v H'
def spPiles (K:PySem.W.Frag):Sp:=fun vs H Q _=>∃ n:Nat,vs=[.int (n:Int)]∧1≤n∧n≤7∧∀ (l:Addr) (zs:List (Addr×List Int)) H',Same H H'→LZ H' l zs→(∀ z∈zs,z.2.Perm (iota n))→zs.length≤10000→Q (.ref l) H'
def spPilesWith (K:PySem.W.Frag):Sp:=fun vs H Q _=>∃ z:Str,vs=[.str z]∧Lets z.cps.toList∧z.length≤6∧∀ v H',Same H H'→Q v H'
theorem line_of {n:Nat}(h:n≤10001):n<sizeLine:=by rw[sizeLine_eq];omega
end Sf
namespace Sf
open PySem L2 Pl
def spCheckRow:Sp:=fun vs H Q _=>∃ z:Str,vs=[.str z]∧Lets z.cps.toList∧z.length≤99∧Q .non H
section
variable {P:Program}{w:World}{K:PySem.W.Frag}{mg:Str→Option Value}{base:Heap}
theorem scCheckRow:FnScope ["row"] ["row"] (defScope s_check_row):=fs
theorem ok_checkrow {f:Addr}{fd:FuncData}(D:Def K mg "check_row" s_check_row ["row"] f fd)(T:Own mg):FnOk P w K mg base CX0 1 f fd ["row"] spCheckRow:=by
 refine D.fn.ok scCheckRow (fun vs H Q E h=>?_) (fun cdv A outer s H vs Q E hr h=>?_)
 ·obtain⟨z,rfl,_⟩:=h
  rfl
 ·obtain⟨z,rfl,hL,hz,k⟩:=h
  refine⟨_,pss_one (ps_if (pt_cmpR op_ne (pe_op op_add (pe_bm PySem.F.plainAttrs_str PySem.F.slot_str_count PySem.F.type_str_count mt_count (pv 0) (pa_cons pe_str pa_nil)) (pe_bm PySem.F.plainAttrs_str PySem.F.slot_str_count PySem.F.type_str_count mt_count (pv 0) (pa_cons pe_str pa_nil)))
   (pe_callB call_len_str (by rfl) T.len PySem.boot_len (pa_cons (pv 0) pa_nil)) (nomark _)) pss_never pss_nil),?_⟩
  refine⟨_,rfl,rfl,z,_,rfl,rfl,_,rfl,rfl,z,_,rfl,rfl,_,_,rfl,rfl,_,rfl,z,rfl,small_line (by omega),rfl,_,rfl,?_⟩
  refine iteNS ?_ k
  show V.int _=V.int _
  rw[(count_lets z).mpr hL]
theorem scPileOf:FnScope ["row","pile","crease","sign","rises"] ["row"] (defScope s_pile_of):=fs
theorem ok_pileof {f fC:Addr}{fd fdC:FuncData}(D:Def K mg "pile_of" s_pile_of ["row"] f fd)(DC:Def K mg "check_row" s_check_row ["row"] fC fdC)(T:Own mg):FnOk P w K mg base CX0 2 f fd ["row"] (spPileOf K):=by
 have GC:FnOk P w K mg base CX0 1 fC fdC ["row"] spCheckRow:=ok_checkrow DC T
 refine D.fn.ok scPileOf (fun vs H Q E h=>?_) (fun cdv A outer s H vs Q E hr h=>?_)
 ·obtain⟨z,rfl,_⟩:=h
  rfl
 ·obtain⟨z,rfl,hL,hz,k⟩:=h
  refine⟨_,pss_cons (ps_expr (pe_call GC hr rfl DC.at_ DC.fn.kp DC.bd .nil pass0 (pa_cons (pv 0) pa_nil)))
   (pss_cons (ps_set (i:=1) scPileOf.nd rfl (Or.inl rfl) (pe_lst (pa_cons pe_int pa_nil)))
   (pss_cons (ps_for PassesOwn.never rfl (pi_enumS rfl T.enumerate (pa_cons (pv 0) pa_nil)) (pg_tup rfl (pgs_cons (pg_name (i:=2) scPileOf.nd rfl (Or.inl rfl)) (pgs_cons (pg_name (i:=3) scPileOf.nd rfl (Or.inl rfl)) pgs_nil)))
    (pss_cons (ps_set (i:=4) scPileOf.nd rfl (Or.inl rfl) (pe_cmpR op_eq (pe_cmpR op_eq (pv 3) pe_str (nomark _)) (pe_cmpR op_eq (pe_op op_mod (pv 2) pe_int) pe_int (nomark _)) (nomark _)))
    (pss_one (ps_if (pt_val (pv 4)) (pss_one (ps_expr (pe_bm PySem.F.plainAttrs_list PySem.F.slot_list_append PySem.F.type_list_append mt_append (pv 1) (pa_cons (pe_op op_add (pv 2) pe_int) pa_nil))))
     (pss_one (ps_expr (pe_bm PySem.F.plainAttrs_list PySem.F.slot_list_insert PySem.F.type_list_insert mt_ins0 (pv 1) (pa_cons pe_int (pa_cons (pe_op op_add (pv 2) pe_int) pa_nil)))))))))
   (pss_one (ps_ret (pv 1))))),?_⟩
  refine⟨_,rfl,z,rfl,hL,hz,small_line (by decide),fun l hl=>?_⟩
  have s1:=same_new (o:=.lst [V.int 0]) hl
  have zs:z.cps.size=z.length:=rfl
  refine⟨_,rfl,z,rfl,for_enumS (z:=z) (fun i σ H2=>∃ (ms:List Int) (u v r:Option V),σ=[some (.str z),some (.ref l),u,v,r]∧Same H H2∧H2 l=some (.lst (ms.map V.int))∧ms.length=i+1)
   ⟨[0],none,none,none,rfl,s1,upd_same,rfl⟩ ?_ ?_⟩
  ·rintro i c t σ H2 hi ht ⟨ms,u,v,r,rfl,s2,hl2,ml⟩
   have il:i<z.length:=by
    have:=(Array.getElem?_eq_some_iff.mp hi).1
    omega
   have s3:=same_new (o:=.tup [.int (i:Nat),.str ⟨#[c]⟩]) ht
   have s13:Same H (upd H2 t (.tup [.int (i:Nat),.str ⟨#[c]⟩])):=s2.trans s3
   have hl3:=s3 _ _ hl2
   refine⟨t,_,rfl,SqT.of upd_same,rfl,_,_,rfl,_,_,rfl,rfl,?_⟩
   refine⟨_,rfl,rfl,_,rfl,_,_,rfl,rfl,(by show (0:Int)<2;decide),rfl,rfl,?_⟩
   refine⟨_,rfl,_,rfl,?_⟩
   have small:ms.length<sizeLine:=small1000 (by omega)
   refine ite2 (fun _=>?_) (fun _=>?_)
   ·refine⟨_,rfl,.inl ⟨rfl,_,SqL.of hl3⟩,_,rfl,_,_,rfl,rfl,l,_,_,rfl,rfl,hl3,by rw[List.length_map];exact small,?_⟩
    refine⟨ms++[(i:Int)+1],_,_,_,rfl,fun b o eb=>?_,?_,by rw[List.length_append,ml];rfl⟩
    ·rw[upd_ne (ne_of_none eb hl)]
     exact s13 b o eb
    ·rw[upd_same,List.map_append]
     rfl
   ·refine⟨_,rfl,.inl ⟨rfl,_,SqL.of hl3⟩,_,rfl,_,_,rfl,rfl,l,_,_,rfl,rfl,hl3,by rw[List.length_map];exact small,?_⟩
    refine⟨((i:Int)+1)::ms,_,_,_,rfl,fun b o eb=>?_,?_,by rw[List.length_cons,ml]⟩
    ·rw[upd_ne (ne_of_none eb hl)]
     exact s13 b o eb
    ·rw[upd_same]
     rfl
  ·rintro σ H2 ⟨ms,u,v,r,rfl,s2,hl2,_⟩
   exact⟨_,rfl,k _ H2 s2⟩
end
end Sf
namespace Sf
open PySem L2 Pl
def spCheckCount:Sp:=fun vs H Q _=>∃ n:Nat,vs=[.int (n:Int)]∧1≤n∧n≤7∧Q .non H
def spLaid (K:PySem.W.Frag):Sp:=fun vs H Q _=>∃ (p:Addr) (ns:List Int) (n:Nat),vs=[.ref p,.int (n:Int)]∧SqL K H p (ns.map V.int)∧ns.length=n∧n≤60 ∧
 ∀ (l:Addr) (zs:List (Addr×List Int)) H',Same H H'→LZ H' l zs→(∀ z∈zs,H z.1=none)→zs.map (·.2)=(List.range (n+1)).map (ins ns)→Q (.ref l) H'
section
variable {P:Program}{w:World}{K:PySem.W.Frag}{mg:Str→Option Value}{base:Heap}
seal PS PSs PE PA
theorem scCount:FnScope ["many"] ["many"] (defScope s_check_count):=fs
theorem ok_count {f:Addr}{fd:FuncData}{tk:Tok}(D:Def K mg "check_count" s_check_count ["many"] f fd)(C:mg "MOST_STAMPS"=some (.int 7 tk)):FnOk P w K mg base CX0 1 f fd ["many"] spCheckCount:=by
 refine D.fn.ok scCount (fun vs H Q E h=>?_) (fun cdv A outer s H vs Q E hr h=>?_)
 ·obtain⟨n,rfl,_⟩:=h
  rfl
 ·obtain⟨n,rfl,h1,h2,k⟩:=h
  refine⟨_,pss_one (ps_if (pw_or (pt_cmpR op_lt (pv 0) pe_int (nomark _)) (pw_or1 (pt_cmpR op_gt (pv 0) (pe_glob (v:=.int 7) (by rfl) C ⟨_,rfl⟩) (nomark _)))).pt pss_never pss_nil),?_⟩
  refine⟨_,rfl,_,_,rfl,rfl,_,rfl,ite2 (fun z=>?_) (fun _=>?_)⟩
  ·have:=of_decide_eq_true z
   omega
  ·refine⟨_,rfl,_,_,rfl,rfl,_,rfl,ite2 (fun z=>?_) (fun _=>?_)⟩
   ·have:=of_decide_eq_true z
    omega
   ·exact k
theorem scLaid:FnScope ["pile","stamp"] ["pile","stamp"] (defScope s_laid_in):=fs
theorem ok_laid {f:Addr}{fd:FuncData}(D:Def K mg "laid_in" s_laid_in ["pile","stamp"] f fd)(T:Own mg):FnOk P w K mg base CX0 1 f fd ["pile","stamp"] (spLaid K):=by
 refine D.fn.ok scLaid (fun vs H Q E h=>?_) (fun cdv A outer s H vs Q E hr h=>?_)
 ·obtain⟨p,ns,n,rfl,_⟩:=h
  rfl
 ·obtain⟨p,ns,n,rfl,hq,hn,h2,k⟩:=h
  refine⟨_,pss_one (ps_ret (pe_lcomp (cap:=[0,1]) (caps:=["pile","stamp"]) rfl (pi_range1 rfl T.range (pa_cons (pe_op op_add (pe_callB call_len_seq (by rfl) T.len PySem.boot_len (pa_cons (pv 0) pa_nil)) pe_int) pa_nil))
     rfl (by decide +kernel) (by decide +kernel) rfl (by show ∀ y:Str×NameKind,y∈_→y.2=NameKind.free→(defScope s_laid_in).names.lookup y.1=some .cell∨(defScope s_laid_in).names.lookup y.1=some .free;decide +kernel) rfl
     (fun y hy=>by rcases List.mem_cons.mp hy with rfl | hy;exact⟨.inl rfl,.inl rfl⟩;rw[List.mem_singleton.mp hy];exact⟨.inl rfl,.inl rfl⟩) (by decide +kernel)
     (fun cl s₃ H₃ fp=>⟨pifs_nil,pe_op op_cat (pe_op op_cat (pe_slice (sl_listK (K:=K) rfl) (pv 1) po_none (po_some (pv 0))) (pe_lst (pa_cons (pv 2) pa_nil))) (pe_slice (sl_listK (K:=K) rfl) (pv 1) (po_some (pv 0)) po_none)⟩))),?_⟩
  refine⟨_,rfl,p,_,rfl,.inl hq,_,_,rfl,rfl,_,rfl,?_,?_,fun l hl=>?_⟩
  ·rw[List.length_map,hn];omega
  ·rw[List.length_map,hn];omega
  have en:(((ns.map V.int).length:Int)+1).toNat=n+1:=by rw[List.length_map,hn];omega
  rw[en]
  refine lc_rangeR (lo:=0) (n:=n+1) (fun i v H2=>∃ a,v=.ref a∧H a=none∧a≠l∧H2 a=some (.lst ((ins ns i).map V.int))) ?_ (by omega) hl ?_ ?_
  ·rintro i v H2 H3 ⟨a,rfl,h1,h2,h3⟩ kp
   exact⟨a,rfl,h1,h2,kp a _ h2 h3⟩
  ·intro i ys H2 R hi s2 h2l kR
   rw[show (0:Int)+(i:Nat)=(i:Int) by omega]
   have gl:i≤(ns.map V.int).length:=by rw[List.length_map];omega
   have h3:SqL K H2 p (ns.map V.int):=s2.seq hq
   refine⟨_,rfl,_,rfl,_,rfl,p,_,rfl,h3,fun p1 hp1=>?_⟩
   rw[cut_take _ gl]
   refine⟨_,rfl,small_line (by show 1≤1000;decide),fun p2 hp2=>?_⟩
   have t1:=same_new (o:=.lst ((ns.map V.int).take i)) hp1
   have t2:=same_new (o:=.lst [V.int (n:Int)]) hp2
   refine⟨p1,p2,_,_,rfl,rfl,t2 _ _ upd_same,upd_same,?_,fun p3 hp3=>?_⟩
   ·refine small_line ?_
    rw[List.length_take,List.length_map]
    simp
    omega
   have t3:=same_new (o:=.lst ((ns.map V.int).take i++[V.int (n:Int)])) hp3
   refine⟨_,rfl,_,rfl,_,rfl,p,_,rfl,t3.seq (t2.seq (t1.seq h3)),fun p4 hp4=>?_⟩
   rw[cut_drop _ gl]
   have t4:=same_new (o:=.lst ((ns.map V.int).drop i)) hp4
   refine⟨p3,p4,_,_,rfl,rfl,t4 _ _ upd_same,upd_same,?_,fun p5 hp5=>?_⟩
   ·refine small_line ?_
    rw[List.length_append,List.length_take,List.length_drop,List.length_map]
    simp
    omega
   have t5:=same_new (o:=.lst ((ns.map V.int).take i++[V.int (n:Int)]++(ns.map V.int).drop i)) hp5
   have s5:=t1.trans (t2.trans (t3.trans t4))
   refine kR _ _ (s5.trans t5) ⟨p5,rfl,?_,?_,?_⟩
   ·exact s2.free (s5.free hp5)
   ·intro z
    subst z
    rw[s5 _ _ h2l] at hp5
    cases hp5
   ·rw[upd_same]
    unfold ins
    rw[List.map_append,List.map_append,List.map_take,List.map_drop,hn]
    rfl
  ·intro vs H2 s2 hl2 vl hv
   obtain⟨zs,z1,z2,z3⟩:=lz_of (f:=ins ns) (G:=fun a=>H a=none) hl2 vl fun i v hi=>by
    obtain⟨a,h1,h2,h3,h4⟩:=hv i v hi
    exact⟨a,h1,h2,h4⟩
   exact k l zs H2 s2 z1 z2 z3
open Classical in
noncomputable def noxAt (H:Hp):V→Bool
 | .ref a=>decide (∃ ms:List Int,H a=some (.lst (ms.map V.int))∧NoX (plc ms))
 | _=>false
theorem noxAt_eq {H:Hp}{a:Addr}{ms:List Int}(h:H a=some (.lst (ms.map V.int))):noxAt H (.ref a)=noxb ms:=by
 refine Bool.eq_iff_iff.mpr ?_
 rw[noxb_iff]
 unfold noxAt
 simp only[decide_eq_true_eq]
 constructor
 ·rintro⟨xs,h1,h2⟩
  rw[h] at h1
  have:ms=xs:=map_int_inj (by injection h1 with h1;injection h1)
  exact this ▸ h2
 ·exact fun h2=>⟨ms,h,h2⟩
theorem scPiles:FnScope ["many","found","stamp","grown","smaller"] ["many"] (defScope s_piles):=fs
theorem ok_piles {f fC fL fX fCk fP fCr fW:Addr}{fd fdC fdL fdX fdCk fdP fdCr fdW:FuncData}{tk:Tok}(D:Def K mg "piles" s_piles ["many"] f fd)(DC:Def K mg "check_count" s_check_count ["many"] fC fdC)(C:mg "MOST_STAMPS"=some (.int 7 tk))(DL:Def K mg "laid_in" s_laid_in ["pile","stamp"] fL fdL)
  (DX:Def K mg "crossing" sCrossing ["pile"] fX fdX) (DP:Def K mg "places" sPlaces ["pile"] fP fdP) (DCk:Def K mg "check_pile" sCheck ["pile"] fCk fdCk)
  (DCr:Def K mg "cross" sCross ["at","one","other"] fCr fdCr) (DW:Def K mg "wraps" sWraps ["at","crease","stamp"] fW fdW) (T:Own mg) (M:OwnM mg):FnOk P w K mg base CX0 4 f fd ["many"] (spPiles K):=by
 have GC:FnOk P w K mg base CX0 1 fC fdC ["many"] spCheckCount:=ok_count DC C
 have GL:FnOk P w K mg base CX0 1 fL fdL ["pile","stamp"] (spLaid K):=ok_laid DL T
 have GX:FnOk P w K mg base CX0 3 fX fdX ["pile"] (spCrossing K):=ok_crossing DX DP DCk DCr DW T M
 refine D.fn.ok scPiles (fun vs H Q E h=>?_) (fun cdv A outer s H vs Q E hr h=>?_)
 ·obtain⟨n,rfl,_⟩:=h
  rfl
 ·obtain⟨n,rfl,n1,n2,k⟩:=h
  have hr1:=hr.mono (show 1≤3 by decide)
  refine⟨_,pss_cons (ps_expr (pe_call GC hr1 rfl DC.at_ DC.fn.kp DC.bd .nil pass0 (pa_cons (pv 0) pa_nil)))
   (pss_cons (ps_set (i:=1) scPiles.nd rfl (Or.inl rfl) (pe_lst (pa_cons (pe_lst (pa_cons pe_int pa_nil)) pa_nil)))
   (pss_cons (ps_for PassesOwn.never rfl (pi_range2 rfl T.range (pa_cons pe_int (pa_cons (pv 0) pa_nil))) (pg_name (i:=2) scPiles.nd rfl (Or.inl rfl))
    (pss_cons (ps_set (i:=3) scPiles.nd rfl (Or.inl rfl) (pe_lst pa_nil))
    (pss_cons (ps_for PassesOwn.never rfl (pi_list (pv 1)) (pg_name (i:=4) scPiles.nd rfl (Or.inl rfl))
     (pss_one (ps_expr (pe_bm PySem.F.plainAttrs_list PySem.F.slot_list_extend PySem.F.type_list_extend mt_extend (pv 3) (pa_cons
      (pe_lcomp (cap:=[]) (caps:=[]) rfl (pi_list (pe_call GL hr1 rfl DL.at_ DL.fn.kp DL.bd .nil pass0 (pa_cons (pv 4) (pa_cons (pv 2) pa_nil))))
       rfl (by decide +kernel) (by decide +kernel) rfl (by show ∀ y:Str×NameKind,y∈_→y.2=NameKind.free→(defScope s_piles).names.lookup y.1=some .cell∨(defScope s_piles).names.lookup y.1=some .free;decide +kernel) rfl (fun y hy=>by cases hy) (by decide +kernel)
       (fun cl s₃ H₃ fp=>⟨pifs_one (pt_cmpR op_isN (pe_call GX hr rfl DX.at_ DX.fn.kp DX.bd .nil pass0 (pa_cons (pv 0) pa_nil)) pe_non (nomark _)),pv 0⟩)) pa_nil)))))
    (pss_one (ps_set (i:=1) scPiles.nd rfl (Or.inl rfl) (pv 3))))))
   (pss_one (ps_ret (pv 1))))),?_⟩
  refine⟨_,rfl,n,rfl,n1,n2,small_line (by decide),fun a0 h0=>⟨small_line (by show 1≤1000;decide),fun l0 hl0=>?_⟩⟩
  have t0:=same_new (o:=.lst [V.int 0]) h0
  have t1:=same_new (o:=.lst [V.ref a0]) hl0
  have z0:LZ (upd (upd H a0 (.lst [V.int 0])) l0 (.lst [V.ref a0])) l0 [(a0,[0])]:=⟨upd_same,fun z hz=>by
   rw[List.mem_singleton.mp hz]
   exact t1 _ _ upd_same⟩
  refine⟨_,rfl,1,(n:Int),rfl,⟨by decide,by decide,by omega,by omega⟩,for_range (lo:=1) (n:=((n:Int) - 1).toNat) (fun i σ H2=>∃ (l:Addr) (zs:List (Addr×List Int)) (u v r:Option V),σ=[some (.int (n:Int)),some (.ref l),u,v,r]∧Same H H2∧LZ H2 l zs∧(∀ z∈zs,z.2.Perm (iota (i+1)))∧zs.length≤fac (i+1))
   ⟨l0,[(a0,[0])],none,none,none,rfl,t0.trans t1,z0,fun z hz=>(by rw[List.mem_singleton.mp hz];exact List.Perm.refl _),Nat.le_refl 1⟩ ?_ ?_⟩
  ·rintro i σ H2 hi ⟨l,zs,u,v,r,rfl,s2,hz,zl,hf⟩
   refine⟨small_line (by decide),fun lg hlg=>?_⟩
   have t2:=same_new (o:=.lst []) hlg
   have lH:H lg=none:=s2.free hlg
   have nl:l≠lg:=ne_of_none hz.lst hlg
   have nz:∀ z∈zs,z.1≠lg:=fun z h=>ne_of_none (hz.at_ z h) hlg
   have n7:i+1≤6:=by omega
   refine⟨_,rfl,l,rfl,⟨_,SqL.of (hz.same t2).lst⟩,for_list (K:=K) (a:=l) (xs:=zs.map fun z=>V.ref z.1) (fun j σ H3=>∃ (gs:List (Addr×List Int)) (v:Option V),σ=[some (.int (n:Int)),some (.ref l),some (.int (1+(i:Int))),some (.ref lg),v]∧Same H H3∧LZ H3 l zs∧LZ H3 lg gs∧(∀ z∈gs,z.1≠lg)∧(∀ z∈gs,z.2.Perm (iota (i+2)))∧gs.length≤j * (i+2))
    ⟨[],r,rfl,s2.trans t2,hz.same t2,LZ.nil upd_same,fun z h=>(by cases h),fun z h=>(by cases h),Nat.zero_le _⟩ (fun j σ H3 _ ⟨_,_,_,_,h3,_⟩=>SqL.of h3.lst) ?_ ?_⟩
   ·rintro j x σ H3 hj ⟨gs,v3,rfl,s3,hz3,hg3,ng,pg,gl⟩
    rw[List.getElem?_map] at hj
    cases ez:zs[j]? with
    | none=>rw[ez] at hj;cases hj
    | some z =>
     rw[ez] at hj
     obtain rfl:V.ref z.1=x:=by simpa using hj
     have hm:=List.mem_of_getElem? ez
     have pz:=zl z hm
     have lz:=perm_len pz
     refine⟨_,rfl,.inl ⟨rfl,_,SqL.of hg3.lst⟩,?_⟩
     refine⟨_,rfl,_,rfl,z.1,z.2,i+1,?_,SqL.of (hz3.at_ z hm),lz,by omega,fun ll bs H4 s4 hb fb eb=>?_⟩
     ·show [V.ref z.1,V.int (1+(i:Int))]=[V.ref z.1,V.int ((i+1:Nat):Int)]
      rw[show ((i+1:Nat):Int)=1+(i:Int) by omega]
     refine⟨ll,rfl,⟨_,SqL.of hb.lst⟩,fun l5 hl5=>?_⟩
     have bl:bs.length=i+2:=by
      have:=congrArg List.length eb
      rw[List.length_map,List.length_map,List.length_range] at this
      exact this
     have pb:∀ b∈bs,b.2.Perm (iota (i+2)):=fun b hb=>by
      have:b.2∈bs.map (·.2):=List.mem_map_of_mem hb
      rw[eb] at this
      obtain⟨g,_,e⟩:=List.mem_map.mp this
      rw[← e]
      exact ins_perm pz g
     refine lc_list_if (p:=noxAt H4) (f:=id) (by rw[List.length_map];omega) hl5 (SqL.of hb.lst) ?_ ?_ ?_
     ·intro x H5 R hx s5 kR
      obtain⟨b,hbm,rfl⟩:=List.mem_map.mp hx
      have hb4:=hb.at_ b hbm
      refine⟨_,rfl,b.1,b.2,i+2,rfl,SqL.of (s5 _ _ hb4),pb b hbm,by omega,by omega,fun H6 s6 nx=>?_,fun t a1 a2 H6 s6 ht _ h1 h2 h3 h4=>?_⟩
      ·refine⟨rfl,_,rfl,?_⟩
       have e:noxAt H4 (.ref b.1)=true:=(noxAt_eq hb4).trans ((noxb_iff _).mpr nx)
       have:=kR H6 s6
       rw[e] at this
       exact this
      ·refine⟨rfl,_,rfl,?_⟩
       have e:noxAt H4 (.ref b.1)=false:=(noxAt_eq hb4).trans (by
        cases q:noxb b.2 with
        | false=>rfl
        | true =>
         have:=(noxb_iff _).mp q a1 a2 h1 (by rw[plc_length,perm_len (pb b hbm)];exact h2) h3
         rw[h4] at this
         cases this)
       have:=kR H6 s6
       rw[e] at this
       exact this
     ·intro x H5 R hx _ s5 kR
      exact⟨_,rfl,kR H5 (Same.refl _)⟩
     ·intro H5 s5 h5
      have fl:((bs.map fun z=>V.ref z.1).filter (noxAt H4)).map id=(bs.filter fun b=>noxb b.2).map fun z=>V.ref z.1:=by
       rw[List.map_id,List.filter_map]
       congr 1
       refine List.filter_congr fun b hbm=>?_
       exact noxAt_eq (hb.at_ b hbm)
      rw[fl] at h5
      have hb5:LZ H5 l5 (bs.filter fun b=>noxb b.2):=⟨h5,fun b hbm=>s5 _ _ (hb.at_ b (List.mem_filter.mp hbm).1)⟩
      have hg5:=(hg3.same s4).same s5
      have jz:j<zs.length:=(List.getElem?_eq_some_iff.mp ez).1
      have gb:gs.length≤zs.length * 7:=Nat.le_trans gl (Nat.mul_le_mul (by omega) (by omega))
      have f7:=fac7 (show i+1≤7 by omega)
      refine⟨lg,l5,_,_,rfl,rfl,hg5.lst,h5,?_,?_⟩
      ·rw[List.length_map,List.length_map]
       have:(bs.filter fun b=>noxb b.2).length≤bs.length:=List.length_filter_le _ _
       refine Nat.le_of_lt (line_big (n:=_) ?_)
       omega
      ·have kp:∀ b o,b≠lg→H5 b=some o→upd H5 lg (.lst ((gs.map fun z=>V.ref z.1)++((bs.filter fun b=>noxb b.2).map fun z=>V.ref z.1))) b=some o:=fun b o nb e=>by rw[upd_ne nb];exact e
       have nb:∀ b∈bs,b.1≠lg:=fun b hbm e=>by
        have:=fb b hbm
        rw[e,hg3.lst] at this
        cases this
       refine⟨gs++bs.filter fun b=>noxb b.2,_,rfl,fun b o e=>?_,(((hz3.same s4).same s5)).but nl nz kp,⟨by rw[upd_same,List.map_append],fun b hbm=>?_⟩,fun b hbm=>?_,fun b hbm=>?_,?_⟩
       ·exact kp b o (ne_of_none e lH) (s5 _ _ (s4 _ _ (s3 _ _ e)))
       ·rcases List.mem_append.mp hbm with h | h
        ·exact kp _ _ (ng b h) (hg5.at_ b h)
        ·exact kp _ _ (nb b (List.mem_filter.mp h).1) (hb5.at_ b h)
       ·rcases List.mem_append.mp hbm with h | h
        ·exact ng b h
        ·exact nb b (List.mem_filter.mp h).1
       ·rcases List.mem_append.mp hbm with h | h
        ·exact pg b h
        ·exact pb b (List.mem_filter.mp h).1
       ·rw[List.length_append,Nat.add_mul,Nat.one_mul]
        have:(bs.filter fun b=>noxb b.2).length≤bs.length:=List.length_filter_le _ _
        omega
   ·rintro σ H3 ⟨gs,v3,rfl,s3,hz3,hg3,ng,pg,gl⟩
    rw[List.length_map] at gl
    refine⟨_,rfl,lg,gs,_,_,_,rfl,s3,hg3,pg,Nat.le_trans gl ?_⟩
    exact Nat.mul_le_mul hf (Nat.le_refl _)
  ·rintro σ H2 ⟨l,zs,u,v,r,rfl,s2,hz,zl,hf⟩
   have e:((n:Int) - 1).toNat+1=n:=by omega
   rw[e] at zl hf
   exact⟨_,rfl,k l zs H2 s2 hz zl (Nat.le_trans hf (fac7 n2))⟩
theorem scPilesWith:FnScope ["row"] ["row"] (defScope s_piles_with):=fs
open Classical in
noncomputable def letAt (H:Hp)(z:Str):V→Bool
 | .ref a=>decide (∃ ms:List Int,H a=some (.lst (ms.map V.int))∧lcs (plc ms)=z.cps.toList)
 | _=>false
theorem letAt_eq {H:Hp}{z:Str}{a:Addr}{ms:List Int}(h:H a=some (.lst (ms.map V.int))):letAt H z (.ref a)=decide (lcs (plc ms)=z.cps.toList):=by
 refine Bool.eq_iff_iff.mpr ?_
 unfold letAt
 simp only[decide_eq_true_eq]
 constructor
 ·rintro⟨xs,h1,h2⟩
  rw[h] at h1
  have:ms=xs:=map_int_inj (by injection h1 with h1;injection h1)
  exact this ▸ h2
 ·exact fun h2=>⟨ms,h,h2⟩
theorem ok_pileswith {f fR fPs fLe:Addr}{fd fdR fdPs fdLe:FuncData}(D:Def K mg "piles_with" s_piles_with ["row"] f fd)(DR:Def K mg "check_row" s_check_row ["row"] fR fdR)(DPs:Def K mg "piles" s_piles ["many"] fPs fdPs)(GPs:FnOk P w K mg base CX0 4 fPs fdPs ["many"] (spPiles K))
  (DLe:Def K mg "letters" sLetters ["pile"] fLe fdLe) (GLe:FnOk P w K mg base CX0 3 fLe fdLe ["pile"] (spLetters K)) (T:Own mg):FnOk P w K mg base CX0 5 f fd ["row"] (spPilesWith K):=by
 have GR:FnOk P w K mg base CX0 1 fR fdR ["row"] spCheckRow:=ok_checkrow DR T
 refine D.fn.ok scPilesWith (fun vs H Q E h=>?_) (fun cdv A outer s H vs Q E hr h=>?_)
 ·obtain⟨z,rfl,_⟩:=h
  rfl
 ·obtain⟨z,rfl,hL,hz,k⟩:=h
  have hr1:=hr.mono (show 1≤4 by decide)
  have hr3:=hr.mono (show 3≤4 by decide)
  refine⟨_,pss_cons (ps_expr (pe_call GR hr1 rfl DR.at_ DR.fn.kp DR.bd .nil pass0 (pa_cons (pv 0) pa_nil)))
   (pss_one (ps_ret (pe_lcomp (cap:=[0]) (caps:=["row"]) rfl (pi_list (pe_call GPs hr rfl DPs.at_ DPs.fn.kp DPs.bd .nil pass0 (pa_cons (pe_op op_add (pe_callB call_len_str (by rfl) T.len PySem.boot_len (pa_cons (pv 0) pa_nil)) pe_int) pa_nil)))
     rfl (by decide +kernel) (by decide +kernel) rfl (by show ∀ y:Str×NameKind,y∈_→y.2=NameKind.free→(defScope s_piles_with).names.lookup y.1=some .cell∨(defScope s_piles_with).names.lookup y.1=some .free;decide +kernel) rfl (fun y hy=>by rw[List.mem_singleton.mp hy];exact⟨.inl rfl,.inl rfl⟩) (by decide +kernel)
     (fun cl s₃ H₃ fp=>⟨pifs_one (pt_cmpR op_eq (pe_call GLe hr3 rfl DLe.at_ DLe.fn.kp DLe.bd .nil pass0 (pa_cons (pv 0) pa_nil)) (pv 1) (nomark _)),pv 0⟩)))),?_⟩
  refine⟨_,rfl,z,rfl,hL,by omega,_,rfl,z,rfl,small_line (by omega),_,_,rfl,rfl,z.length+1,?_,by omega,by omega,fun l zs H1 s1 lz hp hzl=>?_⟩
  ·rw[show ((z.length+1:Nat):Int)=(z.length:Int)+1 by omega]
   rfl
  refine⟨l,rfl,⟨_,SqL.of lz.lst⟩,fun l5 hl5=>?_⟩
  refine lc_list_big (p:=letAt H1 z) (f:=id) (by rw[List.length_map];exact line_of (by omega)) hl5 (SqL.of lz.lst) ?_ ?_ ?_
  ·intro x H5 R hx s5 kR
   obtain⟨b,hbm,rfl⟩:=List.mem_map.mp hx
   have hb4:=lz.at_ b hbm
   refine⟨_,rfl,b.1,b.2,z.length+1,rfl,SqL.of (s5 _ _ hb4),hp b hbm,by omega,by omega,fun y H6 s6 ey=>?_⟩
   refine⟨_,rfl,rfl,_,rfl,?_⟩
   have e:decide (V.str y=V.str z)=letAt H1 z (.ref b.1):=by
    rw[letAt_eq hb4,← ey]
    refine Bool.eq_iff_iff.mpr ?_
    rw[decide_eq_true_eq,decide_eq_true_eq]
    constructor
    ·intro q
     injection q with q
     rw[q]
    ·intro q
     have:y.cps=z.cps:=Array.ext' q
     cases y
     cases z
     cases this
     rfl
   rw[e]
   exact kR H6 s6
  ·intro x H5 R hx _ s5 kR
   exact⟨_,rfl,kR H5 (Same.refl _)⟩
  ·intro H5 s5 h5
   exact k _ H5 (s1.trans s5)
end
end Sf
namespace Sf
open PySem L2 Pl
section
variable {P:Program}{w:World}{K:PySem.W.Frag}{mg:Str→Option Value}{base:Heap}
seal PS PSs PE PA
theorem scFreeP:FnScope ["pile","creases","at"] ["pile","creases"] (defScope s_free):=fs
theorem ok_free {f fF fC fL:Addr}{fd fdF fdC fdL:FuncData}(D:Def K mg "free" s_free ["pile","creases"] f fd)(DF:Def K mg "foldable_places" s_foldable_places ["pile"] fF fdF)(GF:FnOk P w K mg base CX0 4 fF fdF ["pile"] (spFoldP K))
  (DC:Def K mg "check_creases" s_check_creases ["stamps","creases"] fC fdC) (DL:Def K mg "lies_free" s_lies_free ["at","opened"] fL fdL) (GL:FnOk P w K mg base CX0 3 fL fdL ["at","opened"] (spLies K)) (T:Own mg) (Z:OwnZ mg):FnOk P w K mg base CX0 5 f fd ["pile","creases"] (spFreeP K):=by
 have GC:FnOk P w K mg base CX0 1 fC fdC ["stamps","creases"] (spCheckCr K):=ok_checkcr DC T Z
 refine D.fn.ok scFreeP (fun vs H Q E h=>?_) (fun cdv A outer s H vs Q E hr h=>?_)
 ·obtain⟨p,q,ns,n,cs,rfl,_⟩:=h
  rfl
 ·obtain⟨p,q,ns,n,cs,rfl,hp,hq,pm,h1,h2,nx,nd,hb,hl,k⟩:=h
  have hr1:=hr.mono (show 1≤4 by decide)
  have hr3:=hr.mono (show 3≤4 by decide)
  have pl:(plc ns).length=n:=by rw[plc_length,perm_len pm]
  refine⟨_,pss_cons (ps_set (i:=2) scFreeP.nd rfl (Or.inl rfl) (pe_call GF hr rfl DF.at_ DF.fn.kp DF.bd .nil pass0 (pa_cons (pv 0) pa_nil)))
   (pss_cons (ps_expr (pe_call GC hr1 rfl DC.at_ DC.fn.kp DC.bd .nil pass0 (pa_cons (pe_callB call_len_seq (by rfl) T.len PySem.boot_len (pa_cons (pv 2) pa_nil)) (pa_cons (pv 1) pa_nil))))
   (pss_one (ps_ret (pe_call GL hr3 rfl DL.at_ DL.fn.kp DL.bd .nil pass0 (pa_cons (pv 2) (pa_cons (pe_callB call_sorted (by rfl) T.sorted PyProof.Rows.boot_sorted (pa_cons (pv 1) pa_nil)) pa_nil)))))),?_⟩
  refine⟨_,rfl,p,ns,n,rfl,hp,pm,h1,h2,nx,fun la H1 s1 hla0 hla=>?_⟩
  refine⟨_,rfl,la,_,rfl,.inl (SqL.of hla),_,rfl,q,n,cs,?_,s1.seq hq,nd,hb,hl,fun H2 s2=>?_⟩
  ·show [V.int (((plc ns).map V.int).length:Int),V.ref q]=[V.int (n:Int),V.ref q]
   rw[List.length_map,pl]
  refine⟨_,rfl,_,rfl,q,cz cs,rfl,s2.seq (s1.seq hq),by rw[List.length_map];omega,fun l ms hl0 mp so=>?_⟩
  have t3:=same_new (o:=.lst (ms.map V.int)) hl0
  have mz:ms=cz (ms.map Int.toNat):=by
   have e:ms.map ((fun (c:Nat)=>(c:Int)) ∘ Int.toNat)=ms.map id:=List.map_congr_left fun x hx=>by
    obtain⟨c,_,rfl⟩:=List.mem_map.mp (mp.mem_iff.mp hx)
    show ((Int.toNat (c:Int):Nat):Int)=(c:Int)
    rw[Int.toNat_natCast]
   show ms=List.map (fun (c:Nat)=>(c:Int)) (List.map Int.toNat ms)
   rw[List.map_map,e,List.map_id]
  have mm:∀ c,c∈ms.map Int.toNat↔c∈cs:=fun c=>by
   rw[List.mem_map]
   constructor
   ·rintro⟨x,hx,rfl⟩
    obtain⟨c,hc,rfl⟩:=List.mem_map.mp (mp.mem_iff.mp hx)
    rw[Int.toNat_natCast]
    exact hc
   ·intro hc
    exact⟨(c:Int),mp.mem_iff.mpr (List.mem_map.mpr ⟨c,hc,rfl⟩),by rw[Int.toNat_natCast]⟩
  have ndz:(cz cs).Nodup:=by
   unfold List.Nodup
   rw[List.pairwise_map]
   exact nd.imp fun h z=>h (by omega)
  have inc:(ms.map Int.toNat).Pairwise (·<·):=by
   rw[List.pairwise_map]
   refine List.Pairwise.imp_of_mem ?_ (List.pairwise_and_iff.mpr ⟨so,mp.nodup_iff.mpr ndz⟩)
   intro a b ha hb' hab
   obtain⟨ca,_,rfl⟩:=List.mem_map.mp (mp.mem_iff.mp ha)
   obtain⟨cb,_,rfl⟩:=List.mem_map.mp (mp.mem_iff.mp hb')
   have h1:=hab.1
   have h2:=hab.2
   rw[Int.toNat_natCast,Int.toNat_natCast]
   omega
  refine⟨la,l,plc ns,ms.map Int.toNat,rfl,SqL.of (t3 _ _ (s2 _ _ hla)),?_,by omega,by omega,inc,fun c hc=>by rw[pl];exact hb c ((mm c).mp hc),?_,fun b H3 s3=>k b H3 (s1.trans (s2.trans (t3.trans s3)))⟩
  ·rw[upd_same]
   conv=>lhs;rw[mz]
  ·rw[List.length_map,mp.length_eq,List.length_map]
   exact hl
end
end Sf
namespace Sf
open PySem L2 Pl
abbrev sInit:Stmt:=inClass s_Bench 0
structure BCl (K:PySem.W.Frag)(C:Addr):Prop where
 cl:Cls K C
 nAt:NoAttr K C "at"
 nPi:NoAttr K C "pile"
 nOp:NoAttr K C "opened"
def spInitA (K:PySem.W.Frag)(C:Addr):Sp:=fun vs H Q _=>∃ (x p dx:Addr) (ns:List Int) (n:Nat),vs=[.ref x,.ref p]∧H x=some (.ins C dx [])∧SqL K H p (ns.map V.int)∧p≠x∧ns.Perm (iota n)∧1≤n∧n≤60∧NoX (plc ns) ∧
 ∀ H',(∀ y o,H y=some o→y≠x→H' y=some o)→Q .non H'
section
variable {P:Program}{w:World}{K:PySem.W.Frag}{mg:Str→Option Value}{base:Heap}
seal PS PSs PE PA
theorem scInitB:FnScope ["self","pile"] ["self","pile"] (defScope sInit):=fs
theorem ok_initA {C f fF:Addr}{fd fdF:FuncData}(F:Fun K "__init__" "Bench.__init__" sInit f fd)(BC:BCl K C)(DF:Def K mg "foldable_places" s_foldable_places ["pile"] fF fdF)(GF:FnOk P w K mg base CX0 4 fF fdF ["pile"] (spFoldP K))(T:Own mg):FnOk P w K mg base CX0 5 f fd ["self","pile"] (spInitA K C):=by
 refine F.ok scInitB (fun vs H Q E h=>?_) (fun cdv A outer s H vs Q E hr h=>?_)
 ·obtain⟨x,p,dx,ns,n,rfl,_⟩:=h
  rfl
 ·obtain⟨x,p,dx,ns,n,rfl,hx,hp,npx,pm,n1,n2,nx,k⟩:=h
  have l1:∀ {v:V},(putF "at" v []).length<1000:=fun {v}=>Nat.lt_of_le_of_lt (length_putF _ _ _) (by decide)
  have l2:∀ {v u:V},(putF "pile" u (putF "at" v [])).length<1000:=fun {v u}=>Nat.lt_of_le_of_lt (length_putF _ _ _) (Nat.lt_of_le_of_lt (Nat.add_le_add_right (length_putF _ _ _) 1) (by decide))
  refine⟨_,pss_cons (ps_fld (pv 0) (pe_call GF hr rfl DF.at_ DF.fn.kp DF.bd .nil pass0 (pa_cons (pv 1) pa_nil)) rfl)
   (pss_cons (ps_fld (pv 0) (pe_callTy call_list_of (by rfl) T.list boot_list (pa_cons (pv 1) pa_nil)) rfl)
   (pss_one (ps_fld (pv 0) (pe_lst pa_nil) rfl))),?_⟩
  refine⟨_,rfl,p,ns,n,rfl,hp,pm,n1,n2,nx,fun la H1 s1 hla0 hla=>?_⟩
  refine⟨_,rfl,x,C,dx,[],rfl,s1 _ _ hx,BC.cl,BC.nAt,by decide,?_⟩
  have k2:∀ y o,H1 y=some o→y≠x→upd H1 x (.ins C dx (putF "at" (.ref la) [])) y=some o:=fun y o e ny=>by rw[upd_ne ny];exact e
  have hp2:SqL K (upd H1 x (.ins C dx (putF "at" (.ref la) []))) p (ns.map V.int):=by
   rcases s1.seq hp with (h | ⟨o,h⟩) | h
   ·exact .inl (.inl (k2 _ _ h npx))
   ·exact .inl (.inr ⟨o,k2 _ _ h npx⟩)
   ·exact .inr h
  refine⟨_,rfl,p,_,rfl,.inl hp2,fun lp hlp=>?_⟩
  have t3:=same_new (o:=.lst (ns.map V.int)) hlp
  refine⟨_,rfl,x,C,dx,_,rfl,t3 _ _ upd_same,BC.cl,BC.nPi,l1,?_⟩
  refine⟨small_line (by decide),fun lo hlo=>?_⟩
  have t5:=same_new (o:=.lst []) hlo
  refine⟨_,rfl,x,C,dx,_,rfl,t5 _ _ upd_same,BC.cl,BC.nOp,l2,k _ fun y o e ny=>?_⟩
  rw[upd_ne ny]
  refine t5 _ _ ?_
  rw[upd_ne ny]
  exact t3 _ _ (k2 _ _ (s1 _ _ e) ny)
end
end Sf
namespace Sf
open PySem L2 Pl
structure DefD (K:PySem.W.Frag)(mg:Str→Option Value)(x:Str)(st:Stmt)(ps:List Str)(ds:List Value)(f:Addr)(fd:FuncData):Prop where
 ex:∃ (oc:Value) (od:Option Addr) (dV kV doc pm:Value) (an:Option Addr) (cdv ct:Value) (osl:Array (Option Value)),
  fd=PySem.W.fnOf x x (defArgs st) (defBody st) (defScope st) dV kV doc pm an cdv ct∧K.lookup f=some ⟨oc,od,.func fd,osl⟩∧PySem.W.codeIn K cdv x=true
 kp:PySem.W.keepIn K (.ref f)=true
 bd:Binds K fd ps []
 at_:mg x=some (.ref f)
section
variable {P:Program}{w:World}{K:PySem.W.Frag}{mg:Str→Option Value}{base:Heap}
theorem DefD.ok {x:Str}{st:Stmt}{f:Addr}{fd:FuncData}{N ps:List Str}{ds:List Value}{k:Nat}{sp:Sp}(F:DefD K mg x st ps ds f fd)(S:FnScope N ps (defScope st))(len:∀ vs H Q E,sp vs H Q E→vs.length=ps.length)
  (hbody:∀ (cdv:Value) (A:Around) (outer:List Env) (s:Shared) (H:Hp) (vs:List V) (Q:VK) (E:XK),Room k (A.deeper (PyProof.Rows.envOfC x (defScope st) s.heap.objs.size f cdv))→sp vs H Q E →
   ∃ t,PSs (cxOf CX0 P w K mg base N x (defScope st) f cdv A outer s H E).nox (defBody st) t∧t { nx:=fun _ H'=>Q .non H',rt:=Q } (start N vs) H):FnOk P w K mg base CX0 (k+1) f fd ps sp:=by
 obtain⟨oc,od,dV,kV,doc,pm,an,cdv,ct,osl,rfl,lk,hcd⟩:=F.ex
 refine fn_of lk hcd S len fun A outer s H vs Q E hr hsp=>?_
 obtain⟨t,h,q⟩:=hbody cdv A outer s H vs Q E hr hsp
 exact⟨t,h.nox,q⟩
theorem DefD.okX {x:Str}{st:Stmt}{f:Addr}{fd:FuncData}{N ps:List Str}{ds:List Value}{k:Nat}{sp:Sp}(F:DefD K mg x st ps ds f fd)(S:FnScope N ps (defScope st))(len:∀ vs H Q E,sp vs H Q E→vs.length=ps.length)
  (hbody:∀ (cdv:Value) (A:Around) (outer:List Env) (s:Shared) (H:Hp) (vs:List V) (Q:VK) (E:XK),Room k (A.deeper (PyProof.Rows.envOfC x (defScope st) s.heap.objs.size f cdv))→sp vs H Q E →
   ∃ t,PSs (cxOf (CX1 P w) P w K mg base N x (defScope st) f cdv A outer s H E) (defBody st) t∧t { nx:=fun _ H'=>Q .non H',rt:=Q } (start N vs) H):FnOk P w K mg base (CX1 P w) (k+1) f fd ps sp:=by
 obtain⟨oc,od,dV,kV,doc,pm,an,cdv,ct,osl,rfl,lk,hcd⟩:=F.ex
 exact fn_of lk hcd S len fun A outer s H vs Q E hr hsp=>hbody cdv A outer s H vs Q E hr hsp
def spTurnedA (K:PySem.W.Frag):Sp:=fun vs H Q _=>∃ (p:Addr) (ns:List Int) (n:Nat) (b:Int),vs=[.ref p,.int b]∧SqL K H p (ns.map V.int)∧ns.Perm (iota n)∧1≤n∧n≤60∧∀ v H',Same H H'→Q v H'
theorem scTurned:FnScope ["pile","by","shift"] ["pile","by"] (defScope sTurned):=fs
theorem ok_turned {f fC:Addr}{fd fdC:FuncData}{ds:List Value}(D:DefD K mg "turned" sTurned ["pile","by"] ds f fd)(DC:Def K mg "check_pile" sCheck ["pile"] fC fdC)(T:Own mg):FnOk P w K mg base CX0 2 f fd ["pile","by"] (spTurnedA K):=by
 have GC:FnOk P w K mg base CX0 1 fC fdC ["pile"] (spCheck K):=ok_check DC T
 refine D.ok scTurned (fun vs H Q E h=>?_) (fun cdv A outer s H vs Q E hr h=>?_)
 ·obtain⟨p,ns,n,b,rfl,_⟩:=h
  rfl
 ·obtain⟨p,ns,n,b,rfl,hq,hp,h1,h2,k⟩:=h
  have hl:=perm_len hp
  refine⟨_,pss_cons (ps_expr (pe_call GC hr rfl DC.at_ DC.fn.kp DC.bd .nil pass0 (pa_cons (pv 0) pa_nil)))
   (pss_cons (ps_set (i:=2) scTurned.nd rfl (Or.inl rfl) (pe_op op_mod (pv 1) (pe_callB call_len_seq (by rfl) T.len PySem.boot_len (pa_cons (pv 0) pa_nil))))
   (pss_one (ps_ret (pe_op op_cat (pe_slice sl_list (pv 0) (po_some (pv 2)) po_none) (pe_slice sl_list (pv 0) po_none (po_some (pv 2))))))),?_⟩
  refine⟨_,rfl,p,ns,n,rfl,hq,hp,h1,h2,fun H1 s1=>?_⟩
  refine⟨_,rfl,_,rfl,p,_,rfl,.inl (s1.seq hq),_,_,rfl,rfl,?_,?_⟩
  ·rw[List.length_map,hl];omega
  show gName 2 (V.int (b % (((ns.map V.int).length:Nat):Int))) _ _ _
  rw[List.length_map,hl]
  have b0:=Int.emod_nonneg b (show (n:Int)≠0 by omega)
  have b1:=Int.emod_lt_of_pos b (show (0:Int)<n by omega)
  obtain⟨g,eg⟩:=Int.eq_ofNat_of_zero_le b0
  rw[eg]
  have gl:g≤(ns.map V.int).length:=by rw[List.length_map,hl];omega
  refine⟨_,rfl,_,rfl,_,rfl,p,_,rfl,s1.seq hq,fun p1 hp1=>?_⟩
  rw[cut_drop _ gl]
  have t1:=same_new (o:=.lst ((ns.map V.int).drop g)) hp1
  refine⟨_,rfl,_,rfl,_,rfl,p,_,rfl,(s1.trans t1).seq hq,fun p2 hp2=>?_⟩
  rw[cut_take _ gl]
  have t2:=same_new (o:=.lst ((ns.map V.int).take g)) hp2
  refine⟨p1,p2,_,_,rfl,rfl,t2 _ _ upd_same,upd_same,?_,fun l hl=>k _ _ (s1.trans (t1.trans (t2.trans (same_new hl))))⟩
  refine small_line ?_
  rw[List.length_drop,List.length_take,List.length_map]
  omega
end
end Sf
namespace L2
open PySem PySem.Spec PyProof.Rows
section
variable {X:Cx}{e:Expr}{te:TE}{a b:Str}{k1 k2:Nat}{p1 p2 p3 pos:Pos}
theorem pe_never {e:Expr}:PE X e (fun _ _ _=>False):=fun _ _ _ _ _ _ h=>h.elim
theorem pt_never {e:Expr}:PT X e (fun _ _ _=>False):=fun _ _ _ _ _ _ h=>h.elim
def tFs (te:TE):TE:=fun σ H Q=>te σ H fun v H1=>v=.int 7∧∀ z,Q (.str z) H1
theorem pe_fstr (he:PE X e te)(ha:a.length≤1000)(hb:b.length≤1000):PE X (.JoinedStr [.Constant (.str a) k1 p1,.FormattedValue e (-1) none p2,.Constant (.str b) k2 p3] pos) (tFs te):=by
 intro pins s σ H Q I h
 have z7:(toString (7:Int):Str).length≤1:=by decide
 refine JoinedStr_many (joinParts_cons (thn (pe_str (x:=a) (j:=k1) (pos:=p1) pins s σ H (fun v H'=>v=.str a∧H'=H) I ⟨rfl,rfl⟩) fun u s1 ⟨v,H',I1,r1,ev,eh⟩=>?_))
 subst ev
 subst eh
 obtain⟨t,rfl⟩:=(show ∃ t,u=Value.str a t from r1)
 have l1:(Str.empty++a).length≤1000:=by rw[strLen_append];show 0+a.length≤1000;omega
 refine⟨by rw[sizeLine_eq];omega,joinParts_cons (FormattedValue_plain (thn (he pins s1 σ H' _ I1 h) fun u2 s2 ⟨v2,H2,I2,r2,e2,q⟩=>?_))⟩
 subst e2
 obtain⟨t2,rfl⟩:=(show ∃ t,u2=Value.int 7 t from r2)
 have l2:(Str.empty++a++(toString (7:Int):Str)).length≤1001:=by rw[strLen_append];omega
 refine formatField_int_small (by decide) ⟨by rw[sizeLine_eq];omega,?_⟩
 refine joinParts_cons (thn (pe_str (x:=b) (j:=k2) (pos:=p3) pins _ σ H2 (fun v H'=>v=.str b∧H'=H2) (I2.tok _) ⟨rfl,rfl⟩) fun u s3 ⟨v,H3,I3,r3,ev,eh⟩=>?_)
 subst ev
 subst eh
 obtain⟨t3,rfl⟩:=(show ∃ t,u=Value.str b t from r3)
 have l3:(Str.empty++a++(toString (7:Int):Str)++b).length≤2001:=by rw[strLen_append];omega
 refine⟨by rw[sizeLine_eq];omega,joinParts_nil ⟨.str _,H3,I3.tok _,⟨_,rfl⟩,q _⟩ (by rw[sizeLine_eq];omega)⟩
end
end L2
namespace Sf
open PySem L2 Pl
seal PS PSs PE PA PSsx PSx PEx
abbrev sXInit:Stmt:=inClass s_Crossing 0
def spXInit (C:Addr):Sp:=fun vs H Q _=>∃ (e:Addr) (a b:Int),vs=[.ref e,.int a,.int b]∧H e=some (excN e C none) ∧
 ∀ dx H',(∀ c o,c≠e→H c=some o→H' c=some o)→H' e=some (excN e C (some dx))→dx≠e→H' dx=some (.xd [("one",.int a),("other",.int b)])→Q .non H'
def IsP (ns:List Int):Prop:=ns≠[]∧ns.Perm (iota ns.length)
def XHeld (ns:List Int)(H:Hp)(dx:Addr):Prop:=∃ a b:Nat,H dx=some (.xd [("one",.int (a:Int)),("other",.int (b:Int))])∧a+2≤b∧b+1<ns.length∧(b - a) % 2=0∧cr (plc ns) a b=true
def FoldNo (ns:List Int)(c0 c1:Addr)(H:Hp)(E:XK):Prop:=(¬ IsP ns∧∀ H',Same H H'→E (.ref c0) none H')∨(IsP ns∧¬ NoX (plc ns)∧∀ dx H',Same H H'→XHeld ns H' dx→E (.ref c1) (some dx) H')
def spFoldNo (K:PySem.W.Frag)(c0 c1:Addr):Sp:=fun vs H _ E=>∃ (p:Addr) (ns:List Int),vs=[.ref p]∧SqL K H p (ns.map V.int)∧ns.length≤60∧FoldNo ns c0 c1 H E
def spInitNo (K:PySem.W.Frag)(c0 c1:Addr):Sp:=fun vs H _ E=>∃ (x p:Addr) (ns:List Int),vs=[.ref x,.ref p]∧SqL K H p (ns.map V.int)∧ns.length≤60∧FoldNo ns c0 c1 H E
def spFreeNo (K:PySem.W.Frag)(c0 c1 c2:Addr):Sp:=fun vs H _ E=>∃ (p q:Addr) (ns cs:List Int),vs=[.ref p,.ref q]∧SqL K H p (ns.map V.int)∧SqL K H q (cs.map V.int)∧ns.length≤60∧cs.length≤60 ∧
 (FoldNo ns c0 c1 H E∨(IsP ns∧NoX (plc ns)∧BadC ns.length cs∧∀ H',Same H H'→E (.ref c2) none H'))
def spRowNo (c3:Addr):Sp:=fun vs H _ E=>∃ z:Str,vs=[.str z]∧¬ Lets z.cps.toList∧z.length≤99∧∀ H',Same H H'→E (.ref c3) none H'
def spCountNo (c4:Addr):Sp:=fun vs H _ E=>∃ i:Int,vs=[.int i]∧(i<1∨7<i)∧∀ H',Same H H'→E (.ref c4) none H'
def spWithNo (c3 c4:Addr):Sp:=fun vs H _ E=>∃ z:Str,vs=[.str z]∧z.length≤99∧((¬ Lets z.cps.toList∧∀ H',Same H H'→E (.ref c3) none H')∨(Lets z.cps.toList∧6<z.length∧∀ H',Same H H'→E (.ref c4) none H'))
section
variable {P:Program}{w:World}{K:PySem.W.Frag}{mg:Str→Option Value}{base:Heap}
theorem scXInit:FnScope ["self","one","other"] ["self","one","other"] (defScope sXInit):=fs
theorem ok_xinit {C S f:Addr}{fd:FuncData}{bm:List Value}(F:Fun K "__init__" "Crossing.__init__" sXInit f fd)(hS:mg "StripError"=some (.ref S))(i:XIni K S)(k:ExcClsI base C bm f)(c:XCls K C S)(n1:NoAttr K C "one")(n2:NoAttr K C "other"):FnOk P w K mg base CX0 1 f fd ["self","one","other"] (spXInit C):=by
 refine F.ok scXInit (fun vs H Q E h=>?_) (fun cdv A outer s H vs Q E hr h=>?_)
 ·obtain⟨e,a,b,rfl,_⟩:=h
  rfl
 ·obtain⟨e,a,b,rfl,he,kk⟩:=h
  refine⟨_,pss_cons (ps_expr (pe_iniB (by rfl) hS i k (pa_cons (pv 0) (pa_cons (pv 1) (pa_cons (pv 2) pa_nil))))) (pss_cons (ps_fldX (pv 0) (pv 1)) (pss_one (ps_fldX (pv 0) (pv 2)))),?_⟩
  refine⟨_,rfl,_,rfl,_,rfl,e,_,none,rfl,small_line (by show 2≤1000;decide),he,?_⟩
  refine⟨_,rfl,_,rfl,e,C,S,none,rfl,he,c,n1,.inl ⟨rfl,fun dx hdx=>?_⟩⟩
  have ne:dx≠e:=(ne_of_none he hdx).symm
  refine⟨_,rfl,_,rfl,e,C,S,some dx,rfl,upd_same,c,n2,.inr ⟨dx,_,rfl,by rw[upd_ne ne];exact upd_same,by show 1<1000;decide,?_⟩⟩
  refine kk dx _ (fun b o hb eb=>?_) ?_ ne ?_
  ·rw[upd_ne (ne_of_none eb hdx),upd_ne hb,upd_ne (ne_of_none eb hdx)];exact eb
  ·rw[upd_ne ne.symm];exact upd_same
  ·rw[upd_same];rfl
structure CrossX (P:Program)(w:World)(K:PySem.W.Frag)(mg:Str→Option Value)(base:Heap)(c1:Addr):Prop where
 at_:mg "Crossing"=some (.ref c1)
 kp:PySem.W.keepIn K (.ref c1)=true
 ini:∃ (bm:List Value) (fI:Addr) (fdI:FuncData),ExcClsI base c1 bm fI∧PySem.W.isFn K (.ref fI)=true∧Binds K fdI ["self","one","other"] []∧FnOk P w K mg base CX0 1 fI fdI ["self","one","other"] (spXInit c1)
theorem no_fold {f fX fP fC fCr fW c0 c1:Addr}{fd fdX fdP fdC fdCr fdW:FuncData}{bm:List Value}(D:Def K mg "foldable_places" s_foldable_places ["pile"] f fd)(DX:Def K mg "crossing" sCrossing ["pile"] fX fdX)(DP:Def K mg "places" sPlaces ["pile"] fP fdP)(DC:Def K mg "check_pile" sCheck ["pile"] fC fdC)
  (DCr:Def K mg "cross" sCross ["at","one","other"] fCr fdCr) (DW:Def K mg "wraps" sWraps ["at","crease","stamp"] fW fdW) (T:Own mg) (M:OwnM mg) (hP:mg "NoPile"=some (.ref c0)) (C:ExcCls base c0 bm) (X:CrossX P w K mg base c1):FnOk P w K mg base (CX1 P w) 4 f fd ["pile"] (spFoldNo K c0 c1):=by
 have GX:FnOk P w K mg base CX0 3 fX fdX ["pile"] (spCrossing K):=ok_crossing DX DP DC DCr DW T M
 have GN:FnOk P w K mg base (CX1 P w) 3 fX fdX ["pile"] (spNo K c0):=no_crossing DX DP DC T hP C
 have GB:=FnOk.or (FnOk.calm (CX:=CX1 P w) GX) GN
 obtain⟨bm1,fI,fdI,C1,FI,BI,OI⟩:=X.ini
 refine Fun.okX D.fn scFoldP (fun vs H Q E h=>?_) (fun cdv A outer s H vs Q E hr h=>?_)
 ·obtain⟨p,ns,rfl,_⟩:=h
  rfl
 ·obtain⟨p,ns,rfl,hq,hl,alt⟩:=h
  have hr2:=hr.mono (show 2≤3 by decide)
  refine⟨_,pss_cons (ps_set (i:=1) scFoldP.nd rfl (Or.inl rfl) (pe_call (E:=E) GB hr rfl DX.at_ DX.fn.kp DX.bd .nil (pass1 fun _ _ _ h=>h) (pa_cons (pv 0) pa_nil)))
   (pss_cons (ps_if (pt_cmpR op_notN (pv 1) pe_non (nomark _)) (pss_one (ps_raiseI (E:=E) rfl rfl (by rfl) X.at_ C1 X.kp FI (raises1 fun _ _ _ h=>h) OI hr2 BI (pa_cons (pe_ix ix_tup (pv 1) pe_int (fun _ _=>rfl)) (pa_cons (pe_ix ix_tup (pv 1) pe_int (fun _ _=>rfl)) pa_nil)))) pss_nil) pss_never),?_⟩
  refine⟨_,rfl,?_⟩
  rcases alt with⟨no,k⟩ | ⟨⟨ne,pm⟩,nx,k⟩
  ·exact .inr ⟨p,ns,rfl,hq,hl,no,k⟩
  ·refine .inl ⟨p,ns,ns.length,rfl,hq,pm,List.length_pos_iff.mpr ne,hl,fun H1 s1 h=>absurd h nx,fun t a b H1 s1 ht ht1 d1 d2 d3 d4=>?_⟩
   refine⟨_,rfl,rfl,_,rfl,iteT ?_⟩
   refine⟨_,rfl,t,_,_,_,rfl,rfl,SqT.of ht1,rfl,_,rfl,t,_,_,_,rfl,rfl,SqT.of ht1,rfl,small_line (by show 2≤1000;decide),fun e he=>?_⟩
   refine⟨e,a,b,rfl,upd_same,fun dx H2 s2 he2 nde hx2=>⟨rfl,some dx,he2,k dx _ (fun c o ec=>?_) ⟨a,b,?_,d1,d2,d3,d4⟩⟩⟩
   ·have e1:=s1 _ _ ec
    have nce:c≠e:=ne_of_none e1 he
    rw[era_ne nce]
    refine s2 c o nce ?_
    rw[upd_ne nce]
    exact e1
   ·rw[era_ne nde]
    exact hx2
theorem no_open {f fF c0 c1:Addr}{fd fdF:FuncData}(D:Def K mg "opening" s_opening ["pile"] f fd)(DF:Def K mg "foldable_places" s_foldable_places ["pile"] fF fdF)(GF:FnOk P w K mg base (CX1 P w) 4 fF fdF ["pile"] (spFoldNo K c0 c1)):FnOk P w K mg base (CX1 P w) 5 f fd ["pile"] (spFoldNo K c0 c1):=by
 refine Fun.okX D.fn scOpen (fun vs H Q E h=>?_) (fun cdv A outer s H vs Q E hr h=>?_)
 ·obtain⟨p,ns,rfl,_⟩:=h
  rfl
 ·obtain⟨p,ns,rfl,hq,hl,alt⟩:=h
  refine⟨_,pss_cons (ps_set (i:=1) scOpen.nd rfl (Or.inl rfl) (pe_call (E:=E) GF hr rfl DF.at_ DF.fn.kp DF.bd .nil (pass1 fun _ _ _ h=>h) (pa_cons (pv 0) pa_nil))) pss_never,?_⟩
  exact⟨_,rfl,p,ns,rfl,hq,hl,alt⟩
theorem no_initB {f fF c0 c1:Addr}{fd fdF:FuncData}(F:Fun K "__init__" "Bench.__init__" sInit f fd)(DF:Def K mg "foldable_places" s_foldable_places ["pile"] fF fdF)(GF:FnOk P w K mg base (CX1 P w) 4 fF fdF ["pile"] (spFoldNo K c0 c1)):FnOk P w K mg base (CX1 P w) 5 f fd ["self","pile"] (spInitNo K c0 c1):=by
 refine Fun.okX F scInitB (fun vs H Q E h=>?_) (fun cdv A outer s H vs Q E hr h=>?_)
 ·obtain⟨x,p,ns,rfl,_⟩:=h
  rfl
 ·obtain⟨x,p,ns,rfl,hq,hl,alt⟩:=h
  refine⟨_,pss_cons (ps_fld (pv 0) (pe_call (E:=E) GF hr rfl DF.at_ DF.fn.kp DF.bd .nil (pass1 fun _ _ _ h=>h) (pa_cons (pv 1) pa_nil)) rfl) pss_never,?_⟩
  exact⟨_,rfl,p,ns,rfl,hq,hl,alt⟩
theorem no_free {f fF fC c0 c1 c2:Addr}{fd fdF fdC:FuncData}(D:Def K mg "free" s_free ["pile","creases"] f fd)(DF:Def K mg "foldable_places" s_foldable_places ["pile"] fF fdF)(GF:FnOk P w K mg base CX0 4 fF fdF ["pile"] (spFoldP K))(GN:FnOk P w K mg base (CX1 P w) 4 fF fdF ["pile"] (spFoldNo K c0 c1))
  (DC:Def K mg "check_creases" s_check_creases ["stamps","creases"] fC fdC) (GC:FnOk P w K mg base (CX1 P w) 1 fC fdC ["stamps","creases"] (spCheckNo K c2)) (T:Own mg):FnOk P w K mg base (CX1 P w) 5 f fd ["pile","creases"] (spFreeNo K c0 c1 c2):=by
 have GB:=FnOk.or (FnOk.calm (CX:=CX1 P w) GF) GN
 refine Fun.okX D.fn scFreeP (fun vs H Q E h=>?_) (fun cdv A outer s H vs Q E hr h=>?_)
 ·obtain⟨p,q,ns,cs,rfl,_⟩:=h
  rfl
 ·obtain⟨p,q,ns,cs,rfl,hp,hq,hl,hc,alt⟩:=h
  have hr1:=hr.mono (show 1≤4 by decide)
  refine⟨_,pss_cons (ps_set (i:=2) scFreeP.nd rfl (Or.inl rfl) (pe_call (E:=E) GB hr rfl DF.at_ DF.fn.kp DF.bd .nil (pass1 fun _ _ _ h=>h) (pa_cons (pv 0) pa_nil)))
   (pss_cons (ps_expr (pe_call (E:=E) GC hr1 rfl DC.at_ DC.fn.kp DC.bd .nil (pass1 fun _ _ _ h=>h) (pa_cons (pe_callB call_len_seq (by rfl) T.len PySem.boot_len (pa_cons (pv 2) pa_nil)) (pa_cons (pv 1) pa_nil)))) pss_never),?_⟩
  refine⟨_,rfl,?_⟩
  rcases alt with alt | ⟨⟨ne,pm⟩,nx,bad,k⟩
  ·exact .inr ⟨p,ns,rfl,hp,hl,alt⟩
  ·refine .inl ⟨p,ns,ns.length,rfl,hp,pm,List.length_pos_iff.mpr ne,hl,nx,fun la H1 s1 hla0 hla=>?_⟩
   refine⟨_,rfl,la,_,rfl,.inl (SqL.of hla),_,rfl,q,ns.length,cs,?_,s1.seq hq,bad,hc,fun H2 s2=>k H2 (s1.trans s2)⟩
   show [V.int (((plc ns).map V.int).length:Int),V.ref q]=[V.int (ns.length:Int),V.ref q]
   rw[List.length_map,plc_length]
theorem no_turned {f fC cP:Addr}{fd fdC:FuncData}{ds:List Value}{bm:List Value}(D:DefD K mg "turned" sTurned ["pile","by"] ds f fd)(DC:Def K mg "check_pile" sCheck ["pile"] fC fdC)(T:Own mg)(hP:mg "NoPile"=some (.ref cP))(C:ExcCls base cP bm):FnOk P w K mg base (CX1 P w) 2 f fd ["pile","by"] (spNoBy K cP):=by
 have GC:FnOk P w K mg base (CX1 P w) 1 fC fdC ["pile"] (spCheckX K cP):=ok_checkX DC T hP C
 refine D.okX scTurned (fun vs H Q E h=>?_) (fun cdv A outer s H vs Q E hr h=>?_)
 ·obtain⟨p,b,ns,rfl,_⟩:=h
  rfl
 ·obtain⟨p,b,ns,rfl,hq,hl,no,k⟩:=h
  refine⟨_,pss_cons (ps_expr (pe_call (E:=E) GC hr rfl DC.at_ DC.fn.kp DC.bd .nil (pass1 fun _ _ _ h=>h) (pa_cons (pv 0) pa_nil))) pss_never,?_⟩
  exact⟨_,rfl,p,ns,rfl,hq,hl,fun h=>absurd h no,fun _ H' s=>k H' s⟩
theorem no_row {f c3:Addr}{fd:FuncData}{bm:List Value}(D:Def K mg "check_row" s_check_row ["row"] f fd)(T:Own mg)(hL:mg "NoLetters"=some (.ref c3))(C:ExcCls base c3 bm):FnOk P w K mg base (CX1 P w) 1 f fd ["row"] (spRowNo c3):=by
 refine Fun.okX D.fn scCheckRow (fun vs H Q E h=>?_) (fun cdv A outer s H vs Q E hr h=>?_)
 ·obtain⟨z,rfl,_⟩:=h
  rfl
 ·obtain⟨z,rfl,no,hz,k⟩:=h
  refine⟨_,pss_one (ps_if (pt_cmpR op_ne (pe_op op_add (pe_bm PySem.F.plainAttrs_str PySem.F.slot_str_count PySem.F.type_str_count mt_count (pv 0) (pa_cons pe_str pa_nil)) (pe_bm PySem.F.plainAttrs_str PySem.F.slot_str_count PySem.F.type_str_count mt_count (pv 0) (pa_cons pe_str pa_nil)))
   (pe_callB call_len_str (by rfl) T.len PySem.boot_len (pa_cons (pv 0) pa_nil)) (nomark _)) (pss_one (ps_raise (E:=E) rfl rfl (by rfl) hL C (raises1 fun _ _ _ h=>h) (pa_cons pe_str pa_nil))) pss_nil),?_⟩
  refine⟨_,rfl,rfl,z,_,rfl,rfl,_,rfl,rfl,z,_,rfl,rfl,_,_,rfl,rfl,_,rfl,z,rfl,small_line (by omega),rfl,_,rfl,?_⟩
  refine ite2 (fun _=>⟨small_line (by show 1≤1000;decide),k _ (Same.refl _)⟩) (fun q=>?_)
  exfalso
  refine no ((count_lets z).mp (Classical.byContradiction fun ne=>q ?_))
  rw[Bool.not_eq_true',decide_eq_false_iff_not]
  intro e
  injection e with e
  exact ne e
theorem no_pileof {f fC c3:Addr}{fd fdC:FuncData}{bm:List Value}(D:Def K mg "pile_of" s_pile_of ["row"] f fd)(DC:Def K mg "check_row" s_check_row ["row"] fC fdC)(T:Own mg)(hL:mg "NoLetters"=some (.ref c3))(C:ExcCls base c3 bm):FnOk P w K mg base (CX1 P w) 2 f fd ["row"] (spRowNo c3):=by
 have GC:FnOk P w K mg base (CX1 P w) 1 fC fdC ["row"] (spRowNo c3):=no_row DC T hL C
 refine Fun.okX D.fn scPileOf (fun vs H Q E h=>?_) (fun cdv A outer s H vs Q E hr h=>?_)
 ·obtain⟨z,rfl,_⟩:=h
  rfl
 ·refine⟨_,pss_cons (ps_expr (pe_call (E:=E) GC hr rfl DC.at_ DC.fn.kp DC.bd .nil (pass1 fun _ _ _ h=>h) (pa_cons (pv 0) pa_nil))) pss_never,?_⟩
  obtain⟨z,rfl,no,hz,k⟩:=h
  exact⟨_,rfl,z,rfl,no,hz,k⟩
theorem no_count {f c4:Addr}{fd:FuncData}{tk:Tok}{bm:List Value}(D:Def K mg "check_count" s_check_count ["many"] f fd)(MS:mg "MOST_STAMPS"=some (.int 7 tk))(hC:mg "NoCount"=some (.ref c4))(C:ExcCls base c4 bm):FnOk P w K mg base (CX1 P w) 1 f fd ["many"] (spCountNo c4):=by
 refine Fun.okX D.fn scCount (fun vs H Q E h=>?_) (fun cdv A outer s H vs Q E hr h=>?_)
 ·obtain⟨i,rfl,_⟩:=h
  rfl
 ·obtain⟨i,rfl,bad,k⟩:=h
  refine⟨_,pss_one (ps_if (pw_or (pt_cmpR op_lt (pv 0) pe_int (nomark _)) (pw_or1 (pt_cmpR op_gt (pv 0) (pe_glob (v:=.int 7) (by rfl) MS ⟨_,rfl⟩) (nomark _)))).pt
   (pss_one (ps_raise (E:=E) rfl rfl (by rfl) hC C (raises1 fun _ _ _ h=>h) (pa_cons (pe_fstr (pe_glob (v:=.int 7) (by rfl) MS ⟨_,rfl⟩) (by decide) (by decide)) pa_nil))) pss_nil),?_⟩
  refine⟨_,rfl,_,_,rfl,rfl,_,rfl,ite2 (fun z=>⟨rfl,fun _=>⟨small_line (by show 1≤1000;decide),k _ (Same.refl _)⟩⟩) (fun z1=>?_)⟩
  refine⟨_,rfl,_,_,rfl,rfl,_,rfl,ite2 (fun z=>⟨rfl,fun _=>⟨small_line (by show 1≤1000;decide),k _ (Same.refl _)⟩⟩) (fun z2=>?_)⟩
  exfalso
  rcases bad with b | b
  ·exact z1 (decide_eq_true b)
  ·exact z2 (decide_eq_true b)
theorem no_piles {f fC c4:Addr}{fd fdC:FuncData}{tk:Tok}{bm:List Value}(D:Def K mg "piles" s_piles ["many"] f fd)(DC:Def K mg "check_count" s_check_count ["many"] fC fdC)(MS:mg "MOST_STAMPS"=some (.int 7 tk))(hC:mg "NoCount"=some (.ref c4))(C:ExcCls base c4 bm):FnOk P w K mg base (CX1 P w) 2 f fd ["many"] (spCountNo c4):=by
 have GC:FnOk P w K mg base (CX1 P w) 1 fC fdC ["many"] (spCountNo c4):=no_count DC MS hC C
 refine Fun.okX D.fn scPiles (fun vs H Q E h=>?_) (fun cdv A outer s H vs Q E hr h=>?_)
 ·obtain⟨i,rfl,_⟩:=h
  rfl
 ·refine⟨_,pss_cons (ps_expr (pe_call (E:=E) GC hr rfl DC.at_ DC.fn.kp DC.bd .nil (pass1 fun _ _ _ h=>h) (pa_cons (pv 0) pa_nil))) pss_never,?_⟩
  obtain⟨i,rfl,bad,k⟩:=h
  exact⟨_,rfl,i,rfl,bad,k⟩
theorem no_with {f fR fPs c3 c4:Addr}{fd fdR fdPs:FuncData}{bm:List Value}(D:Def K mg "piles_with" s_piles_with ["row"] f fd)(DR:Def K mg "check_row" s_check_row ["row"] fR fdR)(DPs:Def K mg "piles" s_piles ["many"] fPs fdPs)(GPs:FnOk P w K mg base (CX1 P w) 2 fPs fdPs ["many"] (spCountNo c4))
  (T:Own mg) (hL:mg "NoLetters"=some (.ref c3)) (C:ExcCls base c3 bm):FnOk P w K mg base (CX1 P w) 3 f fd ["row"] (spWithNo c3 c4):=by
 have GR:FnOk P w K mg base CX0 1 fR fdR ["row"] spCheckRow:=ok_checkrow DR T
 have GRn:FnOk P w K mg base (CX1 P w) 1 fR fdR ["row"] (spRowNo c3):=no_row DR T hL C
 have GB:=FnOk.or (FnOk.calm (CX:=CX1 P w) GR) GRn
 refine Fun.okX D.fn scPilesWith (fun vs H Q E h=>?_) (fun cdv A outer s H vs Q E hr h=>?_)
 ·obtain⟨z,rfl,_⟩:=h
  rfl
 ·obtain⟨z,rfl,hz,alt⟩:=h
  have hr1:=hr.mono (show 1≤2 by decide)
  refine⟨_,pss_cons (ps_expr (pe_call (E:=E) GB hr1 rfl DR.at_ DR.fn.kp DR.bd .nil (pass1 fun _ _ _ h=>h) (pa_cons (pv 0) pa_nil)))
   (pss_one (ps_ret (pe_lcomp (cap:=[0]) (caps:=["row"]) rfl (pi_list (pe_call (E:=E) GPs hr rfl DPs.at_ DPs.fn.kp DPs.bd .nil (pass1 fun _ _ _ h=>h) (pa_cons (pe_op op_add (pe_callB call_len_str (by rfl) T.len PySem.boot_len (pa_cons (pv 0) pa_nil)) pe_int) pa_nil)))
     rfl (by decide +kernel) (by decide +kernel) rfl (by show ∀ y:Str×NameKind,y∈_→y.2=NameKind.free→(defScope s_piles_with).names.lookup y.1=some .cell∨(defScope s_piles_with).names.lookup y.1=some .free;decide +kernel) rfl (fun y hy=>by rw[List.mem_singleton.mp hy];exact⟨.inl rfl,.inl rfl⟩) (by decide +kernel)
     (fun cl s₃ H₃ fp=>⟨pifs_one pt_never,pe_never⟩)))),?_⟩
  refine⟨_,rfl,?_⟩
  rcases alt with⟨no,k⟩ | ⟨hL,h6,k⟩
  ·exact .inr ⟨z,rfl,no,hz,k⟩
  ·refine .inl ⟨z,rfl,hL,hz,?_⟩
   refine⟨_,rfl,z,rfl,small_line (by omega),_,_,rfl,rfl,(z.length:Int)+1,rfl,.inr (by omega),k⟩
end
end Sf
namespace Sf
open PySem L2 Pl
seal PS PSs PE PA PSsx PSx PEx
def spIsP (K:PySem.W.Frag):Sp:=fun vs H Q _=>∃ (l:Addr) (ns:List Int),vs=[.ref l]∧SqL K H l (ns.map V.int)∧ns.length≤60∧∀ (b:Bool) H',Same H H'→(b=true↔IsP ns)→Q (.bl b) H'
def seen (ns:List Int)(n i:Nat):List V:=(List.range n).map fun (j:Nat)=>V.bl (decide ((j:Int)∈ns.take i))
theorem seen_length (ns:List Int)(n i:Nat):(seen ns n i).length=n:=by simp[seen]
theorem seen_get (ns:List Int){n i j:Nat}(h:j<n):(seen ns n i)[j]?=some (.bl (decide ((j:Int)∈ns.take i))):=by
 unfold seen
 rw[List.getElem?_map,List.getElem?_range h]
 rfl
theorem seen_zero (ns:List Int)(n:Nat):seen ns n 0=(List.replicate n ([V.bl false]:List V)).flatten:=by
 have e:(List.replicate n ([V.bl false]:List V)).flatten=List.replicate n (V.bl false):=by
  induction n with
  | zero=>rfl
  | succ n ih=>rw[List.replicate_succ,List.flatten_cons,ih,List.replicate_succ];rfl
 rw[e]
 refine List.ext_getElem? fun j=>?_
 by_cases h:j<n
 ·rw[seen_get ns h,List.getElem?_replicate,if_pos h]
  simp
 ·rw[List.getElem?_eq_none (by rw[seen_length];omega),List.getElem?_eq_none (by simp;omega)]
theorem seen_step {ns:List Int}{n i s:Nat}(hsn:s<n)(hs:ns[i]?=some (s:Int)):(seen ns n i).set s (.bl true)=seen ns n (i+1):=by
 have tk:ns.take (i+1)=ns.take i++[(s:Int)]:=by rw[List.take_succ,hs];rfl
 refine List.ext_getElem? fun j=>?_
 by_cases hj:j<n
 ·rw[seen_get ns hj,tk]
  by_cases e:j=s
  ·subst e
   rw[List.getElem?_set_self (by rw[seen_length];omega)]
   simp
  ·rw[List.getElem?_set_ne (by omega),seen_get ns hj]
   congr 2
   have:¬ ((j:Int)=(s:Int)):=by omega
   simp[this]
 ·rw[List.getElem?_eq_none (by rw[List.length_set,seen_length];omega),List.getElem?_eq_none (by rw[seen_length];omega)]
theorem nodup_leI:∀ (n:Nat) (l:List Int),l.Nodup→(∀ c∈l,0≤c∧c<(n:Int))→l.length≤n
 | 0,l,_,h=>by
  cases l with
  | nil=>exact Nat.le_refl _
  | cons a r=>exact absurd (h a (List.mem_cons_self ..)) (by omega)
 | n+1,l,nd,h=>by
  have ih:=nodup_leI n (l.erase (n:Int)) (nd.erase _) fun c hc=>by
   have:=(nd.mem_erase_iff).mp hc
   have:=h c this.2
   omega
  by_cases hn:(n:Int)∈l
  ·rw[List.length_erase_of_mem hn] at ih
   omega
  ·rw[List.erase_of_not_mem hn] at ih
   omega
theorem perm_of_all {ns:List Int}(nd:ns.Nodup)(h:∀ c∈ns,0≤c∧c<(ns.length:Int)):ns.Perm (iota ns.length):=by
 refine (List.perm_ext_iff_of_nodup nd (perm_nodup (List.Perm.refl _))).mpr fun c=>?_
 rw[perm_mem (List.Perm.refl (iota ns.length))]
 constructor
 ·exact h c
 ·intro hc
  refine Classical.byContradiction fun no=>?_
  have:=nodup_leI ns.length (c::ns) (List.nodup_cons.mpr ⟨no,nd⟩) fun d hd=>by
   rcases List.mem_cons.mp hd with rfl | hd
   ·exact hc
   ·exact h d hd
  simp at this
  omega
section
variable {P:Program}{w:World}{K:PySem.W.Frag}{mg:Str→Option Value}{base:Heap}
theorem scIsP:FnScope ["_law_found","_law_seen","_law_stamp"] ["_law_found"] (defScope s_law_is_pile):=fs
theorem ok_isp {f:Addr}{fd:FuncData}(D:Def K mg "_law_is_pile" s_law_is_pile ["_law_found"] f fd)(T:Own mg):FnOk P w K mg base CX0 1 f fd ["_law_found"] (spIsP K):=by
 refine D.fn.ok scIsP (fun vs H Q E h=>?_) (fun cdv A outer s H vs Q E hr h=>?_)
 ·obtain⟨l,ns,rfl,_⟩:=h
  rfl
 ·obtain⟨l,ns,rfl,hq,hl,k⟩:=h
  refine⟨_,pss_cons (ps_set (i:=1) scIsP.nd rfl (Or.inl rfl) (pe_op op_rep (pe_lst (pa_cons pe_bl pa_nil)) (pe_callB call_len_seq (by rfl) T.len PySem.boot_len (pa_cons (pv 0) pa_nil))))
   (pss_cons (ps_for PassesOwn.never rfl (pi_list (pv 0)) (pg_name (i:=2) scIsP.nd rfl (Or.inl rfl))
    (pss_cons (ps_if (pw_or (pt_cmpR op_lt (pv 2) pe_int (nomark _)) (pw_or (pt_cmpR op_ge (pv 2) (pe_callB call_len_seq (by rfl) T.len PySem.boot_len (pa_cons (pv 0) pa_nil)) (nomark _)) (pw_or1 (pt_val (pe_ix ix_list (pv 1) (pv 2) (fun _ _=>rfl)))))).pt (pss_one (ps_ret pe_bl)) pss_nil)
    (pss_one (ps_asg pe_bl (pg_sub (pv 1) (pv 2) set_list)))))
   (pss_one (ps_ret (pe_cmpR (op_ne_lst hr.units0) (pv 0) (pe_lst pa_nil) (nomark _))))),?_⟩
  refine⟨small_line (by decide),fun z hz=>⟨_,rfl,l,_,rfl,.inl ((same_new hz).seq hq),?_⟩⟩
  rw[List.length_map]
  refine⟨z,_,[.bl false],rfl,rfl,upd_same,by omega,by omega,small_line (by simp;omega),fun ls hls=>?_⟩
  have s2:Same H _:=(same_new hz).trans (same_new (o:=.lst (seen ns ns.length 0)) hls)
  have hls0:H ls=none:=(same_new hz).free hls
  rw[show ((ns.length:Int)).toNat=ns.length by omega,← seen_zero ns ns.length]
  refine⟨_,rfl,l,rfl,⟨_,s2.seq hq⟩,for_list (K:=K) (a:=l) (xs:=ns.map V.int) (fun i σ H2=>∃ (v:Option V),σ=[some (.ref l),some (.ref ls),v]∧Same H H2∧H2 ls=some (.lst (seen ns ns.length i))∧(ns.take i).Nodup∧∀ c∈ns.take i,0≤c∧c<(ns.length:Int))
   ⟨none,rfl,s2,upd_same,by simp,by simp⟩ (fun i σ H2 _ ⟨_,_,s3,_⟩=>s3.seq hq) ?_ ?_⟩
  ·rintro i x σ H2 hx ⟨v,rfl,s3,h3,nd,bd⟩
   rw[List.getElem?_map] at hx
   cases e:ns[i]? with
   | none=>rw[e] at hx;cases hx
   | some y =>
    rw[e] at hx
    cases hx
    have hm:=List.mem_of_getElem? e
    have no:∀ H',Same H H'→¬ IsP ns→Q (.bl false) H':=fun H' s' n=>k false H' s' ⟨(fun z=>(by cases z)),fun z=>absurd z n⟩
    refine⟨_,rfl,_,_,rfl,rfl,_,rfl,ite2 (fun z=>no H2 s3 fun p=>?_) (fun z1=>?_)⟩
    ·have:=(perm_mem p.2).mp hm
     have:=of_decide_eq_true z
     omega
    have y0:0≤y:=Int.not_lt.mp fun h=>z1 (decide_eq_true h)
    refine⟨_,rfl,_,rfl,l,_,rfl,.inl (s3.seq hq),_,_,rfl,rfl,_,rfl,ite2 (fun z=>no H2 s3 fun p=>?_) (fun z2=>?_)⟩
    ·have:=(perm_mem p.2).mp hm
     have:=of_decide_eq_true z
     rw[List.length_map] at this
     omega
    have y1:y<(ns.length:Int):=Int.not_le.mp fun h=>z2 (decide_eq_true (by rw[List.length_map];exact h))
    obtain⟨s,rfl⟩:=Int.eq_ofNat_of_zero_le y0
    have hs:s<ns.length:=by omega
    have ga:atI (seen ns ns.length i) (s:Int)=some (.bl (decide ((s:Int)∈ns.take i))):=by
     exact atI_nat (seen_get ns hs)
    refine⟨_,rfl,_,rfl,ls,_,_,_,rfl,rfl,SqL.of h3,ga,_,rfl,ite2 (fun z=>no H2 s3 fun p=>?_) (fun z3=>?_)⟩
    ·have hin:=of_decide_eq_true z
     obtain⟨j,hj⟩:=List.getElem?_of_mem hin
     have hji:j<i:=by
      have:=(List.getElem?_eq_some_iff.mp hj).1
      rw[List.length_take] at this
      omega
     rw[List.getElem?_take_of_lt hji] at hj
     have:=nodup_at (perm_nodup p.2) hj e
     omega
    have nin:(s:Int)∉ns.take i:=fun h=>z3 (decide_eq_true h)
    have tk:ns.take (i+1)=ns.take i++[(s:Int)]:=by rw[List.take_succ,e];rfl
    refine⟨_,rfl,_,rfl,ls,_,_,s,rfl,rfl,h3,?_,_,rfl,fun b o eb=>?_,?_,?_,fun c hc=>?_⟩
    ·rw[seen_length]
     unfold ixN
     rw[if_pos (by omega),if_pos (by omega)]
     rfl
    ·rw[upd_ne (ne_of_none eb hls0)]
     exact s3 b o eb
    ·rw[upd_same,seen_step hs e]
    ·rw[tk]
     refine List.nodup_append.mpr ⟨nd,by simp,fun a ha b hb=>?_⟩
     rw[List.mem_singleton.mp hb]
     exact fun z=>nin (z ▸ ha)
    ·rw[tk] at hc
     rcases List.mem_append.mp hc with hc | hc
     ·exact bd c hc
     ·rw[List.mem_singleton.mp hc]
      omega
  ·rintro σ H2 ⟨v,rfl,s3,h3,nd,bd⟩
   rw[List.length_map,List.take_length] at nd bd
   refine⟨_,rfl,small_line (by decide),fun l2 hl2=>⟨l,l2,_,([]:List Int).map V.int,rfl,rfl,(same_new hl2).seq (s3.seq hq),SqL.of upd_same,flat_ints _,flat_ints _,?_⟩⟩
   rw[eqVs_ints]
   refine k _ _ (s3.trans (same_new hl2)) ?_
   show (!decide (ns=[]))=true↔_
   rw[Bool.not_eq_true',decide_eq_false_iff_not]
   exact⟨fun ne=>⟨ne,perm_of_all nd bd⟩,fun p=>p.1⟩
def spDueK:Sp:=fun vs H Q _=>∃ i:Nat,vs=[.int (i:Int)]∧i<6∧∀ (l:Addr) H',Same H H'→H l=none→H' l=some (.lst (kindsL i))→Q (.ref l) H'
theorem scDueK:FnScope ["_law_which"] ["_law_which"] (defScope s_law_due_kinds):=fs
theorem ok_duek {f:Addr}{fd:FuncData}(D:Def K mg "_law_due_kinds" s_law_due_kinds ["_law_which"] f fd)(T:Own mg):FnOk P w K mg base CX0 1 f fd ["_law_which"] spDueK:=by
 refine D.fn.ok scDueK (fun vs H Q E h=>?_) (fun cdv A outer s H vs Q E hr h=>?_)
 ·obtain⟨i,rfl,_⟩:=h
  rfl
 ·obtain⟨i,rfl,hi,k⟩:=h
  refine⟨_,pss_one (ps_ret (pe_lcomp (cap:=[0]) (caps:=["_law_which"]) rfl (pi_range1 rfl T.range (pa_cons pe_int pa_nil))
     rfl (by decide +kernel) (by decide +kernel) rfl (by show ∀ y:Str×NameKind,y∈_→y.2=NameKind.free→(defScope s_law_due_kinds).names.lookup y.1=some .cell∨(defScope s_law_due_kinds).names.lookup y.1=some .free;decide +kernel) rfl (fun y hy=>by rw[List.mem_singleton.mp hy];exact⟨.inl rfl,.inl rfl⟩) (by decide +kernel)
     (fun cl s₃ H₃ fp=>⟨pifs_nil,pe_cmpR op_eq (pv 0) (pv 1) (nomark _)⟩))),?_⟩
  refine⟨_,rfl,by decide,by decide,fun l hl=>?_⟩
  refine lc_range (lo:=0) (n:=(7:Int).toNat) (fun j=>.bl (decide (j=i))) (by decide) hl ?_ ?_
  ·intro j H2 R hj s2 kR
   refine⟨_,rfl,_,rfl,rfl,?_⟩
   have e:decide (V.int ((0:Int)+(j:Nat))=V.int (i:Int))=decide (j=i):=by
    by_cases h:j=i
    ·rw[decide_eq_true h,decide_eq_true]
     rw[h]
     congr 1
     omega
    ·rw[decide_eq_false h,decide_eq_false]
     intro z
     injection z with z
     omega
   rw[e]
   exact kR _ (Same.refl _)
  ·intro H2 s2 hl2
   refine k l H2 s2 hl ?_
   rw[hl2]
   congr 2
   have e6:decide (6=i)=false:=decide_eq_false (by omega)
   show [V.bl (decide (0=i)),.bl (decide (1=i)),.bl (decide (2=i)),.bl (decide (3=i)),.bl (decide (4=i)),.bl (decide (5=i)),.bl (decide (6=i))]=_
   rw[e6]
   rfl
def spCrG (K:PySem.W.Frag):Sp:=fun vs H Q _=>∃ (n:Nat) (q:Addr) (cs:List Int),vs=[.int (n:Int),.ref q]∧SqL K H q (cs.map V.int)∧cs.length≤60∧∀ (b:Bool) H',Same H H'→(b=true↔¬ BadC n cs)→Q (.bl b) H'
theorem scCrG:FnScope ["_law_size_here","_law_creases_here"] ["_law_size_here","_law_creases_here"] (defScope s_law_creases_good):=fs
theorem ok_crg {f:Addr}{fd:FuncData}(D:Def K mg "_law_creases_good" s_law_creases_good ["_law_size_here","_law_creases_here"] f fd)(T:Own mg)(Z:OwnZ mg):FnOk P w K mg base CX0 1 f fd ["_law_size_here","_law_creases_here"] (spCrG K):=by
 refine D.fn.ok scCrG (fun vs H Q E h=>?_) (fun cdv A outer s H vs Q E hr h=>?_)
 ·obtain⟨n,q,cs,rfl,_⟩:=h
  rfl
 ·obtain⟨n,q,cs,rfl,hq,hl,k⟩:=h
  refine⟨_,pss_cons (ps_if (pt_cmpR op_lt (pe_callB call_lenSet (by rfl) T.len PySem.boot_len (pa_cons (pe_callTy (call_set rfl) (by rfl) Z.set boot_setZ (pa_cons (pv 1) pa_nil)) pa_nil)) (pe_callB call_len_seq (by rfl) T.len PySem.boot_len (pa_cons (pv 1) pa_nil)) (nomark _)) (pss_one (ps_ret pe_bl)) pss_nil)
   (pss_one (ps_ret (pe_cmpR (op_eq_lst hr.units0) (pe_lcomp (cap:=[0]) (caps:=["_law_size_here"]) rfl (pi_list (pv 1))
     rfl (by decide +kernel) (by decide +kernel) rfl (by show ∀ y:Str×NameKind,y∈_→y.2=NameKind.free→(defScope s_law_creases_good).names.lookup y.1=some .cell∨(defScope s_law_creases_good).names.lookup y.1=some .free;decide +kernel) rfl (fun y hy=>by rw[List.mem_singleton.mp hy];exact⟨.inl rfl,.inl rfl⟩) (by decide +kernel)
     (fun cl s₃ H₃ fp=>⟨pifs_one (pw_or (pt_cmpR op_lt (pv 0) pe_int (nomark _)) (pw_or1 (pt_cmpR op_gt (pv 0) (pe_op op_sub (pv 1) pe_int) (nomark _)))).pt,pv 0⟩)) (pe_lst pa_nil) (nomark _)))),?_⟩
  refine⟨_,rfl,q,cs,rfl,hq,by omega,fun l S m hl0 hm0 hm=>?_⟩
  have s1:=same_new (o:=.set S m) hl0
  refine⟨l,S,m,rfl,upd_same,_,rfl,q,_,rfl,.inl (s1.seq hq),_,_,rfl,rfl,_,rfl,?_⟩
  rw[List.length_map]
  refine ite2 (fun z=>?_) (fun z=>?_)
  ·refine k false _ s1 ⟨fun z=>(by cases z),fun nb=>?_⟩
   have nd:=(Classical.not_not.mp nb).1
   have:=of_decide_eq_true z
   have:=hm.mpr nd
   omega
  have nd:cs.Nodup:=hm.mp (by
   have:¬ ((m:Int)<(cs.length:Int)):=fun h=>z (decide_eq_true h)
   omega)
  refine⟨_,rfl,q,rfl,⟨_,s1.seq hq⟩,fun l2 hl2=>?_⟩
  refine lc_list_if (p:=fun v=>match v with | .int c=>decide (c<0) || decide ((n:Int) - 2<c) | _=>false) (f:=id) (by rw[List.length_map];omega) hl2 (s1.seq hq) ?_ ?_ ?_
  ·intro x H2 R hx s2 kR
   obtain⟨c,hc,rfl⟩:=List.mem_map.mp hx
   refine⟨_,rfl,_,_,rfl,rfl,_,rfl,ite2 (fun z=>?_) (fun z=>?_)⟩
   ·have e:=kR H2 (Same.refl _)
    simp only[z,Bool.true_or] at e
    exact e
   ·refine⟨_,rfl,_,rfl,_,_,rfl,rfl,_,_,rfl,rfl,_,rfl,?_⟩
    have e:=kR H2 (Same.refl _)
    simp only[Bool.eq_false_iff.mpr z,Bool.false_or] at e
    exact e
  ·intro x H2 R hx _ s2 kR
   exact⟨_,rfl,kR _ (Same.refl _)⟩
  ·intro H2 s2 hl3
   have ef:((cs.map V.int).filter (fun v=>match v with | .int c=>decide (c<0) || decide ((n:Int) - 2<c) | _=>false)).map id=(cs.filter fun c=>decide (c<0) || decide ((n:Int) - 2<c)).map V.int:=by
    rw[List.map_id,List.filter_map]
    rfl
   rw[ef] at hl3
   refine⟨small_line (by decide),fun l4 hl4=>⟨l2,l4,_,([]:List Int).map V.int,rfl,rfl,SqL.of (same_new hl4 _ _ hl3),SqL.of upd_same,flat_ints _,flat_ints _,?_⟩⟩
   rw[eqVs_ints]
   refine k _ _ (s1.trans (s2.trans (same_new hl4))) ?_
   show decide _=true↔_
   rw[decide_eq_true_eq,List.filter_eq_nil_iff]
   constructor
   ·intro h bad
    refine bad ⟨nd,fun c hc=>?_⟩
    have:=h c hc
    simp at this
    omega
   ·intro nb c hc
    have:=(Classical.not_not.mp nb).2 c hc
    simp
    omega
end
end Sf
namespace Sf
open PySem L2 Pl
seal PS PSs PE PA PSsx PSx PEx
def spSpoil (K:PySem.W.Frag):Sp:=fun vs H Q _=>∃ (p:Addr) (ns:List Int) (m:Nat) (g:Int),vs=[.ref p,.int (m:Int),.int g]∧H p=some (.lst (ns.map V.int))∧1≤ns.length∧ns.length≤60∧m<2147483648 ∧
 ∀ (l:Addr) (ms:List Int) H',Same H H'→H' l=some (.lst (ms.map V.int))→ms.length≤60→Q (.ref l) H'
def spCre (K:PySem.W.Frag):Sp:=fun vs H Q _=>∃ (n m:Nat) (g:Int),vs=[.int (n:Int),.int (m:Int),.int g]∧m<2147483648∧∀ (l:Addr) (cs:List Int) H',Same H H'→H' l=some (.lst (cs.map V.int))→cs.length≤3→Q (.ref l) H'
section
variable {P:Program}{w:World}{K:PySem.W.Frag}{mg:Str→Option Value}{base:Heap}
abbrev nmSpo:List Str:=["_law_pile_here","_law_number_here","_law_great","_law_here","_law_there"]
theorem scSpo:FnScope nmSpo ["_law_pile_here","_law_number_here","_law_great"] (defScope s_law_spoiled):=fs
theorem ok_spoil {f:Addr}{fd:FuncData}(D:Def K mg "_law_spoiled" s_law_spoiled ["_law_pile_here","_law_number_here","_law_great"] f fd)(T:Own mg):FnOk P w K mg base CX0 1 f fd ["_law_pile_here","_law_number_here","_law_great"] (spSpoil K):=by
 refine D.fn.ok scSpo (fun vs H Q E h=>?_) (fun cdv A outer s H vs Q E hr h=>?_)
 ·obtain⟨p,ns,m,g,rfl,_⟩:=h
  rfl
 ·obtain⟨p,ns,m,g,rfl,hp0,n1,n2,hm,k⟩:=h
  have hq:SqL K H p (ns.map V.int):=SqL.of hp0
  refine⟨_,pss_cons (ps_set (i:=3) scSpo.nd rfl (Or.inl rfl) (pe_op op_mod (pe_op op_fdiv (pv 1) pe_int) (pe_callB call_len_seq (by rfl) T.len PySem.boot_len (pa_cons (pv 0) pa_nil))))
   (pss_cons (ps_set (i:=4) scSpo.nd rfl (Or.inl rfl) (pe_op op_mod (pe_op op_fdiv (pe_op op_mod (pe_op op_mul (pv 1) pe_int) pe_int) pe_int) (pe_callB call_len_seq (by rfl) T.len PySem.boot_len (pa_cons (pv 0) pa_nil))))
   (pss_cons (ps_if (pt_cmpR op_eq (pe_op op_mod (pv 1) pe_int) pe_int (nomark _)) (pss_one (ps_ret (pe_lst pa_nil))) pss_nil)
   (pss_cons (ps_if (pt_cmpR op_eq (pe_op op_mod (pv 1) pe_int) pe_int (nomark _)) (pss_one (ps_ret (pe_op op_cat (pe_op op_cat (pe_slice sl_list (pv 0) po_none (po_some (pv 3))) (pe_lst (pa_cons (pe_ix ix_list (pv 0) (pv 4) (fun _ _=>rfl)) pa_nil))) (pe_slice sl_list (pv 0) (po_some (pe_op op_add (pv 3) pe_int)) po_none)))) pss_nil)
   (pss_cons (ps_if (pt_cmpR op_eq (pe_op op_mod (pv 1) pe_int) pe_int (nomark _)) (pss_one (ps_ret (pe_op op_cat (pe_op op_cat (pe_slice sl_list (pv 0) po_none (po_some (pv 3))) (pe_lst (pa_cons (pe_op op_add (pe_callB call_len_seq (by rfl) T.len PySem.boot_len (pa_cons (pv 0) pa_nil)) (pv 2)) pa_nil))) (pe_slice sl_list (pv 0) (po_some (pe_op op_add (pv 3) pe_int)) po_none)))) pss_nil)
   (pss_cons (ps_if (pt_cmpR op_eq (pe_op op_mod (pv 1) pe_int) pe_int (nomark _)) (pss_one (ps_ret (pe_op op_cat (pe_op op_cat (pe_slice sl_list (pv 0) po_none (po_some (pv 3))) (pe_lst (pa_cons (pe_op op_sub (pe_un un_neg pe_int) (pv 2)) pa_nil))) (pe_slice sl_list (pv 0) (po_some (pe_op op_add (pv 3) pe_int)) po_none)))) pss_nil)
   (pss_cons (ps_if (pt_cmpR op_eq (pe_op op_mod (pv 1) pe_int) pe_int (nomark _)) (pss_one (ps_ret (pe_op op_cat (pe_slice sl_list (pv 0) po_none (po_some (pv 3))) (pe_slice sl_list (pv 0) (po_some (pe_op op_add (pv 3) pe_int)) po_none)))) pss_nil)
   (pss_one (ps_ret (pv 0))))))))),?_⟩
  have ln:(((ns.map V.int).length:Nat):Int)=(ns.length:Int):=by rw[List.length_map]
  refine⟨_,rfl,_,_,rfl,rfl,⟨by decide,by decide⟩,_,rfl,p,_,rfl,.inl hq,_,_,rfl,rfl,(by rw[ln];omega),?_⟩
  refine⟨_,rfl,_,_,rfl,rfl,.inr ⟨by decide,by decide⟩,_,_,rfl,rfl,(by show (0:Int)<2147483587;decide),_,_,rfl,rfl,⟨by decide,by decide⟩,_,rfl,p,_,rfl,.inl hq,_,_,rfl,rfl,(by rw[ln];omega),?_⟩
  obtain⟨h,eh⟩:=Int.eq_ofNat_of_zero_le (Int.emod_nonneg ((m:Int) / 6) (show (((ns.map V.int).length:Nat):Int)≠0 by rw[ln];omega))
  have h1:=Int.emod_lt_of_pos ((m:Int) / 6) (show (0:Int)<(((ns.map V.int).length:Nat):Int) by rw[ln];omega)
  obtain⟨u,eu⟩:=Int.eq_ofNat_of_zero_le (Int.emod_nonneg ((m:Int) * 16807 % 2147483587 / 3) (show (((ns.map V.int).length:Nat):Int)≠0 by rw[ln];omega))
  have u1:=Int.emod_lt_of_pos ((m:Int) * 16807 % 2147483587 / 3) (show (0:Int)<(((ns.map V.int).length:Nat):Int) by rw[ln];omega)
  rw[eh] at h1
  rw[eu] at u1
  rw[ln] at h1 u1
  simp only[eh,eu]
  have gl:h≤(ns.map V.int).length:=by rw[List.length_map];omega
  have gu:u<ns.length:=by omega
  have cd:cutV (ns.map V.int) (some ((h:Int)+1)) none=(ns.map V.int).drop (h+1):=by
   rw[show (h:Int)+1=((h+1:Nat):Int) by omega]
   exact cut_drop _ (by rw[List.length_map];omega)
  refine⟨_,rfl,_,_,rfl,rfl,(by show (0:Int)<6;decide),rfl,_,rfl,ite2 (fun _=>?_) (fun _=>?_)⟩
  ·exact⟨small_line (by decide),fun l hl=>k l [] _ (same_new hl) upd_same (by decide)⟩
  refine⟨_,rfl,_,_,rfl,rfl,(by show (0:Int)<6;decide),rfl,_,rfl,ite2 (fun _=>?_) (fun _=>?_)⟩
  ·refine⟨_,rfl,_,rfl,_,rfl,p,_,rfl,hq,fun p1 hp1=>?_⟩
   rw[cut_take _ gl]
   have t1:=same_new (o:=.lst ((ns.map V.int).take h)) hp1
   refine⟨_,rfl,_,rfl,p,_,_,_,rfl,rfl,t1.seq hq,at_int gu,small_line (by show 1≤1000;decide),fun p2 hp2=>?_⟩
   have t2:=same_new (o:=.lst [V.int (ns.getD u 0)]) hp2
   refine⟨p1,p2,_,_,rfl,rfl,t2 _ _ upd_same,upd_same,?_,fun p3 hp3=>?_⟩
   ·refine small_line ?_
    rw[List.length_take,List.length_map]
    show min _ _+1≤1000
    omega
   have t3:=same_new (o:=.lst ((ns.map V.int).take h++[V.int (ns.getD u 0)])) hp3
   refine⟨_,rfl,_,rfl,_,_,rfl,rfl,_,rfl,p,_,rfl,t3.seq (t2.seq (t1.seq hq)),fun p4 hp4=>?_⟩
   rw[cd]
   have t4:=same_new (o:=.lst ((ns.map V.int).drop (h+1))) hp4
   refine⟨p3,p4,_,_,rfl,rfl,t4 _ _ upd_same,upd_same,?_,fun p5 hp5=>?_⟩
   ·refine small_line ?_
    rw[List.length_append,List.length_take,List.length_drop,List.length_map]
    show min _ _+1+_≤1000
    omega
   refine k p5 (ns.take h++[ns.getD u 0]++ns.drop (h+1)) _ (t1.trans (t2.trans (t3.trans (t4.trans (same_new hp5))))) ?_ ?_
   ·rw[upd_same,List.map_append,List.map_append,List.map_take,List.map_drop]
    rfl
   ·rw[List.length_append,List.length_append,List.length_take,List.length_drop]
    show min _ _+1+_≤60
    omega
  refine⟨_,rfl,_,_,rfl,rfl,(by show (0:Int)<6;decide),rfl,_,rfl,ite2 (fun _=>?_) (fun _=>?_)⟩
  ·refine⟨_,rfl,_,rfl,_,rfl,p,_,rfl,hq,fun p1 hp1=>?_⟩
   rw[cut_take _ gl]
   have t1:=same_new (o:=.lst ((ns.map V.int).take h)) hp1
   refine⟨_,rfl,p,_,rfl,.inl (t1.seq hq),_,rfl,_,_,rfl,rfl,small_line (by show 1≤1000;decide),fun p2 hp2=>?_⟩
   have t2:=same_new (o:=.lst [V.int ((((ns.map V.int).length:Nat):Int)+g)]) hp2
   refine⟨p1,p2,_,_,rfl,rfl,t2 _ _ upd_same,upd_same,?_,fun p3 hp3=>?_⟩
   ·refine small_line ?_
    rw[List.length_take,List.length_map]
    show min _ _+1≤1000
    omega
   have t3:=same_new (o:=.lst ((ns.map V.int).take h++[V.int ((((ns.map V.int).length:Nat):Int)+g)])) hp3
   refine⟨_,rfl,_,rfl,_,_,rfl,rfl,_,rfl,p,_,rfl,t3.seq (t2.seq (t1.seq hq)),fun p4 hp4=>?_⟩
   rw[cd]
   have t4:=same_new (o:=.lst ((ns.map V.int).drop (h+1))) hp4
   refine⟨p3,p4,_,_,rfl,rfl,t4 _ _ upd_same,upd_same,?_,fun p5 hp5=>?_⟩
   ·refine small_line ?_
    rw[List.length_append,List.length_take,List.length_drop,List.length_map]
    show min _ _+1+_≤1000
    omega
   refine k p5 (ns.take h++[(((ns.map V.int).length:Nat):Int)+g]++ns.drop (h+1)) _ (t1.trans (t2.trans (t3.trans (t4.trans (same_new hp5))))) ?_ ?_
   ·rw[upd_same,List.map_append,List.map_append,List.map_take,List.map_drop]
    rfl
   ·rw[List.length_append,List.length_append,List.length_take,List.length_drop]
    show min _ _+1+_≤60
    omega
  refine⟨_,rfl,_,_,rfl,rfl,(by show (0:Int)<6;decide),rfl,_,rfl,ite2 (fun _=>?_) (fun _=>?_)⟩
  ·refine⟨_,rfl,_,rfl,_,rfl,p,_,rfl,hq,fun p1 hp1=>?_⟩
   rw[cut_take _ gl]
   have t1:=same_new (o:=.lst ((ns.map V.int).take h)) hp1
   refine⟨_,rfl,_,rfl,_,_,rfl,rfl,small_line (by show 1≤1000;decide),fun p2 hp2=>?_⟩
   have t2:=same_new (o:=.lst [V.int (-1 - g)]) hp2
   refine⟨p1,p2,_,_,rfl,rfl,t2 _ _ upd_same,upd_same,?_,fun p3 hp3=>?_⟩
   ·refine small_line ?_
    rw[List.length_take,List.length_map]
    show min _ _+1≤1000
    omega
   have t3:=same_new (o:=.lst ((ns.map V.int).take h++[V.int (-1 - g)])) hp3
   refine⟨_,rfl,_,rfl,_,_,rfl,rfl,_,rfl,p,_,rfl,t3.seq (t2.seq (t1.seq hq)),fun p4 hp4=>?_⟩
   rw[cd]
   have t4:=same_new (o:=.lst ((ns.map V.int).drop (h+1))) hp4
   refine⟨p3,p4,_,_,rfl,rfl,t4 _ _ upd_same,upd_same,?_,fun p5 hp5=>?_⟩
   ·refine small_line ?_
    rw[List.length_append,List.length_take,List.length_drop,List.length_map]
    show min _ _+1+_≤1000
    omega
   refine k p5 (ns.take h++[-1 - g]++ns.drop (h+1)) _ (t1.trans (t2.trans (t3.trans (t4.trans (same_new hp5))))) ?_ ?_
   ·rw[upd_same,List.map_append,List.map_append,List.map_take,List.map_drop]
    rfl
   ·rw[List.length_append,List.length_append,List.length_take,List.length_drop]
    show min _ _+1+_≤60
    omega
  refine⟨_,rfl,_,_,rfl,rfl,(by show (0:Int)<6;decide),rfl,_,rfl,ite2 (fun _=>?_) (fun _=>?_)⟩
  ·refine⟨_,rfl,_,rfl,_,rfl,p,_,rfl,hq,fun p1 hp1=>?_⟩
   rw[cut_take _ gl]
   have t1:=same_new (o:=.lst ((ns.map V.int).take h)) hp1
   refine⟨_,rfl,_,rfl,_,_,rfl,rfl,_,rfl,p,_,rfl,t1.seq hq,fun p4 hp4=>?_⟩
   rw[cd]
   have t4:=same_new (o:=.lst ((ns.map V.int).drop (h+1))) hp4
   refine⟨p1,p4,_,_,rfl,rfl,t4 _ _ upd_same,upd_same,?_,fun p5 hp5=>?_⟩
   ·refine small_line ?_
    rw[List.length_take,List.length_drop,List.length_map]
    omega
   refine k p5 (ns.take h++ns.drop (h+1)) _ (t1.trans (t4.trans (same_new hp5))) ?_ ?_
   ·rw[upd_same,List.map_append,List.map_take,List.map_drop]
   ·rw[List.length_append,List.length_take,List.length_drop]
    omega
  ·exact⟨_,rfl,k p ns H (Same.refl _) hp0 n2⟩
abbrev nmCre9:List Str:=["_law_size_here","_law_number_here","_law_great","_law_many","_law_one","_law_other"]
theorem scCre9:FnScope nmCre9 ["_law_size_here","_law_number_here","_law_great"] (defScope s_law_creases):=fs
theorem ok_cre9 {f:Addr}{fd:FuncData}(D:Def K mg "_law_creases" s_law_creases ["_law_size_here","_law_number_here","_law_great"] f fd)(M:OwnM mg):FnOk P w K mg base CX0 1 f fd ["_law_size_here","_law_number_here","_law_great"] (spCre K):=by
 refine D.fn.ok scCre9 (fun vs H Q E h=>?_) (fun cdv A outer s H vs Q E hr h=>?_)
 ·obtain⟨n,m,g,rfl,_⟩:=h
  rfl
 ·obtain⟨n,m,g,rfl,hm,k⟩:=h
  refine⟨_,pss_cons (ps_set (i:=3) scCre9.nd rfl (Or.inl rfl) (pe_callB (call_max2 rfl) (by rfl) M.max boot_max (pa_cons pe_int (pa_cons (pe_op op_sub (pv 0) pe_int) pa_nil))))
   (pss_cons (ps_set (i:=4) scCre9.nd rfl (Or.inl rfl) (pe_op op_mod (pe_op op_fdiv (pv 1) pe_int) (pv 3)))
   (pss_cons (ps_set (i:=5) scCre9.nd rfl (Or.inl rfl) (pe_op op_mod (pe_op op_fdiv (pe_op op_mod (pe_op op_mul (pv 1) pe_int) pe_int) pe_int) (pv 3)))
   (pss_cons (ps_if (pt_cmpR op_eq (pe_op op_mod (pv 1) pe_int) pe_int (nomark _)) (pss_one (ps_ret (pe_lst pa_nil))) pss_nil)
   (pss_cons (ps_if (pt_cmpR op_eq (pe_op op_mod (pv 1) pe_int) pe_int (nomark _)) (pss_one (ps_ret (pe_lst (pa_cons (pv 4) pa_nil)))) pss_nil)
   (pss_cons (ps_if (pt_cmpR op_eq (pe_op op_mod (pv 1) pe_int) pe_int (nomark _)) (pss_one (ps_ret (pe_lst (pa_cons (pv 4) (pa_cons (pv 5) pa_nil))))) pss_nil)
   (pss_cons (ps_if (pt_cmpR op_eq (pe_op op_mod (pv 1) pe_int) pe_int (nomark _)) (pss_one (ps_ret (pe_lst (pa_cons (pv 4) (pa_cons (pv 5) (pa_cons (pv 4) pa_nil)))))) pss_nil)
   (pss_cons (ps_if (pt_cmpR op_eq (pe_op op_mod (pv 1) pe_int) pe_int (nomark _)) (pss_one (ps_ret (pe_lst (pa_cons (pv 4) (pa_cons (pe_op op_add (pe_op op_sub (pv 0) pe_int) (pv 2)) pa_nil))))) pss_nil)
   (pss_one (ps_ret (pe_lst (pa_cons (pe_op op_sub (pe_un un_neg pe_int) (pv 2)) (pa_cons (pv 4) pa_nil)))))))))))),?_⟩
  have fin:∀ (l:Addr) (cs:List Int),H l=none→cs.length≤3→Q (.ref l) (upd H l (.lst (cs.map V.int))):=fun l cs hl hc=>k l cs _ (same_new hl) upd_same hc
  refine⟨_,rfl,_,_,rfl,rfl,_,_,rfl,?_⟩
  have hmx:0<(if (n:Int) - 1>1 then (n:Int) - 1 else 1):=by split <;> omega
  generalize (if (n:Int) - 1>1 then (n:Int) - 1 else 1)=mx at hmx
  refine⟨_,rfl,_,_,rfl,rfl,⟨by decide,by decide⟩,_,rfl,_,_,rfl,rfl,hmx,?_⟩
  refine⟨_,rfl,_,_,rfl,rfl,.inr ⟨by decide,by decide⟩,_,_,rfl,rfl,(by show (0:Int)<2147483587;decide),_,_,rfl,rfl,⟨by decide,by decide⟩,_,rfl,_,_,rfl,rfl,hmx,?_⟩
  refine⟨_,rfl,_,_,rfl,rfl,(by show (0:Int)<6;decide),rfl,_,rfl,ite2 (fun _=>?_) (fun _=>?_)⟩
  ·exact⟨small_line (by decide),fun l hl=>fin l [] hl (by decide)⟩
  refine⟨_,rfl,_,_,rfl,rfl,(by show (0:Int)<6;decide),rfl,_,rfl,ite2 (fun _=>?_) (fun _=>?_)⟩
  ·exact⟨_,rfl,small_line (by show 1≤1000;decide),fun l hl=>fin l [_] hl (by show 1≤3;decide)⟩
  refine⟨_,rfl,_,_,rfl,rfl,(by show (0:Int)<6;decide),rfl,_,rfl,ite2 (fun _=>?_) (fun _=>?_)⟩
  ·exact⟨_,rfl,_,rfl,small_line (by show 2≤1000;decide),fun l hl=>fin l [_,_] hl (by show 2≤3;decide)⟩
  refine⟨_,rfl,_,_,rfl,rfl,(by show (0:Int)<6;decide),rfl,_,rfl,ite2 (fun _=>?_) (fun _=>?_)⟩
  ·exact⟨_,rfl,_,rfl,_,rfl,small_line (by show 3≤1000;decide),fun l hl=>fin l [_,_,_] hl (by show 3≤3;decide)⟩
  refine⟨_,rfl,_,_,rfl,rfl,(by show (0:Int)<6;decide),rfl,_,rfl,ite2 (fun _=>?_) (fun _=>?_)⟩
  ·exact⟨_,rfl,_,rfl,_,_,rfl,rfl,_,rfl,_,_,rfl,rfl,small_line (by show 2≤1000;decide),fun l hl=>fin l [_,_] hl (by show 2≤3;decide)⟩
  ·exact⟨_,rfl,_,rfl,_,_,rfl,rfl,_,rfl,small_line (by show 2≤1000;decide),fun l hl=>fin l [_,_] hl (by show 2≤3;decide)⟩
end
end Sf
namespace Sf
open PySem L2 Pl
seal PS PSs PE PA PSsx PSx PEx
open Classical in
noncomputable def dueA (wy:Nat)(ps cs:List Int):Option Nat:=if ¬ IsP ps then some 0 else if 3<wy∧¬ NoX (plc ps) then some 1 else if wy=4∧BadC ps.length cs then some 2 else none
section
variable {wy:Nat}{ps cs:List Int}
theorem due_no (h:¬ IsP ps):dueA wy ps cs=some 0:=by unfold dueA;rw[if_pos h]
theorem due_x (h:IsP ps)(w3:3<wy)(nx:¬ NoX (plc ps)):dueA wy ps cs=some 1:=by unfold dueA;rw[if_neg (fun z=>z h),if_pos ⟨w3,nx⟩]
theorem due_c (h:IsP ps)(nx:NoX (plc ps))(w4:wy=4)(bad:BadC ps.length cs):dueA wy ps cs=some 2:=by unfold dueA;rw[if_neg (fun z=>z h),if_neg (fun z=>z.2 nx),if_pos ⟨w4,bad⟩]
theorem due_ok (h:IsP ps)(nx:¬ 3<wy∨NoX (plc ps))(g:wy≠4∨¬ BadC ps.length cs):dueA wy ps cs=none:=by
 unfold dueA
 rw[if_neg (fun z=>z h),if_neg (fun z=>nx.elim (fun q=>q z.1) fun q=>z.2 q),if_neg (fun z=>g.elim (fun q=>q z.1) fun q=>q z.2)]
theorem due_lt {i:Nat}(h:dueA wy ps cs=some i):i<3:=by
 unfold dueA at h
 split at h
 ·cases h;decide
 ·split at h
  ·cases h;decide
  ·split at h
   ·cases h;decide
   ·cases h
end
def OdX (ps:List Int)(i:Nat)(od:Option Addr)(H:Hp):Prop:=(od=none∧i≠1)∨∃ dx,od=some dx∧i=1∧XHeld ps H dx
theorem OdX.ok {ps:List Int}{i:Nat}{od:Option Addr}{H:Hp}(h:OdX ps i od H):OdOk H od:=by
 rcases h with⟨h,_⟩ | ⟨dx,h,_,a,b,hx,_⟩
 ·exact .inl h
 ·exact .inr ⟨dx,_,h,hx⟩
abbrev orSp (a b:Sp):Sp:=fun vs H Q E=>a vs H Q E∨b vs H Q E
def spAsked (K:PySem.W.Frag)(T:Addr)(cl:Nat→Addr):Sp:=fun vs H Q E=>∃ (p c:Addr) (ps cs:List Int) (wy:Nat),vs=[.int (wy:Int),.ref p,.ref c]∧wy<7∧H p=some (.lst (ps.map V.int))∧H c=some (.lst (cs.map V.int))∧ps.length≤60∧cs.length≤60∧Tab H T lpos lq ∧
 (dueA wy ps cs=none→∀ v H',SameT H H'→Tab H' T lpos lq→Q v H')∧∀ i,dueA wy ps cs=some i→∀ od H',SameT H H'→Tab H' T lpos lq→OdX ps i od H'→E (.ref (cl i)) od H'
abbrev psAsk:List Str:=["_law_way","_law_pile_here","_law_creases_here"]
section
variable {P:Program}{w:World}{K:PySem.W.Frag}{mg:Str→Option Value}{base:Heap}
theorem scAsk:FnScope psAsk psAsk (defScope s_law_asked):=fs
theorem ok_asked {f fP fL fT fX fF fO fB CB Tb:Addr}{fd fdP fdL fdT fdX fdF fdO fdB:FuncData}{ds:List Value}{cl:Nat→Addr}(D:Def K mg "_law_asked" s_law_asked psAsk f fd)(T:Own mg)
  (DP:Def K mg "places" sPlaces ["pile"] fP fdP) (GP:FnOk P w K mg base (CX1 P w) 6 fP fdP ["pile"] (orSp (spPlaces K) (spNo K (cl 0)))) (DL:Def K mg "letters" sLetters ["pile"] fL fdL) (GL:FnOk P w K mg base (CX1 P w) 6 fL fdL ["pile"] (orSp (spLetters K) (spNo K (cl 0))))
  (DT:DefD K mg "turned" sTurned ["pile","by"] ds fT fdT) (GT:FnOk P w K mg base (CX1 P w) 6 fT fdT ["pile","by"] (orSp (spTurnedA K) (spNoBy K (cl 0)))) (DX:Def K mg "crossing" sCrossing ["pile"] fX fdX) (GX:FnOk P w K mg base (CX1 P w) 6 fX fdX ["pile"] (orSp (spCrossing K) (spNo K (cl 0))))
  (DF:Def K mg "free" s_free ["pile","creases"] fF fdF) (GF:FnOk P w K mg base (CX1 P w) 6 fF fdF ["pile","creases"] (orSp (spFreeP K) (spFreeNo K (cl 0) (cl 1) (cl 2)))) (DO:Def K mg "opening" s_opening ["pile"] fO fdO) (GO:FnOk P w K mg base (CX1 P w) 6 fO fdO ["pile"] (orSp (spOpenT K Tb) (spFoldNo K (cl 0) (cl 1))))
  (hB:mg "Bench"=some (.ref CB)) (MB:Mk K CB fB) (bB:Binds K fdB ["self","pile"] []) (GB:FnOk P w K mg base (CX1 P w) 5 fB fdB ["self","pile"] (orSp (spInitA K CB) (spInitNo K (cl 0) (cl 1)))):FnOk P w K mg base (CX1 P w) 7 f fd psAsk (spAsked K Tb cl):=by
 refine Fun.okX D.fn scAsk (fun vs H Q E h=>?_) (fun cdv A outer s H vs Q E hr h=>?_)
 ·obtain⟨p,c,ps,cs,wy,rfl,_⟩:=h
  rfl
 ·obtain⟨p,c,ps,cs,wy,rfl,hw,hp0,hc0,hpl,hcl,tab,k1,k2⟩:=h
  have hp:SqL K H p (ps.map V.int):=SqL.of hp0
  have hc:SqL K H c (cs.map V.int):=SqL.of hc0
  refine⟨_,pss_cons (ps_if (pt_cmpR op_eq (pv 0) pe_int (nomark _)) (pss_one (ps_expr (pe_call (E:=E) GP hr rfl DP.at_ DP.fn.kp DP.bd .nil (pass1 fun _ _ _ h=>h) (pa_cons (pv 1) pa_nil)))) pss_nil)
   (pss_cons (ps_if (pt_cmpR op_eq (pv 0) pe_int (nomark _)) (pss_one (ps_expr (pe_call (E:=E) GL hr rfl DL.at_ DL.fn.kp DL.bd .nil (pass1 fun _ _ _ h=>h) (pa_cons (pv 1) pa_nil)))) pss_nil)
   (pss_cons (ps_if (pt_cmpR op_eq (pv 0) pe_int (nomark _)) (pss_one (ps_expr (pe_call (E:=E) GT hr rfl DT.at_ DT.kp DT.bd .nil (pass1 fun _ _ _ h=>h) (pa_cons (pv 1) (pa_cons (pe_op op_mul (pe_op op_mod (pe_callB call_len_seq (by rfl) T.len PySem.boot_len (pa_cons (pv 2) pa_nil)) pe_int) pe_int) pa_nil))))) pss_nil)
   (pss_cons (ps_if (pt_cmpR op_eq (pv 0) pe_int (nomark _)) (pss_one (ps_expr (pe_call (E:=E) GX hr rfl DX.at_ DX.fn.kp DX.bd .nil (pass1 fun _ _ _ h=>h) (pa_cons (pv 1) pa_nil)))) pss_nil)
   (pss_cons (ps_if (pt_cmpR op_eq (pv 0) pe_int (nomark _)) (pss_one (ps_expr (pe_call (E:=E) GF hr rfl DF.at_ DF.fn.kp DF.bd .nil (pass1 fun _ _ _ h=>h) (pa_cons (pv 1) (pa_cons (pv 2) pa_nil))))) pss_nil)
   (pss_cons (ps_if (pt_cmpR op_eq (pv 0) pe_int (nomark _)) (pss_one (ps_expr (pe_call (E:=E) GO hr rfl DO.at_ DO.fn.kp DO.bd .nil (pass1 fun _ _ _ h=>h) (pa_cons (pv 1) pa_nil)))) pss_nil)
   (pss_one (ps_if (pt_cmpR op_eq (pv 0) pe_int (nomark _)) (pss_one (ps_expr (pe_make (E:=E) MB GB hr rfl hB bB .nil (pass1 fun _ _ _ h=>h) (pa_cons (pv 1) pa_nil)))) pss_nil))))))),?_⟩
  have no:¬ IsP ps→∀ H',Same H H'→E (.ref (cl 0)) none H':=fun ip H' s1=>k2 0 (due_no ip) none H' (SameT.of s1) (tab.stay s1) (.inl ⟨rfl,by decide⟩)
  have fin:∀ v H',Same H H'→dueA wy ps cs=none→Q v H':=fun v H' s1 e=>k1 e v H' (SameT.of s1) (tab.stay s1)
  have fo:3<wy→¬ (IsP ps∧NoX (plc ps))→FoldNo ps (cl 0) (cl 1) H E:=fun w3 h=>by
   by_cases ip:IsP ps
   ·exact .inr ⟨ip,fun nx=>h ⟨ip,nx⟩,fun dx H' s1 hx=>k2 1 (due_x ip w3 fun nx=>h ⟨ip,nx⟩) (some dx) H' (SameT.of s1) (tab.stay s1) (.inr ⟨dx,rfl,rfl,hx⟩)⟩
   ·exact .inl ⟨ip,no ip⟩
  have pos:IsP ps→1≤ps.length:=fun ip=>List.length_pos_iff.mpr ip.1
  match wy,hw with
  | 0,_ =>
   refine⟨_,rfl,rfl,_,rfl,iteT ⟨_,rfl,?_⟩⟩
   by_cases ip:IsP ps
   ·refine .inl ⟨p,ps,ps.length,rfl,hp,ip.2,pos ip,hpl,fun l H' s1 _ _=>?_⟩
    repeat refine⟨_,rfl,rfl,_,rfl,iteF ?_⟩
    exact fin _ _ s1 (due_ok ip (.inl (by decide)) (.inl (by decide)))
   ·exact .inr ⟨p,ps,rfl,hp,hpl,ip,no ip⟩
  | 1,_ =>
   refine⟨_,rfl,rfl,_,rfl,iteF ⟨_,rfl,rfl,_,rfl,iteT ⟨_,rfl,?_⟩⟩⟩
   by_cases ip:IsP ps
   ·refine .inl ⟨p,ps,ps.length,rfl,hp,ip.2,pos ip,hpl,fun l H' s1 _=>?_⟩
    repeat refine⟨_,rfl,rfl,_,rfl,iteF ?_⟩
    exact fin _ _ s1 (due_ok ip (.inl (by decide)) (.inl (by decide)))
   ·exact .inr ⟨p,ps,rfl,hp,hpl,ip,no ip⟩
  | 2,_ =>
   refine⟨_,rfl,rfl,_,rfl,iteF ⟨_,rfl,rfl,_,rfl,iteF ⟨_,rfl,rfl,_,rfl,iteT ⟨_,rfl,_,rfl,c,_,rfl,.inl hc,_,_,rfl,rfl,(by show (0:Int)<2;decide),_,_,rfl,rfl,.inr ⟨by decide,by decide⟩,?_⟩⟩⟩⟩
   by_cases ip:IsP ps
   ·refine .inl ⟨p,ps,ps.length,_,rfl,hp,ip.2,pos ip,hpl,fun l H' s1=>?_⟩
    repeat refine⟨_,rfl,rfl,_,rfl,iteF ?_⟩
    exact fin _ _ s1 (due_ok ip (.inl (by decide)) (.inl (by decide)))
   ·exact .inr ⟨p,_,ps,rfl,hp,hpl,ip,no ip⟩
  | 3,_ =>
   refine⟨_,rfl,rfl,_,rfl,iteF ⟨_,rfl,rfl,_,rfl,iteF ⟨_,rfl,rfl,_,rfl,iteF ⟨_,rfl,rfl,_,rfl,iteT ⟨_,rfl,?_⟩⟩⟩⟩⟩
   by_cases ip:IsP ps
   ·refine .inl ⟨p,ps,ps.length,rfl,hp,ip.2,pos ip,hpl,fun H' s1 _=>?_,fun t a b H' s1 _ _ _ _ _ _=>?_⟩
    ·repeat refine⟨_,rfl,rfl,_,rfl,iteF ?_⟩
     exact fin _ _ s1 (due_ok ip (.inl (by decide)) (.inl (by decide)))
    ·repeat refine⟨_,rfl,rfl,_,rfl,iteF ?_⟩
     exact fin _ _ s1 (due_ok ip (.inl (by decide)) (.inl (by decide)))
   ·exact .inr ⟨p,ps,rfl,hp,hpl,ip,no ip⟩
  | 4,_ =>
   refine⟨_,rfl,rfl,_,rfl,iteF ⟨_,rfl,rfl,_,rfl,iteF ⟨_,rfl,rfl,_,rfl,iteF ⟨_,rfl,rfl,_,rfl,iteF ⟨_,rfl,rfl,_,rfl,iteT ⟨_,rfl,_,rfl,?_⟩⟩⟩⟩⟩⟩
   by_cases ip:IsP ps∧NoX (plc ps)
   ·by_cases bad:BadC ps.length cs
    ·exact .inr ⟨p,c,ps,cs,rfl,hp,hc,hpl,hcl,.inr ⟨ip.1,ip.2,bad,fun H' s1=>k2 2 (due_c ip.1 ip.2 rfl bad) none H' (SameT.of s1) (tab.stay s1) (.inl ⟨rfl,by decide⟩)⟩⟩
    ·obtain⟨ec,nd,hb⟩:=cz_of bad
     refine .inl ⟨p,c,ps,ps.length,cs.map Int.toNat,rfl,hp,?_,ip.1.2,pos ip.1,hpl,ip.2,nd,hb,by rw[List.length_map];exact hcl,fun b H' s1=>?_⟩
     ·rw[ec] at hc
      exact hc
     ·repeat refine⟨_,rfl,rfl,_,rfl,iteF ?_⟩
      exact fin _ _ s1 (due_ok ip.1 (.inr ip.2) (.inr bad))
   ·exact .inr ⟨p,c,ps,cs,rfl,hp,hc,hpl,hcl,.inl (fo (by decide) ip)⟩
  | 5,_ =>
   refine⟨_,rfl,rfl,_,rfl,iteF ⟨_,rfl,rfl,_,rfl,iteF ⟨_,rfl,rfl,_,rfl,iteF ⟨_,rfl,rfl,_,rfl,iteF ⟨_,rfl,rfl,_,rfl,iteF ⟨_,rfl,rfl,_,rfl,iteT ⟨_,rfl,?_⟩⟩⟩⟩⟩⟩⟩
   by_cases ip:IsP ps∧NoX (plc ps)
   ·refine .inl ⟨p,ps,ps.length,rfl,hp,ip.1.2,pos ip.1,hpl,ip.2,tab,fun v H' s1 t1=>?_⟩
    repeat refine⟨_,rfl,rfl,_,rfl,iteF ?_⟩
    exact k1 (due_ok ip.1 (.inr ip.2) (.inl (by decide))) _ _ s1 t1
   ·exact .inr ⟨p,ps,rfl,hp,hpl,fo (by decide) ip⟩
  | 6,_ =>
   refine⟨_,rfl,rfl,_,rfl,iteF ⟨_,rfl,rfl,_,rfl,iteF ⟨_,rfl,rfl,_,rfl,iteF ⟨_,rfl,rfl,_,rfl,iteF ⟨_,rfl,rfl,_,rfl,iteF ⟨_,rfl,rfl,_,rfl,iteF ⟨_,rfl,rfl,_,rfl,iteT ⟨_,rfl,fun x dx hx hdx nxd=>?_⟩⟩⟩⟩⟩⟩⟩⟩
   have s0:Same H (upd (upd H dx (.own x)) x (.ins CB dx [])):=fun b o e=>by rw[upd_ne (ne_of_none e hx),upd_ne (ne_of_none e hdx)];exact e
   by_cases ip:IsP ps∧NoX (plc ps)
   ·refine .inl ⟨x,p,dx,ps,ps.length,rfl,upd_same,s0.seq hp,ne_of_none hp0 hx,ip.1.2,pos ip.1,hpl,ip.2,fun H' s1=>⟨rfl,?_⟩⟩
    exact fin _ _ (fun b o e=>s1 _ _ (s0 _ _ e) (ne_of_none e hx)) (due_ok ip.1 (.inr ip.2) (.inl (by decide)))
   ·refine .inr ⟨x,p,ps,rfl,s0.seq hp,hpl,?_⟩
    rcases fo (by decide) ip with⟨a,b⟩ | ⟨a,b,d⟩
    ·exact .inl ⟨a,fun H' s1=>b H' (s0.trans s1)⟩
    ·exact .inr ⟨a,b,fun dx H' s1=>d dx H' (s0.trans s1)⟩
  | n+7,h=>omega
end
end Sf
namespace L2
open PySem PySem.Spec PyProof.Rows
theorem pe_fldXK {X:Cx}{K:PySem.W.Frag}{e:Expr}{ta:TE}{f:Str}{pos:Pos}(hK:X.K=K)(he:PE X e ta)(hb:attributeBase e f X.env (eval e X.env)=eval e X.env):PE X (.Attribute e f pos) (tFldX K ta f):=hK ▸ pe_fldX he hb
end L2
namespace Sf
open PySem L2 Pl
seal PS PSs PE PA PSsx PSx PEx
def spWord (T:Addr):Sp:=fun vs H Q _=>∃ (p c:Addr) (ps cs:List Int) (wy:Nat),vs=[.int (wy:Int),.ref p,.ref c]∧wy<7∧H p=some (.lst (ps.map V.int))∧H c=some (.lst (cs.map V.int))∧ps.length≤60∧cs.length≤60∧Tab H T lpos lq ∧
 (dueA wy ps cs=none→∀ H',SameT H H'→Tab H' T lpos lq→Q .non H')∧∀ i,dueA wy ps cs=some i→∀ l H',SameT H H'→Tab H' T lpos lq→H' l=some (.lst (kindsL i))→Q (.ref l) H'
def spCrossed (T:Addr):Sp:=fun vs H Q _=>∃ (p c:Addr) (ps cs:List Int) (wy:Nat),vs=[.ref p,.ref c,.int (wy:Int)]∧wy<7∧H p=some (.lst (ps.map V.int))∧H c=some (.lst (cs.map V.int))∧ps.length≤60∧cs.length≤60∧Tab H T lpos lq∧dueA wy ps cs=some 1∧IsP ps ∧
 ∀ H',SameT H H'→Tab H' T lpos lq→Q (.bl true) H'
abbrev nmWord:List Str:=["_law_way","_law_pile_here","_law_creases_here","_law_told","_law_e"]
abbrev nmCrd:List Str:=["_law_pile_here","_law_creases_here","_law_way","_law_told","_law_e","_law_one","_law_other","_law_at"]
section
variable {P:Program}{w:World}{K:PySem.W.Frag}{mg:Str→Option Value}{base:Heap}
theorem scWord:FnScope nmWord psAsk (defScope s_law_word):=fs
theorem ok_word {f fA fK Tb S:Addr}{fd fdA fdK:FuncData}{cl:Nat→Addr}{kA:Nat}(hkA:kA≤19)(D:Def K mg "_law_word" s_law_word psAsk f fd)(T:Own mg)(R:Errs K mg cl)(B:ErrsB mg base cl S)
  (DA:Def K mg "_law_asked" s_law_asked psAsk fA fdA) (GA:FnOk P w K mg base (CX1 P w) kA fA fdA psAsk (spAsked K Tb cl)) (DK:Def K mg "_law_kinds" s_law_kinds ["_law_e"] fK fdK):FnOk P w K mg base CX0 20 f fd psAsk (spWord Tb):=by
 have GK:FnOkM P w K mg base 1 fK fdK ["_law_e"] (spKinds cl):=ok_kinds DK T R
 obtain⟨bmS,shS,hbS⟩:=B.sup
 refine D.fn.ok scWord (fun vs H Q E h=>?_) (fun cdv A outer s H vs Q E hr h=>?_)
 ·obtain⟨p,c,ps,cs,wy,rfl,_⟩:=h
  rfl
 ·obtain⟨p,c,ps,cs,wy,rfl,hw,hp,hc,hpl,hcl,tab,k1,k2⟩:=h
  have hrA:=hr.mono hkA
  have hrK:=hr.mono (show 1≤19 by decide)
  refine⟨_,pss_cons (ps_set (i:=3) scWord.nd rfl (Or.inl rfl) pe_non)
   (pss_cons (ps_try (i:=4) (S:=S) (EX:=fun σ1 C od H'=>σ1=[some (.int (wy:Int)),some (.ref p),some (.ref c),some .non,none]∧∃ i,dueA wy ps cs=some i∧C=.ref (cl i)∧SameT H H'∧Tab H' Tb lpos lq∧OdOk H' od) scWord.nd rfl rfl ⟨rfl,rfl⟩ (by rfl) B.at_ shS hbS
     (pssx_one (psx_expr (pex_call GA hrA (by rfl) DA.at_ DA.fn.kp DA.bd .nil (pa_cons (pv 0) (pa_cons (pv 1) (pa_cons (pv 2) pa_nil))))))
     (fun e=>pss_one (ps_set (i:=3) scWord.nd rfl (Or.inl rfl) (pe_callM GK ⟨rfl,hrK.dp,hrK.un⟩ (by rfl) DK.at_ DK.fn.kp DK.bd .nil (pa_cons (pv 4) pa_nil)))))
   (pss_one (ps_ret (pv 3)))),?_⟩
  refine⟨⟨_,rfl,_,rfl,_,rfl,p,c,ps,cs,wy,rfl,hw,hp,hc,hpl,hcl,tab,fun hd v H' s1 t1=>⟨_,rfl,k1 hd H' s1 t1⟩,fun i hd od H' s1 t1 ho=>⟨rfl,i,hd,rfl,s1,t1,ho.ok⟩⟩,?_⟩
  rintro σ1 C od H' ⟨rfl,i,hd,rfl,s1,t1,ho⟩
  have hi:i<6:=Nat.lt_of_lt_of_le (due_lt hd) (by decide)
  obtain⟨bm,sh,hin⟩:=B.all i hi
  refine⟨cl i,bm,rfl,sh,hin,fun e he=>?_⟩
  have s2:=same_new (o:=excO e (cl i) od) he
  refine⟨_,rfl,e,i,rfl,⟨hi,od,upd_same,?_⟩,fun l H3 s3 hl=>⟨_,rfl,k2 i hd l H3 (s1.trans (SameT.of (s2.trans s3))) (t1.stay (s2.trans s3)) hl⟩⟩
  rcases ho with ho | ⟨dx,fs,ho,hx⟩
  ·exact .inl ho
  ·exact .inr ⟨dx,fs,ho,s2 _ _ hx⟩
theorem scCrd:FnScope nmCrd ["_law_pile_here","_law_creases_here","_law_way"] (defScope s_law_crossed):=fs
theorem ok_crossed {f fA fC fP fW Tb:Addr}{fd fdA fdC fdP fdW:FuncData}{cl:Nat→Addr}{kA:Nat}(hkA:kA≤19)(D:Def K mg "_law_crossed" s_law_crossed ["_law_pile_here","_law_creases_here","_law_way"] f fd)(T:Own mg)(M:OwnM mg)(R:Errs K mg cl)(XB:∃ bm,EShape base (cl 1) bm∧bm.contains (.type "BaseException")=true)(hd1:PySem.W.hasDictIn K (cl 1)=true)(n1:NoAttr K (cl 1) "one")(n2:NoAttr K (cl 1) "other")
  (DA:Def K mg "_law_asked" s_law_asked psAsk fA fdA) (GA:FnOk P w K mg base (CX1 P w) kA fA fdA psAsk (spAsked K Tb cl)) (DC:Def K mg "_law_counts" sCounts ["_law_thing"] fC fdC) (DP:Def K mg "_law_places" sLPlaces ["_law_pile_here"] fP fdP) (DW:Def K mg "_law_wraps" sLWraps ["_law_at","_law_crease","_law_stamp"] fW fdW) :
  FnOk P w K mg base CX0 20 f fd ["_law_pile_here","_law_creases_here","_law_way"] (spCrossed Tb):=by
 have GC:FnOk P w K mg base CX0 1 fC fdC ["_law_thing"] spCounts:=ok_counts DC T
 have GP:FnOk P w K mg base CX0 1 fP fdP ["_law_pile_here"] (spLPlaces K):=ok_lplaces DP T
 have GW:FnOk P w K mg base CX0 1 fW fdW ["_law_at","_law_crease","_law_stamp"] (spWraps K):=ok_lwraps DW M
 obtain⟨bm1,sh1,hbB⟩:=XB
 refine D.fn.ok scCrd (fun vs H Q E h=>?_) (fun cdv A outer s H vs Q E hr h=>?_)
 ·obtain⟨p,c,ps,cs,wy,rfl,_⟩:=h
  rfl
 ·obtain⟨p,c,ps,cs,wy,rfl,hw,hp,hc,hpl,hcl,tab,due,ip,k⟩:=h
  have hrA:=hr.mono hkA
  have hr1:=hr.mono (show 1≤19 by decide)
  refine⟨_,pss_cons (ps_set (i:=3) scCrd.nd rfl (Or.inl rfl) pe_non)
   (pss_cons (ps_try (i:=4) (S:=cl 1) (EX:=fun σ1 C od H'=>σ1=[some (.ref p),some (.ref c),some (.int (wy:Int)),some .non,none,none,none,none]∧C=.ref (cl 1)∧SameT H H'∧Tab H' Tb lpos lq∧∃ dx,od=some dx∧XHeld ps H' dx) scCrd.nd rfl rfl ⟨rfl,rfl⟩ (by rfl) R.n1 sh1 hbB
     (pssx_one (psx_expr (pex_call GA hrA (by rfl) DA.at_ DA.fn.kp DA.bd .nil (pa_cons (pv 2) (pa_cons (pv 0) (pa_cons (pv 1) pa_nil))))))
     (fun e=>pss_one (ps_set (i:=3) scCrd.nd rfl (Or.inl rfl) (pe_tup (pa_cons (pe_fldXK (K:=K) rfl (pv 4) rfl) (pa_cons (pe_fldXK (K:=K) rfl (pv 4) rfl) pa_nil))))))
   (pss_cons (ps_if (pw_or (pt_cmpR op_isN (pv 3) pe_non (nomark _)) (pw_or (pt_not (pt_val (pe_call GC hr1 (by rfl) DC.at_ DC.fn.kp DC.bd .nil pass0 (pa_cons (pe_ix ix_tup (pv 3) pe_int (fun _ _=>rfl)) pa_nil)))) (pw_or1 (pt_not (pt_val (pe_call GC hr1 (by rfl) DC.at_ DC.fn.kp DC.bd .nil pass0 (pa_cons (pe_ix ix_tup (pv 3) pe_int (fun _ _=>rfl)) pa_nil))))))).pt (pss_one (ps_ret pe_bl)) pss_nil)
   (pss_cons (ps_set (i:=5) scCrd.nd rfl (Or.inl rfl) (pe_ix ix_tup (pv 3) pe_int (fun _ _=>rfl)))
   (pss_cons (ps_set (i:=6) scCrd.nd rfl (Or.inl rfl) (pe_ix ix_tup (pv 3) pe_int (fun _ _=>rfl)))
   (pss_cons (ps_if (pw_or (pt_cmpR op_lt (pv 5) pe_int (nomark _)) (pw_or (pt_cmpR op_ge (pv 5) (pv 6) (nomark _)) (pw_or (pt_cmpR op_gt (pv 6) (pe_op op_sub (pe_callB call_len_seq (by rfl) T.len PySem.boot_len (pa_cons (pv 0) pa_nil)) pe_int) (nomark _)) (pw_or1 (pt_cmpR op_eq (pe_op op_mod (pe_op op_sub (pv 6) (pv 5)) pe_int) pe_int (nomark _)))))).pt (pss_one (ps_ret pe_bl)) pss_nil)
   (pss_cons (ps_set (i:=7) scCrd.nd rfl (Or.inl rfl) (pe_call GP hr1 (by rfl) DP.at_ DP.fn.kp DP.bd .nil pass0 (pa_cons (pv 0) pa_nil)))
   (pss_one (ps_ret (pe_cmpR op_ne (pe_call GW hr1 (by rfl) DW.at_ DW.fn.kp DW.bd .nil pass0 (pa_cons (pv 7) (pa_cons (pv 5) (pa_cons (pv 6) pa_nil)))) (pe_call GW hr1 (by rfl) DW.at_ DW.fn.kp DW.bd .nil pass0 (pa_cons (pv 7) (pa_cons (pv 5) (pa_cons (pe_op op_add (pv 6) pe_int) pa_nil)))) (nomark _)))))))))),?_⟩
  refine⟨⟨_,rfl,_,rfl,_,rfl,p,c,ps,cs,wy,rfl,hw,hp,hc,hpl,hcl,tab,fun hd v H' s1 t1=>?_,fun i hd od H' s1 t1 ho=>?_⟩,?_⟩
  ·rw[due] at hd
   cases hd
  ·rw[due] at hd
   obtain rfl:1=i:=Option.some.inj hd
   rcases ho with⟨_,ho⟩ | ⟨dx,ho,_,hx⟩
   ·exact absurd rfl ho
   ·exact⟨rfl,rfl,s1,t1,dx,ho,hx⟩
  rintro σ1 C od H' ⟨rfl,rfl,s1,t1,dx,rfl,a,b,hx,d1,d2,d3,d4⟩
  refine⟨cl 1,bm1,rfl,sh1,by simp,fun e he=>?_⟩
  have s2:=same_new (o:=excO e (cl 1) (some dx)) he
  refine⟨_,rfl,e,cl 1,dx,_,.int (a:Int),rfl,upd_same,s2 _ _ hx,R.inn 1 (by decide),hd1,n1,rfl,?_⟩
  refine⟨_,rfl,e,cl 1,dx,_,.int (b:Int),rfl,upd_same,s2 _ _ hx,R.inn 1 (by decide),hd1,n2,rfl,?_⟩
  refine⟨small_line (by show 2≤1000;decide),fun t ht=>?_⟩
  have s3:=same_new (o:=.tup [.int (a:Int),.int (b:Int)]) ht
  have sT:SameT H _:=s1.trans (SameT.of (s2.trans s3))
  have tT:Tab _ Tb lpos lq:=t1.stay (s2.trans s3)
  have hp3:=sT _ _ hp noT
  refine⟨_,rfl,rfl,_,rfl,iteF ?_⟩
  refine⟨_,rfl,t,_,_,_,rfl,rfl,SqT.of upd_same,rfl,_,rfl,true,rfl,iteF ?_⟩
  refine⟨_,rfl,t,_,_,_,rfl,rfl,SqT.of upd_same,rfl,_,rfl,true,rfl,iteF ?_⟩
  refine⟨_,rfl,t,_,_,_,rfl,rfl,SqT.of upd_same,rfl,?_⟩
  refine⟨_,rfl,t,_,_,_,rfl,rfl,SqT.of upd_same,rfl,?_⟩
  refine⟨_,rfl,_,_,rfl,rfl,_,rfl,ite2 (fun z=>?_) (fun _=>?_)⟩
  ·have:=of_decide_eq_true z
   omega
  refine⟨_,rfl,_,rfl,_,_,rfl,rfl,_,rfl,ite2 (fun z=>?_) (fun _=>?_)⟩
  ·have:=of_decide_eq_true z
   omega
  refine⟨_,rfl,_,rfl,p,_,rfl,.inl (SqL.of hp3),_,_,rfl,rfl,_,_,rfl,rfl,_,rfl,ite2 (fun z=>?_) (fun _=>?_)⟩
  ·have:=of_decide_eq_true z
   rw[List.length_map] at this
   omega
  refine⟨_,rfl,_,rfl,_,_,rfl,rfl,_,_,rfl,rfl,(by show (0:Int)<2;decide),rfl,_,rfl,ite2 (fun z=>?_) (fun _=>?_)⟩
  ·have:=of_decide_eq_true z
   injection this with this
   omega
  refine⟨_,rfl,p,ps,ps.length,rfl,SqL.of hp3,ip.2,hpl,fun l H4 s4 hl0 hl=>?_⟩
  have pl:(plc ps).length=ps.length:=plc_length ps
  refine⟨_,rfl,_,rfl,_,rfl,l,plc ps,a,b,rfl,SqL.of hl,by omega,by omega,_,rfl,_,rfl,_,rfl,_,_,rfl,rfl,l,plc ps,a,b+1,rfl,SqL.of hl,by omega,by omega,rfl,?_⟩
  have e:(!decide (V.bl (wr (plc ps) a b)=V.bl (wr (plc ps) a (b+1))))=true:=by
   have d4':(wr (plc ps) a b != wr (plc ps) a (b+1))=true:=d4
   revert d4'
   cases wr (plc ps) a b <;> cases wr (plc ps) a (b+1) <;> decide
  show Q (.bl (!decide (V.bl (wr (plc ps) a b)=V.bl (wr (plc ps) a (b+1))))) H4
  rw[e]
  exact k H4 (sT.trans (SameT.of s4)) (tT.stay s4)
end
end Sf
namespace Sf
open PySem L2 Pl
seal PS PSs PE PA PSsx PSx PEx
def DueV (H:Hp)(r:Option Nat)(v:V):Prop:=(r=none∧v=.non)∨∃ i l,r=some i∧v=.ref l∧H l=some (.lst (kindsL i))
theorem DueV.same {H H':Hp}{r:Option Nat}{v:V}(x:DueV H r v)(s:SameT H H'):DueV H' r v:=by
 rcases x with x | ⟨i,l,a,b,c⟩
 ·exact .inl x
 ·exact .inr ⟨i,l,a,b,s _ _ c noT⟩
theorem flat_kinds (i:Nat):(kindsL i).all flatV=true:=rfl
theorem eq_kinds (i:Nat):eqVs (kindsL i) (kindsL i)=true:=by
 unfold kindsL
 cases decide (0=i) <;> cases decide (1=i) <;> cases decide (2=i) <;> cases decide (3=i) <;> cases decide (4=i) <;> cases decide (5=i) <;> rfl
theorem due_eq {K:PySem.W.Frag}{H:Hp}{r:Option Nat}{v u:V}{Q:VK}(a:DueV H r v)(b:DueV H r u)(k:Q (.bl true) H):rEq v u H Q∨rEqL K false v u H Q:=by
 rcases a with⟨h,rfl⟩ | ⟨i,l,h,rfl,e⟩
 ·rcases b with⟨_,rfl⟩ | ⟨i,l,h',_⟩
  ·exact .inl ⟨rfl,k⟩
  ·rw[h] at h';cases h'
 ·rcases b with⟨h',_⟩ | ⟨i',l',h',rfl,e'⟩
  ·rw[h] at h';cases h'
  ·rw[h] at h'
   cases h'
   refine .inr ⟨l,l',_,_,rfl,rfl,SqL.of e,SqL.of e',flat_kinds _,flat_kinds _,?_⟩
   rw[eq_kinds]
   exact k
theorem due_ne {K:PySem.W.Frag}{H:Hp}{r:Option Nat}{v u:V}{Q:VK}(a:DueV H r v)(b:DueV H r u)(k:Q (.bl false) H):rNe v u H Q∨rEqL K true v u H Q:=by
 rcases a with⟨h,rfl⟩ | ⟨i,l,h,rfl,e⟩
 ·rcases b with⟨_,rfl⟩ | ⟨i,l,h',_⟩
  ·exact .inl ⟨rfl,k⟩
  ·rw[h] at h';cases h'
 ·rcases b with⟨h',_⟩ | ⟨i',l',h',rfl,e'⟩
  ·rw[h] at h';cases h'
  ·rw[h] at h'
   cases h'
   refine .inr ⟨l,l',_,_,rfl,rfl,SqL.of e,SqL.of e',flat_kinds _,flat_kinds _,?_⟩
   rw[eq_kinds]
   exact k
def ifElse:Stmt→List Stmt
 | .If _ _ b _=>b
 | _=>[]
def spPA (K:PySem.W.Frag)(T:Addr):Sp:=fun vs H Q _=>∃ (a:Addr) (ns:List Int),vs=[.ref a]∧SqL K H a (ns.map V.int)∧Tab H T lpos lq∧∀ H',SameT H H'→Q (.bl true) H'
abbrev nmPA:List Str:=["_law_script","_law_size_here","_law_pile_here","_law_great","_law_creases_here","_law_way","_law_due","_law_handed","_law_found"]
section
variable {P:Program}{w:World}{K:PySem.W.Frag}{mg:Str→Option Value}{base:Heap}
theorem scPA:FnScope nmPA ["_law_script"] (defScope s_law_piles_asked):=fs
theorem ok_pa {f fD fN fS fPi fG fSp fCr fIs fDk fNo fPl fCd fCg fW Tb:Addr}{fd fdD fdN fdS fdPi fdG fdSp fdCr fdIs fdDk fdNo fdPl fdCd fdCg fdW:FuncData}(D:Def K mg "_law_piles_asked" s_law_piles_asked ["_law_script"] f fd)(T:Own mg)
  (DD:Def K mg "_law_drawn" sDrawn ["_law_script","_law_k"] fD fdD) (DN:Def K mg "_law_number" sNumber ["_law_script","_law_k"] fN fdN) (DS:Def K mg "_law_size" sSize ["_law_cell"] fS fdS)
  (DPi:Def K mg "_law_pile" sPile ["_law_script","_law_start","_law_size_here"] fPi fdPi) (DG:Def K mg "_law_good" sGood ["_law_script","_law_start","_law_size_here"] fG fdG) (GG:FnOk P w K mg base CX0 5 fG fdG ["_law_script","_law_start","_law_size_here"] (spGood K))
  (DSp:Def K mg "_law_spoiled" s_law_spoiled ["_law_pile_here","_law_number_here","_law_great"] fSp fdSp) (DCr:Def K mg "_law_creases" s_law_creases ["_law_size_here","_law_number_here","_law_great"] fCr fdCr) (M:OwnM mg)
  (DIs:Def K mg "_law_is_pile" s_law_is_pile ["_law_found"] fIs fdIs) (DDk:Def K mg "_law_due_kinds" s_law_due_kinds ["_law_which"] fDk fdDk) (DNo:Def K mg "_law_none_cross" sNone ["_law_at"] fNo fdNo) (GNo:FnOk P w K mg base CX0 2 fNo fdNo ["_law_at"] (spNone K)) (DPl:Def K mg "_law_places" sLPlaces ["_law_pile_here"] fPl fdPl)
  (DCd:Def K mg "_law_crossed" s_law_crossed ["_law_pile_here","_law_creases_here","_law_way"] fCd fdCd) (GCd:FnOk P w K mg base CX0 20 fCd fdCd ["_law_pile_here","_law_creases_here","_law_way"] (spCrossed Tb))
  (DCg:Def K mg "_law_creases_good" s_law_creases_good ["_law_size_here","_law_creases_here"] fCg fdCg) (Z:OwnZ mg) (DW:Def K mg "_law_word" s_law_word psAsk fW fdW) (GW:FnOk P w K mg base CX0 20 fW fdW psAsk (spWord Tb)):FnOk P w K mg base CX0 22 f fd ["_law_script"] (spPA K Tb):=by
 have GD:FnOk P w K mg base CX0 1 fD fdD ["_law_script","_law_k"] (spDrawn K):=ok_drawn DD T
 have GN:FnOk P w K mg base CX0 1 fN fdN ["_law_script","_law_k"] (spNumber K):=ok_number DN T
 have GS:FnOk P w K mg base CX0 1 fS fdS ["_law_cell"] spSize:=ok_size DS
 have GPi:FnOk P w K mg base CX0 2 fPi fdPi ["_law_script","_law_start","_law_size_here"] (spPile K):=ok_pile DPi DN T
 have GSp:FnOk P w K mg base CX0 1 fSp fdSp ["_law_pile_here","_law_number_here","_law_great"] (spSpoil K):=ok_spoil DSp T
 have GCr:FnOk P w K mg base CX0 1 fCr fdCr ["_law_size_here","_law_number_here","_law_great"] (spCre K):=ok_cre9 DCr M
 have GIs:FnOk P w K mg base CX0 1 fIs fdIs ["_law_found"] (spIsP K):=ok_isp DIs T
 have GDk:FnOk P w K mg base CX0 1 fDk fdDk ["_law_which"] spDueK:=ok_duek DDk T
 have GPl:FnOk P w K mg base CX0 1 fPl fdPl ["_law_pile_here"] (spLPlaces K):=ok_lplaces DPl T
 have GCg:FnOk P w K mg base CX0 1 fCg fdCg ["_law_size_here","_law_creases_here"] (spCrG K):=ok_crg DCg T Z
 refine D.fn.ok scPA (fun vs H Q E h=>?_) (fun cdv A outer s H vs Q E hr h=>?_)
 ·obtain⟨a,ns,rfl,_⟩:=h
  rfl
 ·obtain⟨a,ns,rfl,hq,tab,k⟩:=h
  have hr1:=hr.mono (show 1≤21 by decide)
  have hr2:=hr.mono (show 2≤21 by decide)
  have hr5:=hr.mono (show 5≤21 by decide)
  have hr20:=hr.mono (show 20≤21 by decide)
  obtain⟨t11,h11,r11⟩:∃ t,PSs ((cxOf CX0 P w K mg base nmPA "_law_piles_asked" (defScope s_law_piles_asked) f cdv A outer s H E).nox) ((defBody s_law_piles_asked).drop 11) t ∧
    ∀ (D:Ends) (n g dv u:V) (p c lh l1 l2:Addr) (ps cs:List Int) (wy:Nat) H2,D.rt=Q→SameT H H2→H2 p=some (.lst (ps.map V.int))→H2 c=some (.lst (cs.map V.int))→H2 l1=some (.lst (ps.map V.int))→H2 l2=some (.lst (cs.map V.int))→H2 lh=some (.lst [V.ref l1,V.ref l2])→DueV H2 (dueA wy ps cs) dv→DueV H2 (dueA wy ps cs) u →
     t D [some (.ref a),some n,some (.ref p),some g,some (.ref c),some (.int (wy:Int)),some dv,some (.ref lh),some u] H2:=by
   refine⟨_,pss_one (ps_ret (pe_and (pe_cmpR (op_eq.or (op_eq_lst hr.units0)) (pv 8) (pv 6) (nomark _)) (pe_one (pe_cmpR (op_eqLL hr.units0 (in1_units hr)) (pv 7) (pe_lst (pa_cons (pv 2) (pa_cons (pv 4) pa_nil))) (nomark _))))),?_⟩
   intro D n g dv u p c lh l1 l2 ps cs wy H2 hD s2 hp hc e1 e2 eh d1 d2
   refine⟨_,rfl,_,rfl,due_eq d2 d1 ⟨true,rfl,iteT ?_⟩⟩
   refine⟨_,rfl,_,rfl,_,rfl,small_line (by show 2≤1000;decide),fun l4 hl4=>?_⟩
   have q4:=same_new (o:=.lst [V.ref p,V.ref c]) hl4
   refine⟨lh,l4,[l1,l2],[p,c],[ps,cs],rfl,rfl,⟨q4 _ _ eh,rfl,fun i x y h1 h2=>?_⟩,⟨upd_same,rfl,fun i x y h1 h2=>?_⟩,?_⟩
   ·match i with
    | 0 =>
     cases h1
     cases h2
     exact q4 _ _ e1
    | 1 =>
     cases h1
     cases h2
     exact q4 _ _ e2
    | i+2=>cases h1
   ·match i with
    | 0 =>
     cases h1
     cases h2
     exact q4 _ _ hp
    | 1 =>
     cases h1
     cases h2
     exact q4 _ _ hc
    | i+2=>cases h1
   ·rw[hD]
    exact k _ (s2.trans (SameT.of q4))
  obtain⟨t9,h9,r9⟩:∃ t,PSs ((cxOf CX0 P w K mg base nmPA "_law_piles_asked" (defScope s_law_piles_asked) f cdv A outer s H E).nox) ((defBody s_law_piles_asked).drop 9) t ∧
    ∀ (D:Ends) (n g dv:V) (p c:Addr) (ps cs:List Int) (wy:Nat) (v7 v8:Option V) H1,D.rt=Q→wy<7→H1 p=some (.lst (ps.map V.int))→H1 c=some (.lst (cs.map V.int))→ps.length≤60→cs.length≤60→Tab H1 Tb lpos lq→SameT H H1→DueV H1 (dueA wy ps cs) dv →
     t D [some (.ref a),some n,some (.ref p),some g,some (.ref c),some (.int (wy:Int)),some dv,v7,v8] H1:=by
   refine⟨_,pss_cons (ps_set (i:=7) scPA.nd rfl (Or.inl rfl) (pe_lst (pa_cons (pe_callTy call_list_of (by rfl) T.list boot_list (pa_cons (pv 2) pa_nil)) (pa_cons (pe_callTy call_list_of (by rfl) T.list boot_list (pa_cons (pv 4) pa_nil)) pa_nil))))
    (pss_cons (ps_set (i:=8) scPA.nd rfl (Or.inl rfl) (pe_call GW hr20 (by rfl) DW.at_ DW.fn.kp DW.bd .nil pass0 (pa_cons (pv 5) (pa_cons (pe_ix ix_list (pv 7) pe_int (fun _ _=>rfl)) (pa_cons (pe_ix ix_list (pv 7) pe_int (fun _ _=>rfl)) pa_nil))))) h11),?_⟩
   intro D n g dv p c ps cs wy v7 v8 H1 hD hw hp hc hpl hcl t1 s1 dv1
   refine⟨_,rfl,p,_,rfl,.inl (SqL.of hp),fun l1 hl1=>?_⟩
   have q1:=same_new (o:=.lst (ps.map V.int)) hl1
   refine⟨_,rfl,c,_,rfl,.inl (SqL.of (q1 _ _ hc)),fun l2 hl2=>⟨small_line (by show 2≤1000;decide),fun lh hlh=>?_⟩⟩
   have q2:=same_new (o:=.lst (cs.map V.int)) hl2
   have q3:=same_new (o:=.lst [V.ref l1,V.ref l2]) hlh
   have q:=q1.trans (q2.trans q3)
   have e1:=q3 _ _ (q2 _ _ (upd_same (H:=H1) (a:=l1) (o:=.lst (ps.map V.int))))
   have e2:=q3 _ _ (upd_same (H:=upd H1 l1 (.lst (ps.map V.int))) (a:=l2) (o:=.lst (cs.map V.int)))
   refine⟨_,rfl,_,rfl,lh,_,_,_,rfl,rfl,SqL.of upd_same,rfl,_,rfl,lh,_,_,_,rfl,rfl,SqL.of upd_same,rfl,?_⟩
   have fin:∀ (u:V) H2,SameT (upd (upd (upd H1 l1 (.lst (ps.map V.int))) l2 (.lst (cs.map V.int))) lh (.lst [V.ref l1,V.ref l2])) H2→DueV H2 (dueA wy ps cs) u→t11 D [some (.ref a),some n,some (.ref p),some g,some (.ref c),some (.int (wy:Int)),some dv,some (.ref lh),some u] H2:=fun u H2 s2 du =>
    have sT:=(SameT.of q).trans s2
    r11 D n g dv u p c lh l1 l2 ps cs wy H2 hD (s1.trans sT) (sT _ _ hp noT) (sT _ _ hc noT) (s2 _ _ e1 noT) (s2 _ _ e2 noT) (s2 _ _ upd_same noT) (dv1.same sT) du
   refine⟨l1,l2,ps,cs,wy,rfl,hw,e1,e2,hpl,hcl,t1.stay q,fun hd H2 s2 t2=>?_,fun i hd l H2 s2 t2 hl=>?_⟩
   ·exact fin .non H2 s2 (.inl ⟨hd,rfl⟩)
   ·exact fin (.ref l) H2 s2 (.inr ⟨i,l,hd,rfl,hl⟩)
  obtain⟨t7,h7,r7⟩:∃ t,PSs ((cxOf CX0 P w K mg base nmPA "_law_piles_asked" (defScope s_law_piles_asked) f cdv A outer s H E).nox) (ifElse ((ifElse ((defBody s_law_piles_asked).getD 8 (.Pass ⟨0,0,0,0⟩))).getD 0 (.Pass ⟨0,0,0,0⟩))) t ∧
    ∀ (D:Ends) (n g:V) (p c:Addr) (ps cs:List Int) (wy:Nat) (v7 v8:Option V) H1,H1 p=some (.lst (ps.map V.int))→H1 c=some (.lst (cs.map V.int))→cs.length≤60→IsP ps→(¬ 3<wy∨NoX (plc ps)) →
     (∀ dv H3,Same H1 H3→DueV H3 (dueA wy ps cs) dv→D.nx [some (.ref a),some n,some (.ref p),some g,some (.ref c),some (.int (wy:Int)),some dv,v7,v8] H3) →
     t D [some (.ref a),some n,some (.ref p),some g,some (.ref c),some (.int (wy:Int)),some .non,v7,v8] H1:=by
   refine⟨_,pss_one (ps_if (pw_and (pt_cmpR op_eq (pv 5) pe_int (nomark _)) (pw_and1 (pt_not (pt_val (pe_call GCg hr1 (by rfl) DCg.at_ DCg.fn.kp DCg.bd .nil pass0 (pa_cons (pe_callB call_len_seq (by rfl) T.len PySem.boot_len (pa_cons (pv 2) pa_nil)) (pa_cons (pv 4) pa_nil))))))).pt
       (pss_one (ps_set (i:=6) scPA.nd rfl (Or.inl rfl) (pe_call GDk hr1 (by rfl) DDk.at_ DDk.fn.kp DDk.bd .nil pass0 (pa_cons pe_int pa_nil)))) pss_nil),?_⟩
   intro D n g p c ps cs wy v7 v8 H1 hp hc hcl ip nx kD
   refine⟨_,rfl,rfl,_,rfl,ite2 (fun z=>?_) (fun z=>?_)⟩
   ·have w4:wy=4:=by
     have:=of_decide_eq_true z
     injection this with this
     omega
    refine⟨_,rfl,p,_,rfl,.inl (SqL.of hp),_,rfl,ps.length,c,cs,?_,SqL.of hc,hcl,fun b H2 s2 hb=>⟨b,rfl,?_⟩⟩
    ·rw[List.length_map]
     rfl
    cases b with
    | false =>
     have bad:BadC ps.length cs:=Classical.byContradiction fun h=>by have:=hb.mpr h;cases this
     refine iteT ⟨2,rfl,by decide,fun l H3 s3 _ hl=>kD _ _ (s2.trans s3) (.inr ⟨2,l,due_c ip (nx.elim (fun h=>absurd (by omega) h) id) w4 bad,rfl,hl⟩)⟩
    | true=>exact iteF (kD _ _ s2 (.inl ⟨due_ok ip nx (.inr (hb.mp rfl)),rfl⟩))
   ·have w4:wy≠4:=fun h=>z (by rw[h];rfl)
    exact iteF (kD _ _ (Same.refl _) (.inl ⟨due_ok ip nx (.inl w4),rfl⟩))
  obtain⟨t8,h8,r8⟩:∃ t,PSs ((cxOf CX0 P w K mg base nmPA "_law_piles_asked" (defScope s_law_piles_asked) f cdv A outer s H E).nox) ((defBody s_law_piles_asked).drop 7) t ∧
    ∀ (D:Ends) (n g:V) (p c:Addr) (ps cs:List Int) (wy:Nat) (v6 v7 v8:Option V) H1,D.rt=Q→wy<7→H1 p=some (.lst (ps.map V.int))→H1 c=some (.lst (cs.map V.int))→ps.length≤60→cs.length≤60→Tab H1 Tb lpos lq→SameT H H1 →
     t D [some (.ref a),some n,some (.ref p),some g,some (.ref c),some (.int (wy:Int)),v6,v7,v8] H1:=by
   refine⟨_,pss_cons (ps_set (i:=6) scPA.nd rfl (Or.inl rfl) pe_non)
    (pss_cons (ps_if (pt_not (pt_val (pe_call GIs hr1 (by rfl) DIs.at_ DIs.fn.kp DIs.bd .nil pass0 (pa_cons (pv 2) pa_nil)))) (pss_one (ps_set (i:=6) scPA.nd rfl (Or.inl rfl) (pe_call GDk hr1 (by rfl) DDk.at_ DDk.fn.kp DDk.bd .nil pass0 (pa_cons pe_int pa_nil))))
     (pss_one (ps_if (pw_and (pt_cmpR op_gt (pv 5) pe_int (nomark _)) (pw_and1 (pt_not (pt_val (pe_call GNo hr2 (by rfl) DNo.at_ DNo.fn.kp DNo.bd .nil pass0 (pa_cons (pe_call GPl hr1 (by rfl) DPl.at_ DPl.fn.kp DPl.bd .nil pass0 (pa_cons (pv 2) pa_nil)) pa_nil)))))).pt
      (pss_cons (ps_set (i:=6) scPA.nd rfl (Or.inl rfl) (pe_call GDk hr1 (by rfl) DDk.at_ DDk.fn.kp DDk.bd .nil pass0 (pa_cons pe_int pa_nil)))
       (pss_one (ps_if (pt_not (pt_val (pe_call GCd hr20 (by rfl) DCd.at_ DCd.fn.kp DCd.bd .nil pass0 (pa_cons (pe_callTy call_list_of (by rfl) T.list boot_list (pa_cons (pv 2) pa_nil)) (pa_cons (pe_callTy call_list_of (by rfl) T.list boot_list (pa_cons (pv 4) pa_nil)) (pa_cons (pv 5) pa_nil)))))) (pss_one (ps_ret pe_bl)) pss_nil)))
      h7))) h9),?_⟩
   intro D n g p c ps cs wy v6 v7 v8 H1 hD hw hp hc hpl hcl t1 s1
   refine⟨_,rfl,p,ps,rfl,SqL.of hp,hpl,fun b H2 s2 hb=>⟨b,rfl,?_⟩⟩
   have goT:∀ (dv:V) H3,SameT H1 H3→Tab H3 Tb lpos lq→DueV H3 (dueA wy ps cs) dv→t9 D [some (.ref a),some n,some (.ref p),some g,some (.ref c),some (.int (wy:Int)),some dv,v7,v8] H3:=fun dv H3 s3 t3 d =>
    r9 D n g dv p c ps cs wy v7 v8 H3 hD hw (s3 _ _ hp noT) (s3 _ _ hc noT) hpl hcl t3 (s1.trans s3) d
   have go:∀ (dv:V) H3,Same H1 H3→DueV H3 (dueA wy ps cs) dv→t9 D [some (.ref a),some n,some (.ref p),some g,some (.ref c),some (.int (wy:Int)),some dv,v7,v8] H3:=fun dv H3 s3 d=>goT dv H3 (SameT.of s3) (t1.stay s3) d
   cases b with
   | false =>
    have ip:¬ IsP ps:=fun h=>by have:=hb.mpr h;cases this
    exact iteT ⟨0,rfl,by decide,fun l H3 s3 _ hl=>go _ _ (s2.trans s3) (.inr ⟨0,l,due_no ip,rfl,hl⟩)⟩
   | true =>
    have ip:IsP ps:=hb.mp rfl
    have pos:1≤ps.length:=List.length_pos_iff.mpr ip.1
    refine iteF ⟨_,rfl,_,_,rfl,rfl,_,rfl,ite2 (fun z=>?_) (fun z=>?_)⟩
    ·have w3:3<wy:=by
      have:=of_decide_eq_true z
      omega
     refine⟨_,rfl,p,ps,ps.length,rfl,SqL.of (s2 _ _ hp),ip.2,hpl,fun la H3 s3 _ hla=>?_⟩
     refine⟨la,plc ps,rfl,SqL.of hla,by rw[plc_length];exact pos,by rw[plc_length];exact hpl,fun b2 hb2=>⟨b2,rfl,?_⟩⟩
     have s13:=s2.trans s3
     cases b2 with
     | false =>
      have nx:¬ NoX (plc ps):=fun h=>by have:=hb2.mpr h;cases this
      have due:dueA wy ps cs=some 1:=due_x ip w3 nx
      refine iteT ⟨1,rfl,by decide,fun l H4 s4 _ hl=>?_⟩
      have s14:=s13.trans s4
      refine⟨_,rfl,p,_,rfl,.inl (SqL.of (s14 _ _ hp)),fun l1 hl1=>?_⟩
      have q1:=same_new (o:=.lst (ps.map V.int)) hl1
      refine⟨_,rfl,c,_,rfl,.inl (SqL.of (q1 _ _ (s14 _ _ hc))),fun l2 hl2=>?_⟩
      have q2:=same_new (o:=.lst (cs.map V.int)) hl2
      refine⟨_,rfl,l1,l2,ps,cs,wy,rfl,hw,q2 _ _ upd_same,upd_same,hpl,hcl,t1.stay (s14.trans (q1.trans q2)),due,ip,fun H5 s5 t5=>⟨true,rfl,iteF ?_⟩⟩
      exact goT _ _ ((SameT.of (s14.trans (q1.trans q2))).trans s5) t5 (.inr ⟨1,l,due,rfl,s5 _ _ (q2 _ _ (q1 _ _ hl)) noT⟩)
     | true =>
      refine iteF (r7 _ n g p c ps cs wy v7 v8 H3 (s13 _ _ hp) (s13 _ _ hc) hcl ip (.inr (hb2.mp rfl)) fun dv H4 s4 d=>go dv H4 (s13.trans s4) d)
    ·refine iteF (r7 _ n g p c ps cs wy v7 v8 H2 (s2 _ _ hp) (s2 _ _ hc) hcl ip (.inl fun h=>z (decide_eq_true (by omega))) fun dv H4 s4 d=>go dv H4 (s2.trans s4) d)
  obtain⟨t3,h3,r3⟩:∃ t,PSs ((cxOf CX0 P w K mg base nmPA "_law_piles_asked" (defScope s_law_piles_asked) f cdv A outer s H E).nox) ((defBody s_law_piles_asked).drop 3) t ∧
    ∀ (D:Ends) (n:V) (p:Addr) (ps:List Int) (v3 v4 v5 v6 v7 v8:Option V) H1,D.rt=Q→H1 p=some (.lst (ps.map V.int))→1≤ps.length→ps.length≤60→Same H H1 →
     t D [some (.ref a),some n,some (.ref p),v3,v4,v5,v6,v7,v8] H1:=by
   refine⟨_,pss_cons (ps_set (i:=3) scPA.nd rfl (Or.inl rfl) (pe_op op_mod (pe_call GD hr1 (by rfl) DD.at_ DD.fn.kp DD.bd .nil pass0 (pa_cons (pv 0) (pa_cons pe_int pa_nil))) (pe_op op_pow pe_int pe_int)))
    (pss_cons (ps_set (i:=2) scPA.nd rfl (Or.inl rfl) (pe_call GSp hr1 (by rfl) DSp.at_ DSp.fn.kp DSp.bd .nil pass0 (pa_cons (pv 2) (pa_cons (pe_call GN hr1 (by rfl) DN.at_ DN.fn.kp DN.bd .nil pass0 (pa_cons (pv 0) (pa_cons pe_int pa_nil))) (pa_cons (pv 3) pa_nil)))))
    (pss_cons (ps_set (i:=4) scPA.nd rfl (Or.inl rfl) (pe_call GCr hr1 (by rfl) DCr.at_ DCr.fn.kp DCr.bd .nil pass0 (pa_cons (pe_callB call_len_seq (by rfl) T.len PySem.boot_len (pa_cons (pv 2) pa_nil)) (pa_cons (pe_call GN hr1 (by rfl) DN.at_ DN.fn.kp DN.bd .nil pass0 (pa_cons (pv 0) (pa_cons pe_int pa_nil))) (pa_cons (pv 3) pa_nil)))))
    (pss_cons (ps_set (i:=5) scPA.nd rfl (Or.inl rfl) (pe_op op_mod (pe_op op_fdiv (pe_call GD hr1 (by rfl) DD.at_ DD.fn.kp DD.bd .nil pass0 (pa_cons (pv 0) (pa_cons pe_int pa_nil))) pe_int) pe_int)) h8))),?_⟩
   intro D n p ps v3 v4 v5 v6 v7 v8 H1 hD hp p1 p2 s1
   refine⟨_,rfl,a,ns,2,rfl,s1.seq hq,_,_,rfl,rfl,⟨by decide,by decide,by decide⟩,_,_,rfl,rfl,(by show (0:Int)<10 ^ 60;decide),?_⟩
   refine⟨_,rfl,_,rfl,a,ns,3,rfl,s1.seq hq,by decide,fun y H2 s2 y0 y1=>?_⟩
   obtain⟨m,rfl⟩:=Int.eq_ofNat_of_zero_le y0
   refine⟨_,rfl,p,ps,m,_,rfl,s2 _ _ hp,p1,p2,by omega,fun l ms H3 s3 hl hml=>?_⟩
   refine⟨_,rfl,l,_,rfl,.inl (SqL.of hl),_,rfl,a,ns,4,rfl,(s1.trans (s2.trans s3)).seq hq,by decide,fun y H4 s4 y0 y1=>?_⟩
   obtain⟨m2,rfl⟩:=Int.eq_ofNat_of_zero_le y0
   refine⟨_,rfl,(ms.map V.int).length,m2,_,rfl,by omega,fun l2 cs H5 s5 hl2 hcs=>?_⟩
   have s15:Same H H5:=s1.trans (s2.trans (s3.trans (s4.trans s5)))
   refine⟨_,rfl,a,ns,1,rfl,s15.seq hq,_,_,rfl,rfl,⟨by decide,by decide⟩,_,_,rfl,rfl,(by show (0:Int)<7;decide),?_⟩
   obtain⟨wy,ew⟩:=Int.eq_ofNat_of_zero_le (Int.emod_nonneg (ns.getD 1 0 / 2) (show (7:Int)≠0 by decide))
   have w1:=Int.emod_lt_of_pos (ns.getD 1 0 / 2) (show (0:Int)<7 by decide)
   rw[ew] at w1
   simp only[ew]
   exact r8 D n _ l l2 ms cs wy v6 v7 v8 H5 hD (by omega) (s5 _ _ (s4 _ _ hl)) hl2 hml (by omega) (tab.stay s15) (SameT.of s15)
  refine⟨_,pss_cons (ps_set (i:=1) scPA.nd rfl (Or.inl rfl) (pe_call GS hr1 (by rfl) DS.at_ DS.fn.kp DS.bd .nil pass0 (pa_cons (pe_call GD hr1 (by rfl) DD.at_ DD.fn.kp DD.bd .nil pass0 (pa_cons (pv 0) (pa_cons pe_int pa_nil))) pa_nil)))
   (pss_cons (ps_set (i:=2) scPA.nd rfl (Or.inl rfl) (pe_call GPi hr2 (by rfl) DPi.at_ DPi.fn.kp DPi.bd .nil pass0 (pa_cons (pv 0) (pa_cons pe_int (pa_cons (pv 1) pa_nil)))))
   (pss_cons (ps_if (pt_cmpR op_eq (pe_op op_mod (pe_call GD hr1 (by rfl) DD.at_ DD.fn.kp DD.bd .nil pass0 (pa_cons (pv 0) (pa_cons pe_int pa_nil))) pe_int) pe_int (nomark _)) (pss_one (ps_set (i:=2) scPA.nd rfl (Or.inl rfl) (pe_call GG hr5 (by rfl) DG.at_ DG.fn.kp DG.bd .nil pass0 (pa_cons (pv 0) (pa_cons pe_int (pa_cons (pv 1) pa_nil)))))) pss_nil) h3)),?_⟩
  refine⟨_,rfl,a,ns,0,rfl,hq,_,rfl,fun n H1 s1 n1 n2=>?_⟩
  refine⟨_,rfl,_,rfl,a,ns,8,n,rfl,s1.seq hq,by decide,n2,fun l ms H2 s2 _ pm hl=>?_⟩
  have s12:=s1.trans s2
  have ml:=perm_len pm
  refine⟨_,rfl,a,ns,1,rfl,s12.seq hq,_,_,rfl,rfl,(by show (0:Int)<2;decide),rfl,_,rfl,ite2 (fun _=>?_) (fun _=>?_)⟩
  ·refine⟨_,rfl,_,rfl,a,ns,8,n,rfl,s12.seq hq,by decide,n1,n2,fun l2 ms2 H3 s3 _ pm2 hl2=>?_⟩
   have ml2:=perm_len pm2
   exact r3 _ _ l2 ms2 _ _ _ _ _ _ H3 rfl hl2 (by omega) (by omega) (s12.trans s3)
  ·exact r3 _ _ l ms _ _ _ _ _ _ H2 rfl hl (by omega) (by omega) s12
end
end Sf
namespace Sf
open PySem L2 Pl
seal PS PSs PE PA PSsx PSx PEx
def spRow9 (K:PySem.W.Frag):Sp:=fun vs H Q _=>∃ (a:Addr) (ns:List Int),vs=[.ref a]∧SqL K H a (ns.map V.int)∧∀ (z:Str) H',Same H H'→z.length≤12→Q (.str z) H'
abbrev ones (cs:List Nat):List V:=cs.map fun c=>V.str ⟨#[c]⟩
theorem ones_eq_nil:∀ cs:List Nat,eqVs (ones cs) []=decide (cs=[])
 | []=>rfl
 | c::cs=>by
  rw[eqVs_len (by simp),decide_eq_false (by simp)]
theorem flat_ones (cs:List Nat):(ones cs).all flatV=true:=by
 rw[List.all_map,List.all_eq_true]
 intro _ _
 rfl
theorem signs_at {j:Nat}(h:j<17):∃ c:Nat,atI (" !0AvmNWLU^_\"'-.~":Str).cps.toList (j:Int)=some c:=by
 have e:(" !0AvmNWLU^_\"'-.~":Str).cps.toList.length=17:=by decide +kernel
 obtain⟨c,hc⟩:∃ c,(" !0AvmNWLU^_\"'-.~":Str).cps.toList[j]?=some c:=⟨_,List.getElem?_eq_getElem (by omega)⟩
 exact⟨c,atI_nat hc⟩
section
variable {P:Program}{w:World}{K:PySem.W.Frag}{mg:Str→Option Value}{base:Heap}
theorem scRow9:FnScope ["_law_script","_law_number_here","_law_told","_law_k"] ["_law_script"] (defScope s_law_row):=fs
theorem ok_row9 {f fN:Addr}{fd fdN:FuncData}(D:Def K mg "_law_row" s_law_row ["_law_script"] f fd)(DN:Def K mg "_law_number" sNumber ["_law_script","_law_k"] fN fdN)(T:Own mg):FnOk P w K mg base CX0 2 f fd ["_law_script"] (spRow9 K):=by
 have GN:FnOk P w K mg base CX0 1 fN fdN ["_law_script","_law_k"] (spNumber K):=ok_number DN T
 refine D.fn.ok scRow9 (fun vs H Q E h=>?_) (fun cdv A outer s H vs Q E hr h=>?_)
 ·obtain⟨a,ns,rfl,_⟩:=h
  rfl
 ·obtain⟨a,ns,rfl,hq,k⟩:=h
  obtain⟨t4,h4,r4⟩:∃ t,PSs ((cxOf CX0 P w K mg base ["_law_script","_law_number_here","_law_told","_law_k"] "_law_row" (defScope s_law_row) f cdv A outer s H E).nox) ((defBody s_law_row).drop 4) t ∧
    ∀ (D:Ends) (n:V) (v3:Option V) (lt:Addr) (cs:List Nat) H1,D.rt=Q→Same H H1→H1 lt=some (.lst (ones cs))→cs.length≤12→t D [some (.ref a),some n,some (.ref lt),v3] H1:=by
   refine⟨_,pss_one (ps_ret (pe_bm PySem.F.plainAttrs_str PySem.F.slot_str_join PySem.F.type_str_join mt_join pe_str (pa_cons (pv 2) pa_nil))),?_⟩
   intro D n v3 lt cs H1 hD s1 hlt hcs
   have e1:(Txt.join ⟨#[]⟩ (cs.map fun c=>(⟨#[c]⟩:Str))).cps.toList=cs:=join_ones cs
   refine⟨rfl,_,rfl,_,lt,cs.map fun c=>⟨#[c]⟩,rfl,rfl,?_,?_,?_⟩
   ·rw[List.map_map]
    exact SqL.of hlt
   ·have:∀ cs:List Nat,((cs.map fun c=>(⟨#[c]⟩:Str)).map (·.length)).sum=cs.length:=fun cs=>by
     induction cs with
     | nil=>rfl
     | cons c cs ih =>
      rw[List.map_cons,List.map_cons,List.sum_cons,ih,List.length_cons]
      show 1+cs.length=_
      omega
    rw[this,List.length_map]
    show cs.length+cs.length * 0≤_
    omega
   ·rw[hD]
    refine k _ H1 s1 ?_
    show (Txt.join ⟨#[]⟩ (cs.map fun c=>(⟨#[c]⟩:Str))).cps.size≤12
    rw[← Array.length_toList,e1]
    exact hcs
  refine⟨_,pss_cons (ps_set (i:=1) scRow9.nd rfl (Or.inl rfl) (pe_call GN hr rfl DN.at_ DN.fn.kp DN.bd .nil pass0 (pa_cons (pv 0) (pa_cons pe_int pa_nil))))
   (pss_cons (ps_set (i:=2) scRow9.nd rfl (Or.inl rfl) (pe_lst pa_nil))
   (pss_cons (ps_for PassesOwn.never rfl (pi_range1 rfl T.range (pa_cons (pe_op op_mod (pv 1) pe_int) pa_nil)) (pg_name (i:=3) scRow9.nd rfl (Or.inl rfl))
    (pss_one (ps_expr (pe_bm PySem.F.plainAttrs_list PySem.F.slot_list_append PySem.F.type_list_append mt_append (pv 2) (pa_cons (pe_ix ix_list (pe_lst (pa_cons pe_str (pa_cons pe_str pa_nil))) (pe_op op_mod (pe_op op_fdiv (pe_call GN hr rfl DN.at_ DN.fn.kp DN.bd .nil pass0 (pa_cons (pv 0) (pa_cons (pe_op op_add pe_int (pv 3)) pa_nil))) pe_int) pe_int) (fun _ _=>rfl)) pa_nil)))))
   (pss_cons (ps_if (pw_and (pt_cmpR op_eq (pe_op op_mod (pe_op op_fdiv (pv 1) pe_int) pe_int) pe_int (nomark _)) (pw_and1 (pt_cmpR (op_ne_lst hr.units0) (pv 2) (pe_lst pa_nil) (nomark _)))).pt
    (pss_one (ps_asg (pe_ix ix_str pe_str (pe_op op_mod (pe_call GN hr rfl DN.at_ DN.fn.kp DN.bd .nil pass0 (pa_cons (pv 0) (pa_cons pe_int pa_nil))) pe_int) (fun _ _=>rfl)) (pg_sub (pv 2) (pe_op op_mod (pe_op op_fdiv (pv 1) pe_int) (pe_callB call_len_seq (by rfl) T.len PySem.boot_len (pa_cons (pv 2) pa_nil))) set_list))) pss_nil)
   h4))),?_⟩
  refine⟨_,rfl,a,ns,5,rfl,hq,by decide,fun y H1 s1 y0 y1=>?_⟩
  refine⟨small_line (by decide),fun lt hlt=>?_⟩
  have s2:Same H _:=s1.trans (same_new (o:=.lst []) hlt)
  have hlt0:H lt=none:=s1.free hlt
  have m0:=Int.emod_nonneg y (show (13:Int)≠0 by decide)
  have m1:=Int.emod_lt_of_pos y (show (0:Int)<13 by decide)
  refine⟨_,rfl,_,_,rfl,rfl,(by show (0:Int)<13;decide),_,rfl,(by omega),(by omega),for_range (lo:=0) (n:=(y % 13).toNat) (fun i σ H2=>∃ (cs:List Nat) (u:Option V),σ=[some (.ref a),some (.int y),some (.ref lt),u]∧Same H H2∧H2 lt=some (.lst (ones cs))∧cs.length=i)
   ⟨[],none,rfl,s2,upd_same,rfl⟩ ?_ ?_⟩
  ·rintro i σ H2 hi ⟨cs,u,rfl,s3,h3,hc⟩
   rw[show (0:Int)+(i:Nat)=(i:Int) by omega]
   refine⟨_,rfl,.inl ⟨rfl,_,SqL.of h3⟩,small_line (by decide),fun l2 hl2=>?_⟩
   have q2:=same_new (o:=.lst [V.str "V",V.str "M"]) hl2
   refine⟨_,rfl,_,rfl,_,_,rfl,rfl,a,ns,8+i,?_,(s3.trans q2).seq hq,by omega,fun x H3 s4 x0 x1=>?_⟩
   ·rw[show ((8+i:Nat):Int)=8+(i:Int) by omega]
    rfl
   have b0:=Int.emod_nonneg (x / 5) (show (2:Int)≠0 by decide)
   have b1:=Int.emod_lt_of_pos (x / 5) (show (0:Int)<2 by decide)
   obtain⟨c,hc2⟩:∃ c:Nat,atI ([V.str "V",V.str "M"]:List V) (x / 5 % 2)=some (V.str ⟨#[c]⟩):=by
    have:x / 5 % 2=0∨x / 5 % 2=1:=by omega
    rcases this with e | e <;> rw[e]
    ·exact⟨86,rfl⟩
    ·exact⟨77,rfl⟩
   have h4:=s4 _ _ (q2 _ _ h3)
   refine⟨_,_,rfl,rfl,⟨by decide,by decide⟩,_,_,rfl,rfl,(by show (0:Int)<2;decide),l2,_,_,_,rfl,rfl,SqL.of (s4 _ _ upd_same),hc2,lt,_,_,rfl,rfl,h4,?_,cs++[c],_,rfl,fun b o eb=>?_,?_,?_⟩
   ·rw[List.length_map];exact small1000 (by omega)
   ·rw[upd_ne (ne_of_none eb hlt0)]
    exact s4 _ _ (q2 _ _ (s3 _ _ eb))
   ·rw[upd_same]
    show some (HO.lst ((cs.map fun c=>V.str ⟨#[c]⟩)++[V.str ⟨#[c]⟩]))=some (HO.lst ((cs++[c]).map fun c=>V.str ⟨#[c]⟩))
    rw[List.map_append]
    rfl
   ·simp[hc]
  ·rintro σ H2 ⟨cs,u,rfl,s3,h3,hc⟩
   have hcs:cs.length≤12:=by omega
   refine⟨_,rfl,_,_,rfl,rfl,⟨by decide,by decide⟩,_,_,rfl,rfl,(by show (0:Int)<2;decide),rfl,_,rfl,ite2 (fun _=>?_) (fun _=>?_)⟩
   ·refine⟨_,rfl,small_line (by decide),fun l2 hl2=>?_⟩
    have q2:=same_new (o:=.lst []) hl2
    refine⟨lt,l2,_,[],rfl,rfl,SqL.of (q2 _ _ h3),SqL.of upd_same,flat_ones _,rfl,_,rfl,?_⟩
    show if (!eqVs (ones cs) [])=true then _ else _
    rw[ones_eq_nil]
    by_cases e:cs=[]
    ·rw[decide_eq_true e]
     exact iteF (r4 _ _ _ lt cs _ rfl (s3.trans q2) (q2 _ _ h3) hcs)
    ·rw[decide_eq_false e]
     have cl:1≤cs.length:=List.length_pos_iff.mpr e
     have ol:(ones cs).length=cs.length:=List.length_map ..
     refine iteT ⟨_,rfl,a,ns,6,rfl,(s3.trans q2).seq hq,by decide,fun x H3 s4 x0 x1=>?_⟩
     obtain⟨j,ej⟩:=Int.eq_ofNat_of_zero_le (Int.emod_nonneg x (show (17:Int)≠0 by decide))
     have j1:=Int.emod_lt_of_pos x (show (0:Int)<17 by decide)
     rw[ej] at j1
     obtain⟨c,hc2⟩:=signs_at (show j<17 by omega)
     have h4:=s4 _ _ (q2 _ _ h3)
     refine⟨_,_,rfl,rfl,(by show (0:Int)<17;decide),_,_,c,rfl,rfl,small_line (by decide +kernel),?_,?_⟩
     ·show atI _ (x % 17)=_
      rw[ej]
      exact hc2
     obtain⟨g,eg⟩:=Int.eq_ofNat_of_zero_le (Int.emod_nonneg (y / 26) (show (((ones cs).length:Nat):Int)≠0 by rw[ol];omega))
     have g1:=Int.emod_lt_of_pos (y / 26) (show (0:Int)<(((ones cs).length:Nat):Int) by rw[ol];omega)
     rw[eg,ol] at g1
     refine⟨_,rfl,_,rfl,_,_,rfl,rfl,⟨by decide,by decide⟩,_,rfl,lt,_,rfl,.inl (SqL.of h4),_,_,rfl,rfl,(by rw[ol];omega),lt,_,_,g,rfl,rfl,h4,?_,?_⟩
     ·show ixN (ones cs).length (y / 26 % (((ones cs).length:Nat):Int))=_
      rw[eg]
      unfold ixN
      rw[if_pos (by omega),if_pos (by omega)]
      rfl
     ·refine r4 _ _ _ lt (cs.set g c) _ rfl (fun b o eb=>?_) ?_ (by rw[List.length_set];exact hcs)
      ·rw[upd_ne (ne_of_none eb hlt0)]
       exact s4 _ _ (q2 _ _ (s3 _ _ eb))
      ·rw[upd_same]
       show some (HO.lst ((cs.map fun c=>V.str ⟨#[c]⟩).set g (V.str ⟨#[c]⟩)))=some (HO.lst ((cs.set g c).map fun c=>V.str ⟨#[c]⟩))
       rw[List.map_set]
   ·exact iteF (r4 _ _ _ lt cs _ rfl s3 h3 hcs)
def Lis (wy:Nat)(v:V)(r:Option Nat):Prop :=
 (wy=0∧∃ z:Str,v=.str z∧z.length≤99∧((¬ Lets z.cps.toList∧r=some 3)∨(Lets z.cps.toList∧r=none))) ∨
 (wy=1∧∃ z:Str,v=.str z∧z.length≤99∧((¬ Lets z.cps.toList∧r=some 3)∨(Lets z.cps.toList∧6<z.length∧r=some 4)∨(Lets z.cps.toList∧z.length≤6∧r=none))) ∨
 (wy=2∧∃ i:Int,v=.int i∧(((i<1∨7<i)∧r=some 4)∨(1≤i∧i≤7∧r=none)))
def spListed:Sp:=fun vs H Q _=>∃ (wy:Nat) (v:V) (r:Option Nat),vs=[.int (wy:Int),v]∧Lis wy v r∧∀ u H',Same H H'→DueV H' r u→Q u H'
abbrev nmLis:List Str:=["_law_way","_law_thing","_law_told","_law_e"]
theorem scLis:FnScope nmLis ["_law_way","_law_thing"] (defScope s_law_listed):=fs
theorem ok_listed {f f0 f1 f2 fK S:Addr}{fd fd0 fd1 fd2 fdK:FuncData}{cl:Nat→Addr}(D:Def K mg "_law_listed" s_law_listed ["_law_way","_law_thing"] f fd)(T:Own mg)(R:Errs K mg cl)(B:ErrsB mg base cl S)(DK:Def K mg "_law_kinds" s_law_kinds ["_law_e"] fK fdK)
  (D0:Def K mg "pile_of" s_pile_of ["row"] f0 fd0) (G0:FnOk P w K mg base (CX1 P w) 6 f0 fd0 ["row"] (orSp (spPileOf K) (spRowNo (cl 3)))) (D1:Def K mg "piles_with" s_piles_with ["row"] f1 fd1) (G1:FnOk P w K mg base (CX1 P w) 6 f1 fd1 ["row"] (orSp (spPilesWith K) (spWithNo (cl 3) (cl 4))))
  (D2:Def K mg "piles" s_piles ["many"] f2 fd2) (G2:FnOk P w K mg base (CX1 P w) 6 f2 fd2 ["many"] (orSp (spPiles K) (spCountNo (cl 4)))):FnOk P w K mg base CX0 20 f fd ["_law_way","_law_thing"] spListed:=by
 have GK:FnOkM P w K mg base 1 fK fdK ["_law_e"] (spKinds cl):=ok_kinds DK T R
 obtain⟨bmS,shS,hbS⟩:=B.sup
 refine D.fn.ok scLis (fun vs H Q E h=>?_) (fun cdv A outer s H vs Q E hr h=>?_)
 ·obtain⟨wy,v,r,rfl,_⟩:=h
  rfl
 ·obtain⟨wy,v,r,rfl,L,k⟩:=h
  have hr6:=hr.mono (show 6≤19 by decide)
  have hrK:=hr.mono (show 1≤19 by decide)
  refine⟨_,pss_cons (ps_set (i:=2) scLis.nd rfl (Or.inl rfl) pe_non)
   (pss_cons (ps_try (i:=3) (S:=S) (EX:=fun σ1 C od H'=>σ1=[some (.int (wy:Int)),some v,some .non,none]∧∃ i,i<6∧r=some i∧C=.ref (cl i)∧Same H H'∧od=none) scLis.nd rfl rfl ⟨rfl,rfl⟩ (by rfl) B.at_ shS hbS
     (pssx_cons (psx_if (pt_cmpR op_eq (pv 0) pe_int (nomark _)) (pssx_one (psx_expr (pex_call G0 hr6 (by rfl) D0.at_ D0.fn.kp D0.bd .nil (pa_cons (pv 1) pa_nil)))) pssx_nil)
     (pssx_cons (psx_if (pt_cmpR op_eq (pv 0) pe_int (nomark _)) (pssx_one (psx_expr (pex_call G1 hr6 (by rfl) D1.at_ D1.fn.kp D1.bd .nil (pa_cons (pv 1) pa_nil)))) pssx_nil)
     (pssx_one (psx_if (pt_cmpR op_eq (pv 0) pe_int (nomark _)) (pssx_one (psx_expr (pex_call G2 hr6 (by rfl) D2.at_ D2.fn.kp D2.bd .nil (pa_cons (pv 1) pa_nil)))) pssx_nil))))
     (fun e=>pss_one (ps_set (i:=2) scLis.nd rfl (Or.inl rfl) (pe_callM GK ⟨rfl,hrK.dp,hrK.un⟩ (by rfl) DK.at_ DK.fn.kp DK.bd .nil (pa_cons (pv 3) pa_nil)))))
   (pss_one (ps_ret (pv 2)))),?_⟩
  have no:r=none→∀ H',Same H H'→Q .non H':=fun e H' s1=>k _ H' s1 (.inl ⟨e,rfl⟩)
  refine⟨?_,?_⟩
  ·rcases L with⟨rfl,z,rfl,hz,L⟩ | ⟨rfl,z,rfl,hz,L⟩ | ⟨rfl,i,rfl,L⟩
   ·refine⟨_,rfl,rfl,_,rfl,iteT ⟨_,rfl,?_⟩⟩
    rcases L with⟨nl,e⟩ | ⟨hL,e⟩
    ·exact .inr ⟨z,rfl,nl,hz,fun H' s1=>⟨rfl,3,by decide,e,rfl,s1,rfl⟩⟩
    ·refine .inl ⟨z,rfl,hL,hz,fun v H' s1=>?_⟩
     repeat refine⟨_,rfl,rfl,_,rfl,iteF ?_⟩
     exact⟨_,rfl,no e H' s1⟩
   ·refine⟨_,rfl,rfl,_,rfl,iteF ⟨_,rfl,rfl,_,rfl,iteT ⟨_,rfl,?_⟩⟩⟩
    rcases L with⟨nl,e⟩ | ⟨hL,h6,e⟩ | ⟨hL,h6,e⟩
    ·exact .inr ⟨z,rfl,hz,.inl ⟨nl,fun H' s1=>⟨rfl,3,by decide,e,rfl,s1,rfl⟩⟩⟩
    ·exact .inr ⟨z,rfl,hz,.inr ⟨hL,h6,fun H' s1=>⟨rfl,4,by decide,e,rfl,s1,rfl⟩⟩⟩
    ·refine .inl ⟨z,rfl,hL,h6,fun v H' s1=>?_⟩
     repeat refine⟨_,rfl,rfl,_,rfl,iteF ?_⟩
     exact⟨_,rfl,no e H' s1⟩
   ·refine⟨_,rfl,rfl,_,rfl,iteF ⟨_,rfl,rfl,_,rfl,iteF ⟨_,rfl,rfl,_,rfl,iteT ⟨_,rfl,?_⟩⟩⟩⟩
    rcases L with⟨bad,e⟩ | ⟨i1,i7,e⟩
    ·exact .inr ⟨i,rfl,bad,fun H' s1=>⟨rfl,4,by decide,e,rfl,s1,rfl⟩⟩
    ·obtain⟨n,rfl⟩:=Int.eq_ofNat_of_zero_le (show 0≤i by omega)
     exact .inl ⟨n,rfl,by omega,by omega,fun l zs H' s1 _ _ _=>⟨_,rfl,no e H' s1⟩⟩
  ·rintro σ1 C od H' ⟨rfl,i,hi,e,rfl,s1,rfl⟩
   obtain⟨bm,sh,hin⟩:=B.all i hi
   refine⟨cl i,bm,rfl,sh,hin,fun ex he=>?_⟩
   have s2:=same_new (o:=excO ex (cl i) none) he
   exact⟨_,rfl,ex,i,rfl,⟨hi,none,upd_same,.inl rfl⟩,fun l H3 s3 hl=>⟨_,rfl,k _ H3 (s1.trans (s2.trans s3)) (.inr ⟨i,l,e,rfl,hl⟩)⟩⟩
end
end Sf
namespace Sf
open PySem L2 Pl
seal PS PSs PE PA PSsx PSx PEx
def spLaw (K:PySem.W.Frag)(T:Addr):Sp:=fun vs H Q _=>∃ (a:Addr) (ns:List Int),vs=[.ref a]∧SqL K H a (ns.map V.int)∧ns.length≤63∧Tab H T lpos lq∧∀ H',Q (.bl true) H'
abbrev nmLaw:List Str:=["_law_script","_law_row_here","_law_due","_law_many"]
theorem scLaw:FnScope nmLaw ["_law_script"] (defScope sLaw):=fs
section
variable {P:Program}{w:World}{K:PySem.W.Frag}{mg:Str→Option Value}{base:Heap}
theorem ok_law {f fA fR fDk fL fD Tb:Addr}{fd fdA fdR fdDk fdL fdD:FuncData}(D:Def K mg "law" sLaw ["_law_script"] f fd)(T:Own mg)(DA:Def K mg "_law_piles_asked" s_law_piles_asked ["_law_script"] fA fdA)(GA:FnOk P w K mg base CX0 22 fA fdA ["_law_script"] (spPA K Tb))
  (DR:Def K mg "_law_row" s_law_row ["_law_script"] fR fdR) (GR:FnOk P w K mg base CX0 2 fR fdR ["_law_script"] (spRow9 K)) (DDk:Def K mg "_law_due_kinds" s_law_due_kinds ["_law_which"] fDk fdDk) (DL:Def K mg "_law_listed" s_law_listed ["_law_way","_law_thing"] fL fdL) (GL:FnOk P w K mg base CX0 20 fL fdL ["_law_way","_law_thing"] spListed)
  (DD:Def K mg "_law_drawn" sDrawn ["_law_script","_law_k"] fD fdD):FnOk P w K mg base CX0 24 f fd ["_law_script"] (spLaw K Tb):=by
 have GDk:FnOk P w K mg base CX0 1 fDk fdDk ["_law_which"] spDueK:=ok_duek DDk T
 have GD:FnOk P w K mg base CX0 1 fD fdD ["_law_script","_law_k"] (spDrawn K):=ok_drawn DD T
 refine D.fn.ok scLaw (fun vs H Q E h=>?_) (fun cdv A outer s H vs Q E hr h=>?_)
 ·obtain⟨a,ns,rfl,_⟩:=h
  rfl
 ·obtain⟨a,ns,rfl,hq,hns,tab,k⟩:=h
  have hr1:=hr.mono (show 1≤23 by decide)
  have hr2:=hr.mono (show 2≤23 by decide)
  have hr20:=hr.mono (show 20≤23 by decide)
  have hr22:=hr.mono (show 22≤23 by decide)
  obtain⟨t11,h11,r11⟩:∃ t,PSs ((cxOf CX0 P w K mg base nmLaw "law" (defScope sLaw) f cdv A outer s H E).nox) ((defBody sLaw).drop 11) t ∧
    ∀ (D:Ends) (rw:Option V) (dv:V) (i:Int) (r:Option Nat) H1,D.rt=Q→DueV H1 r dv→((i<1∨7<i)∧r=some 4∨(1≤i∧i≤7∧r=none))→t D [some (.ref a),rw,some dv,some (.int i)] H1:=by
   refine⟨_,pss_one (ps_ret (pe_or (pe_cmpR op_in_seq (pv 3) (pe_tup (pa_cons pe_int (pa_cons pe_int pa_nil))) rfl) (pe_one (pe_cmpR (op_eq.or (op_eq_lst hr.units0)) (pe_call GL hr20 (by rfl) DL.at_ DL.fn.kp DL.bd .nil pass0 (pa_cons pe_int (pa_cons (pv 3) pa_nil))) (pv 2) (nomark _))))),?_⟩
   intro D rw dv i r H1 hD d L
   refine⟨_,rfl,small_line (by show 2≤1000;decide),fun t ht=>?_⟩
   have q1:=same_new (o:=.tup [V.int 6,V.int 7]) ht
   refine⟨t,_,rfl,.inr (SqT.of upd_same),rfl,rfl,_,rfl,ite2 (fun _=>?_) (fun _=>?_)⟩
   ·rw[hD]
    exact k _
   ·refine⟨_,rfl,2,_,r,rfl,.inr (.inr ⟨rfl,i,rfl,L⟩),fun u H2 s2 du=>⟨_,rfl,due_eq du (d.same (SameT.of (q1.trans s2))) ?_⟩⟩
    rw[hD]
    exact k _
  obtain⟨t9,h9,r9⟩:∃ t,PSs ((cxOf CX0 P w K mg base nmLaw "law" (defScope sLaw) f cdv A outer s H E).nox) ((defBody sLaw).drop 9) t ∧
    ∀ (D:Ends) (rw dv:Option V) (i:Int) H1,D.rt=Q→t D [some (.ref a),rw,dv,some (.int i)] H1:=by
   refine⟨_,pss_cons (ps_set (i:=2) scLaw.nd rfl (Or.inl rfl) pe_non)
    (pss_cons (ps_if (pw_or (pt_cmpR op_lt (pv 3) pe_int (nomark _)) (pw_or1 (pt_cmpR op_gt (pv 3) pe_int (nomark _)))).pt (pss_one (ps_set (i:=2) scLaw.nd rfl (Or.inl rfl) (pe_call GDk hr1 (by rfl) DDk.at_ DDk.fn.kp DDk.bd .nil pass0 (pa_cons pe_int pa_nil)))) pss_nil) h11),?_⟩
   intro D rw dv i H1 hD
   have bad:(i<1∨7<i)→_:=fun hb=>(⟨4,rfl,by decide,fun l H2 s2 _ hl=>r11 D rw (.ref l) i (some 4) H2 hD (.inr ⟨4,l,rfl,rfl,hl⟩) (.inl ⟨hb,rfl⟩)⟩:spDueK [.int ((4:Nat):Int)] H1 (fun v H2=>t11 D [some (.ref a),rw,some v,some (.int i)] H2) E0)
   refine⟨_,rfl,_,_,rfl,rfl,_,rfl,ite2 (fun z=>bad (.inl (of_decide_eq_true z))) (fun z1=>?_)⟩
   refine⟨_,rfl,_,_,rfl,rfl,_,rfl,ite2 (fun z=>bad (.inr (of_decide_eq_true z))) (fun z2=>?_)⟩
   have i1:¬ i<1:=fun h=>z1 (decide_eq_true h)
   have i7:¬ 7<i:=fun h=>z2 (decide_eq_true h)
   exact r11 D rw .non i none H1 hD (.inl ⟨rfl,rfl⟩) (.inr ⟨by omega,by omega,rfl⟩)
  obtain⟨t6,h6,r6⟩:∃ t,PSs ((cxOf CX0 P w K mg base nmLaw "law" (defScope sLaw) f cdv A outer s H E).nox) ((defBody sLaw).drop 6) t ∧
    ∀ (D:Ends) (rw dv v3:Option V) H1,D.rt=Q→SqL K H1 a (ns.map V.int)→t D [some (.ref a),rw,dv,v3] H1:=by
   refine⟨_,pss_cons (ps_set (i:=3) scLaw.nd rfl (Or.inl rfl) (pe_op op_sub (pe_op op_mod (pe_op op_fdiv (pe_call GD hr1 (by rfl) DD.at_ DD.fn.kp DD.bd .nil pass0 (pa_cons (pv 0) (pa_cons pe_int pa_nil))) pe_int) pe_int) pe_int))
    (pss_cons (ps_if (pt_cmpR op_eq (pe_op op_mod (pe_call GD hr1 (by rfl) DD.at_ DD.fn.kp DD.bd .nil pass0 (pa_cons (pv 0) (pa_cons pe_int pa_nil))) pe_int) pe_int (nomark _)) (pss_one (ps_set (i:=3) scLaw.nd rfl (Or.inl rfl) (pe_op op_add pe_int (pe_op op_mod (pe_call GD hr1 (by rfl) DD.at_ DD.fn.kp DD.bd .nil pass0 (pa_cons (pv 0) (pa_cons pe_int pa_nil))) (pe_op op_pow pe_int pe_int))))) pss_nil)
    (pss_cons (ps_if (pt_cmpR op_eq (pe_op op_mod (pe_call GD hr1 (by rfl) DD.at_ DD.fn.kp DD.bd .nil pass0 (pa_cons (pv 0) (pa_cons pe_int pa_nil))) pe_int) pe_int (nomark _)) (pss_one (ps_set (i:=3) scLaw.nd rfl (Or.inl rfl) (pe_un un_neg (pe_op op_mod (pe_call GD hr1 (by rfl) DD.at_ DD.fn.kp DD.bd .nil pass0 (pa_cons (pv 0) (pa_cons pe_int pa_nil))) (pe_op op_pow pe_int pe_int))))) pss_nil) h9)),?_⟩
   intro D rw dv v3 H1 hD hq1
   refine⟨_,rfl,a,ns,7,rfl,hq1,_,_,rfl,rfl,⟨by decide,by decide⟩,_,_,rfl,rfl,(by show (0:Int)<30;decide),_,_,rfl,rfl,?_⟩
   refine⟨_,rfl,a,ns,7,rfl,hq1,_,_,rfl,rfl,(by show (0:Int)<4;decide),rfl,_,rfl,ite2 (fun _=>?_) (fun _=>?_)⟩
   ·refine⟨_,rfl,a,ns,2,rfl,hq1,_,_,rfl,rfl,⟨by decide,by decide,by decide⟩,_,_,rfl,rfl,(by show (0:Int)<10 ^ 60;decide),_,_,rfl,rfl,?_⟩
    refine⟨_,rfl,a,ns,7,rfl,hq1,_,_,rfl,rfl,(by show (0:Int)<4;decide),rfl,_,rfl,ite2 (fun _=>?_) (fun _=>r9 _ _ _ _ _ hD)⟩
    exact⟨_,rfl,a,ns,2,rfl,hq1,_,_,rfl,rfl,⟨by decide,by decide,by decide⟩,_,_,rfl,rfl,(by show (0:Int)<10 ^ 60;decide),_,rfl,r9 _ _ _ _ _ hD⟩
   ·refine⟨_,rfl,a,ns,7,rfl,hq1,_,_,rfl,rfl,(by show (0:Int)<4;decide),rfl,_,rfl,ite2 (fun _=>?_) (fun _=>r9 _ _ _ _ _ hD)⟩
    exact⟨_,rfl,a,ns,2,rfl,hq1,_,_,rfl,rfl,⟨by decide,by decide,by decide⟩,_,_,rfl,rfl,(by show (0:Int)<10 ^ 60;decide),_,rfl,r9 _ _ _ _ _ hD⟩
  obtain⟨t5,h5,r5⟩:∃ t,PSs ((cxOf CX0 P w K mg base nmLaw "law" (defScope sLaw) f cdv A outer s H E).nox) ((defBody sLaw).drop 5) t ∧
    ∀ (D:Ends) (z:Str) (dv:V) (v3:Option V) (r:Option Nat) H1,D.rt=Q→z.length≤12→SqL K H1 a (ns.map V.int)→DueV H1 r dv→(¬ Lets z.cps.toList∧r=some 3∨(Lets z.cps.toList∧6<z.length∧r=some 4)∨(Lets z.cps.toList∧z.length≤6∧r=none)) →
     t D [some (.ref a),some (.str z),some dv,v3] H1:=by
   refine⟨_,pss_cons (ps_if (pw_and (pw_or (pt_cmpR op_notN (pv 2) pe_non (nomark _)) (pw_or1 (pt_cmpR op_lt (pe_callB call_len_str (by rfl) T.len PySem.boot_len (pa_cons (pv 1) pa_nil)) pe_int (nomark _)))).pt (pw_and1 (pt_cmpR (op_ne.or (op_ne_lst hr.units0)) (pe_call GL hr20 (by rfl) DL.at_ DL.fn.kp DL.bd .nil pass0 (pa_cons pe_int (pa_cons (pv 1) pa_nil))) (pv 2) (nomark _)))).pt (pss_one (ps_ret pe_bl)) pss_nil) h6,?_⟩
   intro D z dv v3 r H1 hD hz hq1 d L
   refine⟨_,rfl,rfl,_,rfl,ite2 (fun _=>?_) (fun z1=>?_)⟩
   ·refine⟨_,rfl,1,_,r,rfl,.inr (.inl ⟨rfl,z,rfl,by omega,L⟩),fun u H2 s2 du=>⟨_,rfl,due_ne du (d.same (SameT.of s2)) ⟨_,rfl,iteF ?_⟩⟩⟩
    exact r6 _ _ _ _ H2 hD (s2.seq hq1)
   ·have en:r=none:=by
     rcases d with⟨e,_⟩ | ⟨i,l,_,e,_⟩
     ·exact e
     ·subst e
      exact absurd rfl z1
    refine⟨_,rfl,z,rfl,small_line (by omega),_,_,rfl,rfl,_,rfl,ite2 (fun _=>?_) (fun _=>?_)⟩
    ·refine⟨_,rfl,1,_,r,rfl,.inr (.inl ⟨rfl,z,rfl,by omega,L⟩),fun u H2 s2 du=>⟨_,rfl,due_ne du (d.same (SameT.of s2)) ⟨_,rfl,iteF ?_⟩⟩⟩
     exact r6 _ _ _ _ H2 hD (s2.seq hq1)
    ·exact iteF (r6 _ _ _ _ H1 hD hq1)
  obtain⟨t4,h4,r4⟩:∃ t,PSs ((cxOf CX0 P w K mg base nmLaw "law" (defScope sLaw) f cdv A outer s H E).nox) ((defBody sLaw).drop 4) t ∧
    ∀ (D:Ends) (z:Str) (dv:V) (v3:Option V) H1,D.rt=Q→z.length≤12→SqL K H1 a (ns.map V.int)→DueV H1 (if 6<z.length then some 4 else none) dv →
     t D [some (.ref a),some (.str z),some dv,v3] H1:=by
   refine⟨_,pss_cons (ps_if (pt_cmpR op_ne (pe_callB call_len_str (by rfl) T.len PySem.boot_len (pa_cons (pv 1) pa_nil)) (pe_op op_add (pe_bm PySem.F.plainAttrs_str PySem.F.slot_str_count PySem.F.type_str_count mt_count (pv 1) (pa_cons pe_str pa_nil)) (pe_bm PySem.F.plainAttrs_str PySem.F.slot_str_count PySem.F.type_str_count mt_count (pv 1) (pa_cons pe_str pa_nil))) (nomark _))
    (pss_cons (ps_set (i:=2) scLaw.nd rfl (Or.inl rfl) (pe_call GDk hr1 (by rfl) DDk.at_ DDk.fn.kp DDk.bd .nil pass0 (pa_cons pe_int pa_nil)))
     (pss_one (ps_if (pt_cmpR (op_ne.or (op_ne_lst hr.units0)) (pe_call GL hr20 (by rfl) DL.at_ DL.fn.kp DL.bd .nil pass0 (pa_cons pe_int (pa_cons (pv 1) pa_nil))) (pv 2) (nomark _)) (pss_one (ps_ret pe_bl)) pss_nil)))
    (pss_one (ps_if (pt_cmpR op_notN (pe_call GL hr20 (by rfl) DL.at_ DL.fn.kp DL.bd .nil pass0 (pa_cons pe_int (pa_cons (pv 1) pa_nil))) pe_non (nomark _)) (pss_one (ps_ret pe_bl)) pss_nil))) h5,?_⟩
   intro D z dv v3 H1 hD hz hq1 d
   refine⟨_,rfl,z,rfl,small_line (by omega),_,rfl,rfl,z,_,rfl,rfl,_,rfl,rfl,z,_,rfl,rfl,_,_,rfl,rfl,rfl,_,rfl,ite2 (fun q=>?_) (fun q=>?_)⟩
   ·have nl:¬ Lets z.cps.toList:=fun hL=>by
     have:=(count_lets z).mpr hL
     rw[Bool.not_eq_true',decide_eq_false_iff_not] at q
     refine q ?_
     show V.int _=V.int (_+_)
     rw[this]
    refine⟨3,rfl,by decide,fun l H2 s2 _ hl=>?_⟩
    have d2:DueV H2 (some 3) (.ref l):=.inr ⟨3,l,rfl,rfl,hl⟩
    refine⟨_,rfl,0,_,some 3,rfl,.inl ⟨rfl,z,rfl,by omega,.inl ⟨nl,rfl⟩⟩,fun u H3 s3 du=>⟨_,rfl,due_ne du (d2.same (SameT.of s3)) ⟨_,rfl,iteF ?_⟩⟩⟩
    exact r5 _ z _ _ (some 3) H3 hD hz ((s2.trans s3).seq hq1) (d2.same (SameT.of s3)) (.inl ⟨nl,rfl⟩)
   ·have hL:Lets z.cps.toList:=(count_lets z).mp (Classical.byContradiction fun ne=>q (by
     rw[Bool.not_eq_true',decide_eq_false_iff_not]
     intro e
     injection e with e
     exact ne e.symm))
    refine⟨_,rfl,0,_,none,rfl,.inl ⟨rfl,z,rfl,by omega,.inr ⟨hL,rfl⟩⟩,fun u H3 s3 du=>?_⟩
    rcases du with⟨_,rfl⟩ | ⟨i,l,e,_⟩
    ·refine⟨rfl,_,rfl,iteF ?_⟩
     refine r5 _ z _ _ _ H3 hD hz (s3.seq hq1) (d.same (SameT.of s3)) (.inr ?_)
     by_cases h6:6<z.length
     ·rw[if_pos h6]
      exact .inl ⟨hL,h6,rfl⟩
     ·rw[if_neg h6]
      exact .inr ⟨hL,by omega,rfl⟩
    ·cases e
  refine⟨_,pss_cons (ps_if (pt_not (pt_val (pe_call GA hr22 (by rfl) DA.at_ DA.fn.kp DA.bd .nil pass0 (pa_cons (pv 0) pa_nil)))) (pss_one (ps_ret pe_bl)) pss_nil)
   (pss_cons (ps_set (i:=1) scLaw.nd rfl (Or.inl rfl) (pe_call GR hr2 (by rfl) DR.at_ DR.fn.kp DR.bd .nil pass0 (pa_cons (pv 0) pa_nil)))
   (pss_cons (ps_set (i:=2) scLaw.nd rfl (Or.inl rfl) pe_non)
   (pss_cons (ps_if (pt_cmpR op_gt (pe_callB call_len_str (by rfl) T.len PySem.boot_len (pa_cons (pv 1) pa_nil)) pe_int (nomark _)) (pss_one (ps_set (i:=2) scLaw.nd rfl (Or.inl rfl) (pe_call GDk hr1 (by rfl) DDk.at_ DDk.fn.kp DDk.bd .nil pass0 (pa_cons pe_int pa_nil)))) pss_nil) h4))),?_⟩
  refine⟨_,rfl,a,ns,rfl,hq,tab,fun H1 s1=>⟨true,rfl,iteF ?_⟩⟩
  have hq1:SqL K H1 a (ns.map V.int):=s1.seq hq
  refine⟨_,rfl,a,ns,rfl,hq1,fun z H2 s2 hz=>?_⟩
  refine⟨_,rfl,z,rfl,small_line (by omega),_,_,rfl,rfl,_,rfl,ite2 (fun q=>?_) (fun q=>?_)⟩
  ·have h6:6<z.length:=by
    have:=of_decide_eq_true q
    omega
   refine⟨4,rfl,by decide,fun l H3 s3 _ hl=>?_⟩
   exact r4 _ z _ _ H3 rfl hz ((s2.trans s3).seq hq1) (by rw[if_pos h6];exact .inr ⟨4,l,rfl,rfl,hl⟩)
  ·have h6:¬ 6<z.length:=fun h=>q (decide_eq_true (by omega))
   exact r4 _ z _ _ H2 rfl hz (s2.seq hq1) (by rw[if_neg h6];exact .inl ⟨rfl,rfl⟩)
end
end Sf
namespace Sf
open PySem L2 Pl PySem.W
def cl6 (e0 e1 e2 e3 e4 e5:Addr):Nat→Addr
 | 0=>e0
 | 1=>e1
 | 2=>e2
 | 3=>e3
 | 4=>e4
 | _=>e5
theorem six_of {p:Nat→Prop}(h:p 0∧p 1∧p 2∧p 3∧p 4∧p 5):∀ i,i<6→p i:=fun i hi=>by
 obtain⟨h0,h1,h2,h3,h4,h5⟩:=h
 match i,hi with
 | 0,_=>exact h0
 | 1,_=>exact h1
 | 2,_=>exact h2
 | 3,_=>exact h3
 | 4,_=>exact h4
 | 5,_=>exact h5
section
variable {K:PySem.W.Frag}{mg:Str→Option Value}{e0 e1 e2 e3 e4 e5 S:Addr}
abbrev kq (K:PySem.W.Frag)(i j:Addr)(b:Bool):Prop:=PySem.W.kitOne K (.ref i) (.ref j)=some b
theorem errs_mk (n:mg "NoPile"=some (.ref e0)∧mg "Crossing"=some (.ref e1)∧mg "NoCrease"=some (.ref e2)∧mg "NoLetters"=some (.ref e3)∧mg "NoCount"=some (.ref e4)∧mg "Stuck"=some (.ref e5))(v:mg "ValueError"=none)
  (x:ExcIn K e0∧ExcIn K e1∧ExcIn K e2∧ExcIn K e3∧ExcIn K e4∧ExcIn K e5)
  (q:kq K e0 e0 true∧kq K e0 e1 false∧kq K e0 e2 false∧kq K e0 e3 false∧kq K e0 e4 false∧kq K e0 e5 false∧kq K e1 e0 false∧kq K e1 e1 true∧kq K e1 e2 false∧kq K e1 e3 false∧kq K e1 e4 false∧kq K e1 e5 false ∧
   kq K e2 e0 false∧kq K e2 e1 false∧kq K e2 e2 true∧kq K e2 e3 false∧kq K e2 e4 false∧kq K e2 e5 false∧kq K e3 e0 false∧kq K e3 e1 false∧kq K e3 e2 false∧kq K e3 e3 true∧kq K e3 e4 false∧kq K e3 e5 false ∧
   kq K e4 e0 false∧kq K e4 e1 false∧kq K e4 e2 false∧kq K e4 e3 false∧kq K e4 e4 true∧kq K e4 e5 false∧kq K e5 e0 false∧kq K e5 e1 false∧kq K e5 e2 false∧kq K e5 e3 false∧kq K e5 e4 false∧kq K e5 e5 true)
  (qv:kitOne K (.ref e0) (.type "ValueError")=some true∧kitOne K (.ref e1) (.type "ValueError")=some true∧kitOne K (.ref e2) (.type "ValueError")=some true∧kitOne K (.ref e3) (.type "ValueError")=some true∧kitOne K (.ref e4) (.type "ValueError")=some true∧kitOne K (.ref e5) (.type "ValueError")=some true) :
  Errs K mg (cl6 e0 e1 e2 e3 e4 e5):=by
 obtain⟨n0,n1,n2,n3,n4,n5⟩:=n
 obtain⟨q00,q01,q02,q03,q04,q05,q10,q11,q12,q13,q14,q15,q20,q21,q22,q23,q24,q25,q30,q31,q32,q33,q34,q35,q40,q41,q42,q43,q44,q45,q50,q51,q52,q53,q54,q55⟩:=q
 refine⟨n0,n1,n2,n3,n4,n5,v,six_of x,fun i j hi hj=>?_,six_of qv⟩
 exact six_of (p:=fun i=>∀ j,j<6→kitOne K (.ref (cl6 e0 e1 e2 e3 e4 e5 i)) (.ref (cl6 e0 e1 e2 e3 e4 e5 j))=some (decide (j=i)))
  ⟨six_of ⟨q00,q01,q02,q03,q04,q05⟩,six_of ⟨q10,q11,q12,q13,q14,q15⟩,six_of ⟨q20,q21,q22,q23,q24,q25⟩,six_of ⟨q30,q31,q32,q33,q34,q35⟩,six_of ⟨q40,q41,q42,q43,q44,q45⟩,six_of ⟨q50,q51,q52,q53,q54,q55⟩⟩ i hi j hj
theorem isSome_of {α:Type _}{o:Option α}{a:α}(h:o=some a):o.isSome=true:=by rw[h];rfl
def strKey (e:DictEntry):Bool:=match e.key with | .str _ _=>true | _=>false
theorem nsOk_lk {N:Addr}{oc:Value}{od:Option Addr}{es:List DictEntry}{nn:Nat}{sl:Array (Option Value)}(l:K.lookup N=some ⟨oc,od,.dict (List.toArray es) nn,sl⟩)(k:es.all strKey=true):nsOkIn K N=true:=by
 unfold nsOkIn
 rw[l]
 show (List.toArray es).all _=true
 rw[List.all_toArray]
 exact k
end
end Sf
namespace Sf
open PySem L2 Pl PySem.W
theorem xb_of {h:Heap}{C fI:Addr}{bm:List Value}(x:ExcClsI h C bm fI):∃ bm,EShape h C bm∧bm.contains (.type "BaseException")=true:=by
 obtain⟨nm,q,N,bs,hdct,sn,sub,ab,col,dd,k0,k1,k2,k3,k5,mN,h1,h2,h3,h4⟩:=x
 exact⟨bm,⟨nm,q,N,bs,hdct,sn,sub,ab,col,dd,k0,k1,k2,k3,k5,_,h1⟩,h4.hasType (by decide)⟩
section
variable {K:PySem.W.Frag}{mg:Str→Option Value}{h:Heap}{C D:Addr}{dd dd':Option Addr}{nm qn nm' qn':Str}{bs sub bm bs' sub' bm':List Value}{ns ns':Addr}{hd ab hd' ab':Bool}{sn sn':List Str}{col col':Option Bool}{k0 k1 k2 k3 k5:Option Value}{n:String}{sl':Array (Option Value)}{oc':Value}
theorem eshape_lk (X:K.In h)(l:K.lookup C=some ⟨.type "type",dd,.cls ⟨nm,bs,.ref C::bm,ns,qn,hd,sn,sub,ab,col,false⟩,#[k0,k1,k2,k3,some (.builtin n),k5]⟩):EShape h C bm:=⟨nm,qn,ns,bs,hd,sn,sub,ab,col,dd,k0,k1,k2,k3,k5,n,X _ _ l⟩
theorem excCls_lk (X:K.In h)(l:K.lookup C=some ⟨.type "type",dd,.cls ⟨nm,bs,.ref C::.ref D::bmV,ns,qn,hd,sn,sub,ab,col,false⟩,#[k0,k1,k2,k3,some (.builtin "ValueError.__new__"),k5]⟩)(o:nsOkIn K ns=true)(i:nsIn K ns "__init__"=some none)
  (l':K.lookup D=some ⟨oc',dd',.cls ⟨nm',bs',bm',ns',qn',hd',sn',sub',ab',col',false⟩,sl'⟩) (o':nsOkIn K ns'=true) (i':nsIn K ns' "__init__"=some none):ExcCls h C (.ref D::bmV) :=
 ⟨nm,qn,ns,bs,hd,sn,sub,ab,col,dd,k0,k1,k2,k3,k5,_,X _ _ l,.of_isNs (isNs_of_in X o),nsMap_none_of_in X o i,.own (X _ _ l') (.of_isNs (isNs_of_in X o')) (nsMap_none_of_in X o' i') .base⟩
theorem errsB_lk {S e0 e1 e2 e3 e4 e5:Addr}(s:mg "StripError"=some (.ref S))(a:EShape h S bmV)(b:EShape h e0 (.ref S::bmV)∧EShape h e1 (.ref S::bmV)∧EShape h e2 (.ref S::bmV)∧EShape h e3 (.ref S::bmV)∧EShape h e4 (.ref S::bmV)∧EShape h e5 (.ref S::bmV)):ErrsB mg h (cl6 e0 e1 e2 e3 e4 e5) S :=
 ⟨s,⟨bmV,a,by decide⟩,fun i hi=>⟨.ref S::bmV,six_of (p:=fun i=>EShape h (cl6 e0 e1 e2 e3 e4 e5 i) (.ref S::bmV)) b i hi,by simp⟩⟩
end
theorem turned_mk {K:PySem.W.Frag}{h:Heap}{mg:Str→Option Value}{f T:Addr}{oc:Value}{od an:Option Addr}{sl:Array (Option Value)}{kV dc pm cd ct:Value}{tcl:Value}{tdi:Option Addr}{tsl:Array (Option Value)}{tk:Tok}{nn:Nat}(X:K.In h)(G:h.Ns mainGlobals mg)
  (a:PySem.W.nsIn K mainGlobals "turned"=some (some (.ref f))) (l:K.lookup f=some ⟨oc,od,.func (PySem.W.fnOf "turned" "turned" (defArgs sTurned) (defBody sTurned) (defScope sTurned) (.ref T) kV dc pm an cd ct),sl⟩) (c:PySem.W.codeIn K cd "turned"=true) (k:PySem.W.keepIn K (.ref f)=true)
  (lt:K.lookup T=some ⟨tcl,tdi,.seq #[.int 1 tk] nn,tsl⟩) :
  DefD K mg "turned" sTurned ["pile","by"] [.int 1 tk] f (PySem.W.fnOf "turned" "turned" (defArgs sTurned) (defBody sTurned) (defScope sTurned) (.ref T) kV dc pm an cd ct):=by
 refine⟨⟨oc,od,_,kV,dc,pm,an,cd,ct,sl,rfl,l,c⟩,k,fun s us hk hl=>?_,PySem.W.mg_of X G a⟩
 match us,hl with
 | [u,v],_=>exact BindsTo.of_defaults rfl (hk _ _ lt) rfl rfl rfl
end Sf
namespace Sf
open PySem L2 Pl
theorem len1 {α:Type _}{p:List α→Prop}(h:∀ a0:α,p [a0])(us:List α)(e:us.length=1):p us:=by
 match us,e with
 | [a0],_=>exact h a0
theorem len2 {α:Type _}{p:List α→Prop}(h:∀ a0 a1:α,p [a0,a1])(us:List α)(e:us.length=2):p us:=by
 match us,e with
 | [a0,a1],_=>exact h a0 a1
theorem len3 {α:Type _}{p:List α→Prop}(h:∀ a0 a1 a2:α,p [a0,a1,a2])(us:List α)(e:us.length=3):p us:=by
 match us,e with
 | [a0,a1,a2],_=>exact h a0 a1 a2
theorem len4 {α:Type _}{p:List α→Prop}(h:∀ a0 a1 a2 a3:α,p [a0,a1,a2,a3])(us:List α)(e:us.length=4):p us:=by
 match us,e with
 | [a0,a1,a2,a3],_=>exact h a0 a1 a2 a3
theorem def_mk {K:PySem.W.Frag}{h:Heap}{mg:Str→Option Value}{x:Str}{st:Stmt}{f:Addr}{oc:Value}{od an:Option Addr}{sl:Array (Option Value)}{kV dc pm cd ct:Value}{ps:List Str}(X:K.In h)(G:h.Ns mainGlobals mg)
  (a:PySem.W.nsIn K mainGlobals x=some (some (.ref f))) (l:K.lookup f=some ⟨oc,od,.func (PySem.W.fnOf x x (defArgs st) (defBody st) (defScope st) .none kV dc pm an cd ct),sl⟩) (c:PySem.W.codeIn K cd x=true) (k:PySem.W.keepIn K (.ref f)=true)
  (hb:∀ (kV doc pm:Value) (an:Option Addr) (cdv ct:Value) (us:List Value),us.length=ps.length→bindArgs (PySem.W.fnOf x x (defArgs st) (defBody st) (defScope st) .none kV doc pm an cdv ct) ⟨us,[]⟩=pure (ps.zip us)) :
  Def K mg x st ps f (PySem.W.fnOf x x (defArgs st) (defBody st) (defScope st) .none kV dc pm an cd ct):=⟨fun_mk l c k,(fun_mk l c k).binds hb,PySem.W.mg_of X G a⟩
end Sf
namespace Sf
open PySem L2 Pl PySem.W
theorem all_mk {l:OpenLaw}{w:World}{K:Frag}{h:Heap}{mg:Str→Option Value}{fa f1 f2 f3 f4 f5 f6 f7 f8 f9 f10 f11 f12 f13 f14 f15 f16 f17 f18 f19 f20 f21 f22 f23 f24 f25 f26 f27 f28 f29 f30 f31 f32 f33 f34 f35 f36 f37 f38 f39 f40 f41 f42 f43 f44 f45 f46 f47 f48:Addr}(X:K.In h)(G:h.Ns mainGlobals mg)(hfa:mg "law"=some (.ref fa))
  {od1 an1 od2 an2 od3 an3 od4 an4 od5 an5 od6 an6 od7 an7 od8 an8 od9 an9 od10 an10 od11 an11 od12 an12 od13 an13 od14 an14 od15 an15 od16 an16 od17 an17 od18 an18 od19 an19 od20 an20 od21 an21 od22 an22 od23 an23 od24 an24 od25 an25 od26 an26 od27 an27 od28 an28 od29 an29 od30 an30 od31 an31 od32 an32 od33 an33 od34 an34 od35 an35 od36 an36 od37 an37 od38 an38 od39 an39 od40 an40 od41 an41 od42 an42 od43 an43 od44 an44 od45 an45 od46 an46 od47 an47 od48 an48:Option Addr}{sl1 sl2 sl3 sl4 sl5 sl6 sl7 sl8 sl9 sl10 sl11 sl12 sl13 sl14 sl15 sl16 sl17 sl18 sl19 sl20 sl21 sl22 sl23 sl24 sl25 sl26 sl27 sl28 sl29 sl30 sl31 sl32 sl33 sl34 sl35 sl36 sl37 sl38 sl39 sl40 sl41 sl42 sl43 sl44 sl45 sl46 sl47 sl48:Array (Option Value)}{oc1 kV1 dc1 pm1 cd1 ct1 oc2 kV2 dc2 pm2 cd2 ct2 oc3 kV3 dc3 pm3 cd3 ct3 oc4 kV4 dc4 pm4 cd4 ct4 oc5 kV5 dc5 pm5 cd5 ct5 oc6 kV6 dc6 pm6 cd6 ct6 oc7 kV7 dc7 pm7 cd7 ct7 oc8 kV8 dc8 pm8 cd8 ct8 oc9 kV9 dc9 pm9 cd9 ct9 oc10 kV10 dc10 pm10 cd10 ct10 oc11 kV11 dc11 pm11 cd11 ct11 oc12 kV12 dc12 pm12 cd12 ct12 oc13 kV13 dc13 pm13 cd13 ct13 oc14 kV14 dc14 pm14 cd14 ct14 oc15 kV15 dc15 pm15 cd15 ct15 oc16 kV16 dc16 pm16 cd16 ct16 oc17 kV17 dc17 pm17 cd17 ct17 oc18 kV18 dc18 pm18 cd18 ct18 oc19 kV19 dc19 pm19 cd19 ct19 oc20 kV20 dc20 pm20 cd20 ct20 oc21 kV21 dc21 pm21 cd21 ct21 oc22 kV22 dc22 pm22 cd22 ct22 oc23 kV23 dc23 pm23 cd23 ct23 oc24 kV24 dc24 pm24 cd24 ct24 oc25 kV25 dc25 pm25 cd25 ct25 oc26 kV26 dc26 pm26 cd26 ct26 oc27 kV27 dc27 pm27 cd27 ct27 oc28 kV28 dc28 pm28 cd28 ct28 oc29 kV29 dc29 pm29 cd29 ct29 oc30 kV30 dc30 pm30 cd30 ct30 oc31 kV31 dc31 pm31 cd31 ct31 oc32 kV32 dc32 pm32 cd32 ct32 oc33 kV33 dc33 pm33 cd33 ct33 oc34 kV34 dc34 pm34 cd34 ct34 oc35 kV35 dc35 pm35 cd35 ct35 oc36 kV36 dc36 pm36 cd36 ct36 oc37 kV37 dc37 pm37 cd37 ct37 oc38 kV38 dc38 pm38 cd38 ct38 oc39 kV39 dc39 pm39 cd39 ct39 oc40 kV40 dc40 pm40 cd40 ct40 oc41 kV41 dc41 pm41 cd41 ct41 oc42 kV42 dc42 pm42 cd42 ct42 oc43 kV43 dc43 pm43 cd43 ct43 oc44 kV44 dc44 pm44 cd44 ct44 oc45 kV45 dc45 pm45 cd45 ct45 oc46 kV46 dc46 pm46 cd46 ct46 oc47 kV47 dc47 pm47 cd47 ct47 oc48 kV48 dc48 pm48 cd48 ct48:Value}
  (a1:nsIn K mainGlobals "check_pile"=some (some (.ref f1))) (l1:K.lookup f1=some ⟨oc1,od1,.func (fnOf "check_pile" "check_pile" (defArgs sCheck) (defBody sCheck) (defScope sCheck) .none kV1 dc1 pm1 an1 cd1 ct1),sl1⟩) (c1:codeIn K cd1 "check_pile"=true) (k1:keepIn K (.ref f1)=true)
  (a2:nsIn K mainGlobals "places"=some (some (.ref f2))) (l2:K.lookup f2=some ⟨oc2,od2,.func (fnOf "places" "places" (defArgs sPlaces) (defBody sPlaces) (defScope sPlaces) .none kV2 dc2 pm2 an2 cd2 ct2),sl2⟩) (c2:codeIn K cd2 "places"=true) (k2:keepIn K (.ref f2)=true)
  (a3:nsIn K mainGlobals "letter"=some (some (.ref f3))) (l3:K.lookup f3=some ⟨oc3,od3,.func (fnOf "letter" "letter" (defArgs sLetter) (defBody sLetter) (defScope sLetter) .none kV3 dc3 pm3 an3 cd3 ct3),sl3⟩) (c3:codeIn K cd3 "letter"=true) (k3:keepIn K (.ref f3)=true)
  (a4:nsIn K mainGlobals "letters"=some (some (.ref f4))) (l4:K.lookup f4=some ⟨oc4,od4,.func (fnOf "letters" "letters" (defArgs sLetters) (defBody sLetters) (defScope sLetters) .none kV4 dc4 pm4 an4 cd4 ct4),sl4⟩) (c4:codeIn K cd4 "letters"=true) (k4:keepIn K (.ref f4)=true)
  {T5:Addr}{tcl5:Value}{tdi5:Option Addr}{tsl5:Array (Option Value)}{tk5:Tok}{nn5:Nat} (a5:nsIn K mainGlobals "turned"=some (some (.ref f5))) (l5:K.lookup f5=some ⟨oc5,od5,.func (fnOf "turned" "turned" (defArgs sTurned) (defBody sTurned) (defScope sTurned) (.ref T5) kV5 dc5 pm5 an5 cd5 ct5),sl5⟩) (c5:codeIn K cd5 "turned"=true) (k5:keepIn K (.ref f5)=true) (t5:K.lookup T5=some ⟨tcl5,tdi5,.seq #[.int 1 tk5] nn5,tsl5⟩)
  (a6:nsIn K mainGlobals "wraps"=some (some (.ref f6))) (l6:K.lookup f6=some ⟨oc6,od6,.func (fnOf "wraps" "wraps" (defArgs sWraps) (defBody sWraps) (defScope sWraps) .none kV6 dc6 pm6 an6 cd6 ct6),sl6⟩) (c6:codeIn K cd6 "wraps"=true) (k6:keepIn K (.ref f6)=true)
  (a7:nsIn K mainGlobals "cross"=some (some (.ref f7))) (l7:K.lookup f7=some ⟨oc7,od7,.func (fnOf "cross" "cross" (defArgs sCross) (defBody sCross) (defScope sCross) .none kV7 dc7 pm7 an7 cd7 ct7),sl7⟩) (c7:codeIn K cd7 "cross"=true) (k7:keepIn K (.ref f7)=true)
  (a8:nsIn K mainGlobals "crossing"=some (some (.ref f8))) (l8:K.lookup f8=some ⟨oc8,od8,.func (fnOf "crossing" "crossing" (defArgs sCrossing) (defBody sCrossing) (defScope sCrossing) .none kV8 dc8 pm8 an8 cd8 ct8),sl8⟩) (c8:codeIn K cd8 "crossing"=true) (k8:keepIn K (.ref f8)=true)
  (a9:nsIn K mainGlobals "foldable_places"=some (some (.ref f9))) (l9:K.lookup f9=some ⟨oc9,od9,.func (fnOf "foldable_places" "foldable_places" (defArgs s_foldable_places) (defBody s_foldable_places) (defScope s_foldable_places) .none kV9 dc9 pm9 an9 cd9 ct9),sl9⟩) (c9:codeIn K cd9 "foldable_places"=true) (k9:keepIn K (.ref f9)=true)
  (a10:nsIn K mainGlobals "check_row"=some (some (.ref f10))) (l10:K.lookup f10=some ⟨oc10,od10,.func (fnOf "check_row" "check_row" (defArgs s_check_row) (defBody s_check_row) (defScope s_check_row) .none kV10 dc10 pm10 an10 cd10 ct10),sl10⟩) (c10:codeIn K cd10 "check_row"=true) (k10:keepIn K (.ref f10)=true)
  (a11:nsIn K mainGlobals "check_count"=some (some (.ref f11))) (l11:K.lookup f11=some ⟨oc11,od11,.func (fnOf "check_count" "check_count" (defArgs s_check_count) (defBody s_check_count) (defScope s_check_count) .none kV11 dc11 pm11 an11 cd11 ct11),sl11⟩) (c11:codeIn K cd11 "check_count"=true) (k11:keepIn K (.ref f11)=true)
  (a12:nsIn K mainGlobals "pile_of"=some (some (.ref f12))) (l12:K.lookup f12=some ⟨oc12,od12,.func (fnOf "pile_of" "pile_of" (defArgs s_pile_of) (defBody s_pile_of) (defScope s_pile_of) .none kV12 dc12 pm12 an12 cd12 ct12),sl12⟩) (c12:codeIn K cd12 "pile_of"=true) (k12:keepIn K (.ref f12)=true)
  (a13:nsIn K mainGlobals "laid_in"=some (some (.ref f13))) (l13:K.lookup f13=some ⟨oc13,od13,.func (fnOf "laid_in" "laid_in" (defArgs s_laid_in) (defBody s_laid_in) (defScope s_laid_in) .none kV13 dc13 pm13 an13 cd13 ct13),sl13⟩) (c13:codeIn K cd13 "laid_in"=true) (k13:keepIn K (.ref f13)=true)
  (a14:nsIn K mainGlobals "piles"=some (some (.ref f14))) (l14:K.lookup f14=some ⟨oc14,od14,.func (fnOf "piles" "piles" (defArgs s_piles) (defBody s_piles) (defScope s_piles) .none kV14 dc14 pm14 an14 cd14 ct14),sl14⟩) (c14:codeIn K cd14 "piles"=true) (k14:keepIn K (.ref f14)=true)
  (a15:nsIn K mainGlobals "piles_with"=some (some (.ref f15))) (l15:K.lookup f15=some ⟨oc15,od15,.func (fnOf "piles_with" "piles_with" (defArgs s_piles_with) (defBody s_piles_with) (defScope s_piles_with) .none kV15 dc15 pm15 an15 cd15 ct15),sl15⟩) (c15:codeIn K cd15 "piles_with"=true) (k15:keepIn K (.ref f15)=true)
  (a16:nsIn K mainGlobals "check_creases"=some (some (.ref f16))) (l16:K.lookup f16=some ⟨oc16,od16,.func (fnOf "check_creases" "check_creases" (defArgs s_check_creases) (defBody s_check_creases) (defScope s_check_creases) .none kV16 dc16 pm16 an16 cd16 ct16),sl16⟩) (c16:codeIn K cd16 "check_creases"=true) (k16:keepIn K (.ref f16)=true)
  (a17:nsIn K mainGlobals "ends_of_parts"=some (some (.ref f17))) (l17:K.lookup f17=some ⟨oc17,od17,.func (fnOf "ends_of_parts" "ends_of_parts" (defArgs s_ends_of_parts) (defBody s_ends_of_parts) (defScope s_ends_of_parts) .none kV17 dc17 pm17 an17 cd17 ct17),sl17⟩) (c17:codeIn K cd17 "ends_of_parts"=true) (k17:keepIn K (.ref f17)=true)
  (a18:nsIn K mainGlobals "creases_like"=some (some (.ref f18))) (l18:K.lookup f18=some ⟨oc18,od18,.func (fnOf "creases_like" "creases_like" (defArgs s_creases_like) (defBody s_creases_like) (defScope s_creases_like) .none kV18 dc18 pm18 an18 cd18 ct18),sl18⟩) (c18:codeIn K cd18 "creases_like"=true) (k18:keepIn K (.ref f18)=true)
  (a19:nsIn K mainGlobals "wrapped_within"=some (some (.ref f19))) (l19:K.lookup f19=some ⟨oc19,od19,.func (fnOf "wrapped_within" "wrapped_within" (defArgs s_wrapped_within) (defBody s_wrapped_within) (defScope s_wrapped_within) .none kV19 dc19 pm19 an19 cd19 ct19),sl19⟩) (c19:codeIn K cd19 "wrapped_within"=true) (k19:keepIn K (.ref f19)=true)
  (a20:nsIn K mainGlobals "inner_parts_odd"=some (some (.ref f20))) (l20:K.lookup f20=some ⟨oc20,od20,.func (fnOf "inner_parts_odd" "inner_parts_odd" (defArgs s_inner_parts_odd) (defBody s_inner_parts_odd) (defScope s_inner_parts_odd) .none kV20 dc20 pm20 an20 cd20 ct20),sl20⟩) (c20:codeIn K cd20 "inner_parts_odd"=true) (k20:keepIn K (.ref f20)=true)
  (a21:nsIn K mainGlobals "lies_free"=some (some (.ref f21))) (l21:K.lookup f21=some ⟨oc21,od21,.func (fnOf "lies_free" "lies_free" (defArgs s_lies_free) (defBody s_lies_free) (defScope s_lies_free) .none kV21 dc21 pm21 an21 cd21 ct21),sl21⟩) (c21:codeIn K cd21 "lies_free"=true) (k21:keepIn K (.ref f21)=true)
  (a22:nsIn K mainGlobals "free"=some (some (.ref f22))) (l22:K.lookup f22=some ⟨oc22,od22,.func (fnOf "free" "free" (defArgs s_free) (defBody s_free) (defScope s_free) .none kV22 dc22 pm22 an22 cd22 ct22),sl22⟩) (c22:codeIn K cd22 "free"=true) (k22:keepIn K (.ref f22)=true)
  (a23:nsIn K mainGlobals "widest_like"=some (some (.ref f23))) (l23:K.lookup f23=some ⟨oc23,od23,.func (fnOf "widest_like" "widest_like" (defArgs s_widest_like) (defBody s_widest_like) (defScope s_widest_like) .none kV23 dc23 pm23 an23 cd23 ct23),sl23⟩) (c23:codeIn K cd23 "widest_like"=true) (k23:keepIn K (.ref f23)=true)
  (a24:nsIn K mainGlobals "step_within"=some (some (.ref f24))) (l24:K.lookup f24=some ⟨oc24,od24,.func (fnOf "step_within" "step_within" (defArgs s_step_within) (defBody s_step_within) (defScope s_step_within) .none kV24 dc24 pm24 an24 cd24 ct24),sl24⟩) (c24:codeIn K cd24 "step_within"=true) (k24:keepIn K (.ref f24)=true)
  (a25:nsIn K mainGlobals "opening"=some (some (.ref f25))) (l25:K.lookup f25=some ⟨oc25,od25,.func (fnOf "opening" "opening" (defArgs s_opening) (defBody s_opening) (defScope s_opening) .none kV25 dc25 pm25 an25 cd25 ct25),sl25⟩) (c25:codeIn K cd25 "opening"=true) (k25:keepIn K (.ref f25)=true)
  (a26:nsIn K mainGlobals "_law_drawn"=some (some (.ref f26))) (l26:K.lookup f26=some ⟨oc26,od26,.func (fnOf "_law_drawn" "_law_drawn" (defArgs sDrawn) (defBody sDrawn) (defScope sDrawn) .none kV26 dc26 pm26 an26 cd26 ct26),sl26⟩) (c26:codeIn K cd26 "_law_drawn"=true) (k26:keepIn K (.ref f26)=true)
  (a27:nsIn K mainGlobals "_law_number"=some (some (.ref f27))) (l27:K.lookup f27=some ⟨oc27,od27,.func (fnOf "_law_number" "_law_number" (defArgs sNumber) (defBody sNumber) (defScope sNumber) .none kV27 dc27 pm27 an27 cd27 ct27),sl27⟩) (c27:codeIn K cd27 "_law_number"=true) (k27:keepIn K (.ref f27)=true)
  (a28:nsIn K mainGlobals "_law_counts"=some (some (.ref f28))) (l28:K.lookup f28=some ⟨oc28,od28,.func (fnOf "_law_counts" "_law_counts" (defArgs sCounts) (defBody sCounts) (defScope sCounts) .none kV28 dc28 pm28 an28 cd28 ct28),sl28⟩) (c28:codeIn K cd28 "_law_counts"=true) (k28:keepIn K (.ref f28)=true)
  (a29:nsIn K mainGlobals "_law_size"=some (some (.ref f29))) (l29:K.lookup f29=some ⟨oc29,od29,.func (fnOf "_law_size" "_law_size" (defArgs sSize) (defBody sSize) (defScope sSize) .none kV29 dc29 pm29 an29 cd29 ct29),sl29⟩) (c29:codeIn K cd29 "_law_size"=true) (k29:keepIn K (.ref f29)=true)
  (a30:nsIn K mainGlobals "_law_is_pile"=some (some (.ref f30))) (l30:K.lookup f30=some ⟨oc30,od30,.func (fnOf "_law_is_pile" "_law_is_pile" (defArgs s_law_is_pile) (defBody s_law_is_pile) (defScope s_law_is_pile) .none kV30 dc30 pm30 an30 cd30 ct30),sl30⟩) (c30:codeIn K cd30 "_law_is_pile"=true) (k30:keepIn K (.ref f30)=true)
  (a31:nsIn K mainGlobals "_law_places"=some (some (.ref f31))) (l31:K.lookup f31=some ⟨oc31,od31,.func (fnOf "_law_places" "_law_places" (defArgs sLPlaces) (defBody sLPlaces) (defScope sLPlaces) .none kV31 dc31 pm31 an31 cd31 ct31),sl31⟩) (c31:codeIn K cd31 "_law_places"=true) (k31:keepIn K (.ref f31)=true)
  (a32:nsIn K mainGlobals "_law_pile"=some (some (.ref f32))) (l32:K.lookup f32=some ⟨oc32,od32,.func (fnOf "_law_pile" "_law_pile" (defArgs sPile) (defBody sPile) (defScope sPile) .none kV32 dc32 pm32 an32 cd32 ct32),sl32⟩) (c32:codeIn K cd32 "_law_pile"=true) (k32:keepIn K (.ref f32)=true)
  (a33:nsIn K mainGlobals "_law_fits"=some (some (.ref f33))) (l33:K.lookup f33=some ⟨oc33,od33,.func (fnOf "_law_fits" "_law_fits" (defArgs sFits) (defBody sFits) (defScope sFits) .none kV33 dc33 pm33 an33 cd33 ct33),sl33⟩) (c33:codeIn K cd33 "_law_fits"=true) (k33:keepIn K (.ref f33)=true)
  (a34:nsIn K mainGlobals "_law_good"=some (some (.ref f34))) (l34:K.lookup f34=some ⟨oc34,od34,.func (fnOf "_law_good" "_law_good" (defArgs sGood) (defBody sGood) (defScope sGood) .none kV34 dc34 pm34 an34 cd34 ct34),sl34⟩) (c34:codeIn K cd34 "_law_good"=true) (k34:keepIn K (.ref f34)=true)
  (a35:nsIn K mainGlobals "_law_wraps"=some (some (.ref f35))) (l35:K.lookup f35=some ⟨oc35,od35,.func (fnOf "_law_wraps" "_law_wraps" (defArgs sLWraps) (defBody sLWraps) (defScope sLWraps) .none kV35 dc35 pm35 an35 cd35 ct35),sl35⟩) (c35:codeIn K cd35 "_law_wraps"=true) (k35:keepIn K (.ref f35)=true)
  (a36:nsIn K mainGlobals "_law_none_cross"=some (some (.ref f36))) (l36:K.lookup f36=some ⟨oc36,od36,.func (fnOf "_law_none_cross" "_law_none_cross" (defArgs sNone) (defBody sNone) (defScope sNone) .none kV36 dc36 pm36 an36 cd36 ct36),sl36⟩) (c36:codeIn K cd36 "_law_none_cross"=true) (k36:keepIn K (.ref f36)=true)
  (a37:nsIn K mainGlobals "_law_spoiled"=some (some (.ref f37))) (l37:K.lookup f37=some ⟨oc37,od37,.func (fnOf "_law_spoiled" "_law_spoiled" (defArgs s_law_spoiled) (defBody s_law_spoiled) (defScope s_law_spoiled) .none kV37 dc37 pm37 an37 cd37 ct37),sl37⟩) (c37:codeIn K cd37 "_law_spoiled"=true) (k37:keepIn K (.ref f37)=true)
  (a38:nsIn K mainGlobals "_law_creases"=some (some (.ref f38))) (l38:K.lookup f38=some ⟨oc38,od38,.func (fnOf "_law_creases" "_law_creases" (defArgs s_law_creases) (defBody s_law_creases) (defScope s_law_creases) .none kV38 dc38 pm38 an38 cd38 ct38),sl38⟩) (c38:codeIn K cd38 "_law_creases"=true) (k38:keepIn K (.ref f38)=true)
  (a39:nsIn K mainGlobals "_law_creases_good"=some (some (.ref f39))) (l39:K.lookup f39=some ⟨oc39,od39,.func (fnOf "_law_creases_good" "_law_creases_good" (defArgs s_law_creases_good) (defBody s_law_creases_good) (defScope s_law_creases_good) .none kV39 dc39 pm39 an39 cd39 ct39),sl39⟩) (c39:codeIn K cd39 "_law_creases_good"=true) (k39:keepIn K (.ref f39)=true)
  (a40:nsIn K mainGlobals "_law_asked"=some (some (.ref f40))) (l40:K.lookup f40=some ⟨oc40,od40,.func (fnOf "_law_asked" "_law_asked" (defArgs s_law_asked) (defBody s_law_asked) (defScope s_law_asked) .none kV40 dc40 pm40 an40 cd40 ct40),sl40⟩) (c40:codeIn K cd40 "_law_asked"=true) (k40:keepIn K (.ref f40)=true)
  (a41:nsIn K mainGlobals "_law_kinds"=some (some (.ref f41))) (l41:K.lookup f41=some ⟨oc41,od41,.func (fnOf "_law_kinds" "_law_kinds" (defArgs s_law_kinds) (defBody s_law_kinds) (defScope s_law_kinds) .none kV41 dc41 pm41 an41 cd41 ct41),sl41⟩) (c41:codeIn K cd41 "_law_kinds"=true) (k41:keepIn K (.ref f41)=true)
  (a42:nsIn K mainGlobals "_law_due_kinds"=some (some (.ref f42))) (l42:K.lookup f42=some ⟨oc42,od42,.func (fnOf "_law_due_kinds" "_law_due_kinds" (defArgs s_law_due_kinds) (defBody s_law_due_kinds) (defScope s_law_due_kinds) .none kV42 dc42 pm42 an42 cd42 ct42),sl42⟩) (c42:codeIn K cd42 "_law_due_kinds"=true) (k42:keepIn K (.ref f42)=true)
  (a43:nsIn K mainGlobals "_law_word"=some (some (.ref f43))) (l43:K.lookup f43=some ⟨oc43,od43,.func (fnOf "_law_word" "_law_word" (defArgs s_law_word) (defBody s_law_word) (defScope s_law_word) .none kV43 dc43 pm43 an43 cd43 ct43),sl43⟩) (c43:codeIn K cd43 "_law_word"=true) (k43:keepIn K (.ref f43)=true)
  (a44:nsIn K mainGlobals "_law_crossed"=some (some (.ref f44))) (l44:K.lookup f44=some ⟨oc44,od44,.func (fnOf "_law_crossed" "_law_crossed" (defArgs s_law_crossed) (defBody s_law_crossed) (defScope s_law_crossed) .none kV44 dc44 pm44 an44 cd44 ct44),sl44⟩) (c44:codeIn K cd44 "_law_crossed"=true) (k44:keepIn K (.ref f44)=true)
  (a45:nsIn K mainGlobals "_law_piles_asked"=some (some (.ref f45))) (l45:K.lookup f45=some ⟨oc45,od45,.func (fnOf "_law_piles_asked" "_law_piles_asked" (defArgs s_law_piles_asked) (defBody s_law_piles_asked) (defScope s_law_piles_asked) .none kV45 dc45 pm45 an45 cd45 ct45),sl45⟩) (c45:codeIn K cd45 "_law_piles_asked"=true) (k45:keepIn K (.ref f45)=true)
  (a46:nsIn K mainGlobals "_law_row"=some (some (.ref f46))) (l46:K.lookup f46=some ⟨oc46,od46,.func (fnOf "_law_row" "_law_row" (defArgs s_law_row) (defBody s_law_row) (defScope s_law_row) .none kV46 dc46 pm46 an46 cd46 ct46),sl46⟩) (c46:codeIn K cd46 "_law_row"=true) (k46:keepIn K (.ref f46)=true)
  (a47:nsIn K mainGlobals "_law_listed"=some (some (.ref f47))) (l47:K.lookup f47=some ⟨oc47,od47,.func (fnOf "_law_listed" "_law_listed" (defArgs s_law_listed) (defBody s_law_listed) (defScope s_law_listed) .none kV47 dc47 pm47 an47 cd47 ct47),sl47⟩) (c47:codeIn K cd47 "_law_listed"=true) (k47:keepIn K (.ref f47)=true)
  (a48:nsIn K mainGlobals "law"=some (some (.ref f48))) (l48:K.lookup f48=some ⟨oc48,od48,.func (fnOf "law" "law" (defArgs sLaw) (defBody sLaw) (defScope sLaw) .none kV48 dc48 pm48 an48 cd48 ct48),sl48⟩) (c48:codeIn K cd48 "law"=true) (k48:keepIn K (.ref f48)=true)
  {tk_MOST_STAMPS:Tok} (cc_MOST_STAMPS:nsIn K mainGlobals "MOST_STAMPS"=some (some (.int 7 tk_MOST_STAMPS)))
  {C g0:Addr}{god0 gan0:Option Addr}{gsl0:Array (Option Value)}{goc0 gkV0 gdc0 gpm0 gcd0 gct0:Value}
  {S e0 e1 e2 e3 e4 e5 gI:Addr}
  {dd0:Option Addr}{nm0 qn0:Str}{bs0 sub0:List Value}{ns0:Addr}{ab0:Bool}{sn0:List Str}{col0:Option Bool}{ks0_0 ks1_0 ks2_0 ks3_0 ks5_0:Option Value}{hdt0:Bool}
  {dd1:Option Addr}{nm1 qn1:Str}{bs1 sub1:List Value}{ns1:Addr}{ab1:Bool}{sn1:List Str}{col1:Option Bool}{ks0_1 ks1_1 ks2_1 ks3_1 ks5_1:Option Value}
  {dd2:Option Addr}{nm2 qn2:Str}{bs2 sub2:List Value}{ns2:Addr}{ab2:Bool}{sn2:List Str}{col2:Option Bool}{ks0_2 ks1_2 ks2_2 ks3_2 ks5_2:Option Value}{hdt2:Bool}
  {dd3:Option Addr}{nm3 qn3:Str}{bs3 sub3:List Value}{ns3:Addr}{ab3:Bool}{sn3:List Str}{col3:Option Bool}{ks0_3 ks1_3 ks2_3 ks3_3 ks5_3:Option Value}{hdt3:Bool}
  {dd4:Option Addr}{nm4 qn4:Str}{bs4 sub4:List Value}{ns4:Addr}{ab4:Bool}{sn4:List Str}{col4:Option Bool}{ks0_4 ks1_4 ks2_4 ks3_4 ks5_4:Option Value}{hdt4:Bool}
  {dd5:Option Addr}{nm5 qn5:Str}{bs5 sub5:List Value}{ns5:Addr}{ab5:Bool}{sn5:List Str}{col5:Option Bool}{ks0_5 ks1_5 ks2_5 ks3_5 ks5_5:Option Value}{hdt5:Bool}
  {ddS:Option Addr}{nmS qnS:Str}{bsS subS:List Value}{nsS:Addr}{abS:Bool}{snS:List Str}{colS:Option Bool}{ks0_S ks1_S ks2_S ks3_S ks5_S:Option Value}{hdtS:Bool}{newS:String}
  {noc0:Value}{nod0:Option Addr}{nes0:List DictEntry}{nnn0:Nat}{nsl0:Array (Option Value)}
  {noc1:Value}{nod1:Option Addr}{nes1:List DictEntry}{nnn1:Nat}{nsl1:Array (Option Value)}
  {noc2:Value}{nod2:Option Addr}{nes2:List DictEntry}{nnn2:Nat}{nsl2:Array (Option Value)}
  {noc3:Value}{nod3:Option Addr}{nes3:List DictEntry}{nnn3:Nat}{nsl3:Array (Option Value)}
  {noc4:Value}{nod4:Option Addr}{nes4:List DictEntry}{nnn4:Nat}{nsl4:Array (Option Value)}
  {nocS:Value}{nodS:Option Addr}{nesS:List DictEntry}{nnnS:Nat}{nslS:Array (Option Value)}
  {xod xan:Option Addr}{xsl:Array (Option Value)}{xoc xkV xdc xpm xcd xct:Value}
  {cT Tb:Addr}
  (aC:nsIn K mainGlobals "Bench"=some (some (.ref C)))
  (ma0:findIn K (.ref C) "__init__"=some (some (.ref g0)))
  (mi0:isFn K (.ref g0)=true)
  (ml0:K.lookup g0=some ⟨goc0,god0,.func (fnOf "__init__" "Bench.__init__" (defArgs sInit) (defBody sInit) (defScope sInit) .none gkV0 gdc0 gpm0 gan0 gcd0 gct0),gsl0⟩)
  (mc0:codeIn K gcd0 "Bench.__init__"=true)
  (mk0:keepIn K (.ref g0)=true)
  (pg:plainGet K C Str.empty=true)
  (hd:hasDictIn K C=true)
  (po:plainOver K C=true)
  (sa:findIn K (.ref C) "__setattr__"=some (some (.builtin "object.__setattr__")))
  (mks:makesIn K C=true)
  (kc:keepIn K (.ref C)=true)
  (n_at:findIn K (.ref C) "at"=some none)
  (n_pile:findIn K (.ref C) "pile"=some none)
  (n_opened:findIn K (.ref C) "opened"=some none)
  (ae0:nsIn K mainGlobals "NoPile"=some (some (.ref e0)))
  (ae1:nsIn K mainGlobals "Crossing"=some (some (.ref e1)))
  (ae2:nsIn K mainGlobals "NoCrease"=some (some (.ref e2)))
  (ae3:nsIn K mainGlobals "NoLetters"=some (some (.ref e3)))
  (ae4:nsIn K mainGlobals "NoCount"=some (some (.ref e4)))
  (ae5:nsIn K mainGlobals "Stuck"=some (some (.ref e5)))
  (aS:nsIn K mainGlobals "StripError"=some (some (.ref S)))
  (zV:nsIn K mainGlobals "ValueError"=some none)
  (xi0:ExcIn K e0)
  (xi1:ExcIn K e1)
  (xi2:ExcIn K e2)
  (xi3:ExcIn K e3)
  (xi4:ExcIn K e4)
  (xi5:ExcIn K e5)
  (q00:kitOne K (.ref e0) (.ref e0)=some true)
  (q01:kitOne K (.ref e0) (.ref e1)=some false)
  (q02:kitOne K (.ref e0) (.ref e2)=some false)
  (q03:kitOne K (.ref e0) (.ref e3)=some false)
  (q04:kitOne K (.ref e0) (.ref e4)=some false)
  (q05:kitOne K (.ref e0) (.ref e5)=some false)
  (q10:kitOne K (.ref e1) (.ref e0)=some false)
  (q11:kitOne K (.ref e1) (.ref e1)=some true)
  (q12:kitOne K (.ref e1) (.ref e2)=some false)
  (q13:kitOne K (.ref e1) (.ref e3)=some false)
  (q14:kitOne K (.ref e1) (.ref e4)=some false)
  (q15:kitOne K (.ref e1) (.ref e5)=some false)
  (q20:kitOne K (.ref e2) (.ref e0)=some false)
  (q21:kitOne K (.ref e2) (.ref e1)=some false)
  (q22:kitOne K (.ref e2) (.ref e2)=some true)
  (q23:kitOne K (.ref e2) (.ref e3)=some false)
  (q24:kitOne K (.ref e2) (.ref e4)=some false)
  (q25:kitOne K (.ref e2) (.ref e5)=some false)
  (q30:kitOne K (.ref e3) (.ref e0)=some false)
  (q31:kitOne K (.ref e3) (.ref e1)=some false)
  (q32:kitOne K (.ref e3) (.ref e2)=some false)
  (q33:kitOne K (.ref e3) (.ref e3)=some true)
  (q34:kitOne K (.ref e3) (.ref e4)=some false)
  (q35:kitOne K (.ref e3) (.ref e5)=some false)
  (q40:kitOne K (.ref e4) (.ref e0)=some false)
  (q41:kitOne K (.ref e4) (.ref e1)=some false)
  (q42:kitOne K (.ref e4) (.ref e2)=some false)
  (q43:kitOne K (.ref e4) (.ref e3)=some false)
  (q44:kitOne K (.ref e4) (.ref e4)=some true)
  (q45:kitOne K (.ref e4) (.ref e5)=some false)
  (q50:kitOne K (.ref e5) (.ref e0)=some false)
  (q51:kitOne K (.ref e5) (.ref e1)=some false)
  (q52:kitOne K (.ref e5) (.ref e2)=some false)
  (q53:kitOne K (.ref e5) (.ref e3)=some false)
  (q54:kitOne K (.ref e5) (.ref e4)=some false)
  (q55:kitOne K (.ref e5) (.ref e5)=some true)
  (qv0:kitOne K (.ref e0) (.type "ValueError")=some true)
  (qv1:kitOne K (.ref e1) (.type "ValueError")=some true)
  (qv2:kitOne K (.ref e2) (.type "ValueError")=some true)
  (qv3:kitOne K (.ref e3) (.type "ValueError")=some true)
  (qv4:kitOne K (.ref e4) (.type "ValueError")=some true)
  (qv5:kitOne K (.ref e5) (.type "ValueError")=some true)
  (lcl0:K.lookup e0=some ⟨.type "type",dd0,.cls ⟨nm0,bs0,.ref e0::.ref S::bmV,ns0,qn0,hdt0,sn0,sub0,ab0,col0,false⟩,#[ks0_0,ks1_0,ks2_0,ks3_0,some (.builtin "ValueError.__new__"),ks5_0]⟩)
  (lcl1:K.lookup e1=some ⟨.type "type",dd1,.cls ⟨nm1,bs1,.ref e1::.ref S::bmV,ns1,qn1,true,sn1,sub1,ab1,col1,false⟩,#[ks0_1,ks1_1,ks2_1,ks3_1,some (.builtin "ValueError.__new__"),ks5_1]⟩)
  (lcl2:K.lookup e2=some ⟨.type "type",dd2,.cls ⟨nm2,bs2,.ref e2::.ref S::bmV,ns2,qn2,hdt2,sn2,sub2,ab2,col2,false⟩,#[ks0_2,ks1_2,ks2_2,ks3_2,some (.builtin "ValueError.__new__"),ks5_2]⟩)
  (lcl3:K.lookup e3=some ⟨.type "type",dd3,.cls ⟨nm3,bs3,.ref e3::.ref S::bmV,ns3,qn3,hdt3,sn3,sub3,ab3,col3,false⟩,#[ks0_3,ks1_3,ks2_3,ks3_3,some (.builtin "ValueError.__new__"),ks5_3]⟩)
  (lcl4:K.lookup e4=some ⟨.type "type",dd4,.cls ⟨nm4,bs4,.ref e4::.ref S::bmV,ns4,qn4,hdt4,sn4,sub4,ab4,col4,false⟩,#[ks0_4,ks1_4,ks2_4,ks3_4,some (.builtin "ValueError.__new__"),ks5_4]⟩)
  (lcl5:K.lookup e5=some ⟨.type "type",dd5,.cls ⟨nm5,bs5,.ref e5::.ref S::bmV,ns5,qn5,hdt5,sn5,sub5,ab5,col5,false⟩,#[ks0_5,ks1_5,ks2_5,ks3_5,some (.builtin "ValueError.__new__"),ks5_5]⟩)
  (lclS:K.lookup S=some ⟨.type "type",ddS,.cls ⟨nmS,bsS,.ref S::bmV,nsS,qnS,hdtS,snS,subS,abS,colS,false⟩,#[ks0_S,ks1_S,ks2_S,ks3_S,some (.builtin newS),ks5_S]⟩)
  (ln0:K.lookup ns0=some ⟨noc0,nod0,.dict (List.toArray nes0) nnn0,nsl0⟩)
  (lk0:nes0.all Sf.strKey=true)
  (li0:nsIn K ns0 "__init__"=some none)
  (ln1:K.lookup ns1=some ⟨noc1,nod1,.dict (List.toArray nes1) nnn1,nsl1⟩)
  (lk1:nes1.all Sf.strKey=true)
  (li1:nsIn K ns1 "__init__"=some (some (.ref gI)))
  (ln2:K.lookup ns2=some ⟨noc2,nod2,.dict (List.toArray nes2) nnn2,nsl2⟩)
  (lk2:nes2.all Sf.strKey=true)
  (li2:nsIn K ns2 "__init__"=some none)
  (ln3:K.lookup ns3=some ⟨noc3,nod3,.dict (List.toArray nes3) nnn3,nsl3⟩)
  (lk3:nes3.all Sf.strKey=true)
  (li3:nsIn K ns3 "__init__"=some none)
  (ln4:K.lookup ns4=some ⟨noc4,nod4,.dict (List.toArray nes4) nnn4,nsl4⟩)
  (lk4:nes4.all Sf.strKey=true)
  (li4:nsIn K ns4 "__init__"=some none)
  (lnS:K.lookup nsS=some ⟨nocS,nodS,.dict (List.toArray nesS) nnnS,nslS⟩)
  (lkS:nesS.all Sf.strKey=true)
  (liS:nsIn K nsS "__init__"=some none)
  (xl:K.lookup gI=some ⟨xoc,xod,.func (fnOf "__init__" "Crossing.__init__" (defArgs sXInit) (defBody sXInit) (defScope sXInit) .none xkV xdc xpm xan xcd xct),xsl⟩)
  (xcc:codeIn K xcd "Crossing.__init__"=true)
  (xkp:keepIn K (.ref gI)=true)
  (xfi:isFn K (.ref gI)=true)
  (sga:specialIn K (.ref S) "__getattribute__"=some (some (.builtin "type.__getattribute__")))
  (srd:readsIn K S (.type "type")=true)
  (sfd:findCls K (.ref S) (.type "type") "__init__"=some (.val (.builtin "ValueError.__init__")))
  (sa1:findIn K (.ref e1) "__setattr__"=some (some (.builtin "object.__setattr__")))
  (n_one:findIn K (.ref e1) "one"=some none)
  (n_oth:findIn K (.ref e1) "other"=some none)
  (kc1:keepIn K (.ref e1)=true)
  (hd1:hasDictIn K e1=true)
  (htb:tabIn K (Str.ofString "widest_like")=some (cT,Tb))
  (z1:nsIn K mainGlobals "len"=some none) (z2:nsIn K mainGlobals "sorted"=some none) (z3:nsIn K mainGlobals "list"=some none) (z4:nsIn K mainGlobals "range"=some none) (z5:nsIn K mainGlobals "enumerate"=some none) (z6:nsIn K mainGlobals "isinstance"=some none) (z7:nsIn K mainGlobals "int"=some none) (z8:nsIn K mainGlobals "str"=some none) (z9:nsIn K mainGlobals "min"=some none) (z10:nsIn K mainGlobals "max"=some none) (z11:nsIn K mainGlobals "set"=some none) (z12:nsIn K mainGlobals "any"=some none) (z13:nsIn K mainGlobals "all"=some none) (z14:nsIn K mainGlobals "zip"=some none) (z15:nsIn K mainGlobals "abs"=some none) :
  ∃ fd:FuncData,(∀ (s:Shared) (v:Value),BindsTo s fd ⟨[v],[]⟩ [("_law_script",v)])∧∀ base:Heap,K.In base→base.Ns mainGlobals mg→CodeHd base cT Tb→Bm mg base→FnOk l.prog w K mg base CX0 24 fa fd ["_law_script"] (spLaw K Tb):=by
 have e:=hfa.symm.trans (mg_of X G a48)
 cases e
 have T:Own mg:=⟨mg_none_of X G z1,mg_none_of X G z2,mg_none_of X G z3,mg_none_of X G z4,mg_none_of X G z5,mg_none_of X G z6,mg_none_of X G z7,mg_none_of X G z8⟩
 have M:OwnM mg:=⟨mg_none_of X G z9,mg_none_of X G z10⟩
 have Z2:OwnZ mg:=⟨mg_none_of X G z11,mg_none_of X G z12,mg_none_of X G z13,mg_none_of X G z14⟩
 have A0:OwnL mg:=⟨mg_none_of X G z15⟩
 have D1:=def_mk (st:=sCheck) (ps:=["pile"]) X G a1 l1 c1 k1 fun _ _ _ _ _ _=>len1 fun _=>rfl
 have D2:=def_mk (st:=sPlaces) (ps:=["pile"]) X G a2 l2 c2 k2 fun _ _ _ _ _ _=>len1 fun _=>rfl
 have D3:=def_mk (st:=sLetter) (ps:=["at","crease"]) X G a3 l3 c3 k3 fun _ _ _ _ _ _=>len2 fun _ _=>rfl
 have D4:=def_mk (st:=sLetters) (ps:=["pile"]) X G a4 l4 c4 k4 fun _ _ _ _ _ _=>len1 fun _=>rfl
 have D5:=turned_mk X G a5 l5 c5 k5 t5
 have D6:=def_mk (st:=sWraps) (ps:=["at","crease","stamp"]) X G a6 l6 c6 k6 fun _ _ _ _ _ _=>len3 fun _ _ _=>rfl
 have D7:=def_mk (st:=sCross) (ps:=["at","one","other"]) X G a7 l7 c7 k7 fun _ _ _ _ _ _=>len3 fun _ _ _=>rfl
 have D8:=def_mk (st:=sCrossing) (ps:=["pile"]) X G a8 l8 c8 k8 fun _ _ _ _ _ _=>len1 fun _=>rfl
 have D9:=def_mk (st:=s_foldable_places) (ps:=["pile"]) X G a9 l9 c9 k9 fun _ _ _ _ _ _=>len1 fun _=>rfl
 have D10:=def_mk (st:=s_check_row) (ps:=["row"]) X G a10 l10 c10 k10 fun _ _ _ _ _ _=>len1 fun _=>rfl
 have D11:=def_mk (st:=s_check_count) (ps:=["many"]) X G a11 l11 c11 k11 fun _ _ _ _ _ _=>len1 fun _=>rfl
 have D12:=def_mk (st:=s_pile_of) (ps:=["row"]) X G a12 l12 c12 k12 fun _ _ _ _ _ _=>len1 fun _=>rfl
 have D13:=def_mk (st:=s_laid_in) (ps:=["pile","stamp"]) X G a13 l13 c13 k13 fun _ _ _ _ _ _=>len2 fun _ _=>rfl
 have D14:=def_mk (st:=s_piles) (ps:=["many"]) X G a14 l14 c14 k14 fun _ _ _ _ _ _=>len1 fun _=>rfl
 have D15:=def_mk (st:=s_piles_with) (ps:=["row"]) X G a15 l15 c15 k15 fun _ _ _ _ _ _=>len1 fun _=>rfl
 have D16:=def_mk (st:=s_check_creases) (ps:=["stamps","creases"]) X G a16 l16 c16 k16 fun _ _ _ _ _ _=>len2 fun _ _=>rfl
 have D17:=def_mk (st:=s_ends_of_parts) (ps:=["stamps","opened"]) X G a17 l17 c17 k17 fun _ _ _ _ _ _=>len2 fun _ _=>rfl
 have D18:=def_mk (st:=s_creases_like) (ps:=["side","first","last"]) X G a18 l18 c18 k18 fun _ _ _ _ _ _=>len3 fun _ _ _=>rfl
 have D19:=def_mk (st:=s_wrapped_within) (ps:=["at","stamp","side","ends"]) X G a19 l19 c19 k19 fun _ _ _ _ _ _=>len4 fun _ _ _ _=>rfl
 have D20:=def_mk (st:=s_inner_parts_odd) (ps:=["parts"]) X G a20 l20 c20 k20 fun _ _ _ _ _ _=>len1 fun _=>rfl
 have D21:=def_mk (st:=s_lies_free) (ps:=["at","opened"]) X G a21 l21 c21 k21 fun _ _ _ _ _ _=>len2 fun _ _=>rfl
 have D22:=def_mk (st:=s_free) (ps:=["pile","creases"]) X G a22 l22 c22 k22 fun _ _ _ _ _ _=>len2 fun _ _=>rfl
 have D23:=def_mk (st:=s_widest_like) (ps:=["at","side","first","last"]) X G a23 l23 c23 k23 fun _ _ _ _ _ _=>len4 fun _ _ _ _=>rfl
 have D24:=def_mk (st:=s_step_within) (ps:=["at","first","last"]) X G a24 l24 c24 k24 fun _ _ _ _ _ _=>len3 fun _ _ _=>rfl
 have D25:=def_mk (st:=s_opening) (ps:=["pile"]) X G a25 l25 c25 k25 fun _ _ _ _ _ _=>len1 fun _=>rfl
 have D26:=def_mk (st:=sDrawn) (ps:=["_law_script","_law_k"]) X G a26 l26 c26 k26 fun _ _ _ _ _ _=>len2 fun _ _=>rfl
 have D27:=def_mk (st:=sNumber) (ps:=["_law_script","_law_k"]) X G a27 l27 c27 k27 fun _ _ _ _ _ _=>len2 fun _ _=>rfl
 have D28:=def_mk (st:=sCounts) (ps:=["_law_thing"]) X G a28 l28 c28 k28 fun _ _ _ _ _ _=>len1 fun _=>rfl
 have D29:=def_mk (st:=sSize) (ps:=["_law_cell"]) X G a29 l29 c29 k29 fun _ _ _ _ _ _=>len1 fun _=>rfl
 have D30:=def_mk (st:=s_law_is_pile) (ps:=["_law_found"]) X G a30 l30 c30 k30 fun _ _ _ _ _ _=>len1 fun _=>rfl
 have D31:=def_mk (st:=sLPlaces) (ps:=["_law_pile_here"]) X G a31 l31 c31 k31 fun _ _ _ _ _ _=>len1 fun _=>rfl
 have D32:=def_mk (st:=sPile) (ps:=["_law_script","_law_start","_law_size_here"]) X G a32 l32 c32 k32 fun _ _ _ _ _ _=>len3 fun _ _ _=>rfl
 have D33:=def_mk (st:=sFits) (ps:=["_law_at","_law_stamp","_law_gap"]) X G a33 l33 c33 k33 fun _ _ _ _ _ _=>len3 fun _ _ _=>rfl
 have D34:=def_mk (st:=sGood) (ps:=["_law_script","_law_start","_law_size_here"]) X G a34 l34 c34 k34 fun _ _ _ _ _ _=>len3 fun _ _ _=>rfl
 have D35:=def_mk (st:=sLWraps) (ps:=["_law_at","_law_crease","_law_stamp"]) X G a35 l35 c35 k35 fun _ _ _ _ _ _=>len3 fun _ _ _=>rfl
 have D36:=def_mk (st:=sNone) (ps:=["_law_at"]) X G a36 l36 c36 k36 fun _ _ _ _ _ _=>len1 fun _=>rfl
 have D37:=def_mk (st:=s_law_spoiled) (ps:=["_law_pile_here","_law_number_here","_law_great"]) X G a37 l37 c37 k37 fun _ _ _ _ _ _=>len3 fun _ _ _=>rfl
 have D38:=def_mk (st:=s_law_creases) (ps:=["_law_size_here","_law_number_here","_law_great"]) X G a38 l38 c38 k38 fun _ _ _ _ _ _=>len3 fun _ _ _=>rfl
 have D39:=def_mk (st:=s_law_creases_good) (ps:=["_law_size_here","_law_creases_here"]) X G a39 l39 c39 k39 fun _ _ _ _ _ _=>len2 fun _ _=>rfl
 have D40:=def_mk (st:=s_law_asked) (ps:=["_law_way","_law_pile_here","_law_creases_here"]) X G a40 l40 c40 k40 fun _ _ _ _ _ _=>len3 fun _ _ _=>rfl
 have D41:=def_mk (st:=s_law_kinds) (ps:=["_law_e"]) X G a41 l41 c41 k41 fun _ _ _ _ _ _=>len1 fun _=>rfl
 have D42:=def_mk (st:=s_law_due_kinds) (ps:=["_law_which"]) X G a42 l42 c42 k42 fun _ _ _ _ _ _=>len1 fun _=>rfl
 have D43:=def_mk (st:=s_law_word) (ps:=["_law_way","_law_pile_here","_law_creases_here"]) X G a43 l43 c43 k43 fun _ _ _ _ _ _=>len3 fun _ _ _=>rfl
 have D44:=def_mk (st:=s_law_crossed) (ps:=["_law_pile_here","_law_creases_here","_law_way"]) X G a44 l44 c44 k44 fun _ _ _ _ _ _=>len3 fun _ _ _=>rfl
 have D45:=def_mk (st:=s_law_piles_asked) (ps:=["_law_script"]) X G a45 l45 c45 k45 fun _ _ _ _ _ _=>len1 fun _=>rfl
 have D46:=def_mk (st:=s_law_row) (ps:=["_law_script"]) X G a46 l46 c46 k46 fun _ _ _ _ _ _=>len1 fun _=>rfl
 have D47:=def_mk (st:=s_law_listed) (ps:=["_law_way","_law_thing"]) X G a47 l47 c47 k47 fun _ _ _ _ _ _=>len2 fun _ _=>rfl
 have D48:=def_mk (st:=sLaw) (ps:=["_law_script"]) X G a48 l48 c48 k48 fun _ _ _ _ _ _=>len1 fun _=>rfl
 have C_MOST_STAMPS:=mg_of X G cc_MOST_STAMPS
 have BC:BCl K C:=⟨⟨pg,hd,po,sa⟩,n_at,n_pile,n_opened⟩
 have MF0:=fun_mk (st:=sInit) ml0 mc0 mk0
 have MB0:=MF0.binds (ps:=["self","pile"]) fun _ _ _ _ _ _=>len2 fun _ _=>rfl
 have R:Errs K mg (cl6 e0 e1 e2 e3 e4 e5):=errs_mk (⟨mg_of X G ae0,mg_of X G ae1,mg_of X G ae2,mg_of X G ae3,mg_of X G ae4,mg_of X G ae5⟩) (mg_none_of X G zV) ⟨xi0,xi1,xi2,xi3,xi4,xi5⟩ ⟨q00,q01,q02,q03,q04,q05,q10,q11,q12,q13,q14,q15,q20,q21,q22,q23,q24,q25,q30,q31,q32,q33,q34,q35,q40,q41,q42,q43,q44,q45,q50,q51,q52,q53,q54,q55⟩ ⟨qv0,qv1,qv2,qv3,qv4,qv5⟩
 have FI:=fun_mk (st:=sXInit) xl xcc xkp
 have BI:=FI.binds (ps:=["self","one","other"]) fun _ _ _ _ _ _=>len3 fun _ _ _=>rfl
 have HC:=law_code X G htb (mg_of X G a23) (X _ _ l23) rfl
 refine⟨fnOf "law" "law" (defArgs sLaw) (defBody sLaw) (defScope sLaw) .none kV48 dc48 pm48 an48 cd48 ct48,fun s v=>.of_eq rfl,fun base KB GB0 CT BT0=>?_⟩
 have EB:ErrsB mg base (cl6 e0 e1 e2 e3 e4 e5) S:=errsB_lk (mg_of X G aS) (eshape_lk KB lclS) ⟨eshape_lk KB lcl0,eshape_lk KB lcl1,eshape_lk KB lcl2,eshape_lk KB lcl3,eshape_lk KB lcl4,eshape_lk KB lcl5⟩
 have X0:=excCls_lk KB lcl0 (nsOk_lk ln0 lk0) li0 lclS (nsOk_lk lnS lkS) liS
 have X2:=excCls_lk KB lcl2 (nsOk_lk ln2 lk2) li2 lclS (nsOk_lk lnS lkS) liS
 have X3:=excCls_lk KB lcl3 (nsOk_lk ln3 lk3) li3 lclS (nsOk_lk lnS lkS) liS
 have X4:=excCls_lk KB lcl4 (nsOk_lk ln4 lk4) li4 lclS (nsOk_lk lnS lkS) liS
 have X1:=excClsI_lk KB lcl1 (nsOk_lk ln1 lk1) li1 lclS (nsOk_lk lnS lkS) liS
 have XX:CrossX l.prog w K mg base e1:=⟨mg_of X G ae1,kc1,_,gI,_,X1,xfi,BI,ok_xinit FI (mg_of X G aS) ⟨sga,srd,sfd⟩ X1 ⟨⟨_,clsIn_lk lcl1,rfl,rfl⟩,sa1,xi1⟩ n_one n_oth⟩
 have XB:∃ bm,EShape base (cl6 e0 e1 e2 e3 e4 e5 1) bm∧bm.contains (.type "BaseException")=true:=xb_of X1
 have GFO:=ok_foldp (P:=l.prog) (w:=w) (base:=base) D9 D8 D2 D1 D7 D6 T M
 have GLI:=ok_lies (P:=l.prog) (w:=w) (base:=base) D21 D17 D20 D19 D18 D6 T M Z2
 have GST:=ok_stw (P:=l.prog) (w:=w) (base:=base) D24 D23 D18 HC CT BT0 T M A0
 have GOP:=ok_open (P:=l.prog) (w:=w) (base:=base) D25 D9 GFO D17 (ok_ends D17 T Z2) D24 GST T
 have GFN:=no_fold (P:=l.prog) (w:=w) (base:=base) D9 D8 D2 D1 D7 D6 T M (mg_of X G ae0) X0 XX
 have GLT:=ok_letters (P:=l.prog) (w:=w) (base:=base) D4 D2 D1 D3 T
 have GPS:=ok_piles (P:=l.prog) (w:=w) (base:=base) D14 D11 C_MOST_STAMPS D13 D8 D2 D1 D7 D6 T M
 have GPN:=no_piles (P:=l.prog) (w:=w) (base:=base) D14 D11 C_MOST_STAMPS (mg_of X G ae4) X4
 have GAS:=ok_asked (Tb:=Tb) (cl:=cl6 e0 e1 e2 e3 e4 e5) D40 T D2 ((FnOk.or (FnOk.calm (CX:=CX1 l.prog w) (ok_places (P:=l.prog) (w:=w) (base:=base) D2 D1 T)) (no_places D2 D1 T (mg_of X G ae0) X0)).mono (by decide)) D4 ((FnOk.or (FnOk.calm (CX:=CX1 l.prog w) (GLT)) (no_letters D4 D2 D1 T (mg_of X G ae0) X0)).mono (by decide)) D5 ((FnOk.or (FnOk.calm (CX:=CX1 l.prog w) (ok_turned (P:=l.prog) (w:=w) (base:=base) D5 D1 T)) (no_turned D5 D1 T (mg_of X G ae0) X0)).mono (by decide)) D8 ((FnOk.or (FnOk.calm (CX:=CX1 l.prog w) (ok_crossing (P:=l.prog) (w:=w) (base:=base) D8 D2 D1 D7 D6 T M)) (no_crossing D8 D2 D1 T (mg_of X G ae0) X0)).mono (by decide)) D22 ((FnOk.or (FnOk.calm (CX:=CX1 l.prog w) (ok_free D22 D9 GFO D16 D21 GLI T Z2)) (no_free D22 D9 GFO GFN D16 (no_creases D16 T Z2 (mg_of X G ae2) X2) T)).mono (by decide)) D25 ((FnOk.or (FnOk.calm (CX:=CX1 l.prog w) (GOP)) (no_open D25 D9 GFN)).mono (by decide)) (mg_of X G aC) ⟨mks,ma0,mi0,kc⟩ MB0 (FnOk.or (FnOk.calm (CX:=CX1 l.prog w) (ok_initA MF0 BC D9 GFO T)) (no_initB MF0 D9 GFN))
 have GWO:=ok_word (by decide) D43 T R EB D40 GAS D41
 have GCD:=ok_crossed (by decide) D44 T M R XB hd1 n_one n_oth D40 GAS D28 D31 D35
 have GGO:FnOk l.prog w K mg base CX0 5 _ _ _ (spGood K):=(ok_good D34 D27 D31 D33 T M).mono (by decide)
 have GPA:=ok_pa D45 T D26 D27 D29 D32 D34 GGO D37 D38 M D30 D42 D36 (ok_none D36 D35 T M) D31 D44 GCD D39 Z2 D43 GWO
 have GLS:=ok_listed (cl:=cl6 e0 e1 e2 e3 e4 e5) D47 T R EB D41 D12 ((FnOk.or (FnOk.calm (CX:=CX1 l.prog w) (ok_pileof (P:=l.prog) (w:=w) (base:=base) D12 D10 T)) (no_pileof D12 D10 T (mg_of X G ae3) X3)).mono (by decide)) D15 ((FnOk.or ((FnOk.calm (CX:=CX1 l.prog w) (ok_pileswith D15 D10 D14 GPS D4 GLT T)).mono (show 5≤6 by decide)) ((no_with D15 D10 D14 GPN T (mg_of X G ae3) X3).mono (show 3≤6 by decide)))) D14 (FnOk.or ((FnOk.calm (CX:=CX1 l.prog w) GPS).mono (show 4≤6 by decide)) (GPN.mono (show 2≤6 by decide)))
 exact ok_law D48 T D45 GPA D46 (ok_row9 D46 D27 T) D42 D47 GLS D26
theorem walk {l:OpenLaw}{q:Program}{loose:List Str}{XP:(Str→Option Value)→Heap→Prop}{YP:World→Heap→Prop}{d dT:DefRec}{K:Params→Frag}{cT Tb:Addr}(hn:l.most=some 63)(hdf:d.params.defaults=[])
  (hY:∀ (w:World) (h:Heap),YP w h→(K w.params).In h) (hrec:(PyProof.Rows.recsOf q).find? (fun e=>e.name == (Str.ofString "widest_like"))=some dT) (htab:∀ w:World,tabIn (K w.params) (Str.ofString "widest_like")=some (cT,Tb)) (hno:∀ w:World,noTabs (K w.params)=true)
  (F:∀ (w:World) (mg:Str→Option Value) (fa:Addr) (h:Heap),(K w.params).In h→h.Ns mainGlobals mg→mg d.name=some (.ref fa) →
   ∃ fd:FuncData,(∀ (s:Shared) (u:Value),BindsTo s fd ⟨[u],[]⟩ [("_law_script",u)])∧∀ base:Heap,(K w.params).In base→base.Ns mainGlobals mg→CodeHd base cT Tb→Bm mg base→FnOk l.prog w (K w.params) mg base CX0 24 fa fd ["_law_script"] (spLaw (K w.params) Tb)) :
  WalkO q loose XP YP l.row.toRowW d [] (fun f vs=>PySem.call f vs) :=
 L2.walk_ofT (n:=63) (k:=24) (x:="_law_script") (y:="widest_like") (CX:=fun _=>CX0) (sp:=fun w=>spLaw (K w.params) Tb) hn (by decide) hdf ⟨rfl,by decide,by decide⟩ hY hrec htab hno F (fun _ _ a ns hl _ hT hS=>⟨a,ns,rfl,hS,hl,.inl hT,fun _=>rfl⟩) fun _ _ _ _ _ z=>z
end Sf
namespace Tw
open PySem PySem.W PySem.W.Fast
noncomputable section
noncomputable def st (n : Nat) : Stmt := PySem.Challenge.pw_stripfold_k09_refused.main.body.getD n (.Pass ⟨0, 0, 0, 0⟩)
noncomputable def sm (n m : Nat) : Stmt := match st n with | .ClassDef (body := l) .. => l.getD m (.Pass ⟨0, 0, 0, 0⟩) | t => t
noncomputable def dA : Stmt → Arguments | .FunctionDef (args := a) .. => a | _ => default
noncomputable def dB : Stmt → List Stmt | .FunctionDef (body := b) .. => b | _ => []
noncomputable def dS : Stmt → Scope | .FunctionDef (scope := c) .. => c | _ => default
noncomputable abbrev vn : Value := .none
noncomputable abbrev vt : Value := .bool true
noncomputable abbrev i (n : Int) (t : Nat) : Value := .int n t
noncomputable abbrev j (n : Int) : Value := .int n 0
noncomputable abbrev s (x : Str) (t : Nat) : Value := .str x t
noncomputable abbrev r (a : Nat) : Value := .ref a
noncomputable abbrev S (x : Str) (t : Nat) : Option Value := some (.str x t)
noncomputable abbrev R (a : Nat) : Option Value := some (.ref a)
noncomputable abbrev y (n : String) : Value := .type n
noncomputable abbrev b (n : String) : Value := .builtin n
noncomputable abbrev D (l : Array Value) : Data := .fields l
noncomputable abbrev en (P : Params) (x : Str) (t : Nat) (v : Value) : DictEntry := ⟨PyData.keyHash P x, .str x t, v⟩
noncomputable abbrev oo (c : Value) (d : Data) : Obj := ⟨c, none, d, #[]⟩
noncomputable abbrev tu (l : List Value) : Obj := ⟨.type "tuple", none, .seq l.toArray 0, #[]⟩
noncomputable abbrev co (l : List Value) : Obj := ⟨.type "code", none, .fields l.toArray, #[]⟩
noncomputable abbrev C (n : Str) (a : Nat) (q : Str) (b c : Nat) (l m : Int) (f : Int) (x : Nat) (z : Bool) (e : Int) (p : Nat) (u v w : Value) (k h : Int) (g : Nat) : Obj := co [s n a, s q b, s "/claim/cut.py" c, j l, j m, j 0, j 0, j f, r x, .bool z, j e, r p, vn, u, v, w, j k, j h, s "/claim/cut.py" g]
noncomputable abbrev fd (n q : Str) (t : Stmt) (g : Nat) (c : List (Str × Nat)) (d k dc pm : Value) (an : Option Nat) (cd ct : Value) (bl : Nat) : Data := .func ⟨n, q, dA t, .stmts (dB t), dS t, g, c, d, k, dc, pm, an, cd, ct, bl⟩
noncomputable abbrev F (n q : Str) (t : Stmt) : Obj := oo vn (fd n q t 0 [] vn vn vn vn none vn vn 0)
noncomputable abbrev G (n q : Str) (t : Stmt) (d : Value) (m : Str) (k c : Nat) : Obj := oo (y "function") (fd n q t 3 [] d vn vn (s m k) none (r c) vn 0)
noncomputable abbrev K (o : Obj) : Params → Obj := fun _ => o
abbrev e165_1(P:Params):=en P "__name__" 165 (s "stripfold.errors" 194)
abbrev e166(P:Params):=en P "__doc__" 166 vn
abbrev e167(P:Params):=en P "__package__" 167 vn
abbrev e168(P:Params):=en P "__loader__" 168 (b "__main__.__loader__#opaque")
abbrev e169(P:Params):=en P "__spec__" 169 vn
abbrev e170(P:Params):=en P "__annotations__" 170 (r 6)
abbrev e171(P:Params):=en P "__builtins__" 171 (r 4)
abbrev e173(P:Params):=en P "__file__" 173 (s "/claim/cut.py" 172)
abbrev e174(P:Params):=en P "__cached__" 174 vn
abbrev e193(P:Params):=en P "_wall" 193 (r 21)
abbrev e213(P:Params):=en P "StripError" 213 (r 31)
abbrev e229(P:Params):=en P "NoPile" 229 (r 44)
abbrev e245(P:Params):=en P "NoCrease" 245 (r 56)
abbrev e261(P:Params):=en P "NoLetters" 261 (r 68)
abbrev e277(P:Params):=en P "NoCount" 277 (r 80)
abbrev e293(P:Params):=en P "Stuck" 293 (r 92)
abbrev e320(P:Params):=en P "Crossing" 320 (r 111)
abbrev e329(P:Params):=en P "check_pile" 329 (r 120)
abbrev e339(P:Params):=en P "places" 339 (r 127)
abbrev e348(P:Params):=en P "letter" 348 (r 134)
abbrev e354(P:Params):=en P "letters" 354 (r 139)
abbrev e364(P:Params):=en P "turned" 364 (r 147)
abbrev e377(P:Params):=en P "wraps" 377 (r 154)
abbrev e386(P:Params):=en P "cross" 386 (r 161)
abbrev e397(P:Params):=en P "crossing" 397 (r 168)
abbrev e405(P:Params):=en P "foldable_places" 405 (r 175)
abbrev e416(P:Params):=en P "check_creases" 416 (r 182)
abbrev e422(P:Params):=en P "ends_of_parts" 422 (r 187)
abbrev e428(P:Params):=en P "creases_like" 428 (r 192)
abbrev e434(P:Params):=en P "wrapped_within" 434 (r 197)
abbrev e440(P:Params):=en P "inner_parts_odd" 440 (r 202)
abbrev e452(P:Params):=en P "lies_free" 452 (r 209)
abbrev e461(P:Params):=en P "free" 461 (r 216)
abbrev e472(P:Params):=en P "widest_like" 472 (r 223)
abbrev e483(P:Params):=en P "step_within" 483 (r 230)
abbrev e497(P:Params):=en P "opening" 497 (r 237)
abbrev e573(P:Params):=en P "Bench" 573 (r 292)
abbrev e165_2(P:Params):=en P "__name__" 165 (s "law_stripfold_k09_refused" 621)
abbrev e577(P:Params):=en P "MOST_STAMPS" 577 (i 7 576)
abbrev e584(P:Params):=en P "check_row" 584 (r 303)
abbrev e591(P:Params):=en P "check_count" 591 (r 310)
abbrev e602(P:Params):=en P "pile_of" 602 (r 317)
abbrev e608(P:Params):=en P "laid_in" 608 (r 322)
abbrev e614(P:Params):=en P "piles" 614 (r 327)
abbrev e620(P:Params):=en P "piles_with" 620 (r 332)
abbrev e630(P:Params):=en P "_law_drawn" 630 (r 339)
abbrev e639(P:Params):=en P "_law_number" 639 (r 346)
abbrev e646(P:Params):=en P "_law_counts" 646 (r 353)
abbrev e653(P:Params):=en P "_law_size" 653 (r 360)
abbrev e662(P:Params):=en P "_law_is_pile" 662 (r 367)
abbrev e671(P:Params):=en P "_law_places" 671 (r 374)
def q43:=K (tu [])
def q44:=K (oo vn (D #[]))
def q45:=K (C "<module>" 182 "<module>" 183 184 1 0 0 11 false 181 12 vn vn vn 185 1 186)
def q46:=K (Obj.mk (y "frame") none Data.plain #[(R 13),(R 3),(R 3),none,(S "__main__" 164),none,(R 0)])
def q49:=fun P:Params=>oo (y "dict") (Data.dict #[(e165_1 P),(e166 P),(e167 P),(e168 P),(e169 P),(e170 P),(e171 P),(e173 P),(e174 P),(e193 P),(e213 P)] 11)
def q50:=K (oo vn (D #[(j 1),(j 0),(r 20),(j 5),(j 0),(r 27)]))
def q53:=K (tu [(s "k" 190)])
def q55:=K (F "_wall" "_wall" (st 0))
def q56:=K (C "_wall" 187 "_wall" 188 189 1 1 3 15 true 181 16 (r 17) (r 18) (r 19) 191 1 192)
def q57:=K (G "_wall" "_wall" (st 0) vn "__main__" 164 20)
def q58:=K (tu [(y "ValueError")])
def q59:=K (oo (y "builtin_function_or_method") (D #[(b "type.__prepare__"),(y "type")]))
def q60:=fun P:Params=>oo (y "dict") (Data.dict #[(en P "__module__" 203 (s "stripfold.errors" 194)),(en P "__qualname__" 205 (s "StripError" 204)),(en P "__firstlineno__" 207 (i 5 206)),(en P "__static_attributes__" 208 (r 29))] 4)
def q63:=K (C "StripError" 198 "StripError" 199 200 5 0 0 25 false 181 26 vn vn vn 201 5 202)
def q64:=K (Obj.mk (y "frame") none Data.plain #[(R 27),(R 3),(R 24),none,(S "stripfold.errors" 194),none,(R 0)])
def q66:=fun P:Params=>oo (y "dict") (Data.dict #[(en P "__module__" 203 (s "stripfold.errors" 194)),(en P "__firstlineno__" 207 (i 5 206)),(en P "__static_attributes__" 208 (r 29)),(en P "__weakref__" 210 (r 32)),(en P "__doc__" 211 vn)] 3)
def q67:=K (Obj.mk (y "type") none (Data.cls (ClassData.mk "StripError" [(y "ValueError")] [(r 31),(y "ValueError"),(y "Exception"),(y "BaseException"),(y "object")] 30 "StripError" true [] [] false none false)) #[(R 22),none,(S "StripError" 196),(S "StripError" 204),(some (b "ValueError.__new__")),(some vt)])
def q68:=K (oo (y "getset_descriptor") (D #[(s "__weakref__" 209),(r 31),(b "ExceptionGroup.__weakref__"),vn]))
def q69:=K (oo (y "super") (D #[(r 31),(r 31),(r 31)]))
def q70:=K (oo (y "builtin_function_or_method") (D #[(b "object.__init_subclass__"),(r 31)]))
def q71:=fun P:Params=>oo (y "dict") (Data.dict #[(e165_1 P),(e166 P),(e167 P),(e168 P),(e169 P),(e170 P),(e171 P),(e173 P),(e174 P),(e193 P),(e213 P),(e229 P)] 12)
def q72:=K (oo vn (D #[(j 1),(j 0),(r 20),(j 5),(j 0),(r 27),(j 7),(j 0),(r 40)]))
def q73:=K (Obj.mk (y "type") none (Data.cls (ClassData.mk "StripError" [(y "ValueError")] [(r 31),(y "ValueError"),(y "Exception"),(y "BaseException"),(y "object")] 30 "StripError" true [] [(r 44)] false none false)) #[(R 22),none,(S "StripError" 196),(S "StripError" 204),(some (b "ValueError.__new__")),(some vt)])
def q74:=K (tu [(r 31)])
def q76:=fun P:Params=>oo (y "dict") (Data.dict #[(en P "__module__" 221 (s "stripfold.errors" 194)),(en P "__qualname__" 223 (s "NoPile" 222)),(en P "__firstlineno__" 225 (i 7 224)),(en P "__static_attributes__" 226 (r 42))] 4)
def q79:=K (C "NoPile" 216 "NoPile" 217 218 7 0 0 38 false 181 39 vn vn vn 219 7 220)
def q80:=K (Obj.mk (y "frame") none Data.plain #[(R 40),(R 3),(R 37),none,(S "stripfold.errors" 194),none,(R 0)])
def q82:=fun P:Params=>oo (y "dict") (Data.dict #[(en P "__module__" 221 (s "stripfold.errors" 194)),(en P "__firstlineno__" 225 (i 7 224)),(en P "__static_attributes__" 226 (r 42)),(en P "__doc__" 227 vn)] 2)
def q83:=K (Obj.mk (y "type") none (Data.cls (ClassData.mk "NoPile" [(r 31)] [(r 44),(r 31),(y "ValueError"),(y "Exception"),(y "BaseException"),(y "object")] 43 "NoPile" true [] [] false none false)) #[(R 35),none,(S "NoPile" 214),(S "NoPile" 222),(some (b "ValueError.__new__")),(some vt)])
def q84:=K (oo (y "super") (D #[(r 44),(r 44),(r 44)]))
def q85:=K (oo (y "builtin_function_or_method") (D #[(b "object.__init_subclass__"),(r 44)]))
def q86:=fun P:Params=>oo (y "dict") (Data.dict #[(e165_1 P),(e166 P),(e167 P),(e168 P),(e169 P),(e170 P),(e171 P),(e173 P),(e174 P),(e193 P),(e213 P),(e229 P),(e245 P)] 13)
def q87:=K (oo vn (D #[(j 1),(j 0),(r 20),(j 5),(j 0),(r 27),(j 7),(j 0),(r 40),(j 9),(j 0),(r 52)]))
def q88:=K (Obj.mk (y "type") none (Data.cls (ClassData.mk "StripError" [(y "ValueError")] [(r 31),(y "ValueError"),(y "Exception"),(y "BaseException"),(y "object")] 30 "StripError" true [] [(r 44),(r 56)] false none false)) #[(R 22),none,(S "StripError" 196),(S "StripError" 204),(some (b "ValueError.__new__")),(some vt)])
def q91:=fun P:Params=>oo (y "dict") (Data.dict #[(en P "__module__" 237 (s "stripfold.errors" 194)),(en P "__qualname__" 239 (s "NoCrease" 238)),(en P "__firstlineno__" 241 (i 9 240)),(en P "__static_attributes__" 242 (r 54))] 4)
def q94:=K (C "NoCrease" 232 "NoCrease" 233 234 9 0 0 50 false 181 51 vn vn vn 235 9 236)
def q95:=K (Obj.mk (y "frame") none Data.plain #[(R 52),(R 3),(R 49),none,(S "stripfold.errors" 194),none,(R 0)])
def q97:=fun P:Params=>oo (y "dict") (Data.dict #[(en P "__module__" 237 (s "stripfold.errors" 194)),(en P "__firstlineno__" 241 (i 9 240)),(en P "__static_attributes__" 242 (r 54)),(en P "__doc__" 243 vn)] 2)
def q98:=K (Obj.mk (y "type") none (Data.cls (ClassData.mk "NoCrease" [(r 31)] [(r 56),(r 31),(y "ValueError"),(y "Exception"),(y "BaseException"),(y "object")] 55 "NoCrease" true [] [] false none false)) #[(R 47),none,(S "NoCrease" 230),(S "NoCrease" 238),(some (b "ValueError.__new__")),(some vt)])
def q99:=K (oo (y "super") (D #[(r 56),(r 56),(r 56)]))
def q100:=K (oo (y "builtin_function_or_method") (D #[(b "object.__init_subclass__"),(r 56)]))
def q101:=fun P:Params=>oo (y "dict") (Data.dict #[(e165_1 P),(e166 P),(e167 P),(e168 P),(e169 P),(e170 P),(e171 P),(e173 P),(e174 P),(e193 P),(e213 P),(e229 P),(e245 P),(e261 P)] 14)
def q102:=K (oo vn (D #[(j 1),(j 0),(r 20),(j 5),(j 0),(r 27),(j 7),(j 0),(r 40),(j 9),(j 0),(r 52),(j 11),(j 0),(r 64)]))
def q103:=K (Obj.mk (y "type") none (Data.cls (ClassData.mk "StripError" [(y "ValueError")] [(r 31),(y "ValueError"),(y "Exception"),(y "BaseException"),(y "object")] 30 "StripError" true [] [(r 44),(r 56),(r 68)] false none false)) #[(R 22),none,(S "StripError" 196),(S "StripError" 204),(some (b "ValueError.__new__")),(some vt)])
def q106:=fun P:Params=>oo (y "dict") (Data.dict #[(en P "__module__" 253 (s "stripfold.errors" 194)),(en P "__qualname__" 255 (s "NoLetters" 254)),(en P "__firstlineno__" 257 (i 11 256)),(en P "__static_attributes__" 258 (r 66))] 4)
def q109:=K (C "NoLetters" 248 "NoLetters" 249 250 11 0 0 62 false 181 63 vn vn vn 251 11 252)
def q110:=K (Obj.mk (y "frame") none Data.plain #[(R 64),(R 3),(R 61),none,(S "stripfold.errors" 194),none,(R 0)])
def q112:=fun P:Params=>oo (y "dict") (Data.dict #[(en P "__module__" 253 (s "stripfold.errors" 194)),(en P "__firstlineno__" 257 (i 11 256)),(en P "__static_attributes__" 258 (r 66)),(en P "__doc__" 259 vn)] 2)
def q113:=K (Obj.mk (y "type") none (Data.cls (ClassData.mk "NoLetters" [(r 31)] [(r 68),(r 31),(y "ValueError"),(y "Exception"),(y "BaseException"),(y "object")] 67 "NoLetters" true [] [] false none false)) #[(R 59),none,(S "NoLetters" 246),(S "NoLetters" 254),(some (b "ValueError.__new__")),(some vt)])
def q114:=K (oo (y "super") (D #[(r 68),(r 68),(r 68)]))
def q115:=K (oo (y "builtin_function_or_method") (D #[(b "object.__init_subclass__"),(r 68)]))
def q116:=fun P:Params=>oo (y "dict") (Data.dict #[(e165_1 P),(e166 P),(e167 P),(e168 P),(e169 P),(e170 P),(e171 P),(e173 P),(e174 P),(e193 P),(e213 P),(e229 P),(e245 P),(e261 P),(e277 P)] 15)
def q117:=K (oo vn (D #[(j 1),(j 0),(r 20),(j 5),(j 0),(r 27),(j 7),(j 0),(r 40),(j 9),(j 0),(r 52),(j 11),(j 0),(r 64),(j 13),(j 0),(r 76)]))
def q118:=K (Obj.mk (y "type") none (Data.cls (ClassData.mk "StripError" [(y "ValueError")] [(r 31),(y "ValueError"),(y "Exception"),(y "BaseException"),(y "object")] 30 "StripError" true [] [(r 44),(r 56),(r 68),(r 80)] false none false)) #[(R 22),none,(S "StripError" 196),(S "StripError" 204),(some (b "ValueError.__new__")),(some vt)])
def q121:=fun P:Params=>oo (y "dict") (Data.dict #[(en P "__module__" 269 (s "stripfold.errors" 194)),(en P "__qualname__" 271 (s "NoCount" 270)),(en P "__firstlineno__" 273 (i 13 272)),(en P "__static_attributes__" 274 (r 78))] 4)
def q124:=K (C "NoCount" 264 "NoCount" 265 266 13 0 0 74 false 181 75 vn vn vn 267 13 268)
def q125:=K (Obj.mk (y "frame") none Data.plain #[(R 76),(R 3),(R 73),none,(S "stripfold.errors" 194),none,(R 0)])
def q127:=fun P:Params=>oo (y "dict") (Data.dict #[(en P "__module__" 269 (s "stripfold.errors" 194)),(en P "__firstlineno__" 273 (i 13 272)),(en P "__static_attributes__" 274 (r 78)),(en P "__doc__" 275 vn)] 2)
def q128:=K (Obj.mk (y "type") none (Data.cls (ClassData.mk "NoCount" [(r 31)] [(r 80),(r 31),(y "ValueError"),(y "Exception"),(y "BaseException"),(y "object")] 79 "NoCount" true [] [] false none false)) #[(R 71),none,(S "NoCount" 262),(S "NoCount" 270),(some (b "ValueError.__new__")),(some vt)])
def q129:=K (oo (y "super") (D #[(r 80),(r 80),(r 80)]))
def q130:=K (oo (y "builtin_function_or_method") (D #[(b "object.__init_subclass__"),(r 80)]))
def q131:=fun P:Params=>oo (y "dict") (Data.dict #[(e165_1 P),(e166 P),(e167 P),(e168 P),(e169 P),(e170 P),(e171 P),(e173 P),(e174 P),(e193 P),(e213 P),(e229 P),(e245 P),(e261 P),(e277 P),(e293 P)] 16)
def q132:=K (oo vn (D #[(j 1),(j 0),(r 20),(j 5),(j 0),(r 27),(j 7),(j 0),(r 40),(j 9),(j 0),(r 52),(j 11),(j 0),(r 64),(j 13),(j 0),(r 76),(j 15),(j 0),(r 88)]))
def q133:=K (Obj.mk (y "type") none (Data.cls (ClassData.mk "StripError" [(y "ValueError")] [(r 31),(y "ValueError"),(y "Exception"),(y "BaseException"),(y "object")] 30 "StripError" true [] [(r 44),(r 56),(r 68),(r 80),(r 92)] false none false)) #[(R 22),none,(S "StripError" 196),(S "StripError" 204),(some (b "ValueError.__new__")),(some vt)])
def q136:=fun P:Params=>oo (y "dict") (Data.dict #[(en P "__module__" 285 (s "stripfold.errors" 194)),(en P "__qualname__" 287 (s "Stuck" 286)),(en P "__firstlineno__" 289 (i 15 288)),(en P "__static_attributes__" 290 (r 90))] 4)
def q139:=K (C "Stuck" 280 "Stuck" 281 282 15 0 0 86 false 181 87 vn vn vn 283 15 284)
def q140:=K (Obj.mk (y "frame") none Data.plain #[(R 88),(R 3),(R 85),none,(S "stripfold.errors" 194),none,(R 0)])
def q142:=fun P:Params=>oo (y "dict") (Data.dict #[(en P "__module__" 285 (s "stripfold.errors" 194)),(en P "__firstlineno__" 289 (i 15 288)),(en P "__static_attributes__" 290 (r 90)),(en P "__doc__" 291 vn)] 2)
def q143:=K (Obj.mk (y "type") none (Data.cls (ClassData.mk "Stuck" [(r 31)] [(r 92),(r 31),(y "ValueError"),(y "Exception"),(y "BaseException"),(y "object")] 91 "Stuck" true [] [] false none false)) #[(R 83),none,(S "Stuck" 278),(S "Stuck" 286),(some (b "ValueError.__new__")),(some vt)])
def q144:=K (oo (y "super") (D #[(r 92),(r 92),(r 92)]))
def q145:=K (oo (y "builtin_function_or_method") (D #[(b "object.__init_subclass__"),(r 92)]))
def q146:=fun P:Params=>oo (y "dict") (Data.dict #[(en P "__name__" 165 (s "stripfold.piles" 321)),(e166 P),(e167 P),(e168 P),(e169 P),(e170 P),(e171 P),(e173 P),(e174 P),(e193 P),(e213 P),(e229 P),(e245 P),(e261 P),(e277 P),(e293 P),(e320 P),(e329 P),(e339 P),(e348 P),(e354 P)] 21)
def q147:=K (oo vn (D #[(j 1),(j 0),(r 20),(j 5),(j 0),(r 27),(j 7),(j 0),(r 40),(j 9),(j 0),(r 52),(j 11),(j 0),(r 64),(j 13),(j 0),(r 76),(j 15),(j 0),(r 88),(j 17),(j 0),(r 100),(j 24),(j 0),(r 119),(j 27),(j 0),(r 126),(j 33),(j 0),(r 133),(j 36),(j 0),(r 138)]))
def q148:=K (Obj.mk (y "type") none (Data.cls (ClassData.mk "StripError" [(y "ValueError")] [(r 31),(y "ValueError"),(y "Exception"),(y "BaseException"),(y "object")] 30 "StripError" true [] [(r 44),(r 56),(r 68),(r 80),(r 92),(r 111)] false none false)) #[(R 22),none,(S "StripError" 196),(S "StripError" 204),(some (b "ValueError.__new__")),(some vt)])
def q151:=fun P:Params=>oo (y "dict") (Data.dict #[(en P "__module__" 301 (s "stripfold.errors" 194)),(en P "__qualname__" 303 (s "Crossing" 302)),(en P "__firstlineno__" 305 (i 17 304)),(en P "__init__" 314 (r 108)),(en P "__static_attributes__" 317 (r 109))] 5)
def q153:=K (oo vn (D #[(j 19),(j 4),(r 107)]))
def q154:=K (C "Crossing" 296 "Crossing" 297 298 17 0 0 98 false 181 99 vn vn vn 299 17 300)
def q155:=K (Obj.mk (y "frame") none Data.plain #[(R 100),(R 3),(R 97),none,(S "stripfold.errors" 194),none,(R 0)])
def q158:=K (tu [(s "self" 309),(s "one" 310),(s "other" 311)])
def q160:=K (F "__init__" "Crossing.__init__" (sm 8 0))
def q161:=K (C "__init__" 306 "Crossing.__init__" 307 308 19 3 3 102 true 181 103 (r 104) (r 105) (r 106) 312 19 313)
def q162:=K (G "__init__" "Crossing.__init__" (sm 8 0) vn "stripfold.errors" 194 107)
def q163:=K (tu [(s "one" 315),(s "other" 316)])
def q164:=fun P:Params=>oo (y "dict") (Data.dict #[(en P "__module__" 301 (s "stripfold.errors" 194)),(en P "__firstlineno__" 305 (i 17 304)),(en P "__init__" 314 (r 108)),(en P "__static_attributes__" 317 (r 109)),(en P "__doc__" 318 vn)] 2)
def q165:=K (Obj.mk (y "type") none (Data.cls (ClassData.mk "Crossing" [(r 31)] [(r 111),(r 31),(y "ValueError"),(y "Exception"),(y "BaseException"),(y "object")] 110 "Crossing" true [] [] false none false)) #[(R 95),none,(S "Crossing" 294),(S "Crossing" 302),(some (b "ValueError.__new__")),(some vt)])
def q166:=K (oo (y "super") (D #[(r 111),(r 111),(r 111)]))
def q167:=K (oo (y "builtin_function_or_method") (D #[(b "object.__init_subclass__"),(r 111)]))
def q170:=K (tu [(s "pile" 326)])
def q172:=K (F "check_pile" "check_pile" (st 10))
def q173:=K (C "check_pile" 323 "check_pile" 324 325 24 1 3 114 true 181 115 (r 116) (r 117) (r 118) 327 24 328)
def q174:=K (G "check_pile" "check_pile" (st 10) vn "stripfold.piles" 321 119)
def q177:=K (tu [(s "pile" 333),(s "found" 334),(s "place" 335),(s "stamp" 336)])
def q179:=K (F "places" "places" (st 11))
def q180:=K (C "places" 330 "places" 331 332 27 1 3 121 true 181 122 (r 123) (r 124) (r 125) 337 27 338)
def q181:=K (G "places" "places" (st 11) vn "stripfold.piles" 321 126)
def q184:=K (tu [(s "at" 343),(s "crease" 344),(s "rises" 345)])
def q186:=K (F "letter" "letter" (st 12))
def q187:=K (C "letter" 340 "letter" 341 342 33 2 3 128 true 181 129 (r 130) (r 131) (r 132) 346 33 347)
def q188:=K (G "letter" "letter" (st 12) vn "stripfold.piles" 321 133)
def q191:=K (F "letters" "letters" (st 13))
def q192:=K (C "letters" 349 "letters" 350 351 36 1 3 135 true 181 136 vn vn (r 137) 352 36 353)
def q193:=K (G "letters" "letters" (st 13) vn "stripfold.piles" 321 138)
def q194:=fun P:Params=>oo (y "dict") (Data.dict #[(en P "__name__" 165 (s "stripfold.opening" 406)),(e166 P),(e167 P),(e168 P),(e169 P),(e170 P),(e171 P),(e173 P),(e174 P),(e193 P),(e213 P),(e229 P),(e245 P),(e261 P),(e277 P),(e293 P),(e320 P),(e329 P),(e339 P),(e348 P),(e354 P),(e364 P),(e377 P),(e386 P),(e397 P),(e405 P),(e416 P),(e422 P),(e428 P),(e434 P),(e440 P),(e452 P),(e461 P)] 33)
def q195:=K (oo vn (D #[(j 1),(j 0),(r 20),(j 5),(j 0),(r 27),(j 7),(j 0),(r 40),(j 9),(j 0),(r 52),(j 11),(j 0),(r 64),(j 13),(j 0),(r 76),(j 15),(j 0),(r 88),(j 17),(j 0),(r 100),(j 24),(j 0),(r 119),(j 27),(j 0),(r 126),(j 33),(j 0),(r 133),(j 36),(j 0),(r 138),(j 39),(j 0),(r 146),(j 44),(j 0),(r 153),(j 48),(j 0),(r 160),(j 50),(j 0),(r 167),(j 58),(j 0),(r 174),(j 64),(j 0),(r 181),(j 70),(j 0),(r 186),(j 74),(j 0),(r 191),(j 76),(j 0),(r 196),(j 78),(j 0),(r 201),(j 80),(j 0),(r 208),(j 88),(j 0),(r 215)]))
def q196:=K (tu [(i 1 355)])
def q199:=K (tu [(s "pile" 359),(s "by" 360),(s "shift" 361)])
def q201:=K (F "turned" "turned" (st 14))
def q202:=K (C "turned" 356 "turned" 357 358 39 2 3 141 true 181 142 (r 143) (r 144) (r 145) 362 39 363)
def q203:=K (G "turned" "turned" (st 14) (r 140) "stripfold.piles" 321 146)
def q206:=K (tu [(s "at" 370),(s "crease" 371),(s "stamp" 372),(s "low" 373),(s "high" 374)])
def q208:=K (F "wraps" "wraps" (st 16))
def q209:=K (C "wraps" 367 "wraps" 368 369 44 3 3 148 true 181 149 (r 150) (r 151) (r 152) 375 44 376)
def q210:=K (G "wraps" "wraps" (st 16) vn "stripfold.judge" 365 153)
def q213:=K (tu [(s "at" 381),(s "one" 382),(s "other" 383)])
def q215:=K (F "cross" "cross" (st 17))
def q216:=K (C "cross" 378 "cross" 379 380 48 3 3 155 true 181 156 (r 157) (r 158) (r 159) 384 48 385)
def q217:=K (G "cross" "cross" (st 17) vn "stripfold.judge" 365 160)
def q220:=K (tu [(s "pile" 390),(s "at" 391),(s "creases" 392),(s "one" 393),(s "other" 394)])
def q222:=K (F "crossing" "crossing" (st 18))
def q223:=K (C "crossing" 387 "crossing" 388 389 50 1 3 162 true 181 163 (r 164) (r 165) (r 166) 395 50 396)
def q224:=K (G "crossing" "crossing" (st 18) vn "stripfold.judge" 365 167)
def q227:=K (tu [(s "pile" 401),(s "pair" 402)])
def q229:=K (F "foldable_places" "foldable_places" (st 19))
def q230:=K (C "foldable_places" 398 "foldable_places" 399 400 58 1 3 169 true 181 170 (r 171) (r 172) (r 173) 403 58 404)
def q231:=K (G "foldable_places" "foldable_places" (st 19) vn "stripfold.judge" 365 174)
def q234:=K (tu [(s "stamps" 411),(s "creases" 412),(s "crease" 413)])
def q236:=K (F "check_creases" "check_creases" (st 21))
def q237:=K (C "check_creases" 408 "check_creases" 409 410 64 2 3 176 true 181 177 (r 178) (r 179) (r 180) 414 64 415)
def q238:=K (G "check_creases" "check_creases" (st 21) vn "stripfold.opening" 406 181)
def q241:=K (F "ends_of_parts" "ends_of_parts" (st 22))
def q242:=K (C "ends_of_parts" 417 "ends_of_parts" 418 419 70 2 3 183 true 181 184 vn vn (r 185) 420 70 421)
def q243:=K (G "ends_of_parts" "ends_of_parts" (st 22) vn "stripfold.opening" 406 186)
def q246:=K (F "creases_like" "creases_like" (st 23))
def q247:=K (C "creases_like" 423 "creases_like" 424 425 74 3 3 188 true 181 189 vn vn (r 190) 426 74 427)
def q248:=K (G "creases_like" "creases_like" (st 23) vn "stripfold.opening" 406 191)
def q251:=K (F "wrapped_within" "wrapped_within" (st 24))
def q252:=K (C "wrapped_within" 429 "wrapped_within" 430 431 76 4 3 193 true 181 194 vn vn (r 195) 432 76 433)
def q253:=K (G "wrapped_within" "wrapped_within" (st 24) vn "stripfold.opening" 406 196)
def q256:=K (F "inner_parts_odd" "inner_parts_odd" (st 25))
def q257:=K (C "inner_parts_odd" 435 "inner_parts_odd" 436 437 78 1 3 198 true 181 199 vn vn (r 200) 438 78 439)
def q258:=K (G "inner_parts_odd" "inner_parts_odd" (st 25) vn "stripfold.opening" 406 201)
def q261:=K (tu [(s "at" 444),(s "opened" 445),(s "parts" 446),(s "crease" 447),(s "before" 448),(s "behind" 449)])
def q263:=K (F "lies_free" "lies_free" (st 26))
def q264:=K (C "lies_free" 441 "lies_free" 442 443 80 2 3 203 true 181 204 (r 205) (r 206) (r 207) 450 80 451)
def q265:=K (G "lies_free" "lies_free" (st 26) vn "stripfold.opening" 406 208)
def q268:=K (tu [(s "pile" 456),(s "creases" 457),(s "at" 458)])
def q270:=K (F "free" "free" (st 27))
def q271:=K (C "free" 453 "free" 454 455 88 2 3 210 true 181 211 (r 212) (r 213) (r 214) 459 88 460)
def q272:=K (G "free" "free" (st 27) vn "stripfold.opening" 406 215)
def q273:=fun P:Params=>oo (y "dict") (Data.dict #[(en P "__name__" 165 (s "stripfold.bench" 498)),(e166 P),(e167 P),(e168 P),(e169 P),(e170 P),(e171 P),(e173 P),(e174 P),(e193 P),(e213 P),(e229 P),(e245 P),(e261 P),(e277 P),(e293 P),(e320 P),(e329 P),(e339 P),(e348 P),(e354 P),(e364 P),(e377 P),(e386 P),(e397 P),(e405 P),(e416 P),(e422 P),(e428 P),(e434 P),(e440 P),(e452 P),(e461 P),(e472 P),(e483 P),(e497 P)] 36)
def q274:=K (oo vn (D #[(j 1),(j 0),(r 20),(j 5),(j 0),(r 27),(j 7),(j 0),(r 40),(j 9),(j 0),(r 52),(j 11),(j 0),(r 64),(j 13),(j 0),(r 76),(j 15),(j 0),(r 88),(j 17),(j 0),(r 100),(j 24),(j 0),(r 119),(j 27),(j 0),(r 126),(j 33),(j 0),(r 133),(j 36),(j 0),(r 138),(j 39),(j 0),(r 146),(j 44),(j 0),(r 153),(j 48),(j 0),(r 160),(j 50),(j 0),(r 167),(j 58),(j 0),(r 174),(j 64),(j 0),(r 181),(j 70),(j 0),(r 186),(j 74),(j 0),(r 191),(j 76),(j 0),(r 196),(j 78),(j 0),(r 201),(j 80),(j 0),(r 208),(j 88),(j 0),(r 215),(j 92),(j 0),(r 222),(j 94),(j 0),(r 229),(j 102),(j 0),(r 236)]))
def q277:=K (tu [(s "at" 465),(s "side" 466),(s "first" 467),(s "last" 468)])
def q278:=K (tu [(s "at" 469)])
def q279:=K (F "widest_like" "widest_like" (st 28))
def q280:=K (C "widest_like" 462 "widest_like" 463 464 92 4 3 217 true 181 218 (r 219) (r 220) (r 221) 470 92 471)
def q281:=K (G "widest_like" "widest_like" (st 28) vn "stripfold.opening" 406 222)
def q284:=K (tu [(s "at" 476),(s "first" 477),(s "last" 478),(s "end" 479),(s "one" 480)])
def q286:=K (F "step_within" "step_within" (st 29))
def q287:=K (C "step_within" 473 "step_within" 474 475 94 3 3 224 true 181 225 (r 226) (r 227) (r 228) 481 94 482)
def q288:=K (G "step_within" "step_within" (st 29) vn "stripfold.opening" 406 229)
def q291:=K (tu [(s "pile" 487),(s "at" 488),(s "steps" 489),(s "opened" 490),(s "parts" 491),(s "first" 492),(s "last" 493),(s "step" 494)])
def q293:=K (F "opening" "opening" (st 30))
def q294:=K (C "opening" 484 "opening" 485 486 102 1 3 231 true 181 232 (r 233) (r 234) (r 235) 495 102 496)
def q295:=K (G "opening" "opening" (st 30) vn "stripfold.opening" 406 236)
def q296:=fun P:Params=>oo (y "dict") (Data.dict #[(en P "__name__" 165 (s "stripfold.bench" 498)),(e166 P),(e167 P),(e168 P),(e169 P),(e170 P),(e171 P),(e173 P),(e174 P),(e193 P),(e213 P),(e229 P),(e245 P),(e261 P),(e277 P),(e293 P),(e320 P),(e329 P),(e339 P),(e348 P),(e354 P),(e364 P),(e377 P),(e386 P),(e397 P),(e405 P),(e416 P),(e422 P),(e428 P),(e434 P),(e440 P),(e452 P),(e461 P),(e472 P),(e483 P),(e497 P),(e573 P)] 37)
def q297:=K (oo vn (D #[(j 1),(j 0),(r 20),(j 5),(j 0),(r 27),(j 7),(j 0),(r 40),(j 9),(j 0),(r 52),(j 11),(j 0),(r 64),(j 13),(j 0),(r 76),(j 15),(j 0),(r 88),(j 17),(j 0),(r 100),(j 24),(j 0),(r 119),(j 27),(j 0),(r 126),(j 33),(j 0),(r 133),(j 36),(j 0),(r 138),(j 39),(j 0),(r 146),(j 44),(j 0),(r 153),(j 48),(j 0),(r 160),(j 50),(j 0),(r 167),(j 58),(j 0),(r 174),(j 64),(j 0),(r 181),(j 70),(j 0),(r 186),(j 74),(j 0),(r 191),(j 76),(j 0),(r 196),(j 78),(j 0),(r 201),(j 80),(j 0),(r 208),(j 88),(j 0),(r 215),(j 92),(j 0),(r 222),(j 94),(j 0),(r 229),(j 102),(j 0),(r 236),(j 115),(j 0),(r 243)]))
def q300:=fun P:Params=>oo (y "dict") (Data.dict #[(en P "__module__" 507 (s "stripfold.bench" 498)),(en P "__qualname__" 509 (s "Bench" 508)),(en P "__firstlineno__" 511 (i 115 510)),(en P "__init__" 519 (r 251)),(en P "draw" 527 (r 258)),(en P "press" 535 (r 265)),(en P "settle" 543 (r 272)),(en P "loose" 550 (r 279)),(en P "parts" 556 (r 284)),(en P "part_between" 562 (r 289)),(en P "__static_attributes__" 566 (r 290))] 11)
def q302:=K (oo vn (D #[(j 117),(j 4),(r 250),(j 122),(j 4),(r 257),(j 125),(j 4),(r 264),(j 128),(j 4),(r 271),(j 131),(j 4),(r 278),(j 134),(j 4),(r 283),(j 137),(j 4),(r 288)]))
def q303:=K (C "Bench" 502 "Bench" 503 504 115 0 0 241 false 181 242 vn vn vn 505 115 506)
def q304:=K (Obj.mk (y "frame") none Data.plain #[(R 243),(R 3),(R 240),none,(S "stripfold.bench" 498),none,(R 0)])
def q307:=K (tu [(s "self" 515),(s "pile" 516)])
def q309:=K (F "__init__" "Bench.__init__" (sm 32 0))
def q310:=K (C "__init__" 512 "Bench.__init__" 513 514 117 2 3 245 true 181 246 (r 247) (r 248) (r 249) 517 117 518)
def q311:=K (G "__init__" "Bench.__init__" (sm 32 0) vn "stripfold.bench" 498 250)
def q314:=K (tu [(s "self" 523),(s "creases" 524)])
def q316:=K (F "draw" "Bench.draw" (sm 32 1))
def q317:=K (C "draw" 520 "Bench.draw" 521 522 122 2 3 252 true 181 253 (r 254) (r 255) (r 256) 525 122 526)
def q318:=K (G "draw" "Bench.draw" (sm 32 1) vn "stripfold.bench" 498 257)
def q321:=K (tu [(s "self" 531),(s "creases" 532)])
def q323:=K (F "press" "Bench.press" (sm 32 2))
def q324:=K (C "press" 528 "Bench.press" 529 530 125 2 3 259 true 181 260 (r 261) (r 262) (r 263) 533 125 534)
def q325:=K (G "press" "Bench.press" (sm 32 2) vn "stripfold.bench" 498 264)
def q328:=K (tu [(s "self" 539),(s "creases" 540)])
def q330:=K (F "settle" "Bench.settle" (sm 32 3))
def q331:=K (C "settle" 536 "Bench.settle" 537 538 128 2 3 266 true 181 267 (r 268) (r 269) (r 270) 541 128 542)
def q332:=K (G "settle" "Bench.settle" (sm 32 3) vn "stripfold.bench" 498 271)
def q335:=K (tu [(s "self" 547)])
def q337:=K (F "loose" "Bench.loose" (sm 32 4))
def q338:=K (C "loose" 544 "Bench.loose" 545 546 131 1 3 273 true 181 274 (r 275) (r 276) (r 277) 548 131 549)
def q339:=K (G "loose" "Bench.loose" (sm 32 4) vn "stripfold.bench" 498 278)
def q342:=K (F "parts" "Bench.parts" (sm 32 5))
def q343:=K (C "parts" 551 "Bench.parts" 552 553 134 1 3 280 true 181 281 vn vn (r 282) 554 134 555)
def q344:=K (G "parts" "Bench.parts" (sm 32 5) vn "stripfold.bench" 498 283)
def q347:=K (F "part_between" "Bench.part_between" (sm 32 6))
def q348:=K (C "part_between" 557 "Bench.part_between" 558 559 137 3 3 285 true 181 286 vn vn (r 287) 560 137 561)
def q349:=K (G "part_between" "Bench.part_between" (sm 32 6) vn "stripfold.bench" 498 288)
def q350:=K (tu [(s "at" 563),(s "opened" 564),(s "pile" 565)])
def q351:=fun P:Params=>oo (y "dict") (Data.dict #[(en P "__module__" 507 (s "stripfold.bench" 498)),(en P "__firstlineno__" 511 (i 115 510)),(en P "__init__" 519 (r 251)),(en P "draw" 527 (r 258)),(en P "press" 535 (r 265)),(en P "settle" 543 (r 272)),(en P "loose" 550 (r 279)),(en P "parts" 556 (r 284)),(en P "part_between" 562 (r 289)),(en P "__static_attributes__" 566 (r 290)),(en P "__dict__" 568 (r 293)),(en P "__weakref__" 570 (r 294)),(en P "__doc__" 571 vn)] 4)
def q352:=K (Obj.mk (y "type") none (Data.cls (ClassData.mk "Bench" [(y "object")] [(r 292),(y "object")] 291 "Bench" true [] [] false none false)) #[none,none,(S "Bench" 500),(S "Bench" 508),(some (b "object.__new__")),(some vt)])
def q353:=K (oo (y "getset_descriptor") (D #[(s "__dict__" 567),(r 292),(b "function.__dict__"),(b "function.__dict__#set")]))
def q354:=K (oo (y "getset_descriptor") (D #[(s "__weakref__" 569),(r 292),(b "ExceptionGroup.__weakref__"),vn]))
def q355:=K (oo (y "super") (D #[(r 292),(r 292),(r 292)]))
def q356:=K (oo (y "builtin_function_or_method") (D #[(b "object.__init_subclass__"),(r 292)]))
def q357:=fun P:Params=>oo (y "dict") (Data.dict #[(e165_2 P),(e166 P),(e167 P),(e168 P),(e169 P),(e170 P),(e171 P),(e173 P),(e174 P),(e193 P),(e213 P),(e229 P),(e245 P),(e261 P),(e277 P),(e293 P),(e320 P),(e329 P),(e339 P),(e348 P),(e354 P),(e364 P),(e377 P),(e386 P),(e397 P),(e405 P),(e416 P),(e422 P),(e428 P),(e434 P),(e440 P),(e452 P),(e461 P),(e472 P),(e483 P),(e497 P),(e573 P),(e577 P),(e584 P),(e591 P),(e602 P),(e608 P),(e614 P),(e620 P),(e630 P),(e639 P),(e646 P),(e653 P),(e662 P),(e671 P)] 50)
def q358:=K (oo vn (D #[(j 1),(j 0),(r 20),(j 5),(j 0),(r 27),(j 7),(j 0),(r 40),(j 9),(j 0),(r 52),(j 11),(j 0),(r 64),(j 13),(j 0),(r 76),(j 15),(j 0),(r 88),(j 17),(j 0),(r 100),(j 24),(j 0),(r 119),(j 27),(j 0),(r 126),(j 33),(j 0),(r 133),(j 36),(j 0),(r 138),(j 39),(j 0),(r 146),(j 44),(j 0),(r 153),(j 48),(j 0),(r 160),(j 50),(j 0),(r 167),(j 58),(j 0),(r 174),(j 64),(j 0),(r 181),(j 70),(j 0),(r 186),(j 74),(j 0),(r 191),(j 76),(j 0),(r 196),(j 78),(j 0),(r 201),(j 80),(j 0),(r 208),(j 88),(j 0),(r 215),(j 92),(j 0),(r 222),(j 94),(j 0),(r 229),(j 102),(j 0),(r 236),(j 115),(j 0),(r 243),(j 141),(j 0),(r 302),(j 144),(j 0),(r 309),(j 147),(j 0),(r 316),(j 157),(j 0),(r 321),(j 159),(j 0),(r 326),(j 168),(j 0),(r 331),(j 172),(j 0),(r 338),(j 174),(j 0),(r 345),(j 181),(j 0),(r 352),(j 183),(j 0),(r 359),(j 185),(j 0),(r 366),(j 192),(j 0),(r 373)]))
def q361:=K (tu [(s "row" 581)])
def q363:=K (F "check_row" "check_row" (st 35))
def q364:=K (C "check_row" 578 "check_row" 579 580 141 1 3 297 true 181 298 (r 299) (r 300) (r 301) 582 141 583)
def q365:=K (G "check_row" "check_row" (st 35) vn "stripfold.making" 574 302)
def q368:=K (tu [(s "many" 588)])
def q370:=K (F "check_count" "check_count" (st 36))
def q371:=K (C "check_count" 585 "check_count" 586 587 144 1 3 304 true 181 305 (r 306) (r 307) (r 308) 589 144 590)
def q372:=K (G "check_count" "check_count" (st 36) vn "stripfold.making" 574 309)
def q375:=K (tu [(s "row" 595),(s "pile" 596),(s "crease" 597),(s "sign" 598),(s "rises" 599)])
def q377:=K (F "pile_of" "pile_of" (st 37))
def q378:=K (C "pile_of" 592 "pile_of" 593 594 147 1 3 311 true 181 312 (r 313) (r 314) (r 315) 600 147 601)
def q379:=K (G "pile_of" "pile_of" (st 37) vn "stripfold.making" 574 316)
def q382:=K (F "laid_in" "laid_in" (st 38))
def q383:=K (C "laid_in" 603 "laid_in" 604 605 157 2 3 318 true 181 319 vn vn (r 320) 606 157 607)
def q384:=K (G "laid_in" "laid_in" (st 38) vn "stripfold.making" 574 321)
def q387:=K (F "piles" "piles" (st 39))
def q388:=K (C "piles" 609 "piles" 610 611 159 1 3 323 true 181 324 vn vn (r 325) 612 159 613)
def q389:=K (G "piles" "piles" (st 39) vn "stripfold.making" 574 326)
def q392:=K (F "piles_with" "piles_with" (st 40))
def q393:=K (C "piles_with" 615 "piles_with" 616 617 168 1 3 328 true 181 329 vn vn (r 330) 618 168 619)
def q394:=K (G "piles_with" "piles_with" (st 40) vn "stripfold.making" 574 331)
def q397:=K (tu [(s "_law_script" 626),(s "_law_k" 627)])
def q399:=K (F "_law_drawn" "_law_drawn" (st 42))
def q400:=K (C "_law_drawn" 623 "_law_drawn" 624 625 172 2 3 333 true 181 334 (r 335) (r 336) (r 337) 628 172 629)
def q401:=K (G "_law_drawn" "_law_drawn" (st 42) vn "law_stripfold_k09_refused" 621 338)
def q404:=K (tu [(s "_law_script" 634),(s "_law_k" 635),(s "_law_cell" 636)])
def q406:=K (F "_law_number" "_law_number" (st 43))
def q407:=K (C "_law_number" 631 "_law_number" 632 633 174 2 3 340 true 181 341 (r 342) (r 343) (r 344) 637 174 638)
def q408:=K (G "_law_number" "_law_number" (st 43) vn "law_stripfold_k09_refused" 621 345)
def q411:=K (tu [(s "_law_thing" 643)])
def q413:=K (F "_law_counts" "_law_counts" (st 44))
def q414:=K (C "_law_counts" 640 "_law_counts" 641 642 181 1 3 347 true 181 348 (r 349) (r 350) (r 351) 644 181 645)
def q415:=K (G "_law_counts" "_law_counts" (st 44) vn "law_stripfold_k09_refused" 621 352)
def q418:=K (tu [(s "_law_cell" 650)])
def q420:=K (F "_law_size" "_law_size" (st 45))
def q421:=K (C "_law_size" 647 "_law_size" 648 649 183 1 3 354 true 181 355 (r 356) (r 357) (r 358) 651 183 652)
def q422:=K (G "_law_size" "_law_size" (st 45) vn "law_stripfold_k09_refused" 621 359)
def q425:=K (tu [(s "_law_found" 657),(s "_law_seen" 658),(s "_law_stamp" 659)])
def q427:=K (F "_law_is_pile" "_law_is_pile" (st 46))
def q428:=K (C "_law_is_pile" 654 "_law_is_pile" 655 656 185 1 3 361 true 181 362 (r 363) (r 364) (r 365) 660 185 661)
def q429:=K (G "_law_is_pile" "_law_is_pile" (st 46) vn "law_stripfold_k09_refused" 621 366)
def q432:=K (tu [(s "_law_pile_here" 666),(s "_law_at" 667),(s "_law_k" 668)])
def q434:=K (F "_law_places" "_law_places" (st 47))
def q435:=K (C "_law_places" 663 "_law_places" 664 665 192 1 3 368 true 181 369 (r 370) (r 371) (r 372) 669 192 670)
def q436:=K (G "_law_places" "_law_places" (st 47) vn "law_stripfold_k09_refused" 621 373)
def q437:=fun P:Params=>oo (y "dict") (Data.dict #[(e165_2 P),(e166 P),(e167 P),(e168 P),(e169 P),(e170 P),(e171 P),(e173 P),(e174 P),(e193 P),(e213 P),(e229 P),(e245 P),(e261 P),(e277 P),(e293 P),(e320 P),(e329 P),(e339 P),(e348 P),(e354 P),(e364 P),(e377 P),(e386 P),(e397 P),(e405 P),(e416 P),(e422 P),(e428 P),(e434 P),(e440 P),(e452 P),(e461 P),(e472 P),(e483 P),(e497 P),(e573 P),(e577 P),(e584 P),(e591 P),(e602 P),(e608 P),(e614 P),(e620 P),(e630 P),(e639 P),(e646 P),(e653 P),(e662 P),(e671 P),(en P "_law_pile" 683 (r 381)),(en P "_law_fits" 695 (r 388)),(en P "_law_good" 709 (r 395)),(en P "_law_wraps" 720 (r 402)),(en P "_law_none_cross" 729 (r 409)),(en P "_law_spoiled" 740 (r 416)),(en P "_law_creases" 752 (r 423)),(en P "_law_creases_good" 758 (r 428)),(en P "_law_asked" 767 (r 435)),(en P "_law_kinds" 775 (r 442)),(en P "_law_due_kinds" 781 (r 447)),(en P "_law_word" 792 (r 454))] 62)
def q438:=K (oo vn (D #[(j 1),(j 0),(r 20),(j 5),(j 0),(r 27),(j 7),(j 0),(r 40),(j 9),(j 0),(r 52),(j 11),(j 0),(r 64),(j 13),(j 0),(r 76),(j 15),(j 0),(r 88),(j 17),(j 0),(r 100),(j 24),(j 0),(r 119),(j 27),(j 0),(r 126),(j 33),(j 0),(r 133),(j 36),(j 0),(r 138),(j 39),(j 0),(r 146),(j 44),(j 0),(r 153),(j 48),(j 0),(r 160),(j 50),(j 0),(r 167),(j 58),(j 0),(r 174),(j 64),(j 0),(r 181),(j 70),(j 0),(r 186),(j 74),(j 0),(r 191),(j 76),(j 0),(r 196),(j 78),(j 0),(r 201),(j 80),(j 0),(r 208),(j 88),(j 0),(r 215),(j 92),(j 0),(r 222),(j 94),(j 0),(r 229),(j 102),(j 0),(r 236),(j 115),(j 0),(r 243),(j 141),(j 0),(r 302),(j 144),(j 0),(r 309),(j 147),(j 0),(r 316),(j 157),(j 0),(r 321),(j 159),(j 0),(r 326),(j 168),(j 0),(r 331),(j 172),(j 0),(r 338),(j 174),(j 0),(r 345),(j 181),(j 0),(r 352),(j 183),(j 0),(r 359),(j 185),(j 0),(r 366),(j 192),(j 0),(r 373),(j 197),(j 0),(r 380),(j 203),(j 0),(r 387),(j 210),(j 0),(r 394),(j 220),(j 0),(r 401),(j 224),(j 0),(r 408),(j 230),(j 0),(r 415),(j 244),(j 0),(r 422),(j 259),(j 0),(r 427),(j 263),(j 0),(r 434),(j 278),(j 0),(r 441),(j 281),(j 0),(r 446),(j 283),(j 0),(r 453)]))
def q441:=K (tu [(s "_law_script" 675),(s "_law_start" 676),(s "_law_size_here" 677),(s "_law_pile_here" 678),(s "_law_stamp" 679),(s "_law_gap" 680)])
def q443:=K (F "_law_pile" "_law_pile" (st 48))
def q444:=K (C "_law_pile" 672 "_law_pile" 673 674 197 3 3 375 true 181 376 (r 377) (r 378) (r 379) 681 197 682)
def q445:=K (G "_law_pile" "_law_pile" (st 48) vn "law_stripfold_k09_refused" 621 380)
def q448:=K (tu [(s "_law_at" 687),(s "_law_stamp" 688),(s "_law_gap" 689),(s "_law_crease" 690),(s "_law_low" 691),(s "_law_high" 692)])
def q450:=K (F "_law_fits" "_law_fits" (st 49))
def q451:=K (C "_law_fits" 684 "_law_fits" 685 686 203 3 3 382 true 181 383 (r 384) (r 385) (r 386) 693 203 694)
def q452:=K (G "_law_fits" "_law_fits" (st 49) vn "law_stripfold_k09_refused" 621 387)
def q455:=K (tu [(s "_law_script" 699),(s "_law_start" 700),(s "_law_size_here" 701),(s "_law_pile_here" 702),(s "_law_stamp" 703),(s "_law_at" 704),(s "_law_number_here" 705),(s "_law_gap" 706)])
def q457:=K (F "_law_good" "_law_good" (st 50))
def q458:=K (C "_law_good" 696 "_law_good" 697 698 210 3 3 389 true 181 390 (r 391) (r 392) (r 393) 707 210 708)
def q459:=K (G "_law_good" "_law_good" (st 50) vn "law_stripfold_k09_refused" 621 394)
def q462:=K (tu [(s "_law_at" 713),(s "_law_crease" 714),(s "_law_stamp" 715),(s "_law_low" 716),(s "_law_high" 717)])
def q464:=K (F "_law_wraps" "_law_wraps" (st 51))
def q465:=K (C "_law_wraps" 710 "_law_wraps" 711 712 220 3 3 396 true 181 397 (r 398) (r 399) (r 400) 718 220 719)
def q466:=K (G "_law_wraps" "_law_wraps" (st 51) vn "law_stripfold_k09_refused" 621 401)
def q469:=K (tu [(s "_law_at" 724),(s "_law_one" 725),(s "_law_other" 726)])
def q471:=K (F "_law_none_cross" "_law_none_cross" (st 52))
def q472:=K (C "_law_none_cross" 721 "_law_none_cross" 722 723 224 1 3 403 true 181 404 (r 405) (r 406) (r 407) 727 224 728)
def q473:=K (G "_law_none_cross" "_law_none_cross" (st 52) vn "law_stripfold_k09_refused" 621 408)
def q476:=K (tu [(s "_law_pile_here" 733),(s "_law_number_here" 734),(s "_law_great" 735),(s "_law_here" 736),(s "_law_there" 737)])
def q478:=K (F "_law_spoiled" "_law_spoiled" (st 53))
def q479:=K (C "_law_spoiled" 730 "_law_spoiled" 731 732 230 3 3 410 true 181 411 (r 412) (r 413) (r 414) 738 230 739)
def q480:=K (G "_law_spoiled" "_law_spoiled" (st 53) vn "law_stripfold_k09_refused" 621 415)
def q483:=K (tu [(s "_law_size_here" 744),(s "_law_number_here" 745),(s "_law_great" 746),(s "_law_many" 747),(s "_law_one" 748),(s "_law_other" 749)])
def q485:=K (F "_law_creases" "_law_creases" (st 54))
def q486:=K (C "_law_creases" 741 "_law_creases" 742 743 244 3 3 417 true 181 418 (r 419) (r 420) (r 421) 750 244 751)
def q487:=K (G "_law_creases" "_law_creases" (st 54) vn "law_stripfold_k09_refused" 621 422)
def q490:=K (F "_law_creases_good" "_law_creases_good" (st 55))
def q491:=K (C "_law_creases_good" 753 "_law_creases_good" 754 755 259 2 3 424 true 181 425 vn vn (r 426) 756 259 757)
def q492:=K (G "_law_creases_good" "_law_creases_good" (st 55) vn "law_stripfold_k09_refused" 621 427)
def q495:=K (tu [(s "_law_way" 762),(s "_law_pile_here" 763),(s "_law_creases_here" 764)])
def q497:=K (F "_law_asked" "_law_asked" (st 56))
def q498:=K (C "_law_asked" 759 "_law_asked" 760 761 263 3 3 429 true 181 430 (r 431) (r 432) (r 433) 765 263 766)
def q499:=K (G "_law_asked" "_law_asked" (st 56) vn "law_stripfold_k09_refused" 621 434)
def q502:=K (tu [(s "_law_e" 771),(s "_law_told" 772)])
def q504:=K (F "_law_kinds" "_law_kinds" (st 57))
def q505:=K (C "_law_kinds" 768 "_law_kinds" 769 770 278 1 3 436 true 181 437 (r 438) (r 439) (r 440) 773 278 774)
def q506:=K (G "_law_kinds" "_law_kinds" (st 57) vn "law_stripfold_k09_refused" 621 441)
def q509:=K (F "_law_due_kinds" "_law_due_kinds" (st 58))
def q510:=K (C "_law_due_kinds" 776 "_law_due_kinds" 777 778 281 1 3 443 true 181 444 vn vn (r 445) 779 281 780)
def q511:=K (G "_law_due_kinds" "_law_due_kinds" (st 58) vn "law_stripfold_k09_refused" 621 446)
def q514:=K (tu [(s "_law_way" 785),(s "_law_pile_here" 786),(s "_law_creases_here" 787),(s "_law_told" 788),(s "_law_e" 789)])
def q516:=K (F "_law_word" "_law_word" (st 59))
def q517:=K (C "_law_word" 782 "_law_word" 783 784 283 3 3 448 true 181 449 (r 450) (r 451) (r 452) 790 283 791)
def q518:=K (G "_law_word" "_law_word" (st 59) vn "law_stripfold_k09_refused" 621 453)
def q519:=fun P:Params=>oo (y "dict") (Data.dict #[(e165_2 P),(e166 P),(e167 P),(e168 P),(e169 P),(e170 P),(e171 P),(e173 P),(e174 P),(e193 P),(e213 P),(e229 P),(e245 P),(e261 P),(e277 P),(e293 P),(e320 P),(e329 P),(e339 P),(e348 P),(e354 P),(e364 P),(e377 P),(e386 P),(e397 P),(e405 P),(e416 P),(e422 P),(e428 P),(e434 P),(e440 P),(e452 P),(e461 P),(e472 P),(e483 P),(e497 P),(e573 P),(e577 P),(e584 P),(e591 P),(e602 P),(e608 P),(e614 P),(e620 P),(e630 P),(e639 P),(e646 P),(e653 P),(e662 P),(e671 P),(en P "_law_pile" 683 (r 381)),(en P "_law_fits" 695 (r 388)),(en P "_law_good" 709 (r 395)),(en P "_law_wraps" 720 (r 402)),(en P "_law_none_cross" 729 (r 409)),(en P "_law_spoiled" 740 (r 416)),(en P "_law_creases" 752 (r 423)),(en P "_law_creases_good" 758 (r 428)),(en P "_law_asked" 767 (r 435)),(en P "_law_kinds" 775 (r 442)),(en P "_law_due_kinds" 781 (r 447)),(en P "_law_word" 792 (r 454)),(en P "_law_crossed" 806 (r 461)),(en P "_law_piles_asked" 821 (r 468)),(en P "_law_row" 831 (r 475)),(en P "_law_listed" 841 (r 482)),(en P "law" 851 (r 489))] 67)
def q520:=K (oo vn (D #[(j 1),(j 0),(r 20),(j 5),(j 0),(r 27),(j 7),(j 0),(r 40),(j 9),(j 0),(r 52),(j 11),(j 0),(r 64),(j 13),(j 0),(r 76),(j 15),(j 0),(r 88),(j 17),(j 0),(r 100),(j 24),(j 0),(r 119),(j 27),(j 0),(r 126),(j 33),(j 0),(r 133),(j 36),(j 0),(r 138),(j 39),(j 0),(r 146),(j 44),(j 0),(r 153),(j 48),(j 0),(r 160),(j 50),(j 0),(r 167),(j 58),(j 0),(r 174),(j 64),(j 0),(r 181),(j 70),(j 0),(r 186),(j 74),(j 0),(r 191),(j 76),(j 0),(r 196),(j 78),(j 0),(r 201),(j 80),(j 0),(r 208),(j 88),(j 0),(r 215),(j 92),(j 0),(r 222),(j 94),(j 0),(r 229),(j 102),(j 0),(r 236),(j 115),(j 0),(r 243),(j 141),(j 0),(r 302),(j 144),(j 0),(r 309),(j 147),(j 0),(r 316),(j 157),(j 0),(r 321),(j 159),(j 0),(r 326),(j 168),(j 0),(r 331),(j 172),(j 0),(r 338),(j 174),(j 0),(r 345),(j 181),(j 0),(r 352),(j 183),(j 0),(r 359),(j 185),(j 0),(r 366),(j 192),(j 0),(r 373),(j 197),(j 0),(r 380),(j 203),(j 0),(r 387),(j 210),(j 0),(r 394),(j 220),(j 0),(r 401),(j 224),(j 0),(r 408),(j 230),(j 0),(r 415),(j 244),(j 0),(r 422),(j 259),(j 0),(r 427),(j 263),(j 0),(r 434),(j 278),(j 0),(r 441),(j 281),(j 0),(r 446),(j 283),(j 0),(r 453),(j 290),(j 0),(r 460),(j 304),(j 0),(r 467),(j 325),(j 0),(r 474),(j 333),(j 0),(r 481),(j 345),(j 0),(r 488)]))
def q523:=K (tu [(s "_law_pile_here" 796),(s "_law_creases_here" 797),(s "_law_way" 798),(s "_law_told" 799),(s "_law_e" 800),(s "_law_one" 801),(s "_law_other" 802),(s "_law_at" 803)])
def q525:=K (F "_law_crossed" "_law_crossed" (st 60))
def q526:=K (C "_law_crossed" 793 "_law_crossed" 794 795 290 3 3 455 true 181 456 (r 457) (r 458) (r 459) 804 290 805)
def q527:=K (G "_law_crossed" "_law_crossed" (st 60) vn "law_stripfold_k09_refused" 621 460)
def q530:=K (tu [(s "_law_script" 810),(s "_law_size_here" 811),(s "_law_pile_here" 812),(s "_law_great" 813),(s "_law_creases_here" 814),(s "_law_way" 815),(s "_law_due" 816),(s "_law_handed" 817),(s "_law_found" 818)])
def q532:=K (F "_law_piles_asked" "_law_piles_asked" (st 61))
def q533:=K (C "_law_piles_asked" 807 "_law_piles_asked" 808 809 304 1 3 462 true 181 463 (r 464) (r 465) (r 466) 819 304 820)
def q534:=K (G "_law_piles_asked" "_law_piles_asked" (st 61) vn "law_stripfold_k09_refused" 621 467)
def q537:=K (tu [(s "_law_script" 825),(s "_law_number_here" 826),(s "_law_told" 827),(s "_law_k" 828)])
def q539:=K (F "_law_row" "_law_row" (st 62))
def q540:=K (C "_law_row" 822 "_law_row" 823 824 325 1 3 469 true 181 470 (r 471) (r 472) (r 473) 829 325 830)
def q541:=K (G "_law_row" "_law_row" (st 62) vn "law_stripfold_k09_refused" 621 474)
def q544:=K (tu [(s "_law_way" 835),(s "_law_thing" 836),(s "_law_told" 837),(s "_law_e" 838)])
def q546:=K (F "_law_listed" "_law_listed" (st 63))
def q547:=K (C "_law_listed" 832 "_law_listed" 833 834 333 2 3 476 true 181 477 (r 478) (r 479) (r 480) 839 333 840)
def q548:=K (G "_law_listed" "_law_listed" (st 63) vn "law_stripfold_k09_refused" 621 481)
def q551:=K (tu [(s "_law_script" 845),(s "_law_row_here" 846),(s "_law_due" 847),(s "_law_many" 848)])
def q553:=K (F "law" "law" (st 64))
def q554:=K (C "law" 842 "law" 843 844 345 1 3 483 true 181 484 (r 485) (r 486) (r 487) 849 345 850)
def q555:=K (G "law" "law" (st 64) vn "law_stripfold_k09_refused" 621 488)
lay_quick PySem.Challenge.pw_stripfold_k09_refused q43 q45 q46 q49 q53 q55 q56 q57 q58 q59 q60 q63 q64 q66 q67 q68 q69 q70 q71 q73 q74 q76 q79 q80 q82 q83 q84 q85 q86 q88 q91 q94 q95 q97 q98 q99 q100 q101 q103 q106 q109 q110 q112 q113 q114 q115 q116 q118 q121 q124 q125 q127 q128 q129 q130 q131 q133 q136 q139 q140 q142 q143 q144 q145 q146 q148 q151 q154 q155 q158 q160 q161 q162 q163 q164 q165 q166 q167 q170 q172 q173 q174 q177 q179 q180 q181 q184 q186 q187 q188 q191 q192 q193 q194 q196 q199 q201 q202 q203 q206 q208 q209 q210 q213 q215 q216 q217 q220 q222 q223 q224 q227 q229 q230 q231 q234 q236 q237 q238 q241 q242 q243 q246 q247 q248 q251 q252 q253 q256 q257 q258 q261 q263 q264 q265 q268 q270 q271 q272 q273 q277 q278 q279 q280 q281 q284 q286 q287 q288 q291 q293 q294 q295 q296 q300 q303 q304 q307 q309 q310 q311 q314 q316 q317 q318 q321 q323 q324 q325 q328 q330 q331 q332 q335 q337 q338 q339 q342 q343 q344 q347 q348 q349 q350 q351 q352 q353 q354 q355 q356 q357 q361 q363 q364 q365 q368 q370 q371 q372 q375 q377 q378 q379 q382 q383 q384 q387 q388 q389 q392 q393 q394 q397 q399 q400 q401 q404 q406 q407 q408 q411 q413 q414 q415 q418 q420 q421 q422 q425 q427 q428 q429 q432 q434 q435 q436 q437 q441 q443 q444 q445 q448 q450 q451 q452 q455 q457 q458 q459 q462 q464 q465 q466 q469 q471 q472 q473 q476 q478 q479 q480 q483 q485 q486 q487 q490 q491 q492 q495 q497 q498 q499 q502 q504 q505 q506 q509 q510 q511 q514 q516 q517 q518 q519 q523 q525 q526 q527 q530 q532 q533 q534 q537 q539 q540 q541 q544 q546 q547 q548 q551 q553 q554 q555
def rh {α : Type} {a b : α} (_ : a = b) : α := b
theorem m {f g : Params → Obj} {l m : Params → List Obj} (h : ∀ P, f P = g P) (k : ∀ P, l P = m P) : ∀ P, f P :: l P = g P :: m P := fun P => by rw [h, k]
theorem w : ∀ _ : Params, ([] : List Obj) = [] := fun _ => rfl
theorem n {f g : Params → Obj} {l m r s : Params → BT} (h : ∀ P, f P = g P) (k : ∀ P, l P = m P) (j : ∀ P, r P = s P) : ∀ P, BT.node (f P) (l P) (r P) = BT.node (g P) (m P) (s P) := fun P => by rw [h, k, j]
theorem z : ∀ _ : Params, BT.nil = BT.nil := fun _ => rfl
theorem cf {f g : Params → Obj} (h : f = g) (P : Params) : f P = g P := by rw [h]
theorem nt (f : Params → Obj) (P : Params) : f P = f P := rfl
theorem hp {l m : Params → List Obj} (h : ∀ P, l P = m P) : (fun P => (⟨⟨l P⟩, (Life.mk [] [] [] 0 [] [] false #[] [] 0 false false false 0 [2000,10,10] false 0 true [] [] 0 false)⟩ : Heap)) = fun P => ⟨⟨m P⟩, (Life.mk [] [] [] 0 [] [] false #[] [] 0 false false false 0 [2000,10,10] false 0 true [] [] 0 false)⟩ := funext fun P => by rw [h]
def a0:=nt boot_o_0
def a1:=nt boot_o_1
def a2:=nt boot_o_2
def a3:=nt boot_o_3
def a4:=nt boot_o_4
def a5:=nt boot_o_5
def a6:=nt boot_o_6
def a7:=nt boot_o_7
def a8:=nt boot_o_8
def a9:=nt boot_o_9
def a10:=nt boot_o_10
def c43:=cf te884463465135415981
def c44:=nt q44
def c45:=cf te13889448576825750436
def c46:=cf te12533817398336138642
def c49:=cf te16279627670941099
def c50:=nt q50
def c53:=cf te4802334992162975308
def c55:=cf te407156258748287338
def c56:=cf te14289334829765485849
def c57:=cf te7256263984274327189
def c58:=cf te11844181063770434590
def c59:=cf te2753129375794474508
def c60:=cf te13050808220722085565
def c63:=cf te6668820910017403409
def c64:=cf te10348655838005251911
def c66:=cf te2375937244994292034
def c67:=cf te17988935461955160295
def c68:=cf te7103249771603135938
def c69:=cf te13161629928981116537
def c70:=cf te18094626009691955401
def c71:=cf te8964816574816368762
def c72:=nt q72
def c73:=cf te11042884158472414240
def c74:=cf te11428299695250337924
def c76:=cf te14561465598332853518
def c79:=cf te557757464067557405
def c80:=cf te10506561614230686532
def c82:=cf te8844758203084165027
def c83:=cf te7408586432884999863
def c84:=cf te5006788459804746827
def c85:=cf te1776036747044551698
def c86:=cf te4727362857054143587
def c87:=nt q87
def c88:=cf te16504209368958856218
def c91:=cf te3086644993056486840
def c94:=cf te89264823975923259
def c95:=cf te9991901975128969492
def c97:=cf te14889298504952029298
def c98:=cf te9960706282327705943
def c99:=cf te16322324896641839542
def c100:=cf te10375853750565863375
def c101:=cf te5072170926044743343
def c102:=nt q102
def c103:=cf te8557487762758881313
def c106:=cf te6876089748002398681
def c109:=cf te16468885187641083371
def c110:=cf te1226434305195952342
def c112:=cf te5181895711621124110
def c113:=cf te2282110868385887510
def c114:=cf te9990311817161383838
def c115:=cf te13424348495857732574
def c116:=cf te5784067092436116270
def c117:=nt q117
def c118:=cf te17200464992696206393
def c121:=cf te7944906550858281225
def c124:=cf te11458553286115429454
def c125:=cf te6132069593067267442
def c127:=cf te1511861044665214818
def c128:=cf te6381973497679745362
def c129:=cf te8580412910636205039
def c130:=cf te16165226207152376102
def c131:=cf te4394441668539015443
def c132:=nt q132
def c133:=cf te5528015336205979717
def c136:=cf te9009849156974646758
def c139:=cf te10427721709823116162
def c140:=cf te3191710918679290521
def c142:=cf te6186336085682905449
def c143:=cf te17105478978129287953
def c144:=cf te14567402196872240669
def c145:=cf te14388698438493956604
def c146:=cf te14601893006039625295
def c147:=nt q147
def c148:=cf te16828447584299475855
def c151:=cf te3285176088630311191
def c153:=nt q153
def c154:=cf te13231156790583422697
def c155:=cf te9000705284958434370
def c158:=cf te1907404263592796263
def c160:=cf te866153642095691985
def c161:=cf te975414735145482657
def c162:=cf te10972548153056226716
def c163:=cf te1426888061352879067
def c164:=cf te5352277046511096027
def c165:=cf te9227436569510965670
def c166:=cf te7099783033371393298
def c167:=cf te13384033376921556844
def c170:=cf te2056775939474520990
def c172:=cf te13737227648699636184
def c173:=cf te9698326925945776014
def c174:=cf te2850056106553647998
def c177:=cf te3953332380899834877
def c179:=cf te300536605345428999
def c180:=cf te2776000820745139184
def c181:=cf te12815452770860908140
def c184:=cf te14539139010340545562
def c186:=cf te17258594932580874607
def c187:=cf te7845505709262917123
def c188:=cf te10630457227261606098
def c191:=cf te16716719286346293394
def c192:=cf te4846799025983673181
def c193:=cf te16896246280727865496
def c194:=cf te7402597537725187143
def c195:=nt q195
def c196:=cf te2803292273962042601
def c199:=cf te2469644411044663213
def c201:=cf te6816334697508133557
def c202:=cf te14568834685403652553
def c203:=cf te4882436908121724974
def c206:=cf te1289518577121191001
def c208:=cf te11944892734740091240
def c209:=cf te16727075163208035924
def c210:=cf te16474558319649485815
def c213:=cf te18302749432154401247
def c215:=cf te9143702668017743438
def c216:=cf te797967788098264193
def c217:=cf te14207602608214581208
def c220:=cf te16197044549519110212
def c222:=cf te4864138060254126494
def c223:=cf te955176264863839100
def c224:=cf te2987014265503720558
def c227:=cf te15875135063794586639
def c229:=cf te9804618050714092675
def c230:=cf te6898504737866224556
def c231:=cf te14172904042595914749
def c234:=cf te1035715784683155993
def c236:=cf te15376821463430465647
def c237:=cf te2356639241678774876
def c238:=cf te618337919436386983
def c241:=cf te4522178128118085982
def c242:=cf te2908571107612583790
def c243:=cf te12540420139296931971
def c246:=cf te15811834854515703780
def c247:=cf te2131460145982727330
def c248:=cf te6403023966621917001
def c251:=cf te15664517964924871553
def c252:=cf te16506298767994088513
def c253:=cf te5432926585475506069
def c256:=cf te12848429931896512809
def c257:=cf te1480126488087687334
def c258:=cf te8309981062628410873
def c261:=cf te5541453115588798187
def c263:=cf te15569384370244708825
def c264:=cf te14090306141265494793
def c265:=cf te6588786061930625135
def c268:=cf te14311289926056901515
def c270:=cf te11925769393444426187
def c271:=cf te10146543612380891465
def c272:=cf te2145037787206000212
def c273:=cf te10660662357015325814
def c274:=nt q274
def c277:=cf te2075714394704432748
def c278:=cf te12851020563786618389
def c279:=cf te2651824996201397648
def c280:=cf te799419016859565065
def c281:=cf te11958883465553546976
def c284:=cf te9175677528902049523
def c286:=cf te1909424112481810708
def c287:=cf te8505689701948361730
def c288:=cf te1933378300281448891
def c291:=cf te4805885554869265664
def c293:=cf te13931395393704882967
def c294:=cf te9254707121784753907
def c295:=cf te10875473912043287186
def c296:=cf te6576452749421163473
def c297:=nt q297
def c300:=cf te3725203548457552068
def c302:=nt q302
def c303:=cf te18381415856656086831
def c304:=cf te13970546861644576490
def c307:=cf te13099229515124803254
def c309:=cf te3745424342144281793
def c310:=cf te10383725143203772447
def c311:=cf te4259684540392730570
def c314:=cf te11963749924677405888
def c316:=cf te7897186468155703008
def c317:=cf te2952964700421499761
def c318:=cf te9554028028219750764
def c321:=cf te2120768049054789183
def c323:=cf te4309367098482258962
def c324:=cf te9574184172845854229
def c325:=cf te17719249121848672605
def c328:=cf te4993149196915890410
def c330:=cf te11923364398487559473
def c331:=cf te10851477329014968852
def c332:=cf te15879951477650296827
def c335:=cf te7637571256138981099
def c337:=cf te4229777132484151940
def c338:=cf te17167546182659114405
def c339:=cf te8217619768608690919
def c342:=cf te14441488874898847421
def c343:=cf te4538971195933363050
def c344:=cf te1429178100873906855
def c347:=cf te3156544318979863223
def c348:=cf te11161850330782414488
def c349:=cf te14510837364944608520
def c350:=cf te1698987028111786765
def c351:=cf te16795145446000564976
def c352:=cf te4658631977752743755
def c353:=cf te2523899684543659183
def c354:=cf te11829453387300056655
def c355:=cf te17979427585312802127
def c356:=cf te9852834894749623162
def c357:=cf te1452837284230297897
def c358:=nt q358
def c361:=cf te6307213021780810704
def c363:=cf te11706016898023016790
def c364:=cf te3550822027299993922
def c365:=cf te13914697180632967988
def c368:=cf te15331017456799179516
def c370:=cf te6865473299764378705
def c371:=cf te6800268168372678727
def c372:=cf te1377492770039171361
def c375:=cf te11374549740868635171
def c377:=cf te12810614948735356344
def c378:=cf te12911037361530394679
def c379:=cf te12982900475190818938
def c382:=cf te8147317173374040524
def c383:=cf te1037254404015796832
def c384:=cf te3918993504606103468
def c387:=cf te8609892737077850798
def c388:=cf te4592897591381919240
def c389:=cf te789197796286188471
def c392:=cf te4642528535902700481
def c393:=cf te5543939669472915754
def c394:=cf te5091536588243418817
def c397:=cf te9393825794049634494
def c399:=cf te8595383017298006971
def c400:=cf te6900391997508818214
def c401:=cf te17662485030240021717
def c404:=cf te1606201362274214082
def c406:=cf te11456798112259801392
def c407:=cf te8015618651138888388
def c408:=cf te192712728833211274
def c411:=cf te12445531198902882214
def c413:=cf te14082333052485338452
def c414:=cf te9802017790419664299
def c415:=cf te8156826401338719996
def c418:=cf te3195644394852897740
def c420:=cf te4266029153602761747
def c421:=cf te3240293956816767143
def c422:=cf te14888334787892509306
def c425:=cf te12578819786813506849
def c427:=cf te14909642309258175601
def c428:=cf te10049059043241317668
def c429:=cf te1300326829108644002
def c432:=cf te10735506760445588867
def c434:=cf te2058085678908130590
def c435:=cf te12053529692481629975
def c436:=cf te15046046543510102797
def c437:=cf te2245886410132481741
def c438:=nt q438
def c441:=cf te2001741103319782663
def c443:=cf te2033313414670011697
def c444:=cf te9246092317795405408
def c445:=cf te15418256845057339703
def c448:=cf te5012285135921702410
def c450:=cf te11808445355721561025
def c451:=cf te15183600256434364014
def c452:=cf te851835464789941594
def c455:=cf te4534723218683560379
def c457:=cf te16819738710360520212
def c458:=cf te7295711382067993663
def c459:=cf te7704145512075067311
def c462:=cf te16618167483278280207
def c464:=cf te10295514085195703316
def c465:=cf te11739214192117882958
def c466:=cf te6678377910550111766
def c469:=cf te2860949397319474915
def c471:=cf te17548660439042572833
def c472:=cf te13480799865878147752
def c473:=cf te3778386099027743593
def c476:=cf te6166077939929382574
def c478:=cf te16524751594980013052
def c479:=cf te11977593399331157703
def c480:=cf te16632859567601065250
def c483:=cf te14568184606550452576
def c485:=cf te12175564399575795785
def c486:=cf te14539383420896521166
def c487:=cf te9027036728053866758
def c490:=cf te8430150560997950773
def c491:=cf te2862227454722955478
def c492:=cf te3998306820523125945
def c495:=cf te3218270172426434985
def c497:=cf te5311564927267331969
def c498:=cf te18376469836283671802
def c499:=cf te14170855054866079378
def c502:=cf te7298036880692503059
def c504:=cf te18059304097436831280
def c505:=cf te1468954508251145043
def c506:=cf te6786693892993485638
def c509:=cf te3517793499683819965
def c510:=cf te1972739307450167329
def c511:=cf te3141250296055856269
def c514:=cf te17563351181265466020
def c516:=cf te2577318491550845322
def c517:=cf te821692408841951210
def c518:=cf te7414987718428603998
def c519:=cf te17527322492307673288
def c520:=nt q520
def c523:=cf te6830440955454484999
def c525:=cf te7190824190920310809
def c526:=cf te683135337293898834
def c527:=cf te4087466105300294016
def c530:=cf te10549621742088558971
def c532:=cf te5513993210768194516
def c533:=cf te6285514943288098203
def c534:=cf te11492873956157901755
def c537:=cf te15544749875480465437
def c539:=cf te14992552099146052102
def c540:=cf te6458212906536785270
def c541:=cf te16200793512106196064
def c544:=cf te17204743607835149585
def c546:=cf te8749046561232361895
def c547:=cf te3578410098774632362
def c548:=cf te10375442597205873508
def c551:=cf te12871079911975273205
def c553:=cf te4315661211720589260
def c554:=cf te742066929245545867
def c555:=cf te7458200256332793810
def _root_.PySem.W.Fast.te13357540427910069084:=hp (m a0 (m a1 (m a2 (m a3 (m a4 (m a5 (m a6 (m a7 (m a8 (m a9 (m a10 (m c43 (m c44 (m c45 (m c46 (w))))))))))))))))
def _root_.PySem.W.Fast.tw13357540427910069084:=rh te13357540427910069084
def t0:=n c43 z z
def t1:=n c44 z z
def _root_.PySem.W.Fast.te4199607498584357902:=funext (n a0 (n a1 (n a3 (n a7 z z) t0) (n a5 (n a9 z z) (n c45 z z))) (n a2 (n a4 (n a8 z z) t1) (n a6 (n a10 z z) (n c46 z z))))
def _root_.PySem.W.Fast.tw4199607498584357902:=rh te4199607498584357902
def t2:=n c59 z z
def t3:=n c69 z z
def t4:=n c53 t3 z
def t5:=n c68 z z
def t6:=n c44 t5 z
def t7:=n c70 z z
def t8:=n c43 t7 z
def _root_.PySem.W.Fast.te17857105651747374288:=funext (n a0 (n a1 (n c49 (n a7 (n c43 (n c67 z z) z) t2) (n c43 (n c55 z z) (n c63 z z))) (n a5 (n a9 t4 t0) (n c45 (n c57 z z) t0))) (n a2 (n a4 (n a8 t6 (n c60 z z)) (n c50 (n c56 z z) (n c64 z z))) (n a6 (n a10 t8 t1) (n c46 (n c58 z z) (n c66 z z)))))
def _root_.PySem.W.Fast.tw17857105651747374288:=rh te17857105651747374288
def t9:=n c59 t1 z
def t10:=n c74 z z
def t11:=n c82 z z
def t12:=n c63 t11 z
def t13:=n c80 z z
def t14:=n c76 z z
def t15:=n c84 z z
def t16:=n c43 t15 z
def t17:=n c79 z z
def t18:=n c83 z z
def t19:=n c64 t18 z
def t20:=n c44 t0 z
def t21:=n c85 z z
def t22:=n c66 t21 z
def _root_.PySem.W.Fast.te4403134837905043525:=funext (n a0 (n a1 (n c71 (n a7 (n c43 (n c73 z z) z) t9) (n c43 (n c55 t10 z) t12)) (n a5 (n a9 t4 (n c43 t13 z)) (n c45 (n c57 t14 z) t16))) (n a2 (n a4 (n a8 t6 (n c60 t17 z)) (n c72 (n c56 t2 z) t19)) (n a6 (n a10 t8 t20) (n c46 (n c58 t0 z) t22))))
def _root_.PySem.W.Fast.tw4403134837905043525:=rh te4403134837905043525
def t23:=n c97 z z
def t24:=n c59 t1 t23
def t25:=n c91 z z
def t26:=n c99 z z
def t27:=n c43 t13 t26
def t28:=n c95 z z
def t29:=n c98 z z
def t30:=n c60 t17 t29
def t31:=n c94 z z
def t32:=n c100 z z
def t33:=n c44 t0 t32
def _root_.PySem.W.Fast.te124930306983573982:=funext (n a0 (n a1 (n c86 (n a7 (n c43 (n c88 z z) t10) t24) (n c43 (n c55 t10 t1) t12)) (n a5 (n a9 (n c53 t3 t25) t27) (n c45 (n c57 t14 t28) t16))) (n a2 (n a4 (n a8 (n c44 t5 t2) t30) (n c87 (n c56 t2 t31) t19)) (n a6 (n a10 (n c43 t7 t0) t33) (n c46 (n c58 t0 t0) t22))))
def _root_.PySem.W.Fast.tw124930306983573982:=rh te124930306983573982
def t34:=n c74 (n c112 z z) z
def t35:=n c55 t34 t1
def t36:=n c69 (n c110 z z) z
def t37:=n c76 (n c114 z z) z
def t38:=n c57 t37 t28
def t39:=n c106 z z
def t40:=n c68 (n c109 z z) z
def t41:=n c59 (n c113 z z) z
def t42:=n c56 t41 t31
def t43:=n c70 t0 z
def t44:=n c43 (n c115 z z) z
def t45:=n c58 t44 t0
def _root_.PySem.W.Fast.te5687901614500481053:=funext (n a0 (n a1 (n c101 (n a7 (n c43 (n c103 t1 z) t10) t24) (n c43 t35 (n c63 t11 t10))) (n a5 (n a9 (n c53 t36 t25) t27) (n c45 t38 (n c43 t15 t39)))) (n a2 (n a4 (n a8 (n c44 t40 t2) t30) (n c102 t42 (n c64 t18 t2))) (n a6 (n a10 (n c43 t43 t0) t33) (n c46 t45 (n c66 t21 t0)))))
def _root_.PySem.W.Fast.tw5687901614500481053:=rh te5687901614500481053
def t46:=n c127 z z
def t47:=n c74 t46 z
def t48:=n c44 t10 z
def t49:=n c82 t1 z
def t50:=n c129 z z
def t51:=n c53 t36 (n c91 t50 z)
def t52:=n c80 (n c121 z z) z
def t53:=n c125 z z
def t54:=n c84 t53 z
def t55:=n c128 z z
def t56:=n c44 t40 (n c59 t55 z)
def t57:=n c79 t2 z
def t58:=n c124 z z
def t59:=n c83 t58 z
def t60:=n c130 z z
def t61:=n c43 t43 (n c43 t60 z)
def t62:=n c43 t0 z
def t63:=n c85 t0 z
def _root_.PySem.W.Fast.te17174405778961721268:=funext (n a0 (n a1 (n c116 (n a7 (n c43 (n c118 t1 z) t47) (n c59 t48 t23)) (n c43 t35 (n c63 t49 t10))) (n a5 (n a9 t51 (n c43 t52 t26)) (n c45 t38 (n c43 t54 t39)))) (n a2 (n a4 (n a8 t56 (n c60 t57 t29)) (n c117 t42 (n c64 t59 t2))) (n a6 (n a10 t61 (n c44 t62 t32)) (n c46 t45 (n c66 t63 t0)))))
def _root_.PySem.W.Fast.tw17174405778961721268:=rh te17174405778961721268
def t64:=n c142 z z
def t65:=n c140 z z
def t66:=n c136 z z
def t67:=n c144 z z
def t68:=n c139 z z
def t69:=n c143 z z
def t70:=n c145 z z
def _root_.PySem.W.Fast.te16305760415295671705:=funext (n a0 (n a1 (n c131 (n a7 (n c43 (n c133 t1 z) t47) (n c59 t48 (n c97 t1 z))) (n c43 (n c55 t34 t48) (n c63 t49 (n c74 t64 z)))) (n a5 (n a9 t51 (n c43 t52 (n c99 t65 z))) (n c45 (n c57 t37 (n c95 t66 z)) (n c43 t54 (n c106 t67 z))))) (n a2 (n a4 (n a8 t56 (n c60 t57 (n c98 t68 z))) (n c132 (n c56 t41 (n c94 t2 z)) (n c64 t59 (n c59 t69 z)))) (n a6 (n a10 t61 (n c44 t62 (n c100 t0 z))) (n c46 (n c58 t44 t62) (n c66 t63 (n c43 t70 z))))))
def _root_.PySem.W.Fast.tw16305760415295671705:=rh te16305760415295671705
def t71:=n c181 z z
def t72:=n c193 z z
def t73:=n c191 z z
def t74:=n c187 z z
def t75:=n c186 z z
def t76:=n c184 z z
def t77:=n c192 z z
def t78:=n c188 z z
def _root_.PySem.W.Fast.te11684081393361754730:=funext (n a0 (n a1 (n c146 (n a7 (n c43 (n c148 (n c44 t71 z) t10) (n c74 t46 (n c165 z z))) (n c59 (n c44 (n c74 t0 z) t1) (n c97 t1 (n c173 z z)))) (n c43 (n c55 (n c74 (n c112 t0 z) (n c153 z z)) (n c44 t10 t1)) (n c63 (n c82 (n c44 t72 z) (n c161 z z)) (n c74 t64 (n c177 z z))))) (n a5 (n a9 (n c53 (n c69 (n c110 t1 z) (n c151 z z)) (n c91 t50 (n c167 z z))) (n c43 (n c80 (n c121 t73 z) t0) (n c99 t65 t0))) (n c45 (n c57 (n c76 (n c114 t74 z) (n c155 z z)) (n c95 t66 t0)) (n c43 (n c84 t53 (n c163 z z)) (n c106 t67 (n c179 z z)))))) (n a2 (n a4 (n a8 (n c44 (n c68 (n c109 t0 z) t2) (n c59 t55 (n c166 z z))) (n c60 (n c79 t9 (n c158 z z)) (n c98 t68 (n c174 z z)))) (n c147 (n c56 (n c59 (n c113 t75 z) (n c154 z z)) (n c94 t2 (n c170 z z))) (n c64 (n c83 t58 (n c162 z z)) (n c59 t69 t0)))) (n a6 (n a10 (n c43 (n c70 (n c43 t76 z) t0) (n c43 t60 t0)) (n c44 (n c43 (n c43 t77 z) (n c160 z z)) (n c100 t0 t1))) (n c46 (n c58 (n c43 (n c115 t78 z) t0) (n c43 t0 (n c172 z z))) (n c66 (n c85 t0 (n c164 z z)) (n c43 t70 (n c180 z z)))))))
def _root_.PySem.W.Fast.tw11684081393361754730:=rh te11684081393361754730
def t79:=n c247 z z
def t80:=n c44 t71 t79
def t81:=n c215 z z
def t82:=n c263 z z
def t83:=n c231 z z
def t84:=n c74 (n c127 (n c199 z z) t82) (n c165 t83 z)
def t85:=n c74 t0 t1
def t86:=n c223 z z
def t87:=n c271 z z
def t88:=n c97 (n c44 t0 t87) (n c173 t0 z)
def t89:=n c251 z z
def t90:=n c112 t0 t89
def t91:=n c44 (n c74 (n c203 z z) t1) t20
def t92:=n c44 t72 t0
def t93:=n c227 z z
def t94:=n c243 z z
def t95:=n c177 t94 z
def t96:=n c110 t1 t0
def t97:=n c217 z z
def t98:=n c265 z z
def t99:=n c91 (n c129 (n c201 z z) t98) (n c167 t1 z)
def t100:=n c257 z z
def t101:=n c121 t73 t100
def t102:=n c209 z z
def t103:=n c241 z z
def t104:=n c43 t103 z
def t105:=n c253 z z
def t106:=n c114 t74 t105
def t107:=n c237 z z
def t108:=n c95 (n c136 t1 t0) (n c43 t107 z)
def t109:=n c261 z z
def t110:=n c125 t0 t109
def t111:=n c229 z z
def t112:=n c213 z z
def t113:=n c179 t1 z
def t114:=n c248 z z
def t115:=n c109 t0 t114
def t116:=n c216 z z
def t117:=n c264 z z
def t118:=n c59 (n c128 t0 t117) (n c166 t0 z)
def t119:=n c256 z z
def t120:=n c59 t1 t119
def t121:=n c224 z z
def t122:=n c272 z z
def t123:=n c98 (n c139 (n c208 z z) t122) (n c174 t1 z)
def t124:=n c252 z z
def t125:=n c113 t75 t124
def t126:=n c220 z z
def t127:=n c268 z z
def t128:=n c236 z z
def t129:=n c94 (n c59 t0 t127) (n c170 t128 z)
def t130:=n c124 (n c196 z z) t1
def t131:=n c43 t76 t1
def t132:=n c234 z z
def t133:=n c43 (n c130 (n c202 z z) t0) (n c43 t132 z)
def t134:=n c258 z z
def t135:=n c43 t77 t134
def t136:=n c210 z z
def t137:=n c242 z z
def t138:=n c44 t137 z
def t139:=n c115 t78 t0
def t140:=n c222 z z
def t141:=n c270 z z
def t142:=n c238 z z
def t143:=n c43 (n c43 (n c206 z z) t141) (n c172 t142 z)
def t144:=n c43 t1 t0
def t145:=n c230 z z
def t146:=n c85 t144 (n c164 t145 z)
def t147:=n c246 z z
def t148:=n c180 t147 z
def _root_.PySem.W.Fast.te1987811477799700504:=funext (n a0 (n a1 (n c194 (n a7 (n c43 (n c148 t80 (n c74 t81 z)) t84) (n c59 (n c44 t85 (n c44 t86 z)) t88)) (n c43 (n c55 (n c74 t90 (n c153 t1 z)) t91) (n c63 (n c82 t92 (n c161 t93 z)) (n c74 (n c142 t0 z) t95)))) (n a5 (n a9 (n c53 (n c69 t96 (n c151 t97 z)) t99) (n c43 (n c80 t101 t62) (n c99 (n c140 t102 z) t104))) (n c45 (n c57 (n c76 t106 (n c155 t0 z)) t108) (n c43 (n c84 t110 (n c163 t111 z)) (n c106 (n c144 t112 z) t113))))) (n a2 (n a4 (n a8 (n c44 (n c68 t115 (n c59 t116 z)) t118) (n c60 (n c79 t120 (n c158 t121 z)) t123)) (n c195 (n c56 (n c59 t125 (n c154 t126 z)) t129) (n c64 (n c83 t130 (n c162 t0 z)) (n c59 (n c143 t1 z) t62)))) (n a6 (n a10 (n c43 (n c70 t131 t62) t133) (n c44 (n c43 t135 (n c160 t1 z)) (n c100 (n c43 t136 z) t138))) (n c46 (n c58 (n c43 t139 (n c43 t140 z)) t143) (n c66 t146 (n c43 (n c145 t0 z) t148))))))
def _root_.PySem.W.Fast.tw1987811477799700504:=rh te1987811477799700504
def t149:=n c281 z z
def t150:=n c161 t93 (n c293 z z)
def t151:=n c277 z z
def t152:=n c43 t0 (n c291 z z)
def t153:=n c287 z z
def t154:=n c163 t111 (n c295 z z)
def t155:=n c279 z z
def t156:=n c286 z z
def t157:=n c162 t0 (n c294 z z)
def t158:=n c278 z z
def t159:=n c284 z z
def t160:=n c160 t1 t0
def t161:=n c288 z z
def t162:=n c280 z z
def _root_.PySem.W.Fast.te15910259066044140881:=funext (n a0 (n a1 (n c273 (n a7 (n c43 (n c148 t80 (n c74 t81 t149)) t84) (n c59 (n c44 t85 (n c44 t86 t0)) t88)) (n c43 (n c55 (n c74 t90 (n c153 t1 t0)) t91) (n c63 (n c82 t92 t150) (n c74 (n c142 t0 t151) t95)))) (n a5 (n a9 (n c53 (n c69 t96 (n c151 t97 t1)) t99) (n c43 (n c80 t101 t152) (n c99 (n c140 t102 t0) t104))) (n c45 (n c57 (n c76 t106 (n c155 t0 t153)) t108) (n c43 (n c84 t110 t154) (n c106 (n c144 t112 t155) t113))))) (n a2 (n a4 (n a8 (n c44 (n c68 t115 (n c59 t116 t0)) t118) (n c60 (n c79 t120 (n c158 t121 t1)) t123)) (n c274 (n c56 (n c59 t125 (n c154 t126 t156)) t129) (n c64 (n c83 t130 t157) (n c59 (n c143 t1 t158) t62)))) (n a6 (n a10 (n c43 (n c70 t131 (n c43 t0 t159)) t133) (n c44 (n c43 t135 t160) (n c100 (n c43 t136 t1) t138))) (n c46 (n c58 (n c43 t139 (n c43 t140 t161)) t143) (n c66 t146 (n c43 (n c145 t0 t162) t148))))))
def _root_.PySem.W.Fast.tw15910259066044140881:=rh te15910259066044140881
def t163:=n c181 t0 z
def t164:=n c347 z z
def t165:=n c215 t164 z
def t166:=n c331 z z
def t167:=n c199 t166 z
def t168:=n c323 z z
def t169:=n c43 t168 z
def t170:=n c355 z z
def t171:=n c223 t170 z
def t172:=n c339 z z
def t173:=n c43 t172 z
def t174:=n c307 z z
def t175:=n c351 z z
def t176:=n c44 t175 z
def t177:=n c335 z z
def t178:=n c203 t177 z
def t179:=n c193 t1 z
def t180:=n c343 z z
def t181:=n c43 t180 z
def t182:=n c311 z z
def t183:=n c317 z z
def t184:=n c44 t183 z
def t185:=n c349 z z
def t186:=n c217 t185 z
def t187:=n c201 t0 z
def t188:=n c325 z z
def t189:=n c191 t188 z
def t190:=n c209 t1 z
def t191:=n c309 z z
def t192:=n c321 z z
def t193:=n c187 t192 z
def t194:=n c353 z z
def t195:=n c43 t194 z
def t196:=n c337 z z
def t197:=n c44 t196 z
def t198:=n c213 t0 z
def t199:=n c316 z z
def t200:=n c43 t199 z
def t201:=n c348 z z
def t202:=n c216 t201 z
def t203:=n c332 z z
def t204:=n c43 t203 z
def t205:=n c324 z z
def t206:=n c44 t205 z
def t207:=n c356 z z
def t208:=n c224 t207 z
def t209:=n c208 t0 z
def t210:=n c186 t1 z
def t211:=n c352 z z
def t212:=n c220 t211 z
def t213:=n c328 z z
def t214:=n c196 t213 z
def t215:=n c344 z z
def t216:=n c44 t215 z
def t217:=n c43 t0 t0
def t218:=n c318 z z
def t219:=n c184 t218 z
def t220:=n c350 z z
def t221:=n c43 t220 z
def t222:=n c202 t1 z
def t223:=n c192 t0 z
def t224:=n c342 z z
def t225:=n c210 t224 z
def t226:=n c310 z z
def t227:=n c188 t0 z
def t228:=n c354 z z
def t229:=n c222 t228 z
def t230:=n c338 z z
def t231:=n c206 t230 z
def t232:=n c330 z z
def t233:=n c44 t232 z
def t234:=n c43 t1 z
def t235:=n c314 z z
def _root_.PySem.W.Fast.te15502051026700571207:=funext (n a0 (n a1 (n c296 (n a7 (n c43 (n c148 (n c44 t163 t79) (n c74 t165 t149)) (n c74 (n c127 t167 t82) (n c165 t83 t2))) (n c59 (n c44 (n c74 t169 t1) (n c44 t171 t0)) (n c97 (n c44 t173 t87) (n c173 t0 t174)))) (n c43 (n c55 (n c74 (n c112 t62 t89) (n c153 t176 t0)) (n c44 (n c74 t178 t1) (n c44 t0 (n c303 z z)))) (n c63 (n c82 (n c44 t179 t0) t150) (n c74 (n c142 t181 t151) (n c177 t94 t182))))) (n a5 (n a9 (n c53 (n c69 (n c110 t184 t0) (n c151 t186 t1)) (n c91 (n c129 t187 t98) (n c167 t1 t0))) (n c43 (n c80 (n c121 t189 t100) t152) (n c99 (n c140 t190 t0) (n c43 t103 t191)))) (n c45 (n c57 (n c76 (n c114 t193 t105) (n c155 t195 t153)) (n c95 (n c136 t197 t0) (n c43 t107 t0))) (n c43 (n c84 (n c125 t62 t109) t154) (n c106 (n c144 t198 t155) (n c179 t1 t1)))))) (n a2 (n a4 (n a8 (n c44 (n c68 (n c109 t200 t114) (n c59 t202 t0)) (n c59 (n c128 t204 t117) (n c166 t0 (n c300 z z)))) (n c60 (n c79 (n c59 t206 t119) (n c158 t208 t1)) (n c98 (n c139 t209 t122) (n c174 t1 t0)))) (n c297 (n c56 (n c59 (n c113 t210 t124) (n c154 t212 t156)) (n c94 (n c59 t62 t127) (n c170 t128 (n c304 z z)))) (n c64 (n c83 (n c124 t214 t1) t157) (n c59 (n c143 t216 t158) t217)))) (n a6 (n a10 (n c43 (n c70 (n c43 t219 t1) (n c43 t221 t159)) (n c43 (n c130 t222 t0) (n c43 t132 (n c302 z z)))) (n c44 (n c43 (n c43 t223 t134) t160) (n c100 (n c43 t225 t1) (n c44 t137 t226)))) (n c46 (n c58 (n c43 (n c115 t227 t0) (n c43 t229 t161)) (n c43 (n c43 t231 t141) (n c172 t142 t1))) (n c66 (n c85 (n c43 t233 t0) (n c164 t145 t0)) (n c43 (n c145 t234 t162) (n c180 t147 t235)))))))
def _root_.PySem.W.Fast.tw15502051026700571207:=rh te15502051026700571207
def t236:=n c413 z z
def t237:=n c281 t236 z
def t238:=n c397 z z
def t239:=n c263 t238 z
def t240:=n c365 z z
def t241:=n c59 (n c429 z z) z
def t242:=n c389 z z
def t243:=n c44 t242 z
def t244:=n c421 z z
def t245:=n c43 t244 z
def t246:=n c271 t0 z
def t247:=n c401 z z
def t248:=n c44 t247 z
def t249:=n c303 t0 z
def t250:=n c393 z z
def t251:=n c43 t250 z
def t252:=n c361 z z
def t253:=n c293 (n c425 z z) z
def t254:=n c277 t0 z
def t255:=n c377 z z
def t256:=n c383 z z
def t257:=n c415 z z
def t258:=n c44 t257 z
def t259:=n c399 z z
def t260:=n c265 t259 z
def t261:=n c44 t1 z
def t262:=n c257 t1 z
def t263:=n c291 t0 z
def t264:=n c407 z z
def t265:=n c43 t264 z
def t266:=n c375 z z
def t267:=n c387 z z
def t268:=n c287 t0 z
def t269:=n c371 z z
def t270:=n c43 (n c435 z z) z
def t271:=n c261 t0 z
def t272:=n c363 z z
def t273:=n c295 (n c427 z z) z
def t274:=n c411 z z
def t275:=n c279 t274 z
def t276:=n c379 z z
def t277:=n c382 z z
def t278:=n c414 z z
def t279:=n c43 t278 z
def t280:=n c264 t0 z
def t281:=n c300 t0 z
def t282:=n c256 t0 z
def t283:=n c422 z z
def t284:=n c44 t283 z
def t285:=n c406 z z
def t286:=n c272 t285 z
def t287:=n c418 z z
def t288:=n c286 t287 z
def t289:=n c268 t0 z
def t290:=n c370 z z
def t291:=n c304 (n c434 z z) z
def t292:=n c394 z z
def t293:=n c44 t292 z
def t294:=n c294 t0 z
def t295:=n c278 t1 z
def t296:=n c378 z z
def t297:=n c384 z z
def t298:=n c284 t0 z
def t299:=n c400 z z
def t300:=n c43 t299 z
def t301:=n c368 z z
def t302:=n c302 (n c432 z z) z
def t303:=n c392 z z
def t304:=n c258 t303 z
def t305:=n c408 z z
def t306:=n c44 t305 z
def t307:=n c388 z z
def t308:=n c420 z z
def t309:=n c288 t308 z
def t310:=n c404 z z
def t311:=n c270 t310 z
def t312:=n c372 z z
def t313:=n c44 (n c436 z z) z
def t314:=n c364 z z
def t315:=n c43 (n c428 z z) z
def t316:=n c280 t0 z
def _root_.PySem.W.Fast.te525099522825942332:=funext (n a0 (n a1 (n c357 (n a7 (n c43 (n c148 (n c44 t163 (n c247 t1 z)) (n c74 t165 t237)) (n c74 (n c127 t167 t239) (n c165 (n c231 t240 z) t241))) (n c59 (n c44 (n c74 t169 t243) (n c44 t171 t245)) (n c97 (n c44 t173 t246) (n c173 t62 t174)))) (n c43 (n c55 (n c74 (n c112 t62 (n c251 t0 z)) (n c153 t176 t234)) (n c44 (n c74 t178 t248) (n c44 t62 t249))) (n c63 (n c82 (n c44 t179 t251) (n c161 (n c227 t252 z) t253)) (n c74 (n c142 t181 t254) (n c177 (n c243 t255 z) t182))))) (n a5 (n a9 (n c53 (n c69 (n c110 t184 (n c43 t256 z)) (n c151 t186 t258)) (n c91 (n c129 t187 t260) (n c167 t261 t234))) (n c43 (n c80 (n c121 t189 t262) (n c43 t62 t263)) (n c99 (n c140 t190 t265) (n c43 (n c241 t266 z) t191)))) (n c45 (n c57 (n c76 (n c114 t193 (n c253 t267 z)) (n c155 t195 t268)) (n c95 (n c136 t197 t234) (n c43 (n c237 t269 z) t270))) (n c43 (n c84 (n c125 t62 t271) (n c163 (n c229 t272 z) t273)) (n c106 (n c144 t198 t275) (n c179 (n c44 t276 z) t1)))))) (n a2 (n a4 (n a8 (n c44 (n c68 (n c109 t200 (n c248 t277 z)) (n c59 t202 t279)) (n c59 (n c128 t204 t280) (n c166 t62 t281))) (n c60 (n c79 (n c59 t206 t282) (n c158 t208 t284)) (n c98 (n c139 t209 t286) (n c174 t261 t0)))) (n c358 (n c56 (n c59 (n c113 t210 (n c252 t1 z)) (n c154 t212 t288)) (n c94 (n c59 t62 t289) (n c170 (n c236 t290 z) t291))) (n c64 (n c83 (n c124 t214 t293) (n c162 t62 t294)) (n c59 (n c143 t216 t295) (n c43 (n c43 t296 z) t0))))) (n a6 (n a10 (n c43 (n c70 (n c43 t219 (n c44 t297 z)) (n c43 t221 t298)) (n c43 (n c130 t222 t300) (n c43 (n c234 t301 z) t302))) (n c44 (n c43 (n c43 t223 t304) (n c160 t261 t234)) (n c100 (n c43 t225 t306) (n c44 (n c242 t0 z) t226)))) (n c46 (n c58 (n c43 (n c115 t227 (n c43 t307 z)) (n c43 t229 t309)) (n c43 (n c43 t231 t311) (n c172 (n c238 t312 z) t313))) (n c66 (n c85 (n c43 t233 t234) (n c164 (n c230 t314 z) t315)) (n c43 (n c145 t234 t316) (n c180 (n c246 t0 z) t235)))))))
def _root_.PySem.W.Fast.tw525099522825942332:=rh te525099522825942332
def t317:=n c44 (n c181 t0 t1) (n c247 t1 (n c511 z z))
def t318:=n c215 t164 (n c479 z z)
def t319:=n c199 t166 t0
def t320:=n c165 (n c231 t240 (n c495 z z)) t241
def t321:=n c43 t168 (n c455 z z)
def t322:=n c223 t170 (n c487 z z)
def t323:=n c43 t172 (n c471 z z)
def t324:=n c173 t217 (n c307 t0 z)
def t325:=n c112 (n c43 t0 (n c451 z z)) (n c251 t0 t0)
def t326:=n c44 t175 (n c483 z z)
def t327:=n c203 t177 t0
def t328:=n c44 (n c43 t0 (n c499 z z)) t249
def t329:=n c193 t1 (n c459 z z)
def t330:=n c161 (n c227 t252 (n c491 z z)) t253
def t331:=n c43 t180 t1
def t332:=n c177 (n c243 t255 t0) (n c311 (n c443 z z) z)
def t333:=n c110 (n c44 t183 t0) (n c43 t256 t1)
def t334:=n c217 t185 t0
def t335:=n c201 t0 (n c465 z z)
def t336:=n c167 (n c44 t1 (n c497 z z)) t234
def t337:=n c191 t188 (n c457 z z)
def t338:=n c43 t0 t1
def t339:=n c209 t1 (n c473 z z)
def t340:=n c43 (n c241 t266 (n c505 z z)) (n c309 (n c441 z z) z)
def t341:=n c114 (n c187 t192 t0) (n c253 t267 (n c517 z z))
def t342:=n c43 t194 (n c485 z z)
def t343:=n c44 t196 (n c469 z z)
def t344:=n c43 (n c237 t269 t1) t270
def t345:=n c163 (n c229 t272 t0) t273
def t346:=n c213 t0 t0
def t347:=n c179 (n c44 t276 (n c509 z z)) (n c44 (n c445 z z) z)
def t348:=n c109 (n c43 t199 (n c448 z z)) (n c248 t277 t0)
def t349:=n c216 t201 (n c480 z z)
def t350:=n c43 t203 (n c464 z z)
def t351:=n c166 t217 t281
def t352:=n c44 t205 t0
def t353:=n c224 t207 t0
def t354:=n c208 t0 (n c472 z z)
def t355:=n c174 (n c44 t1 (n c504 z z)) t234
def t356:=n c113 (n c186 t1 (n c452 z z)) (n c252 t1 (n c516 z z))
def t357:=n c220 t211 t0
def t358:=n c170 (n c236 t290 t0) t291
def t359:=n c196 t213 t0
def t360:=n c162 (n c43 t0 (n c492 z z)) t294
def t361:=n c44 t215 (n c476 z z)
def t362:=n c43 (n c43 t296 t1) (n c43 (n c444 z z) z)
def t363:=n c43 (n c184 t218 (n c450 z z)) (n c44 t297 (n c514 z z))
def t364:=n c43 t220 t1
def t365:=n c202 t1 (n c466 z z)
def t366:=n c43 (n c234 t301 (n c498 z z)) t302
def t367:=n c192 t0 (n c458 z z)
def t368:=n c160 (n c44 t1 (n c490 z z)) t234
def t369:=n c210 t224 t0
def t370:=n c44 (n c242 t0 (n c506 z z)) (n c310 t0 z)
def t371:=n c115 (n c188 t0 t1) (n c43 t307 (n c518 z z))
def t372:=n c222 t228 (n c486 z z)
def t373:=n c206 t230 t0
def t374:=n c172 (n c238 t312 (n c502 z z)) t313
def t375:=n c44 t232 (n c462 z z)
def t376:=n c164 (n c230 t314 t1) t315
def t377:=n c43 t1 (n c478 z z)
def t378:=n c180 (n c246 t0 (n c510 z z)) (n c314 t0 z)
def _root_.PySem.W.Fast.te1598668591541841665:=funext (n a0 (n a1 (n c437 (n a7 (n c43 (n c148 t317 (n c74 t318 t237)) (n c74 (n c127 t319 t239) t320)) (n c59 (n c44 (n c74 t321 t243) (n c44 t322 t245)) (n c97 (n c44 t323 t246) t324))) (n c43 (n c55 (n c74 t325 (n c153 t326 t234)) (n c44 (n c74 t327 t248) t328)) (n c63 (n c82 (n c44 t329 t251) t330) (n c74 (n c142 t331 t254) t332)))) (n a5 (n a9 (n c53 (n c69 t333 (n c151 t334 t258)) (n c91 (n c129 t335 t260) t336)) (n c43 (n c80 (n c121 t337 t262) (n c43 t338 t263)) (n c99 (n c140 t339 t265) t340))) (n c45 (n c57 (n c76 t341 (n c155 t342 t268)) (n c95 (n c136 t343 t234) t344)) (n c43 (n c84 (n c125 t338 t271) t345) (n c106 (n c144 t346 t275) t347))))) (n a2 (n a4 (n a8 (n c44 (n c68 t348 (n c59 t349 t279)) (n c59 (n c128 t350 t280) t351)) (n c60 (n c79 (n c59 t352 t282) (n c158 t353 t284)) (n c98 (n c139 t354 t286) t355))) (n c438 (n c56 (n c59 t356 (n c154 t357 t288)) (n c94 (n c59 t338 t289) t358)) (n c64 (n c83 (n c124 t359 t293) t360) (n c59 (n c143 t361 t295) t362)))) (n a6 (n a10 (n c43 (n c70 t363 (n c43 t364 t298)) (n c43 (n c130 t365 t300) t366)) (n c44 (n c43 (n c43 t367 t304) t368) (n c100 (n c43 t369 t306) t370))) (n c46 (n c58 (n c43 t371 (n c43 t372 t309)) (n c43 (n c43 t373 t311) t374)) (n c66 (n c85 (n c43 t375 t234) t376) (n c43 (n c145 t377 t316) t378))))))
def _root_.PySem.W.Fast.tw1598668591541841665:=rh te1598668591541841665
def _root_.PySem.W.Fast.te1203210482059773554:=funext (n a0 (n a1 (n c519 (n a7 (n c43 (n c148 t317 (n c74 t318 (n c281 t236 t0))) (n c74 (n c127 t319 (n c263 t238 t1)) t320)) (n c59 (n c44 (n c74 t321 (n c44 t242 t0)) (n c44 t322 (n c43 t244 (n c553 z z)))) (n c97 (n c44 t323 (n c271 t0 (n c537 z z))) t324))) (n c43 (n c55 (n c74 t325 (n c153 t326 t144)) (n c44 (n c74 t327 (n c44 t247 (n c533 z z))) t328)) (n c63 (n c82 (n c44 t329 (n c43 t250 (n c525 z z))) t330) (n c74 (n c142 t331 (n c277 t0 (n c541 z z))) t332)))) (n a5 (n a9 (n c53 (n c69 t333 (n c151 t334 (n c44 t257 (n c547 z z)))) (n c91 (n c129 t335 (n c265 t259 t0)) t336)) (n c43 (n c80 (n c121 t337 (n c257 t1 (n c523 z z))) (n c43 t338 (n c291 t0 (n c555 z z)))) (n c99 (n c140 t339 (n c43 t264 (n c539 z z))) t340))) (n c45 (n c57 (n c76 t341 (n c155 t342 (n c287 t0 (n c551 z z)))) (n c95 (n c136 t343 t144) t344)) (n c43 (n c84 (n c125 t338 (n c261 t0 (n c527 z z))) t345) (n c106 (n c144 t346 (n c279 t274 t1)) t347))))) (n a2 (n a4 (n a8 (n c44 (n c68 t348 (n c59 t349 (n c43 t278 (n c546 z z)))) (n c59 (n c128 t350 (n c264 t0 (n c530 z z))) t351)) (n c60 (n c79 (n c59 t352 (n c256 t0 t1)) (n c158 t353 (n c44 t283 (n c554 z z)))) (n c98 (n c139 t354 (n c272 t285 t0)) t355))) (n c520 (n c56 (n c59 t356 (n c154 t357 (n c286 t287 t1))) (n c94 (n c59 t338 (n c268 t0 (n c534 z z))) t358)) (n c64 (n c83 (n c124 t359 (n c44 t292 (n c526 z z))) t360) (n c59 (n c143 t361 (n c278 t1 t0)) t362)))) (n a6 (n a10 (n c43 (n c70 t363 (n c43 t364 (n c284 t0 (n c548 z z)))) (n c43 (n c130 t365 (n c43 t299 (n c532 z z))) t366)) (n c44 (n c43 (n c43 t367 (n c258 t303 t0)) t368) (n c100 (n c43 t369 (n c44 t305 (n c540 z z))) t370))) (n c46 (n c58 (n c43 t371 (n c43 t372 (n c288 t308 t0))) (n c43 (n c43 t373 (n c270 t310 t1)) t374)) (n c66 (n c85 (n c43 t375 t144) t376) (n c43 (n c145 t377 (n c280 t0 (n c544 z z))) t378))))))
def _root_.PySem.W.Fast.tw1203210482059773554:=rh te1203210482059773554
def _root_.PySem.W.Fast.te10113359138683112640:=hp (m a0 (m a1 (m a2 (m c519 (m a4 (m a5 (m a6 (m a7 (m a8 (m a9 (m a10 (m c43 (m c520 (m c45 (m c46 (m c43 (m c44 (m c53 (m c43 (m c55 (m c56 (m c57 (m c58 (m c59 (m c60 (m c43 (m c44 (m c63 (m c64 (m c43 (m c66 (m c148 (m c68 (m c69 (m c70 (m c74 (m c59 (m c76 (m c43 (m c44 (m c79 (m c80 (m c43 (m c82 (m c83 (m c84 (m c85 (m c74 (m c59 (m c91 (m c43 (m c44 (m c94 (m c95 (m c43 (m c97 (m c98 (m c99 (m c100 (m c74 (m c59 (m c106 (m c43 (m c44 (m c109 (m c110 (m c43 (m c112 (m c113 (m c114 (m c115 (m c74 (m c59 (m c121 (m c43 (m c44 (m c124 (m c125 (m c43 (m c127 (m c128 (m c129 (m c130 (m c74 (m c59 (m c136 (m c43 (m c44 (m c139 (m c140 (m c43 (m c142 (m c143 (m c144 (m c145 (m c74 (m c59 (m c151 (m c43 (m c153 (m c154 (m c155 (m c43 (m c44 (m c158 (m c43 (m c160 (m c161 (m c162 (m c163 (m c164 (m c165 (m c166 (m c167 (m c43 (m c44 (m c170 (m c43 (m c172 (m c173 (m c174 (m c43 (m c44 (m c177 (m c43 (m c179 (m c180 (m c181 (m c43 (m c44 (m c184 (m c43 (m c186 (m c187 (m c188 (m c43 (m c44 (m c191 (m c192 (m c193 (m c196 (m c43 (m c44 (m c199 (m c43 (m c201 (m c202 (m c203 (m c43 (m c44 (m c206 (m c43 (m c208 (m c209 (m c210 (m c43 (m c44 (m c213 (m c43 (m c215 (m c216 (m c217 (m c43 (m c44 (m c220 (m c43 (m c222 (m c223 (m c224 (m c43 (m c44 (m c227 (m c43 (m c229 (m c230 (m c231 (m c43 (m c44 (m c234 (m c43 (m c236 (m c237 (m c238 (m c43 (m c44 (m c241 (m c242 (m c243 (m c43 (m c44 (m c246 (m c247 (m c248 (m c43 (m c44 (m c251 (m c252 (m c253 (m c43 (m c44 (m c256 (m c257 (m c258 (m c43 (m c44 (m c261 (m c43 (m c263 (m c264 (m c265 (m c43 (m c44 (m c268 (m c43 (m c270 (m c271 (m c272 (m c43 (m c44 (m c277 (m c278 (m c279 (m c280 (m c281 (m c43 (m c44 (m c284 (m c43 (m c286 (m c287 (m c288 (m c43 (m c44 (m c291 (m c43 (m c293 (m c294 (m c295 (m c43 (m c59 (m c300 (m c43 (m c302 (m c303 (m c304 (m c43 (m c44 (m c307 (m c43 (m c309 (m c310 (m c311 (m c43 (m c44 (m c314 (m c43 (m c316 (m c317 (m c318 (m c43 (m c44 (m c321 (m c43 (m c323 (m c324 (m c325 (m c43 (m c44 (m c328 (m c43 (m c330 (m c331 (m c332 (m c43 (m c44 (m c335 (m c43 (m c337 (m c338 (m c339 (m c43 (m c44 (m c342 (m c343 (m c344 (m c43 (m c44 (m c347 (m c348 (m c349 (m c350 (m c351 (m c352 (m c353 (m c354 (m c355 (m c356 (m c43 (m c44 (m c361 (m c43 (m c363 (m c364 (m c365 (m c43 (m c44 (m c368 (m c43 (m c370 (m c371 (m c372 (m c43 (m c44 (m c375 (m c43 (m c377 (m c378 (m c379 (m c43 (m c44 (m c382 (m c383 (m c384 (m c43 (m c44 (m c387 (m c388 (m c389 (m c43 (m c44 (m c392 (m c393 (m c394 (m c43 (m c44 (m c397 (m c43 (m c399 (m c400 (m c401 (m c43 (m c44 (m c404 (m c43 (m c406 (m c407 (m c408 (m c43 (m c44 (m c411 (m c43 (m c413 (m c414 (m c415 (m c43 (m c44 (m c418 (m c43 (m c420 (m c421 (m c422 (m c43 (m c44 (m c425 (m c43 (m c427 (m c428 (m c429 (m c43 (m c44 (m c432 (m c43 (m c434 (m c435 (m c436 (m c43 (m c44 (m c441 (m c43 (m c443 (m c444 (m c445 (m c43 (m c44 (m c448 (m c43 (m c450 (m c451 (m c452 (m c43 (m c44 (m c455 (m c43 (m c457 (m c458 (m c459 (m c43 (m c44 (m c462 (m c43 (m c464 (m c465 (m c466 (m c43 (m c44 (m c469 (m c43 (m c471 (m c472 (m c473 (m c43 (m c44 (m c476 (m c43 (m c478 (m c479 (m c480 (m c43 (m c44 (m c483 (m c43 (m c485 (m c486 (m c487 (m c43 (m c44 (m c490 (m c491 (m c492 (m c43 (m c44 (m c495 (m c43 (m c497 (m c498 (m c499 (m c43 (m c44 (m c502 (m c43 (m c504 (m c505 (m c506 (m c43 (m c44 (m c509 (m c510 (m c511 (m c43 (m c44 (m c514 (m c43 (m c516 (m c517 (m c518 (m c43 (m c44 (m c523 (m c43 (m c525 (m c526 (m c527 (m c43 (m c44 (m c530 (m c43 (m c532 (m c533 (m c534 (m c43 (m c44 (m c537 (m c43 (m c539 (m c540 (m c541 (m c43 (m c44 (m c544 (m c43 (m c546 (m c547 (m c548 (m c43 (m c44 (m c551 (m c43 (m c553 (m c554 (m c555 (w)))))))))))))))))))))))))))))))))))))))))))))))))))))))))))))))))))))))))))))))))))))))))))))))))))))))))))))))))))))))))))))))))))))))))))))))))))))))))))))))))))))))))))))))))))))))))))))))))))))))))))))))))))))))))))))))))))))))))))))))))))))))))))))))))))))))))))))))))))))))))))))))))))))))))))))))))))))))))))))))))))))))))))))))))))))))))))))))))))))))))))))))))))))))))))))))))))))))))))))))))))))))))))))))))))))))))))))))))))))))))))))))))))))))))))))))))))))))))))))))))))))))))))
def _root_.PySem.W.Fast.tw10113359138683112640:=rh te10113359138683112640
def sl (a b : Nat) (p : Program) : List Stmt := (p.main.body.drop a).take b
def _root_.PySem.W.Fast.te2954534055467569413:=congrArg (sl 0 3) te2556026230567598749
noncomputable def _root_.PySem.W.Fast.tw2954534055467569413:=rh te2954534055467569413
def _root_.PySem.W.Fast.te17689597071018930421:=congrArg (sl 48 12) te2556026230567598749
noncomputable def _root_.PySem.W.Fast.tw17689597071018930421:=rh te17689597071018930421
def _root_.PySem.W.Fast.te9150175009917583936:=congrArg (sl 4 1) te2556026230567598749
noncomputable def _root_.PySem.W.Fast.tw9150175009917583936:=rh te9150175009917583936
def vw (p : Program) : Program := { p with main := { p.main with body := [0,2,3,4,5,6,7,8,10,11,12,13,16,17,18,19,21,22,23,24,25,26,27,28,29,30,32,34,35,36,37,38,39,40,42,43,44,45,46,47,48,49,50,51,52,53,54,55,56,57,58,59,60,61,62,63,64].map fun i => p.main.body.getD i (.Pass ⟨0, 0, 0, 0⟩) } }
def _root_.PySem.W.Fast.te2368083965551480169:=congrArg vw te2556026230567598749
noncomputable def _root_.PySem.W.Fast.tw2368083965551480169:=rh te2368083965551480169
def _root_.PySem.W.Fast.te13054336049684591842:=congrArg (sl 60 5) te2556026230567598749
noncomputable def _root_.PySem.W.Fast.tw13054336049684591842:=rh te13054336049684591842
def _root_.PySem.W.Fast.te12696606693478319971:=congrArg (sl 28 4) te2556026230567598749
noncomputable def _root_.PySem.W.Fast.tw12696606693478319971:=rh te12696606693478319971
def _root_.PySem.W.Fast.te58543112456368989:=congrArg (sl 3 1) te2556026230567598749
noncomputable def _root_.PySem.W.Fast.tw58543112456368989:=rh te58543112456368989
def _root_.PySem.W.Fast.te11984937843818704500:=congrArg (sl 7 1) te2556026230567598749
noncomputable def _root_.PySem.W.Fast.tw11984937843818704500:=rh te11984937843818704500
def _root_.PySem.W.Fast.te12773340780103044205:=congrArg (sl 33 15) te2556026230567598749
noncomputable def _root_.PySem.W.Fast.tw12773340780103044205:=rh te12773340780103044205
def _root_.PySem.W.Fast.te2956777776049025255:=congrArg (sl 6 1) te2556026230567598749
noncomputable def _root_.PySem.W.Fast.tw2956777776049025255:=rh te2956777776049025255
def _root_.PySem.W.Fast.te4692925162559802188:=congrArg (sl 32 1) te2556026230567598749
noncomputable def _root_.PySem.W.Fast.tw4692925162559802188:=rh te4692925162559802188
def _root_.PySem.W.Fast.te3950435100501778142:=congrArg (sl 14 14) te2556026230567598749
noncomputable def _root_.PySem.W.Fast.tw3950435100501778142:=rh te3950435100501778142
def _root_.PySem.W.Fast.te8692065043728341009:=congrArg (sl 5 1) te2556026230567598749
noncomputable def _root_.PySem.W.Fast.tw8692065043728341009:=rh te8692065043728341009
def _root_.PySem.W.Fast.te2091635008942701736:=congrArg (sl 8 6) te2556026230567598749
noncomputable def _root_.PySem.W.Fast.tw2091635008942701736:=rh te2091635008942701736
theorem f {g h : Params → Obj} {l m : Params → Frag} (a : Nat) (x : ∀ P, g P = h P) (k : ∀ P, l P = m P) : ∀ P, (a, g P) :: l P = (a, h P) :: m P := fun P => by rw [x, k]
theorem v : ∀ _ : Params, ([] : Frag) = [] := fun _ => rfl
def x0:=nt (K (oo vn (Data.dict #[] 0)))
def _root_.PySem.W.Fast.te13069973951096962244:=funext (f 2 x0 (f 3 c519 (f 15 c43 (f 17 c53 (f 18 c43 (f 20 c56 (f 21 c57 (f 22 c58 (f 29 c43 (f 30 c66 (f 31 c148 (f 32 c68 (f 35 c74 (f 42 c43 (f 43 c82 (f 44 c83 (f 47 c74 (f 54 c43 (f 55 c97 (f 56 c98 (f 59 c74 (f 66 c43 (f 67 c112 (f 68 c113 (f 71 c74 (f 78 c43 (f 79 c127 (f 80 c128 (f 83 c74 (f 90 c43 (f 91 c142 (f 92 c143 (f 95 c74 (f 102 c43 (f 104 c158 (f 105 c43 (f 107 c161 (f 108 c162 (f 109 c163 (f 110 c164 (f 111 c165 (f 114 c43 (f 116 c170 (f 117 c43 (f 119 c173 (f 120 c174 (f 121 c43 (f 123 c177 (f 124 c43 (f 126 c180 (f 127 c181 (f 128 c43 (f 130 c184 (f 131 c43 (f 133 c187 (f 134 c188 (f 135 c43 (f 138 c192 (f 139 c193 (f 140 c196 (f 141 c43 (f 143 c199 (f 144 c43 (f 146 c202 (f 147 c203 (f 148 c43 (f 150 c206 (f 151 c43 (f 153 c209 (f 154 c210 (f 155 c43 (f 157 c213 (f 158 c43 (f 160 c216 (f 161 c217 (f 162 c43 (f 164 c220 (f 165 c43 (f 167 c223 (f 168 c224 (f 169 c43 (f 171 c227 (f 172 c43 (f 174 c230 (f 175 c231 (f 176 c43 (f 178 c234 (f 179 c43 (f 181 c237 (f 182 c238 (f 183 c43 (f 186 c242 (f 187 c243 (f 188 c43 (f 191 c247 (f 192 c248 (f 193 c43 (f 196 c252 (f 197 c253 (f 198 c43 (f 201 c257 (f 202 c258 (f 203 c43 (f 205 c261 (f 206 c43 (f 208 c264 (f 209 c265 (f 210 c43 (f 212 c268 (f 213 c43 (f 215 c271 (f 216 c272 (f 217 c43 (f 219 c277 (f 220 c278 (f 222 c280 (f 223 c281 (f 224 c43 (f 226 c284 (f 227 c43 (f 229 c287 (f 230 c288 (f 231 c43 (f 233 c291 (f 234 c43 (f 236 c294 (f 237 c295 (f 245 c43 (f 247 c307 (f 248 c43 (f 250 c310 (f 251 c311 (f 252 c43 (f 254 c314 (f 255 c43 (f 257 c317 (f 258 c318 (f 259 c43 (f 261 c321 (f 262 c43 (f 264 c324 (f 265 c325 (f 266 c43 (f 268 c328 (f 269 c43 (f 271 c331 (f 272 c332 (f 273 c43 (f 275 c335 (f 276 c43 (f 278 c338 (f 279 c339 (f 280 c43 (f 283 c343 (f 284 c344 (f 285 c43 (f 288 c348 (f 289 c349 (f 290 c350 (f 291 c351 (f 292 c352 (f 293 c353 (f 294 c354 (f 297 c43 (f 299 c361 (f 300 c43 (f 302 c364 (f 303 c365 (f 304 c43 (f 306 c368 (f 307 c43 (f 309 c371 (f 310 c372 (f 311 c43 (f 313 c375 (f 314 c43 (f 316 c378 (f 317 c379 (f 318 c43 (f 321 c383 (f 322 c384 (f 323 c43 (f 326 c388 (f 327 c389 (f 328 c43 (f 331 c393 (f 332 c394 (f 333 c43 (f 335 c397 (f 336 c43 (f 338 c400 (f 339 c401 (f 340 c43 (f 342 c404 (f 343 c43 (f 345 c407 (f 346 c408 (f 347 c43 (f 349 c411 (f 350 c43 (f 352 c414 (f 353 c415 (f 354 c43 (f 356 c418 (f 357 c43 (f 359 c421 (f 360 c422 (f 361 c43 (f 363 c425 (f 364 c43 (f 366 c428 (f 367 c429 (f 368 c43 (f 370 c432 (f 371 c43 (f 373 c435 (f 374 c436 (f 375 c43 (f 377 c441 (f 378 c43 (f 380 c444 (f 381 c445 (f 382 c43 (f 384 c448 (f 385 c43 (f 387 c451 (f 388 c452 (f 389 c43 (f 391 c455 (f 392 c43 (f 394 c458 (f 395 c459 (f 396 c43 (f 398 c462 (f 399 c43 (f 401 c465 (f 402 c466 (f 403 c43 (f 405 c469 (f 406 c43 (f 408 c472 (f 409 c473 (f 410 c43 (f 412 c476 (f 413 c43 (f 415 c479 (f 416 c480 (f 417 c43 (f 419 c483 (f 420 c43 (f 422 c486 (f 423 c487 (f 424 c43 (f 427 c491 (f 428 c492 (f 429 c43 (f 431 c495 (f 432 c43 (f 434 c498 (f 435 c499 (f 436 c43 (f 438 c502 (f 439 c43 (f 441 c505 (f 442 c506 (f 443 c43 (f 446 c510 (f 447 c511 (f 448 c43 (f 450 c514 (f 451 c43 (f 453 c517 (f 454 c518 (f 455 c43 (f 457 c523 (f 458 c43 (f 460 c526 (f 461 c527 (f 462 c43 (f 464 c530 (f 465 c43 (f 467 c533 (f 468 c534 (f 469 c43 (f 471 c537 (f 472 c43 (f 474 c540 (f 475 c541 (f 476 c43 (f 478 c544 (f 479 c43 (f 481 c547 (f 482 c548 (f 483 c43 (f 485 c551 (f 486 c43 (f 488 c554 (f 489 c555 (v)))))))))))))))))))))))))))))))))))))))))))))))))))))))))))))))))))))))))))))))))))))))))))))))))))))))))))))))))))))))))))))))))))))))))))))))))))))))))))))))))))))))))))))))))))))))))))))))))))))))))))))))))))))))))))))))))))))))))))))))))))))))))))))))))))))))))))))))))))))))))))))))))))))))))))
def _root_.PySem.W.Fast.tw13069973951096962244:=rh te13069973951096962244
end
end Tw
open PySem PySem.W PyProof.Rows
set_option maxRecDepth 100000 in
set_option maxHeartbeats 0 in
theorem PySem.Challenge.cw_stripfold_k09_refused_holds : PySem.Challenge.rw_stripfold_k09_refused.Holds := by
 w_on; o_law; k_head; (case hw => w_witness2)
 k_fill
 refine Sf.walk (l := PySem.Challenge.rw_stripfold_k09_refused) (cT := 222) (Tb := 218) rfl rfl (fun w h Y => PySem.W.km_in_of Y) rfl (fun w => by kernel_rfl) (fun w => by kernel_rfl) ?F
 case F =>
  intro w mg fa h KX G hmg
  refine' Sf.all_mk KX G hmg ?a1 ?l1 ?c1 ?k1 ?a2 ?l2 ?c2 ?k2 ?a3 ?l3 ?c3 ?k3 ?a4 ?l4 ?c4 ?k4 ?a5 ?l5 ?c5 ?k5 ?t5 ?a6 ?l6 ?c6 ?k6 ?a7 ?l7 ?c7 ?k7 ?a8 ?l8 ?c8 ?k8 ?a9 ?l9 ?c9 ?k9 ?a10 ?l10 ?c10 ?k10 ?a11 ?l11 ?c11 ?k11 ?a12 ?l12 ?c12 ?k12 ?a13 ?l13 ?c13 ?k13 ?a14 ?l14 ?c14 ?k14 ?a15 ?l15 ?c15 ?k15 ?a16 ?l16 ?c16 ?k16 ?a17 ?l17 ?c17 ?k17 ?a18 ?l18 ?c18 ?k18 ?a19 ?l19 ?c19 ?k19 ?a20 ?l20 ?c20 ?k20 ?a21 ?l21 ?c21 ?k21 ?a22 ?l22 ?c22 ?k22 ?a23 ?l23 ?c23 ?k23 ?a24 ?l24 ?c24 ?k24 ?a25 ?l25 ?c25 ?k25 ?a26 ?l26 ?c26 ?k26 ?a27 ?l27 ?c27 ?k27 ?a28 ?l28 ?c28 ?k28 ?a29 ?l29 ?c29 ?k29 ?a30 ?l30 ?c30 ?k30 ?a31 ?l31 ?c31 ?k31 ?a32 ?l32 ?c32 ?k32 ?a33 ?l33 ?c33 ?k33 ?a34 ?l34 ?c34 ?k34 ?a35 ?l35 ?c35 ?k35 ?a36 ?l36 ?c36 ?k36 ?a37 ?l37 ?c37 ?k37 ?a38 ?l38 ?c38 ?k38 ?a39 ?l39 ?c39 ?k39 ?a40 ?l40 ?c40 ?k40 ?a41 ?l41 ?c41 ?k41 ?a42 ?l42 ?c42 ?k42 ?a43 ?l43 ?c43 ?k43 ?a44 ?l44 ?c44 ?k44 ?a45 ?l45 ?c45 ?k45 ?a46 ?l46 ?c46 ?k46 ?a47 ?l47 ?c47 ?k47 ?a48 ?l48 ?c48 ?k48 ?cc_MOST_STAMPS ?aC ?ma0 ?mi0 ?ml0 ?mc0 ?mk0 ?pg ?hd ?po ?sa ?mks ?kc ?n_at ?n_pile ?n_opened ?ae0 ?ae1 ?ae2 ?ae3 ?ae4 ?ae5 ?aS ?zV ?xi0 ?xi1 ?xi2 ?xi3 ?xi4 ?xi5 ?q00 ?q01 ?q02 ?q03 ?q04 ?q05 ?q10 ?q11 ?q12 ?q13 ?q14 ?q15 ?q20 ?q21 ?q22 ?q23 ?q24 ?q25 ?q30 ?q31 ?q32 ?q33 ?q34 ?q35 ?q40 ?q41 ?q42 ?q43 ?q44 ?q45 ?q50 ?q51 ?q52 ?q53 ?q54 ?q55 ?qv0 ?qv1 ?qv2 ?qv3 ?qv4 ?qv5 ?lcl0 ?lcl1 ?lcl2 ?lcl3 ?lcl4 ?lcl5 ?lclS ?ln0 ?lk0 ?li0 ?ln1 ?lk1 ?li1 ?ln2 ?lk2 ?li2 ?ln3 ?lk3 ?li3 ?ln4 ?lk4 ?li4 ?lnS ?lkS ?liS ?xl ?xcc ?xkp ?xfi ?sga ?srd ?sfd ?sa1 ?n_one ?n_oth ?kc1 ?hd1 ?htb ?z1 ?z2 ?z3 ?z4 ?z5 ?z6 ?z7 ?z8 ?z9 ?z10 ?z11 ?z12 ?z13 ?z14 ?z15
  (case a1 => k_is); (case l1 => k_is); (case c1 => k_is); (case k1 => k_is)
  (case a2 => k_is); (case l2 => k_is); (case c2 => k_is); (case k2 => k_is)
  (case a3 => k_is); (case l3 => k_is); (case c3 => k_is); (case k3 => k_is)
  (case a4 => k_is); (case l4 => k_is); (case c4 => k_is); (case k4 => k_is)
  (case a5 => k_is); (case l5 => k_is); (case c5 => k_is); (case k5 => k_is); (case t5 => k_is)
  (case a6 => k_is); (case l6 => k_is); (case c6 => k_is); (case k6 => k_is)
  (case a7 => k_is); (case l7 => k_is); (case c7 => k_is); (case k7 => k_is)
  (case a8 => k_is); (case l8 => k_is); (case c8 => k_is); (case k8 => k_is)
  (case a9 => k_is); (case l9 => k_is); (case c9 => k_is); (case k9 => k_is)
  (case a10 => k_is); (case l10 => k_is); (case c10 => k_is); (case k10 => k_is)
  (case a11 => k_is); (case l11 => k_is); (case c11 => k_is); (case k11 => k_is)
  (case a12 => k_is); (case l12 => k_is); (case c12 => k_is); (case k12 => k_is)
  (case a13 => k_is); (case l13 => k_is); (case c13 => k_is); (case k13 => k_is)
  (case a14 => k_is); (case l14 => k_is); (case c14 => k_is); (case k14 => k_is)
  (case a15 => k_is); (case l15 => k_is); (case c15 => k_is); (case k15 => k_is)
  (case a16 => k_is); (case l16 => k_is); (case c16 => k_is); (case k16 => k_is)
  (case a17 => k_is); (case l17 => k_is); (case c17 => k_is); (case k17 => k_is)
  (case a18 => k_is); (case l18 => k_is); (case c18 => k_is); (case k18 => k_is)
  (case a19 => k_is); (case l19 => k_is); (case c19 => k_is); (case k19 => k_is)
  (case a20 => k_is); (case l20 => k_is); (case c20 => k_is); (case k20 => k_is)
  (case a21 => k_is); (case l21 => k_is); (case c21 => k_is); (case k21 => k_is)
  (case a22 => k_is); (case l22 => k_is); (case c22 => k_is); (case k22 => k_is)
  (case a23 => k_is); (case l23 => k_is); (case c23 => k_is); (case k23 => k_is)
  (case a24 => k_is); (case l24 => k_is); (case c24 => k_is); (case k24 => k_is)
  (case a25 => k_is); (case l25 => k_is); (case c25 => k_is); (case k25 => k_is)
  (case a26 => k_is); (case l26 => k_is); (case c26 => k_is); (case k26 => k_is)
  (case a27 => k_is); (case l27 => k_is); (case c27 => k_is); (case k27 => k_is)
  (case a28 => k_is); (case l28 => k_is); (case c28 => k_is); (case k28 => k_is)
  (case a29 => k_is); (case l29 => k_is); (case c29 => k_is); (case k29 => k_is)
  (case a30 => k_is); (case l30 => k_is); (case c30 => k_is); (case k30 => k_is)
  (case a31 => k_is); (case l31 => k_is); (case c31 => k_is); (case k31 => k_is)
  (case a32 => k_is); (case l32 => k_is); (case c32 => k_is); (case k32 => k_is)
  (case a33 => k_is); (case l33 => k_is); (case c33 => k_is); (case k33 => k_is)
  (case a34 => k_is); (case l34 => k_is); (case c34 => k_is); (case k34 => k_is)
  (case a35 => k_is); (case l35 => k_is); (case c35 => k_is); (case k35 => k_is)
  (case a36 => k_is); (case l36 => k_is); (case c36 => k_is); (case k36 => k_is)
  (case a37 => k_is); (case l37 => k_is); (case c37 => k_is); (case k37 => k_is)
  (case a38 => k_is); (case l38 => k_is); (case c38 => k_is); (case k38 => k_is)
  (case a39 => k_is); (case l39 => k_is); (case c39 => k_is); (case k39 => k_is)
  (case a40 => k_is); (case l40 => k_is); (case c40 => k_is); (case k40 => k_is)
  (case a41 => k_is); (case l41 => k_is); (case c41 => k_is); (case k41 => k_is)
  (case a42 => k_is); (case l42 => k_is); (case c42 => k_is); (case k42 => k_is)
  (case a43 => k_is); (case l43 => k_is); (case c43 => k_is); (case k43 => k_is)
  (case a44 => k_is); (case l44 => k_is); (case c44 => k_is); (case k44 => k_is)
  (case a45 => k_is); (case l45 => k_is); (case c45 => k_is); (case k45 => k_is)
  (case a46 => k_is); (case l46 => k_is); (case c46 => k_is); (case k46 => k_is)
  (case a47 => k_is); (case l47 => k_is); (case c47 => k_is); (case k47 => k_is)
  (case a48 => k_is); (case l48 => k_is); (case c48 => k_is); (case k48 => k_is)
  (case cc_MOST_STAMPS => k_is)
  (case aC => k_is)
  (case ma0 => k_is)
  (case mi0 => k_is)
  (case ml0 => k_is)
  (case mc0 => k_is)
  (case mk0 => k_is)
  (case pg => k_is)
  (case hd => k_is)
  (case po => k_is)
  (case sa => k_is)
  (case mks => k_is)
  (case kc => k_is)
  (case n_at => k_is)
  (case n_pile => k_is)
  (case n_opened => k_is)
  (case ae0 => k_is)
  (case ae1 => k_is)
  (case ae2 => k_is)
  (case ae3 => k_is)
  (case ae4 => k_is)
  (case ae5 => k_is)
  (case aS => k_is)
  (case zV => k_is)
  (case xi0 => exact ⟨by k_is, by k_is, Sf.isSome_of (by k_is), by k_is, by k_is, by k_is, by k_is, by k_is⟩)
  (case xi1 => exact ⟨by k_is, by k_is, Sf.isSome_of (by k_is), by k_is, by k_is, by k_is, by k_is, by k_is⟩)
  (case xi2 => exact ⟨by k_is, by k_is, Sf.isSome_of (by k_is), by k_is, by k_is, by k_is, by k_is, by k_is⟩)
  (case xi3 => exact ⟨by k_is, by k_is, Sf.isSome_of (by k_is), by k_is, by k_is, by k_is, by k_is, by k_is⟩)
  (case xi4 => exact ⟨by k_is, by k_is, Sf.isSome_of (by k_is), by k_is, by k_is, by k_is, by k_is, by k_is⟩)
  (case xi5 => exact ⟨by k_is, by k_is, Sf.isSome_of (by k_is), by k_is, by k_is, by k_is, by k_is, by k_is⟩)
  (case q00 => kit_is)
  (case q01 => kit_is)
  (case q02 => kit_is)
  (case q03 => kit_is)
  (case q04 => kit_is)
  (case q05 => kit_is)
  (case q10 => kit_is)
  (case q11 => kit_is)
  (case q12 => kit_is)
  (case q13 => kit_is)
  (case q14 => kit_is)
  (case q15 => kit_is)
  (case q20 => kit_is)
  (case q21 => kit_is)
  (case q22 => kit_is)
  (case q23 => kit_is)
  (case q24 => kit_is)
  (case q25 => kit_is)
  (case q30 => kit_is)
  (case q31 => kit_is)
  (case q32 => kit_is)
  (case q33 => kit_is)
  (case q34 => kit_is)
  (case q35 => kit_is)
  (case q40 => kit_is)
  (case q41 => kit_is)
  (case q42 => kit_is)
  (case q43 => kit_is)
  (case q44 => kit_is)
  (case q45 => kit_is)
  (case q50 => kit_is)
  (case q51 => kit_is)
  (case q52 => kit_is)
  (case q53 => kit_is)
  (case q54 => kit_is)
  (case q55 => kit_is)
  (case qv0 => kit_is)
  (case qv1 => kit_is)
  (case qv2 => kit_is)
  (case qv3 => kit_is)
  (case qv4 => kit_is)
  (case qv5 => kit_is)
  (case lcl0 => k_is)
  (case lcl1 => k_is)
  (case lcl2 => k_is)
  (case lcl3 => k_is)
  (case lcl4 => k_is)
  (case lcl5 => k_is)
  (case lclS => k_is)
  (case ln0 => k_is)
  (case lk0 => exact rfl)
  (case li0 => k_is)
  (case ln1 => k_is)
  (case lk1 => exact rfl)
  (case li1 => k_is)
  (case ln2 => k_is)
  (case lk2 => exact rfl)
  (case li2 => k_is)
  (case ln3 => k_is)
  (case lk3 => exact rfl)
  (case li3 => k_is)
  (case ln4 => k_is)
  (case lk4 => exact rfl)
  (case li4 => k_is)
  (case lnS => k_is)
  (case lkS => exact rfl)
  (case liS => k_is)
  (case xl => k_is)
  (case xcc => k_is)
  (case xkp => k_is)
  (case xfi => k_is)
  (case sga => k_is)
  (case srd => k_is)
  (case sfd => k_is)
  (case sa1 => k_is)
  (case n_one => k_is)
  (case n_oth => k_is)
  (case kc1 => k_is)
  (case hd1 => k_is)
  (case htb => kernel_rfl)
  (case z1 => k_is); (case z2 => k_is); (case z3 => k_is); (case z4 => k_is); (case z5 => k_is); (case z6 => k_is); (case z7 => k_is); (case z8 => k_is); (case z9 => k_is); (case z10 => k_is); (case z11 => k_is); (case z12 => k_is); (case z13 => k_is); (case z14 => k_is); (case z15 => k_is)
#print axioms PySem.Challenge.cw_stripfold_k09_refused_holds
