import PyProof.Rows.All
import Wide.All
import OpenK.AllK
import Wide.FinOn
import Lean
import PyProof.EqAt
import PyProof.EqKinds
import PyProof.TupleCall
import PyProof.NeKinds
import PyProof.EnumMake
import PyProof.ListRange
import PyProof.Rows.Range3
import PyProof.Rows.SortRuns
import PyProof.Rows.SortWalk
import PySem.Challenge.RW_stripfold_k06_bench_deeds
set_option Elab.async false
set_option linter.all false
set_option maxRecDepth 100000
namespace L2
open PySem PySem.Spec PyProof.Rows
abbrev Key:=Sum Int Str
def keyIs:Key→Value→Bool
 | .inl k,v=>Value.isInt k v
 | .inr x,v=>Value.isStrOf x v
def keyH (w:World):Key→Int
 | .inl k=>hashInt k
 | .inr x=>hashStr w x
theorem keyIs_shape:∀ {k:Key} {v:Value},keyIs k v=true→(∃ i t,k=Sum.inl i∧v=Value.int i t)∨(∃ x t,k=Sum.inr x∧v=Value.str x t)
 | .inl i,v,h=>by
  obtain ⟨t,e⟩:=Value.isInt_shape (k:=i) (v:=v) h
  exact .inl ⟨i,t,rfl,e⟩
 | .inr x,v,h=>by
  obtain ⟨t,e⟩:=Value.isStrOf_shape (x:=x) (v:=v) h
  exact .inr ⟨x,t,rfl,e⟩
theorem key_ll (a b:Int):decide ((Sum.inl a:Key)=Sum.inl b)=(a == b):=by
 by_cases e:a=b
 ·subst e; simp
 ·have h:¬ (Sum.inl a:Key)=Sum.inl b:=fun q=>e (Sum.inl.inj q)
  rw [decide_eq_false h]
  exact (beq_eq_false_iff_ne.mpr e).symm
theorem key_rr (a b:Str):decide ((Sum.inr a:Key)=Sum.inr b)=decide (a=b):=by
 by_cases e:a=b
 ·subst e; simp
 ·have h:¬ (Sum.inr a:Key)=Sum.inr b:=fun q=>e (Sum.inr.inj q)
  rw [decide_eq_false h,decide_eq_false e]
theorem key_lr (a:Int) (b:Str):decide ((Sum.inl a:Key)=Sum.inr b)=false:=decide_eq_false (fun q=>nomatch q)
theorem key_rl (a:Str) (b:Int):decide ((Sum.inr a:Key)=Sum.inl b)=false:=decide_eq_false (fun q=>nomatch q)
def mixKind (prog:Program) (w:World):PySem.KeyKind prog w Key where
 is:=keyIs
 hash:=keyH w
 inj:=fun v a b ha hb=>by
  rcases keyIs_shape ha with ⟨i,t,rfl,rfl⟩ | ⟨x,t,rfl,rfl⟩
  ·rcases keyIs_shape hb with ⟨j,u,rfl,e⟩ | ⟨y,u,rfl,e⟩
   ·injection e with e1 _; rw [e1]
   ·exact nomatch e
  ·rcases keyIs_shape hb with ⟨j,u,rfl,e⟩ | ⟨y,u,rfl,e⟩
   ·exact nomatch e
   ·injection e with e1 _; rw [e1]
 byValue:=fun k v h=>by
  rcases keyIs_shape h with ⟨i,t,rfl,rfl⟩ | ⟨x,t,rfl,rfl⟩ <;> rfl
 pyHash:=fun hv h=>by
  rcases keyIs_shape hv with ⟨i,t,rfl,rfl⟩ | ⟨x,t,rfl,rfl⟩
  ·exact wpAny_pyHash_int h
  ·exact wpAny_pyHash_str h
 eqBool:=fun hu hv h=>by
  rcases keyIs_shape hu with ⟨i,t,rfl,rfl⟩ | ⟨x,t,rfl,rfl⟩
  ·rcases keyIs_shape hv with ⟨j,u,rfl,rfl⟩ | ⟨y,u,rfl,rfl⟩
   ·rw [key_ll] at h; exact wpAny_eqBool_int h
   ·rw [key_lr] at h; exact SeqAt.EqAt.int_str i t y u _ _ _ _ h
  ·rcases keyIs_shape hv with ⟨j,u,rfl,rfl⟩ | ⟨y,u,rfl,rfl⟩
   ·rw [key_rl] at h; exact SeqAt.EqAt.str_int x t j u _ _ _ _ h
   ·rw [key_rr] at h; exact wpAny_eqBool_str h
 «strs»:=fun k x t v h=>by
  rcases keyIs_shape h with ⟨i,u,rfl,e⟩ | ⟨y,u,rfl,e⟩
  ·exact nomatch e
  ·injection e with e1 _
   subst e1
   cases v <;> rfl
end L2
namespace L2
open PySem PySem.Spec PyProof.Rows
inductive V where
 | non | bl (b:Bool) | int (i:Int) | str (x:Str) | byt (b:Array UInt8) | flt (b:UInt64) | ref (a:Addr) | ty (n:String)
 deriving DecidableEq
def RelV:V→Value→Prop
 | .non,u=>u=Value.none
 | .bl b,u=>u=Value.bool b
 | .int i,u=>∃ t,u=Value.int i t
 | .str x,u=>∃ t,u=Value.str x t
 | .byt b,u=>∃ t,u=Value.bytes b t
 | .flt b,u=>∃ t,u=Value.float b t
 | .ref a,u=>u=Value.ref a
 | .ty n,u=>u=Value.type n
abbrev Vals:List V→List Value→Prop:=Paired RelV
theorem Vals.length {xs:List V} {us:List Value} (r:Vals xs us):xs.length=us.length:=Paired.length r
theorem Vals.get:∀ {xs:List V} {us:List Value} {i:Nat} {x:V},Vals xs us→xs[i]?=some x→∃ u,us[i]?=some u∧RelV x u
 | _,_,_,_,.nil,e=>by simp at e
 | _,_,0,_,.cons r _,e=>by simp at e; subst e; exact ⟨_,rfl,r⟩
 | _,_,i+1,x,.cons _ t,e=>by
  obtain ⟨u,h1,h2⟩:=Vals.get (i:=i) (x:=x) t (by simpa using e)
  exact ⟨u,by simpa using h1,h2⟩
theorem Vals.set {x:V} {u:Value} (r:RelV x u):∀ {xs:List V} {us:List Value} (i:Nat),Vals xs us→Vals (xs.set i x) (us.set i u)
 | _,_,_,.nil=>.nil
 | _,_,0,.cons _ t=>.cons r t
 | _,_,i+1,.cons q t=>.cons q (Vals.set r i t)
theorem Vals.append:∀ {xs ys:List V} {us ws:List Value},Vals xs us→Vals ys ws→Vals (xs++ys) (us++ws)
 | _,_,_,_,.nil,s=>s
 | _,_,_,_,.cons r t,s=>.cons r (Vals.append t s)
theorem Vals.take:∀ {xs:List V} {us:List Value} (n:Nat),Vals xs us→Vals (xs.take n) (us.take n)
 | _,_,0,_=>.nil
 | _,_,_+1,.nil=>.nil
 | _,_,n+1,.cons r t=>.cons r (Vals.take n t)
theorem Vals.drop:∀ {xs:List V} {us:List Value} (n:Nat),Vals xs us→Vals (xs.drop n) (us.drop n)
 | _,_,0,r=>r
 | _,_,_+1,.nil=>.nil
 | _,_,n+1,.cons _ t=>Vals.drop n t
theorem Vals.none_of:∀ {xs:List V} {us:List Value} {i:Nat},Vals xs us→xs[i]?=none→us[i]?=none:=fun {xs us i} r e=>by
 have h1:=r.length
 have h2:xs.length≤i:=List.getElem?_eq_none_iff.mp e
 exact List.getElem?_eq_none_iff.mpr (by lia)
def RelO:Option V→Option Value→Prop
 | some v,some u=>RelV v u
 | none,none=>True
 | _,_=>False
def KV {κ:Type}:List (κ×V)→List (κ×Value)→Prop:=Paired fun (p:κ×V) (q:κ×Value)=>p.1=q.1∧RelV p.2 q.2
def kV:Key→V
 | .inl i=>.int i
 | .inr x=>.str x
inductive HO where
  | lst (xs:List V)
  | tup (xs:List V)
  | dK (kvs:List (Key×V)) | dT (kvs:List (List Key×V))
  | set (S:Int→Bool) (n:Nat)
  | ins (C dx:Addr) (fs:List (Str×V))
  | own (x:Addr)
  | xd (fs:List (Str×V))
  | met (f x:Addr)
  | rng (lo hi:Int)
  | frz (o:Obj) (u:HO)
  | tbl (ps:Array Value)
  | ext (φ:Heap→Prop)
abbrev Hp:=Addr→Option HO
def upd (H:Hp) (a:Addr) (o:HO):Hp:=fun b=>if b=a then some o else H b
theorem upd_same {H:Hp} {a:Addr} {o:HO}:upd H a o a=some o:=by unfold upd; rw [if_pos rfl]
theorem upd_ne {H:Hp} {a b:Addr} {o:HO} (h:b≠a):upd H a o b=H b:=by unfold upd; rw [if_neg h]
theorem ne_of_none {H:Hp} {a b:Addr} {o:HO} (h:H a=some o) (h':H b=none):a≠b:=by
 intro e; subst e; rw [h] at h'; cases h'
section
variable (P:Program) (w:World)
def ObjOk (H:Hp) (h:Heap) (a:Addr):HO→Prop
 | .lst xs=>xs.length≤sizeLine∧∃ (its:List Value) (n:Nat),Vals xs its∧h.get? a=some { cls:=.type "list",data:=.seq its.toArray n }
 | .tup xs=>xs.length≤sizeLine∧∃ its:List Value,Vals xs its∧IsTup h a its.toArray
 | .dK kvs=>kvs.length≤sizeLine∧(a == sysModules)=false∧∃ vs,KV kvs vs∧h.DictOf (mixKind P w) a vs
 | .dT kvs=>kvs.length≤sizeLine∧(a == sysModules)=false∧∃ xs:List (List Key×Addr×Value),
   Paired (fun (p:List Key×V) (q:List Key×Addr×Value)=>p.1=q.1∧H q.2.1=some (.tup (p.1.map kV))∧RelV p.2 q.2.2) kvs xs ∧
   ∃ o es ep,h.get? a=some o∧o.ExactDict∧o.data=.dict es ep∧es.toList=xs.map (entryOfKey (tupleKind (mixKind P w)))∧(xs.map (·.1)).Nodup
 | .set S n=>h.SetOf (intKind P w) a S n
 | .ins C dx fs=>H dx=some (.own a)∧fs.length≤1000∧dx≠a∧h.get? a=some (PySem.W.instObj C dx) ∧
   ∃ mA,h.Ns1 dx mA∧(∀ f,RelO (fs.lookup f) (mA f))∧PySem.Within mA (fs.map (·.1))
 | .own _=>∃ o,h.get? a=some o
 | .xd fs=>∃ mA,h.Ns1 a mA∧∀ f,RelO (fs.lookup f) (mA f)
 | .rng lo hi=>∃ t u v,h.get? a=some { cls:=.type "range",data:=.fields #[.int lo t,.int hi u,.int 1 v] }
 | .frz o u=>h.get? a=some o∧ObjOk H h a u
 | .tbl ps=>h.get? a=some { cls:=.none,data:=.fields ps }
 | .met f x=>h.get? a=some (PySem.W.methodObj (.ref f) (.ref x))
 | .ext φ=>φ h∧(∃ o,h.get? a=some o)∧∀ h1 h2:Heap,φ h1→(∀ o,h1.get? a=some o→h2.get? a=some o)→φ h2
def HOk (H:Hp) (h:Heap):Prop:=∀ a o,H a=some o→ObjOk P w H h a o
end
section
variable {P:Program} {w:World} {H H':Hp} {h h':Heap} {a:Addr} {o:HO}
theorem ObjOk.lt (x:ObjOk P w H h a o):a<h.objs.size:=by
 cases o with
 | lst xs=>obtain ⟨_,_,_,_,e⟩:=x; exact Heap.lt_size e
 | tup xs=>obtain ⟨_,_,_,p⟩:=x; exact p.lt
 | dK kvs=>obtain ⟨_,_,_,_,o,_,_,e,_⟩:=x; exact Heap.lt_size e
 | dT kvs=>obtain ⟨_,_,_,_,o,_,_,e,_⟩:=x; exact Heap.lt_size e
 | set S n=>obtain ⟨o,_,_,_,e,_⟩:=x; exact Heap.lt_size e
 | ins C dx fs=>obtain ⟨_,_,_,e,_⟩:=x; exact Heap.lt_size e
 | own y=>obtain ⟨_,e⟩:=x; exact Heap.lt_size e
 | xd fs=>obtain ⟨_,⟨_,_,_,e,_⟩,_⟩:=x; exact Heap.lt_size e
 | rng lo hi=>obtain ⟨_,_,_,e⟩:=x; exact Heap.lt_size e
 | frz ob u=>obtain ⟨e,_⟩:=x; exact Heap.lt_size e
 | tbl ps=>exact Heap.lt_size (show h.get? a=some _ from x)
 | met f y=>exact Heap.lt_size (show h.get? a=some _ from x)
 | ext φ=>obtain ⟨_,⟨_,e⟩,_⟩:=x; exact Heap.lt_size e
theorem Paired.mapP {α β:Type} {F G:α→β→Prop}:∀ {l₁:List α} {l₂:List β},Paired F l₁ l₂→(∀ a b,F a b→G a b)→Paired G l₁ l₂
 | _,_,.nil,_=>.nil
 | _,_,.cons r t,f=>.cons (f _ _ r) (Paired.mapP t f)
theorem ObjOk.stay (x:ObjOk P w H h a o) (k:∀ b u,(b=a∨H b=some (.own a))→h.get? b=some u→h'.get? b=some u)
  (ho:∀ b,H b=some (.own a)→H' b=some (.own a)) (ht:∀ b xs,H b=some (.tup xs)→H' b=some (.tup xs)):ObjOk P w H' h' a o:=by
 induction o with
 | lst xs=>obtain ⟨z,its,n,r,e⟩:=x; exact ⟨z,its,n,r,k _ _ (.inl rfl) e⟩
 | tup xs=>obtain ⟨z,its,r,ob,e,c⟩:=x; exact ⟨z,its,r,ob,k _ _ (.inl rfl) e,c⟩
 | dK kvs=>obtain ⟨z,y,vs,r,ob,es,ep,e,c⟩:=x; exact ⟨z,y,vs,r,ob,es,ep,k _ _ (.inl rfl) e,c⟩
 | dT kvs =>
  obtain ⟨z,y,xs,r,ob,es,ep,e,c⟩:=x
  exact ⟨z,y,xs,Paired.mapP r fun p q z=>⟨z.1,ht _ _ z.2.1,z.2.2⟩,ob,es,ep,k _ _ (.inl rfl) e,c⟩
 | set S n=>obtain ⟨ob,es,ep,t,e,c⟩:=x; exact ⟨ob,es,ep,t,k _ _ (.inl rfl) e,c⟩
 | ins C dx fs =>
  obtain ⟨d,z,ne,e,mA,⟨od,es,ep,e2,c⟩,r⟩:=x
  exact ⟨ho _ d,z,ne,k _ _ (.inl rfl) e,mA,⟨od,es,ep,k _ _ (.inr d) e2,c⟩,r⟩
 | own y=>obtain ⟨ob,e⟩:=x; exact ⟨ob,k _ _ (.inl rfl) e⟩
 | xd fs=>obtain ⟨mA,⟨od,es,ep,e,c⟩,r⟩:=x; exact ⟨mA,⟨od,es,ep,k _ _ (.inl rfl) e,c⟩,r⟩
 | rng lo hi=>obtain ⟨t,u,v,e⟩:=x; exact ⟨t,u,v,k _ _ (.inl rfl) e⟩
 | frz ob u ih=>obtain ⟨e,q⟩:=x; exact ⟨k _ _ (.inl rfl) e,ih q⟩
 | tbl ps =>
  have e:h.get? a=some { cls:=.none,data:=.fields ps }:=x
  show h'.get? a=some { cls:=.none,data:=.fields ps }
  exact k a _ (.inl rfl) e
 | met f y =>
  have e:h.get? a=some (PySem.W.methodObj (.ref f) (.ref y)):=x
  show h'.get? a=some (PySem.W.methodObj (.ref f) (.ref y))
  exact k a _ (.inl rfl) e
 | ext φ=>obtain ⟨p,⟨o,e⟩,st⟩:=x; exact ⟨st _ _ p fun o q=>k _ _ (.inl rfl) q,⟨o,k _ _ (.inl rfl) e⟩,st⟩
theorem HOk.lt (x:HOk P w H h) (e:H a=some o):a<h.objs.size:=(x a o e).lt
theorem HOk.fresh (x:HOk P w H h) (e:h.objs.size≤a):H a=none:=by
 cases q:H a with
 | none=>rfl
 | some u=>exact absurd (Nat.lt_of_lt_of_le (x.lt q) e) (Nat.lt_irrefl _)
theorem HOk.kept (x:HOk P w H h) (k:∀ b u,h.get? b=some u→h'.get? b=some u):HOk P w H h':=fun a o e =>
 (x a o e).stay (fun b u _ q=>k b u q) (fun _ q=>q) fun _ _ q=>q
theorem HOk.laid (x:HOk P w H h) (k:∀ b u,h.get? b=some u→h'.get? b=some u) (hp:h.objs.size≤a) (new:ObjOk P w (upd H a o) h' a o):HOk P w (upd H a o) h':=fun b u e=>by
 have hn:=x.fresh hp
 by_cases hb:b=a
 ·subst hb; rw [upd_same] at e; cases e; exact new
 ·rw [upd_ne hb] at e
  exact (x b u e).stay (fun c v _ q=>k c v q) (fun c q=>by rw [upd_ne (ne_of_none q hn)]; exact q) fun c xs q=>by rw [upd_ne (ne_of_none q hn)]; exact q
end
def Rd (H:Hp) (a:Addr) (u:HO):Prop:=H a=some u∨∃ o,H a=some (.frz o u)
theorem Rd.of {H:Hp} {a:Addr} {u:HO} (h:H a=some u):Rd H a u:=.inl h
theorem Rd.ok {P:Program} {w:World} {H:Hp} {h:Heap} {a:Addr} {u:HO} (r:Rd H a u) (x:HOk P w H h):ObjOk P w H h a u:=by
 rcases r with r | ⟨o,r⟩
 ·exact x a u r
 ·obtain ⟨_,q⟩:=x a _ r
  exact q
def Mut:Option HO→Prop
 | some (.lst _)=>True
 | some (.dK _)=>True
 | some (.dT _)=>True
 | some (.set _ _)=>True
 | some (.ins _ _ _)=>True
 | some (.ext _)=>True
 | _=>False
section
variable {P:Program} {w:World} {H:Hp} {h h':Heap} {x e:Addr} {o':HO}
theorem HOk.write (ok:HOk P w H h) (mu:Mut (H x)) (he:e=x∨H e=some (.own x)) (k:∀ b u,b≠e→h.get? b=some u→h'.get? b=some u) (heo:∃ u,h'.get? e=some u)
  (new:ObjOk P w (upd H x o') h' x o'):HOk P w (upd H x o') h':=fun b u q=>by
 have nown:∀ c y,H c=some (.own y)→c≠x:=fun c y r z=>by subst z; rw [r] at mu; exact mu
 have ntup:∀ c xs,H c=some (.tup xs)→c≠x:=fun c xs r z=>by subst z; rw [r] at mu; exact mu
 by_cases hb:b=x
 ·subst hb; rw [upd_same] at q; cases q; exact new
 ·rw [upd_ne hb] at q
  by_cases hbe:b=e
  ·have q':H b=some (.own x):=by
    rcases he with z | z
    ·exact absurd (hbe.trans z) hb
    ·rw [hbe]; exact z
   rw [q] at q'; cases q'
   obtain ⟨v,hv⟩:=heo
   exact ⟨v,by rw [hbe]; exact hv⟩
  ·refine (ok b u q).stay (fun c v hc r=>k c v ?_ r) (fun c r=>by rw [upd_ne (nown c b r)]; exact r) fun c xs r=>by rw [upd_ne (ntup c xs r)]; exact r
   rcases hc with rfl | hc
   ·exact hbe
   ·rintro rfl
    rcases he with z | z
    ·exact nown c b hc z
    ·rw [hc] at z; cases z; exact hb rfl
end
structure Un (fs ex:List Addr) (H H':Hp) (h h':Heap):Prop where
 keep:∀ b o,h.get? b=some o→H b=none→b∉fs→b∉ex→h'.get? b=some o
 slot:∀ b o,h.get? b=some o→H b=none→b∈fs→b∉ex→∃ sl,h'.get? b=some { o with slots:=sl }
 free:∀ b o,h.get? b=some o→H b=none→b∉ex→H' b=none
 there:∀ b o,h.get? b=some o→b∉ex→∃ o',h'.get? b=some o'
 tups:∀ b xs,H b=some (.tup xs)→H' b=some (.tup xs)
 frzs:∀ b o u,H b=some (.frz o u)→H' b=some (.frz o u)
 tbls:∀ b ps,H b=some (.tbl ps)→∃ more,H' b=some (.tbl (ps++more))
section
variable {fs fs' ex ex':List Addr} {H H1 H2:Hp} {h h1 h2 h':Heap} {a x e:Addr} {o:HO}
theorem Un.any (u:Un fs ex H H1 h h1) {b:Addr} {ob:Obj} (q:h.get? b=some ob) (n:H b=none) (hx:b∉ex):∃ sl,h1.get? b=some { ob with slots:=sl }:=by
 by_cases hb:b∈fs
 ·exact u.slot b ob q n hb hx
 ·exact ⟨ob.slots,u.keep b ob q n hb hx⟩
theorem Un.trans (a:Un fs ex H H1 h h1) (b:Un fs ex H1 H2 h1 h2):Un fs ex H H2 h h2 where
 keep:=fun c ob q n hc hx=>b.keep c ob (a.keep c ob q n hc hx) (a.free c ob q n hx) hc hx
 slot:=fun c ob q n hc hx=>by
  obtain ⟨sl,e1⟩:=a.slot c ob q n hc hx
  obtain ⟨sl',e2⟩:=b.slot c _ e1 (a.free c ob q n hx) hc hx
  exact ⟨sl',e2⟩
 free:=fun c ob q n hx=>by
  obtain ⟨o',e1⟩:=a.there c ob q hx
  exact b.free c o' e1 (a.free c ob q n hx) hx
 there:=fun c ob q hx=>by
  obtain ⟨o',e1⟩:=a.there c ob q hx
  exact b.there c o' e1 hx
 tups:=fun c xs q=>b.tups c xs (a.tups c xs q)
 frzs:=fun c ob xs q=>b.frzs c ob xs (a.frzs c ob xs q)
 tbls:=fun c ps q=>by
  obtain ⟨m1,e1⟩:=a.tbls c ps q
  obtain ⟨m2,e2⟩:=b.tbls c _ e1
  exact ⟨m1++m2,by rw [e2,Array.append_assoc]⟩
theorem Un.kept (k:∀ b u,h.get? b=some u→h'.get? b=some u):Un fs ex H H h h' :=
 ⟨fun b ob q _ _ _=>k b ob q,fun b ob q _ _ _=>⟨ob.slots,k b ob q⟩,fun _ _ _ n _=>n,fun b ob q _=>⟨ob,k b ob q⟩,fun _ _ q=>q,fun _ _ _ q=>q,fun _ ps q=>⟨#[],by rw [q]; simp⟩⟩
theorem Un.refl:Un fs ex H H h h:=Un.kept fun _ _ q=>q
theorem Un.laid (k:∀ b u,h.get? b=some u→h'.get? b=some u) (hp:h.objs.size≤a) (hn:H a=none):Un fs ex H (upd H a o) h h' where
 keep:=fun b u q _ _ _=>k b u q
 slot:=fun b u q _ _ _=>⟨u.slots,k b u q⟩
 free:=fun b u q n _=>by rw [upd_ne (Nat.ne_of_lt (Nat.lt_of_lt_of_le (Heap.lt_size q) hp))]; exact n
 there:=fun b u q _=>⟨u,k b u q⟩
 tups:=fun b xs q=>by rw [upd_ne (ne_of_none q hn)]; exact q
 frzs:=fun b u xs q=>by rw [upd_ne (ne_of_none q hn)]; exact q
 tbls:=fun b ps q=>⟨#[],by rw [upd_ne (ne_of_none q hn),q]; simp⟩
theorem Un.write (mu:Mut (H x)) (he:e=x∨H e=some (.own x)) (k:∀ b u,b≠e→h.get? b=some u→h'.get? b=some u) (heo:∃ u,h'.get? e=some u):Un fs ex H (upd H x o) h h':=by
 have hx:∀ b,H b=none→b≠x:=fun b n z=>by subst z; rw [n] at mu; exact mu
 have hb:∀ b,H b=none→b≠e:=fun b n z=>by
  subst z
  rcases he with r | r
  ·exact hx b n r
  ·rw [n] at r; cases r
 have hm:∀ b u,H b=some u→¬ Mut (some u)→b≠x:=fun b u q nm z=>by subst z; rw [q] at mu; exact nm mu
 refine ⟨fun b u q n _ _=>k b u (hb b n) q,fun b u q n _ _=>⟨u.slots,k b u (hb b n) q⟩,fun b u q n _=>by rw [upd_ne (hx b n)]; exact n,fun b u q _=>?_,
  fun b xs q=>by rw [upd_ne (hm b _ q fun z=>z)]; exact q,fun b u xs q=>by rw [upd_ne (hm b _ q fun z=>z)]; exact q,fun b ps q=>⟨#[],by rw [upd_ne (hm b _ q fun z=>z),q]; simp⟩⟩
 by_cases hbe:b=e
 ·subst hbe; exact heo
 ·exact ⟨u,k b u hbe q⟩
theorem Un.mono (u:Un fs ex H H1 h h1) (hs:∀ b∈fs,b∈fs') (hx:∀ b∈ex,b∈ex'):Un fs' ex' H H1 h h1 :=
 ⟨fun b ob q n hb he=>u.keep b ob q n (fun z=>hb (hs b z)) fun z=>he (hx b z),fun _ _ q n _ he=>u.any q n fun z=>he (hx _ z),fun b ob q n he=>u.free b ob q n fun z=>he (hx b z),fun b ob q he=>u.there b ob q fun z=>he (hx b z),u.tups,u.frzs,u.tbls⟩
end
def trk (h:Heap) (H:Hp):List Addr:=(List.range h.objs.size).filter fun a=>(H a).isSome
def hidT (h:Heap) (H:Hp):Heap:=PySem.W.hideAll h (trk h H)
theorem hidT_size (h:Heap) (H:Hp):(hidT h H).objs.size=h.objs.size:=PySem.W.hideAll_size _ _
theorem hidT_get {h:Heap} {H:Hp} {b:Addr} {o:Obj} (e:h.get? b=some o) (n:H b=none):(hidT h H).get? b=some o :=
 PySem.W.hideAll_get _ e fun hm=>by
  have q:(H b).isSome=true:=(List.mem_filter.mp hm).2
  rw [n] at q; simp at q
theorem of_hidT {h:Heap} {H:Hp} {b:Addr} {o:Obj} (e:(hidT h H).get? b=some o):h.get? b=some o∧H b=none:=by
 have e':h.get? b=some o:=PySem.W.of_hideAll (trk h H) e
 refine ⟨e',?_⟩
 cases q:H b with
 | none=>rfl
 | some x =>
  have hm:b∈trk h H:=List.mem_filter.mpr ⟨List.mem_range.mpr (Heap.lt_size e'),by simp [q]⟩
  have z:(hidT h H).get? b=none:=PySem.W.hideAll_none (trk h H) hm
  rw [z] at e; cases e
def allNews (g h:Heap) (L:Addr):List (Addr×Obj):=(List.range h.objs.size).filterMap fun a=>if a=L∨(g.get? a).isSome=true then none else (h.get? a).map fun o=>(a,o)
def rest (g h:Heap) (L d:Addr):List (Addr×Obj):=(allNews g h L).filter fun p=>decide (p.1≠d)
end L2
namespace L2
open PySem PySem.Spec PyProof.Rows
structure Mod (K:PySem.W.Frag) (mg:Str→Option Value) (base:Heap):Prop where
 kin:K.In base
 glob:base.Ns mainGlobals mg
 blt:∃ mb,base.Ns builtinsNs mb∧∀ x:Str,x≠"__name__"→mb x=bootBuiltins x
 nolimit:base.NoLimit
structure Cx where
 prog:Program
 w:World
 K:PySem.W.Frag
 mg:Str→Option Value
 base:Heap
 A:Around
 N:List Str
 s₀:Shared
 H₀:Hp
 env:Env
 outer:List Env
 stack:List Env
 ex:List Addr
 fn:Str→Bool
 calm:Bool
 pn:List (Addr×Obj)
 xe:Value→Shared→Prop
def frs (l:List Env):List Addr:=l.filterMap (·.frame)
abbrev Cx.fs (X:Cx):List Addr:=frs X.outer
def Vis (sc:Scope) (x:Str):Prop:=sc.names.lookup x=some .local∨sc.names.lookup x=some .cell∨sc.names.lookup x=some .free
def Loc (sc:Scope) (x:Str):Prop:=sc.names.lookup x=some .local∨sc.names.lookup x=some .cell
def Look (env:Env) (h:Heap) (m:Str→Option Value) (x:Str) (u:Value):Prop :=
 (env.kindOf x=some .local∧m x=some u)∨((env.kindOf x=some .cell∨env.kindOf x=some .free)∧∃ c,env.cells.lookup x=some c∧h.IsCell c (some u))
structure Cx.Ok (X:Cx):Prop where
 mod:Mod X.K X.mg X.base
 kind:X.env.scope.kind=.function
 glob:X.env.globals=mainGlobals
 blt:X.env.builtins=builtinsNs
 above:X.s₀.heap.objs.size≤X.env.locals
 inj:∀ x y c,X.env.cells.lookup x=some c→X.env.cells.lookup y=some c→x=y
 has:∀ x,(X.env.kindOf x=some .cell∨X.env.kindOf x=some .free)→∃ c,X.env.cells.lookup x=some c
 cab:∀ x c,X.fn x=true→X.env.cells.lookup x=some c→X.s₀.heap.objs.size≤c
 hd:X.calm=true→X.A.handled=none
 frames:X.A.frames=some X.stack
 stk:X.stack=X.outer∨(X.stack=X.env::X.outer∧X.env.frame=some X.env.locals)
 exf:∀ b∈X.ex,b≠X.env.locals∧∀ x c,X.env.cells.lookup x=some c→c≠b
 bs:∀ b o,X.base.get? b=some o→X.s₀.heap.get? b=some o∧X.H₀ b=none
 bsz:X.base.objs.size≤X.s₀.heap.objs.size
 noex:∀ b o,X.base.get? b=some o→b∉X.ex
 exfs:∀ b∈X.ex,b∉X.fs
 funs:X.s₀.heap.FunFrames X.base X.outer
 frf:∀ b∈X.fs,X.H₀ b=none
structure Inv (X:Cx) (pins:List (Addr×Obj)) (σ:List (Option V)) (H:Hp) (s:Shared):Prop where
 ok:X.Ok
 os:s.os=X.s₀.os
 bare:AllBare s.gens
 base:Un X.fs X.ex X.H₀ H X.s₀.heap s.heap
 loc:∃ m,s.heap.Ns X.env.locals m∧∀ (i:Nat) (x:Str) (v:V),X.N[i]?=some x→σ[i]?=some (some v)→Vis X.env.scope x→∃ u,RelV v u∧Look X.env s.heap m x u
 cell:∀ x c,X.env.cells.lookup x=some c→∃ v,s.heap.IsCell c v
 free:H X.env.locals=none
 freeC:∀ x c,X.env.cells.lookup x=some c→H c=none
 pin:∀ p∈X.pn++pins,s.heap.get? p.1=some p.2∧H p.1=none∧p.1≠X.env.locals∧p.1∉X.fs∧∀ v,p.2.data≠.cell v
 hok:HOk X.prog X.w H s.heap
 len:σ.length=X.N.length
section
variable {X:Cx} {pins:List (Addr×Obj)} {σ:List (Option V)} {H H':Hp} {s:Shared} {h':Heap}
theorem Cx.Ok.nofr (ok:X.Ok) {b:Addr} {o:Obj} (e:X.base.get? b=some o):b∉X.fs:=fun hb=>by
 have:=(ok.funs.mem hb).1
 rw [e] at this; cases this
theorem Inv.bs (I:Inv X pins σ H s):∀ b o,X.base.get? b=some o→s.heap.get? b=some o∧H b=none:=fun b o e =>
 ⟨I.base.keep b o (I.ok.bs b o e).1 (I.ok.bs b o e).2 (I.ok.nofr e) (I.ok.noex b o e),I.base.free b o (I.ok.bs b o e).1 (I.ok.bs b o e).2 (I.ok.noex b o e)⟩
theorem Inv.bk (I:Inv X pins σ H s):∀ b o,X.base.get? b=some o→s.heap.get? b=some o:=fun b o e=>(I.bs b o e).1
theorem Inv.mod (I:Inv X pins σ H s):Mod X.K X.mg X.base:=I.ok.mod
theorem Inv.kIn (I:Inv X pins σ H s):X.K.In s.heap:=I.ok.mod.kin.keeps I.bk
theorem Inv.nolimit (I:Inv X pins σ H s):s.heap.NoLimit:=I.ok.mod.nolimit.keeps I.bk
theorem Inv.fr (I:Inv X pins σ H s):∃ m,Fr X.base X.env.locals s.heap m :=
 let ⟨m,hn,_⟩:=I.loc
 ⟨m,hn,I.bk,Nat.le_trans I.ok.bsz I.ok.above⟩
theorem Inv.lt (I:Inv X pins σ H s):X.env.locals<s.heap.objs.size:=let ⟨_,hn,_⟩:=I.loc; hn.lt
theorem Inv.sz (I:Inv X pins σ H s):X.s₀.heap.objs.size≤s.heap.objs.size:=Nat.le_trans I.ok.above (Nat.le_of_lt I.lt)
theorem Inv.nofs (I:Inv X pins σ H s) {a:Addr} (h:s.heap.objs.size≤a):a∉X.fs:=fun hb=>by
 obtain ⟨_,o,ho,_⟩:=I.ok.funs.mem hb
 exact absurd (Nat.lt_of_lt_of_le (Heap.lt_size ho) (Nat.le_trans I.sz h)) (Nat.lt_irrefl _)
theorem Inv.cne (I:Inv X pins σ H s):∀ x c,X.env.cells.lookup x=some c→c≠X.env.locals:=fun x c e z=>by
 obtain ⟨v,o,ho,hd⟩:=I.cell x c e
 obtain ⟨m,⟨o',es,ep,ho',hd',_⟩,_⟩:=I.loc
 rw [z,ho'] at ho; cases ho; rw [hd'] at hd; cases hd
theorem Inv.funs (I:Inv X pins σ H s):s.heap.FunFrames X.base X.outer:=by
 have all:∀ (l:List Env),(∀ b∈frs l,b∈X.fs)→X.s₀.heap.FunFrames X.base l→s.heap.FunFrames X.base l:=by
  intro l
  induction l with
  | nil=>intro _ _; trivial
  | cons env r ih =>
   intro hs hl
   obtain ⟨hk,⟨L,o,hf,hn,ho,hd⟩,hr⟩:=hl
   have hL:L∈X.fs:=hs L (by unfold frs; rw [List.filterMap_cons,hf]; exact List.mem_cons_self)
   obtain ⟨sl,e⟩:=I.base.slot L o ho (I.ok.frf L hL) hL fun z=>I.ok.exfs L z hL
   exact ⟨hk,⟨L,_,hf,hn,e,hd⟩,ih (fun b hb=>hs b (by unfold frs; rw [List.filterMap_cons,hf]; exact List.mem_cons_of_mem _ hb)) hr⟩
 exact all X.outer (fun _ hb=>hb) I.ok.funs
theorem Inv.stack (I:Inv X pins σ H s):s.heap.FunFrames X.base X.stack:=by
 rcases I.ok.stk with e | ⟨e,hf⟩
 ·rw [e]; exact I.funs
 ·rw [e]
  obtain ⟨m,hn,_⟩:=I.loc
  refine .cons (by rw [I.ok.kind]; decide) hf hn ?_ I.funs
  exact Heap.get?_none_of_le (Nat.le_trans I.ok.bsz I.ok.above)
theorem Inv.stkSub (I:Inv X pins σ H s):∀ b∈frs X.stack,b∈X.env.locals::X.fs:=fun b hb=>by
 rcases I.ok.stk with e | ⟨e,hf⟩
 ·rw [e] at hb; exact List.mem_cons_of_mem _ hb
 ·rw [e] at hb
  unfold frs at hb
  rw [List.filterMap_cons,hf] at hb
  exact hb
theorem Inv.stkFree (I:Inv X pins σ H s):∀ b∈frs X.stack,H b=none:=fun b hb=>by
 rcases List.mem_cons.mp (I.stkSub b hb) with e | hb
 ·rw [e]; exact I.free
 ·obtain ⟨_,o,ho,_⟩:=I.ok.funs.mem hb
  exact I.base.free b o ho (I.ok.frf b hb) fun z=>I.ok.exfs b z hb
theorem Inv.step {g':Array GenState} {t':Nat} {d':Drawn} {ch:List Addr} (I:Inv X pins σ H s)
  (hch:∀ b∈ch,(b∈X.ex∨X.s₀.heap.objs.size≤b)∧b≠X.env.locals∧(∀ x c,X.env.cells.lookup x=some c→c≠b)∧∀ p∈X.pn++pins,p.1≠b)
  (keep:∀ b o,b≠X.env.locals→b∉X.fs→b∉ch→s.heap.get? b=some o→H b=none→h'.get? b=some o)
  (slot:∀ b o,b≠X.env.locals→b∈X.fs→b∉ch→s.heap.get? b=some o→H b=none→∃ sl,h'.get? b=some { o with slots:=sl }) (free:∀ b o,b∉ch→s.heap.get? b=some o→H b=none→H' b=none)
  (there:∀ b o,b∉ch→s.heap.get? b=some o→∃ o',h'.get? b=some o')
  (tups:∀ b xs,H b=some (.tup xs)→H' b=some (.tup xs)) (frzs:∀ b o u,H b=some (.frz o u)→H' b=some (.frz o u)) (tbls:∀ b ps,H b=some (.tbl ps)→∃ more,H' b=some (.tbl (ps++more)))
  (ns:∀ m,s.heap.Ns X.env.locals m→h'.Ns X.env.locals m) (hok:HOk X.prog X.w H' h') (hg:AllBare g') :
  Inv X pins σ H' { s with heap:=h',gens:=g',drawn:=d',toks:=t' }:=by
 have neL:∀ b o,X.s₀.heap.get? b=some o→b≠X.env.locals:=fun b o e=>Nat.ne_of_lt (Nat.lt_of_lt_of_le (Heap.lt_size e) I.ok.above)
 have neC:∀ b o,X.s₀.heap.get? b=some o→b∉X.ex→b∉ch:=fun b o e hx hb=>by
  rcases (hch b hb).1 with z | z
  ·exact hx z
  ·exact absurd (Nat.lt_of_lt_of_le (Heap.lt_size e) z) (Nat.lt_irrefl _)
 have cellK:∀ x c,X.env.cells.lookup x=some c→∀ v,s.heap.IsCell c v→h'.IsCell c v:=fun x c e v ⟨o,ho,hd⟩=>by
  have nch:c∉ch:=fun z=>(hch c z).2.2.1 x c e rfl
  by_cases hc:c∈X.fs
  ·obtain ⟨sl,q⟩:=slot c o (I.cne x c e) hc nch ho (I.freeC x c e)
   exact ⟨_,q,hd⟩
  ·exact ⟨o,keep c o (I.cne x c e) hc nch ho (I.freeC x c e),hd⟩
 refine ⟨I.ok,I.os,hg,⟨fun b o e n hb hx=>?_,fun b o e n hb hx=>?_,fun b o e n hx=>?_,fun b o e hx=>?_,fun b xs e=>tups b xs (I.base.tups b xs e),fun b o xs e=>frzs b o xs (I.base.frzs b o xs e),fun b ps e=>?_⟩,?_,fun x c e=>?_,?_,fun x c e=>?_,fun p hp=>?_,hok,I.len⟩
 ·exact keep b o (neL b o e) hb (neC b o e hx) (I.base.keep b o e n hb hx) (I.base.free b o e n hx)
 ·obtain ⟨sl,e1⟩:=I.base.slot b o e n hb hx
  obtain ⟨sl',e2⟩:=slot b _ (neL b o e) hb (neC b o e hx) e1 (I.base.free b o e n hx)
  exact ⟨sl',e2⟩
 ·obtain ⟨o',e1⟩:=I.base.there b o e hx
  exact free b o' (neC b o e hx) e1 (I.base.free b o e n hx)
 ·obtain ⟨o',e1⟩:=I.base.there b o e hx
  exact there b o' (neC b o e hx) e1
 ·obtain ⟨m1,e1⟩:=I.base.tbls b ps e
  obtain ⟨m2,e2⟩:=tbls b _ e1
  exact ⟨m1++m2,by rw [e2,Array.append_assoc]⟩
 ·obtain ⟨m,hn,hl⟩:=I.loc
  refine ⟨m,ns m hn,fun i x v e1 e2 e3=>?_⟩
  obtain ⟨u,r,l⟩:=hl i x v e1 e2 e3
  refine ⟨u,r,?_⟩
  rcases l with l | ⟨k,c,e,z⟩
  ·exact .inl l
  ·exact .inr ⟨k,c,e,cellK x c e _ z⟩
 ·obtain ⟨v,z⟩:=I.cell x c e
  exact ⟨v,cellK x c e v z⟩
 ·obtain ⟨m,⟨o,_,_,ho,_⟩,_⟩:=I.loc
  exact free _ o (fun z=>(hch _ z).2.1 rfl) ho I.free
 ·obtain ⟨v,o,ho,hd⟩:=I.cell x c e
  exact free c o (fun z=>(hch c z).2.2.1 x c e rfl) ho (I.freeC x c e)
 ·obtain ⟨e,n,ne,nf,d⟩:=I.pin p hp
  have nch:p.1∉ch:=fun z=>(hch p.1 z).2.2.2 p hp rfl
  exact ⟨keep p.1 p.2 ne nf nch e n,free p.1 p.2 nch e n,ne,nf,d⟩
theorem Inv.un {t':Nat} (I:Inv X pins σ H s) (u:Un X.fs [] H H' s.heap h') (hok:HOk X.prog X.w H' h'):Inv X pins σ H' { s with heap:=h',toks:=t' }:=by
 obtain ⟨m,⟨o,es,ep,ho,r⟩,_⟩:=id I.loc
 obtain ⟨sl,hL⟩:=u.any ho I.free (by simp)
 exact I.step (g':=s.gens) (d':=s.drawn) (ch:=[]) (fun _ z=>nomatch z) (fun b o _ hb _ e n=>u.keep b o e n hb (by simp)) (fun b o _ hb _ e n=>u.slot b o e n hb (by simp)) (fun b o _ e n=>u.free b o e n (by simp)) (fun b o _ e=>u.there b o e (by simp)) u.tups u.frzs u.tbls (fun m' hm=>by
  obtain ⟨o',es',ep',ho',r'⟩:=hm
  rw [ho] at ho'; cases ho'
  exact ⟨_,es',ep',hL,r'⟩) hok I.bare
theorem Inv.call {g':Array GenState} {t':Nat} {d':Drawn} {ch:List Addr} (I:Inv X pins σ H s) (u:Un (frs X.stack) ch H H' s.heap h') (hok:HOk X.prog X.w H' h') (hg:AllBare g')
  (hch:∀ b∈ch,(b∈X.ex∨X.s₀.heap.objs.size≤b)∧b≠X.env.locals∧(∀ x c,X.env.cells.lookup x=some c→c≠b)∧∀ p∈X.pn++pins,p.1≠b) :
  Inv X pins σ H' { s with heap:=h',gens:=g',drawn:=d',toks:=t' }:=by
 obtain ⟨m,⟨o,es,ep,ho,r⟩,_⟩:=id I.loc
 obtain ⟨sl,hL⟩:=u.any ho I.free fun z=>(hch _ z).2.1 rfl
 exact I.step (ch:=ch) hch (fun b o hL hb hc e n=>u.keep b o e n (fun z=>(List.mem_cons.mp (I.stkSub b z)).elim hL hb) hc) (fun b o _ _ hc e n=>u.any e n hc) (fun b o hc e n=>u.free b o e n hc) (fun b o hc e=>u.there b o e hc) u.tups u.frzs u.tbls (fun m' hm=>by
  obtain ⟨o',es',ep',ho',r'⟩:=hm
  rw [ho] at ho'; cases ho'
  exact ⟨_,es',ep',hL,r'⟩) hok hg
theorem Inv.turned {t':Nat} {it:Addr} (I:Inv X pins σ H s) (k:∀ b o,b≠it→s.heap.get? b=some o→h'.get? b=some o) (hn:H it=none) (hL:it≠X.env.locals)
  (h1:it∈X.ex∨X.s₀.heap.objs.size≤it) (h2:∀ x c,X.env.cells.lookup x=some c→c≠it) (h3:∀ p∈X.pn++pins,p.1≠it):Inv X pins σ H { s with heap:=h',toks:=t' }:=by
 have nit:∀ b u,H b=some u→b≠it:=fun b u e z=>by rw [z,hn] at e; cases e
 refine I.step (g':=s.gens) (d':=s.drawn) (ch:=[it]) (fun b hb=>?_) (fun b o _ _ hc e _=>k b o (fun z=>hc (by simp [z])) e) (fun b o _ _ hc e _=>⟨o.slots,k b o (fun z=>hc (by simp [z])) e⟩) (fun _ _ _ _ n=>n)
  (fun b o hc e=>⟨o,k b o (fun z=>hc (by simp [z])) e⟩) (fun _ _ e=>e) (fun _ _ _ e=>e) (fun b ps e=>⟨#[],by rw [e]; simp⟩) (fun m hm=>?_) (fun b u e=>?_) I.bare
 ·have e:b=it:=by simpa using hb
  subst e
  exact ⟨h1,hL,h2,h3⟩
 ·obtain ⟨o,es,ep,ho,r⟩:=hm
  exact ⟨o,es,ep,k _ o (Ne.symm hL) ho,r⟩
 ·refine (I.hok b u e).stay (fun c v hc q=>k c v ?_ q) (fun _ q=>q) fun _ _ q=>q
  rcases hc with z | z
  ·rw [z]; exact nit b u e
  ·exact nit c _ z
theorem Inv.tok (I:Inv X pins σ H s) (t:Nat):Inv X pins σ H { s with toks:=t }:=I.un (h':=s.heap) (t':=t) Un.refl I.hok
theorem Inv.kept {t':Nat} (I:Inv X pins σ H s) (k:∀ b u,s.heap.get? b=some u→h'.get? b=some u):Inv X pins σ H { s with heap:=h',toks:=t' }:=I.un (Un.kept k) (I.hok.kept k)
theorem Inv.laid {a:Addr} {o:HO} {t':Nat} (I:Inv X pins σ H s) (k:∀ b u,s.heap.get? b=some u→h'.get? b=some u) (hp:s.heap.objs.size≤a) (new:ObjOk X.prog X.w (upd H a o) h' a o) :
  Inv X pins σ (upd H a o) { s with heap:=h',toks:=t' }:=I.un (Un.laid k hp (I.hok.fresh hp)) (I.hok.laid k hp new)
theorem Inv.write {x e:Addr} {o:HO} {t':Nat} (I:Inv X pins σ H s) (mu:Mut (H x)) (he:e=x∨H e=some (.own x)) (k:∀ b u,b≠e→s.heap.get? b=some u→h'.get? b=some u) (heo:∃ u,h'.get? e=some u)
  (new:ObjOk X.prog X.w (upd H x o) h' x o):Inv X pins σ (upd H x o) { s with heap:=h',toks:=t' }:=I.un (Un.write mu he k heo) (I.hok.write mu he k heo new)
theorem Inv.pins_of {pins':List (Addr×Obj)} (I:Inv X pins σ H s) (h:∀ p∈pins',s.heap.get? p.1=some p.2∧H p.1=none∧p.1≠X.env.locals∧p.1∉X.fs∧∀ v,p.2.data≠.cell v):Inv X pins' σ H s :=
 ⟨I.ok,I.os,I.bare,I.base,I.loc,I.cell,I.free,I.freeC,fun p hp=>(List.mem_append.mp hp).elim (fun z=>I.pin p (List.mem_append_left _ z)) (h p),I.hok,I.len⟩
theorem nodup_ix {N:List Str} (hN:N.Nodup) {i j:Nat} {x:Str} (a:N[i]?=some x) (b:N[j]?=some x):i=j:=by
 obtain ⟨h1,e1⟩:=List.getElem?_eq_some_iff.mp a
 obtain ⟨h2,e2⟩:=List.getElem?_eq_some_iff.mp b
 exact (List.getElem_inj hN).mp (e1.trans e2.symm)
theorem store_ok2 {M:Model} {A:Around} {E:Value→Shared→Prop} {i:Nat} {x:Str} {v:V} {u:Value} {Q:Unit→Shared→Prop} (I:Inv X pins σ H s) (hN:X.N.Nodup) (hi:X.N[i]?=some x) (hx:Loc X.env.scope x) (r:RelV v u)
  (h:∀ s',Inv X pins (σ.set i (some v)) H s'→(∃ a,Heap.SameBut a s.heap s'.heap∧(a=X.env.locals∨X.env.cells.lookup x=some a))→Q () s') (hf:X.fn x=true∨X.env.scope.names.lookup x=some .local:=by first | exact .inl rfl | exact .inr rfl | assumption):wpAny M A (storeName X.env x u) Q E s:=by
 obtain ⟨m,hn,hl⟩:=id I.loc
 have hcls:(X.env.scope.kind == .class || (X.env.scope.kind == .module && X.env.locals != X.env.globals))=false:=by rw [I.ok.kind]; rfl
 have hiσ:i<σ.length:=by rw [I.len]; exact (List.getElem?_eq_some_iff.mp hi).1
 have cne:=I.cne
 have tracked:∀ {a:Addr} {h':Heap},(∃ o,s.heap.get? a=some o∧H a=none)→Heap.SameBut a s.heap h'→HOk X.prog X.w H h':=fun {a h'} ha hs b ob e=>by
  obtain ⟨_,_,hfree⟩:=ha
  refine (I.hok b ob e).stay (fun c w' hc q=>(hs.2 c ?_).trans q) (fun _ q=>q) fun _ _ q=>q
  rintro rfl
  rcases hc with rfl | hc
  ·rw [hfree] at e; cases e
  ·rw [hfree] at hc; cases hc
 rcases hx with hk | hk
 ·refine wpAny_storeName_local hk hn (fun h' hn' hs=>?_) hcls
  obtain ⟨oL,_,_,hoL,_⟩:=id hn
  refine h _ ⟨I.ok,I.os,I.bare,⟨fun b o e n hb hx=>?_,fun b o e n hb hx=>?_,I.base.free,fun b o e hx=>?_,I.base.tups,I.base.frzs,I.base.tbls⟩,⟨_,hn',fun j y v' e1 e2 e3=>?_⟩,fun y c e=>?_,I.free,I.freeC,fun p hp=>?_,tracked ⟨oL,hoL,I.free⟩ hs,by simpa using I.len⟩ ⟨_,hs,.inl rfl⟩
  ·exact (hs.2 b (Nat.ne_of_lt (Nat.lt_of_lt_of_le (Heap.lt_size e) I.ok.above))).trans (I.base.keep b o e n hb hx)
  ·obtain ⟨sl,e1⟩:=I.base.slot b o e n hb hx
   exact ⟨sl,(hs.2 b (Nat.ne_of_lt (Nat.lt_of_lt_of_le (Heap.lt_size e) I.ok.above))).trans e1⟩
  ·obtain ⟨o',e1⟩:=I.base.there b o e hx
   exact ⟨o',(hs.2 b (Nat.ne_of_lt (Nat.lt_of_lt_of_le (Heap.lt_size e) I.ok.above))).trans e1⟩
  ·by_cases hj:j=i
   ·subst hj
    rw [hi] at e1; cases e1
    rw [List.getElem?_set_self hiσ] at e2
    cases e2
    exact ⟨u,r,.inl ⟨hk,by simp⟩⟩
   ·rw [List.getElem?_set_ne (Ne.symm hj)] at e2
    obtain ⟨u',r',q⟩:=hl j y v' e1 e2 e3
    refine ⟨u',r',?_⟩
    rcases q with ⟨k,e⟩ | ⟨k,c,e,z⟩
    ·refine .inl ⟨k,?_⟩
     have:y≠x:=fun e=>hj (nodup_ix hN e1 (e ▸ hi))
     simp [this,e]
    ·exact .inr ⟨k,c,e,z.sameBut hs (cne y c e)⟩
  ·obtain ⟨w',z⟩:=I.cell y c e
   exact ⟨w',z.sameBut hs (cne y c e)⟩
  ·obtain ⟨e,n,ne,nf,d⟩:=I.pin p hp
   exact ⟨(hs.2 p.1 ne).trans e,n,ne,nf,d⟩
 ·have hfn:X.fn x=true:=by
   rcases hf with z | z
   ·exact z
   ·rw [z] at hk; cases hk
  obtain ⟨c,hc⟩:=I.ok.has x (.inl hk)
  obtain ⟨w',z⟩:=I.cell x c hc
  refine wpAny_storeName_cell I.ok.kind hk hc z (fun h' hc' hs=>?_)
  obtain ⟨oc,hoc,hocd⟩:=id z
  refine h { s with heap:=h' } ⟨I.ok,I.os,I.bare,⟨fun b o e n hb hx=>?_,fun b o e n hb hx=>?_,I.base.free,fun b o e hx=>?_,I.base.tups,I.base.frzs,I.base.tbls⟩,⟨m,hn.sameBut hs (Ne.symm (cne x c hc)),fun j y v' e1 e2 e3=>?_⟩,fun y c' e=>?_,I.free,I.freeC,fun p hp=>?_,tracked ⟨oc,hoc,I.freeC x c hc⟩ hs,by simpa using I.len⟩ ⟨c,hs,.inr hc⟩
  ·exact (hs.2 b (Nat.ne_of_lt (Nat.lt_of_lt_of_le (Heap.lt_size e) (I.ok.cab x c hfn hc)))).trans (I.base.keep b o e n hb hx)
  ·obtain ⟨sl,e1⟩:=I.base.slot b o e n hb hx
   exact ⟨sl,(hs.2 b (Nat.ne_of_lt (Nat.lt_of_lt_of_le (Heap.lt_size e) (I.ok.cab x c hfn hc)))).trans e1⟩
  ·obtain ⟨o',e1⟩:=I.base.there b o e hx
   exact ⟨o',(hs.2 b (Nat.ne_of_lt (Nat.lt_of_lt_of_le (Heap.lt_size e) (I.ok.cab x c hfn hc)))).trans e1⟩
  ·by_cases hj:j=i
   ·subst hj
    rw [hi] at e1; cases e1
    rw [List.getElem?_set_self hiσ] at e2
    cases e2
    exact ⟨u,r,.inr ⟨.inl hk,c,hc,hc'⟩⟩
   ·rw [List.getElem?_set_ne (Ne.symm hj)] at e2
    obtain ⟨u',r',q⟩:=hl j y v' e1 e2 e3
    refine ⟨u',r',?_⟩
    rcases q with q | ⟨k,c',e,z'⟩
    ·exact .inl q
    ·refine .inr ⟨k,c',e,z'.sameBut hs ?_⟩
     rintro rfl
     exact hj (nodup_ix hN e1 (I.ok.inj _ _ _ e hc ▸ hi))
  ·by_cases hcc:c'=c
   ·subst hcc; exact ⟨_,hc'⟩
   ·obtain ⟨w2,z2⟩:=I.cell y c' e
    exact ⟨w2,z2.sameBut hs hcc⟩
  ·obtain ⟨e,n,ne,nf,d⟩:=I.pin p hp
   refine ⟨(hs.2 p.1 ?_).trans e,n,ne,nf,d⟩
   intro q
   rw [q,hoc] at e
   have q':oc=p.2:=Option.some.inj e
   exact d w' (by rw [← q']; exact hocd)
theorem store_ok {M:Model} {A:Around} {E:Value→Shared→Prop} {i:Nat} {x:Str} {v:V} {u:Value} {Q:Unit→Shared→Prop} (I:Inv X pins σ H s) (hN:X.N.Nodup) (hi:X.N[i]?=some x) (hx:Loc X.env.scope x) (r:RelV v u)
  (h:∀ s',Inv X pins (σ.set i (some v)) H s'→Q () s') (hf:X.fn x=true∨X.env.scope.names.lookup x=some .local:=by first | exact .inl rfl | exact .inr rfl | assumption):wpAny M A (storeName X.env x u) Q E s :=
 store_ok2 I hN hi hx r (fun s' I' _=>h s' I') hf
theorem Inv.call' {s':Shared} {ch:List Addr} (I:Inv X pins σ H s) (ho:s'.os=s.os) (u:Un (frs X.stack) ch H H' s.heap s'.heap) (hok:HOk X.prog X.w H' s'.heap) (hg:AllBare s'.gens)
  (hch:∀ b∈ch,(b∈X.ex∨X.s₀.heap.objs.size≤b)∧b≠X.env.locals∧(∀ x c,X.env.cells.lookup x=some c→c≠b)∧∀ p∈X.pn++pins,p.1≠b):Inv X pins σ H' s':=by
 obtain ⟨h',g',d',t',o'⟩:=s'
 have e:o'=s.os:=ho
 subst e
 exact I.call (g':=g') (t':=t') (d':=d') u hok hg hch
end
abbrev XK:=Value→Option Addr→Hp→Prop
abbrev St:=List (Option V)
abbrev VK:=V→Hp→Prop
abbrev TE:=St→Hp→VK→Prop
abbrev TT:=St→Hp→(Bool→Hp→Prop)→Prop
abbrev TA:=St→Hp→(List V→Hp→Prop)→Prop
structure Ends where
 nx:St→Hp→Prop
 rt:VK
 bk:St→Hp→Prop:=fun _ _=>False
 ct:St→Hp→Prop:=fun _ _=>False
abbrev TS:=Ends→St→Hp→Prop
def EP (X:Cx) (pins:List (Addr×Obj)) (σ:St) (Q:VK) (u:Value) (s':Shared):Prop:=∃ v H',Inv X pins σ H' s'∧RelV v u∧Q v H'
def TP (X:Cx) (pins:List (Addr×Obj)) (σ:St) (Q:Bool→Hp→Prop) (b:Bool) (s':Shared):Prop:=∃ H',Inv X pins σ H' s'∧Q b H'
def AP (X:Cx) (pins:List (Addr×Obj)) (σ:St) (Q:List V→Hp→Prop) (us:List Value) (s':Shared):Prop:=∃ vs H',Inv X pins σ H' s'∧Vals vs us∧Q vs H'
def SP (X:Cx) (pins:List (Addr×Obj)) (D:Ends) (f:Flow) (s':Shared):Prop :=
 match f with
 | .next=>∃ σ' H',Inv X pins σ' H' s'∧D.nx σ' H'
 | .brk=>∃ σ' H',Inv X pins σ' H' s'∧D.bk σ' H'
 | .cont=>∃ σ' H',Inv X pins σ' H' s'∧D.ct σ' H'
 | .ret u=>∃ v σ' H',Inv X pins σ' H' s'∧RelV v u∧D.rt v H'
def PE (X:Cx) (e:Expr) (t:TE):Prop :=
 ∀ (pins:List (Addr×Obj)) (s:Shared) (σ:St) (H:Hp) (Q:VK),Inv X pins σ H s→t σ H Q→wpAny (model X.prog X.w) X.A (eval e X.env) (EP X pins σ Q) X.xe s
def PT (X:Cx) (e:Expr) (t:TT):Prop :=
 ∀ (pins:List (Addr×Obj)) (s:Shared) (σ:St) (H:Hp) (Q:Bool→Hp→Prop),Inv X pins σ H s→t σ H Q→wpAny (model X.prog X.w) X.A (isTrue e X.env (eval e X.env)) (TP X pins σ Q) X.xe s
def PW (X:Cx) (e:Expr) (t:TT):Prop :=
 ∀ (whole:Sem Value) (pins:List (Addr×Obj)) (s:Shared) (σ:St) (H:Hp) (Q:Bool→Hp→Prop),Inv X pins σ H s→t σ H Q→wpAny (model X.prog X.w) X.A (isTrue e X.env whole) (TP X pins σ Q) X.xe s
theorem PW.pt {X:Cx} {e:Expr} {t:TT} (h:PW X e t):PT X e t:=h _
def PA (X:Cx) (es:List Expr) (t:TA):Prop :=
 ∀ (pos:Pos) (pins:List (Addr×Obj)) (s:Shared) (σ:St) (H:Hp) (Q:List V→Hp→Prop),Inv X pins σ H s→t σ H Q→wpAny (model X.prog X.w) X.A (spliced (backTo pos (starEach es X.env))) (AP X pins σ Q) X.xe s
def PS (X:Cx) (st:Stmt) (t:TS):Prop :=
 ∀ (pins:List (Addr×Obj)) (s:Shared) (σ:St) (H:Hp) (D:Ends),Inv X pins σ H s→t D σ H→wpAny (model X.prog X.w) X.A (exec st X.env) (SP X pins D) X.xe s
def PSs (X:Cx) (st:List Stmt) (t:TS):Prop :=
 ∀ (pins:List (Addr×Obj)) (s:Shared) (σ:St) (H:Hp) (D:Ends),Inv X pins σ H s→t D σ H→wpAny (model X.prog X.w) X.A (execs st X.env) (SP X pins D) X.xe s
theorem thn {α:Type} {t:Sem α} {Q Q':α→Shared→Prop} {M:Model} {A:Around} {E:Value→Shared→Prop} {s:Shared} (h:wpAny M A t Q E s) (hQ:∀ a s,Q a s→Q' a s):wpAny M A t Q' E s:=wpAny_mono h hQ fun _ _ x=>x
end L2
namespace L2
open PySem PySem.Spec PyProof.Rows
section
variable {X:Cx}
def tVar (i:Nat):TE:=fun σ H Q=>∃ v,σ[i]?=some (some v)∧Q v H
def tC (v:V):TE:=fun _ H Q=>Q v H
theorem pe_var {i:Nat} {x:Str} {pos:Pos} (hN:X.N[i]?=some x) (hv:Vis X.env.scope x) (hd:(x == ("__debug__":Str))=false:=by decide) (hcd:(x == ("__classdict__":Str))=false:=by decide):PE X (.Name x pos) (tVar i):=by
 intro pins s σ H Q I h
 obtain ⟨v,e,h⟩:=h
 obtain ⟨m,hn,hl⟩:=I.loc
 obtain ⟨u,r,l⟩:=hl i x v hN e hv
 have fin:EP X pins σ Q u s:=⟨v,H,I,r,h⟩
 rcases l with ⟨hk,hm⟩ | ⟨hk,c,hc,hcell⟩
 ·exact wpAny_Name (wpAny_loadName_local I.ok.kind hk hn hm fin) hd
 ·rcases hk with hk | hk
  ·exact wpAny_Name (wpAny_loadName_cell I.ok.kind hk hc hcell fin) hd
  ·exact wpAny_Name (wpAny_loadName_free I.ok.kind hk hc hcell fin hcd) hd
theorem pe_int {i j pos}:PE X (.Constant (.int i) j pos) (tC (.int i)):=fun _ _ _ H _ I h=>wpAny_Constant_int ⟨.int i,H,I.tok _,⟨_,rfl⟩,h⟩
theorem pe_bl {b j pos}:PE X (.Constant (.bool b) j pos) (tC (.bl b)):=fun _ _ _ H _ I h=>Constant_bool ⟨.bl b,H,I,rfl,h⟩
theorem pe_non {j pos}:PE X (.Constant .none j pos) (tC .non):=fun _ _ _ H _ I h=>Constant_none ⟨.non,H,I,rfl,h⟩
theorem pe_str {x j pos}:PE X (.Constant (.str x) j pos) (tC (.str x)):=fun _ _ _ H _ I h=>Calls.Constant_str ⟨.str x,H,I.tok _,⟨_,rfl⟩,h⟩
def Gl (X:Cx) (x:Str):Prop:=X.env.kindOf x=some .globalImplicit
theorem ld_glob {E:Value→Shared→Prop} {pins:List (Addr×Obj)} {s:Shared} {σ:St} {H:Hp} {x:Str} {u:Value} {pos:Pos} {Q:Value→Shared→Prop} (I:Inv X pins σ H s) (hg:Gl X x) (hm:X.mg x=some u) (h:Q u s)
  (hd:(x == ("__debug__":Str))=false:=by decide):wpAny (model X.prog X.w) X.A (eval (.Name x pos) X.env) Q E s :=
 Calls.Name_function_global I.ok.kind hg (Calls.loadGlobal_global (by rw [I.ok.glob]; exact I.mod.glob.keeps I.bk) hm h) hd
theorem ld_blt {E:Value→Shared→Prop} {pins:List (Addr×Obj)} {s:Shared} {σ:St} {H:Hp} {x:Str} {u:Value} {pos:Pos} {Q:Value→Shared→Prop} (I:Inv X pins σ H s) (hg:Gl X x) (hm:X.mg x=none) (hv:bootBuiltins x=some u) (h:Q u s)
  (hn:x≠"__name__":=by decide) (hd:(x == ("__debug__":Str))=false:=by decide):wpAny (model X.prog X.w) X.A (eval (.Name x pos) X.env) Q E s:=by
 obtain ⟨mb,h1,h2⟩:=I.mod.blt
 exact Calls.Name_function_global I.ok.kind hg (Calls.loadGlobal_builtin (by rw [I.ok.glob]; exact I.mod.glob.keeps I.bk) hm (by rw [I.ok.blt]; exact h1.keeps I.bk) ((h2 x hn).trans hv) h) hd
theorem pe_glob {x:Str} {v:V} {u:Value} {pos:Pos} (hg:Gl X x) (hm:X.mg x=some u) (r:RelV v u) (hd:(x == ("__debug__":Str))=false:=by decide):PE X (.Name x pos) (tC v) :=
 fun _ _ _ H _ I h=>ld_glob I hg hm ⟨v,H,I,r,h⟩ hd
theorem pe_bltn {x:Str} {v:V} {u:Value} {pos:Pos} (hg:Gl X x) (hm:X.mg x=none) (hv:bootBuiltins x=some u) (r:RelV v u) (hn:x≠"__name__":=by decide) (hd:(x == ("__debug__":Str))=false:=by decide):PE X (.Name x pos) (tC v) :=
 fun _ _ _ H _ I h=>ld_blt I hg hm hv ⟨v,H,I,r,h⟩ hn hd
variable {a b:Expr} {ta tb:TE} {pos:Pos}
def tB (t:TE):TT:=fun σ H Q=>t σ H fun x H1=>∃ c,x=.bl c∧Q c H1
theorem pt_val {e:Expr} {t:TE} (h:PE X e t) (he:∀ whole,isTrue e X.env whole=(do let v ← whole; standAt e.pos; holding [v] (truthy v)):=by intro _; rfl):PT X e (tB t):=by
 intro pins s σ H Q I hw
 refine isTrue_plain (thn (h pins s σ H _ I hw) fun v s1 ⟨x,H1,I1,r1,q1⟩=>?_) (he _)
 obtain ⟨d,rfl,q⟩:=q1
 cases r1
 exact wpAny_truthy_bool ⟨H1,I1,q⟩
variable {tA tB':TT} {rest:List Expr}
def tAnd (t u:TT):TT:=fun σ H Q=>t σ H fun c H1=>if c=true then u σ H1 Q else Q false H1
def tOr (t u:TT):TT:=fun σ H Q=>t σ H fun c H1=>if c=true then Q true H1 else u σ H1 Q
def tNot (t:TT):TT:=fun σ H Q=>t σ H fun c H1=>Q (!c) H1
theorem pw_and1 (ha:PT X a tA):PW X (.BoolOp .And [a] pos) tA:=by
 intro wh pins s σ H Q I h
 refine isTrue_and (thn (ha pins s σ H Q I h) fun c s1 e=>?_)
 cases c with
 | true=>exact isTrue_and_nil e
 | false=>exact e
theorem pw_or1 (ha:PT X a tA):PW X (.BoolOp .Or [a] pos) tA:=by
 intro wh pins s σ H Q I h
 refine isTrue_or (thn (ha pins s σ H Q I h) fun c s1 e=>?_)
 cases c with
 | false=>exact isTrue_or_nil e
 | true=>exact e
theorem pw_and (ha:PT X a tA) (hb:PW X (.BoolOp .And (b::rest) pos) tB'):PW X (.BoolOp .And (a::b::rest) pos) (tAnd tA tB'):=by
 intro wh pins s σ H Q I h
 refine isTrue_and (thn (ha pins s σ H _ I h) fun c s1 ⟨H1,I1,q1⟩=>?_)
 cases c with
 | true=>exact hb wh pins s1 σ H1 Q I1 q1
 | false=>exact ⟨H1,I1,q1⟩
theorem pw_or (ha:PT X a tA) (hb:PW X (.BoolOp .Or (b::rest) pos) tB'):PW X (.BoolOp .Or (a::b::rest) pos) (tOr tA tB'):=by
 intro wh pins s σ H Q I h
 refine isTrue_or (thn (ha pins s σ H _ I h) fun c s1 ⟨H1,I1,q1⟩=>?_)
 cases c with
 | true=>exact ⟨H1,I1,q1⟩
 | false=>exact hb wh pins s1 σ H1 Q I1 q1
theorem pt_not (ha:PT X a tA):PT X (.UnaryOp .Not a pos) (tNot tA):=by
 intro pins s σ H Q I h
 exact isTrue_not (ha pins s σ H (fun c H1=>Q (!c) H1) I h)
def tAndV (ta tb:TE):TE:=fun σ H Q=>ta σ H fun x H1=>∃ c,x=.bl c∧if c=true then tb σ H1 Q else Q (.bl false) H1
theorem pe_one {op} {t:TE} (h:PE X a t):PE X (.BoolOp op [a] pos) t:=fun pins s σ H Q I hw=>BoolOp_one (h pins s σ H Q I hw)
theorem pe_and (ha:PE X a ta) (hb:PE X (.BoolOp .And (b::rest) pos) tb):PE X (.BoolOp .And (a::b::rest) pos) (tAndV ta tb):=by
 intro pins s σ H Q I h
 refine BoolOp_and (thn (ha pins s σ H _ I h) fun v s1 ⟨x,H1,I1,r1,q1⟩=>?_)
 obtain ⟨c,rfl,q1⟩:=q1
 cases r1
 refine wpAny_truthy_bool ?_
 cases c with
 | true=>exact hb pins s1 σ H1 Q I1 q1
 | false=>exact ⟨.bl false,H1,I1,rfl,q1⟩
def tIf (t:TT) (ta tb:TE):TE:=fun σ H Q=>t σ H fun c H1=>if c=true then ta σ H1 Q else tb σ H1 Q
theorem pe_ifExp {c:Expr} (hc:PT X c tA) (ha:PE X a ta) (hb:PE X b tb):PE X (.IfExp c a b pos) (tIf tA ta tb):=by
 intro pins s σ H Q I h
 refine wpAny_IfExp (thn (hc pins s σ H _ I h) fun d s1 ⟨H1,I1,q1⟩=>?_)
 cases d with
 | true=>exact ha pins s1 σ H1 Q I1 q1
 | false=>exact hb pins s1 σ H1 Q I1 q1
end
end L2
namespace L2
open PySem PySem.Spec PyProof.Rows
def SqL (K:PySem.W.Frag) (H:Hp) (a:Addr) (xs:List V):Prop :=
 Rd H a (.lst xs) ∨
  ∃ (o:Obj) (its:Array Value) (n:Nat),K.lookup a=some o∧o.cls=.type "list"∧o.dict=none∧o.data=.seq its n∧its.size≤sizeLine∧Vals xs its.toList
def SqT (K:PySem.W.Frag) (H:Hp) (a:Addr) (xs:List V):Prop :=
 Rd H a (.tup xs) ∨
  ∃ (o:Obj) (its:Array Value) (n:Nat),K.lookup a=some o∧o.cls=.type "tuple"∧o.data=.seq its n∧its.size≤sizeLine∧Vals xs its.toList
def absV:Value→Option V
 | .none=>some .non
 | .bool b=>some (.bl b)
 | .int i _=>some (.int i)
 | .str x _=>some (.str x)
 | .bytes b _=>some (.byt b)
 | .float b _=>some (.flt b)
 | .ref a=>some (.ref a)
 | .type n=>some (.ty n)
 | _=>none
theorem RelV.abs {x:V} {u:Value} (r:RelV x u):absV u=some x:=by
 cases x with
 | non=>cases r; rfl
 | bl _=>cases r; rfl
 | int _=>obtain ⟨t,rfl⟩:=r; rfl
 | str _=>obtain ⟨t,rfl⟩:=r; rfl
 | byt _=>obtain ⟨t,rfl⟩:=r; rfl
 | flt _=>obtain ⟨t,rfl⟩:=r; rfl
 | ref _=>cases r; rfl
 | ty _=>cases r; rfl
theorem RelV.inj {x y:V} {u:Value} (r:RelV x u) (q:RelV y u):x=y:=Option.some.inj (r.abs.symm.trans q.abs)
theorem Vals.inj:∀ {xs ys:List V} {us:List Value},Vals xs us→Vals ys us→xs=ys
 | _,_,_,.nil,.nil=>rfl
 | _,_,_,.cons r t,.cons r' t'=>by rw [r.inj r',Vals.inj t t']
section
variable {X:Cx} {pins:List (Addr×Obj)} {σ:St} {H:Hp} {s:Shared} {a:Addr} {xs ys:List V}
theorem SqL.of {K:PySem.W.Frag} (h:H a=some (.lst xs)):SqL K H a xs:=.inl (.inl h)
theorem SqT.of {K:PySem.W.Frag} (h:H a=some (.tup xs)):SqT K H a xs:=.inl (.inl h)
theorem Inv.list (I:Inv X pins σ H s) (h:SqL X.K H a xs):∃ its:List Value,Vals xs its∧PlainL s.heap a its.toArray∧xs.length≤sizeLine:=by
 rcases h with h | ⟨o,its,n,hk,hc,hd,hs,hz,r⟩
 ·obtain ⟨z,its,n,r,e⟩:=h.ok I.hok
  exact ⟨its,r,⟨_,n,e,rfl,rfl,rfl⟩,z⟩
 ·refine ⟨its.toList,r,⟨o,n,I.kIn a o hk,hc,hd,by simpa using hs⟩,?_⟩
  have e:=r.length
  simp only [Array.length_toList] at e
  lia
theorem Inv.tuple (I:Inv X pins σ H s) (h:SqT X.K H a xs):∃ its:List Value,Vals xs its∧IsTup s.heap a its.toArray∧xs.length≤sizeLine:=by
 rcases h with h | ⟨o,its,n,hk,hc,hs,hz,r⟩
 ·obtain ⟨z,its,r,p⟩:=h.ok I.hok
  exact ⟨its,r,p,z⟩
 ·refine ⟨its.toList,r,⟨o,I.kIn a o hk,hc,n,by simpa using hs⟩,?_⟩
  have e:=r.length
  simp only [Array.length_toList] at e
  lia
theorem Inv.list_inj (I:Inv X pins σ H s) (h:SqL X.K H a xs) (h':SqL X.K H a ys):xs=ys:=by
 obtain ⟨its,r,⟨o,n,e,_,_,d⟩,_⟩:=I.list h
 obtain ⟨its',r',⟨o',n',e',_,_,d'⟩,_⟩:=I.list h'
 rw [e] at e'; cases e'
 rw [d] at d'
 injection d' with d1 _
 have:its=its':=by simpa using congrArg Array.toList d1
 subst this
 exact r.inj r'
theorem Inv.tuple_inj (I:Inv X pins σ H s) (h:SqT X.K H a xs) (h':SqT X.K H a ys):xs=ys:=by
 obtain ⟨its,r,⟨o,e,_,n,d⟩,_⟩:=I.tuple h
 obtain ⟨its',r',⟨o',e',_,n',d'⟩,_⟩:=I.tuple h'
 rw [e] at e'; cases e'
 rw [d] at d'
 injection d' with d1 _
 have:its=its':=by simpa using congrArg Array.toList d1
 subst this
 exact r.inj r'
end
abbrev Cx.wish (X:Cx) (E:Value→Shared→Prop):Cx:={ X with xe:=E }
abbrev Cx.nox (X:Cx):Cx:=X.wish fun _ _=>False
theorem Cx.Ok.wish {X:Cx} (ok:X.Ok) (E:Value→Shared→Prop):(X.wish E).Ok :=
 ⟨ok.mod,ok.kind,ok.glob,ok.blt,ok.above,ok.inj,ok.has,ok.cab,ok.hd,ok.frames,ok.stk,ok.exf,ok.bs,ok.bsz,ok.noex,ok.exfs,ok.funs,ok.frf⟩
theorem Cx.Ok.unwish {X:Cx} {E:Value→Shared→Prop} (ok:(X.wish E).Ok):X.Ok :=
 ⟨ok.mod,ok.kind,ok.glob,ok.blt,ok.above,ok.inj,ok.has,ok.cab,ok.hd,ok.frames,ok.stk,ok.exf,ok.bs,ok.bsz,ok.noex,ok.exfs,ok.funs,ok.frf⟩
section
variable {X:Cx} {pins:List (Addr×Obj)} {σ:St} {H:Hp} {s:Shared} {E:Value→Shared→Prop}
theorem Inv.wish (I:Inv X pins σ H s) (E:Value→Shared→Prop):Inv (X.wish E) pins σ H s:=⟨I.ok.wish E,I.os,I.bare,I.base,I.loc,I.cell,I.free,I.freeC,I.pin,I.hok,I.len⟩
theorem Inv.unwish (I:Inv (X.wish E) pins σ H s):Inv X pins σ H s:=⟨I.ok.unwish,I.os,I.bare,I.base,I.loc,I.cell,I.free,I.freeC,I.pin,I.hok,I.len⟩
theorem SP.unwish {D:Ends} {f:Flow} {s':Shared} (h:SP (X.wish E) pins D f s'):SP X pins D f s':=by
 cases f with
 | next=>obtain ⟨σ',H',I,q⟩:=h; exact ⟨σ',H',I.unwish,q⟩
 | brk=>obtain ⟨σ',H',I,q⟩:=h; exact ⟨σ',H',I.unwish,q⟩
 | cont=>obtain ⟨σ',H',I,q⟩:=h; exact ⟨σ',H',I.unwish,q⟩
 | ret u=>obtain ⟨v,σ',H',I,r,q⟩:=h; exact ⟨v,σ',H',I.unwish,r,q⟩
theorem PE.nox {e:Expr} {t:TE} (h:PE X.nox e t):PE X e t:=fun pins s σ H Q I hw =>
 wpAny_mono (h pins s σ H Q (I.wish _) hw) (fun _ _ ⟨v,H',I',r,q⟩=>⟨v,H',I'.unwish,r,q⟩) fun _ _ z=>False.elim z
theorem PT.nox {e:Expr} {t:TT} (h:PT X.nox e t):PT X e t:=fun pins s σ H Q I hw =>
 wpAny_mono (h pins s σ H Q (I.wish _) hw) (fun _ _ ⟨H',I',q⟩=>⟨H',I'.unwish,q⟩) fun _ _ z=>False.elim z
theorem PSs.nox {st:List Stmt} {t:TS} (h:PSs X.nox st t):PSs X st t:=fun pins s σ H D I hw =>
 wpAny_mono (h pins s σ H D (I.wish _) hw) (fun _ _ q=>q.unwish) fun _ _ z=>False.elim z
end
section
variable {X:Cx} {st:Stmt} {rest:List Stmt} {t u:TS} {e:Expr} {te:TE} {pos:Pos}
def tNext:TS:=fun D σ H=>D.nx σ H
def tSeq (t u:TS):TS:=fun D σ H=>t { D with nx:=u D } σ H
theorem pss_nil:PSs X [] tNext:=fun _ _ σ H _ I h=>wpAny_execs_nil ⟨σ,H,I,h⟩
theorem pss_cons (h1:PS X st t) (h2:PSs X rest u):PSs X (st::rest) (tSeq t u):=by
 intro pins s σ H D I h
 refine wpAny_execs_cons (thn (h1 pins s σ H { D with nx:=u D } I h) fun f s1 q=>?_)
 cases f with
 | next =>
  obtain ⟨σ',H',I',q⟩:=q
  exact h2 pins s1 σ' H' D I' q
 | ret v=>exact q
 | brk=>exact q
 | cont=>exact q
theorem pss_one (h1:PS X st t):PSs X [st] t:=by
 intro pins s σ H D I h
 refine wpAny_execs_cons (thn (h1 pins s σ H D I h) fun f s1 q=>?_)
 cases f with
 | next=>exact wpAny_execs_nil q
 | ret v=>exact q
 | brk=>exact q
 | cont=>exact q
theorem Inv.quiet {pins:List (Addr×Obj)} {σ:St} {H:Hp} {s:Shared} (I:Inv X pins σ H s):interactive X.env=false:=by simp [interactive,I.ok.kind]
def tDrop (te:TE):TS:=fun D σ H=>te σ H fun _ H1=>D.nx σ H1
theorem ps_expr (he:PE X e te) (hs:swapsWith e none pos.line X.env=pure false:=by rfl):PS X (.Expr e pos) (tDrop te):=by
 intro pins s σ H D I h
 exact wpAny_Expr_any (thn (he pins s σ H _ I h) fun v s1 ⟨x,H1,I1,r1,q1⟩=>⟨σ,H1,I1,q1⟩) I.quiet hs
def tRet (te:TE):TS:=fun D σ H=>te σ H D.rt
theorem ps_ret (he:PE X e te):PS X (.Return (some e) pos) (tRet te):=by
 intro pins s σ H D I h
 exact wpAny_Return_some (thn (he pins s σ H _ I h) fun v s1 ⟨x,H1,I1,r1,q1⟩=>⟨x,σ,H1,I1,r1,q1⟩)
def tIfS (c:TT) (t u:TS):TS:=fun D σ H=>c σ H fun b H1=>if b=true then t D σ H1 else u D σ H1
theorem ps_if {c:Expr} {a b:List Stmt} {tc:TT} (hc:PT X c tc) (ha:PSs X a t) (hb:PSs X b u):PS X (.If c a b pos) (tIfS tc t u):=by
 intro pins s σ H D I h
 refine wpAny_If (thn (hc pins s σ H _ I h) fun d s1 ⟨H1,I1,q1⟩=>?_)
 cases d with
 | true=>exact ha pins s1 σ H1 D I1 q1
 | false=>exact hb pins s1 σ H1 D I1 q1
def tNever:TS:=fun _ _ _=>False
theorem pss_never {sts:List Stmt}:PSs X sts tNever:=fun _ _ _ _ _ _ h=>h.elim
end
abbrev TG:=V→St→Hp→(St→Hp→Prop)→Prop
abbrev TGs:=List V→St→Hp→(St→Hp→Prop)→Prop
def PG (X:Cx) (target:Expr) (t:TG):Prop :=
 ∀ (pins:List (Addr×Obj)) (s:Shared) (σ:St) (H:Hp) (v:V) (u:Value) (Q:St→Hp→Prop),Inv X pins σ H s→RelV v u→t v σ H Q →
  wpAny (model X.prog X.w) X.A (assign target X.env u) (fun _ s'=>∃ σ' H',Inv X pins σ' H' s'∧Q σ' H') X.xe s
def PGs (X:Cx) (ts:List Expr) (t:TGs):Prop :=
 ∀ (pins:List (Addr×Obj)) (s:Shared) (σ:St) (H:Hp) (vs:List V) (us:List Value) (Q:St→Hp→Prop),Inv X pins σ H s→Vals vs us→t vs σ H Q →
  wpAny (model X.prog X.w) X.A (assignInOrder ((assignEach ts X.env).map (·.2)) us) (fun _ s'=>∃ σ' H',Inv X pins σ' H' s'∧Q σ' H') X.xe s
abbrev TSet:=V→V→V→Hp→(Hp→Prop)→Prop
def PSet (X:Cx) (t:TSet):Prop :=
 ∀ (pins:List (Addr×Obj)) (s:Shared) (σ:St) (H:Hp) (o i v:V) (ov iv u:Value) (Q:Hp→Prop),Inv X pins σ H s→RelV o ov→RelV i iv→RelV v u→t o i v H Q →
  wpAny (model X.prog X.w) X.A (setItem ov iv u) (fun _ s'=>∃ H',Inv X pins σ H' s'∧Q H') X.xe s
section
variable {X:Cx} {pos:Pos}
def gName (i:Nat):TG:=fun v σ H Q=>Q (σ.set i (some v)) H
theorem pg_name {i:Nat} {x:Str} (hN:X.N.Nodup) (hi:X.N[i]?=some x) (hx:Loc X.env.scope x) (hf:X.fn x=true∨X.env.scope.names.lookup x=some .local:=by first | exact .inl rfl | exact .inr rfl | assumption):PG X (.Name x pos) (gName i):=by
 intro pins s σ H v u Q I r h
 exact wpAny_assign_Name (store_ok I hN hi hx r (fun s' I'=>⟨_,H,I',h⟩) hf)
def gNil:TGs:=fun vs σ H Q=>vs=[]∧Q σ H
def gCons (t:TG) (u:TGs):TGs:=fun vs σ H Q=>∃ v r,vs=v::r∧t v σ H fun σ' H'=>u r σ' H' Q
theorem pgs_nil:PGs X [] gNil:=by
 intro pins s σ H vs us Q I r h
 obtain ⟨e,h⟩:=h
 subst e
 cases r
 exact assignInOrder_nil ⟨σ,H,I,h⟩
theorem pgs_cons {e:Expr} {es:List Expr} {t:TG} {u:TGs} (h1:PG X e t) (h2:PGs X es u)
  (hs:(assignEach (e::es) X.env).map (·.2)=assign e X.env::(assignEach es X.env).map (·.2):=by rfl):PGs X (e::es) (gCons t u):=by
 intro pins s σ H vs us Q I r h
 obtain ⟨v,vr,e1,h⟩:=h
 subst e1
 cases r with
 | cons r rr =>
  rw [hs]
  refine assignInOrder_cons (thn (h1 pins s σ H _ _ _ I r h) fun _ s1 ⟨σ1,H1,I1,q1⟩=>?_)
  exact h2 pins s1 σ1 H1 _ _ Q I1 rr q1
def gTup (K:PySem.W.Frag) (n:Nat) (t:TGs):TG:=fun v σ H Q=>∃ a xs,v=.ref a∧SqT K H a xs∧xs.length=n∧t xs σ H Q
theorem pg_tup {es:List Expr} {k:Nat} {t:TGs} {n:Nat} (hc:X.calm=true) (h:PGs X es t)
  (hn:(assignEach es X.env).length=n:=by rfl) (hst:(assignEach es X.env).findIdx? (·.1)=none:=by rfl):PG X (.Tuple es k pos) (gTup X.K n t):=by
 intro pins s σ H v u Q I r hw
 obtain ⟨a,xs,e1,hq,hl,hw⟩:=hw
 subst e1
 cases r
 obtain ⟨its,rv,ht,hz⟩:=I.tuple hq
 refine assign_Tuple_tuple (I.ok.hd hc) ht (by simp [hn,← hl,rv.length]) hst fun h' hx=>?_
 have I1:Inv X pins σ H { s with heap:=h' }:=I.kept (t':=s.toks) fun b o e=>hx b o (Nat.ne_of_lt (Heap.lt_size e)) e
 exact h pins _ σ H xs _ Q I1 (by simpa using rv) hw
def gSub (to ti:TE) (t:TSet):TG:=fun v σ H Q=>to σ H fun o H1=>ti σ H1 fun i H2=>t o i v H2 fun H3=>Q σ H3
theorem pg_sub {o i:Expr} {to ti:TE} {t:TSet} (ho:PE X o to) (hi:PE X i ti) (hs:PSet X t)
  (ha:∀ v,assign (.Subscript o i pos) X.env v=(do
   let ov ← holding [v] (eval o X.env)
   let iv ← holding [v,ov] (eval i X.env)
   standAt pos
   holding [v,ov,iv] (setItem ov iv v)
   release [v,ov,iv] []):=by intro _; rfl):PG X (.Subscript o i pos) (gSub to ti t):=by
 intro pins s σ H v u Q I r h
 rw [ha]
 refine wpAny_bind (wpAny_holding (thn (ho pins s σ H _ I h) fun ov s1 ⟨x,H1,I1,r1,q1⟩=>?_))
 refine wpAny_bind (wpAny_holding (thn (hi pins s1 σ H1 _ I1 q1) fun iv s2 ⟨y,H2,I2,r2,q2⟩=>?_))
 refine wpAny_bind (wpAny_standAt (wpAny_bind (wpAny_holding (thn (hs pins s2 σ H2 x y v ov iv u _ I2 r1 r2 r q2) fun _ s3 ⟨H3,I3,q3⟩=>?_))))
 exact wpAny_release ⟨σ,H3,I3,q3⟩
def tAsg (te:TE) (g:TG):TS:=fun D σ H=>te σ H fun x H1=>g x σ H1 D.nx
theorem ps_asg {tg e:Expr} {te:TE} {g:TG} (he:PE X e te) (hg:PG X tg g) (hs:swapsWithSole [tg] e pos.line X.env=pure false:=by rfl) (hw:swappedStores [tg] e X.env=pure none:=by rfl)
  (h1:(assignEach [tg] X.env).map (·.2)=[assign tg X.env]:=by rfl):PS X (.Assign [tg] e pos) (tAsg te g):=by
 intro pins s σ H D I h
 refine wpAny_Assign_stores (thn (he pins s σ H _ I h) fun v s1 ⟨x,H1,I1,r1,q1⟩=>?_) hs hw
 rw [h1]
 exact thn (hg pins s1 σ H1 x v _ I1 r1 q1) fun _ s2 q=>q
theorem ps_set {i:Nat} {x:Str} {e:Expr} {te:TE} {pos':Pos} (hN:X.N.Nodup) (hi:X.N[i]?=some x) (hx:Loc X.env.scope x) (he:PE X e te) (hs:swapsWith e (some (.Name x pos')) pos.line X.env=pure false:=by rfl) (hf:X.fn x=true∨X.env.scope.names.lookup x=some .local:=by first | exact .inl rfl | exact .inr rfl | assumption) :
  PS X (.Assign [.Name x pos'] e pos) (tAsg te (gName i)):=by
 intro pins s σ H D I h
 refine wpAny_Assign_Name (thn (he pins s σ H _ I h) fun v s1 ⟨y,H1,I1,r1,q1⟩=>?_) hs
 exact store_ok I1 hN hi hx r1 (fun s2 I2=>⟨_,H1,I2,q1⟩) hf
end
section
variable {X:Cx} {pos:Pos}
end
structure It where
 go:Nat→Hp→Prop
 yld:Nat→Hp→V→Hp→Prop
 stop:Nat→Hp→Prop
def FpOk (X:Cx) (pins:List (Addr×Obj)) (H:Hp) (b:Addr):Prop :=
 H b=none∧b≠X.env.locals∧b∉X.fs∧(b∈X.ex∨X.s₀.heap.objs.size≤b)∧(∀ x c,X.env.cells.lookup x=some c→c≠b)∧∀ p∈X.pn++pins,p.1≠b
theorem Inv.fpOk {X:Cx} {pins:List (Addr×Obj)} {σ:St} {H H':Hp} {s:Shared} {b:Addr} (I:Inv X pins σ H s) (hb:s.heap.objs.size≤b) (hn:H' b=none):FpOk X pins H' b:=by
 refine ⟨hn,Nat.ne_of_gt (Nat.lt_of_lt_of_le I.lt hb),I.nofs hb,.inr (Nat.le_trans I.sz hb),fun x c e z=>?_,fun p hp z=>?_⟩
 ·obtain ⟨v,q⟩:=I.cell x c e
  exact absurd (Nat.lt_of_lt_of_le q.lt (by rw [z]; exact hb)) (Nat.lt_irrefl _)
 ·exact absurd (Nat.lt_of_lt_of_le (Heap.lt_size (I.pin p hp).1) (by rw [z]; exact hb)) (Nat.lt_irrefl _)
structure Turn (P:Program) (w:World) (K:PySem.W.Frag) (tg:Expr) (J:It) (fp:List Addr) (it:Addr) (tn:Nat→Heap→Prop):Prop where
 mem:it∈fp
 obj:∀ i h,tn i h→∀ b∈fp,∃ o,h.get? b=some o∧∀ v,o.data≠.cell v
 keep:∀ i h h',tn i h→(∀ b∈fp,∀ o,h.get? b=some o→h'.get? b=some o)→tn i h'
 item:∀ (X:Cx),X.prog=P→X.w=w→X.K=K→X.calm=true→∀ (i:Nat) (pins:List (Addr×Obj)) (s:Shared) (σ:St) (H:Hp) (E:Value→Shared→Prop),Inv X pins σ H s→(∀ b∈fp,FpOk X pins H b)→tn i s.heap→J.go i H →
  wpAny (model P w) X.A (pyNext (.ref it)) (fun r s1=>∃ u,r=some u ∧
   wpAny (model P w) X.A (letOwnedTupleGo tg (.ref it) u) (fun _ s2=>∃ x H',Inv X pins σ H' s2∧RelV x u∧J.yld i H x H'∧tn (i+1) s2.heap∧∀ b∈fp,H' b=none) E s1) E s
 done:∀ (X:Cx),X.prog=P→X.w=w→X.K=K→X.calm=true→∀ (i:Nat) (pins:List (Addr×Obj)) (s:Shared) (σ:St) (H:Hp) (E:Value→Shared→Prop),Inv X pins σ H s→(∀ b∈fp,FpOk X pins H b)→tn i s.heap→J.stop i H →
  wpAny (model P w) X.A (pyNext (.ref it)) (fun r s1=>r=none∧Inv X pins σ H s1) E s
 self:∀ (A:Around) (i:Nat) (s:Shared) (Q:Value→Shared→Prop) (E:Value→Shared→Prop),tn i s.heap→Q (.ref it) s→wpAny (model P w) A (pyIter (.ref it)) Q E s
abbrev TI:=St→Hp→(It→Hp→Prop)→Prop
def PIE (X:Cx) (pins:List (Addr×Obj)) (σ:St) (tg:Expr) (R:It→Hp→Prop) (itv:Value) (s2:Shared):Prop :=
 ∃ (it:Addr) (fp:List Addr) (tn:Nat→Heap→Prop) (J:It) (H':Hp),itv=.ref it∧Inv X pins σ H' s2∧Turn X.prog X.w X.K tg J fp it tn∧tn 0 s2.heap∧(∀ b∈fp,FpOk X pins H' b)∧R J H'
def PI (X:Cx) (tg iter:Expr) (wi:TI):Prop :=
 ∀ (pins:List (Addr×Obj)) (s:Shared) (σ:St) (H:Hp) (R:It→Hp→Prop),Inv X pins σ H s→wi σ H R →
  wpAny (model X.prog X.w) X.A (eval iter X.env) (fun v s1=>wpAny (model X.prog X.w) X.A (pyIter v) (PIE X pins σ tg R) X.xe s1) X.xe s
theorem go_of {M : Model} {A : Around} {E : Value → Shared → Prop} {s : Shared} {tg : Expr} {it : Addr} {u : Value} {o : Obj} {n : String} {vs : Array Value} {Q : Unit → Shared → Prop} (ho : s.heap.get? it = some o) (hc : o.cls = .type n) (hd : o.data = .fields vs)
    (hn : ["enumerate", "zip", "dict_itemiterator", "dict_reverseitemiterator", "odict_iterator", "itertools.zip_longest", "itertools.pairwise"].contains n = false) (hQ : Q () s) : wpAny M A (letOwnedTupleGo tg (.ref it) u) Q E s := by
  unfold letOwnedTupleGo
  cases tg <;> first
    | exact wpAny_pure hQ
    | (cases u <;> first
        | exact wpAny_pure hQ
        | (refine wpAny_bind (wpAny_load ho ?_)
           rw [hc, hd]
           show wpAny M A (if (["enumerate", "zip", "dict_itemiterator", "dict_reverseitemiterator", "odict_iterator", "itertools.zip_longest", "itertools.pairwise"].contains n && vs[0]? == some (rawInt _)) = true then _ else _) Q E s
           rw [if_neg (by intro h; rw [hn, Bool.false_and] at h; cases h)]
           exact wpAny_pure hQ))
def Itl (K:PySem.W.Frag) (a:Addr):It :=
 ⟨fun i H=>∃ xs x,SqL K H a xs∧xs[i]?=some x,fun i H x H'=>H'=H∧∀ xs,SqL K H a xs→xs[i]?=some x,fun i H=>∃ xs,SqL K H a xs∧xs.length≤i⟩
def Itt (K:PySem.W.Frag) (a:Addr):It :=
 ⟨fun i H=>∃ xs x,SqT K H a xs∧xs[i]?=some x,fun i H x H'=>H'=H∧∀ xs,SqT K H a xs→xs[i]?=some x,fun i H=>∃ xs,SqT K H a xs∧xs.length≤i⟩
def Itr (lo:Int) (n:Nat):It:=⟨fun i _=>i<n,fun i H x H'=>H'=H∧x=.int (lo+i),fun i _=>n≤i⟩
theorem turn_list {P:Program} {w:World} {K:PySem.W.Frag} {tg:Expr} (a it:Addr):Turn P w K tg (Itl K a) [it] it (fun i h=>h.IsListIter it a i) where
 mem:=by simp
 obj:=fun i h st b hb=>by
  have e:b=it:=by simpa using hb
  subst e
  obtain ⟨o,e,c,d⟩:=st
  exact ⟨o,e,fun v z=>by rw [d] at z; cases z⟩
 keep:=fun i h h' st k=>st.at fun o e=>k it (by simp) o e
 item:=by
  intro X hP hw hK hc i pins s σ H E I hf st hg
  subst hP hw hK
  obtain ⟨xs,x,hq,hx⟩:=hg
  obtain ⟨its,rv,p,hz⟩:=I.list hq
  obtain ⟨u,hu,ru⟩:=rv.get hx
  obtain ⟨f0,f1,f2,f3,f4,f5⟩:=hf it (by simp)
  refine wpAny_pyNext_list_item st p.isList (x:=u) (by simpa using hu) fun h' st' sb=>?_
  have I1:Inv X pins σ H { s with heap:=h' }:=I.turned (t':=s.toks) (fun b o hb e=>(sb.2 b hb).trans e) f0 f1 f3 f4 f5
  obtain ⟨o,e,c,d⟩:=id st'
  exact ⟨u,rfl,go_of (s:={ s with heap:=h' }) e c d (by decide) ⟨x,H,I1,ru,⟨rfl,fun ys hy=>by rw [I.list_inj hy hq]; exact hx⟩,st',fun b hb=>(hf b hb).1⟩⟩
 done:=by
  intro X hP hw hK hc i pins s σ H E I hf st hg
  subst hP hw hK
  obtain ⟨xs,hq,hx⟩:=hg
  obtain ⟨its,rv,p,hz⟩:=I.list hq
  obtain ⟨f0,f1,f2,f3,f4,f5⟩:=hf it (by simp)
  have hl:=rv.length
  exact wpAny_pyNext_list_end (I.ok.hd hc) st p.isList (by simp; lia) fun h' eb=>⟨rfl,I.turned (t':=s.toks) (fun b o hb e=>eb b o hb e) f0 f1 f3 f4 f5⟩
 self:=fun _ _ _ _ _ st h=>wpAny_pyIter_listiter st h
theorem turn_tuple {P:Program} {w:World} {K:PySem.W.Frag} {tg:Expr} (a it:Addr):Turn P w K tg (Itt K a) [it] it (fun i h=>h.IsTupleIter it a i) where
 mem:=by simp
 obj:=fun i h st b hb=>by
  have e:b=it:=by simpa using hb
  subst e
  obtain ⟨o,e,c,d⟩:=st
  exact ⟨o,e,fun v z=>by rw [d] at z; cases z⟩
 keep:=fun i h h' st k=>st.at fun o e=>k it (by simp) o e
 item:=by
  intro X hP hw hK hc i pins s σ H E I hf st hg
  subst hP hw hK
  obtain ⟨xs,x,hq,hx⟩:=hg
  obtain ⟨its,rv,p,hz⟩:=I.tuple hq
  obtain ⟨u,hu,ru⟩:=rv.get hx
  obtain ⟨f0,f1,f2,f3,f4,f5⟩:=hf it (by simp)
  refine wpAny_pyNext_tuple_item st (show s.heap.IsTuple a its.toArray from p) (x:=u) (by simpa using hu) fun h' st' sb=>?_
  have I1:Inv X pins σ H { s with heap:=h' }:=I.turned (t':=s.toks) (fun b o hb e=>(sb.2 b hb).trans e) f0 f1 f3 f4 f5
  obtain ⟨o,e,c,d⟩:=id st'
  exact ⟨u,rfl,go_of (s:={ s with heap:=h' }) e c d (by decide) ⟨x,H,I1,ru,⟨rfl,fun ys hy=>by rw [I.tuple_inj hy hq]; exact hx⟩,st',fun b hb=>(hf b hb).1⟩⟩
 done:=by
  intro X hP hw hK hc i pins s σ H E I hf st hg
  subst hP hw hK
  obtain ⟨xs,hq,hx⟩:=hg
  obtain ⟨its,rv,p,hz⟩:=I.tuple hq
  obtain ⟨f0,f1,f2,f3,f4,f5⟩:=hf it (by simp)
  have hl:=rv.length
  exact wpAny_pyNext_tuple_end (I.ok.hd hc) st (show s.heap.IsTuple a its.toArray from p) (by simp; lia) fun h' eb=>⟨rfl,I.turned (t':=s.toks) (fun b o hb e=>eb b o hb e) f0 f1 f3 f4 f5⟩
 self:=fun _ _ _ _ _ st h=>wpAny_pyIter_tupleiter st h
theorem turn_range {P:Program} {w:World} {K:PySem.W.Frag} {tg:Expr} (it:Addr) (lo:Int) (n:Nat):Turn P w K tg (Itr lo n) [it] it (fun i h=>IsRangeIter h it (lo+(i:Nat) * 1) ((n:Int) - (i:Nat)) 1) where
 mem:=by simp
 obj:=fun i h st b hb=>by
  have e:b=it:=by simpa using hb
  subst e
  exact ⟨_,st,fun v z=>by
   have z':Data.fields _=Data.cell v:=z
   cases z'⟩
 keep:=fun i h h' st k=>k it (by simp) _ st
 item:=by
  intro X hP hw hK hc i pins s σ H E I hf st hg
  subst hP hw hK
  obtain ⟨f0,f1,f2,f3,f4,f5⟩:=hf it (by simp)
  have W:=Walks.range (prog:=X.prog) (w:=X.w) (I.ok.hd hc) it lo 1 n
  refine W.item i s _ _ hg st fun v h' tk hv st' kk=>?_
  obtain ⟨t,rfl⟩:=hv
  have I1:Inv X pins σ H { s with heap:=h',toks:=tk }:=I.turned (fun b o hb e=>kk b o (by simpa using hb) e) f0 f1 f3 f4 f5
  refine ⟨_,rfl,go_of (s:={ s with heap:=h',toks:=tk }) (n:="range_iterator") st' rfl rfl (by decide) ⟨.int (lo+i),H,I1,⟨t,?_⟩,⟨rfl,rfl⟩,st',fun b hb=>(hf b hb).1⟩⟩
  rw [Int.mul_one]
 done:=by
  intro X hP hw hK hc i pins s σ H E I hf st hg
  subst hP hw hK
  obtain ⟨f0,f1,f2,f3,f4,f5⟩:=hf it (by simp)
  exact wpAny_pyNext_range_end (I.ok.hd hc) st (by have:n≤i:=hg; lia) fun h' eb=>⟨rfl,I.turned (t':=s.toks) (fun b o hb e=>eb b o hb e) f0 f1 f3 f4 f5⟩
 self:=fun _ _ _ _ _ st h=>wpAny_pyIter_rangeiter st h
end L2
namespace L2
open PySem PySem.Spec PyProof.Rows
section
variable {X:Cx} {tg:Expr}
def iList (K:PySem.W.Frag) (tl:TE):TI:=fun σ H R=>tl σ H fun x H1=>∃ a,x=.ref a∧(∃ xs,SqL K H1 a xs)∧R (Itl K a) H1
theorem pi_list {l:Expr} {tl:TE} (hl:PE X l tl):PI X tg l (iList X.K tl):=by
 intro pins s σ H R I h
 refine thn (hl pins s σ H _ I h) fun v s1 ⟨x,H1,I1,r1,q1⟩=>?_
 obtain ⟨a,e,⟨xs,hq⟩,q⟩:=q1
 subst e
 cases r1
 obtain ⟨its,rv,p,hz⟩:=I1.list hq
 refine wpAny_pyIter_list p.isList ?_
 refine ⟨s1.heap.objs.size,[s1.heap.objs.size],_,_,H1,rfl,I1.kept (t':=s1.toks) fun b o e=>Heap.get?_push_of_some _ e,turn_list a _,⟨_,Heap.get?_push_size _ rfl,rfl,rfl⟩,fun b hb=>?_,q⟩
 have e:b=s1.heap.objs.size:=by simpa using hb
 subst e
 exact I1.fpOk (Nat.le_refl _) (I1.hok.fresh (Nat.le_refl _))
theorem range_it {pins:List (Addr×Obj)} {σ:St} {H:Hp} {s:Shared} {R:It→Hp→Prop} {E:Value→Shared→Prop} {lo hi:Int} {t u v:Tok} {tk:Nat} (I:Inv X pins σ H s) (h1:-(2 ^ 62)≤lo) (h2:lo<2 ^ 62) (h3:-(2 ^ 62)≤hi) (h4:hi<2 ^ 62)
  (q:R (Itr lo (hi - lo).toNat) H):wpAny (model X.prog X.w) X.A (pyIter (.ref s.heap.objs.size)) (PIE X pins σ tg R) E { s with heap:=s.heap.push { cls:=.type "range",data:=.fields #[.int lo t,.int hi u,.int 1 v] },toks:=tk }:=by
 refine wpAny_pyIter_range (IsRange.new ..) (small_one h1 h2 h3 h4) ?_
 have I1:Inv X pins σ H { s with heap:=s.heap.push { cls:=.type "range",data:=.fields #[.int lo t,.int hi u,.int 1 v] },toks:=tk }:=I.kept fun b o e=>Heap.get?_push_of_some _ e
 refine ⟨(s.heap.push { cls:=.type "range",data:=.fields #[.int lo t,.int hi u,.int 1 v] }).objs.size,[(s.heap.push { cls:=.type "range",data:=.fields #[.int lo t,.int hi u,.int 1 v] }).objs.size],_,_,H,rfl,
  I1.kept (t':=tk) fun b o e=>Heap.get?_push_of_some _ e,turn_range _ lo (hi - lo).toNat,?_,fun b hb=>?_,q⟩
 ·have e1:lo+((0:Nat):Int) * 1=lo:=by simp
  have e2:(((hi - lo).toNat:Nat):Int) - ((0:Nat):Int)=Builtin.Range.rangeSize lo hi 1:=by rw [rangeSize_one]; split <;> lia
  show IsRangeIter _ _ (lo+((0:Nat):Int) * 1) ((((hi - lo).toNat:Nat):Int) - ((0:Nat):Int)) 1
  rw [e1,e2]
  exact Heap.get?_push_size _ rfl
 ·have e:b=(s.heap.push { cls:=.type "range",data:=.fields #[.int lo t,.int hi u,.int 1 v] }).objs.size:=by simpa using hb
  subst e
  exact I1.fpOk (Nat.le_refl _) (I1.hok.fresh (Nat.le_refl _))
def iRng1 (ta:TA):TI:=fun σ H R=>ta σ H fun vs H1=>∃ j:Int,vs=[.int j]∧-(2 ^ 62)≤j∧j<2 ^ 62∧R (Itr 0 j.toNat) H1
def iRng2 (ta:TA):TI:=fun σ H R=>ta σ H fun vs H1=>∃ i j:Int,vs=[.int i,.int j]∧(-(2 ^ 62)≤i∧i<2 ^ 62∧-(2 ^ 62)≤j∧j<2 ^ 62)∧R (Itr i (j - i).toNat) H1
theorem pi_range1 {a:Expr} {ta:TA} {p pos:Pos} (hg:Gl X "range") (hm:X.mg "range"=none) (ha:PA X [a] ta) (hs:starEach [a] X.env=[(false,eval a X.env)]:=by rfl):PI X tg (.Call (.Name "range" p) [a] [] pos) (iRng1 ta):=by
 intro pins s σ H R I h
 refine Call_ (ld_blt I hg hm boot_range (PyProof.Rows.callWith_type1 (thn (ha pos pins s σ H _ I h) fun us s1 ⟨vs,H1,I1,r1,q1⟩=>?_) hs rfl))
 obtain ⟨j,e,q1,q2,q⟩:=q1
 subst e
 cases r1 with
 | cons r rr =>
  cases rr
  obtain ⟨t,rfl⟩:=r
  exact call_range_1 (range_it I1 (by lia) (by lia) q1 q2 (by simpa using q))
theorem pi_range2 {a b:Expr} {ta:TA} {p pos:Pos} (hg:Gl X "range") (hm:X.mg "range"=none) (ha:PA X [a,b] ta) (hs:starEach [a,b] X.env=[(false,eval a X.env),(false,eval b X.env)]:=by rfl) (hs2:starEach [b] X.env=[(false,eval b X.env)]:=by rfl) :
  PI X tg (.Call (.Name "range" p) [a,b] [] pos) (iRng2 ta):=by
 intro pins s σ H R I h
 refine Call_ (ld_blt I hg hm boot_range (PyProof.Rows.callWith_type1 (thn (ha pos pins s σ H _ I h) fun us s1 ⟨vs,H1,I1,r1,q1⟩=>?_) (by rw [hs,hs2]) (by rw [hs2]; rfl)))
 obtain ⟨i,j,e,⟨q1,q2,q3,q4⟩,q⟩:=q1
 subst e
 cases r1 with
 | cons r rr =>
  cases rr with
  | cons r' rr =>
   cases rr
   obtain ⟨t,rfl⟩:=r
   obtain ⟨t',rfl⟩:=r'
   exact call_range_2 (range_it I1 q1 q2 q3 q4 q)
def tFor (wi:TI) (g:TG) (tb:TS):TS:=fun D σ H=>wi σ H fun J H1=>∃ W:Nat→Nat→St→Hp→Prop,(∃ m,W 0 m σ H1)∧∀ i m σ H,W i m σ H →
 (J.stop i H∧D.nx σ H)∨(J.go i H∧∃ N:St→Hp→Prop,(∀ σ' H',N σ' H'→∃ m',m'<m∧W (i+1) m' σ' H')∧∀ x H',J.yld i H x H'→g x σ H' fun σ2 H2=>tb { D with nx:=N,ct:=N,bk:=D.nx } σ2 H2)
def pinsAt (fp:List Addr) (h:Heap):List (Addr×Obj):=fp.filterMap fun b=>(h.get? b).map fun o=>(b,o)
theorem mem_pinsAt {fp:List Addr} {h:Heap} {b:Addr} {o:Obj} (hb:b∈fp) (e:h.get? b=some o):(b,o)∈pinsAt fp h:=List.mem_filterMap.mpr ⟨b,hb,by rw [e]; rfl⟩
theorem of_pinsAt {fp:List Addr} {h:Heap} {p:Addr×Obj} (hp:p∈pinsAt fp h):p.1∈fp∧h.get? p.1=some p.2:=by
 obtain ⟨b,hb,e⟩:=List.mem_filterMap.mp hp
 cases q:h.get? b with
 | none=>rw [q] at e; cases e
 | some o =>
  rw [q] at e
  have e':(b,o)=p:=Option.some.inj e
  subst e'
  exact ⟨hb,q⟩
theorem Inv.pinned {pins:List (Addr×Obj)} {σ:St} {H:Hp} {s:Shared} {fp:List Addr} (I:Inv X pins σ H s) (hf:∀ b∈fp,FpOk X pins H b) (ho:∀ b∈fp,∃ o,s.heap.get? b=some o∧∀ v,o.data≠.cell v):Inv X (pins++pinsAt fp s.heap) σ H s :=
 I.pins_of fun p hp=>(List.mem_append.mp hp).elim (fun z=>I.pin p (List.mem_append_right _ z)) fun z=>by
  obtain ⟨hb,e⟩:=of_pinsAt z
  obtain ⟨f0,f1,f2,_⟩:=hf p.1 hb
  obtain ⟨o,e',d⟩:=ho p.1 hb
  rw [e] at e'; cases e'
  exact ⟨e,f0,f1,f2,d⟩
theorem Inv.unpinned {pins pl:List (Addr×Obj)} {σ:St} {H:Hp} {s:Shared} (I:Inv X (pins++pl) σ H s):Inv X pins σ H s:=I.pins_of fun p hp=>I.pin p (List.mem_append_right _ (List.mem_append_left _ hp))
theorem ps_for {iter:Expr} {body:List Stmt} {wi:TI} {g:TG} {tb:TS} {pos:Pos} (hp:PassesOwn (model X.prog X.w) X.A X.env X.xe) (hc:X.calm=true) (hi:PI X tg iter wi) (hg:PG X tg g) (hb:PSs X body tb)
  (hs:∀ x,foldedSetIterable iter X.env x=pure x:=by intro _; rfl):PS X (.For tg iter body [] pos) (tFor wi g tb):=by
 intro pins s σ H D I h
 refine wpAny_For (thn (hi pins s σ H _ I h) fun v s1 h1=>thn h1 fun itv s2 h2=>?_) hs
 obtain ⟨it,fp,tn,J,H2,e,I2,T,st2,f2,W,⟨m0,w0⟩,turn⟩:=h2
 subst e
 have stat:∀ {H':Hp},(∀ b∈fp,H' b=none)→∀ b∈fp,FpOk X pins H' b:=fun hn b hb=>⟨hn b hb,(f2 b hb).2⟩
 refine codeAny_forLoop_any (fun n s'=>∃ i σ' H',Inv X pins σ' H' s'∧tn i s'.heap∧(∀ b∈fp,H' b=none)∧W i n σ' H') ?_ m0 ⟨0,σ,H2,I2,st2,fun b hb=>(f2 b hb).1,w0⟩
 rintro n s3 ⟨i,σ3,H3,I3,st3,fr3,w3⟩
 rcases turn i n σ3 H3 w3 with ⟨stop,qn⟩ | ⟨go,N,hN,step⟩
 ·refine wpAny_passesOwn hp (thn (T.done X rfl rfl rfl hc i pins s3 σ3 H3 X.xe I3 (stat fr3) st3 stop) fun r s4 ⟨hr,I4⟩=>?_)
  subst hr
  exact wpAny_execs_nil ⟨σ3,H3,I4,qn⟩
 ·refine wpAny_passesOwn hp (thn (T.item X rfl rfl rfl hc i pins s3 σ3 H3 X.xe I3 (stat fr3) st3 go) fun r s4 ⟨u,hr,h4⟩=>?_)
  subst hr
  refine wpAny_passesOwn hp (thn h4 fun _ s5 ⟨x,H5,I5,r5,y5,st5,fr5⟩=>?_)
  have I5':=I5.pinned (stat fr5) (T.obj _ _ st5)
  refine wpAny_passesOwn hp (thn (hg _ s5 σ3 H5 x u _ I5' r5 (step x H5 y5)) fun _ s6 ⟨σ6,H6,I6,q6⟩=>?_)
  refine wpAny_passesOwn hp (thn (hb _ s6 σ6 H6 _ I6 q6) fun f s7 q7=>?_)
  have again:∀ {σ7:St} {H7:Hp},Inv X (pins++pinsAt fp s5.heap) σ7 H7 s7→N σ7 H7→∃ m,m<n∧∃ i σ' H',Inv X pins σ' H' s7∧tn i s7.heap∧(∀ b∈fp,H' b=none)∧W i m σ' H':=fun {σ7 H7} I7 n7=>by
   obtain ⟨m',hm,w7⟩:=hN σ7 H7 n7
   refine ⟨m',hm,i+1,σ7,H7,I7.unpinned,T.keep _ _ _ st5 fun b hb o e=>(I7.pin (b,o) (List.mem_append_right _ (List.mem_append_right _ (mem_pinsAt hb e)))).1,fun b hb=>?_,w7⟩
   obtain ⟨o,e,d⟩:=T.obj _ _ st5 b hb
   exact (I7.pin (b,o) (List.mem_append_right _ (List.mem_append_right _ (mem_pinsAt hb e)))).2.1
  cases f with
  | next=>obtain ⟨σ7,H7,I7,n7⟩:=q7; exact again I7 n7
  | cont=>obtain ⟨σ7,H7,I7,n7⟩:=q7; exact again I7 n7
  | brk=>obtain ⟨σ7,H7,I7,q7⟩:=q7; exact ⟨σ7,H7,I7.unpinned,q7⟩
  | ret v=>obtain ⟨x7,σ7,H7,I7,r7,q7⟩:=q7; exact ⟨x7,σ7,H7,I7.unpinned,r7,q7⟩
end
theorem for_list {K:PySem.W.Frag} {a:Addr} {xs:List V} {g:TG} {tb:TS} {D:Ends} {σ:St} {H:Hp} (Pv:Nat→St→Hp→Prop) (h0:Pv 0 σ H) (hl:∀ i σ H,i≤xs.length→Pv i σ H→SqL K H a xs)
  (hs:∀ i x σ H,xs[i]?=some x→Pv i σ H→g x σ H fun σ2 H2=>tb { D with nx:=Pv (i+1),ct:=Pv (i+1),bk:=D.nx } σ2 H2) (hd:∀ σ H,Pv xs.length σ H→D.nx σ H) :
  ∃ W:Nat→Nat→St→Hp→Prop,(∃ m,W 0 m σ H)∧∀ i m σ H,W i m σ H →
   ((Itl K a).stop i H∧D.nx σ H)∨((Itl K a).go i H∧∃ N:St→Hp→Prop,(∀ σ' H',N σ' H'→∃ m',m'<m∧W (i+1) m' σ' H')∧∀ x H',(Itl K a).yld i H x H'→g x σ H' fun σ2 H2=>tb { D with nx:=N,ct:=N,bk:=D.nx } σ2 H2):=by
 refine ⟨fun i m σ H=>m=xs.length - i∧i≤xs.length∧Pv i σ H,⟨xs.length,by simp,Nat.zero_le _,h0⟩,?_⟩
 rintro i m σ H ⟨rfl,hi,p⟩
 have q:=hl i σ H hi p
 by_cases hlt:i<xs.length
 ·refine .inr ⟨⟨xs,xs[i],q,by simp [hlt]⟩,Pv (i+1),fun σ' H' p'=>⟨xs.length - (i+1),by lia,rfl,hlt,p'⟩,fun x H' y=>?_⟩
  obtain ⟨e,y⟩:=y
  subst e
  exact hs i x σ _ (y xs q) p
 ·have e:i=xs.length:=by lia
  subst e
  exact .inl ⟨⟨xs,q,Nat.le_refl _⟩,hd σ H p⟩
theorem for_tup {K:PySem.W.Frag} {a:Addr} {xs:List V} {g:TG} {tb:TS} {D:Ends} {σ:St} {H:Hp} (Pv:Nat→St→Hp→Prop) (h0:Pv 0 σ H) (hl:∀ i σ H,i≤xs.length→Pv i σ H→SqT K H a xs)
  (hs:∀ i x σ H,xs[i]?=some x→Pv i σ H→g x σ H fun σ2 H2=>tb { D with nx:=Pv (i+1),ct:=Pv (i+1),bk:=D.nx } σ2 H2) (hd:∀ σ H,Pv xs.length σ H→D.nx σ H) :
  ∃ W:Nat→Nat→St→Hp→Prop,(∃ m,W 0 m σ H)∧∀ i m σ H,W i m σ H →
   ((Itt K a).stop i H∧D.nx σ H)∨((Itt K a).go i H∧∃ N:St→Hp→Prop,(∀ σ' H',N σ' H'→∃ m',m'<m∧W (i+1) m' σ' H')∧∀ x H',(Itt K a).yld i H x H'→g x σ H' fun σ2 H2=>tb { D with nx:=N,ct:=N,bk:=D.nx } σ2 H2):=by
 refine ⟨fun i m σ H=>m=xs.length - i∧i≤xs.length∧Pv i σ H,⟨xs.length,by simp,Nat.zero_le _,h0⟩,?_⟩
 rintro i m σ H ⟨rfl,hi,p⟩
 have q:=hl i σ H hi p
 by_cases hlt:i<xs.length
 ·refine .inr ⟨⟨xs,xs[i],q,by simp [hlt]⟩,Pv (i+1),fun σ' H' p'=>⟨xs.length - (i+1),by lia,rfl,hlt,p'⟩,fun x H' y=>?_⟩
  obtain ⟨e,y⟩:=y
  subst e
  exact hs i x σ _ (y xs q) p
 ·have e:i=xs.length:=by lia
  subst e
  exact .inl ⟨⟨xs,q,Nat.le_refl _⟩,hd σ H p⟩
theorem for_range {lo:Int} {n:Nat} {g:TG} {tb:TS} {D:Ends} {σ:St} {H:Hp} (Pv:Nat→St→Hp→Prop) (h0:Pv 0 σ H)
  (hs:∀ i σ H,i<n→Pv i σ H→g (.int (lo+i)) σ H fun σ2 H2=>tb { D with nx:=Pv (i+1),ct:=Pv (i+1),bk:=D.nx } σ2 H2) (hd:∀ σ H,Pv n σ H→D.nx σ H) :
  ∃ W:Nat→Nat→St→Hp→Prop,(∃ m,W 0 m σ H)∧∀ i m σ H,W i m σ H →
   ((Itr lo n).stop i H∧D.nx σ H)∨((Itr lo n).go i H∧∃ N:St→Hp→Prop,(∀ σ' H',N σ' H'→∃ m',m'<m∧W (i+1) m' σ' H')∧∀ x H',(Itr lo n).yld i H x H'→g x σ H' fun σ2 H2=>tb { D with nx:=N,ct:=N,bk:=D.nx } σ2 H2):=by
 refine ⟨fun i m σ H=>m=n - i∧i≤n∧Pv i σ H,⟨n,by simp,Nat.zero_le _,h0⟩,?_⟩
 rintro i m σ H ⟨rfl,hi,p⟩
 by_cases hlt:i<n
 ·refine .inr ⟨hlt,Pv (i+1),fun σ' H' p'=>⟨n - (i+1),by lia,rfl,hlt,p'⟩,fun x H' y=>?_⟩
  obtain ⟨e,y⟩:=y
  subst e y
  exact hs i σ _ hlt p
 ·have e:i=n:=by lia
  subst e
  exact .inl ⟨Nat.le_refl _,hd σ H p⟩
end L2
namespace L2
open PySem PySem.Spec PyProof.Rows
abbrev R2:=V→V→Hp→VK→Prop
def OpR (X:Cx) (f:Value→Value→Sem Value) (r:R2):Prop :=
 ∀ (pins:List (Addr×Obj)) (s:Shared) (σ:St) (H:Hp) (x y:V) (v u:Value) (Q:VK),Inv X pins σ H s→RelV x v→RelV y u→r x y H Q →
  wpAny (model X.prog X.w) X.A (f v u) (EP X pins σ Q) X.xe s
def UnR (X:Cx) (f:Value→Sem Value) (r:V→Hp→VK→Prop):Prop :=
 ∀ (pins:List (Addr×Obj)) (s:Shared) (σ:St) (H:Hp) (x:V) (v:Value) (Q:VK),Inv X pins σ H s→RelV x v→r x H Q →
  wpAny (model X.prog X.w) X.A (f v) (EP X pins σ Q) X.xe s
def CallR (X:Cx) (f:Value) (r:List V→Hp→VK→Prop):Prop :=
 ∀ (pins:List (Addr×Obj)) (s:Shared) (σ:St) (H:Hp) (xs:List V) (us:List Value) (Q:VK),Inv X pins σ H s→Vals xs us→r xs H Q →
  wpAny (model X.prog X.w) X.A (call f us) (EP X pins σ Q) X.xe s
def tOp (r:R2) (ta tb:TE):TE:=fun σ H Q=>ta σ H fun x H1=>tb σ H1 fun y H2=>r x y H2 Q
def tUn (r:V→Hp→VK→Prop) (ta:TE):TE:=fun σ H Q=>ta σ H fun x H1=>r x H1 Q
def rI (C:Int→Int→Prop) (g:Int→Int→V):R2:=fun x y H Q=>∃ i j,x=.int i∧y=.int j∧C i j∧Q (g i j) H
def rI0 (g:Int→Int→V):R2:=fun x y H Q=>∃ i j,x=.int i∧y=.int j∧Q (g i j) H
def rU (g:Int→V):V→Hp→VK→Prop:=fun x H Q=>∃ i,x=.int i∧Q (g i) H
section
variable {X:Cx} {a b c:Expr} {ta tb tc:TE} {pos:Pos}
theorem binT (ha:PE X a ta) (hb:PE X b tb) {pins:List (Addr×Obj)} {s:Shared} {σ:St} {H:Hp} {R:V→V→Hp→Prop} (I:Inv X pins σ H s)
  (h:ta σ H fun x H1=>tb σ H1 fun y H2=>R x y H2) {Q:Value→Shared→Prop} {f:Value→Value→Sem Value}
  (hf:∀ v u s2 x y H2,Inv X pins σ H2 s2→RelV x v→RelV y u→R x y H2→wpAny (model X.prog X.w) X.A (f v u) Q X.xe s2) :
  wpAny (model X.prog X.w) X.A (eval a X.env) (fun v s₁=>wpAny (model X.prog X.w) X.A (eval b X.env) (fun u s₂=>wpAny (model X.prog X.w) X.A (f v u) Q X.xe s₂) X.xe s₁) X.xe s:=by
 refine thn (ha pins s σ H _ I h) fun v s1 ⟨x,H1,I1,r1,q1⟩=>?_
 refine thn (hb pins s1 σ H1 _ I1 q1) fun u s2 ⟨y,H2,I2,r2,q2⟩=>?_
 exact hf v u s2 x y H2 I2 r1 r2 q2
theorem pe_op {op:Operator} {r:R2} (ho:OpR X (binaryOp op) r) (ha:PE X a ta) (hb:PE X b tb):PE X (.BinOp a op b pos) (tOp r ta tb):=by
 intro pins s σ H Q I h
 exact wpAny_BinOp (binT ha hb I h fun v u s2 x y H2 I2 rx ry q=>ho pins s2 σ H2 x y v u Q I2 rx ry q)
theorem pe_un {op:UnaryOp} {r:V→Hp→VK→Prop} (ho:UnR X (unaryOp op) r) (ha:PE X a ta):PE X (.UnaryOp op a pos) (tUn r ta):=by
 intro pins s σ H Q I h
 exact UnaryOp_ (thn (ha pins s σ H _ I h) fun v s1 ⟨x,H1,I1,r1,q1⟩=>ho pins s1 σ H1 x v Q I1 r1 q1)
theorem opI {f:Value→Value→Sem Value} {C:Int→Int→Prop} {g:Int→Int→Int}
  (rule:∀ (i j:Int) (t u:Tok) (s:Shared) (Q:Value→Shared→Prop) (E:Value→Shared→Prop),C i j→Q (.int (g i j) s.toks) { s with toks:=s.toks+1 }→wpAny (model X.prog X.w) X.A (f (.int i t) (.int j u)) Q E s) :
  OpR X f (rI C fun i j=>.int (g i j)):=by
 intro pins s σ H x y v u Q I rx ry h
 obtain ⟨i,j,rfl,rfl,hc,q⟩:=h
 obtain ⟨t,rfl⟩:=rx
 obtain ⟨t',rfl⟩:=ry
 exact rule i j t t' s _ _ hc ⟨.int (g i j),H,I.tok _,⟨_,rfl⟩,q⟩
theorem opI0 {f:Value→Value→Sem Value} {g:Int→Int→Int}
  (rule:∀ (i j:Int) (t u:Tok) (s:Shared) (Q:Value→Shared→Prop) (E:Value→Shared→Prop),Q (.int (g i j) s.toks) { s with toks:=s.toks+1 }→wpAny (model X.prog X.w) X.A (f (.int i t) (.int j u)) Q E s) :
  OpR X f (rI0 fun i j=>.int (g i j)):=by
 intro pins s σ H x y v u Q I rx ry h
 obtain ⟨i,j,rfl,rfl,q⟩:=h
 obtain ⟨t,rfl⟩:=rx
 obtain ⟨t',rfl⟩:=ry
 exact rule i j t t' s _ _ ⟨.int (g i j),H,I.tok _,⟨_,rfl⟩,q⟩
theorem opB0 {f:Value→Value→Sem Value} {g:Int→Int→Bool}
  (rule:∀ (i j:Int) (t u:Tok) (s:Shared) (Q:Value→Shared→Prop) (E:Value→Shared→Prop),Q (.bool (g i j)) s→wpAny (model X.prog X.w) X.A (f (.int i t) (.int j u)) Q E s) :
  OpR X f (rI0 fun i j=>.bl (g i j)):=by
 intro pins s σ H x y v u Q I rx ry h
 obtain ⟨i,j,rfl,rfl,q⟩:=h
 obtain ⟨t,rfl⟩:=rx
 obtain ⟨t',rfl⟩:=ry
 exact rule i j t t' s _ _ ⟨.bl (g i j),H,I,rfl,q⟩
def CDiv (i j:Int):Prop:=0<j∧j<1073741824
def CPow (i j:Int):Prop:=0≤j∧j≤1000000∧i.natAbs<2 ^ 64
def CMul (i j:Int):Prop:=(-(2 ^ 64)<i∧i<2 ^ 64)∨(-(2 ^ 64)<j∧j<2 ^ 64)
theorem CMul.ok {i j:Int} (h:CMul i j):IntMulOk i j:=by
 rcases h with ⟨h1,h2⟩ | ⟨h1,h2⟩
 ·exact .of_left (intBits_le_64 h1 h2)
 ·exact .of_right (intBits_le_64 h1 h2)
theorem op_add:OpR X (binaryOp .Add) (rI0 fun i j=>.int (i+j)):=opI0 fun _ _ _ _ _ _ _ q=>add_int q
theorem op_sub:OpR X (binaryOp .Sub) (rI0 fun i j=>.int (i - j)):=opI0 fun _ _ _ _ _ _ _ q=>sub_int q
theorem op_mul:OpR X (binaryOp .Mult) (rI CMul fun i j=>.int (i * j)):=opI fun _ _ _ _ _ _ _ hc q=>mul_int q hc.ok
theorem op_fdiv:OpR X (binaryOp .FloorDiv) (rI CDiv fun i j=>.int (i / j)):=opI fun i j _ _ _ _ _ hc q=>by
 have h1:(0:Int)<j:=hc.1
 have h2:j<1073741824:=hc.2
 exact floordiv_int (by lia) (by rw [Int.fdiv_eq_ediv_of_nonneg i (by lia)]; exact q) (.inl (PyProof.noPylong_small (by lia)))
theorem op_mod:OpR X (binaryOp .Mod) (rI (fun _ j=>0<j) fun i j=>.int (i % j)):=opI fun i j _ _ _ _ _ hc q=>by
 have h1:(0:Int)<j:=hc
 exact mod_int' (by lia) (by rw [Int.fmod_eq_emod_of_nonneg i (by lia)]; exact q)
theorem op_pow:OpR X (binaryOp .Pow) (rI CPow fun i j=>.int (i ^ j.toNat)):=opI fun _ _ _ _ _ _ _ hc q=>pow_int_small hc.1 hc.2.1 hc.2.2 q
theorem unI {f:Value→Sem Value} {g:Int→Int}
  (rule:∀ (i:Int) (t:Tok) (s:Shared) (Q:Value→Shared→Prop) (E:Value→Shared→Prop),Q (.int (g i) s.toks) { s with toks:=s.toks+1 }→wpAny (model X.prog X.w) X.A (f (.int i t)) Q E s) :
  UnR X f (rU fun i=>.int (g i)):=by
 intro pins s σ H x v Q I rx h
 obtain ⟨i,rfl,q⟩:=h
 obtain ⟨t,rfl⟩:=rx
 exact rule i t s _ _ ⟨.int (g i),H,I.tok _,⟨_,rfl⟩,q⟩
theorem un_neg:UnR X (unaryOp .USub) (rU fun i=>.int (-i)):=unI fun _ _ _ _ _ q=>neg_int q
end
def scal:V→V→Bool
 | .non,.non=>true | .non,.int _=>true | .int _,.non=>true | .non,.bl _=>true | .bl _,.non=>true | .non,.str _=>true | .str _,.non=>true
 | .int _,.int _=>true | .bl _,.bl _=>true | .str _,.str _=>true | .byt _,.byt _=>true
 | .int _,.str _=>true | .str _,.int _=>true | .bl _,.str _=>true | .str _,.bl _=>true
 | _,_=>false
def rEq:R2:=fun x y H Q=>scal x y=true∧Q (.bl (decide (x=y))) H
def rNe:R2:=fun x y H Q=>scal x y=true∧Q (.bl (!decide (x=y))) H
theorem dec_int {i j:Int}:decide (V.int i=V.int j)=(i == j):=by
 rw [Bool.eq_iff_iff]
 simp
theorem dec_bl {i j:Bool}:decide (V.bl i=V.bl j)=(i == j):=by
 rw [Bool.eq_iff_iff]
 simp
theorem dec_str {i j:Str}:decide (V.str i=V.str j)=(i == j):=by
 rw [Bool.eq_iff_iff]
 simp
theorem dec_byt {i j:Array UInt8}:decide (V.byt i=V.byt j)=(i.toList == j.toList):=by
 rw [Bool.eq_iff_iff]
 cases i
 cases j
 simp
section
variable {X:Cx} {a b c:Expr} {ta tb tc:TE} {pos:Pos}
theorem fin_bl {pins:List (Addr×Obj)} {σ:St} {H:Hp} {s:Shared} {Q:VK} {k k':Bool} (I:Inv X pins σ H s) (q:Q (.bl k) H) (e:k=k'):EP X pins σ Q (.bool k') s:=by
 subst e
 exact ⟨.bl k,H,I,rfl,q⟩
theorem op_eq:OpR X (compareOp .Eq) rEq:=by
 intro pins s σ H x y v u Q I rx ry h
 obtain ⟨hs,q⟩:=h
 cases x with
 | non =>
  cases rx
  cases y with
  | non=>cases ry; exact PySem.EqNone.eq_none_none (fin_bl I q (by simp))
  | bl j=>cases ry; exact PySem.EqNone.eq_none_bool (fin_bl I q (by simp))
  | int j=>obtain ⟨t',rfl⟩:=ry; exact PySem.EqNone.eq_none_int (fin_bl I q (by simp))
  | str j=>obtain ⟨t',rfl⟩:=ry; exact PySem.EqNone.eq_none_str (fin_bl I q (by simp))
  | _=>exact absurd (show false=true from hs) Bool.false_ne_true
 | bl i =>
  cases rx
  cases y with
  | non=>cases ry; exact PySem.EqNone.eq_bool_none (fin_bl I q (by simp))
  | bl j=>cases ry; exact eq_bool (fin_bl I q dec_bl)
  | str j=>obtain ⟨t',rfl⟩:=ry; exact PySem.EqMixed.eq_bool_str (fin_bl I q (by simp))
  | _=>exact absurd (show false=true from hs) Bool.false_ne_true
 | int i =>
  obtain ⟨t,rfl⟩:=rx
  cases y with
  | non=>cases ry; exact PySem.EqNone.eq_int_none (fin_bl I q (by simp))
  | int j=>obtain ⟨t',rfl⟩:=ry; exact eq_int (fin_bl I q dec_int)
  | str j=>obtain ⟨t',rfl⟩:=ry; exact PySem.EqMixed.eq_int_str (fin_bl I q (by simp))
  | _=>exact absurd (show false=true from hs) Bool.false_ne_true
 | str i =>
  obtain ⟨t,rfl⟩:=rx
  cases y with
  | non=>cases ry; exact PySem.EqNone.eq_str_none (fin_bl I q (by simp))
  | bl j=>cases ry; exact PySem.EqMixed.eq_str_bool (fin_bl I q (by simp))
  | int j=>obtain ⟨t',rfl⟩:=ry; exact PySem.EqMixed.eq_str_int (fin_bl I q (by simp))
  | str j=>obtain ⟨t',rfl⟩:=ry; exact eq_str (fin_bl I q dec_str)
  | _=>exact absurd (show false=true from hs) Bool.false_ne_true
 | byt i =>
  obtain ⟨t,rfl⟩:=rx
  cases y with
  | byt j=>obtain ⟨t',rfl⟩:=ry; exact PySem.W.eq_bytes (fin_bl I q dec_byt)
  | _=>exact absurd (show false=true from hs) Bool.false_ne_true
 | _=>cases y <;> exact absurd (show false=true from hs) Bool.false_ne_true
theorem op_ne:OpR X (compareOp .NotEq) rNe:=by
 intro pins s σ H x y v u Q I rx ry h
 obtain ⟨hs,q⟩:=h
 cases x with
 | non =>
  cases rx
  cases y with
  | non=>cases ry; exact PySem.EqNone.ne_none_none (fin_bl I q (by simp))
  | bl j=>cases ry; exact PySem.EqNone.ne_none_bool (fin_bl I q (by simp))
  | int j=>obtain ⟨t',rfl⟩:=ry; exact PySem.EqNone.ne_none_int (fin_bl I q (by simp))
  | str j=>obtain ⟨t',rfl⟩:=ry; exact PySem.EqNone.ne_none_str (fin_bl I q (by simp))
  | _=>exact absurd (show false=true from hs) Bool.false_ne_true
 | bl i =>
  cases rx
  cases y with
  | non=>cases ry; exact PySem.EqNone.ne_bool_none (fin_bl I q (by simp))
  | bl j=>cases ry; exact ne_bool (fin_bl I q (congrArg not dec_bl))
  | str j=>obtain ⟨t',rfl⟩:=ry; exact PySem.EqMixed.ne_bool_str (fin_bl I q (by simp))
  | _=>exact absurd (show false=true from hs) Bool.false_ne_true
 | int i =>
  obtain ⟨t,rfl⟩:=rx
  cases y with
  | non=>cases ry; exact PySem.EqNone.ne_int_none (fin_bl I q (by simp))
  | int j=>obtain ⟨t',rfl⟩:=ry; exact ne_int (fin_bl I q (congrArg not dec_int))
  | str j=>obtain ⟨t',rfl⟩:=ry; exact PySem.EqMixed.ne_int_str (fin_bl I q (by simp))
  | _=>exact absurd (show false=true from hs) Bool.false_ne_true
 | str i =>
  obtain ⟨t,rfl⟩:=rx
  cases y with
  | non=>cases ry; exact PySem.EqNone.ne_str_none (fin_bl I q (by simp))
  | bl j=>cases ry; exact PySem.EqMixed.ne_str_bool (fin_bl I q (by simp))
  | int j=>obtain ⟨t',rfl⟩:=ry; exact PySem.EqMixed.ne_str_int (fin_bl I q (by simp))
  | str j=>obtain ⟨t',rfl⟩:=ry; exact ne_str (fin_bl I q (congrArg not dec_str))
  | _=>exact absurd (show false=true from hs) Bool.false_ne_true
 | byt i =>
  obtain ⟨t,rfl⟩:=rx
  cases y with
  | byt j=>obtain ⟨t',rfl⟩:=ry; exact PySem.W.ne_bytes (fin_bl I q (congrArg not dec_byt))
  | _=>exact absurd (show false=true from hs) Bool.false_ne_true
 | _=>cases y <;> exact absurd (show false=true from hs) Bool.false_ne_true
theorem op_lt:OpR X (compareOp .Lt) (rI0 fun i j=>.bl (decide (i<j))):=opB0 fun _ _ _ _ _ _ _ q=>lt_int q
theorem op_le:OpR X (compareOp .LtE) (rI0 fun i j=>.bl (decide (i≤j))):=opB0 fun _ _ _ _ _ _ _ q=>le_int q
theorem op_gt:OpR X (compareOp .Gt) (rI0 fun i j=>.bl (decide (j<i))):=opB0 fun _ _ _ _ _ _ _ q=>gt_int q
theorem op_isN:OpR X (compareOp .Is) (fun x y H Q=>y=.non∧Q (.bl (decide (x=.non))) H):=by
 intro pins s σ H x y v u Q I rx ry h
 obtain ⟨rfl,q⟩:=h
 cases ry
 refine is_none_gen (fin_bl I q ?_)
 cases x <;> first
  | (cases rx; rfl)
  | (obtain ⟨t,rfl⟩:=rx; rfl)
theorem op_notN:OpR X (compareOp .IsNot) (fun x y H Q=>y=.non∧Q (.bl (!decide (x=.non))) H):=by
 intro pins s σ H x y v u Q I rx ry h
 obtain ⟨rfl,q⟩:=h
 cases ry
 refine isnot_none_gen (fin_bl I q ?_)
 cases x <;> first
  | (cases rx; rfl)
  | (obtain ⟨t,rfl⟩:=rx; rfl)
theorem OpR.or {f:Value→Value→Sem Value} {r r':R2} (h:OpR X f r) (h':OpR X f r'):OpR X f (fun x y H Q=>r x y H Q∨r' x y H Q):=by
 intro pins s σ H x y v u Q I rx ry q
 rcases q with q | q
 ·exact h pins s σ H x y v u Q I rx ry q
 ·exact h' pins s σ H x y v u Q I rx ry q
theorem nomark (b:Expr) {op:CmpOp} (h:op≠.In:=by decide) (h2:op≠.NotIn:=by decide):behindInMarks op b=false:=by
 have e1:(op == CmpOp.In)=false:=by cases op <;> first | rfl | exact absurd rfl h
 have e2:(op == CmpOp.NotIn)=false:=by cases op <;> first | rfl | exact absurd rfl h2
 cases b <;> simp [behindInMarks,e1,e2]
theorem pe_cmpR {op:CmpOp} {r:R2} (ho:OpR X (compareOp op) r) (ha:PE X a ta) (hb:PE X b tb) (hm:behindInMarks op b=false):PE X (.Compare a [op] [b] pos) (tOp r ta tb):=by
 intro pins s σ H Q I h
 exact wpAny_Compare1 (binT ha hb I h fun v u s2 x y H2 I2 rx ry q=>ho pins s2 σ H2 x y v u Q I2 rx ry q) hm
def tTest (t:TE):TT:=fun σ H Q=>t σ H fun x H'=>∃ k,x=.bl k∧Q k H'
theorem pt_cmpR {op:CmpOp} {r:R2} (ho:OpR X (compareOp op) r) (ha:PE X a ta) (hb:PE X b tb) (hm:behindInMarks op b=false):PT X (.Compare a [op] [b] pos) (tTest (tOp r ta tb)):=by
 intro pins s σ H Q I h
 refine wpAny_isTrue_Compare1 (thn (ha pins s σ H _ I h) fun v s1 ⟨x,H1,I1,r1,q1⟩=>thn (hb pins s1 σ H1 _ I1 q1) fun u s2 ⟨y,H2,I2,r2,q2⟩ =>
  thn (ho pins s2 σ H2 x y v u _ I2 r1 r2 q2) fun c s3 ⟨z,H3,I3,r3,k,e,q3⟩=>?_) hm
 subst e
 cases r3
 exact wpAny_truthy_bool ⟨H3,I3,q3⟩
theorem line63:(sizeLine:Nat)<2 ^ 63:=by rw [sizeLine_eq]; decide
theorem vals1 {x:V} {us:List Value} (r:Vals [x] us):∃ u,us=[u]∧RelV x u:=by
 cases r with
 | cons r1 r2=>cases r2; exact ⟨_,rfl,r1⟩
theorem vals2 {x y:V} {us:List Value} (r:Vals [x,y] us):∃ u w',us=[u,w']∧RelV x u∧RelV y w':=by
 cases r with
 | cons r1 r2 =>
  cases r2 with
  | cons r3 r4=>cases r4; exact ⟨_,_,rfl,r1,r3⟩
theorem call_max2 (hc:X.calm=true):CallR X (.builtin "max") (fun xs H Q=>∃ i j,xs=[.int i,.int j]∧Q (.int (if j>i then j else i)) H):=by
 intro pins s σ H xs us Q I r h
 obtain ⟨i,j,rfl,q⟩:=h
 obtain ⟨u,w',rfl,⟨t,rfl⟩,⟨t',rfl⟩⟩:=vals2 r
 refine max_two_ints (I.ok.hd hc) fun h' tk k=>⟨_,H,I.kept k,?_,q⟩
 by_cases hj:j>i
 ·rw [if_pos hj,if_pos hj]; exact ⟨_,rfl⟩
 ·rw [if_neg hj,if_neg hj]; exact ⟨_,rfl⟩
theorem call_min2 (hc:X.calm=true):CallR X (.builtin "min") (fun xs H Q=>∃ i j,xs=[.int i,.int j]∧Q (.int (if j<i then j else i)) H):=by
 intro pins s σ H xs us Q I r h
 obtain ⟨i,j,rfl,q⟩:=h
 obtain ⟨u,w',rfl,⟨t,rfl⟩,⟨t',rfl⟩⟩:=vals2 r
 refine min_two_ints (I.ok.hd hc) fun h' tk k=>⟨_,H,I.kept k,?_,q⟩
 by_cases hj:j<i
 ·rw [if_pos hj,if_pos hj]; exact ⟨_,rfl⟩
 ·rw [if_neg hj,if_neg hj]; exact ⟨_,rfl⟩
theorem call_int1:CallR X (.type "int") (fun xs H Q=>(∃ i,xs=[.int i]∧Q (.int i) H)∨∃ k,xs=[.bl k]∧Q (.int (if k then 1 else 0)) H):=by
 intro pins s σ H xs us Q I r h
 rcases h with ⟨i,rfl,q⟩ | ⟨k,rfl,q⟩
 ·obtain ⟨u,rfl,t,rfl⟩:=vals1 r
  exact call_int_int ⟨.int i,H,I,⟨_,rfl⟩,q⟩
 ·obtain ⟨u,rfl,r1⟩:=vals1 r
  cases r1
  exact call_int_bool ⟨.int (if k then 1 else 0),H,I.tok _,⟨_,rfl⟩,q⟩
end
end L2
namespace L2
open PySem PySem.Spec PyProof.Rows
structure ObjM (h:Heap) (x dx C:Addr) (mA:Str→Option Value):Prop where
 obj:h.get? x=some (PySem.W.instObj C dx)
 ns:h.Ns1 dx mA
 ne:dx≠x
theorem lookIn_ns {h:Heap} {dx:Addr} {mA:Str→Option Value} (n:h.Ns1 dx mA):∃ od,h.get? dx=some od∧∀ name,PySem.W.lookIn name od=some (mA name):=by
 obtain ⟨o,es,ep,ho,hd,hk,_,hm⟩:=n
 refine ⟨o,ho,fun name=>?_⟩
 have e:=hm name
 unfold nsFind findBy at e
 rw [← Array.find?_toList] at e
 unfold PySem.W.lookIn
 rw [hd]
 dsimp only
 split
 ·rename_i y q
  rw [q] at e
  exact congrArg some e
 ·rename_i q
  rw [q] at e
  have a:es.toList.any (·.refKey)=false:=by
   rw [List.any_eq_false]
   intro y hy
   obtain ⟨z,t,hkey⟩:=hk y (Array.mem_toList_iff.mp hy)
   simp [DictEntry.refKey,hkey]
  have a':¬ es.toList.any (·.refKey)=true:=by rw [a]; exact Bool.false_ne_true
  rw [if_neg a']
  exact congrArg some e
theorem ObjM.look {h:Heap} {x dx C:Addr} {mA:Str→Option Value} (I:ObjM h x dx C mA):∃ od,PySem.W.InstAt h x (PySem.W.instObj C dx) C (some od)∧∀ name,PySem.W.lookIn name od=some (mA name) :=
 let ⟨od,ho,hl⟩:=lookIn_ns I.ns
 ⟨od,⟨I.obj,rfl,rfl,ho⟩,hl⟩
section
variable {prog:Program} {w:World} {A:Around} {E:Value→Shared→Prop} {s:Shared} {K:PySem.W.Frag} {x dx C f:Addr} {mA:Str→Option Value} {name:Str} {v:Value}
theorem get_map {expr:Bool} {Q:Value→Shared→Prop} (X:K.In s.heap) (I:ObjM s.heap x dx C mA) (hg:PySem.W.plainGet K C name=true) (hh:PySem.W.hasDictIn K C=true)
  (ha:PySem.W.findIn K (.ref C) name=some none) (hv:mA name=some v) (hv':PySem.W.handedIn v=true) (h:Q v { s with toks:=s.toks+1 }) :
  wpAny (model prog w) A (getAttr (.ref x) name expr) Q E s:=by
 obtain ⟨od,J,hl⟩:=I.look
 exact PySem.W.get_value X J (PySem.W.plainGet_of hg).1 (PySem.W.findObj_own hh ha rfl (by rw [hl,hv])) hv' h
theorem get_meth {pl:Sem Bool} {Q:Value×List Value→Shared→Prop} (X:K.In s.heap) (I:ObjM s.heap x dx C mA) (hg:PySem.W.plainGet K C name=true)
  (hf:PySem.W.findIn K (.ref C) name=some (some (.ref f))) (ht:PySem.W.isFn K (.ref f)=true) (hv:mA name=none) (h:Q (.ref f,[.ref x]) s) :
  wpAny (model prog w) A (getMethod (.ref x) name pl) Q E s:=by
 obtain ⟨od,J,hl⟩:=I.look
 exact PySem.W.method_fn X J (PySem.W.plainGet_of hg).1 (PySem.W.plainGet_of hg).2 hf (beq_iff_eq.mp ht) (by show (PySem.W.lookIn name od).map (·.isSome)=some false; rw [hl,hv]; rfl) h
theorem set_map {ns:List Str} {Q:Unit→Shared→Prop} (X:K.In s.heap) (I:ObjM s.heap x dx C mA)
  (hs:PySem.W.findIn K (.ref C) "__setattr__"=some (some (.builtin "object.__setattr__"))) (hp:PySem.W.plainOver K C=true) (ht:PySem.W.takerIn K C name=some none) (hh:PySem.W.hasDictIn K C=true)
  (hw:PySem.Within mA ns) (hsz:ns.length≤sizeLine)
  (h:∀ h',ObjM h' x dx C (fun y=>if y=name then some v else mA y)→Heap.SameBut dx s.heap h'→Q () { s with heap:=h',toks:=s.toks+2 }) :
  wpAny (model prog w) A (setAttr (.ref x) name v) Q E s:=by
 obtain ⟨od,J,hl⟩:=I.look
 refine PySem.W.set_plain X J hs (PySem.W.osa_open (s:={ s with toks:=s.toks+1 }) (r:=none) X J hp ht fun b=>?_)
 obtain ⟨cd,hc,hd'⟩:=PySem.W.any_some hh
 have hx:s.heap.get? x=some ⟨.ref C,some dx,.plain,#[]⟩:=I.obj
 refine wpAny_bind (wpAny_pure (wpAny_bind (wpAny_bind (wpAny_loadPart hx (wpAny_bind (PySem.W.Looks.here (s:={ s with toks:=s.toks+1 }) (PySem.W.looks_clsIn X hc) ?_))))))
 rw [hd']
 refine wpAny_pure (a:=some dx) (wpAny_bind (wpAny_pure (wpAny_bind ?_)))
 refine wpAny_nsSet1 (s:={ s with toks:=s.toks+1 }) I.ns fun h' hn2 hs2=>?_
 obtain ⟨oD,esD,epD,hoD,hdD,hcD⟩:=hn2.count (PySem.Within.cons name v hw)
 refine wpAny_bind (wpAny_lookBehind hoD (by rw [hdD]; exact pastItsLine_dict (Nat.le_trans hcD (by rw [List.length_cons]; lia))) ?_)
 exact wpAny_pure (h _ ⟨(hs2.2 _ (Ne.symm I.ne)).trans I.obj,hn2,I.ne⟩ hs2)
theorem make_map {R:Result→Shared→Prop} {vs:List Value} {kw:List (Str×Value)} (X:K.In s.heap) (hm:PySem.W.makesIn K C=true)
  (hi:PySem.W.findIn K (.ref C) "__init__"=some (some (.ref f))) (hf:PySem.W.typeIn K (.ref f)=some (.type "function"))
  (h:codeAny (model prog w) (A.under (.builtin "type.__call__" ⟨.ref C::vs,kw⟩)) (.call (.ref f) ⟨.ref (s.heap.objs.size+1)::vs,kw⟩) (PySem.W.InitBack (s.heap.objs.size+1) R)
   { s with heap:=(s.heap.push PySem.W.emptyDict).push (PySem.W.instObj C s.heap.objs.size) }) :
  codeAny (model prog w) A (.call (.ref C) ⟨vs,kw⟩) R s:=by
 obtain ⟨hh,g,d,t,os⟩:=s
 exact PySem.W.make_core (PySem.W.makes_of X hm) (PySem.W.looks_findIn X hi) (fun self=>PySem.W.bind_fn X self hf) (.inl rfl) h
end
def putF (f:Str) (v:V):List (Str×V)→List (Str×V)
 | []=>[(f,v)]
 | (g,x)::r=>if g=f then (g,v)::r else (g,x)::putF f v r
theorem lookup_putF (f g:Str) (v:V):∀ fs:List (Str×V),(putF f v fs).lookup g=if g=f then some v else fs.lookup g
 | []=>by
  show List.lookup g [(f,v)]=_
  by_cases h:g=f
  ·have hb:(g == f)=true:=beq_iff_eq.mpr h
   simp only [List.lookup,hb,if_pos h]
  ·have hb:(g == f)=false:=beq_eq_false_iff_ne.mpr h
   simp only [List.lookup,hb,if_neg h]
 | (k,x)::r=>by
  have ih:=lookup_putF f g v r
  rw [show putF f v ((k,x)::r)=(if k=f then (k,v)::r else (k,x)::putF f v r) from rfl]
  by_cases hk:k=f
  ·rw [if_pos hk]
   by_cases h:g=k
   ·have hb:(g == k)=true:=beq_iff_eq.mpr h
    simp only [List.lookup,hb,if_pos (h.trans hk)]
   ·have hb:(g == k)=false:=beq_eq_false_iff_ne.mpr h
    simp only [List.lookup,hb,if_neg (fun e:g=f=>h (e.trans hk.symm))]
  ·rw [if_neg hk]
   by_cases h:g=k
   ·have hb:(g == k)=true:=beq_iff_eq.mpr h
    simp only [List.lookup,hb,if_neg (fun e:g=f=>hk (h.symm.trans e))]
   ·have hb:(g == k)=false:=beq_eq_false_iff_ne.mpr h
    simp only [List.lookup,hb]
    exact ih
theorem keys_putF (f:Str) (v:V):∀ fs:List (Str×V),f∈(putF f v fs).map (·.1)∧∀ g,g∈fs.map (·.1)→g∈(putF f v fs).map (·.1)
 | []=>⟨by simp [putF],fun g h=>by simp at h⟩
 | (k,x)::r=>by
  obtain ⟨i1,i2⟩:=keys_putF f v r
  rw [show putF f v ((k,x)::r)=(if k=f then (k,v)::r else (k,x)::putF f v r) from rfl]
  by_cases hk:k=f
  ·rw [if_pos hk]
   subst hk
   exact ⟨by simp,fun g h=>by simpa using h⟩
  ·rw [if_neg hk]
   refine ⟨?_,fun g h=>?_⟩
   ·rw [List.map_cons]
    exact List.mem_cons_of_mem _ i1
   ·rw [List.map_cons] at h ⊢
    rcases List.mem_cons.mp h with e | e
    ·exact List.mem_cons.mpr (.inl e)
    ·exact List.mem_cons_of_mem _ (i2 g e)
theorem length_putF (f:Str) (v:V):∀ fs:List (Str×V),(putF f v fs).length≤fs.length+1
 | []=>by simp [putF]
 | (k,x)::r=>by
  have ih:=length_putF f v r
  rw [show putF f v ((k,x)::r)=(if k=f then (k,v)::r else (k,x)::putF f v r) from rfl]
  by_cases hk:k=f
  ·rw [if_pos hk,List.length_cons,List.length_cons]; lia
  ·rw [if_neg hk,List.length_cons,List.length_cons]; lia
theorem RelO.some_of {v:V} {o:Option Value} (r:RelO (some v) o):∃ u,o=some u∧RelV v u:=by
 cases o with
 | none=>exact (show False from r).elim
 | some u=>exact ⟨u,rfl,r⟩
theorem RelO.none_of {o:Option Value} (r:RelO none o):o=none:=by
 cases o with
 | none=>rfl
 | some u=>exact (show False from r).elim
theorem handed_of {v:V} {u:Value} (r:RelV v u):PySem.W.handedIn u=true:=by
 cases v with
 | non=>cases (show u=Value.none from r); rfl
 | bl b=>cases (show u=Value.bool b from r); rfl
 | int i=>obtain ⟨t,e⟩:=(show ∃ t,u=Value.int i t from r); cases e; rfl
 | str x=>obtain ⟨t,e⟩:=(show ∃ t,u=Value.str x t from r); cases e; rfl
 | byt b=>obtain ⟨t,e⟩:=(show ∃ t,u=Value.bytes b t from r); cases e; rfl
 | flt b=>obtain ⟨t,e⟩:=(show ∃ t,u=Value.float b t from r); cases e; rfl
 | ref a=>cases (show u=Value.ref a from r); rfl
 | ty n=>cases (show u=Value.type n from r); rfl
section
variable {P:Program} {w:World} {H H':Hp} {h h':Heap} {a C dx:Addr} {fs fs':List (Str×V)}
theorem ins_get (hok:HOk P w H h) (e:H a=some (.ins C dx fs)):∃ mA,ObjM h a dx C mA∧(∀ f,RelO (fs.lookup f) (mA f))∧PySem.Within mA (fs.map (·.1))∧fs.length≤1000∧H dx=some (.own a):=by
 obtain ⟨d,z,ne,ob,mA,n,r,q⟩:=(show ObjOk P w H h a (.ins C dx fs) from hok a _ e)
 exact ⟨mA,⟨ob,n,ne⟩,r,q,z,d⟩
end
structure Cls (K:PySem.W.Frag) (C:Addr):Prop where
 pg:PySem.W.plainGet K C Str.empty=true
 hd:PySem.W.hasDictIn K C=true
 po:PySem.W.plainOver K C=true
 sa:PySem.W.findIn K (.ref C) "__setattr__"=some (some (.builtin "object.__setattr__"))
theorem Cls.get {K:PySem.W.Frag} {C:Addr} (c:Cls K C) (f:Str):PySem.W.plainGet K C f=true:=c.pg
def NoAttr (K:PySem.W.Frag) (C:Addr) (f:Str):Prop:=PySem.W.findIn K (.ref C) f=some none
theorem NoAttr.taker {K:PySem.W.Frag} {C:Addr} {f:Str} (n:NoAttr K C f):PySem.W.takerIn K C f=some none:=by
 unfold PySem.W.takerIn
 rw [show PySem.W.findIn K (.ref C) f=some none from n]
 rfl
structure Con (K:PySem.W.Frag) (C:Addr) (f:Str) (v:V) (u:Value):Prop where
 at_:PySem.W.findIn K (.ref C) f=some (some u)
 rel:RelV v u
 get:PySem.W.specialIn K u "__get__"=some none
 cp:PySem.W.copiedNames.contains f=false
structure Meth (K:PySem.W.Frag) (C:Addr) (m:Str) (f:Addr):Prop where
 at_:PySem.W.findIn K (.ref C) m=some (some (.ref f))
 fn:PySem.W.isFn K (.ref f)=true
 kp:PySem.W.keepIn K (.ref f)=true
section
variable {X:Cx} {pins:List (Addr×Obj)} {σ:St} {H:Hp} {s:Shared} {a C dx:Addr} {fs:List (Str×V)} {f:Str} {v:V} {A:Around} {E:Value→Shared→Prop}
theorem getattr_ok {b:Bool} {Q:Value→Shared→Prop} (I:Inv X pins σ H s) (e:H a=some (.ins C dx fs)) (c:Cls X.K C) (n:NoAttr X.K C f) (l:fs.lookup f=some v)
  (h:∀ u s',Inv X pins σ H s'→RelV v u→Q u s'):wpAny (model X.prog X.w) A (getAttr (.ref a) f b) Q E s:=by
 obtain ⟨mA,O,r,_,_,_⟩:=ins_get I.hok e
 obtain ⟨u,hu,ru⟩:=RelO.some_of (v:=v) (o:=mA f) (by rw [← l]; exact r f)
 exact get_map I.kIn O (c.get f) c.hd n hu (handed_of ru) (h u _ (I.tok _) ru)
theorem getmeth_ok {m:Str} {g:Addr} {pl:Sem Bool} {Q:Value×List Value→Shared→Prop} (I:Inv X pins σ H s) (e:H a=some (.ins C dx fs)) (c:Cls X.K C) (k:Meth X.K C m g) (l:fs.lookup m=none)
  (h:Q (.ref g,[.ref a]) s):wpAny (model X.prog X.w) A (getMethod (.ref a) m pl) Q E s:=by
 obtain ⟨mA,O,r,_,_,_⟩:=ins_get I.hok e
 have hn:mA m=none:=RelO.none_of (by rw [← l]; exact r m)
 exact get_meth I.kIn O (c.get m) k.at_ k.fn hn h
theorem setattr_ok {y:V} {u:Value} {Q:Unit→Shared→Prop} (I:Inv X pins σ H s) (e:H a=some (.ins C dx fs)) (c:Cls X.K C) (n:NoAttr X.K C f) (hl:fs.length<1000) (ry:RelV y u)
  (h:∀ s',Inv X pins σ (upd H a (.ins C dx (putF f y fs))) s'→Q () s'):wpAny (model X.prog X.w) A (setAttr (.ref a) f u) Q E s:=by
 obtain ⟨mA,O,r,wi,_,ho⟩:=ins_get I.hok e
 have hz:(fs.map (·.1)).length≤sizeLine:=by rw [List.length_map,sizeLine_eq]; lia
 refine set_map I.kIn O c.sa c.po n.taker c.hd wi hz fun h' O' sb=>h _ ?_
 have hd:∃ o,h'.get? dx=some o:=let ⟨o,_,_,e',_⟩:=O'.ns; ⟨o,e'⟩
 refine I.write (x:=a) (e:=dx) (by rw [e]; exact True.intro) (.inr ho) (fun b q hb z=>(sb.2 b hb).trans z) hd ?_
 refine ⟨by rw [upd_ne O.ne]; exact ho,?_,O.ne,O'.obj,_,O'.ns,fun g=>?_,fun g hg=>?_⟩
 ·have:=length_putF f y fs; lia
 ·show RelO ((putF f y fs).lookup g) (if g=f then some u else mA g)
  rw [lookup_putF]
  by_cases q:g=f
  ·rw [if_pos q,if_pos q]; exact ry
  ·rw [if_neg q,if_neg q]; exact r g
 ·by_cases q:g=f
  ·rw [q]; exact (keys_putF f y fs).1
  ·refine (keys_putF f y fs).2 g (wi g fun z=>hg ?_)
   show (if g=f then some u else mA g)=none
   rw [if_neg q]; exact z
theorem Inv.made (I:Inv X pins σ H s):Inv X pins σ (upd (upd H s.heap.objs.size (.own (s.heap.objs.size+1))) (s.heap.objs.size+1) (.ins C s.heap.objs.size []))
  { s with heap:=(s.heap.push PySem.W.emptyDict).push (PySem.W.instObj C s.heap.objs.size) }:=by
 have e1:(s.heap.push PySem.W.emptyDict).get? s.heap.objs.size=some PySem.W.emptyDict:=Heap.get?_push_size s.heap rfl
 have e2:((s.heap.push PySem.W.emptyDict).push (PySem.W.instObj C s.heap.objs.size)).get? (s.heap.objs.size+1)=some (PySem.W.instObj C s.heap.objs.size):=by
  have:=Heap.get?_push_size (s.heap.push PySem.W.emptyDict) (o:=PySem.W.instObj C s.heap.objs.size) rfl
  rwa [Heap.size_push] at this
 have e3:(s.heap.push PySem.W.emptyDict).Ns s.heap.objs.size (fun _=>none):=⟨PySem.W.emptyDict,#[],_,e1,rfl,(fun e he=>absurd he (by simp)),fun _=>rfl⟩
 have I1:=I.laid (a:=s.heap.objs.size) (o:=.own (s.heap.objs.size+1)) (h':=s.heap.push PySem.W.emptyDict) (t':=s.toks) (fun b u q=>Heap.get?_push_of_some _ q) (Nat.le_refl _) ⟨_,e1⟩
 refine I1.laid (a:=s.heap.objs.size+1) (o:=.ins C s.heap.objs.size []) (t':=s.toks) (fun b u q=>Heap.get?_push_of_some _ q) (Nat.le_of_eq (Heap.size_push _ _)) ?_
 have ne:s.heap.objs.size≠s.heap.objs.size+1:=Nat.ne_of_lt (Nat.lt_succ_self _)
 refine ⟨by rw [upd_ne ne,upd_same],Nat.zero_le _,ne,e2,fun _=>none,(Heap.Ns1.of_empty e3).at fun o q=>Heap.get?_push_of_some _ q,fun _=>True.intro,fun y hy=>absurd rfl hy⟩
theorem attr_of {prog:Program} {w:World} {env:Env} {e:Expr} {f:Str} {pos:Pos} {s:Shared} {Q:Value→Shared→Prop} (hb:attributeBase e f env (eval e env)=eval e env)
  (h:wpAny (model prog w) A (eval e env) (fun o s₁=>wpAny (model prog w) A (getAttr o f true) Q E s₁) E s):wpAny (model prog w) A (eval (.Attribute e f pos) env) Q E s :=
 Attribute_any_ h (by rw [arm_eval_Attribute,hb])
end
def tFld (K:PySem.W.Frag) (ta:TE) (f:Str):TE:=fun σ H Q=>ta σ H fun x H1=>∃ a C dx fs v,x=.ref a∧H1 a=some (.ins C dx fs)∧Cls K C∧NoAttr K C f∧fs.lookup f=some v∧Q v H1
def sFld (K:PySem.W.Frag) (ta tv:TE) (f:Str):TS:=fun D σ H=>tv σ H fun y H1=>ta σ H1 fun x H2=>∃ a C dx fs,x=.ref a∧H2 a=some (.ins C dx fs)∧Cls K C∧NoAttr K C f∧fs.length<1000 ∧
 D.nx σ (upd H2 a (.ins C dx (putF f y fs)))
section
variable {X:Cx} {o e value:Expr} {f:Str} {pos pos' tpos:Pos} {ta tv:TE}
theorem pe_fld (he:PE X e ta) (hb:attributeBase e f X.env (eval e X.env)=eval e X.env):PE X (.Attribute e f pos) (tFld X.K ta f):=by
 intro pins s σ H Q I h
 refine attr_of hb (thn (he pins s σ H _ I h) fun u s1 ⟨x,H1,I1,rx,a,C,dx,fs,v,ex,ea,c,n,l,q⟩=>?_)
 subst ex
 obtain rfl:u=Value.ref a:=rx
 exact getattr_ok I1 ea c n l fun u' s2 I2 ru=>⟨v,H1,I2,ru,q⟩
theorem ps_fld (ha:PE X o ta) (hv:PE X value tv) (hs:swapsWith value (some (.Attribute o f pos')) pos.line X.env=pure false):PS X (.Assign [.Attribute o f pos'] value pos) (sFld X.K ta tv f):=by
 intro pins s σ H D I h
 refine plainObj_wpAny_Assign_Attribute (thn (hv pins s σ H _ I h) fun u s1 ⟨y,H1,I1,ry,q⟩=>thn (ha pins s1 σ H1 _ I1 q) fun ov s2 ⟨x,H2,I2,rx,a,C,dx,fs,ex,ea,c,n,l,q2⟩=>?_) hs
 subst ex
 obtain rfl:ov=Value.ref a:=rx
 exact setattr_ok I2 ea c n l ry fun s3 I3=>⟨σ,_,I3,q2⟩
end
section
variable {X:Cx} {pins:List (Addr×Obj)} {σ:St} {H:Hp} {s:Shared} {A:Around} {E:Value→Shared→Prop} {Q:Value→Shared→Prop} {c:Value} {b:Bool}
inductive TyOf (K:PySem.W.Frag) (H:Hp):V→Value→Prop where
 | non:TyOf K H .non (.type "NoneType")
 | bl (x:Bool):TyOf K H (.bl x) (.type "bool")
 | int (i:Int):TyOf K H (.int i) (.type "int")
 | str (x:Str):TyOf K H (.str x) (.type "str")
 | flt (x:UInt64):TyOf K H (.flt x) (.type "float")
 | lst {a:Addr} {xs:List V} (e:H a=some (.lst xs)):TyOf K H (.ref a) (.type "list")
 | frz {a:Addr} {o:Obj} {xs:List V} (e:H a=some (.frz o (.lst xs))):TyOf K H (.ref a) (.type "list")
 | tup {a:Addr} {xs:List V} (e:H a=some (.tup xs)):TyOf K H (.ref a) (.type "tuple")
 | dK {a:Addr} {kvs:List (Key×V)} (e:H a=some (.dK kvs)):TyOf K H (.ref a) (.type "dict")
 | dT {a:Addr} {kvs:List (List Key×V)} (e:H a=some (.dT kvs)):TyOf K H (.ref a) (.type "dict")
 | ins {a C dx:Addr} {fs:List (Str×V)} (e:H a=some (.ins C dx fs)) (cl:Cls K C) (ha:PySem.W.findIn K (.ref C) "__class__"=some (some (.builtin "object.__class__")))
   (hn:PySem.W.specialIn K (.builtin "object.__class__") "__get__"=some (some (.builtin "getset_descriptor.__get__"))) (htk:PySem.W.takesIn K (.builtin "object.__class__")=some true)
   (hm:PySem.W.mroIn K C (.type "object")=some true):TyOf K H (.ref a) (.ref C)
theorem isinst_ok {x:V} {u t:Value} (I:Inv X pins σ H s) (rx:RelV x u) (ty:TyOf X.K H x t) (e:PySem.W.kitOne X.K t c=some b) (h:∀ tk,Q (.bool b) { s with toks:=tk }) :
  wpAny (model X.prog X.w) A (call (.builtin "isinstance") [u,c]) Q E s:=by
 cases ty with
 | non=>cases (show u=Value.none from rx); exact PySem.W.kia_one PySem.W.kitx_none I.kIn True.intro e (fun z=>nomatch z) h
 | bl y=>cases (show u=Value.bool y from rx); exact PySem.W.kia_one PySem.W.kitx_bool I.kIn True.intro e (fun z=>nomatch z) h
 | int i=>obtain ⟨t,q⟩:=(show ∃ t,u=Value.int i t from rx); cases q; exact PySem.W.kia_one PySem.W.kitx_int I.kIn True.intro e (fun z=>nomatch z) h
 | str y=>obtain ⟨t,q⟩:=(show ∃ t,u=Value.str y t from rx); cases q; exact PySem.W.kia_one PySem.W.kitx_str I.kIn True.intro e (fun z=>nomatch z) h
 | flt y=>obtain ⟨t,q⟩:=(show ∃ t,u=Value.float y t from rx); cases q; exact PySem.W.kia_one PySem.W.kitx_float I.kIn True.intro e (fun z=>nomatch z) h
 | @lst a xs ea =>
  cases (show u=Value.ref a from rx)
  obtain ⟨_,_,n,_,h1⟩:=(show ObjOk X.prog X.w H s.heap a (.lst xs) from I.hok a _ ea)
  exact PySem.W.kia_one PySem.W.kitx_list I.kIn ⟨_,h1,rfl⟩ e (fun z=>nomatch z) h
 | @frz a ob xs ea =>
  cases (show u=Value.ref a from rx)
  obtain ⟨_,_,_,n,_,h1⟩:=(show ObjOk X.prog X.w H s.heap a (.frz ob (.lst xs)) from I.hok a _ ea)
  exact PySem.W.kia_one PySem.W.kitx_list I.kIn ⟨_,h1,rfl⟩ e (fun z=>nomatch z) h
 | @tup a xs ea =>
  cases (show u=Value.ref a from rx)
  obtain ⟨_,_,_,p⟩:=(show ObjOk X.prog X.w H s.heap a (.tup xs) from I.hok a _ ea)
  obtain ⟨o,h1,h2,_⟩:=p
  exact PySem.W.kia_one PySem.W.kitx_tuple I.kIn ⟨o,h1,h2⟩ e (fun z=>nomatch z) h
 | @dK a kvs ea =>
  cases (show u=Value.ref a from rx)
  obtain ⟨_,_,vs,_,p⟩:=(show ObjOk X.prog X.w H s.heap a (.dK kvs) from I.hok a _ ea)
  obtain ⟨o,es,ep,h1,h2,_⟩:=p
  exact PySem.W.kia_one PySem.W.kitx_dict I.kIn ⟨o,h1,h2.1⟩ e (fun z=>nomatch z) h
 | @dT a kvs ea =>
  cases (show u=Value.ref a from rx)
  obtain ⟨_,_,xs,_,o,es,ep,h1,h2,_⟩:=(show ObjOk X.prog X.w H s.heap a (.dT kvs) from I.hok a _ ea)
  exact PySem.W.kia_one PySem.W.kitx_dict I.kIn ⟨o,h1,h2.1⟩ e (fun z=>nomatch z) h
 | @ins a C dx fs ea cl ha hn htk hm =>
  cases (show u=Value.ref a from rx)
  obtain ⟨mA,O,_⟩:=ins_get I.hok ea
  obtain ⟨od,J,_⟩:=O.look
  exact PySem.W.kia_one (PySem.W.kitx_own (cl.get _) cl.hd ha hn htk hm) I.kIn J e (fun z=>nomatch z) h
end
end L2
namespace L2
open PySem PySem.Spec PyProof.Rows
structure Room (k:Nat) (A:Around):Prop where
 hd:A.handled=none
 dp:A.depth+3 * k+5<recursionLimit
 un:A.units+16 * k+200<cLine
theorem Room.mono {j k:Nat} {A:Around} (r:Room k A) (h:j≤k):Room j A:=⟨r.hd,by have:=r.dp; lia,by have:=r.un; lia⟩
theorem Room.deeper {k:Nat} {A:Around} (r:Room (k+1) A) (env:Env):Room k (A.deeper env) :=
 ⟨r.hd,by have:=r.dp; show A.depth+1+3 * k+5<_; lia,by have:=r.un; show A.units+3+16 * k+200<_; lia⟩
theorem Room.in1 {k:Nat} {A:Around} (r:Room (k+1) A):Room k A.in1 :=
 ⟨r.hd,by have:=r.dp; show A.depth+3 * k+5<_; lia,by have:=r.un; show A.units+1+16 * k+200<_; lia⟩
theorem make_depth {A:Around} {C:Addr} {us:List Value} {kw:List (Str×Value)}:(A.under (.builtin "type.__call__" ⟨.ref C::us,kw⟩)).depth=A.depth+1:=by
 first | rfl | simp [Around.under,Code.weight,Code.isCreation,Code.isGuard,Code.isCaller,Code.frames,Code.isFrame,guardIds]
theorem make_units {A:Around} {C:Addr} {us:List Value} {kw:List (Str×Value)}:(A.under (.builtin "type.__call__" ⟨.ref C::us,kw⟩)).units=A.units+1:=by
 first | rfl | simp [Around.under,Code.cUnits,Code.frames,Code.isFrame]
theorem Room.make {k:Nat} {A:Around} (r:Room (k+1) A) (C:Addr) (us:List Value) (kw:List (Str×Value)):Room k (A.under (.builtin "type.__call__" ⟨.ref C::us,kw⟩)) :=
 ⟨r.hd,by have:=r.dp; rw [make_depth]; lia,by have:=r.un; rw [make_units]; lia⟩
theorem Room.depth {k:Nat} {A:Around} (r:Room k A):A.depth<recursionLimit:=by have:=r.dp; lia
theorem Room.units {k:Nat} {A:Around} (r:Room k A):A.units+64<cLine:=by have:=r.un; lia
theorem Room.units0 {k:Nat} {A:Around} (r:Room k A):A.units<cLine:=by have:=r.un; lia
def tNil:TA:=fun _ H Q=>Q [] H
def tCons (ta:TE) (tr:TA):TA:=fun σ H Q=>ta σ H fun x H1=>tr σ H1 fun xs H2=>Q (x::xs) H2
section
variable {X:Cx} {e:Expr} {es:List Expr} {te:TE} {t:TA} {pos:Pos}
theorem pa_nil:PA X [] tNil:=fun _ _ _ _ H Q I h=>Calls.spliced_nil ⟨[],H,I,.nil,h⟩
theorem pa_cons (ha:PE X e te) (hr:PA X es t) (hs:starEach (e::es) X.env=(false,eval e X.env)::starEach es X.env:=by rfl):PA X (e::es) (tCons te t):=by
 intro pos pins s σ H Q I h
 rw [hs]
 show wpAny _ _ (spliced ((false,eval e X.env)::backTo pos (starEach es X.env))) _ _ s
 refine Calls.spliced_cons (thn (ha pins s σ H _ I h) fun u s1 ⟨x,H1,I1,r1,q1⟩=>?_)
 exact thn (hr pos pins s1 σ H1 _ I1 q1) fun us s2 ⟨xs,H2,I2,r2,q2⟩=>⟨x::xs,H2,I2,.cons r1 r2,q2⟩
def tTup (t:TA):TE:=fun σ H Q=>t σ H fun xs H1=>xs.length≤sizeLine∧∀ p,H1 p=none→Q (.ref p) (upd H1 p (.tup xs))
def tLst (t:TA):TE:=fun σ H Q=>t σ H fun xs H1=>xs.length≤sizeLine∧∀ p,H1 p=none→Q (.ref p) (upd H1 p (.lst xs))
theorem pe_tup {x1} (h:PA X es t):PE X (.Tuple es x1 pos) (tTup t):=by
 intro pins s σ H Q I hq
 refine wpAny_Tuple_spliced (thn (h pos pins s σ H _ I hq) fun us s1 ⟨xs,H1,I1,r,z,q⟩=>⟨by rw [← r.length]; exact z,?_⟩)
 have hf:H1 s1.heap.objs.size=none:=I1.hok.fresh (Nat.le_refl _)
 refine ⟨.ref s1.heap.objs.size,upd H1 s1.heap.objs.size (.tup xs),I1.laid (t':=s1.toks) (fun b u e=>Heap.get?_push_of_some _ e) (Nat.le_refl _) ?_,rfl,q _ hf⟩
 exact ⟨z,us,r,⟨_,Heap.get?_push_size _ rfl,rfl,_,rfl⟩⟩
theorem pe_lst (h:PA X es t):PE X (.List es pos) (tLst t):=by
 intro pins s σ H Q I hq
 refine wpAny_List_spliced (thn (h pos pins s σ H _ I hq) fun us s1 ⟨xs,H1,I1,r,z,q⟩=>⟨by rw [← r.length]; exact z,?_⟩)
 have hf:H1 s1.heap.objs.size=none:=I1.hok.fresh (Nat.le_refl _)
 refine ⟨.ref s1.heap.objs.size,upd H1 s1.heap.objs.size (.lst xs),I1.laid (t':=s1.toks) (fun b u e=>Heap.get?_push_of_some _ e) (Nat.le_refl _) ?_,rfl,q _ hf⟩
 exact ⟨z,us,0,r,Heap.get?_push_size _ rfl⟩
end
abbrev Sp:=List V→Hp→VK→XK→Prop
abbrev CXT:=List Env→Hp→Shared→XK→Value→Shared→Prop
structure Env0 (P:Program) (w:World) (K:PySem.W.Frag) (mg:Str→Option Value) (base:Heap) (A:Around) (outer:List Env) (s:Shared) (H:Hp):Prop where
 frames:A.frames=some outer
 mod:Mod K mg base
 bs:∀ b o,base.get? b=some o→s.heap.get? b=some o∧H b=none
 bsz:base.objs.size≤s.heap.objs.size
 funs:s.heap.FunFrames base outer
 frf:∀ b∈frs outer,H b=none
 hok:HOk P w H s.heap
 bare:AllBare s.gens
def CE (outer:List Env) (P:Program) (w:World) (H:Hp) (s:Shared) (Q:VK) (u:Value) (s':Shared):Prop :=
 ∃ v H',s'.os=s.os∧AllBare s'.gens∧Un (frs outer) [] H H' s.heap s'.heap∧HOk P w H' s'.heap∧RelV v u∧Q v H'
def CR (CX:CXT) (outer:List Env) (P:Program) (w:World) (H:Hp) (s:Shared) (Q:VK) (E:XK) (r:Result) (s':Shared):Prop :=
 match r with
 | .ok (.ret u)=>CE outer P w H s Q u s'
 | .ok _=>False
 | .error e=>CX outer H s E e s'
structure FnOk (P:Program) (w:World) (K:PySem.W.Frag) (mg:Str→Option Value) (base:Heap) (CX:CXT) (k:Nat) (f:Addr) (fd:FuncData) (ps:List Str) (sp:Sp):Prop where
 len:∀ vs H Q E,sp vs H Q E→vs.length=ps.length
 run:∀ (A:Around) (outer:List Env) (s:Shared) (H:Hp) (args:Args) (us:List Value) (vs:List V) (Q:VK) (E:XK),Room k A→Env0 P w K mg base A outer s H→BindsTo s fd args (ps.zip us)→Vals vs us→sp vs H Q E →
  codeAny (model P w) A (.call (.ref f) args) (CR CX outer P w H s Q E) s
theorem FnOk.mono {P:Program} {w:World} {K:PySem.W.Frag} {mg:Str→Option Value} {base:Heap} {CX:CXT} {j k:Nat} {f:Addr} {fd:FuncData} {ps:List Str} {sp:Sp} (F:FnOk P w K mg base CX j f fd ps sp) (h:j≤k) :
  FnOk P w K mg base CX k f fd ps sp:=⟨F.len,fun A outer s H args us vs Q E hr=>F.run A outer s H args us vs Q E (hr.mono h)⟩
theorem FnOk.imp {P:Program} {w:World} {K:PySem.W.Frag} {mg:Str→Option Value} {base:Heap} {CX:CXT} {k:Nat} {f:Addr} {fd:FuncData} {ps:List Str} {sp sp':Sp} (F:FnOk P w K mg base CX k f fd ps sp)
  (h:∀ vs H Q E,sp' vs H Q E→sp vs H Q E):FnOk P w K mg base CX k f fd ps sp' :=
 ⟨fun vs H Q E q=>F.len vs H Q E (h _ _ _ _ q),fun A outer s H args us vs Q E hr he hb hv hs=>F.run A outer s H args us vs Q E hr he hb hv (h _ _ _ _ hs)⟩
theorem Env0.make {P:Program} {w:World} {K:PySem.W.Frag} {mg:Str→Option Value} {base:Heap} {A:Around} {outer:List Env} {s:Shared} {H:Hp} (e:Env0 P w K mg base A outer s H) (C:Addr) (us:List Value) (kw:List (Str×Value)) :
  Env0 P w K mg base (A.under (.builtin "type.__call__" ⟨.ref C::us,kw⟩)) outer s H:=⟨by first | exact e.frames | (simpa [Around.under,Code.envs,Code.isFrame,pushEnvs] using e.frames),e.mod,e.bs,e.bsz,e.funs,e.frf,e.hok,e.bare⟩
theorem Env0.in1 {P:Program} {w:World} {K:PySem.W.Frag} {mg:Str→Option Value} {base:Heap} {A:Around} {outer:List Env} {s:Shared} {H:Hp} (e:Env0 P w K mg base A outer s H) :
  Env0 P w K mg base A.in1 outer s H:=⟨e.frames,e.mod,e.bs,e.bsz,e.funs,e.frf,e.hok,e.bare⟩
section
variable {X:Cx} {pins:List (Addr×Obj)} {σ:St} {H:Hp} {s s':Shared}
theorem Inv.env0 (I:Inv X pins σ H s):Env0 X.prog X.w X.K X.mg X.base X.A X.stack s H :=
 ⟨I.ok.frames,I.ok.mod,I.bs,Nat.le_trans I.ok.bsz I.sz,I.stack,I.stkFree,I.hok,I.bare⟩
theorem Inv.after {Q:VK} {u:Value} (I:Inv X pins σ H s) (h:CE X.stack X.prog X.w H s Q u s'):EP X pins σ Q u s':=by
 obtain ⟨v,H',os,bare,un,hok,r,q⟩:=h
 obtain ⟨hh,g,d,t,os'⟩:=s'
 obtain rfl:os'=s.os:=os
 exact ⟨v,H',I.call (h':=hh) (g':=g) (d':=d) (t':=t) (ch:=[]) un hok bare (fun b z=>absurd z (by simp)),r,q⟩
end
def tCall (sp:Sp) (dvs:List V) (E:XK) (t:TA):TE:=fun σ H Q=>t σ H fun vs H1=>sp (vs++dvs) H1 Q E
def tMeth (C:Addr) (m:Str) (sp:Sp) (dvs:List V) (E:XK) (ta:TE) (t:TA):TE:=fun σ H Q=>ta σ H fun x H1=>∃ a dx fs,x=.ref a∧H1 a=some (.ins C dx fs)∧fs.lookup m=none ∧
 t σ H1 fun vs H2=>sp (x::(vs++dvs)) H2 Q E
def tMake (C:Addr) (sp:Sp) (dvs:List V) (E:XK) (t:TA):TE:=fun σ H Q=>t σ H fun vs H1=>∀ x dx,H1 x=none→H1 dx=none→dx≠x →
 sp (.ref x::(vs++dvs)) (upd (upd H1 dx (.own x)) x (.ins C dx [])) (fun v H2=>v=.non∧Q (.ref x) H2) E
def Binds (K:PySem.W.Frag) (fd:FuncData) (ps:List Str) (ds:List Value):Prop :=
 ∀ (s:Shared) (us:List Value),K.In s.heap→(us++ds).length=ps.length→BindsTo s fd ⟨us,[]⟩ (ps.zip (us++ds))
theorem Binds.all {K:PySem.W.Frag} {fd:FuncData} {ps:List Str} (h:∀ us:List Value,us.length=ps.length→bindArgs fd ⟨us,[]⟩=pure (ps.zip us)):Binds K fd ps []:=fun s us _ hl=>by
 rw [List.append_nil] at hl ⊢
 exact .of_eq (h us hl)
def Passes (CX:CXT) (X:Cx) (E:XK):Prop:=∀ (pins:List (Addr×Obj)) (σ:St) (H:Hp) (s:Shared) (e:Value) (s':Shared),Inv X pins σ H s→CX X.stack H s E e s'→X.xe e s'
section
variable {X:Cx} {CX:CXT} {k:Nat} {f C:Addr} {fd:FuncData} {ps:List Str} {sp:Sp} {dvs:List V} {ds:List Value} {E:XK} {x m:Str} {p pos apos:Pos} {e o:Expr} {es:List Expr} {ta:TE} {t:TA}
theorem run_fn {pins:List (Addr×Obj)} {σ:St} {H:Hp} {s:Shared} {Q:VK} {us:List Value} {vs:List V} (F:FnOk X.prog X.w X.K X.mg X.base CX k f fd ps sp) (hr:Room k X.A) (hb:Binds X.K fd ps ds) (hd:Vals dvs ds) (hx:Passes CX X E)
  (I:Inv X pins σ H s) (r:Vals vs us) (h:sp (vs++dvs) H Q E):wpAny (model X.prog X.w) X.A (call (.ref f) us) (EP X pins σ Q) X.xe s:=by
 have r2:Vals (vs++dvs) (us++ds):=r.append hd
 have hl:(us++ds).length=ps.length:=by rw [← r2.length]; exact F.len _ _ _ _ h
 refine wpAny_call (codeAny_mono (F.run X.A X.stack s H ⟨us,[]⟩ (us++ds) (vs++dvs) Q E hr I.env0 (hb s us I.kIn hl) r2 h) fun r s' hq=>?_)
 cases r with
 | error e=>exact hx pins σ H s e s' I hq
 | ok fl =>
  cases fl with
  | ret u=>exact I.after hq
  | next=>exact False.elim hq
  | brk=>exact False.elim hq
  | cont=>exact False.elim hq
theorem pe_call (F:FnOk X.prog X.w X.K X.mg X.base CX k f fd ps sp) (hr:Room k X.A) (hg:Gl X x) (hm:X.mg x=some (.ref f)) (hk:PySem.W.keepIn X.K (.ref f)=true) (hb:Binds X.K fd ps ds) (hd:Vals dvs ds) (hx:Passes CX X E)
  (ha:PA X (e::es) t) (hdb:(x == ("__debug__":Str))=false:=by decide) (he:starEach (e::es) X.env=(false,eval e X.env)::starEach es X.env:=by rfl) (hpl:(backTo pos (starEach es X.env)).any (·.1)=false:=by rfl) :
  PE X (.Call (.Name x p) (e::es) [] pos) (tCall sp dvs E t):=by
 intro pins s σ H Q I h
 refine wpAny_Call_Name_kw (ld_glob I hg hm ?_ hdb)
 refine PySem.W.callWith_K (h₀:=X.base) I.ok.mod.kin hk (thn (ha pos pins s σ H _ I h) fun us s1 ⟨vs,H1,I1,r,q⟩=>⟨I1.kIn,?_⟩) he hpl
 exact run_fn F hr hb hd hx I1 r q
theorem pe_meth {pl:Sem Bool} (he:PE X o ta) (c:Cls X.K C) (hm:Meth X.K C m f) (F:FnOk X.prog X.w X.K X.mg X.base CX k f fd ps sp) (hr:Room k X.A) (hb:Binds X.K fd ps ds) (hd:Vals dvs ds) (hx:Passes CX X E) (ha:PA X (e::es) t)
  (hst:starEach (e::es) X.env=(false,eval e X.env)::starEach es X.env:=by rfl) (hpl:(backTo pos (starEach es X.env)).any (·.1)=false:=by rfl)
  (ht:eval (.Call (.Attribute o m apos) (e::es) [] pos) X.env=(do
   let ov ← eval o X.env
   standAt apos.atName
   let (f,first) ← holding [ov] (getMethod ov m pl)
   callWith pos f first (backTo pos (starEach (e::es) X.env)) (backToKw pos (keywordEach [] X.env))):=by rfl) :
  PE X (.Call (.Attribute o m apos) (e::es) [] pos) (tMeth C m sp dvs E ta t):=by
 intro pins s σ H Q I h
 refine PySem.W.methodCall_KW (pl:=pl) (thn (he pins s σ H _ I h) fun u s1 ⟨x,H1,I1,rx,a,dx,fs,ex,ea,l,q⟩=>?_) ht
 subst ex
 obtain rfl:u=Value.ref a:=rx
 refine getmeth_ok I1 ea c hm l ?_
 refine PySem.W.callWith_K (first:=[.ref a]) (h₀:=X.base) I.ok.mod.kin hm.kp (thn (ha pos pins s1 σ H1 _ I1 q) fun us s2 ⟨vs,H2,I2,r,q2⟩=>⟨I2.kIn,?_⟩) hst hpl
 exact run_fn (us:=.ref a::us) (vs:=.ref a::vs) F hr hb hd hx I2 (.cons rfl r) q2
theorem pe_meth0 {pl:Sem Bool} (he:PE X o ta) (c:Cls X.K C) (hm:Meth X.K C m f) (F:FnOk X.prog X.w X.K X.mg X.base CX k f fd ps sp) (hr:Room k X.A) (hb:Binds X.K fd ps ds) (hd:Vals dvs ds) (hx:Passes CX X E)
  (ht:eval (.Call (.Attribute o m apos) [] [] pos) X.env=(do
   let ov ← eval o X.env
   standAt apos.atName
   let (f,first) ← holding [ov] (getMethod ov m pl)
   callWith pos f first (backTo pos (starEach [] X.env)) (backToKw pos (keywordEach [] X.env))):=by rfl) :
  PE X (.Call (.Attribute o m apos) [] [] pos) (tMeth C m sp dvs E ta tNil):=by
 intro pins s σ H Q I h
 refine PySem.W.methodCall_KW (pl:=pl) (thn (he pins s σ H _ I h) fun u s1 ⟨x,H1,I1,rx,a,dx,fs,ex,ea,l,q⟩=>?_) ht
 subst ex
 obtain rfl:u=Value.ref a:=rx
 refine getmeth_ok I1 ea c hm l ?_
 exact PySem.W.callWith_K0 (first:=[.ref a]) I1.kIn hm.kp (run_fn (us:=[.ref a]) (vs:=[.ref a]) F hr hb hd hx I1 (.cons rfl .nil) q)
structure Mk (K:PySem.W.Frag) (C f:Addr):Prop where
 makes:PySem.W.makesIn K C=true
 init:PySem.W.findIn K (.ref C) "__init__"=some (some (.ref f))
 fn:PySem.W.isFn K (.ref f)=true
 kp:PySem.W.keepIn K (.ref C)=true
theorem run_make {pins:List (Addr×Obj)} {σ:St} {H:Hp} {s:Shared} {Q:VK} {us:List Value} {vs:List V} (M:Mk X.K C f) (F:FnOk X.prog X.w X.K X.mg X.base CX k f fd ps sp) (hr:Room (k+1) X.A) (hb:Binds X.K fd ps ds) (hd:Vals dvs ds)
  (hx:Passes CX X E) (I:Inv X pins σ H s) (r:Vals vs us)
  (h:∀ x dx,H x=none→H dx=none→dx≠x→sp (.ref x::(vs++dvs)) (upd (upd H dx (.own x)) x (.ins C dx [])) (fun v H2=>v=.non∧Q (.ref x) H2) E) :
  wpAny (model X.prog X.w) X.A (call (.ref C) us) (EP X pins σ Q) X.xe s:=by
 have hq:=h (s.heap.objs.size+1) s.heap.objs.size (I.hok.fresh (Nat.le_succ _)) (I.hok.fresh (Nat.le_refl _)) (Nat.ne_of_lt (Nat.lt_succ_self _))
 have I2:=Inv.made (C:=C) I
 have r2:Vals (V.ref (s.heap.objs.size+1)::(vs++dvs)) (Value.ref (s.heap.objs.size+1)::(us++ds)):=.cons rfl (r.append hd)
 have hl:(Value.ref (s.heap.objs.size+1)::us++ds).length=ps.length:=by
  have e:=r2.length
  rw [F.len _ _ _ _ hq] at e
  exact e.symm
 refine wpAny_call (make_map (f:=f) I.kIn M.makes M.init (beq_iff_eq.mp M.fn) (codeAny_mono (F.run _ X.stack _ _ ⟨Value.ref (s.heap.objs.size+1)::us,[]⟩ (Value.ref (s.heap.objs.size+1)::(us++ds)) _ _ E (hr.make C us [])
  (I2.env0.make C us []) (hb _ (Value.ref (s.heap.objs.size+1)::us) I2.kIn hl) r2 hq) fun r s' hq'=>?_))
 cases r with
 | error e=>exact hx pins σ _ _ e s' I2 hq'
 | ok fl =>
  cases fl with
  | ret u =>
   obtain ⟨v,H',I3,rv,ev,q3⟩:=I2.after hq'
   subst ev
   exact ⟨rv,⟨V.ref (s.heap.objs.size+1),H',I3,rfl,q3⟩⟩
  | next=>exact False.elim hq'
  | brk=>exact False.elim hq'
  | cont=>exact False.elim hq'
theorem pe_make (M:Mk X.K C f) (F:FnOk X.prog X.w X.K X.mg X.base CX k f fd ps sp) (hr:Room (k+1) X.A) (hg:Gl X x) (hm:X.mg x=some (.ref C)) (hb:Binds X.K fd ps ds) (hd:Vals dvs ds) (hx:Passes CX X E)
  (ha:PA X (e::es) t) (hdb:(x == ("__debug__":Str))=false:=by decide) (he:starEach (e::es) X.env=(false,eval e X.env)::starEach es X.env:=by rfl) (hpl:(backTo pos (starEach es X.env)).any (·.1)=false:=by rfl) :
  PE X (.Call (.Name x p) (e::es) [] pos) (tMake C sp dvs E t):=by
 intro pins s σ H Q I h
 refine wpAny_Call_Name_kw (ld_glob I hg hm ?_ hdb)
 refine PySem.W.callWith_K (h₀:=X.base) I.ok.mod.kin M.kp (thn (ha pos pins s σ H _ I h) fun us s1 ⟨vs,H1,I1,r,q⟩=>⟨I1.kIn,?_⟩) he hpl
 exact run_make M F hr hb hd hx I1 r q
end
section
variable {X:Cx} {CX:CXT} {k:Nat} {f C:Addr} {fd:FuncData} {ps ks:List Str} {sp:Sp} {E:XK} {x m:Str} {p pos apos kpos:Pos} {e o:Expr} {es:List Expr} {kws:List Keyword} {te ta:TE} {t tk:TA} {nm:Option Str}
structure KBinds (K:PySem.W.Frag) (fd:FuncData) (ps ks:List Str) (g:List Value→List Value→List Value) (gV:List V→List V→List V):Prop where
 to:∀ (s:Shared) (us ws:List Value),K.In s.heap→(g us ws).length=ps.length→BindsTo s fd ⟨us,ks.zip ws⟩ (ps.zip (g us ws))
 rel:∀ {vs:List V} {us:List Value} {zs:List V} {ws:List Value},Vals vs us→Vals zs ws→Vals (gV vs zs) (g us ws)
variable {g:List Value→List Value→List Value} {gV:List V→List V→List V}
end
structure FnScope (N P:List Str) (sc:Scope):Prop where
 kind:sc.kind=.function
 co:sc.isCoroutine=false
 gen:sc.isGenerator=false
 nd:N.Nodup
 pre:N.take P.length=P
 par:∀ x∈P,sc.names.lookup x=some .local∨sc.names.lookup x=some .cell
 nofree:∀ y∈sc.names,y.2≠.free
theorem bindL_out {kindOf:Str→Option NameKind} {x:Str}:∀ {binds:List (Str×Value)} {m:Str→Option Value},(∀ v,(x,v)∉binds)→bindL kindOf binds m x=m x
 | [],_,_=>rfl
 | (n,v)::r,m,h=>by
  unfold bindL
  rw [bindL_out fun w hw=>h w (List.mem_cons_of_mem _ hw)]
  split
  ·have:x≠n:=by rintro rfl; exact h v List.mem_cons_self
   simp [this]
  ·rfl
theorem bindC_out {kindOf:Str→Option NameKind} {x:Str}:∀ {binds:List (Str×Value)} {m:Str→Option Value},(∀ v,(x,v)∉binds)→bindC kindOf binds m x=m x
 | [],_,_=>rfl
 | (n,v)::r,m,h=>by
  unfold bindC
  rw [bindC_out fun w hw=>h w (List.mem_cons_of_mem _ hw)]
  split
  ·rfl
  ·have:x≠n:=by rintro rfl; exact h v List.mem_cons_self
   simp [this]
theorem bindL_get {kindOf:Str→Option NameKind} {x:Str} {v:Value}:∀ {P:List Str} {vs:List Value} {i:Nat} {m:Str→Option Value},P.Nodup→P[i]?=some x→vs[i]?=some v→kindOf x=some .local →
  bindL kindOf (P.zip vs) m x=some v
 | [],_,_,_,_,h,_,_=>by simp at h
 | _::_,[],_,_,_,_,h,_=>by simp at h
 | p::P,w::vs,0,m,nd,h1,h2,hk=>by
  simp at h1 h2; subst h1; subst h2
  show bindL kindOf ((p,w)::P.zip vs) m p=_
  unfold bindL
  rw [bindL_out fun v hv=>(List.nodup_cons.mp nd).1 (List.of_mem_zip hv).1,if_pos hk]
  simp
 | p::P,w::vs,i+1,m,nd,h1,h2,hk=>by
  show bindL kindOf ((p,w)::P.zip vs) m x=_
  unfold bindL
  exact bindL_get (i:=i) (List.nodup_cons.mp nd).2 (by simpa using h1) (by simpa using h2) hk
theorem bindC_get {kindOf:Str→Option NameKind} {x:Str} {v:Value}:∀ {P:List Str} {vs:List Value} {i:Nat} {m:Str→Option Value},P.Nodup→P[i]?=some x→vs[i]?=some v→kindOf x≠some .local →
  bindC kindOf (P.zip vs) m x=some v
 | [],_,_,_,_,h,_,_=>by simp at h
 | _::_,[],_,_,_,_,h,_=>by simp at h
 | p::P,w::vs,0,m,nd,h1,h2,hk=>by
  simp at h1 h2; subst h1; subst h2
  show bindC kindOf ((p,w)::P.zip vs) m p=_
  unfold bindC
  rw [bindC_out fun v hv=>(List.nodup_cons.mp nd).1 (List.of_mem_zip hv).1,if_neg hk]
  simp
 | p::P,w::vs,i+1,m,nd,h1,h2,hk=>by
  show bindC kindOf ((p,w)::P.zip vs) m x=_
  unfold bindC
  exact bindC_get (i:=i) (List.nodup_cons.mp nd).2 (by simpa using h1) (by simpa using h2) hk
def start (N:List Str) (vs:List V):St:=vs.map some++List.replicate (N.length - vs.length) none
def cxOf (CX:CXT) (P:Program) (w:World) (K:PySem.W.Frag) (mg:Str→Option Value) (base:Heap) (N:List Str) (qual:Str) (scope:Scope) (f:Addr) (cd:Value) (A:Around) (outer:List Env) (s:Shared) (H:Hp) (E:XK):Cx where
 prog:=P
 w:=w
 K:=K
 mg:=mg
 base:=base
 A:=A.deeper (envOfC qual scope s.heap.objs.size f cd)
 N:=N
 s₀:=s
 H₀:=H
 env:=envOfC qual scope s.heap.objs.size f cd
 outer:=outer
 stack:=envOfC qual scope s.heap.objs.size f cd::outer
 ex:=[]
 calm:=true
 fn:=fun _=>true
 pn:=[]
 xe:=fun e s'=>wpAny (model P w) (A.deeper (envOfC qual scope s.heap.objs.size f cd)) (leaving (envOfC qual scope s.heap.objs.size f cd) e) (fun _ s''=>CX outer H s E e s'') (fun e' s''=>CX outer H s E e' s'') s'
theorem cell_has {sc:Scope} {n:Nat} {x:Str} (h:sc.names.lookup x=some .cell):∃ c,(cellsFrom n sc.names []).lookup x=some c:=by
 have q:=PySem.W.cellsFrom_some sc.names n [] (.inl h)
 exact Option.isSome_iff_exists.mp q
theorem inv_start {CX:CXT} {P:Program} {w:World} {K:PySem.W.Frag} {mg:Str→Option Value} {base:Heap} {N ps:List Str} {qual:Str} {scope:Scope} {f:Addr} {cd:Value} {A:Around} {outer:List Env} {s s1:Shared} {H:Hp} {E:XK} {us:List Value} {vs:List V}
  (S:FnScope N ps scope) (hd:A.handled=none) (e0:Env0 P w K mg base A outer s H) (hl:vs.length=ps.length) (r:Vals vs us)
  (x:InCallC s s.heap.objs.size (bindL (envOfC qual scope s.heap.objs.size f cd).kindOf (ps.zip us) fun _=>none) (cellsFrom (s.heap.objs.size+1) scope.names []) (bindC (envOfC qual scope s.heap.objs.size f cd).kindOf (ps.zip us) fun _=>none) s1) :
  Inv (cxOf CX P w K mg base N qual scope f cd A outer s H E) [] (start N vs) H s1:=by
 have hpl:ps.length≤N.length:=by have:=congrArg List.length S.pre; rw [List.length_take] at this; lia
 obtain ⟨h1,tk,rfl,hk⟩:=x.done
 have noA:∀ b:Addr,b∉(cxOf CX P w K mg base N qual scope f cd A outer s H E).ex:=fun b z=>absurd (show b∈([]:List Addr) from z) (by simp)
 refine ⟨⟨e0.mod,S.kind,rfl,rfl,Nat.le_refl _,fun y z c h1 h2=>?_,fun y hy=>?_,fun y c _ h=>?_,fun _=>hd,Around.frames_deeper e0.frames,.inr ⟨rfl,rfl⟩,fun b z=>absurd z (noA b),e0.bs,e0.bsz,fun b _ _=>noA b,fun b z=>absurd z (noA b),e0.funs,e0.frf⟩,
  rfl,e0.bare,Un.kept hk,⟨_,x.toInCall.ns,fun i y v h1 h2 h3=>?_⟩,fun y c h=>⟨_,x.cell y c h⟩,e0.hok.fresh (Nat.le_refl _),fun y c h=>?_,fun p hp=>absurd (show p∈([]:List (Addr×Obj)) from hp) (by simp),e0.hok.kept hk,?_⟩
 ·exact name_of_addr x.apart (PySem.mem_of_lookup h1) (PySem.mem_of_lookup h2)
 ·have hy:scope.names.lookup y=some .cell∨scope.names.lookup y=some .free:=hy
  rcases hy with hy | hy
  ·exact cell_has hy
  ·exact absurd rfl (S.nofree _ (PySem.mem_of_lookup hy))
 ·exact Nat.le_of_lt (x.above y c (PySem.mem_of_lookup h))
 ·have hi:i<vs.length:=by
   unfold start at h2
   by_cases hi:i<vs.length
   ·exact hi
   ·rw [List.getElem?_append_right (by simpa using hi)] at h2
    rw [List.getElem?_replicate] at h2
    split at h2 <;> cases h2
  have ha:vs[i]?=some v:=by
   unfold start at h2
   rw [List.getElem?_append_left (by simpa using hi),List.getElem?_map] at h2
   cases e:vs[i]? with
   | none=>rw [e] at h2; cases h2
   | some a=>rw [e] at h2; cases h2; rfl
  obtain ⟨u,hu,rv⟩:=r.get ha
  have hp:ps[i]?=some y:=by
   rw [← S.pre,List.getElem?_take_of_lt (by lia)]; exact h1
  have ndP:ps.Nodup:=by rw [← S.pre]; exact S.nd.sublist (List.take_sublist _ _)
  refine ⟨u,rv,?_⟩
  rcases S.par y (List.mem_of_getElem? hp) with k | k
  ·exact .inl ⟨k,bindL_get ndP hp hu k⟩
  ·obtain ⟨c,e⟩:=cell_has (n:=s.heap.objs.size+1) k
   refine .inr ⟨.inl k,c,e,?_⟩
   have q:=x.cell y c e
   rw [bindC_get ndP hp hu (by show scope.names.lookup y≠_; rw [k]; decide)] at q
   exact q
 ·exact e0.hok.fresh (Nat.le_of_lt (x.above y c (PySem.mem_of_lookup h)))
 ·unfold start
  show _=N.length
  rw [List.length_append,List.length_map,List.length_replicate]
  lia
theorem fn_of {CX:CXT} {P:Program} {w:World} {K:PySem.W.Frag} {mg:Str→Option Value} {base:Heap} {k:Nat} {f:Addr} {name qual:Str} {params:Arguments} {body:List Stmt} {scope:Scope} {dV kV doc pm cdv ct oc:Value} {an od:Option Addr}
  {osl:Array (Option Value)} {N ps:List Str} {sp:Sp} (lk:K.lookup f=some ⟨oc,od,.func (PySem.W.fnOf name qual params body scope dV kV doc pm an cdv ct),osl⟩) (hcd:PySem.W.codeIn K cdv qual=true) (S:FnScope N ps scope)
  (len:∀ vs H Q E,sp vs H Q E→vs.length=ps.length)
  (hbody:∀ (A:Around) (outer:List Env) (s:Shared) (H:Hp) (vs:List V) (Q:VK) (E:XK),Room k (A.deeper (envOfC qual scope s.heap.objs.size f cdv))→sp vs H Q E →
   ∃ t,PSs (cxOf CX P w K mg base N qual scope f cdv A outer s H E) body t∧t { nx:=fun _ H'=>Q .non H',rt:=Q } (start N vs) H) :
  FnOk P w K mg base CX (k+1) f (PySem.W.fnOf name qual params body scope dV kV doc pm an cdv ct) ps sp:=by
 refine ⟨len,fun A outer s H args us vs Q E hr e0 hb r hsp=>?_⟩
 have hl:=len _ _ _ _ hsp
 have KX:K.In s.heap:=e0.mod.kin.keeps fun b o e=>(e0.bs b o e).1
 have lim:s.heap.NoLimit:=e0.mod.nolimit.keeps fun b o e=>(e0.bs b o e).1
 have hkind:∀ y∈ps.zip us,scope.names.lookup y.1=some .local∨(scope.names.lookup y.1=some .cell∧((cellsFrom (s.heap.objs.size+1) scope.names []).lookup y.1).isSome=true):=fun ⟨n,v⟩ hy=>by
  rcases S.par n (List.of_mem_zip hy).1 with q | q
  ·exact .inl q
  ·exact .inr ⟨q,PySem.W.cellsFrom_some _ _ _ (.inl q)⟩
 refine codeAny_call_function hr.depth (KX _ _ lk) rfl S.co S.gen rfl (PySem.W.codeRec_of KX hcd) (hb _ _ _ _ ?_)
 refine wpAny_newFunctionEnv_cells S.kind hkind fun env he s1 x=>?_
 subst he
 refine ⟨lim.keeps x.toInCall.keep,codeAny_func ?_⟩
 obtain ⟨t,ht,hq⟩:=hbody A outer s H vs Q E (hr.deeper _) hsp
 have I:Inv (cxOf CX P w K mg base N qual scope f cdv A outer s H E) [] (start N vs) H s1:=inv_start S hr.hd e0 hl r x
 refine wpAny_mono (ht [] s1 (start N vs) H _ I hq) (fun fl s' hs=>?_) fun e s' hs=>hs
 have fin:∀ {σ':St} {H':Hp} {v:V} {u:Value},Inv (cxOf CX P w K mg base N qual scope f cdv A outer s H E) [] σ' H' s'→RelV v u→Q v H'→CE outer P w H s Q u s' :=
  fun {σ' H' v u} J rv q=>⟨v,H',J.os,J.bare,J.base,J.hok,rv,q⟩
 cases fl with
 | ret u =>
  obtain ⟨v,σ',H',J,rv,q⟩:=hs
  exact fin J rv q
 | next =>
  obtain ⟨σ',H',J,q⟩:=hs
  exact fin (v:=V.non) (u:=Value.none) J rfl q
 | brk =>
  obtain ⟨_,_,_,q⟩:=hs
  exact False.elim q
 | cont =>
  obtain ⟨_,_,_,q⟩:=hs
  exact False.elim q
end L2
namespace L2
open PySem PySem.Spec PyProof.Rows
section
variable {X:Cx} {x:Str} {p pos:Pos} {e:Expr} {es:List Expr} {t:TA} {id T:String} {r:List V→Hp→VK→Prop}
def tCB (r:List V→Hp→VK→Prop) (t:TA):TE:=fun σ H Q=>t σ H fun vs H1=>r vs H1 Q
theorem pe_callB (hc:CallR X (.builtin id) r) (hg:Gl X x) (hm:X.mg x=none) (hv:bootBuiltins x=some (.builtin id)) (ha:PA X (e::es) t) (hn:x≠"__name__":=by decide) (hdb:(x == ("__debug__":Str))=false:=by decide)
  (he:starEach (e::es) X.env=(false,eval e X.env)::starEach es X.env:=by rfl) (hpl:(backTo pos (starEach es X.env)).any (·.1)=false:=by rfl):PE X (.Call (.Name x p) (e::es) [] pos) (tCB r t):=by
 intro pins s σ H Q I h
 refine wpAny_Call_Name_kw (ld_blt I hg hm hv ?_ hn hdb)
 exact PyProof.Rows.callWith_builtin1 (thn (ha pos pins s σ H _ I h) fun us s1 ⟨vs,H1,I1,r1,q1⟩=>hc pins s1 σ H1 vs us Q I1 r1 q1) he hpl
theorem pe_callTy (hc:CallR X (.type T) r) (hg:Gl X x) (hm:X.mg x=none) (hv:bootBuiltins x=some (.type T)) (ha:PA X (e::es) t) (hn:x≠"__name__":=by decide) (hdb:(x == ("__debug__":Str))=false:=by decide)
  (he:starEach (e::es) X.env=(false,eval e X.env)::starEach es X.env:=by rfl) (hpl:(backTo pos (starEach es X.env)).any (·.1)=false:=by rfl):PE X (.Call (.Name x p) (e::es) [] pos) (tCB r t):=by
 intro pins s σ H Q I h
 refine wpAny_Call_Name_kw (ld_blt I hg hm hv ?_ hn hdb)
 exact PyProof.Rows.callWith_type1 (thn (ha pos pins s σ H _ I h) fun us s1 ⟨vs,H1,I1,r1,q1⟩=>hc pins s1 σ H1 vs us Q I1 r1 q1) he hpl
end
end L2
namespace HT
open PySem PyProof.Rows
section
open PySem.SeqAt
open PySem.AutoSeq1 (wpAny_loadPart')
open PySem.MeetsSeq PySem.MeetsSeq2 PySem.MeetsSeq3
end
section
variable {prog:Program} {w:World} {A:Around} {E:Value→Shared→Prop} {s:Shared}
def sIx (n d:Nat):Option Int→Nat
 | none=>d
 | some v=>if v<0 then (v+(n:Int)).toNat else min v.toNat n
theorem sIx_none (n d:Nat):sIx n d none=d:=rfl
theorem sIx_nat (n d k:Nat):sIx n d (some (k:Int))=min k n:=by
 show (if (k:Int)<0 then ((k:Int)+(n:Int)).toNat else min (k:Int).toNat n)=min k n
 rw [if_neg (by lia),Int.toNat_natCast]
end
end HT
namespace L2
open PySem PySem.Spec PyProof.Rows
abbrev TO:=St→Hp→(Option Int→Hp→Prop)→Prop
def PO (X:Cx) (e:Option Expr) (t:TO):Prop :=
 ∀ (pins:List (Addr×Obj)) (s:Shared) (σ:St) (H:Hp) (Q:Option Int→Hp→Prop),Inv X pins σ H s→t σ H Q →
  wpAny (model X.prog X.w) X.A (evalPart e X.env) (fun u s'=>∃ o H',Inv X pins σ H' s'∧IsPart u o∧Q o H') X.xe s
def tNoPart:TO:=fun _ H Q=>Q none H
def tPart (t:TE):TO:=fun σ H Q=>t σ H fun x H1=>∃ i,x=.int i∧Q (some i) H1
theorem intsAre_of {ns:List Int}:∀ {us:List Value},Vals (ns.map V.int) us→IntsAre us ns:=by
 induction ns with
 | nil=>intro us r; rw [List.map_nil] at r; cases r; exact .nil
 | cons n ns ih =>
  intro us r
  rw [List.map_cons] at r
  cases r with
  | cons r1 r2 =>
   obtain ⟨t,e⟩:=r1
   subst e
   exact .cons n t (ih r2)
section
variable {X:Cx} {e:Expr} {te:TE} {lo hi:Option Expr} {tl th:TO} {pos p2:Pos}
theorem po_none:PO X none tNoPart:=by
 intro pins s σ H Q I h
 rw [evalPart_none]
 exact wpAny_pure ⟨none,H,I,.none,h⟩
theorem po_some (h:PE X e te):PO X (some e) (tPart te):=by
 intro pins s σ H Q I hw
 rw [evalPart_some]
 refine thn (h pins s σ H _ I hw) fun u s1 ⟨x,H1,I1,r1,q1⟩=>?_
 obtain ⟨i,rfl,q⟩:=q1
 obtain ⟨t,rfl⟩:=r1
 exact ⟨some i,H1,I1,.int i t,q⟩
def SlR (X:Cx) (r:V→Option Int→Option Int→Hp→VK→Prop):Prop :=
 ∀ (pins:List (Addr×Obj)) (s:Shared) (σ:St) (H:Hp) (x:V) (v vl vu:Value) (lo hi:Option Int) (sl:Addr) (Q:VK),Inv X pins σ H s→RelV x v→s.heap.IsSliceOf sl vl vu .none→IsPart vl lo→IsPart vu hi→r x lo hi H Q →
  ∃ T id,typeLookup (.type T) "__getitem__"=pure (some (.builtin id))∧s.TypeIs v T∧wpAny (model X.prog X.w) X.A (getItem v (.ref sl)) (EP X pins σ Q) X.xe s
theorem SlR.or {r r':V→Option Int→Option Int→Hp→VK→Prop} (h:SlR X r) (h':SlR X r'):SlR X (fun x lo hi H Q=>r x lo hi H Q∨r' x lo hi H Q):=by
 intro pins s σ H x v vl vu lo hi sl Q I rx hs pl pu q
 rcases q with q | q
 ·exact h pins s σ H x v vl vu lo hi sl Q I rx hs pl pu q
 ·exact h' pins s σ H x v vl vu lo hi sl Q I rx hs pl pu q
def tSl (r:V→Option Int→Option Int→Hp→VK→Prop) (te:TE) (tl th:TO):TE:=fun σ H Q=>te σ H fun x H1=>tl σ H1 fun l H2=>th σ H2 fun u H3=>r x l u H3 Q
theorem pe_slice {r:V→Option Int→Option Int→Hp→VK→Prop} (hr:SlR X r) (he:PE X e te) (hl:PO X lo tl) (hu:PO X hi th):PE X (.Subscript e (.Slice lo hi none p2) pos) (tSl r te tl th):=by
 intro pins s σ H Q I h
 refine Subscript_ (thn (he pins s σ H _ I h) fun v s1 ⟨x,H1,I1,r1,q1⟩=>?_)
 refine wpAny_Slice (thn (hl pins s1 σ H1 _ I1 q1) fun vl s2 ⟨l,H2,I2,pl,q2⟩=>thn (hu pins s2 σ H2 _ I2 q2) fun vu s3 ⟨u,H3,I3,pu,q3⟩=>?_)
 rw [evalPart_none]
 refine wpAny_pure ?_
 have I4:Inv X pins σ H3 { s3 with heap:=s3.heap.push { cls:=.type "slice",data:=.fields #[vl,vu,.none] } }:=I3.kept (t':=s3.toks) fun b ob q=>Heap.get?_push_of_some _ q
 obtain ⟨T,id,hT,ht,hg⟩:=hr pins { s3 with heap:=s3.heap.push { cls:=.type "slice",data:=.fields #[vl,vu,.none] } } σ H3 x v vl vu l u s3.heap.objs.size Q I4 r1 (Heap.IsSliceOf.new ..) pl pu q3
 show wpAny (model X.prog X.w) X.A (subscriptTail e (.Slice lo hi none p2) v (.ref s3.heap.objs.size)) (EP X pins σ Q) X.xe { s3 with heap:=s3.heap.push { cls:=.type "slice",data:=.fields #[vl,vu,.none] } }
 exact tail_any (ops:=[.ref s3.heap.objs.size,v]) ht hT hg (by with_unfolding_all rfl)
def cutV (xs:List V) (lo hi:Option Int):List V:=(xs.drop (HT.sIx xs.length 0 lo)).take (HT.sIx xs.length xs.length hi - HT.sIx xs.length 0 lo)
theorem cutV_length (xs:List V) (lo hi:Option Int):(cutV xs lo hi).length≤xs.length:=by
 unfold cutV
 rw [List.length_take,List.length_drop]
 lia
end
end L2
namespace L2
open PySem PySem.Spec PyProof.Rows
def ixN (n:Nat) (i:Int):Option Nat:=if 0≤i then (if i<n then some i.toNat else none) else if -(n:Int)≤i then some (i+n).toNat else none
def atI {α:Type} (xs:List α) (i:Int):Option α:=(ixN xs.length i).bind fun j=>xs[j]?
theorem ixN_seq {n:Nat} {i:Int} {j:Nat} (h:ixN n i=some j):seqIndex? i n=some j∧j<n∧-(n:Int)≤i∧i<n:=by
 unfold ixN at h
 by_cases h0:0≤i
 ·rw [if_pos h0] at h
  by_cases h1:i<n
  ·rw [if_pos h1] at h
   have e:i.toNat=j:=Option.some.inj h
   exact ⟨by rw [seqIndex_of h0 h1,e],by lia,by lia,h1⟩
  ·rw [if_neg h1] at h; cases h
 ·rw [if_neg h0] at h
  by_cases h1:-(n:Int)≤i
  ·rw [if_pos h1] at h
   have e:(i+n).toNat=j:=Option.some.inj h
   exact ⟨by rw [seqIndex_neg (by lia) h1,e],by lia,h1,by lia⟩
  ·rw [if_neg h1] at h; cases h
theorem atI_get {α:Type} {xs:List α} {i:Int} {v:α} (h:atI xs i=some v):∃ j,seqIndex? i xs.length=some j∧xs[j]?=some v∧j<xs.length∧-(xs.length:Int)≤i∧i<xs.length:=by
 unfold atI at h
 cases e:ixN xs.length i with
 | none=>rw [e] at h; cases h
 | some j =>
  rw [e] at h
  obtain ⟨h1,h2,h3,h4⟩:=ixN_seq e
  exact ⟨j,h1,h,h2,h3,h4⟩
theorem atI_nat {α:Type} {xs:List α} {j:Nat} {v:α} (h:xs[j]?=some v):atI xs (j:Int)=some v:=by
 have hj:j<xs.length:=(List.getElem?_eq_some_iff.mp h).1
 have e:ixN xs.length (j:Int)=some j:=by
  unfold ixN
  rw [if_pos (by lia),if_pos (by lia)]; simp
 unfold atI; rw [e]; exact h
def PlainIx (b:Expr):Prop:=∀ o i,subscripted b false o i=operate [o,i] (getItem o i)
def IxR (X:Cx) (r:R2):Prop :=
 ∀ (value slice:Expr) (pins:List (Addr×Obj)) (s:Shared) (σ:St) (H:Hp) (x y:V) (v u:Value) (Q:VK),Inv X pins σ H s→RelV x v→RelV y u→r x y H Q →
  subscripted slice false v u=operate [v,u] (getItem v u)→wpAny (model X.prog X.w) X.A (subscriptTail value slice v u) (EP X pins σ Q) X.xe s
def MtR (X:Cx) (id:String) (r:V→List V→Hp→VK→Prop):Prop :=
 ∀ (pins:List (Addr×Obj)) (s:Shared) (σ:St) (H:Hp) (x:V) (xs:List V) (v:Value) (us:List Value) (Q:VK),Inv X pins σ H s→RelV x v→Vals xs us→r x xs H Q →
  wpAny (model X.prog X.w) X.A (call (.builtin id) (v::us)) (EP X pins σ Q) X.xe s
section
variable {X:Cx} {a b:Expr} {ta tb:TE} {pos:Pos}
theorem IxR.or {r r':R2} (h:IxR X r) (h':IxR X r'):IxR X (fun x y H Q=>r x y H Q∨r' x y H Q):=by
 intro value slice pins s σ H x y v u Q I rx ry q hs
 rcases q with q | q
 ·exact h value slice pins s σ H x y v u Q I rx ry q hs
 ·exact h' value slice pins s σ H x y v u Q I rx ry q hs
theorem MtR.or {id:String} {r r':V→List V→Hp→VK→Prop} (h:MtR X id r) (h':MtR X id r'):MtR X id (fun x xs H Q=>r x xs H Q∨r' x xs H Q):=by
 intro pins s σ H x xs v us Q I rx rs q
 rcases q with q | q
 ·exact h pins s σ H x xs v us Q I rx rs q
 ·exact h' pins s σ H x xs v us Q I rx rs q
theorem pe_ix {r:R2} (hr:IxR X r) (ha:PE X a ta) (hb:PE X b tb) (hs:PlainIx b):PE X (.Subscript a b pos) (tOp r ta tb):=by
 intro pins s σ H Q I h
 exact Subscript_ (binT ha hb I h fun v u s2 x y H2 I2 rx ry q=>hr a b pins s2 σ H2 x y v u Q I2 rx ry q (hs _ _))
def rIxL (K:PySem.W.Frag):R2:=fun x y H Q=>∃ p xs i v,x=.ref p∧y=.int i∧SqL K H p xs∧atI xs i=some v∧Q v H
def rIxT (K:PySem.W.Frag):R2:=fun x y H Q=>∃ p xs i v,x=.ref p∧y=.int i∧SqT K H p xs∧atI xs i=some v∧Q v H
theorem ix_list:IxR X (rIxL X.K):=by
 intro value slice pins s σ H x y v u Q I rx ry h hs
 obtain ⟨p,xs,i,z,rfl,rfl,hq,he,q⟩:=h
 cases rx
 obtain ⟨t,rfl⟩:=ry
 obtain ⟨its,r,pl,hz⟩:=I.list hq
 obtain ⟨j,h1,h2,h3,h4,h5⟩:=atI_get he
 obtain ⟨w,ew,rw'⟩:=r.get h2
 have hl:=r.length
 have hn:=line63
 have fin:EP X pins σ Q w s:=⟨z,H,I,rw',q⟩
 by_cases h0:0≤i
 ·have hj:i.toNat=j:=by
   rw [seqIndex_of h0 h5] at h1
   exact Option.some.inj h1
  exact item_listR pl.isList h0 (by lia) (by rw [hj]; simpa using ew) fin hs
 ·have hj:(i+(its.toArray.size:Int)).toNat=j:=by
   rw [seqIndex_neg (by lia) h4] at h1
   rw [List.size_toArray,← hl]
   exact Option.some.inj h1
  exact subscriptTail_builtinR (x:=w) pl.isList.typeIs slot_list_getitem.lookup
   (wpAny_getItem_list_neg (Q:=fun r s'=>r=w∧EP X pins σ Q r s') pl.isList (by lia) (by rw [List.size_toArray] <;> lia) (by lia) (by rw [hj]; simpa using ew) ⟨rfl,fin⟩) hs
theorem ix_tup:IxR X (rIxT X.K):=by
 intro value slice pins s σ H x y v u Q I rx ry h hs
 obtain ⟨p,xs,i,z,rfl,rfl,hq,he,q⟩:=h
 cases rx
 obtain ⟨t,rfl⟩:=ry
 obtain ⟨its,r,pl,hz⟩:=I.tuple hq
 obtain ⟨j,h1,h2,h3,h4,h5⟩:=atI_get he
 obtain ⟨w,ew,rw'⟩:=r.get h2
 have hl:=r.length
 have hn:=line63
 have fin:EP X pins σ Q w s:=⟨z,H,I,rw',q⟩
 exact subscriptTail_builtinR (x:=w) pl.typeIs slot_tuple_getitem.lookup
  (getItem_tuple (j:=j) (Q:=fun r s'=>r=w∧EP X pins σ Q r s') pl (by lia) (by lia) (by rw [List.size_toArray,← hl]; exact h1) (by simpa using ew) ⟨rfl,fin⟩) hs
theorem mapSeq_set (its:List Value) (n j:Nat) (u:Value):Obj.mapSeq (·.setIfInBounds j u) { cls:=.type "list",data:=.seq its.toArray n }={ cls:=.type "list",data:=.seq (its.set j u).toArray n }:=by
 simp [Obj.mapSeq]
theorem Inv.lst {pins:List (Addr×Obj)} {σ:St} {H:Hp} {s:Shared} {p:Addr} {xs:List V} (I:Inv X pins σ H s) (h:H p=some (.lst xs)) :
  ∃ (its:List Value) (n:Nat),Vals xs its∧s.heap.get? p=some { cls:=.type "list",data:=.seq its.toArray n }∧xs.length≤sizeLine:=by
 obtain ⟨z,its,n,r,e⟩:=I.hok p _ h
 exact ⟨its,n,r,e,z⟩
theorem Inv.lstUpd {pins:List (Addr×Obj)} {σ:St} {H:Hp} {s:Shared} {p:Addr} {xs ys:List V} {its its':List Value} {n n':Nat} {f:Obj→Obj} (I:Inv X pins σ H s) (h:H p=some (.lst xs))
  (ho:s.heap.get? p=some { cls:=.type "list",data:=.seq its.toArray n }) (hf:f { cls:=.type "list",data:=.seq its.toArray n }={ cls:=.type "list",data:=.seq its'.toArray n' }) (r:Vals ys its') (hz:ys.length≤sizeLine) (t:Nat) :
  Inv X pins σ (upd H p (.lst ys)) { s with heap:=s.heap.update p f,toks:=t }:=by
 have e:(s.heap.update p f).get? p=some { cls:=.type "list",data:=.seq its'.toArray n' }:=by
  rw [Heap.get?_update_self f ho (by rw [hf] <;> rfl),hf]
 refine I.write (x:=p) (e:=p) (by rw [h]; trivial) (.inl rfl) (fun b u hb q=>(Heap.get?_update_other _ _ (Ne.symm hb)).trans q) ⟨_,e⟩ ?_
 exact ⟨hz,its',n',r,e⟩
def rSetL:V→V→V→Hp→(Hp→Prop)→Prop:=fun o i v H Q=>∃ p xs k j,o=.ref p∧i=.int k∧H p=some (.lst xs)∧ixN xs.length k=some j∧Q (upd H p (.lst (xs.set j v)))
theorem set_list:PSet X rSetL:=by
 intro pins s σ H o i v ov iv u Q I ro ri rv h
 obtain ⟨p,xs,k,j,rfl,rfl,hp,hj,q⟩:=h
 cases ro
 obtain ⟨t,rfl⟩:=ri
 obtain ⟨its,n,r,ho,hz⟩:=I.lst hp
 obtain ⟨h1,h2,h3,h4⟩:=ixN_seq hj
 have hl:=r.length
 have hn:=line63
 have I':Inv X pins σ (upd H p (.lst (xs.set j v))) { s with heap:=s.heap.update p (Obj.mapSeq (·.setIfInBounds j u)) } :=
  I.lstUpd hp ho (mapSeq_set its n j u) (r.set rv j) (by rw [List.length_set]; exact hz) s.toks
 by_cases h0:0≤k
 ·have hk:k.toNat=j:=by
   rw [seqIndex_of h0 h4] at h1
   exact Option.some.inj h1
  exact PySem.W.ki_setAt ho h0 (by lia) (by rw [List.size_toArray,← hl]; exact h4) (by rw [hk]; exact ⟨_,I',q⟩)
 ·have hk:(k+(its.toArray.size:Int)).toNat=j:=by
   rw [seqIndex_neg (by lia) h3] at h1
   rw [List.size_toArray,← hl]
   exact Option.some.inj h1
  exact PySem.W.ki_setBack ho (by lia) (by rw [List.size_toArray,← hl]; exact h3) (by lia) (by rw [hk]; exact ⟨_,I',q⟩)
theorem slice_bounds (lo hi:Option Int) (n:Nat):(sliceBounds lo hi none n).1=((HT.sIx n 0 lo:Nat):Int)∧(sliceBounds lo hi none n).2.1=((HT.sIx n n hi:Nat):Int)∧(sliceBounds lo hi none n).2.2=1:=by
 refine ⟨?_,?_,rfl⟩
 ·cases lo with
  | none=>simp [sliceBounds,HT.sIx]
  | some i =>
   simp only [sliceBounds,HT.sIx,Option.getD_none,show (1:Int)>0 by decide,if_true]
   by_cases h:i<0
   ·simp only [h,if_true] <;> lia
   ·simp only [h,if_false] <;> lia
 ·cases hi with
  | none=>simp [sliceBounds,HT.sIx]
  | some i =>
   simp only [sliceBounds,HT.sIx,Option.getD_none,show (1:Int)>0 by decide,if_true]
   by_cases h:i<0
   ·simp only [h,if_true] <;> lia
   ·simp only [h,if_false] <;> lia
theorem slicePick_cut (its:List Value) (lo hi:Option Int):slicePick its.toArray lo hi none=((its.drop (HT.sIx its.length 0 lo)).take (HT.sIx its.length its.length hi - HT.sIx its.length 0 lo)).toArray:=by
 obtain ⟨h1,h2,h3⟩:=slice_bounds lo hi its.toArray.size
 unfold slicePick
 rw [h1,h2,h3]
 simp only [sliceRange_one,pick_run,List.size_toArray] <;> rfl
def rSlL (K:PySem.W.Frag):V→Option Int→Option Int→Hp→VK→Prop:=fun x lo hi H Q=>∃ a xs,x=.ref a∧SqL K H a xs∧∀ p,H p=none→Q (.ref p) (upd H p (.lst (cutV xs lo hi)))
theorem sl_list:SlR X (rSlL X.K):=by
 intro pins s σ H x v vl vu lo hi sl Q I rx hs pl pu h
 obtain ⟨a,xs,rfl,hx,q⟩:=h
 cases rx
 obtain ⟨its,r,ht,hz⟩:=I.list hx
 have hlen:=r.length
 refine ⟨"list",_,slot_list_getitem.lookup,ht.isList.typeIs,?_⟩
 refine wpAny_getItem_list_slice ht.isList hs pl pu .none (by simp) ?_ (by rw [List.size_toArray] <;> lia)
 rw [slicePick_cut,← hlen]
 refine ⟨.ref s.heap.objs.size,_,I.laid (t':=s.toks) (o:=.lst (cutV xs lo hi)) (fun b ob q=>Heap.get?_push_of_some _ q) (Nat.le_refl _) ?_,rfl,q _ (I.hok.fresh (Nat.le_refl _))⟩
 exact ⟨Nat.le_trans (cutV_length xs lo hi) hz,_,0,(r.drop (HT.sIx xs.length 0 lo)).take (HT.sIx xs.length xs.length hi - HT.sIx xs.length 0 lo),Heap.get?_push_size _ rfl⟩
def flatV:V→Bool
 | .non=>true
 | .bl _=>true
 | .int _=>true
 | .str _=>true
 | _=>false
def eqV:V→V→Bool
 | .non,.non=>true
 | .bl a,.bl b=>a == b
 | .bl a,.int b=>(if a then 1 else 0) == b
 | .int a,.bl b=>a == (if b then 1 else 0)
 | .int a,.int b=>a == b
 | .str a,.str b=>a == b
 | _,_=>false
theorem eqAt_V {A:Around} {s:Shared} {y x:V} {u v:Value} (ry:RelV y u) (rx:RelV x v) (fy:flatV y=true) (fx:flatV x=true):SeqAt.EqAt A s u v (eqV y x):=by
 cases y with
 | non =>
  cases ry
  cases x with
  | non=>cases rx; exact SeqAt.EqAt.same _
  | bl b=>cases rx; exact SeqAt.EqAt.none_bool b
  | int b=>obtain ⟨t,rfl⟩:=rx; exact SeqAt.EqAt.none_int b t
  | str b=>obtain ⟨t,rfl⟩:=rx; exact SeqAt.EqAt.none_str b t
  | _=>exact absurd (show false=true from fx) Bool.false_ne_true
 | bl a =>
  cases ry
  cases x with
  | non=>cases rx; exact SeqAt.EqAt.bool_none a
  | bl b=>cases rx; exact SeqAt.EqAt.bool_bool a b
  | int b=>obtain ⟨t,rfl⟩:=rx; exact SeqAt.EqAt.bool_int a b t
  | str b=>obtain ⟨t,rfl⟩:=rx; exact SeqAt.EqAt.bool_str a b t
  | _=>exact absurd (show false=true from fx) Bool.false_ne_true
 | int a =>
  obtain ⟨t',rfl⟩:=ry
  cases x with
  | non=>cases rx; exact SeqAt.EqAt.int_none a t'
  | bl b=>cases rx; exact SeqAt.EqAt.int_bool a t' b
  | int b=>obtain ⟨t,rfl⟩:=rx; exact SeqAt.EqAt.int_int a t' b t
  | str b=>obtain ⟨t,rfl⟩:=rx; exact SeqAt.EqAt.int_str a t' b t
  | _=>exact absurd (show false=true from fx) Bool.false_ne_true
 | str a =>
  obtain ⟨t',rfl⟩:=ry
  cases x with
  | non=>cases rx; exact SeqAt.EqAt.str_none a t'
  | bl b=>cases rx; exact SeqAt.EqAt.str_bool a t' b
  | int b=>obtain ⟨t,rfl⟩:=rx; exact SeqAt.EqAt.str_int a t' b t
  | str b=>obtain ⟨t,rfl⟩:=rx; exact SeqAt.EqAt.str_str a t' b t
  | _=>exact absurd (show false=true from fx) Bool.false_ne_true
 | _=>exact absurd (show false=true from fy) Bool.false_ne_true
def eqU (x:V) (u:Value):Bool:=match u with
 | .none=>eqV .non x
 | .bool b=>eqV (.bl b) x
 | .int i _=>eqV (.int i) x
 | .str z _=>eqV (.str z) x
 | _=>false
theorem eqU_of {x y:V} {u:Value} (r:RelV y u) (f:flatV y=true):eqU x u=eqV y x:=by
 cases y with
 | non=>cases r; rfl
 | bl b=>cases r; rfl
 | int i=>obtain ⟨t,rfl⟩:=r; rfl
 | str z=>obtain ⟨t,rfl⟩:=r; rfl
 | _=>exact absurd (show false=true from f) Bool.false_ne_true
theorem any_eqU {x:V}:∀ {xs:List V} {us:List Value},Vals xs us→xs.all flatV=true→us.any (eqU x)=xs.any fun y=>eqV y x
 | _,_,.nil,_=>rfl
 | y::xs,u::us,.cons r t,f=>by
  rw [List.all_cons,Bool.and_eq_true] at f
  rw [List.any_cons,List.any_cons,eqU_of r f.1,any_eqU t f.2]
theorem mem_eqAt {A:Around} {s:Shared} {x:V} {v:Value} (rx:RelV x v) (fx:flatV x=true):∀ {xs:List V} {us:List Value},Vals xs us→xs.all flatV=true→∀ u∈us,SeqAt.EqAt A s u v (eqU x u)
 | _,_,.nil,_=>fun u hu=>by cases hu
 | y::xs,u::us,.cons r t,f=>fun u' hu=>by
  rw [List.all_cons,Bool.and_eq_true] at f
  rcases List.mem_cons.mp hu with rfl | hu
  ·rw [eqU_of r f.1]; exact eqAt_V r rx f.1 fx
  ·exact mem_eqAt rx fx t f.2 u' hu
def inV (x:V) (xs:List V):Bool:=xs.any fun y=>eqV y x
def rIn (K:PySem.W.Frag) (neg:Bool):R2:=fun x y H Q=>∃ p xs,y=.ref p∧(SqL K H p xs∨SqT K H p xs)∧flatV x=true∧xs.all flatV=true∧Q (.bl (if neg then !inV x xs else inV x xs)) H
theorem op_in_seq:OpR X (compareOp .In) (rIn X.K false):=by
 intro pins s σ H x y v u Q I rx ry h
 obtain ⟨p,xs,rfl,hq,fx,fs,q⟩:=h
 cases ry
 rcases hq with hq | hq
 ·obtain ⟨its,r,pl,hz⟩:=I.list hq
  refine SeqAt.in_listAt (eqU x) pl.isList (fun w hw=>mem_eqAt rx fx r fs w (by simpa using hw)) ⟨.bl _,H,I,rfl,?_⟩
  rw [show its.toArray.any (eqU x)=its.any (eqU x) by simp,any_eqU r fs]
  exact q
 ·obtain ⟨its,r,pl,hz⟩:=I.tuple hq
  refine SeqAt.in_tupleAt (eqU x) pl (fun w hw=>mem_eqAt rx fx r fs w (by simpa using hw)) ⟨.bl _,H,I,rfl,?_⟩
  rw [show its.toArray.any (eqU x)=its.any (eqU x) by simp,any_eqU r fs]
  exact q
theorem op_notIn_seq:OpR X (compareOp .NotIn) (rIn X.K true):=by
 intro pins s σ H x y v u Q I rx ry h
 obtain ⟨p,xs,rfl,hq,fx,fs,q⟩:=h
 cases ry
 rcases hq with hq | hq
 ·obtain ⟨its,r,pl,hz⟩:=I.list hq
  refine SeqAt.notIn_listAt (eqU x) pl.isList (fun w hw=>mem_eqAt rx fx r fs w (by simpa using hw)) ⟨.bl _,H,I,rfl,?_⟩
  rw [show its.toArray.any (eqU x)=its.any (eqU x) by simp,any_eqU r fs]
  exact q
 ·obtain ⟨its,r,pl,hz⟩:=I.tuple hq
  refine SeqAt.notIn_tupleAt (eqU x) pl (fun w hw=>mem_eqAt rx fx r fs w (by simpa using hw)) ⟨.bl _,H,I,rfl,?_⟩
  rw [show its.toArray.any (eqU x)=its.any (eqU x) by simp,any_eqU r fs]
  exact q
theorem call_len_seq:CallR X (.builtin "len") (fun xs H Q=>∃ p ys,xs=[.ref p]∧(SqL X.K H p ys∨SqT X.K H p ys)∧Q (.int ys.length) H):=by
 intro pins s σ H xs us Q I r h
 obtain ⟨p,ys,rfl,hq,q⟩:=h
 obtain ⟨u,rfl,rx⟩:=vals1 r
 cases rx
 have hn:=line63
 rcases hq with hq | hq
 ·obtain ⟨its,r',pl,hz⟩:=I.list hq
  have hlen:=r'.length
  exact Calls.call_len_list pl.isList (by simp only [List.size_toArray] <;> lia) ⟨.int ys.length,H,I.tok _,⟨s.toks+1,by rw [List.size_toArray,hlen]⟩,q⟩
 ·obtain ⟨its,r',pl,hz⟩:=I.tuple hq
  have hlen:=r'.length
  exact len_tuple pl (by simp only [List.size_toArray] <;> lia) ⟨.int ys.length,H,I.tok _,⟨s.toks+1,by rw [List.size_toArray,hlen]⟩,q⟩
theorem CallR.or {f:Value} {r r':List V→Hp→VK→Prop} (h:CallR X f r) (h':CallR X f r'):CallR X f (fun xs H Q=>r xs H Q∨r' xs H Q):=by
 intro pins s σ H xs us Q I rs q
 rcases q with q | q
 ·exact h pins s σ H xs us Q I rs q
 ·exact h' pins s σ H xs us Q I rs q
theorem call_list_of:CallR X (.type "list") (fun xs H Q=>∃ p ys,xs=[.ref p]∧(SqL X.K H p ys∨SqT X.K H p ys)∧∀ l,H l=none→Q (.ref l) (upd H l (.lst ys))):=by
 intro pins s σ H xs us Q I r h
 obtain ⟨p,ys,rfl,hq,q⟩:=h
 obtain ⟨u,rfl,rx⟩:=vals1 r
 cases rx
 have fin:∀ (its:List Value),Vals ys its→ys.length≤sizeLine→∀ (h':Heap) (c':Nat),(∀ b o',s.heap.get? b=some o'→h'.get? b=some o') →
   h'.get? s.heap.objs.size=some { cls:=.type "list",dict:=none,data:=.seq its.toArray c',slots:=#[] }→EP X pins σ Q (.ref s.heap.objs.size) { s with heap:=h' }:=fun its r' hz h' c' kp e =>
  ⟨.ref s.heap.objs.size,_,I.laid (t':=s.toks) kp (Nat.le_refl _) (show ObjOk X.prog X.w _ h' _ (.lst ys) from ⟨hz,its,c',r',e⟩),rfl,q _ (I.hok.fresh (Nat.le_refl _))⟩
 rcases hq with hq | hq
 ·obtain ⟨its,r',pl,hz⟩:=I.list hq
  have hlen:=r'.length
  obtain ⟨o,ho,hc,n,hd⟩:=pl.isList
  exact call_list_seq p (.inl rfl) ho hc hd (fun h' c' kp e=>fin its r' hz h' c' kp e) (by simp only [List.size_toArray] <;> lia)
 ·obtain ⟨its,r',pl,hz⟩:=I.tuple hq
  have hlen:=r'.length
  obtain ⟨o,ho,hc,n,hd⟩:=pl
  exact call_list_seq p (.inr rfl) ho hc hd (fun h' c' kp e=>fin its r' hz h' c' kp e) (by simp only [List.size_toArray] <;> lia)
theorem call_tuple_of:CallR X (.type "tuple") (fun xs H Q=>∃ p ys,xs=[.ref p]∧((SqL X.K H p ys∧∀ l,H l=none→Q (.ref l) (upd H l (.tup ys)))∨(SqT X.K H p ys∧Q (.ref p) H))):=by
 intro pins s σ H xs us Q I r h
 obtain ⟨p,ys,rfl,h⟩:=h
 obtain ⟨u,rfl,rx⟩:=vals1 r
 cases rx
 rcases h with ⟨hq,q⟩ | ⟨hq,q⟩
 ·obtain ⟨its,r',pl,hz⟩:=I.list hq
  have hlen:=r'.length
  refine call_tuple_list pl.isList (fun h' kp=>?_) (by simp only [List.size_toArray] <;> lia)
  have I1:Inv X pins σ H { s with heap:=h' }:=I.kept (t':=s.toks) kp
  have I2:Inv X pins σ (upd H h'.objs.size (.tup ys)) { s with heap:=h'.push { cls:=.type "tuple",data:=.seq its.toArray } } :=
   I1.laid (t':=s.toks) (fun b o e=>Heap.get?_push_of_some _ e) (Nat.le_refl _) (show ObjOk X.prog X.w _ _ _ (.tup ys) from ⟨hz,its,r',IsTup.new _ _⟩)
  exact ⟨.ref h'.objs.size,_,I2,rfl,q _ (I1.hok.fresh (Nat.le_refl _))⟩
 ·obtain ⟨its,r',pl,hz⟩:=I.tuple hq
  exact call_tuple_same pl ⟨.ref p,H,I,rfl,q⟩
def tyV (K:PySem.W.Frag) (T:String) (x:V) (H:Hp):Prop:=match x with
 | .str _=>T="str"
 | .int _=>T="int"
 | .ref p=>(T="list"∧∃ xs,SqL K H p xs)∨(T="tuple"∧∃ o,K.lookup p=some o∧o.cls=.type "tuple"∧o.dict=none) ∨
   (T="dict"∧((∃ kvs,H p=some (.dK kvs))∨∃ kvs,H p=some (.dT kvs)))∨(T="set"∧∃ S n,H p=some (.set S n))
 | _=>False
theorem tyV_is {pins:List (Addr×Obj)} {σ:St} {H:Hp} {s:Shared} {T:String} {x:V} {v:Value} (I:Inv X pins σ H s) (r:RelV x v) (ty:tyV X.K T x H) :
  s.TypeIs v T∧∀ a,v=.ref a→∃ ob,s.heap.get? a=some ob∧ob.dict=none:=by
 cases x with
 | str z =>
  obtain ⟨t,rfl⟩:=r
  cases (show T="str" from ty)
  exact ⟨typeIs_str s z t,fun _ e=>nomatch e⟩
 | int i =>
  obtain ⟨t,rfl⟩:=r
  cases (show T="int" from ty)
  exact ⟨typeIs_int s i t,fun _ e=>nomatch e⟩
 | ref p =>
  cases r
  rcases ty with ⟨rfl,xs,hq⟩ | ⟨rfl,o,hk,hc,hd⟩ | ⟨rfl,hk⟩ | ⟨rfl,S,n,hk⟩
  ·obtain ⟨its,_,pl,_⟩:=I.list hq
   refine ⟨pl.isList.typeIs,fun a e=>?_⟩
   cases e
   obtain ⟨o,n,e,c,hd,_⟩:=pl
   exact ⟨o,e,hd⟩
  ·refine ⟨⟨o,I.kIn p o hk,hc⟩,fun a e=>?_⟩
   cases e
   exact ⟨o,I.kIn _ o hk,hd⟩
  ·have z:∃ o,s.heap.get? p=some o∧o.ExactDict:=by
    rcases hk with ⟨kvs,hk⟩ | ⟨kvs,hk⟩
    ·obtain ⟨_,_,_,_,o,_,_,e,ex,_⟩:=I.hok p _ hk
     exact ⟨o,e,ex⟩
    ·obtain ⟨_,_,_,_,o,_,_,e,ex,_⟩:=I.hok p _ hk
     exact ⟨o,e,ex⟩
   obtain ⟨o,e,ex⟩:=z
   refine ⟨⟨o,e,ex.1⟩,fun a e2=>?_⟩
   cases e2
   exact ⟨o,e,ex.2.1⟩
  ·obtain ⟨o,_,_,_,e,ex,_⟩:=I.hok p _ hk
   refine ⟨⟨o,e,ex.1⟩,fun a e2=>?_⟩
   cases e2
   exact ⟨o,e,ex.2.1⟩
 | _=>exact False.elim ty
def tBM0 (K:PySem.W.Frag) (T:String) (r:V→List V→Hp→VK→Prop) (to:TE):TE:=fun σ H Q=>to σ H fun x H1=>tyV K T x H1∧r x [] H1 Q
def tBM (K:PySem.W.Frag) (T:String) (r:V→List V→Hp→VK→Prop) (to:TE) (t:TA):TE:=fun σ H Q=>to σ H fun x H1=>tyV K T x H1∧t σ H1 fun xs H2=>r x xs H2 Q
variable {o e:Expr} {es:List Expr} {to:TE} {t:TA} {name:Str} {apos cpos:Pos} {T id:String} {r:V→List V→Hp→VK→Prop}
theorem pe_bm0 (pa:PlainAttrs T) (slot:Slot T name id) (hty:typeOf (.builtin id)=pure (.type "method_descriptor")) (hm:MtR X id r) (ho:PE X o to)
  (hbase:attributeBase o name X.env (eval o X.env)=eval o X.env:=by rfl) (hline:(apos.endLine == cpos.line)=true:=by rfl):PE X (.Call (.Attribute o name apos) [] [] cpos) (tBM0 X.K T r to):=by
 intro pins s σ H Q I h
 refine wpAny_Call_method0_late hbase hline (thn (ho pins s σ H _ I h) fun v s1 ⟨x,H1,I1,r1,ty,q1⟩=>?_)
 obtain ⟨h1,h2⟩:=tyV_is I1 r1 ty
 exact ⟨T,id,pa,slot,hty,h1,h2,Calls.callWith_builtin rfl (PySem.evalArgs_none (hm pins s1 σ H1 x [] v [] Q I1 r1 .nil q1))⟩
theorem pe_bm (pa:PlainAttrs T) (slot:Slot T name id) (hty:typeOf (.builtin id)=pure (.type "method_descriptor")) (hm:MtR X id r) (ho:PE X o to) (ha:PA X (e::es) t)
  (hbase:attributeBase o name X.env (eval o X.env)=eval o X.env:=by rfl)
  (hfew:((backTo cpos (starEach (e::es) X.env)).all (fun x=>!x.1) && (backToKw cpos (keywordEach [] X.env)).all (fun x=>x.1.isSome)
   && decide ((e::es).length+([]:List Keyword).length+(if ([]:List Keyword).isEmpty then 0 else 1)<30))=true:=by rfl)
  (hline:(apos.endLine == cpos.line)=true:=by rfl) (hs:starEach (e::es) X.env=(false,eval e X.env)::starEach es X.env:=by rfl) (hplain:(backTo cpos (starEach es X.env)).any (·.1)=false:=by rfl) :
  PE X (.Call (.Attribute o name apos) (e::es) [] cpos) (tBM X.K T r to t):=by
 intro pins s σ H Q I h
 refine wpAny_Call_method_late hbase hfew hline rfl (thn (ho pins s σ H _ I h) fun v s1 ⟨x,H1,I1,r1,ty,q1⟩=>?_)
 obtain ⟨h1,h2⟩:=tyV_is I1 r1 ty
 refine ⟨T,id,pa,slot,hty,h1,h2,?_⟩
 have hA:=ha cpos pins s1 σ H1 _ I1 q1
 rw [hs] at hA ⊢
 refine Calls.callWith_builtin (by show (false || (backTo cpos (starEach es X.env)).any (·.1))=false; rw [hplain] <;> rfl) (Calls.evalArgs_plain ?_)
 exact thn hA fun us s2 ⟨vs,H2,I2,r2,q2⟩=>hm pins s2 σ H2 x vs v us Q I2 r1 r2 q2
end
end L2
namespace L2
open PySem PySem.Spec PyProof.Rows
def MtM (X:Cx) (id:String) (r:V→List V→Hp→VK→Prop):Prop :=
 ∀ (pins:List (Addr×Obj)) (s:Shared) (σ:St) (H:Hp) (x:V) (xs:List V) (v:Value) (us:List Value) (Q:VK),Inv X pins σ H s→RelV x v→Vals xs us→r x xs H Q →
  wpAny (model X.prog X.w) X.A (call (.builtin id) (v::us)) (EP X pins σ Q) X.xe s
theorem Vals.one:∀ {x:V} {us:List Value},Vals [x] us→∃ u,us=[u]∧RelV x u
 | _,_,.cons r .nil=>⟨_,rfl,r⟩
theorem Vals.two:∀ {x y:V} {us:List Value},Vals [x,y] us→∃ u v,us=[u,v]∧RelV x u∧RelV y v
 | _,_,_,.cons r (.cons q .nil)=>⟨_,_,rfl,r,q⟩
theorem Vals.zero:∀ {us:List Value},Vals [] us→us=[]
 | _,.nil=>rfl
theorem Vals.reverse {xs:List V} {us:List Value} (h:Vals xs us):Vals xs.reverse us.reverse:=by
 induction h with
 | nil=>exact .nil
 | cons r t ih=>rw [List.reverse_cons,List.reverse_cons]; exact Vals.append ih (.cons r .nil)
theorem Vals.rep {xs:List V} {us:List Value} (h:Vals xs us):∀ k:Nat,Vals (List.replicate k xs).flatten (List.replicate k us).flatten
 | 0=>.nil
 | k+1=>by
  rw [List.replicate_succ,List.replicate_succ,List.flatten_cons,List.flatten_cons]
  exact Vals.append h (Vals.rep h k)
theorem foldl_rep (its:List Value):∀ (k:Nat) (acc:List Value),
  List.foldl (fun x1 x2=>x1++x2) acc.toArray (List.replicate k its.toArray)=(acc++(List.replicate k its).flatten).toArray
 | 0,acc=>by simp
 | k+1,acc=>by
  have e:acc.toArray++its.toArray=(acc++its).toArray:=by simp
  have e2:(acc++its)++(List.replicate k its).flatten=acc++(List.replicate (k+1) its).flatten:=by
   rw [List.replicate_succ,List.flatten_cons,List.append_assoc]
  rw [← e2,← foldl_rep its k (acc++its),← e,List.replicate_succ,List.foldl_cons]
section
variable {X:Cx} {pins:List (Addr×Obj)} {σ:St} {H:Hp} {s:Shared} {l b:Addr} {xs ys zs:List V}
theorem Inv.lset {its its':List Value} {n:Nat} {f:Array Value→Array Value} {t':Nat} (I:Inv X pins σ H s) (hH:H l=some (.lst xs))
  (e:s.heap.get? l=some { cls:=.type "list",data:=.seq its.toArray n }) (hf:f its.toArray=its'.toArray) (hv:Vals ys its') (hz:ys.length≤sizeLine) :
  Inv X pins σ (upd H l (.lst ys)) { s with heap:=s.heap.update l (Obj.mapSeq f),toks:=t' }:=by
 have q:=PySem.IsL.update e f
 rw [hf] at q
 refine I.write (x:=l) (e:=l) (by rw [hH]; exact trivial) (.inl rfl) (fun b' u hb hu=>(Heap.get?_update_other s.heap (Obj.mapSeq f) (Ne.symm hb)).trans hu) ⟨_,q⟩ ?_
 exact ⟨hz,its',_,hv,q⟩
theorem Inv.lnew {its:List Value} {t':Nat} (I:Inv X pins σ H s) (hv:Vals ys its) (hz:ys.length≤sizeLine) :
  Inv X pins σ (upd H s.heap.objs.size (.lst ys)) { s with heap:=s.heap.push { cls:=.type "list",data:=.seq its.toArray },toks:=t' } :=
 I.laid (fun _ _ q=>Heap.get?_push_of_some _ q) (Nat.le_refl _) ⟨hz,its,0,hv,Heap.get?_push_size _ rfl⟩
theorem Inv.fresh (I:Inv X pins σ H s):H s.heap.objs.size=none:=I.hok.fresh (Nat.le_refl _)
theorem Inv.lstM (I:Inv X pins σ H s) (hH:H l=some (.lst xs)):xs.length≤sizeLine∧∃ (its:List Value) (n:Nat),Vals xs its∧xs.length=its.length∧s.heap.get? l=some { cls:=.type "list",data:=.seq its.toArray n }:=by
 obtain ⟨z,its,n,r,e⟩:=I.hok l _ hH
 exact ⟨z,its,n,r,r.length,e⟩
theorem notLongL {n:Nat} (h:n≤sizeLine):Builtin.List.listTooLong n=false:=by
 unfold Builtin.List.listTooLong
 exact decide_eq_false (by lia)
end
section
variable {X:Cx}
def rAppend:V→List V→Hp→VK→Prop:=fun x vs H Q=>∃ l xs y,x=.ref l∧vs=[y]∧H l=some (.lst xs)∧xs.length<sizeLine∧Q .non (upd H l (.lst (xs++[y])))
theorem mt_append:MtM X "list.append" rAppend:=by
 intro pins s σ H x vs v us Q I rx rv h
 obtain ⟨l,xs,y,rfl,rfl,hH,hz,q⟩:=h
 cases rx
 obtain ⟨u,rfl,ru⟩:=rv.one
 obtain ⟨z,its,n,r,hl,e⟩:=I.lstM hH
 refine call_meets F.slot_list_append ⟨_,e,rfl⟩ F.entry_list_append (F.args_list_append_2 _ _) (PySem.list_append l its.toArray n u (by rw [List.size_toArray]; lia)) ⟨e,?_⟩
 refine ⟨.non,_,I.lset (its':=its++[u]) hH e (by simp) (r.append (.cons ru .nil)) ?_,rfl,q⟩
 rw [List.length_append,List.length_singleton]
 lia
def rReverse:V→List V→Hp→VK→Prop:=fun x vs H Q=>∃ l xs,x=.ref l∧vs=[]∧H l=some (.lst xs)∧Q .non (upd H l (.lst xs.reverse))
theorem mt_reverse:MtM X "list.reverse" rReverse:=by
 intro pins s σ H x vs v us Q I rx rv h
 obtain ⟨l,xs,rfl,rfl,hH,q⟩:=h
 cases rx
 have hus:=rv.zero
 subst hus
 obtain ⟨z,its,n,r,hl,e⟩:=I.lstM hH
 refine call_meets F.slot_list_reverse ⟨_,e,rfl⟩ F.entry_list_reverse (F.args_list_reverse_1 _) (AutoSeq1.list_reverse_list_0 l its.toArray n (by rw [List.size_toArray]; lia)) ⟨e,?_⟩
 refine ⟨.non,_,I.lset (its':=its.reverse) hH e (by simp) r.reverse ?_,rfl,q⟩
 rw [List.length_reverse]
 lia
def rClear:V→List V→Hp→VK→Prop:=fun x vs H Q=>∃ l xs,x=.ref l∧vs=[]∧H l=some (.lst xs)∧Q .non (upd H l (.lst []))
theorem mt_clear:MtM X "list.clear" rClear:=by
 intro pins s σ H x vs v us Q I rx rv h
 obtain ⟨l,xs,rfl,rfl,hH,q⟩:=h
 cases rx
 have hus:=rv.zero
 subst hus
 obtain ⟨z,its,n,r,hl,e⟩:=I.lstM hH
 refine call_meets F.slot_list_clear ⟨_,e,rfl⟩ F.entry_list_clear (F.args_list_clear_1 _) (AutoSeq1.list_clear_list_0 l its.toArray n (by rw [List.size_toArray]; lia)) ⟨e,?_⟩
 exact ⟨.non,_,I.lset (its':=[]) (ys:=[]) hH e rfl .nil (Nat.zero_le _),rfl,q⟩
def rCat:R2:=fun x y H Q=>∃ l b xs zs,x=.ref l∧y=.ref b∧H l=some (.lst xs)∧H b=some (.lst zs)∧xs.length+zs.length≤sizeLine∧∀ p,H p=none→Q (.ref p) (upd H p (.lst (xs++zs)))
theorem op_cat:OpR X (binaryOp .Add) rCat:=by
 intro pins s σ H x y v u Q I rx ry h
 obtain ⟨l,b,xs,zs,rfl,rfl,hH,hB,hz,q⟩:=h
 cases rx
 cases ry
 obtain ⟨z,its,n,r,hl,e⟩:=I.lstM hH
 obtain ⟨z2,its2,n2,r2,hl2,e2⟩:=I.lstM hB
 refine PySem.P.add_list e e2 ?_ (by rw [List.size_toArray,List.size_toArray]; lia)
 have ea:its.toArray++its2.toArray=(its++its2).toArray:=by simp
 rw [ea]
 exact ⟨.ref _,_,I.lnew (t':=s.toks) (r.append r2) (by rw [List.length_append]; lia),rfl,q _ I.fresh⟩
def rRep:R2:=fun x y H Q=>∃ l k xs,x=.ref l∧y=.int k∧H l=some (.lst xs)∧-(2 ^ 63)≤k∧k<2 ^ 63∧xs.length * k.toNat≤sizeLine ∧
 ∀ p,H p=none→Q (.ref p) (upd H p (.lst (List.replicate k.toNat xs).flatten))
theorem len_rep {α:Type} (xs:List α) (k:Nat):(List.replicate k xs).flatten.length=k * xs.length:=by
 induction k with
 | zero=>simp
 | succ k ih=>rw [List.replicate_succ,List.flatten_cons,List.length_append,ih,Nat.succ_mul,Nat.add_comm]
theorem op_rep:OpR X (binaryOp .Mult) rRep:=by
 intro pins s σ H x y v u Q I rx ry h
 obtain ⟨l,k,xs,rfl,rfl,hH,h1,h2,hz,q⟩:=h
 cases rx
 obtain ⟨t,rfl⟩:=ry
 obtain ⟨z,its,n,r,hl,e⟩:=I.lstM hH
 have hlen:its.toArray.size * k.toNat≤sizeLine:=by rw [List.size_toArray,← hl]; exact hz
 have hcap:¬ its.toArray.size * k.toNat>(2 ^ 63 - 1) / 8:=by
  have:(sizeLine:Nat)≤(2 ^ 63 - 1) / 8:=by decide
  lia
 have hfit:¬ (!Builtin.List.listFitsIndex k)=true:=by
  rw [fitsIndex_both h1 h2]
  exact Bool.false_ne_true
 have hlong:¬ Builtin.List.listTooLong (its.toArray.size * k.toNat)=true:=by
  rw [notLongL hlen]
  exact Bool.false_ne_true
 have hnew:List.foldl (fun x1 x2=>x1++x2) #[] (List.replicate (if its.toArray.isEmpty=true then 0 else k.toNat) its.toArray)=(List.replicate k.toNat its).flatten.toArray:=by
  have f0:∀ m:Nat,List.foldl (fun x1 x2=>x1++x2) #[] (List.replicate m its.toArray)=(List.replicate m its).flatten.toArray:=fun m=>by
   have:=foldl_rep its m []
   rw [List.nil_append] at this
   exact this
  rw [f0]
  cases its with
  | nil=>simp
  | cons a r'=>rw [if_neg (by simp)]
 refine wpAny_binaryOp_repeat_ref (T:="list") (U:="int") (by decide) ⟨_,e,rfl⟩ (fun s'=>typeIs_int s' k t) noFill_list_mul F.fills_int_mul F.slot_int_rmul repeat_list F.slot_int_index.lookup
  (call_meets F.slot_int_rmul (typeIs_int s k t) F.entry_int_rmul (F.args_int_rmul_2 _ _) (int___rmul___int_list k t l its.toArray n)
   ⟨e,rfl,⟨_,e,rfl⟩,call_meets F.slot_list_mul ⟨_,e,rfl⟩ F.entry_list_mul (F.args_list_mul_2 _ _) (AutoListH.list___mul___list_int_3 l its.toArray n k t hfit hcap hlong) ⟨e,?_⟩⟩)
 rw [hnew]
 exact ⟨.ref _,_,I.lnew (t':=s.toks) (r.rep k.toNat) (by rw [len_rep,Nat.mul_comm]; exact hz),rfl,q _ I.fresh⟩
end
section
variable {prog:Program} {w:World} {A:Around} {E:Value→Shared→Prop} {s:Shared}
end
section
variable {X:Cx}
end
end L2
namespace Att
open PySem PySem.W PySem.Calls PyProof.Rows
theorem ints_of_wellAll {P:Params} {h:Heap}:∀ (ns:List Int) (vs:List Value),WellAll P h vs (ns.map WData.int)→IntsAre vs ns:=by
 intro ns
 induction ns with
 | nil =>
  intro vs w
  rw [List.map_nil] at w
  cases w
  exact .nil
 | cons n ns ih =>
  intro vs w
  rw [List.map_cons] at w
  cases w with
  | cons a b =>
   cases a
   exact .cons _ _ (ih _ b)
theorem script_of {l:OpenLaw} {n:Nat} (hn:l.most=some n) {P:Params} {h:Heap} {args:List WData} {vals:List Value}
  (hpre:l.row.toRowW.claim.pre args=true) (hwl:WellAll P h vals args) :
  ∃ a vs ns,vals=[Value.ref a]∧args=[WData.list (ns.map WData.int)]∧h.get? a=some { cls:=.type "list",data:=.seq vs.toArray }∧IntsAre vs ns∧ns.length≤n:=by
 have hsh:WShape.hasAll [] args [.list .int]=true:=(pre_splitW hpre).1
 have hc:l.pre.holds [] { args:=args }=true:=(pre_splitW hpre).2
 obtain ⟨d,r,rfl,h1,h2⟩:=hasAllW_cons hsh
 obtain rfl:=hasAllW_nil h2
 obtain ⟨xs,rfl,h3⟩:=hasW_list h1
 obtain ⟨ns,rfl⟩:=items_int h3
 have hlen:ns.length≤n:=by
  unfold OpenLaw.pre at hc
  have h4:(WTm.not (.lt (.lit (.int (n:Int))) (.len (.arg 0)))).holds [] { args:=[.list (ns.map .int)] }=true:=by
   have h4:=(holds_andW hc).1
   rw [hn] at h4
   exact h4
  have h5:=condW_of h4 (w_not (w_lt w_lit (w_len_list (w_arg rfl))))
  rw [List.length_map] at h5
  refine Nat.le_of_not_lt fun q=>?_
  have q':(n:Int)<((ns.length:Nat):Int):=by lia
  first
   | (rw [decide_eq_true q'] at h5; exact absurd h5 (by decide))
   | (simp at h5; lia)
 cases hwl with
 | cons w1 w2 =>
  cases w2
  cases w1 with
  | list ho hall=>exact ⟨_,_,ns,rfl,rfl,ho,ints_of_wellAll ns _ hall,hlen⟩
theorem post_true (l:OpenLaw) (args:List WData):l.row.toRowW.claim.post args (.bool true) args=true :=
 postW_of (r:=l.row.toRowW) (X:=(true == true))
  (show WShape.has [] (.bool true) .bool=true by first | rfl | decide | simp [WShape.has,WShape.arms,WShape.armsAll])
  (show (WTm.eq .res (.lit (.bool true))).value [] { args:=args,res:=some (.bool true),after:=args }=some (.bool (true == true)) from w_eq_bool (w_res rfl) w_lit) rfl
theorem attach_call {l:OpenLaw} {n:Nat} {q:Program} {loose:List Str} {XP:(Str→Option Value)→Heap→Prop} {YP:World→Heap→Prop} {d:DefRec}
  (hn:l.most=some n) (hdf:d.params.defaults=[])
  (call:∀ (w:World) (s₀ s₁:Shared) (mg mb:Str→Option Value) (fa:Addr) (o:Obj) (pm cd doc:Value) (a:Addr) (vs:List Value) (ns:List Int),
   Ground q loose [] XP w s₀ mg mb s₁.heap→YP w s₁.heap →
   s₁.heap.get? fa=some o→o.data=.func (docDef d.name d.params d.body d.scope pm cd doc)→s₁.heap.CodeRec cd d.name→mg d.name=some (.ref fa) →
   s₁.heap.get? a=some { cls:=.type "list",data:=.seq vs.toArray }→IntsAre vs ns→ns.length≤n→s₁.gens=#[] →
   codeAny (model l.prog w) callerA (.call (.ref fa) ⟨[.ref a],[]⟩) (fun r s'=>r=.ok (.ret (.bool true))∧OldK s₁.heap s'.heap∧s'.os=s₁.os∧AllBare s'.gens) s₁) :
  WalkO q loose XP YP l.row.toRowW d [] (fun f vs=>PySem.call f vs):=by
 intro w s₀ s₁ mg mb G Y fa o pm cd doc dV kV ho hd hcd hD hmg hg args vals as hpre hlay hrd hwl hlo
 obtain rfl:dV=.none:=Dflts.none hD hdf
 obtain rfl:kV=.none:=Dflts.noKw hD
 obtain ⟨a,vs,ns,rfl,rfl,hobj,hints,hlen⟩:=script_of hn hpre hwl
 refine enter_call (codeAny_mono (call w s₀ s₁ mg mb fa o pm cd doc a vs ns G Y ho (fd_plain hd) hcd hmg hobj hints hlen hg) fun r s' hq=>?_)
 obtain ⟨rfl,h2,h3,h4⟩:=hq
 exact ⟨.inl ⟨.bool true,.bool true,[],rfl,fun _=>rfl,.bool true,post_true l _,fun _=>⟨List.Pairwise.nil,fun _ hm=>(nomatch hm)⟩⟩,h2,h3,h4⟩
section
variable {prog:Program} {w:World} {A:Around} {E:Value→Shared→Prop} {s:Shared} {K:Frag}
def ledger (h:Heap) (L d:Addr):List (Addr×Obj):=(List.range h.objs.size).filterMap fun a=>if a=L∨a=d then none else (h.get? a).map fun o=>(a,o)
end
end Att
namespace L2
open PySem PySem.Spec PyProof.Rows
theorem vals_ints:∀ {vs:List Value} {ns:List Int},IntsAre vs ns→Vals (ns.map V.int) vs
 | _,_,.nil=>.nil
 | _,_,.cons n t h=>.cons ⟨t,rfl⟩ (vals_ints h)
def Only (H:Hp):Prop:=∀ b,H b=none∨∃ o xs,H b=some (.frz o (.lst xs))
theorem law_call {P:Program} {w:World} {K:PySem.W.Frag} {mg mb:Str→Option Value} {CX:CXT} {k:Nat} {fa a:Addr} {fd:FuncData} {x:Str} {sp:Sp} {s₁:Shared} {vs:List Value} {ns:List Int}
  (KX:K.In s₁.heap) (hns:s₁.heap.Ns mainGlobals mg) (hb:s₁.heap.Ns builtinsNs mb) (hbb:∀ x:Str,x≠"__name__"→mb x=bootBuiltins x) (hlim:s₁.heap.NoLimit) (hg:s₁.gens=#[])
  (ha:s₁.heap.get? a=some { cls:=.type "list",data:=.seq vs.toArray }) (hi:IntsAre vs ns) (hl:ns.length≤sizeLine) (hr:Room k callerA)
  (F:∀ base:Heap,K.In base→base.Ns mainGlobals mg→FnOk P w K mg base CX k fa fd [x] sp) (hbind:∀ (s:Shared) (u:Value),BindsTo s fd ⟨[u],[]⟩ [(x,u)])
  (hsp:∀ H:Hp,Only H→SqL K H a (ns.map V.int)→sp [.ref a] H (fun v _=>v=.bl true) fun _ _ _=>False)
  (hCX:∀ H e s',CX [] H s₁ (fun _ _ _=>False) e s'→False) :
  codeAny (model P w) callerA (.call (.ref fa) ⟨[.ref a],[]⟩) (fun r s'=>r=.ok (.ret (.bool true))∧OldK s₁.heap s'.heap∧s'.os=s₁.os∧AllBare s'.gens) s₁:=by
 have rv:=vals_ints hi
 have lenV:=hi.length
 have core:∀ H:Hp,Only H→SqL K H a (ns.map V.int)→HOk P w H s₁.heap→(∀ b,H b≠none→b=a)→(H a≠none→K.lookup a=none) →
   codeAny (model P w) callerA (.call (.ref fa) ⟨[.ref a],[]⟩) (fun r s'=>r=.ok (.ret (.bool true))∧OldK s₁.heap s'.heap∧s'.os=s₁.os∧AllBare s'.gens) s₁:=by
  intro H hO hS hok hA hK
  have base_of:∀ {b:Addr} {o:Obj},s₁.heap.get? b=some o→H b=none→(hidT s₁.heap H).get? b=some o:=fun e n=>hidT_get e n
  have noA:∀ {b:Addr} {o:Obj} {es:Array DictEntry} {ep:Nat},s₁.heap.get? b=some o→o.data=.dict es ep→H b=none:=fun {b o es ep} e d=>by
   cases q:H b with
   | none=>rfl
   | some u =>
    have e':b=a:=hA b (by rw [q]; simp)
    subst e'
    rw [ha] at e; cases e
    have d':Data.seq vs.toArray _=Data.dict es ep:=d
    cases d'
  have nsK:∀ {b:Addr} {m:Str→Option Value},s₁.heap.Ns b m→(hidT s₁.heap H).Ns b m:=fun {b m} ⟨o,es,ep,e,d,r⟩=>⟨o,es,ep,base_of e (noA e d),d,r⟩
  have hKb:K.In (hidT s₁.heap H):=fun b o e=>base_of (KX b o e) (by
   cases q:H b with
   | none=>rfl
   | some u =>
    have e':b=a:=hA b (by rw [q]; simp)
    subst e'
    rw [hK (by rw [q]; simp)] at e; cases e)
  have hM:Mod K mg (hidT s₁.heap H):=⟨hKb,nsK hns,⟨mb,nsK hb,hbb⟩,let ⟨mc,h1,h2⟩:=hlim; ⟨mc,nsK h1,h2⟩⟩
  have e0:Env0 P w K mg (hidT s₁.heap H) callerA [] s₁ H:=⟨rfl,hM,fun b o e=>of_hidT e,Nat.le_of_eq (hidT_size _ _),trivial,fun b hb=>absurd (show b∈([]:List Addr) from hb) (by simp),hok,.of_eq hg⟩
  refine codeAny_mono ((F _ hKb (nsK hns)).run callerA [] s₁ H ⟨[.ref a],[]⟩ [.ref a] [.ref a] _ _ hr e0 (hbind s₁ (.ref a)) (.cons rfl .nil) (hsp H hO hS)) fun r s' h=>?_
  cases r with
  | error e=>exact (hCX H e s' h).elim
  | ok fl =>
   cases fl with
   | next=>exact False.elim h
   | brk=>exact False.elim h
   | cont=>exact False.elim h
   | ret u =>
    obtain ⟨v,H',os,bare,un,hok',r',q⟩:=h
    have q':v=.bl true:=q
    subst q'
    obtain rfl:u=Value.bool true:=r'
    refine ⟨rfl,OldK.of_keep fun b o e=>?_,os,bare⟩
    cases q:H b with
    | none=>exact un.keep b o e q (by intro z; exact absurd (show b∈([]:List Addr) from z) (by simp)) (by simp)
    | some u =>
     rcases hO b with z | ⟨ob,xs,z⟩
     ·rw [q] at z; cases z
     ·have z2:=un.frzs b ob _ z
      obtain ⟨e1,_⟩:=hok b _ z
      obtain ⟨e2,_⟩:=hok' b _ z2
      rw [e] at e1; cases e1
      exact e2
 cases hk:K.lookup a with
 | some o =>
  have e:=KX a o hk
  rw [ha] at e
  cases e
  refine core (fun _=>none) (fun _=>.inl rfl) (.inr ⟨_,vs.toArray,_,hk,rfl,rfl,rfl,by rw [List.size_toArray,lenV]; exact hl,by simpa using rv⟩) (fun b u z=>by have z':(none:Option HO)=some u:=z; cases z') (fun b z=>absurd rfl z) fun z=>absurd rfl z
 | none =>
  refine core (fun b=>if b=a then some (.frz { cls:=.type "list",data:=.seq vs.toArray } (.lst (ns.map V.int))) else none) (fun b=>?_) (.inl (.inr ⟨{ cls:=.type "list",data:=.seq vs.toArray },if_pos rfl⟩)) (fun b u z=>?_) (fun b z=>?_) fun _=>hk
  ·by_cases hb:b=a
   ·exact .inr ⟨_,_,if_pos hb⟩
   ·exact .inl (if_neg hb)
  ·by_cases hb:b=a
   ·have z':=(if_pos hb).symm.trans z
    cases z'
    subst hb
    exact ⟨ha,by rw [List.length_map]; exact hl,vs,_,rv,ha⟩
   ·have z':=(if_neg hb).symm.trans z
    cases z'
  ·by_cases hb:b=a
   ·exact hb
   ·exact absurd (if_neg hb) z
end L2
namespace L2
open PySem PySem.Spec PyProof.Rows
abbrev KOf {K:PySem.W.Frag} {h:Heap} (_:K.In h):PySem.W.Frag:=K
theorem walk_of {l:PySem.W.OpenLaw} {n k:Nat} {q:Program} {loose:List Str} {XP:(Str→Option Value)→Heap→Prop} {YP:World→Heap→Prop} {d:DefRec} {K:Params→PySem.W.Frag} {CX:World→CXT} {sp:World→Sp} {x:Str}
  (hn:l.most=some n) (hn2:n≤sizeLine) (hdf:d.params.defaults=[]) (hr:Room k callerA)
  (hY:∀ (w:World) (h:Heap),YP w h→(K w.params).In h)
  (F:∀ (w:World) (mg:Str→Option Value) (fa:Addr) (h:Heap),(K w.params).In h→h.Ns mainGlobals mg→mg d.name=some (.ref fa) →
   ∃ fd:FuncData,(∀ (s:Shared) (u:Value),BindsTo s fd ⟨[u],[]⟩ [(x,u)]) ∧
    ∀ base:Heap,(K w.params).In base→base.Ns mainGlobals mg→FnOk l.prog w (K w.params) mg base (CX w) k fa fd [x] (sp w))
  (hsp:∀ (w:World) (H:Hp) (a:Addr) (ns:List Int),ns.length≤n→Only H→SqL (K w.params) H a (ns.map V.int)→sp w [.ref a] H (fun v _=>v=.bl true) fun _ _ _=>False)
  (hCX:∀ (w:World) (H:Hp) (s:Shared) (e:Value) (s':Shared),CX w [] H s (fun _ _ _=>False) e s'→False) :
  PySem.W.WalkO q loose XP YP l.row.toRowW d [] (fun f vs=>PySem.call f vs):=by
 refine Att.attach_call hn hdf fun w s₀ s₁ mg mb fa o pm cd doc a vs ns G Y ho hd hcd hmg hobj hints hlen hg=>?_
 have KX:=hY w _ Y
 obtain ⟨fd,hb,hF⟩:=F w mg fa _ KX G.T.g hmg
 exact law_call KX G.T.g G.T.b G.T.builtins G.T.nolimit hg hobj hints (Nat.le_trans hlen hn2) hr hF hb (fun H hO hS=>hsp w H a ns hlen hO hS) fun H e s'=>hCX w H s₁ e s'
end L2
namespace L2
open PySem PySem.Spec PyProof.Rows
def inClass (s:Stmt) (j:Nat):Stmt:=match s with
 | .ClassDef _ _ _ body _ _ _ _ _ _ _=>body.getD j (.Pass ⟨0,0,0,0⟩)
 | _=>.Pass ⟨0,0,0,0⟩
def defArgs (s:Stmt):Arguments:=match s with
 | .FunctionDef _ a _ _ _ _ _ _ _ _=>a
 | _=>{ posonlyargs:=[],args:=[],vararg:=none,kwonlyargs:=[],kw_defaults:=[],kwarg:=none,defaults:=[] }
def defBody (s:Stmt):List Stmt:=match s with
 | .FunctionDef _ _ b _ _ _ _ _ _ _=>b
 | _=>[]
def defScope (s:Stmt):Scope:=match s with
 | .FunctionDef _ _ _ _ _ _ sc _ _ _=>sc
 | _=>{ kind:=.function,names:=[],isGenerator:=false,isCoroutine:=false }
abbrev CX0:CXT:=fun _ _ _ _ _ _=>False
abbrev E0:XK:=fun _ _ _=>False
theorem pass0 {X:Cx}:Passes CX0 X E0:=fun _ _ _ _ _ _ _ h=>h.elim
structure Fun (K:PySem.W.Frag) (x qual:Str) (st:Stmt) (f:Addr) (fd:FuncData):Prop where
 ex:∃ (oc:Value) (od:Option Addr) (kV doc pm:Value) (an:Option Addr) (cdv ct:Value) (osl:Array (Option Value)),
  fd=PySem.W.fnOf x qual (defArgs st) (defBody st) (defScope st) .none kV doc pm an cdv ct∧K.lookup f=some ⟨oc,od,.func fd,osl⟩∧PySem.W.codeIn K cdv qual=true
 kp:PySem.W.keepIn K (.ref f)=true
section
variable {P:Program} {w:World} {K:PySem.W.Frag} {mg:Str→Option Value} {base:Heap}
theorem Fun.ok {x qual:Str} {st:Stmt} {f:Addr} {fd:FuncData} {N ps:List Str} {k:Nat} {sp:Sp} (F:Fun K x qual st f fd) (S:FnScope N ps (defScope st)) (len:∀ vs H Q E,sp vs H Q E→vs.length=ps.length)
  (hbody:∀ (cdv:Value) (A:Around) (outer:List Env) (s:Shared) (H:Hp) (vs:List V) (Q:VK) (E:XK),Room k (A.deeper (envOfC qual (defScope st) s.heap.objs.size f cdv))→sp vs H Q E →
   ∃ t,PSs (cxOf CX0 P w K mg base N qual (defScope st) f cdv A outer s H E).nox (defBody st) t∧t { nx:=fun _ H'=>Q .non H',rt:=Q } (start N vs) H):FnOk P w K mg base CX0 (k+1) f fd ps sp:=by
 obtain ⟨oc,od,kV,doc,pm,an,cdv,ct,osl,rfl,lk,hcd⟩:=F.ex
 refine fn_of lk hcd S len fun A outer s H vs Q E hr hsp=>?_
 obtain ⟨t,h,q⟩:=hbody cdv A outer s H vs Q E hr hsp
 exact ⟨t,h.nox,q⟩
theorem Fun.binds {x qual:Str} {st:Stmt} {f:Addr} {fd:FuncData} {ps:List Str} (F:Fun K x qual st f fd)
  (h:∀ (kV doc pm:Value) (an:Option Addr) (cdv ct:Value) (us:List Value),us.length=ps.length→bindArgs (PySem.W.fnOf x qual (defArgs st) (defBody st) (defScope st) .none kV doc pm an cdv ct) ⟨us,[]⟩=pure (ps.zip us)):Binds K fd ps []:=by
 obtain ⟨oc,od,kV,doc,pm,an,cdv,ct,osl,rfl,lk,hcd⟩:=F.ex
 exact .all (h kV doc pm an cdv ct)
theorem fun_mk {x qual:Str} {st:Stmt} {f:Addr} {oc:Value} {od an:Option Addr} {osl:Array (Option Value)} {kV doc pm cdv ct:Value} (l:K.lookup f=some ⟨oc,od,.func (PySem.W.fnOf x qual (defArgs st) (defBody st) (defScope st) .none kV doc pm an cdv ct),osl⟩)
  (c:PySem.W.codeIn K cdv qual=true) (k:PySem.W.keepIn K (.ref f)=true):Fun K x qual st f (PySem.W.fnOf x qual (defArgs st) (defBody st) (defScope st) .none kV doc pm an cdv ct):=⟨⟨oc,od,kV,doc,pm,an,cdv,ct,osl,rfl,l,c⟩,k⟩
end
theorem small1000 {n:Nat} (h:n≤1000):n<sizeLine:=Nat.lt_of_le_of_lt h (by decide)
section
variable {X:Cx}
theorem pv (i:Nat) {x:Str} {pos:Pos} (hN:X.N[i]?=some x:=by rfl) (hv:Vis X.env.scope x:=by first | exact Or.inl rfl | exact Or.inr (Or.inl rfl) | exact Or.inr (Or.inr rfl)) (hd:(x == ("__debug__":Str))=false:=by decide)
  (hcd:(x == ("__classdict__":Str))=false:=by decide):PE X (.Name x pos) (tVar i):=pe_var hN hv hd hcd
end
theorem iteF {A B:Prop} (h:B):if false=true then A else B:=by
 rw [if_neg Bool.false_ne_true]
 exact h
theorem iteT {A B:Prop} (h:A):if true=true then A else B:=by
 rw [if_pos rfl]
 exact h
theorem ite2 {c A B:Prop} [Decidable c] (h1:c→A) (h2:¬ c→B):if c then A else B:=by
 by_cases h:c
 ·rw [if_pos h]
  exact h1 h
 ·rw [if_neg h]
  exact h2 h
theorem iteNS {c A B:Prop} [Decidable c] (hc:c) (h:B):if (!decide c)=true then A else B:=by
 rw [decide_eq_true hc]
 exact iteF h
def Same (H H':Hp):Prop:=∀ b o,H b=some o→H' b=some o
theorem Same.refl (H:Hp):Same H H:=fun _ _ h=>h
theorem Same.trans {H H1 H2:Hp} (a:Same H H1) (b:Same H1 H2):Same H H2:=fun c o h=>b c o (a c o h)
theorem Same.free {H H':Hp} (e:Same H H') {l:Addr} (h:H' l=Option.none):H l=Option.none:=by
 cases q:H l with
 | none=>rfl
 | some o =>
  rw [e l o q] at h
  cases h
theorem Same.seq {K:PySem.W.Frag} {H H':Hp} {a:Addr} {xs:List V} (e:Same H H') (h:SqL K H a xs):SqL K H' a xs:=by
 rcases h with (h | ⟨o,h⟩) | h
 ·exact .inl (.inl (e _ _ h))
 ·exact .inl (.inr ⟨o,e _ _ h⟩)
 ·exact .inr h
end L2
namespace L2
open PySem PySem.Spec PyProof.Rows
def iota (n:Nat):List Int:=(List.range n).map fun k=>((k:Nat):Int)
theorem iota_length (n:Nat):(iota n).length=n:=by simp [iota]
theorem iota_succ (n:Nat):iota (n+1)=iota n++[(n:Int)]:=by simp [iota,List.range_succ]
theorem mem_iota {n:Nat} {x:Int}:x∈iota n↔0≤x∧x<n:=by
 unfold iota
 rw [List.mem_map]
 constructor
 ·rintro ⟨k,hk,rfl⟩
  rw [List.mem_range] at hk
  lia
 ·rintro ⟨h1,h2⟩
  exact ⟨x.toNat,List.mem_range.mpr (by lia),by lia⟩
theorem iota_nodup (n:Nat):(iota n).Nodup:=by
 unfold iota
 exact List.Pairwise.map _ (fun a b h z=>h (by lia)) List.nodup_range
theorem iota_sorted (n:Nat):(iota n).Pairwise (·≤·):=by
 induction n with
 | zero=>exact .nil
 | succ n ih =>
  rw [iota_succ,List.pairwise_append]
  refine ⟨ih,List.pairwise_singleton _ _,fun a ha b hb=>?_⟩
  have h1:=mem_iota.mp ha
  have h2:b=(n:Int):=by simpa using hb
  lia
section
variable {X:Cx}
theorem line20:(1048576:Nat)≤sizeLine:=by rw [sizeLine_eq]; decide
def rSorted (K:PySem.W.Frag):List V→Hp→VK→Prop:=fun xs H Q=>∃ (p:Addr) (ns:List Int),xs=[.ref p]∧SqL K H p (ns.map V.int)∧ns.length<64∧∀ (l:Addr) (ms:List Int),H l=none→ms.Perm ns→ms.Pairwise (·≤·)→Q (.ref l) (upd H l (.lst (ms.map V.int)))
theorem call_sorted:CallR X (.builtin "sorted") (rSorted X.K):=by
 intro pins s σ H xs us Q I r h
 obtain ⟨p,ns,rfl,hq,hl,q⟩:=h
 obtain ⟨u,rfl,rx⟩:=vals1 r
 cases rx
 obtain ⟨its,rv,pl,hz⟩:=I.list hq
 have hi:IntsAre its ns:=intsAre_of rv
 have hlen:=rv.length
 rw [List.length_map] at hlen hz
 refine PyProof.Rows.sorted_ints pl.isList hi (by lia) fun out ms a1 a2 a3=>?_
 obtain ⟨e,he⟩:=sortedAll_at s.heap its out
 have hfr:H (s.heap.objs.size+1)=none:=I.hok.fresh (Nat.le_succ _)
 refine ⟨.ref (s.heap.objs.size+1),_,I.laid (t':=s.toks) (o:=.lst (ms.map V.int)) (fun b u q=>sortedAll_old q) (Nat.le_succ _) ⟨?_,out.toList,e,vals_ints a1,?_⟩,rfl,q _ ms hfr a2 a3⟩
 ·rw [List.length_map,a2.length_eq]; exact hz
 ·simpa using he
def rRange1:List V→Hp→VK→Prop:=fun xs H Q=>∃ j,xs=[.int j]∧∀ r,H r=none→Q (.ref r) (upd H r (.rng 0 j))
theorem call_range1:CallR X (.type "range") rRange1:=by
 intro pins s σ H xs us Q I r h
 obtain ⟨j,rfl,q⟩:=h
 obtain ⟨u,rfl,t,rfl⟩:=vals1 r
 refine call_range_1 ⟨.ref s.heap.objs.size,_,I.laid (o:=.rng 0 j) (fun b u q=>Heap.get?_push_of_some _ q) (Nat.le_refl _) ⟨_,_,_,Heap.get?_push_size _ rfl⟩,rfl,q _ (I.hok.fresh (Nat.le_refl _))⟩
def rngV (lo:Int) (n:Nat):List V:=(List.range n).map fun k=>V.int (lo+(k:Nat))
theorem rngV_iota (n:Nat):rngV 0 n=(iota n).map V.int:=by simp [rngV,iota]
theorem vals_items:∀ {n:Nat} {its:List Value} {lo:Int},its.length=n→(∀ (j:Nat) v,its[j]?=some v→∃ t,v=.int (lo+(j:Nat) * 1) t)→Vals (rngV lo n) its
 | 0,[],_,_,_=>.nil
 | n+1,v::its,lo,hl,h=>by
  have e:rngV lo (n+1)=V.int lo::rngV (lo+1) n:=by
   unfold rngV
   rw [List.range_succ_eq_map,List.map_cons,List.map_map]
   congr 1
   ·simp
   ·refine List.map_congr_left fun k _=>?_
    show V.int (lo+((k+1:Nat):Int))=V.int (lo+1+(k:Nat))
    congr 1
    lia
  rw [e]
  obtain ⟨t,ht⟩:=h 0 v rfl
  refine .cons ⟨t,by rw [ht]; simp⟩ (vals_items (by simpa using hl) fun j w hw=>?_)
  obtain ⟨t',ht'⟩:=h (j+1) w (by simpa using hw)
  refine ⟨t',?_⟩
  rw [ht']
  congr 1
  push_cast
  lia
def rListRng:List V→Hp→VK→Prop:=fun xs H Q=>∃ r lo hi,xs=[.ref r]∧H r=some (.rng lo hi)∧-1048576≤lo∧lo≤1048576∧-1048576≤hi∧hi≤1048576∧(hi - lo).toNat≤1048576 ∧
 ∀ l,H l=none→Q (.ref l) (upd H l (.lst (rngV lo (hi - lo).toNat)))
theorem call_list_rng (hc:X.calm=true):CallR X (.type "list") rListRng:=by
 intro pins s σ H xs us Q I r h
 obtain ⟨a,lo,hi,rfl,hr,h1,h2,h3,h4,h5,q⟩:=h
 obtain ⟨u,rfl,rx⟩:=vals1 r
 cases rx
 obtain ⟨t,u,v,e⟩:∃ t u v,s.heap.get? a=some { cls:=.type "range",data:=.fields #[.int lo t,.int hi u,.int 1 v] }:=I.hok a _ hr
 have hn:Builtin.Range.rangeSize lo hi 1=((hi - lo).toNat:Int):=by rw [rangeSize_one]; split <;> lia
 refine call_list_range (n:=(hi - lo).toNat) (I.ok.hd hc) e (small_one (by lia) (by lia) (by lia) (by lia)) hn (by lia) fun h' tk acc c' kp e' items=>?_
 refine ⟨.ref s.heap.objs.size,_,I.laid (o:=.lst (rngV lo (hi - lo).toNat)) kp (Nat.le_refl _) ⟨?_,acc.toList,c',vals_items (by simpa using items.1) fun j w hw=>items.2 j w (by simpa using hw),by simpa using e'⟩,rfl,q _ (I.hok.fresh (Nat.le_refl _))⟩
 have:=line20
 simp [rngV]
 lia
def eqVs:List V→List V→Bool
 | [],[]=>true
 | x::xs,y::ys=>eqV x y && eqVs xs ys
 | _,_=>false
theorem eqVs_len:∀ {xs ys:List V},xs.length≠ys.length→eqVs xs ys=false
 | [],[],h=>absurd rfl h
 | [],_::_,_=>rfl
 | _::_,[],_=>rfl
 | x::xs,y::ys,h=>by
  unfold eqVs
  rw [eqVs_len (xs:=xs) (ys:=ys) (by simpa using h),Bool.and_false]
theorem eqVs_all:∀ {xs ys:List V},xs.length=ys.length→(List.range xs.length).all (fun j=>eqV (xs.getD j .non) (ys.getD j .non))=eqVs xs ys
 | [],[],_=>rfl
 | [],_::_,h=>by cases h
 | _::_,[],h=>by cases h
 | x::xs,y::ys,h=>by
  rw [List.length_cons,List.range_succ_eq_map,List.all_cons,List.all_map]
  unfold eqVs
  rw [← eqVs_all (xs:=xs) (ys:=ys) (by simpa using h)]
  rfl
theorem eqVs_ints:∀ {ns ms:List Int},eqVs (ns.map V.int) (ms.map V.int)=decide (ns=ms)
 | [],[]=>rfl
 | [],_::_=>by simp [eqVs]
 | _::_,[]=>by simp [eqVs]
 | n::ns,m::ms=>by
  show (n == m && eqVs (ns.map V.int) (ms.map V.int))=_
  rw [eqVs_ints]
  by_cases h1:n=m <;> by_cases h2:ns=ms <;> simp [h1,h2]
theorem flat_ints (ns:List Int):(ns.map V.int).all flatV=true:=by
 rw [List.all_map,List.all_eq_true]
 intro _ _
 rfl
def rEqL (K:PySem.W.Frag) (neg:Bool):R2:=fun x y H Q=>∃ p q xs ys,x=.ref p∧y=.ref q∧SqL K H p xs∧SqL K H q ys∧xs.all flatV=true∧ys.all flatV=true∧Q (.bl (if neg then !eqVs xs ys else eqVs xs ys)) H
theorem eqAt_items {A:Around} {s:Shared} {xs ys:List V} {us ws:List Value} (rx:Vals xs us) (ry:Vals ys ws) (fx:xs.all flatV=true) (fy:ys.all flatV=true) (j:Nat) (h1:j<us.toArray.size) (h2:j<ws.toArray.size) :
  SeqAt.EqAt A s us.toArray[j] ws.toArray[j] (eqV (xs.getD j .non) (ys.getD j .non)):=by
 have l1:=rx.length
 have l2:=ry.length
 rw [List.size_toArray] at h1 h2
 have g1:xs[j]?=some (xs.getD j .non):=by simp [List.getD,show j<xs.length by lia]
 have g2:ys[j]?=some (ys.getD j .non):=by simp [List.getD,show j<ys.length by lia]
 obtain ⟨u,e1,r1⟩:=rx.get g1
 obtain ⟨w,e2,r2⟩:=ry.get g2
 have q1:us.toArray[j]=u:=by
  rw [List.getElem?_eq_getElem h1] at e1
  simpa using e1
 have q2:ws.toArray[j]=w:=by
  rw [List.getElem?_eq_getElem h2] at e2
  simpa using e2
 rw [q1,q2]
 exact eqAt_V r1 r2 (List.all_eq_true.mp fx _ (List.mem_of_getElem? g1)) (List.all_eq_true.mp fy _ (List.mem_of_getElem? g2))
theorem op_ne_lst (hu:X.A.units<cLine):OpR X (compareOp .NotEq) (rEqL X.K true):=by
 intro pins s σ H x y v u Q I rx ry h
 obtain ⟨p,q,xs,ys,rfl,rfl,hp,hq,fx,fy,k⟩:=h
 cases rx
 cases ry
 obtain ⟨us,r1,p1,_⟩:=I.list hp
 obtain ⟨ws,r2,p2,_⟩:=I.list hq
 have l1:=r1.length
 have l2:=r2.length
 by_cases e:xs.length=ys.length
 ·refine SeqAt.RcNeAt.lists (e:=fun j=>eqV (xs.getD j .non) (ys.getD j .non)) p1.isList p2.isList (by rw [List.size_toArray,List.size_toArray]; lia) hu (fun j h1 h2=>eqAt_items r1 r2 fx fy j h1 h2) _ _ _ _ (fin_bl I k ?_)
  rw [List.size_toArray,← l1,eqVs_all e]
  rfl
 ·refine SeqAt.RcNeAt.lists_lengths p1.isList p2.isList (by rw [List.size_toArray,List.size_toArray]; simp; lia) hu _ _ _ _ (fin_bl I k ?_)
  rw [eqVs_len e]
  rfl
def rIsI (K:PySem.W.Frag):List V→Hp→VK→Prop:=fun xs H Q=>∃ x T t b,xs=[x,.ty T]∧TyOf K H x t∧PySem.W.kitOne K t (.type T)=some b∧Q (.bl b) H
theorem call_isinst:CallR X (.builtin "isinstance") (rIsI X.K):=by
 intro pins s σ H xs us Q I r h
 obtain ⟨x,T,t,b,rfl,ty,e,q⟩:=h
 obtain ⟨u,w,rfl,rx,rT⟩:=Vals.two r
 cases (show w=Value.type T from rT)
 exact isinst_ok I rx ty e fun tk=>⟨.bl b,H,I.tok tk,rfl,q⟩
end
end L2
namespace L2
open PySem PySem.Spec PyProof.Rows
section
variable {X:Cx}
def rNotB:R2:=fun x y H Q=>∃ b,y=.bl b∧((∃ i,x=.int i∧Q (.bl true) H)∨(∃ c,x=.bl c∧Q (.bl (c != b)) H))
theorem op_notB:OpR X (compareOp .IsNot) rNotB:=by
 intro pins s σ H x y v u Q I rx ry h
 obtain ⟨b,rfl,h⟩:=h
 cases (show u=Value.bool b from ry)
 rcases h with ⟨i,rfl,q⟩ | ⟨c,rfl,q⟩
 ·obtain ⟨t,rfl⟩:=rx
  exact wpAny_pure ⟨.bl true,H,I,rfl,q⟩
 ·cases (show v=Value.bool c from rx)
  exact isnot_bool ⟨.bl (c != b),H,I,rfl,q⟩
def Ite (K:PySem.W.Frag) (a:Addr):It :=
 ⟨fun i H=>∃ xs x,SqL K H a xs∧xs[i]?=some x,fun i H x H'=>∃ t y,H t=none∧x=.ref t∧H'=upd H t (.tup [.int i,y])∧∀ xs,SqL K H a xs→xs[i]?=some y,fun i H=>∃ xs,SqL K H a xs∧xs.length≤i⟩
theorem turn_enum {P:Program} {w:World} {K:PySem.W.Frag} {elts:List Expr} {k1:Nat} {tp:Pos} (a e it:Addr) (hne:e≠it) :
  Turn P w K (.Tuple elts k1 tp) (Ite K a) [e,it] e (fun i h=>(∃ old,IsEnum h e it ((i:Nat):Int) old)∧h.IsListIter it a i) where
 mem:=by simp
 obj:=fun i h st b hb=>by
  obtain ⟨⟨old,h1⟩,o,h2,_,h3⟩:=st
  rcases List.mem_cons.mp hb with rfl | hb
  ·exact ⟨_,h1,fun v z=>by cases z⟩
  ·have e2:b=it:=by simpa using hb
   subst e2
   exact ⟨o,h2,fun v z=>by rw [h3] at z; cases z⟩
 keep:=fun i h h' st k=>by
  obtain ⟨⟨old,h1⟩,h2⟩:=st
  exact ⟨⟨old,k e (by simp) _ h1⟩,h2.at fun o q=>k it (by simp) o q⟩
 item:=by
  intro X hP hw hK hc i pins s σ H E I hf st hg
  subst hP hw hK
  obtain ⟨⟨old,he⟩,hit⟩:=st
  obtain ⟨xs,x,hq,hx⟩:=hg
  obtain ⟨its,rv,p,hz⟩:=I.list hq
  obtain ⟨u,hu,ru⟩:=rv.get hx
  have fe:=hf e (by simp)
  have fi:=hf it (by simp)
  refine wpAny_pyNext_enum_item he hit p.isList (x:=u) (by simpa using hu) hne fun h1 eo hit1 tup hs1 kp=>⟨_,rfl,?_⟩
  refine wpAny_letOwnedTupleGo_enum eo fun h2 he2 sb=>?_
  have lte:=Heap.lt_size he
  have ne2:s.heap.objs.size≠e:=Nat.ne_of_gt lte
  have tup2:h2.get? s.heap.objs.size=some { cls:=.type "tuple",data:=.seq #[.int i s.toks,u] }:=sb.extBut _ _ ne2 tup
  have kp2:∀ b o,b≠e→b≠it→s.heap.get? b=some o→h2.get? b=some o:=fun b o z1 z2 q=>sb.extBut b o z1 (kp b o z1 z2 q)
  have hfr:H s.heap.objs.size=none:=I.hok.fresh (Nat.le_refl _)
  have nt:∀ b o,H b=some o→b≠e∧b≠it:=fun b o q=>⟨fun z=>(by rw [z,fe.1] at q; cases q),fun z=>(by rw [z,fi.1] at q; cases q)⟩
  have hok2:HOk X.prog X.w (upd H s.heap.objs.size (.tup [.int i,x])) h2:=fun b o q=>by
   by_cases hb:b=s.heap.objs.size
   ·subst hb
    rw [upd_same] at q
    cases q
    have l2:(2:Nat)≤sizeLine:=by rw [sizeLine_eq]; decide
    exact ⟨l2,[.int i s.toks,u],.cons ⟨_,rfl⟩ (.cons ru .nil),⟨_,tup2,rfl,_,rfl⟩⟩
   ·rw [upd_ne hb] at q
    refine (I.hok b o q).stay (fun c v hc z=>?_) (fun c z=>by rw [upd_ne (ne_of_none z hfr)]; exact z) fun c ys z=>by rw [upd_ne (ne_of_none z hfr)]; exact z
    rcases hc with hc | hc
    ·subst hc
     exact kp2 c v (nt c _ q).1 (nt c _ q).2 z
    ·exact kp2 c v (nt c _ hc).1 (nt c _ hc).2 z
  have I2:Inv X pins σ (upd H s.heap.objs.size (.tup [.int i,x])) { s with heap:=h2,toks:=s.toks+1 }:=by
   refine I.step (g':=s.gens) (d':=s.drawn) (t':=s.toks+1) (ch:=[e,it]) (fun b hb=>?_) (fun b o _ _ hc q _=>kp2 b o (fun z=>hc (by simp [z])) (fun z=>hc (by simp [z])) q)
    (fun b o _ _ hc q _=>⟨o.slots,kp2 b o (fun z=>hc (by simp [z])) (fun z=>hc (by simp [z])) q⟩) (fun b o _ q n=>by rw [upd_ne (Nat.ne_of_lt (Heap.lt_size q))]; exact n)
    (fun b o hc q=>⟨o,kp2 b o (fun z=>hc (by simp [z])) (fun z=>hc (by simp [z])) q⟩) (fun b ys q=>by rw [upd_ne (ne_of_none q hfr)]; exact q) (fun b o u q=>by rw [upd_ne (ne_of_none q hfr)]; exact q)
    (fun b ps q=>⟨#[],by rw [upd_ne (ne_of_none q hfr),q]; simp⟩) (fun m hm=>?_) hok2 I.bare
   ·rcases List.mem_cons.mp hb with rfl | hb
    ·exact ⟨fe.2.2.2.1,fe.2.1,fe.2.2.2.2.1,fe.2.2.2.2.2⟩
    ·have e2:b=it:=by simpa using hb
     subst e2
     exact ⟨fi.2.2.2.1,fi.2.1,fi.2.2.2.2.1,fi.2.2.2.2.2⟩
   ·obtain ⟨o,es,ep,ho,r⟩:=hm
    exact ⟨o,es,ep,kp2 _ o (Ne.symm fe.2.1) (Ne.symm fi.2.1) ho,r⟩
  refine ⟨.ref s.heap.objs.size,_,I2,rfl,⟨_,x,hfr,rfl,rfl,fun ys hy=>by rw [I.list_inj hy hq]; exact hx⟩,⟨⟨u,?_⟩,?_⟩,fun b hb=>?_⟩
  ·have:=he2
   rw [show ((i:Nat):Int)+1=((i+1:Nat):Int) by lia] at this
   exact this
  ·obtain ⟨o,h1,h2'⟩:=hit1
   exact ⟨o,sb.extBut _ _ (Ne.symm hne) h1,h2'⟩
  ·have hb0:=(hf b hb).1
   have:b≠s.heap.objs.size:=by
    rcases List.mem_cons.mp hb with rfl | hb
    ·exact Ne.symm ne2
    ·have e2:b=it:=by simpa using hb
     subst e2
     obtain ⟨o,h1,_⟩:=hit
     exact Nat.ne_of_lt (Heap.lt_size h1)
   rw [upd_ne this]
   exact hb0
 done:=by
  intro X hP hw hK hc i pins s σ H E I hf st hg
  subst hP hw hK
  obtain ⟨⟨old,he⟩,hit⟩:=st
  obtain ⟨xs,hq,hx⟩:=hg
  obtain ⟨its,rv,p,hz⟩:=I.list hq
  obtain ⟨f0,f1,f2,f3,f4,f5⟩:=hf it (by simp)
  have hl:=rv.length
  exact wpAny_pyNext_enum_end (I.ok.hd hc) he hit p.isList (by simp; lia) fun h' eb=>⟨rfl,I.turned (t':=s.toks) (fun b o hb e=>eb b o hb e) f0 f1 f3 f4 f5⟩
 self:=fun A i s Q E st h=>by
  obtain ⟨⟨old,he⟩,_⟩:=st
  exact wpAny_pyIter_enum he h
def iEnum (K:PySem.W.Frag) (ta:TA):TI:=fun σ H R=>ta σ H fun vs H1=>∃ a,vs=[.ref a]∧(∃ xs,SqL K H1 a xs)∧R (Ite K a) H1
theorem pi_enum {elts:List Expr} {k1:Nat} {tp:Pos} {l:Expr} {ta:TA} {p pos:Pos} (hg:Gl X "enumerate") (hm:X.mg "enumerate"=none) (ha:PA X [l] ta) (hs:starEach [l] X.env=[(false,eval l X.env)]:=by rfl) :
  PI X (.Tuple elts k1 tp) (.Call (.Name "enumerate" p) [l] [] pos) (iEnum X.K ta):=by
 intro pins s σ H R I h
 refine Call_ (ld_blt I hg hm boot_enumerate (PyProof.Rows.callWith_type1 (thn (ha pos pins s σ H _ I h) fun us s1 ⟨vs,H1,I1,r1,q1⟩=>?_) hs rfl))
 obtain ⟨a,e,⟨xs,hq⟩,q⟩:=q1
 subst e
 obtain ⟨u,rfl,rl⟩:=Vals.one r1
 cases rl
 obtain ⟨its,rv,pl,hz⟩:=I1.list hq
 refine call_enumerate_list pl.isList fun h' he hit hsz kp=>?_
 refine wpAny_pyIter_enum he ?_
 have I2:Inv X pins σ H1 { s1 with heap:=h' }:=I1.kept (t':=s1.toks) kp
 refine ⟨s1.heap.objs.size+1,[s1.heap.objs.size+1,s1.heap.objs.size],_,_,H1,rfl,I2,turn_enum a _ _ (Nat.succ_ne_self _),⟨⟨_,he⟩,hit⟩,fun b hb=>?_,q⟩
 rcases List.mem_cons.mp hb with rfl | hb
 ·exact I1.fpOk (Nat.le_succ _) (I1.hok.fresh (Nat.le_succ _))
 ·have e2:b=s1.heap.objs.size:=by simpa using hb
  subst e2
  exact I1.fpOk (Nat.le_refl _) (I1.hok.fresh (Nat.le_refl _))
theorem for_enum {K:PySem.W.Frag} {a:Addr} {xs:List V} {g:TG} {tb:TS} {D:Ends} {σ:St} {H:Hp} (Pv:Nat→St→Hp→Prop) (h0:Pv 0 σ H) (hl:∀ i σ H,i≤xs.length→Pv i σ H→SqL K H a xs)
  (hs:∀ i x t σ H,xs[i]?=some x→H t=none→Pv i σ H→g (.ref t) σ (upd H t (.tup [.int (i:Nat),x])) fun σ2 H2=>tb { D with nx:=Pv (i+1),ct:=Pv (i+1),bk:=D.nx } σ2 H2) (hd:∀ σ H,Pv xs.length σ H→D.nx σ H) :
  ∃ W:Nat→Nat→St→Hp→Prop,(∃ m,W 0 m σ H)∧∀ i m σ H,W i m σ H →
   ((Ite K a).stop i H∧D.nx σ H)∨((Ite K a).go i H∧∃ N:St→Hp→Prop,(∀ σ' H',N σ' H'→∃ m',m'<m∧W (i+1) m' σ' H')∧∀ x H',(Ite K a).yld i H x H'→g x σ H' fun σ2 H2=>tb { D with nx:=N,ct:=N,bk:=D.nx } σ2 H2):=by
 refine ⟨fun i m σ H=>m=xs.length - i∧i≤xs.length∧Pv i σ H,⟨xs.length,by simp,Nat.zero_le _,h0⟩,?_⟩
 rintro i m σ H ⟨rfl,hi,p⟩
 have q:=hl i σ H hi p
 by_cases hlt:i<xs.length
 ·refine .inr ⟨⟨xs,xs[i],q,by simp [hlt]⟩,Pv (i+1),fun σ' H' p'=>⟨xs.length - (i+1),by lia,rfl,hlt,p'⟩,fun x H' y=>?_⟩
  obtain ⟨t,z,ht,rfl,rfl,y⟩:=y
  exact hs i z t σ _ (y xs q) ht p
 ·have e:i=xs.length:=by lia
  subst e
  exact .inl ⟨⟨xs,q,Nat.le_refl _⟩,hd σ H p⟩
def Its (lo c:Int) (n:Nat):It:=⟨fun i _=>i<n,fun i H x H'=>H'=H∧x=.int (lo+(i:Nat) * c),fun i _=>n≤i⟩
theorem turn_step {P:Program} {w:World} {K:PySem.W.Frag} {tg:Expr} (it:Addr) (lo c:Int) (n:Nat):Turn P w K tg (Its lo c n) [it] it (fun i h=>IsRangeIter h it (lo+(i:Nat) * c) ((n:Int) - (i:Nat)) c) where
 mem:=by simp
 obj:=fun i h st b hb=>by
  have e:b=it:=by simpa using hb
  subst e
  exact ⟨_,st,fun v z=>by cases z⟩
 keep:=fun i h h' st k=>k it (by simp) _ st
 item:=by
  intro X hP hw hK hc i pins s σ H E I hf st hg
  subst hP hw hK
  obtain ⟨f0,f1,f2,f3,f4,f5⟩:=hf it (by simp)
  have W:=Walks.range (prog:=X.prog) (w:=X.w) (I.ok.hd hc) it lo c n
  refine W.item i s _ _ hg st fun v h' tk hv st' kk=>?_
  obtain ⟨t,rfl⟩:=hv
  have I1:Inv X pins σ H { s with heap:=h',toks:=tk }:=I.turned (fun b o hb e=>kk b o (by simpa using hb) e) f0 f1 f3 f4 f5
  exact ⟨_,rfl,go_of (s:={ s with heap:=h',toks:=tk }) (n:="range_iterator") st' rfl rfl (by decide) ⟨.int (lo+(i:Nat) * c),H,I1,⟨t,rfl⟩,⟨rfl,rfl⟩,st',fun b hb=>(hf b hb).1⟩⟩
 done:=by
  intro X hP hw hK hc i pins s σ H E I hf st hg
  subst hP hw hK
  obtain ⟨f0,f1,f2,f3,f4,f5⟩:=hf it (by simp)
  exact wpAny_pyNext_range_end (I.ok.hd hc) st (by have:n≤i:=hg; lia) fun h' eb=>⟨rfl,I.turned (t':=s.toks) (fun b o hb e=>eb b o hb e) f0 f1 f3 f4 f5⟩
 self:=fun _ _ _ _ _ st h=>wpAny_pyIter_rangeiter st h
def half2 (a b:Int):Nat:=((b - a+1) / 2).toNat
theorem size_two (a b:Int):Builtin.Range.rangeSize a b 2=(half2 a b:Int):=by
 unfold Builtin.Range.rangeSize half2
 simp only [show (2:Int)>0 by decide,if_true]
 split <;> lia
theorem small_two {a b:Int} (h1:-1048576≤a) (h2:a≤1048576) (h3:-1048576≤b) (h4:b≤1048576):Builtin.Range.small a b 2=true:=by
 unfold Builtin.Range.small
 rw [size_two]
 unfold half2
 simp only [Builtin.Range.rangeFitsLong,Bool.and_eq_true,Bool.or_eq_true,decide_eq_true_eq,beq_iff_eq,show (2:Int)>0 by decide,if_true]
 lia
def iRng3 (ta:TA):TI:=fun σ H R=>ta σ H fun vs H1=>∃ i j:Int,vs=[.int i,.int j,.int 2]∧(-1048576≤i∧i≤1048576∧-1048576≤j∧j≤1048576)∧R (Its i 2 (half2 i j)) H1
theorem pi_range3 {tg a b c:Expr} {ta:TA} {p pos:Pos} (hg:Gl X "range") (hm:X.mg "range"=none) (ha:PA X [a,b,c] ta) (hs:starEach [a,b,c] X.env=[(false,eval a X.env),(false,eval b X.env),(false,eval c X.env)]:=by rfl)
  (hs2:starEach [b,c] X.env=[(false,eval b X.env),(false,eval c X.env)]:=by rfl):PI X tg (.Call (.Name "range" p) [a,b,c] [] pos) (iRng3 ta):=by
 intro pins s σ H R I h
 refine Call_ (ld_blt I hg hm boot_range (PyProof.Rows.callWith_type1 (thn (ha pos pins s σ H _ I h) fun us s1 ⟨vs,H1,I1,r1,q1⟩=>?_) (by rw [hs,hs2]) (by rw [hs2]; rfl)))
 obtain ⟨i,j,e,⟨q1,q2,q3,q4⟩,q⟩:=q1
 subst e
 cases r1 with
 | cons r rr =>
  cases rr with
  | cons r' rr =>
   cases rr with
   | cons r'' rr =>
    cases rr
    obtain ⟨t,rfl⟩:=r
    obtain ⟨t',rfl⟩:=r'
    obtain ⟨t'',rfl⟩:=r''
    refine call_range_3 (by decide) ?_ (Or.inl (PyProof.noPylong_small (by decide)))
    refine wpAny_pyIter_range (IsRange.new ..) (small_two q1 q2 q3 q4) ?_
    have I2:Inv X pins σ H1 { s1 with heap:=s1.heap.push { cls:=.type "range",data:=.fields #[.int i t,.int j t',.int 2 t''] } }:=I1.kept (t':=s1.toks) fun b o e=>Heap.get?_push_of_some _ e
    refine ⟨(s1.heap.push { cls:=.type "range",data:=.fields #[.int i t,.int j t',.int 2 t''] }).objs.size,[(s1.heap.push { cls:=.type "range",data:=.fields #[.int i t,.int j t',.int 2 t''] }).objs.size],_,_,H1,rfl,
     I2.kept (t':=s1.toks) fun b o e=>Heap.get?_push_of_some _ e,turn_step _ i 2 (half2 i j),?_,fun b hb=>?_,q⟩
    ·have e1:i+((0:Nat):Int) * 2=i:=by simp
     have e2:((half2 i j:Nat):Int) - ((0:Nat):Int)=Builtin.Range.rangeSize i j 2:=by rw [size_two]; simp
     show IsRangeIter _ _ (i+((0:Nat):Int) * 2) (((half2 i j:Nat):Int) - ((0:Nat):Int)) 2
     rw [e1,e2]
     exact Heap.get?_push_size _ rfl
    ·have e:b=(s1.heap.push { cls:=.type "range",data:=.fields #[.int i t,.int j t',.int 2 t''] }).objs.size:=by simpa using hb
     subst e
     exact I2.fpOk (Nat.le_refl _) (I2.hok.fresh (Nat.le_refl _))
theorem for_step {lo c:Int} {n:Nat} {g:TG} {tb:TS} {D:Ends} {σ:St} {H:Hp} (Pv:Nat→St→Hp→Prop) (h0:Pv 0 σ H)
  (hs:∀ (i:Nat) σ H,i<n→Pv i σ H→g (.int (lo+(i:Nat) * c)) σ H fun σ2 H2=>tb { D with nx:=Pv (i+1),ct:=Pv (i+1),bk:=D.nx } σ2 H2) (hd:∀ σ H,Pv n σ H→D.nx σ H) :
  ∃ W:Nat→Nat→St→Hp→Prop,(∃ m,W 0 m σ H)∧∀ i m σ H,W i m σ H →
   ((Its lo c n).stop i H∧D.nx σ H)∨((Its lo c n).go i H∧∃ N:St→Hp→Prop,(∀ σ' H',N σ' H'→∃ m',m'<m∧W (i+1) m' σ' H')∧∀ x H',(Its lo c n).yld i H x H'→g x σ H' fun σ2 H2=>tb { D with nx:=N,ct:=N,bk:=D.nx } σ2 H2):=by
 refine ⟨fun i m σ H=>m=n - i∧i≤n∧Pv i σ H,⟨n,by simp,Nat.zero_le _,h0⟩,?_⟩
 rintro i m σ H ⟨rfl,hi,p⟩
 by_cases hlt:i<n
 ·refine .inr ⟨hlt,Pv (i+1),fun σ' H' p'=>⟨n - (i+1),by lia,rfl,hlt,p'⟩,fun x H' y=>?_⟩
  obtain ⟨e,y⟩:=y
  subst e y
  exact hs i σ _ hlt p
 ·have e:i=n:=by lia
  subst e
  exact .inl ⟨Nat.le_refl _,hd σ H p⟩
end
end L2
namespace L2
open PySem PySem.Spec PyProof.Rows
theorem clos_go (env:Env):∀ (names:List (Str×NameKind)) (acc:List (Str×Addr)),(∀ y∈names,y.2=.free→∃ c,env.cells.lookup y.1=some c)→(∀ y c,acc.lookup y=some c→env.cells.lookup y=some c) →
  ∃ cl:List (Str×Addr),(forIn names acc fun (x:Str×NameKind) cs=>if (x.2 == NameKind.free)=true then do
    let c ← cellOf env x.1
    pure (ForInStep.yield ((x.1,c)::cs))
   else pure (ForInStep.yield cs):Sem (List (Str×Addr)))=pure cl∧(∀ y c,cl.lookup y=some c→env.cells.lookup y=some c)∧(∀ y,(acc.lookup y).isSome=true→(cl.lookup y).isSome=true)∧∀ y,(y,NameKind.free)∈names→(cl.lookup y).isSome=true
 | [],acc,_,ha=>⟨acc,rfl,ha,fun _ h=>h,fun _ h=>absurd h (by simp)⟩
 | (n,k)::r,acc,hf,ha=>by
  rw [List.forIn_cons]
  by_cases hk:(k == NameKind.free)=true
  ·have hk':k=.free:=by simpa using hk
   subst hk'
   obtain ⟨c,hc⟩:=hf (n,.free) List.mem_cons_self rfl
   have ha':∀ y d,((n,c)::acc).lookup y=some d→env.cells.lookup y=some d:=fun y d h=>by
    rw [List.lookup_cons] at h
    cases e:y == n with
    | true =>
     simp only [e] at h
     have e':y=n:=by simpa using e
     cases h
     rw [e']
     exact hc
    | false =>
     simp only [e] at h
     exact ha y d h
   obtain ⟨cl,h1,h2,h3,h4⟩:=clos_go env r ((n,c)::acc) (fun y hy=>hf y (List.mem_cons_of_mem _ hy)) ha'
   have hin:(((n,c)::acc).lookup n).isSome=true:=by rw [List.lookup_cons]; simp
   refine ⟨cl,?_,h2,fun y hy=>h3 y ?_,fun y hy=>?_⟩
   ·have e:cellOf env n=pure c:=by unfold cellOf; rw [hc]
    simp only [hk,if_true,e,pure_bind]
    exact h1
   ·rw [List.lookup_cons]
    cases e:y == n with
    | true=>rfl
    | false=>exact hy
   ·rcases List.mem_cons.mp hy with e | hy
    ·cases e
     exact h3 _ hin
    ·exact h4 y hy
  ·obtain ⟨cl,h1,h2,h3,h4⟩:=clos_go env r acc (fun y hy=>hf y (List.mem_cons_of_mem _ hy)) ha
   refine ⟨cl,?_,h2,h3,fun y hy=>?_⟩
   ·simp only [hk,if_false,pure_bind,Bool.false_eq_true]
    exact h1
   ·rcases List.mem_cons.mp hy with e | hy
    ·cases e
     exact absurd rfl hk
    ·exact h4 y hy
theorem clos_of {scope:Scope} {env:Env} (hf:∀ y∈scope.names,y.2=.free→∃ c,env.cells.lookup y.1=some c) :
  ∃ cl,closureFor scope env=pure cl∧(∀ y c,cl.lookup y=some c→env.cells.lookup y=some c)∧∀ y,(y,NameKind.free)∈scope.names→∃ c,cl.lookup y=some c:=by
 obtain ⟨cl,h1,h2,_,h4⟩:=clos_go env scope.names [] hf fun y c h=>by cases h
 refine ⟨cl,?_,h2,fun y hy=>Option.isSome_iff_exists.mp (h4 y hy)⟩
 show ((forIn scope.names [] fun (x:Str×NameKind) cs=>if (x.2 == NameKind.free)=true then do
    let c ← cellOf env x.1
    pure (ForInStep.yield ((x.1,c)::cs))
   else pure (ForInStep.yield cs):Sem (List (Str×Addr))) >>= fun cs=>pure cs)=pure cl
 rw [h1]
 rfl
def Cx.comp (X:Cx) (scope:Scope) (cl:List (Str×Addr)) (N':List Str) (s₃:Shared) (H₃:Hp) (fp:List Addr):Cx :=
 { X with N:=N',s₀:=s₃,H₀:=H₃,env:=compEnvC scope cl s₃.heap.objs.size X.env,outer:=X.stack,ex:=fp,fn:=fun _=>false,pn:=[],xe:=fun _ _=>False }
def PIfs (X:Cx) (ifs:List Expr) (t:TT):Prop :=
 ∀ (pins:List (Addr×Obj)) (s:Shared) (σ:St) (H:Hp) (Q:Bool→Hp→Prop),Inv X pins σ H s→t σ H Q →
  wpAny (model X.prog X.w) X.A (forIn ifs true fun c r=>if r=true then do let ok ← isTrue c X.env (eval c X.env); pure (ForInStep.yield ok) else pure (ForInStep.yield r)) (TP X pins σ Q) X.xe s
def tAlw:TT:=fun _ H Q=>Q true H
theorem pifs_nil {X:Cx}:PIfs X [] tAlw:=fun _ _ _ H _ I h=>wpAny_pure ⟨H,I,h⟩
theorem pifs_one {X:Cx} {c:Expr} {t:TT} (h:PT X c t):PIfs X [c] t:=fun pins s σ H Q I hq=>wpAny_tests_one (h pins s σ H Q I hq)
def capV (σ:St) (cap:List Nat):St:=cap.map fun k=>(σ[k]?).join
def LCG (J:It) (l:Addr) (σ':St) (tt:TT) (te:TE) (Q:VK) (H1:Hp):Prop:=∃ W:Nat→Nat→Hp→Prop,(∃ m,W 0 m (upd H1 l (.lst [])))∧∀ i m H2,W i m H2 →
 (J.stop i H2∧Q (.ref l) H2)∨(J.go i H2∧∀ x H3,J.yld i H2 x H3→tt (some x::σ') H3 fun b H4=>if b=true then te (some x::σ') H4 fun y H5=>∃ ys m',H5 l=some (.lst ys)∧ys.length<sizeLine∧m'<m∧W (i+1) m' (upd H5 l (.lst (ys++[y])))
  else ∃ m',m'<m∧W (i+1) m' H4)
def tLC (cap:List Nat) (wi:TI) (tt:TT) (te:TE):TE:=fun σ H Q=>wi σ H fun J H1=>∀ l,H1 l=none→LCG J l (capV σ cap) tt te Q H1
section
variable {X:Cx}
theorem relabel_free {scope:Scope} {env:Env} (hcell:∀ y∈scope.names,y.2≠.cell) {y:Str} (h:(relabel scope env).names.lookup y=some .cell∨(relabel scope env).names.lookup y=some .free):(y,NameKind.free)∈scope.names:=by
 have key:∀ k,(relabel scope env).names.lookup y=some k→k≠.local→(k=.cell∨k=.free)→(y,NameKind.free)∈scope.names:=fun k hk _ ho=>by
  have hm:=PySem.mem_of_lookup hk
  unfold relabel at hm
  obtain ⟨⟨n,k'⟩,hn,e⟩:=List.mem_map.mp hm
  dsimp only at e
  split at e
  ·rename_i hc
   cases e
   simp only [Bool.and_eq_true,beq_iff_eq] at hc
   rw [hc.1.1] at hn
   exact hn
  ·cases e
   rcases ho with rfl | rfl
   ·exact absurd rfl (hcell _ hn)
   ·exact hn
 rcases h with h | h
 ·exact key _ h (by decide) (.inl rfl)
 ·exact key _ h (by decide) (.inr rfl)
theorem comp_ok {pins:List (Addr×Obj)} {σ:St} {H:Hp} {s:Shared} {scope:Scope} {cl:List (Str×Addr)} {N':List Str} {fp:List Addr} (I:Inv X pins σ H s) (hf:∀ b∈fp,FpOk X pins H b) (hlt:∀ b∈fp,b<s.heap.objs.size)
  (hkind:scope.kind=.function) (hcell:∀ y∈scope.names,y.2≠.cell) (ca:∀ y c,cl.lookup y=some c→X.env.cells.lookup y=some c) (cb:∀ y,(y,NameKind.free)∈scope.names→∃ c,cl.lookup y=some c) :
  (X.comp scope cl N' s H fp).Ok where
 mod:=I.mod
 kind:=hkind
 glob:=I.ok.glob
 blt:=I.ok.blt
 above:=Nat.le_refl _
 inj:=fun x y c h1 h2=>I.ok.inj x y c (ca x c h1) (ca y c h2)
 has:=fun x hx=>cb x (relabel_free hcell hx)
 cab:=fun x c h=>by cases h
 hd:=I.ok.hd
 frames:=I.ok.frames
 stk:=.inl rfl
 exf:=fun b hb=>⟨Nat.ne_of_lt (hlt b hb),fun x c h=>(hf b hb).2.2.2.2.1 x c (ca x c h)⟩
 bs:=I.bs
 bsz:=Nat.le_trans I.ok.bsz I.sz
 noex:=fun b o e hb=>by
  rcases (hf b hb).2.2.2.1 with z | z
  ·exact I.ok.noex b o e z
  ·exact absurd (Nat.lt_of_lt_of_le (Heap.lt_size e) (Nat.le_trans I.ok.bsz z)) (Nat.lt_irrefl _)
 exfs:=fun b hb hs=>by
  rcases List.mem_cons.mp (I.stkSub b hs) with z | z
  ·exact (hf b hb).2.1 z
  ·exact (hf b hb).2.2.1 z
 funs:=I.stack
 frf:=I.stkFree
theorem inv_comp {pins:List (Addr×Obj)} {σ:St} {H:Hp} {s:Shared} {scope:Scope} {cl:List (Str×Addr)} {x:Str} {cap:List Nat} {caps:List Str} {fp:List Addr} {h':Heap} {t':Nat} (I:Inv X pins σ H s) (ok:(X.comp scope cl (x::caps) s H fp).Ok)
  (ca:∀ y c,cl.lookup y=some c→X.env.cells.lookup y=some c) (cb:∀ y,(y,NameKind.free)∈scope.names→∃ c,cl.lookup y=some c) (hcell:∀ y∈scope.names,y.2≠.cell)
  (hcap:cap.map (fun k=>X.N[k]?)=caps.map some) (hvis:∀ y∈caps,((relabel scope X.env).names.lookup y=some .cell∨(relabel scope X.env).names.lookup y=some .free)∧(X.env.kindOf y=some .cell∨X.env.kindOf y=some .free))
  (hn:h'.Ns s.heap.objs.size fun _=>none) (kp:∀ b o,s.heap.get? b=some o→h'.get? b=some o):Inv (X.comp scope cl (x::caps) s H fp) [] (none::capV σ cap) H { s with heap:=h',toks:=t' }:=by
 have hlen:cap.length=caps.length:=by
  have:=congrArg List.length hcap
  simpa using this
 refine ⟨ok,rfl,I.bare,Un.kept kp,⟨_,hn,fun i y v h1 h2 h3=>?_⟩,fun y c h=>?_,I.hok.fresh (Nat.le_refl _),fun y c h=>I.freeC y c (ca y c h),fun p hp=>absurd (show p∈([]:List (Addr×Obj)) from hp) (by simp),I.hok.kept kp,?_⟩
 ·cases i with
  | zero=>exact absurd h2 (by simp)
  | succ j =>
   have h1':caps[j]?=some y:=h1
   have h2':(capV σ cap)[j]?=some (some v):=h2
   unfold capV at h2'
   rw [List.getElem?_map] at h2'
   cases hk:cap[j]? with
   | none=>rw [hk] at h2'; cases h2'
   | some k =>
    rw [hk] at h2'
    have h2'':(σ[k]?).join=some v:=by simpa using h2'
    have hN:X.N[k]?=some y:=by
     have:=congrArg (fun l=>l[j]?) hcap
     simp only [List.getElem?_map,hk,h1',Option.map_some] at this
     exact Option.some.inj this
    have hσ:σ[k]?=some (some v):=by
     cases e:σ[k]? with
     | none=>rw [e] at h2''; cases h2''
     | some o=>rw [e] at h2''; exact congrArg some h2''
    obtain ⟨hv1,hv2⟩:=hvis y (List.mem_of_getElem? h1')
    obtain ⟨m,_,hl⟩:=I.loc
    obtain ⟨u,r,l⟩:=hl k y v hN hσ (by
     rcases hv2 with z | z
     ·exact .inr (.inl z)
     ·exact .inr (.inr z))
    refine ⟨u,r,?_⟩
    obtain ⟨c,hc⟩:=cb y (relabel_free hcell hv1)
    rcases l with ⟨z,_⟩ | ⟨_,c',hc',hcl⟩
    ·rcases hv2 with q | q <;> (rw [z] at q; cases q)
    ·have e:=ca y c hc
     rw [hc'] at e
     have e2:c'=c:=Option.some.inj e
     rw [e2] at hcl
     obtain ⟨o,ho,hd⟩:=hcl
     exact .inr ⟨hv1,c,hc,o,kp _ _ ho,hd⟩
 ·obtain ⟨v,o,ho,hd⟩:=I.cell y c (ca y c h)
  exact ⟨v,o,kp _ _ ho,hd⟩
 ·show (none::capV σ cap).length=(x::caps).length
  simp [capV,hlen]
theorem pe_lcomp {elt iter:Expr} {x:Str} {px:Pos} {ifs:List Expr} {scope:Scope} {pos:Pos} {cap:List Nat} {caps:List Str} {wi:TI} {tt:TT} {te:TE} (hc:X.calm=true) (hi:PI X (.Name x px) iter wi) (hkind:scope.kind=.function)
  (hnames:∀ y∈scope.names,y.2=.local→scope.names.lookup y.1=some .local) (hcell:∀ y∈scope.names,y.2≠.cell) (hx:scope.names.lookup x=some .local)
  (hfree:∀ y∈scope.names,y.2=.free→X.env.kindOf y.1=some .cell∨X.env.kindOf y.1=some .free) (hcap:cap.map (fun k=>X.N[k]?)=caps.map some)
  (hvis:∀ y∈caps,((relabel scope X.env).names.lookup y=some .cell∨(relabel scope X.env).names.lookup y=some .free)∧(X.env.kindOf y=some .cell∨X.env.kindOf y=some .free)) (nd:(x::caps).Nodup)
  (body:∀ cl s₃ H₃ fp,PIfs (X.comp scope cl (x::caps) s₃ H₃ fp) ifs tt∧PE (X.comp scope cl (x::caps) s₃ H₃ fp) elt te) (hs:∀ v,foldedSetIterable iter X.env v=pure v:=by intro _; rfl) :
  PE X (.ListComp elt [⟨.Name x px,iter,ifs,0⟩] scope pos) (tLC cap wi tt te):=by
 intro pins s σ H Q I h
 rw [eval_ListComp]
 obtain ⟨cl,hcl,ca,cb⟩:=clos_of (scope:=scope) (env:=X.env) fun y hy hf=>I.ok.has y.1 (hfree y hy hf)
 refine wpAny_comprehension_free (use:=none) rfl hs hcl hkind hnames (thn (hi pins s σ H _ I h) fun v s1 h1=>thn h1 fun itv s2 h2=>?_)
 obtain ⟨it,fp,tn,J,H2,e,I2,T,st2,f2,rest⟩:=h2
 subst e
 have hfr:H2 s2.heap.objs.size=none:=I2.hok.fresh (Nat.le_refl _)
 obtain ⟨W,⟨m0,w0⟩,turn⟩:=rest s2.heap.objs.size hfr
 refine wpAny_newObj_type (wpAny_newFunctionEnv hcell (by intro y hy; simp at hy) (fun h4 hn4 hs4=>?_) hkind)
 dsimp only at hn4 hs4 ⊢
 have I3:Inv X pins σ (upd H2 s2.heap.objs.size (.lst [])) { s2 with heap:=s2.heap.push { cls:=.type "list",dict:=none,data:=.seq ([]:List Value).toArray } } :=
  I2.laid (t':=s2.toks) (o:=.lst []) (fun b o e=>Heap.get?_push_of_some _ e) (Nat.le_refl _) ⟨Nat.zero_le _,[],0,.nil,Heap.get?_push_size _ rfl⟩
 generalize hs3:({ s2 with heap:=s2.heap.push { cls:=.type "list",dict:=none,data:=.seq ([]:List Value).toArray } }:Shared)=s3 at I3
 have hz3:s3.heap=s2.heap.push { cls:=.type "list",dict:=none,data:=.seq ([]:List Value).toArray }:=by rw [← hs3]
 rw [← hz3] at hn4 hs4 ⊢
 have kp3:∀ b o,s3.heap.get? b=some o→h4.get? b=some o:=fun b o e=>hs4.extBut b o (Nat.ne_of_lt (Heap.lt_size e)) (Heap.get?_push_of_some _ e)
 have lt2:∀ b∈fp,b<s2.heap.objs.size:=fun b hb=>let ⟨o,e,_⟩:=T.obj 0 _ st2 b hb; Heap.lt_size e
 have hz:s3.heap.objs.size=s2.heap.objs.size+1:=by rw [hz3,Heap.size_push]
 have lt3:∀ b∈fp,b<s3.heap.objs.size:=fun b hb=>by rw [hz]; exact Nat.lt_succ_of_lt (lt2 b hb)
 have f3:∀ b∈fp,FpOk X pins (upd H2 s2.heap.objs.size (.lst [])) b:=fun b hb=>⟨by rw [upd_ne (Nat.ne_of_lt (lt2 b hb))]; exact (f2 b hb).1,(f2 b hb).2⟩
 have ok':(X.comp scope cl (x::caps) s3 (upd H2 s2.heap.objs.size (.lst [])) fp).Ok:=comp_ok I3 f3 lt3 hkind hcell ca cb
 have I4:Inv (X.comp scope cl (x::caps) s3 (upd H2 s2.heap.objs.size (.lst [])) fp) [] (none::capV σ cap) (upd H2 s2.heap.objs.size (.lst [])) { s3 with heap:=h4,toks:=s2.toks+([]:List (Str×Value)).length } :=
  inv_comp I3 ok' ca cb hcell hcap hvis hn4 kp3
 have st4:tn 0 h4:=T.keep _ _ _ st2 fun b hb o e=>kp3 b o (by rw [hz3]; exact Heap.get?_push_of_some _ e)
 obtain ⟨bI,bE⟩:=body cl s3 (upd H2 s2.heap.objs.size (.lst [])) fp
 have stat:∀ {H':Hp},(∀ b∈fp,H' b=none)→∀ b∈fp,FpOk (X.comp scope cl (x::caps) s3 (upd H2 s2.heap.objs.size (.lst [])) fp) [] H' b:=fun {H'} hn b hb =>
  ⟨hn b hb,Nat.ne_of_lt (lt3 b hb),ok'.exfs b hb,.inl hb,fun y c hy=>(f2 b hb).2.2.2.2.1 y c (ca y c hy),fun p hp=>absurd (show p∈([]:List (Addr×Obj)) from hp) (by simp)⟩
 have es:({ s2 with heap:=h4,toks:=s2.toks+([]:List (Str×Value)).length }:Shared)={ s3 with heap:=h4,toks:=s2.toks+([]:List (Str×Value)).length }:=by rw [← hs3]
 rw [es]
 have fin:∀ {σ':St} {H':Hp} {s':Shared},Inv (X.comp scope cl (x::caps) s3 (upd H2 s2.heap.objs.size (.lst [])) fp) [] σ' H' s'→Q (.ref s2.heap.objs.size) H' →
   compPost (model X.prog X.w) X.A X.xe none (EP X pins σ Q) (.ref s2.heap.objs.size) s3.heap.objs.size (.ok .next) s':=fun {σ' H' s'} J' q=>by
  obtain ⟨m,hn,_⟩:=J'.loc
  refine ⟨m,hn,fun h' sb=>?_⟩
  have IX:Inv X pins σ H' s':=I3.call' J'.os J'.base J'.hok J'.bare fun b hb=>⟨(f3 b hb).2.2.2.1,(f3 b hb).2.1,(f3 b hb).2.2.2.2.1,(f3 b hb).2.2.2.2.2⟩
  have fc:=I3.fpOk (Nat.le_refl _) (I3.hok.fresh (Nat.le_refl _))
  exact ⟨.ref s2.heap.objs.size,H',IX.turned (t':=s'.toks) (fun b o hb e=>sb.extBut b o hb e) J'.free fc.2.1 fc.2.2.2.1 fc.2.2.2.2.1 fc.2.2.2.2.2,rfl,q⟩
 have loop:codeAny (model X.prog X.w) X.A (.compLoop (.ListComp elt [⟨.Name x px,iter,ifs,0⟩] scope pos) 0 (.ref it) (.ref s2.heap.objs.size) (compEnvC scope cl s3.heap.objs.size X.env))
   (compPost (model X.prog X.w) X.A X.xe none (EP X pins σ Q) (.ref s2.heap.objs.size) s3.heap.objs.size) { s3 with heap:=h4,toks:=s2.toks+([]:List (Str×Value)).length }:=by
  refine codeAny_compLoop_tests (fun n s'=>∃ i o H',Inv (X.comp scope cl (x::caps) s3 (upd H2 s2.heap.objs.size (.lst [])) fp) [] (o::capV σ cap) H' s'∧tn i s'.heap∧(∀ b∈fp,H' b=none)∧W i n H') ?_ m0
   ⟨0,none,_,I4,st4,fun b hb=>(f3 b hb).1,w0⟩
  rintro n s5 ⟨i,o,H5,I5,st5,fr5,w5⟩
  rcases turn i n H5 w5 with ⟨stop,qn⟩ | ⟨go,step⟩
  ·refine thn (T.done (X.comp scope cl (x::caps) s3 (upd H2 s2.heap.objs.size (.lst [])) fp) rfl rfl rfl hc i [] s5 _ H5 _ I5 (stat fr5) st5 stop) fun r s6 ⟨hr,I6⟩=>?_
   subst hr
   exact fin I6 qn
  ·refine thn (T.item (X.comp scope cl (x::caps) s3 (upd H2 s2.heap.objs.size (.lst [])) fp) rfl rfl rfl hc i [] s5 _ H5 _ I5 (stat fr5) st5 go) fun r s6 ⟨u,hr,h6⟩=>?_
   subst hr
   dsimp only
   show wpAny (model X.prog X.w) X.A ((pure ():Sem Unit) >>= fun _=>assign (.Name x px) (compEnvC scope cl s3.heap.objs.size X.env) u) _ _ s6
   refine wpAny_bind (thn h6 fun _ s7 ⟨y,H7,I7,r7,y7,st7,fr7⟩=>?_)
   have I7':=I7.pinned (stat fr7) (T.obj _ _ st7)
   have pg:=pg_name (X:=X.comp scope cl (x::caps) s3 (upd H2 s2.heap.objs.size (.lst [])) fp) (i:=0) (x:=x) (pos:=px) nd rfl (.inl (lookup_relabel_local hx)) (.inr (lookup_relabel_local hx))
   refine wpAny_mono (pg _ s7 _ H7 y u (fun σ' H'=>σ'=some y::capV σ cap∧H'=H7) I7' r7 ⟨rfl,rfl⟩) (fun _ s8 ⟨σ8,H8,I8,e8,e8'⟩=>?_) fun _ _ f=>f.elim
   subst e8 e8'
   have again:∀ {H9:Hp} {s9:Shared} {m':Nat},Inv (X.comp scope cl (x::caps) s3 (upd H2 s2.heap.objs.size (.lst [])) fp) ([]++pinsAt fp s7.heap) (some y::capV σ cap) H9 s9→m'<n→W (i+1) m' H9 →
     ∃ m,m<n∧∃ i o H',Inv (X.comp scope cl (x::caps) s3 (upd H2 s2.heap.objs.size (.lst [])) fp) [] (o::capV σ cap) H' s9∧tn i s9.heap∧(∀ b∈fp,H' b=none)∧W i m H':=fun {H9 s9 m'} I9 hm w9=>by
    have pin9:=fun b hb o e=>I9.pin (b,o) (List.mem_append_right _ (List.mem_append_right _ (mem_pinsAt hb e)))
    refine ⟨m',hm,i+1,some y,H9,I9.unpinned,T.keep _ _ _ st7 fun b hb o e=>(pin9 b hb o e).1,fun b hb=>?_,w9⟩
    obtain ⟨o,e,d⟩:=T.obj _ _ st7 b hb
    exact (pin9 b hb o e).2.1
   refine wpAny_mono (bI _ s8 _ H8 _ I8 (step y H8 y7)) (fun ok s9 ⟨H9,I9,q9⟩=>?_) fun _ _ f=>f.elim
   cases ok with
   | false =>
    rw [if_neg Bool.false_ne_true] at q9 ⊢
    obtain ⟨m',hm,w9⟩:=q9
    exact again I9 hm w9
   | true =>
    rw [if_pos rfl] at q9 ⊢
    refine wpAny_mono (bE _ s9 _ H9 _ I9 q9) (fun z s10 ⟨v10,H10,I10,r10,ys,m',hl,hsz,hm,w10⟩=>?_) fun _ _ f=>f.elim
    refine wpAny_mono (mt_append (X:=X.comp scope cl (x::caps) s3 (upd H2 s2.heap.objs.size (.lst [])) fp) _ s10 _ H10 (.ref s2.heap.objs.size) [v10] (.ref s2.heap.objs.size) [z] (fun _ H'=>H'=upd H10 s2.heap.objs.size (.lst (ys++[v10]))) I10 rfl (.cons r10 .nil) ⟨_,ys,v10,rfl,rfl,hl,hsz,rfl⟩) (fun _ s11 ⟨_,H11,I11,_,e11⟩=>?_) fun _ _ f=>f.elim
    subst e11
    exact again I11 hm w10
 refine codeAny_compStart_list loop (T.self _ 0 _ _ _ st4 loop)
end
end L2
namespace L2
open PySem PySem.Spec PyProof.Rows
end L2
namespace L2
open PySem PySem.Spec PyProof.Rows
theorem lc_range_if {lo:Int} {n:Nat} {l:Addr} {H1:Hp} {tt:TT} {te:TE} {σ':St} {Q:VK} (p:Nat→Bool) (f:Nat→V) (hn:n≤1000) (hl:H1 l=none)
  (ht:∀ (i:Nat) H2 (R:Bool→Hp→Prop),i<n→Same H1 H2→(∀ H3,Same H2 H3→R (p i) H3)→tt (some (.int (lo+(i:Nat)))::σ') H2 R)
  (he:∀ (i:Nat) H2 (R:VK),i<n→p i=true→Same H1 H2→(∀ H3,Same H2 H3→R (f i) H3)→te (some (.int (lo+(i:Nat)))::σ') H2 R)
  (hq:∀ H2,Same H1 H2→H2 l=some (.lst (((List.range n).filter p).map f))→Q (.ref l) H2) :
  LCG (Itr lo n) l σ' tt te Q H1:=by
 refine ⟨fun i m H2=>m=n - i∧i≤n∧Same H1 H2∧H2 l=some (.lst (((List.range i).filter p).map f)),⟨n,by simp,Nat.zero_le _,fun b o e=>by rw [upd_ne (ne_of_none e hl)]; exact e,upd_same⟩,?_⟩
 rintro i m H2 ⟨rfl,hi,s2,h2⟩
 by_cases hlt:i<n
 ·refine .inr ⟨hlt,fun x H3 y=>?_⟩
  obtain ⟨e,y⟩:=y
  subst e y
  refine ht i _ _ hlt s2 fun H4 s4=>?_
  have s14:Same H1 H4:=s2.trans s4
  cases q:p i with
  | false =>
   rw [if_neg Bool.false_ne_true]
   refine ⟨n - (i+1),by lia,rfl,hlt,s14,?_⟩
   rw [List.range_succ,List.filter_append,List.filter_cons,q,List.filter_nil]
   simp only [Bool.false_eq_true,if_false,List.append_nil]
   exact s4 _ _ h2
  | true =>
   rw [if_pos rfl]
   refine he i _ _ hlt q s14 fun H5 s5=>⟨_,n - (i+1),s5 _ _ (s4 _ _ h2),?_,by lia,rfl,hlt,fun b o e=>?_,?_⟩
   ·rw [List.length_map]
    refine small1000 (Nat.le_trans (List.length_filter_le _ _) ?_)
    rw [List.length_range]
    lia
   ·rw [upd_ne (ne_of_none e hl)]
    exact s5 _ _ (s14 _ _ e)
   ·rw [upd_same,List.range_succ,List.filter_append,List.filter_cons,q,List.filter_nil,List.map_append]
    rfl
 ·have e:i=n:=by lia
  subst e
  exact .inl ⟨Nat.le_refl _,hq H2 s2 h2⟩
theorem lc_list_if {K:PySem.W.Frag} {a:Addr} {xs:List V} {l:Addr} {H1:Hp} {tt:TT} {te:TE} {σ':St} {Q:VK} (p:V→Bool) (f:V→V) (hn:xs.length≤1000) (hl:H1 l=none) (hx:SqL K H1 a xs)
  (ht:∀ x H2 (R:Bool→Hp→Prop),x∈xs→Same H1 H2→(∀ H3,Same H2 H3→R (p x) H3)→tt (some x::σ') H2 R)
  (he:∀ x H2 (R:VK),x∈xs→p x=true→Same H1 H2→(∀ H3,Same H2 H3→R (f x) H3)→te (some x::σ') H2 R)
  (hq:∀ H2,Same H1 H2→H2 l=some (.lst ((xs.filter p).map f))→Q (.ref l) H2) :
  LCG (Itl K a) l σ' tt te Q H1:=by
 refine ⟨fun i m H2=>m=xs.length - i∧i≤xs.length∧Same H1 H2∧H2 l=some (.lst (((xs.take i).filter p).map f)),⟨xs.length,by simp,Nat.zero_le _,fun b o e=>by rw [upd_ne (ne_of_none e hl)]; exact e,by rw [upd_same]; rfl⟩,?_⟩
 rintro i m H2 ⟨rfl,hi,s2,h2⟩
 by_cases hlt:i<xs.length
 ·refine .inr ⟨⟨xs,xs[i],s2.seq hx,by simp [hlt]⟩,fun x H3 y=>?_⟩
  obtain ⟨e,y⟩:=y
  subst e
  have hxi:=y xs (s2.seq hx)
  have hm:=List.mem_of_getElem? hxi
  have tk:xs.take (i+1)=xs.take i++[x]:=by
   rw [List.take_succ,hxi]
   rfl
  refine ht x _ _ hm s2 fun H4 s4=>?_
  have s14:Same H1 H4:=s2.trans s4
  cases q:p x with
  | false =>
   rw [if_neg Bool.false_ne_true]
   refine ⟨xs.length - (i+1),by lia,rfl,hlt,s14,?_⟩
   rw [tk,List.filter_append,List.filter_cons,q,List.filter_nil]
   simp only [Bool.false_eq_true,if_false,List.append_nil]
   exact s4 _ _ h2
  | true =>
   rw [if_pos rfl]
   refine he x _ _ hm q s14 fun H5 s5=>⟨_,xs.length - (i+1),s5 _ _ (s4 _ _ h2),?_,by lia,rfl,hlt,fun b o e=>?_,?_⟩
   ·rw [List.length_map]
    refine small1000 (Nat.le_trans (List.length_filter_le _ _) ?_)
    rw [List.length_take]
    lia
   ·rw [upd_ne (ne_of_none e hl)]
    exact s5 _ _ (s14 _ _ e)
   ·rw [upd_same,tk,List.filter_append,List.filter_cons,q,List.filter_nil,List.map_append]
    rfl
 ·have e:i=xs.length:=by lia
  subst e
  rw [List.take_length] at h2
  exact .inl ⟨⟨xs,s2.seq hx,Nat.le_refl _⟩,hq H2 s2 h2⟩
end L2
set_option maxHeartbeats 4000000
namespace L2
open PySem PySem.Spec PyProof.Rows
section
variable {X:Cx}
theorem met_all (val:Nat→Int):∀ n,(firstMet val n).length=n↔((List.range n).map val).Nodup
 | 0=>by simp [firstMet_zero]
 | n+1=>by
  have le:=firstMet_length_le val n
  have ih:=met_all val n
  have an:=firstMet_any val n (val n)
  rw [firstMet_succ]
  unfold step_dedup
  rw [List.range_succ,List.map_append,List.nodup_append,← ih]
  by_cases h:(firstMet val n).any (· == val n)=true
  ·rw [if_pos h]
   constructor
   ·intro z; lia
   ·rintro ⟨_,_,d⟩
    rw [an,List.any_eq_true] at h
    obtain ⟨y,hy,e⟩:=h
    exact absurd (by simpa using e) (d y hy (val n) (by simp))
  ·rw [if_neg h,List.length_append,List.length_singleton]
   constructor
   ·intro z
    refine ⟨by lia,by simp,fun a ha b hb e=>h ?_⟩
    rw [an,List.any_eq_true]
    have eb:b=val n:=by simpa using hb
    exact ⟨a,ha,by rw [e,eb]; simp⟩
   ·rintro ⟨z,_⟩
    lia
theorem getD_map (ns:List Int):(List.range ns.length).map (fun i=>ns.getD i 0)=ns:=by
 refine List.ext_getElem? fun i=>?_
 by_cases h:i<ns.length
 ·rw [List.getElem?_map,List.getElem?_range h,List.getElem?_eq_getElem h]
  simp [List.getD,h]
 ·rw [List.getElem?_eq_none (by simp; lia),List.getElem?_eq_none (by lia)]
def rSet (K:PySem.W.Frag):List V→Hp→VK→Prop:=fun xs H Q=>∃ (p:Addr) (ns:List Int),xs=[.ref p]∧SqL K H p (ns.map V.int)∧ns.length<1000∧∀ (l:Addr) (S:Int→Bool) (n:Nat),H l=none→n≤ns.length→(n=ns.length↔ns.Nodup)→Q (.ref l) (upd H l (.set S n))
theorem call_set (hc:X.calm=true):CallR X (.type "set") (rSet X.K):=by
 intro pins s σ H xs us Q I r h
 obtain ⟨p,ns,rfl,hq,hl,q⟩:=h
 obtain ⟨u,rfl,rx⟩:=vals1 r
 cases rx
 obtain ⟨its,rv,pl,hz⟩:=I.list hq
 have hi:IntsAre its ns:=intsAre_of rv
 have hlen:=rv.length
 rw [List.length_map] at hlen hz
 refine call_set_list (I.ok.hd hc) pl.isList (by simpa using hi) (by rw [List.size_toArray]; unfold scanBound; lia) fun h' tk hS hk=>?_
 have hsz:its.toArray.size=ns.length:=by rw [List.size_toArray,hlen]
 rw [hsz] at hS
 have hm:=met_all (fun i=>ns.getD i 0) ns.length
 rw [getD_map] at hm
 exact ⟨.ref s.heap.objs.size,_,I.laid (t':=tk) (o:=.set _ _) (fun b u q=>hk b u (Heap.lt_size q) q) (Nat.le_refl _) hS,rfl,q _ _ _ (I.hok.fresh (Nat.le_refl _)) (firstMet_length_le _ _) hm⟩
def rLenSet:List V→Hp→VK→Prop:=fun xs H Q=>∃ (p:Addr) (S:Int→Bool) (n:Nat),xs=[.ref p]∧H p=some (.set S n)∧Q (.int n) H
theorem call_lenSet:CallR X (.builtin "len") rLenSet:=by
 intro pins s σ H xs us Q I r h
 obtain ⟨p,S,n,rfl,hq,q⟩:=h
 obtain ⟨u,rfl,rx⟩:=vals1 r
 cases rx
 obtain ⟨o,es,ep,t,ho,hex,hd,_,_,hsc,hf,e⟩:s.heap.SetOf (intKind X.prog X.w) p S n:=I.hok p _ hq
 subst e
 refine call_len_set ho hex hd hf ?_ ⟨.int es.size,H,I.tok _,⟨_,rfl⟩,q⟩
 unfold scanBound at hsc
 lia
end
end L2
set_option maxHeartbeats 4000000
namespace Rv
open PySem PyProof.Rows
theorem nolen_lr:typeLookup (.type "list_reverseiterator") "__len__"=pure none:=by rw [typeLookup_type,builtinLookup_eq_fast]; kernel_rfl
theorem hint_lr:typeLookup (.type "list_reverseiterator") "__length_hint__"=pure (some (.builtin "list_reverseiterator.__length_hint__")):=by rw [typeLookup_type,builtinLookup_eq_fast]; kernel_rfl
section
variable {prog:Program} {w:World} {A:Around} {E:Value→Shared→Prop} {s:Shared}
theorem hint {it:Addr} {Q:Bool→Shared→Prop} (hT:s.TypeIs (.ref it) "list_reverseiterator") (h:Q false s):wpAny (model prog w) A (Builtin.List.listLengthHint (.ref it)) Q E s:=by
 unfold Builtin.List.listLengthHint
 refine wpAny_bind (wpAny_specialOf hT nolen_lr ?_)
 show wpAny _ A (specialOf (Value.ref it) (Str.ofString "__length_hint__") >>= _) _ _ _
 refine wpAny_bind (wpAny_specialOf hT hint_lr ?_)
 (generalize hid:("list_reverseiterator.__length_hint__":String)=id0; (fail_if_success (clear hid id0)); wp_delta; rw [show splitId id0=some ("list_reverseiterator","__length_hint__") from by subst hid; decide +kernel]; subst hid)
 refine wpAny_bind (wpAny_isInstance (b:=true) hT (by rw [isSubtype_type]; kernel_rfl) ?_)
 exact wpAny_pure h
theorem extend {R:Result→Shared→Prop} {it l:Addr} {items:Array Value} (hh:A.handled=none) (hit:s.heap.IsRevIter it l ((items.size:Int) - 1)) (hl:s.heap.IsList l items) (hne:l≠it) (S:Addr) (hSi:S≠it) (hSl:S≠l) (res:Value) (c₀:Nat)
  (hS:s.heap.get? S=some { cls:=.type "list",data:=.seq #[] c₀ })
  (hR:∀ h' tk acc' c',(∀ b o,b≠S→b≠it→s.heap.get? b=some o→h'.get? b=some o)→h'.get? S=some { cls:=.type "list",dict:=none,data:=.seq acc' c',slots:=#[] }→ItemsOf (fun i v=>items[items.size - 1 - i]?=some v) acc' items.size→R (.ok (.ret res)) { s with heap:=h',toks:=tk })
  (hn:items.size≤sizeLine) :
  wpAny (model prog w) A.in1 (Builtin.List.listExtendWith (.ref S) (.ref it) res)
   (fun fin s'=>match fin with | .done f=>R (.ok f) s' | .again c'=>c'.quiet=true∧codeAny (model prog w) A c' R s') (fun e s'=>R (.error e) s') s:=by
 have hSf:S∉[it,l]:=by simp only [List.mem_cons,List.not_mem_nil,or_false,not_or]; exact ⟨hSi,hSl⟩
 have W:=Walks.listRev (prog:=prog) (w:=w) (A:=A.in1) hh it l hne items
 have st:(0:Nat)≤items.size∧s.heap.IsRevIter it l ((items.size:Int) - 1 - ((0:Nat):Int))∧s.heap.IsList l items:=⟨Nat.zero_le _,by simpa using hit,hl⟩
 unfold Builtin.List.listExtendWith
 refine wpAny_bind (wpAny_typeOf (T:="list_reverseiterator") hit.typeIs ?_)
 have h1:Builtin.List.listSameRef (.ref S) (.ref it)=false:=by simp [Builtin.List.listSameRef,hSi]
 have h2:(Value.type "list_reverseiterator" == Value.type "list")=false:=by decide
 have h3:(Value.type "list_reverseiterator" == Value.type "tuple")=false:=by decide
 simp only [h1,h2,h3,Bool.or_false,Bool.false_eq_true,if_false]
 refine wpAny_bind (wpAny_pyIter_revIter hit ?_)
 refine wpAny_bind (wpAny_holding (hint hit.typeIs ?_))
 refine wpAny_ite_split (fun z=>by cases z) (fun _=>?_)
 refine wpAny_pure ⟨plainId_quiet PySem.F.plain_extend_loop _,codeAny_extend_loopS W.toS hn S hSf res items.size 0 _ #[] c₀ rfl (Nat.zero_le _) st hS (ItemsOf.nil _) fun s' acc' c' hm hS' hacc=>?_⟩
 rw [Moved.eq_with hm]
 refine hR s'.heap s'.toks acc' c' (fun b o hb hbi e=>hm.heap b o (fun hmem=>?_) e) hS' hacc
 rcases List.mem_cons.mp hmem with e' | hmem
 ·exact hb e'
 ·exact hbi (List.mem_singleton.mp hmem)
theorem init {R:Result→Shared→Prop} {it l:Addr} {items:Array Value} (hh:A.handled=none) (hit:s.heap.IsRevIter it l ((items.size:Int) - 1)) (hl:s.heap.IsList l items) (hne:l≠it) (S:Addr) (hSi:S≠it) (hSl:S≠l)
  (hS:s.heap.get? S=some { cls:=.type "list",data:=.seq #[] })
  (hR:∀ h' tk acc' c',(∀ b o,b≠S→b≠it→s.heap.get? b=some o→h'.get? b=some o)→h'.get? S=some { cls:=.type "list",dict:=none,data:=.seq acc' c',slots:=#[] }→ItemsOf (fun i v=>items[items.size - 1 - i]?=some v) acc' items.size→R (.ok (.ret .none)) { s with heap:=h',toks:=tk })
  (hn:items.size≤sizeLine) :
  wpAny (model prog w) A.in1 (Builtin.«list.__init__» ⟨[.ref S,.ref it],[]⟩)
   (fun fin s'=>match fin with | .done f=>R (.ok f) s' | .again c'=>c'.quiet=true∧codeAny (model prog w) A c' R s') (fun e s'=>R (.error e) s') s:=by
 show wpAny _ _ (do let old ← Builtin.List.listItems (.ref S); Builtin.List.listUpdate (.ref S) (fun _=>#[]); letGo old.toList.reverse; Builtin.List.listExtendWith (.ref S) (.ref it) .none) _ _ s
 refine wpAny_bind ?_
 unfold Builtin.List.listItems
 refine wpAny_bind (wpAny_seqItems hS rfl (wpAny_pure ?_))
 show wpAny _ _ (updateSeq S (fun _=>#[]) >>= fun _=>letGo (#[]:Array Value).toList.reverse >>= fun _=>Builtin.List.listExtendWith (.ref S) (.ref it) .none) _ _ s
 refine wpAny_bind (wpAny_updateSeq hS rfl ?_)
 have hS₂:=Heap.get?_update_self (Obj.mapSeq (fun _=>(#[]:Array Value))) hS rfl
 have oth:∀ b o,b≠S→s.heap.get? b=some o→(s.heap.update S (Obj.mapSeq (fun _=>(#[]:Array Value)))).get? b=some o :=
  fun b o hb e=>(Heap.get?_update_other _ _ (Ne.symm hb)).trans e
 refine wpAny_bind (wpAny_letGo ?_)
 refine extend hh (hit.at fun o e=>oth it o hSi.symm e) (hl.at fun o e=>oth l o hSl.symm e) hne S hSi hSl .none _ hS₂ (fun h' tk acc' c' hk hS' hacc=>?_) hn
 exact hR h' tk acc' c' (fun b o hb hbi e=>hk b o hb hbi (oth b o hb e)) hS' hacc
end
end Rv
namespace L2
open PySem PySem.Spec PyProof.Rows
section
variable {X:Cx}
end
end L2
set_option maxHeartbeats 4000000
namespace L2
open PySem PySem.Spec PyProof.Rows
section
variable {X:Cx}
theorem op_in_seqK {K:PySem.W.Frag} (h:X.K=K):OpR X (compareOp .In) (rIn K false):=h ▸ op_in_seq
theorem op_notIn_seqK {K:PySem.W.Frag} (h:X.K=K):OpR X (compareOp .NotIn) (rIn K true):=h ▸ op_notIn_seq
theorem ps_lcomp {y:Str} {py spos:Pos} {i₀:Nat} {elt iter:Expr} {x:Str} {px:Pos} {ifs:List Expr} {scope:Scope} {pos:Pos} {cap:List Nat} {caps:List Str} {wi:TI} {tt:TT} {te:TE} (hN:X.N.Nodup) (hi₀:X.N[i₀]?=some y) (hy:Loc X.env.scope y) (hsw:swapsWith (.ListComp elt [⟨.Name x px,iter,ifs,0⟩] scope pos) (some (.Name y py)) spos.line X.env=pure true) (hc:X.calm=true) (hi:PI X (.Name x px) iter wi) (hkind:scope.kind=.function)
  (hnames:∀ y∈scope.names,y.2=.local→scope.names.lookup y.1=some .local) (hcell:∀ y∈scope.names,y.2≠.cell) (hx:scope.names.lookup x=some .local)
  (hfree:∀ y∈scope.names,y.2=.free→X.env.kindOf y.1=some .cell∨X.env.kindOf y.1=some .free) (hcap:cap.map (fun k=>X.N[k]?)=caps.map some)
  (hvis:∀ y∈caps,((relabel scope X.env).names.lookup y=some .cell∨(relabel scope X.env).names.lookup y=some .free)∧(X.env.kindOf y=some .cell∨X.env.kindOf y=some .free)) (nd:(x::caps).Nodup)
  (body:∀ cl s₃ H₃ fp,PIfs (X.comp scope cl (x::caps) s₃ H₃ fp) ifs tt∧PE (X.comp scope cl (x::caps) s₃ H₃ fp) elt te) (hs:∀ v,foldedSetIterable iter X.env v=pure v:=by intro _; rfl)
  (hfn:X.fn y=true∨X.env.scope.names.lookup y=some .local:=by first | exact .inl rfl | exact .inr rfl | assumption) :
  PS X (.Assign [.Name y py] (.ListComp elt [⟨.Name x px,iter,ifs,0⟩] scope pos) spos) (tAsg (tLC cap wi tt te) (gName i₀)):=by
 intro pins s σ H D I h
 have h:tLC cap wi tt te σ H (fun v H1=>D.nx (σ.set i₀ (some v)) H1):=h
 generalize hQ:(fun v H1=>D.nx (σ.set i₀ (some v)) H1:VK)=Q at h
 rw [exec_Assign_Name_used _ _ _ _ hsw]
 refine wpAny_bind (wpAny_standAt (wpAny_bind ?_))
 show wpAny _ X.A (do let _ ← comprehension (.ListComp elt [⟨.Name x px,iter,ifs,0⟩] scope pos) scope X.env _ (newList []) false (eval iter X.env) (some (assign (.Name y py) X.env))) _ _ s
 refine wpAny_bind (wpAny_mono ?_ (fun _ s' hq=>wpAny_pure (wpAny_pure hq)) fun _ _ e=>e)
 obtain ⟨cl,hcl,ca,cb⟩:=clos_of (scope:=scope) (env:=X.env) fun y hy hf=>I.ok.has y.1 (hfree y hy hf)
 refine wpAny_comprehension_free (use:=some (assign (.Name y py) X.env)) (Q:=fun _ s'=>SP X pins D .next s') rfl hs hcl hkind hnames (thn (hi pins s σ H _ I h) fun v s1 h1=>thn h1 fun itv s2 h2=>?_)
 obtain ⟨it,fp,tn,J,H2,e,I2,T,st2,f2,rest⟩:=h2
 subst e
 have hfr:H2 s2.heap.objs.size=none:=I2.hok.fresh (Nat.le_refl _)
 obtain ⟨W,⟨m0,w0⟩,turn⟩:=rest s2.heap.objs.size hfr
 refine wpAny_newObj_type (wpAny_newFunctionEnv hcell (by intro y hy; simp at hy) (fun h4 hn4 hs4=>?_) hkind)
 dsimp only at hn4 hs4 ⊢
 have I3:Inv X pins σ (upd H2 s2.heap.objs.size (.lst [])) { s2 with heap:=s2.heap.push { cls:=.type "list",dict:=none,data:=.seq ([]:List Value).toArray } } :=
  I2.laid (t':=s2.toks) (o:=.lst []) (fun b o e=>Heap.get?_push_of_some _ e) (Nat.le_refl _) ⟨Nat.zero_le _,[],0,.nil,Heap.get?_push_size _ rfl⟩
 generalize hs3:({ s2 with heap:=s2.heap.push { cls:=.type "list",dict:=none,data:=.seq ([]:List Value).toArray } }:Shared)=s3 at I3
 have hz3:s3.heap=s2.heap.push { cls:=.type "list",dict:=none,data:=.seq ([]:List Value).toArray }:=by rw [← hs3]
 rw [← hz3] at hn4 hs4 ⊢
 have kp3:∀ b o,s3.heap.get? b=some o→h4.get? b=some o:=fun b o e=>hs4.extBut b o (Nat.ne_of_lt (Heap.lt_size e)) (Heap.get?_push_of_some _ e)
 have lt2:∀ b∈fp,b<s2.heap.objs.size:=fun b hb=>let ⟨o,e,_⟩:=T.obj 0 _ st2 b hb; Heap.lt_size e
 have hz:s3.heap.objs.size=s2.heap.objs.size+1:=by rw [hz3,Heap.size_push]
 have lt3:∀ b∈fp,b<s3.heap.objs.size:=fun b hb=>by rw [hz]; exact Nat.lt_succ_of_lt (lt2 b hb)
 have f3:∀ b∈fp,FpOk X pins (upd H2 s2.heap.objs.size (.lst [])) b:=fun b hb=>⟨by rw [upd_ne (Nat.ne_of_lt (lt2 b hb))]; exact (f2 b hb).1,(f2 b hb).2⟩
 have ok':(X.comp scope cl (x::caps) s3 (upd H2 s2.heap.objs.size (.lst [])) fp).Ok:=comp_ok I3 f3 lt3 hkind hcell ca cb
 have I4:Inv (X.comp scope cl (x::caps) s3 (upd H2 s2.heap.objs.size (.lst [])) fp) [] (none::capV σ cap) (upd H2 s2.heap.objs.size (.lst [])) { s3 with heap:=h4,toks:=s2.toks+([]:List (Str×Value)).length } :=
  inv_comp I3 ok' ca cb hcell hcap hvis hn4 kp3
 have st4:tn 0 h4:=T.keep _ _ _ st2 fun b hb o e=>kp3 b o (by rw [hz3]; exact Heap.get?_push_of_some _ e)
 obtain ⟨bI,bE⟩:=body cl s3 (upd H2 s2.heap.objs.size (.lst [])) fp
 have stat:∀ {H':Hp},(∀ b∈fp,H' b=none)→∀ b∈fp,FpOk (X.comp scope cl (x::caps) s3 (upd H2 s2.heap.objs.size (.lst [])) fp) [] H' b:=fun {H'} hn b hb =>
  ⟨hn b hb,Nat.ne_of_lt (lt3 b hb),ok'.exfs b hb,.inl hb,fun y c hy=>(f2 b hb).2.2.2.2.1 y c (ca y c hy),fun p hp=>absurd (show p∈([]:List (Addr×Obj)) from hp) (by simp)⟩
 have es:({ s2 with heap:=h4,toks:=s2.toks+([]:List (Str×Value)).length }:Shared)={ s3 with heap:=h4,toks:=s2.toks+([]:List (Str×Value)).length }:=by rw [← hs3]
 rw [es]
 have fin:∀ {σ':St} {H':Hp} {s':Shared},Inv (X.comp scope cl (x::caps) s3 (upd H2 s2.heap.objs.size (.lst [])) fp) [] σ' H' s'→Q (.ref s2.heap.objs.size) H' →
   compPost (model X.prog X.w) X.A X.xe (some (assign (.Name y py) X.env)) (fun _ s'=>SP X pins D .next s') (.ref s2.heap.objs.size) s3.heap.objs.size (.ok .next) s':=fun {σ' H' s'} J' q=>by
  obtain ⟨m,hn,_⟩:=J'.loc
  have IX:Inv X pins σ H' s':=I3.call' J'.os J'.base J'.hok J'.bare fun b hb=>⟨(f3 b hb).2.2.2.1,(f3 b hb).2.1,(f3 b hb).2.2.2.2.1,(f3 b hb).2.2.2.2.2⟩
  have fc:=I3.fpOk (Nat.le_refl _) (I3.hok.fresh (Nat.le_refl _))
  have hfree:H' s3.heap.objs.size=none:=J'.free
  obtain ⟨oC,es,ep,hoC,hdC,rC⟩:=id hn
  have hnc:∀ v,oC.data≠.cell v:=fun v z=>by rw [hdC] at z; cases z
  have IXp:=IX.pinned (fp:=[s3.heap.objs.size]) (fun b hb=>by rw [List.mem_singleton.mp hb]; exact ⟨hfree,fc.2⟩) (fun b hb=>by rw [List.mem_singleton.mp hb]; exact ⟨oC,hoC,hnc⟩)
  subst hQ
  have pg:=pg_name (X:=X) (i:=i₀) (x:=y) (pos:=py) hN hi₀ hy hfn
  refine wpAny_mono (pg _ s' σ H' (.ref s2.heap.objs.size) (.ref s2.heap.objs.size) D.nx IXp rfl q) (fun _ s8 ⟨σ8,H8,I8,q8⟩=>?_) fun _ _ f=>f
  have pC:=I8.pin (s3.heap.objs.size,oC) (List.mem_append_right _ (List.mem_append_right _ (mem_pinsAt (List.mem_singleton.mpr rfl) hoC)))
  refine ⟨m,⟨oC,es,ep,pC.1,hdC,rC⟩,fun h' sb=>?_⟩
  exact ⟨σ8,H8,I8.unpinned.turned (t':=s8.toks) (fun b o hb e=>sb.extBut b o hb e) pC.2.1 fc.2.1 fc.2.2.2.1 fc.2.2.2.2.1 fc.2.2.2.2.2,q8⟩
 have loop:codeAny (model X.prog X.w) X.A (.compLoop (.ListComp elt [⟨.Name x px,iter,ifs,0⟩] scope pos) 0 (.ref it) (.ref s2.heap.objs.size) (compEnvC scope cl s3.heap.objs.size X.env))
   (compPost (model X.prog X.w) X.A X.xe (some (assign (.Name y py) X.env)) (fun _ s'=>SP X pins D .next s') (.ref s2.heap.objs.size) s3.heap.objs.size) { s3 with heap:=h4,toks:=s2.toks+([]:List (Str×Value)).length }:=by
  refine codeAny_compLoop_tests (fun n s'=>∃ i o H',Inv (X.comp scope cl (x::caps) s3 (upd H2 s2.heap.objs.size (.lst [])) fp) [] (o::capV σ cap) H' s'∧tn i s'.heap∧(∀ b∈fp,H' b=none)∧W i n H') ?_ m0
   ⟨0,none,_,I4,st4,fun b hb=>(f3 b hb).1,w0⟩
  rintro n s5 ⟨i,o,H5,I5,st5,fr5,w5⟩
  rcases turn i n H5 w5 with ⟨stop,qn⟩ | ⟨go,step⟩
  ·refine thn (T.done (X.comp scope cl (x::caps) s3 (upd H2 s2.heap.objs.size (.lst [])) fp) rfl rfl rfl hc i [] s5 _ H5 _ I5 (stat fr5) st5 stop) fun r s6 ⟨hr,I6⟩=>?_
   subst hr
   exact fin I6 qn
  ·refine thn (T.item (X.comp scope cl (x::caps) s3 (upd H2 s2.heap.objs.size (.lst [])) fp) rfl rfl rfl hc i [] s5 _ H5 _ I5 (stat fr5) st5 go) fun r s6 ⟨u,hr,h6⟩=>?_
   subst hr
   dsimp only
   show wpAny (model X.prog X.w) X.A ((pure ():Sem Unit) >>= fun _=>assign (.Name x px) (compEnvC scope cl s3.heap.objs.size X.env) u) _ _ s6
   refine wpAny_bind (thn h6 fun _ s7 ⟨y,H7,I7,r7,y7,st7,fr7⟩=>?_)
   have I7':=I7.pinned (stat fr7) (T.obj _ _ st7)
   have pg:=pg_name (X:=X.comp scope cl (x::caps) s3 (upd H2 s2.heap.objs.size (.lst [])) fp) (i:=0) (x:=x) (pos:=px) nd rfl (.inl (lookup_relabel_local hx)) (.inr (lookup_relabel_local hx))
   refine wpAny_mono (pg _ s7 _ H7 y u (fun σ' H'=>σ'=some y::capV σ cap∧H'=H7) I7' r7 ⟨rfl,rfl⟩) (fun _ s8 ⟨σ8,H8,I8,e8,e8'⟩=>?_) fun _ _ f=>f.elim
   subst e8 e8'
   have again:∀ {H9:Hp} {s9:Shared} {m':Nat},Inv (X.comp scope cl (x::caps) s3 (upd H2 s2.heap.objs.size (.lst [])) fp) ([]++pinsAt fp s7.heap) (some y::capV σ cap) H9 s9→m'<n→W (i+1) m' H9 →
     ∃ m,m<n∧∃ i o H',Inv (X.comp scope cl (x::caps) s3 (upd H2 s2.heap.objs.size (.lst [])) fp) [] (o::capV σ cap) H' s9∧tn i s9.heap∧(∀ b∈fp,H' b=none)∧W i m H':=fun {H9 s9 m'} I9 hm w9=>by
    have pin9:=fun b hb o e=>I9.pin (b,o) (List.mem_append_right _ (List.mem_append_right _ (mem_pinsAt hb e)))
    refine ⟨m',hm,i+1,some y,H9,I9.unpinned,T.keep _ _ _ st7 fun b hb o e=>(pin9 b hb o e).1,fun b hb=>?_,w9⟩
    obtain ⟨o,e,d⟩:=T.obj _ _ st7 b hb
    exact (pin9 b hb o e).2.1
   refine wpAny_mono (bI _ s8 _ H8 _ I8 (step y H8 y7)) (fun ok s9 ⟨H9,I9,q9⟩=>?_) fun _ _ f=>f.elim
   cases ok with
   | false =>
    rw [if_neg Bool.false_ne_true] at q9 ⊢
    obtain ⟨m',hm,w9⟩:=q9
    exact again I9 hm w9
   | true =>
    rw [if_pos rfl] at q9 ⊢
    refine wpAny_mono (bE _ s9 _ H9 _ I9 q9) (fun z s10 ⟨v10,H10,I10,r10,ys,m',hl,hsz,hm,w10⟩=>?_) fun _ _ f=>f.elim
    refine wpAny_mono (mt_append (X:=X.comp scope cl (x::caps) s3 (upd H2 s2.heap.objs.size (.lst [])) fp) _ s10 _ H10 (.ref s2.heap.objs.size) [v10] (.ref s2.heap.objs.size) [z] (fun _ H'=>H'=upd H10 s2.heap.objs.size (.lst (ys++[v10]))) I10 rfl (.cons r10 .nil) ⟨_,ys,v10,rfl,rfl,hl,hsz,rfl⟩) (fun _ s11 ⟨_,H11,I11,_,e11⟩=>?_) fun _ _ f=>f.elim
    subst e11
    exact again I11 hm w10
 refine codeAny_compStart_list loop (T.self _ 0 _ _ _ st4 loop)
end
end L2
namespace L2
open PySem PySem.Spec PyProof.Rows
section
variable {κ:Type} [DecidableEq κ]
def valV (kvs:List (κ×V)) (k:κ):Option V:=(kvs.find? fun kv=>decide (kv.1=k)).map (·.2)
def putK (kvs:List (κ×V)) (k:κ) (v:V):List (κ×V) :=
 if (kvs.any fun kv=>decide (kv.1=k))=true then kvs.map (fun kv=>if kv.1=k then (kv.1,v) else kv) else kvs++[(k,v)]
def dropK (kvs:List (κ×V)) (k:κ):List (κ×V):=kvs.filter fun kv=>decide (kv.1≠k)
theorem valV_pos {p:κ×V} {r:List (κ×V)} {k:κ} (e:p.1=k):valV (p::r) k=some p.2:=by simp [valV,List.find?_cons,e]
theorem valV_neg {p:κ×V} {r:List (κ×V)} {k:κ} (e:¬ p.1=k):valV (p::r) k=valV r k:=by simp [valV,List.find?_cons,e]
theorem valV_any (k:κ):∀ kvs:List (κ×V),(kvs.any fun kv=>decide (kv.1=k))=(valV kvs k).isSome
 | []=>rfl
 | p::r=>by
  rw [List.any_cons]
  by_cases e:p.1=k
  ·simp only [valV_pos e,decide_eq_true e,Bool.true_or,Option.isSome_some]
  ·rw [valV_neg e,decide_eq_false e,Bool.false_or]; exact valV_any k r
theorem RelO.isSome_eq {o:Option V} {u:Option Value} (r:RelO o u):o.isSome=u.isSome:=by
 cases o with
 | none=>cases u with
  | none=>rfl
  | some _=>exact (show False from r).elim
 | some _=>cases u with
  | none=>exact (show False from r).elim
  | some _=>rfl
theorem RelO.getD {o:Option V} {u:Option Value} {d:V} {d':Value} (r:RelO o u) (rd:RelV d d'):RelV (o.getD d) (u.getD d'):=by
 cases o with
 | none=>cases u with
  | none=>exact rd
  | some _=>exact (show False from r).elim
 | some _=>cases u with
  | none=>exact (show False from r).elim
  | some _=>exact r
theorem KV.val {kvs:List (κ×V)} {vs:List (κ×Value)} (r:KV kvs vs) (k:κ):RelO (valV kvs k) (valueAt vs k):=by
 unfold KV at r
 induction r with
 | nil=>exact True.intro
 | @cons p q ps qs h t ih =>
  obtain ⟨h1,h2⟩:=h
  by_cases e:p.1=k
  ·have e':q.1=k:=h1.symm.trans e
   have b:valueAt (q::qs) k=some q.2:=by simp [valueAt,List.find?_cons,e']
   rw [valV_pos e,b]; exact h2
  ·have e':¬ q.1=k:=fun z=>e (h1.trans z)
   have b:valueAt (q::qs) k=valueAt qs k:=by simp [valueAt,List.find?_cons,e']
   rw [valV_neg e,b]; exact ih
theorem KV.any {kvs:List (κ×V)} {vs:List (κ×Value)} (r:KV kvs vs) (k:κ):(kvs.any fun kv=>decide (kv.1=k))=vs.any fun kv=>decide (kv.1=k):=by
 unfold KV at r
 induction r with
 | nil=>rfl
 | cons h t ih=>rw [List.any_cons,List.any_cons,ih,h.1]
theorem KV.repl {kvs:List (κ×V)} {vs:List (κ×Value)} (r:KV kvs vs) (k:κ) {y:V} {u:Value} (ry:RelV y u) :
  KV (kvs.map fun kv=>if kv.1=k then (kv.1,y) else kv) (vs.map fun kv=>if kv.1=k then (kv.1,u) else kv):=by
 unfold KV at r ⊢
 induction r with
 | nil=>exact .nil
 | @cons p q ps qs h t ih =>
  rw [List.map_cons,List.map_cons]
  refine .cons ?_ ih
  obtain ⟨h1,h2⟩:=h
  by_cases e:p.1=k
  ·rw [if_pos e,if_pos (h1.symm.trans e)]; exact ⟨h1,ry⟩
  ·rw [if_neg e,if_neg (fun z=>e (h1.trans z))]; exact ⟨h1,h2⟩
theorem KV.put {kvs:List (κ×V)} {vs:List (κ×Value)} (r:KV kvs vs) (k:κ) {y:V} {u:Value} (ry:RelV y u):KV (putK kvs k y) (stored vs k u):=by
 unfold putK stored
 rw [r.any k]
 by_cases e:(vs.any fun kv=>decide (kv.1=k))=true
 ·rw [if_pos e,if_pos e]; exact r.repl k ry
 ·rw [if_neg e,if_neg e]; exact Paired.snoc r ⟨rfl,ry⟩
theorem KV.drop {kvs:List (κ×V)} {vs:List (κ×Value)} (r:KV kvs vs) (k:κ):KV (dropK kvs k) (without vs k):=by
 unfold KV at r ⊢
 unfold dropK without
 induction r with
 | nil=>exact .nil
 | @cons p q ps qs h t ih =>
  obtain ⟨h1,h2⟩:=h
  rw [List.filter_cons,List.filter_cons]
  by_cases e:p.1=k
  ·have a:¬ decide (p.1≠k)=true:=by simp [e]
   have b:¬ decide (q.1≠k)=true:=by simp [h1.symm.trans e]
   rw [if_neg a,if_neg b]; exact ih
  ·have e':¬ q.1=k:=fun z=>e (h1.trans z)
   have a:decide (p.1≠k)=true:=by simp [e]
   have b:decide (q.1≠k)=true:=by simp [e']
   rw [if_pos a,if_pos b]; exact .cons ⟨h1,h2⟩ ih
theorem KV.keys {kvs:List (κ×V)} {vs:List (κ×Value)} (r:KV kvs vs):kvs.map (·.1)=vs.map (·.1):=by
 unfold KV at r
 induction r with
 | nil=>rfl
 | cons h t ih=>rw [List.map_cons,List.map_cons,ih,h.1]
theorem KV.length {kvs:List (κ×V)} {vs:List (κ×Value)} (r:KV kvs vs):kvs.length=vs.length:=Paired.length r
end
abbrev KT (H:Hp):List (List Key×V)→List (List Key×Addr×Value)→Prop:=Paired fun p q=>p.1=q.1∧H q.2.1=some (.tup (p.1.map kV))∧RelV p.2 q.2.2
theorem KT.val {H:Hp} {kvs:List (List Key×V)} {xs:List (List Key×Addr×Value)} (r:KT H kvs xs) (k:List Key):RelO (valV kvs k) ((atKey xs k).map (·.2)):=by
 induction r with
 | nil=>exact True.intro
 | @cons p q ps qs h t ih =>
  obtain ⟨h1,_,h2⟩:=h
  by_cases e:p.1=k
  ·have e':q.1=k:=h1.symm.trans e
   have b:atKey (q::qs) k=some q.2:=by simp [atKey,List.find?_cons,e']
   rw [valV_pos e,b]; exact h2
  ·have e':¬ q.1=k:=fun z=>e (h1.trans z)
   have b:atKey (q::qs) k=atKey qs k:=by simp [atKey,List.find?_cons,e']
   rw [valV_neg e,b]; exact ih
theorem KT.repl {H:Hp} {kvs:List (List Key×V)} {xs:List (List Key×Addr×Value)} (r:KT H kvs xs) (k:List Key) {y:V} {u:Value} (ry:RelV y u) :
  KT H (kvs.map fun kv=>if kv.1=k then (kv.1,y) else kv) (xs.map (putAt k u)):=by
 induction r with
 | nil=>exact .nil
 | @cons p q ps qs h t ih =>
  rw [List.map_cons,List.map_cons]
  refine .cons ?_ ih
  obtain ⟨h1,h2,h3⟩:=h
  unfold putAt
  by_cases e:p.1=k
  ·rw [if_pos e,if_pos (h1.symm.trans e)]; exact ⟨h1,h2,ry⟩
  ·rw [if_neg e,if_neg (fun z=>e (h1.trans z))]; exact ⟨h1,h2,h3⟩
theorem KT.put {H:Hp} {kvs:List (List Key×V)} {xs:List (List Key×Addr×Value)} (r:KT H kvs xs) (k:List Key) {b:Addr} {y:V} {u:Value} (hb:H b=some (.tup (k.map kV))) (ry:RelV y u) :
  KT H (putK kvs k y) (storedH xs k b u):=by
 have e:(kvs.any fun kv=>decide (kv.1=k))=(atKey xs k).isSome:=by
  rw [valV_any,(r.val k).isSome_eq,Option.isSome_map]
 unfold putK storedH
 rw [e]
 by_cases q:(atKey xs k).isSome=true
 ·rw [if_pos q,if_pos q]; exact r.repl k ry
 ·rw [if_neg q,if_neg q]; exact Paired.snoc r ⟨rfl,hb,ry⟩
theorem KT.keeps {H H':Hp} {kvs:List (List Key×V)} {xs:List (List Key×Addr×Value)} (r:KT H kvs xs) (ht:∀ b ys,H b=some (.tup ys)→H' b=some (.tup ys)):KT H' kvs xs :=
 Paired.mapP r fun _ _ z=>⟨z.1,ht _ _ z.2.1,z.2.2⟩
section
variable {P:Program} {w:World} {H:Hp} {h:Heap} {a:Addr}
end
def DGet (H:Hp) (a:Addr) (y:V) (r:Option V):Prop :=
 (∃ kvs k,Rd H a (.dK kvs)∧y=kV k∧r=valV kvs k)∨∃ kvs k b,Rd H a (.dT kvs)∧y=.ref b∧H b=some (.tup (k.map kV))∧r=valV kvs k
def DPut (H:Hp) (a:Addr) (y v:V) (H':Hp):Prop :=
 (∃ kvs k,H a=some (.dK kvs)∧y=kV k∧kvs.length<sizeLine∧H'=upd H a (.dK (putK kvs k v))) ∨
 ∃ kvs k b,H a=some (.dT kvs)∧y=.ref b∧H b=some (.tup (k.map kV))∧kvs.length<sizeLine∧H'=upd H a (.dT (putK kvs k v))
theorem DGet.k {H:Hp} {a:Addr} {kvs:List (Key×V)} {k:Key} (e:H a=some (.dK kvs)):DGet H a (kV k) (valV kvs k):=.inl ⟨kvs,k,.inl e,rfl,rfl⟩
theorem DGet.t {H:Hp} {a b:Addr} {kvs:List (List Key×V)} {k:List Key} (e:H a=some (.dT kvs)) (eb:H b=some (.tup (k.map kV))):DGet H a (.ref b) (valV kvs k):=.inr ⟨kvs,k,b,.inl e,rfl,eb,rfl⟩
theorem DPut.k {H:Hp} {a:Addr} {kvs:List (Key×V)} {k:Key} {v:V} (e:H a=some (.dK kvs)) (hl:kvs.length<sizeLine):DPut H a (kV k) v (upd H a (.dK (putK kvs k v))):=.inl ⟨kvs,k,e,rfl,hl,rfl⟩
theorem DPut.t {H:Hp} {a b:Addr} {kvs:List (List Key×V)} {k:List Key} {v:V} (e:H a=some (.dT kvs)) (eb:H b=some (.tup (k.map kV))) (hl:kvs.length<sizeLine) :
  DPut H a (.ref b) v (upd H a (.dT (putK kvs k v))):=.inr ⟨kvs,k,b,e,rfl,eb,hl,rfl⟩
section
variable {X:Cx} {pins:List (Addr×Obj)} {σ:St} {H:Hp} {s:Shared} {a:Addr} {y v:V} {u r:Value} {o:Option V} {A:Around} {E:Value→Shared→Prop}
end
section
variable {X:Cx} {pins:List (Addr×Obj)} {σ:St} {H:Hp} {s:Shared} {a:Addr} {kvs:List (Key×V)} {k:Key} {u:Value} {A:Around} {E:Value→Shared→Prop}
end
section
variable {X:Cx} {o i e value:Expr} {pos pos' tpos:Pos} {td ty tv:TE}
end
section
variable {X:Cx} {pos:Pos}
end
structure M1 (X:Cx) (o:Expr) (m:Str) (apos:Pos) (e:Expr) (cpos:Pos):Prop where
 base:attributeBase o m X.env (eval o X.env)=eval o X.env
 few:((backTo cpos (starEach [e] X.env)).all (fun x=>!x.1) && (backToKw cpos (keywordEach [] X.env)).all (fun x=>x.1.isSome)
  && decide (([e]:List Expr).length+([]:List Keyword).length+(if ([]:List Keyword).isEmpty then 0 else 1)<30))=true
 line:(apos.endLine == cpos.line)=true
 trees:backTo cpos (starEach [e] X.env)=[(false,eval e X.env)]
structure M2 (X:Cx) (o:Expr) (m:Str) (apos:Pos) (e f:Expr) (cpos:Pos):Prop where
 base:attributeBase o m X.env (eval o X.env)=eval o X.env
 few:((backTo cpos (starEach [e,f] X.env)).all (fun x=>!x.1) && (backToKw cpos (keywordEach [] X.env)).all (fun x=>x.1.isSome)
  && decide (([e,f]:List Expr).length+([]:List Keyword).length+(if ([]:List Keyword).isEmpty then 0 else 1)<30))=true
 line:(apos.endLine == cpos.line)=true
 trees:backTo cpos (starEach [e,f] X.env)=[(false,eval e X.env),(false,eval f X.env)]
section
variable {X:Cx} {pins:List (Addr×Obj)} {σ:St} {H:Hp} {s:Shared} {a:Addr} {y d:V} {u r:Value} {o:Option V} {A:Around} {E:Value→Shared→Prop}
end
section
variable {X:Cx} {o e f:Expr} {apos cpos:Pos} {td ty tx:TE}
end
section
variable {X:Cx} {pins:List (Addr×Obj)} {σ:St} {H:Hp} {s:Shared} {a:Addr} {kvs:List (Key×V)} {A:Around} {E:Value→Shared→Prop}
end
section
variable {X:Cx} {pins:List (Addr×Obj)} {σ:St} {H:Hp} {s:Shared} {a:Addr} {y:V} {u:Value} {A:Around} {E:Value→Shared→Prop}
end
end L2
set_option maxHeartbeats 4000000
namespace L2
open PySem PySem.Spec PyProof.Rows
structure LL (H:Hp) (l:Addr) (as:List Addr) (pss:List (List Int)):Prop where
 lst:H l=some (.lst (as.map V.ref))
 len:as.length=pss.length
 at_:∀ (i:Nat) (a:Addr) (p:List Int),as[i]?=some a→pss[i]?=some p→H a=some (.lst (p.map V.int))
theorem LL.same {H H':Hp} {l:Addr} {as:List Addr} {pss:List (List Int)} (x:LL H l as pss) (s:Same H H'):LL H' l as pss:=⟨s _ _ x.lst,x.len,fun i a p h1 h2=>s _ _ (x.at_ i a p h1 h2)⟩
theorem refs_of:∀ {as:List Addr} {its:List Value},Vals (as.map V.ref) its→its=as.map Value.ref
 | [],_,.nil=>rfl
 | a::as,_,.cons r t=>by
  obtain rfl:_=Value.ref a:=r
  rw [refs_of t]
  rfl
section
variable {X:Cx}
theorem eqAt_lists {pins:List (Addr×Obj)} {s:Shared} {σ:St} {H:Hp} {A:Around} {a b:Addr} {ns ms:List Int} (I:Inv X pins σ H s) (ha:SqL X.K H a (ns.map V.int)) (hb:SqL X.K H b (ms.map V.int)) (hu:A.units<cLine) :
  SeqAt.EqAt A s (.ref a) (.ref b) (decide (ns=ms)):=by
 by_cases e:a=b
 ·subst e
  have e2:=I.list_inj ha hb
  have e3:ns=ms:=by
   have:∀ {x y:List Int},x.map V.int=y.map V.int→x=y:=fun {x y} h=>by
    have:=congrArg (List.map fun v=>match v with | V.int i=>i | _=>0) h
    simpa [Function.comp_def] using this
   exact this e2
  rw [decide_eq_true e3]
  exact SeqAt.EqAt.same _
 ·obtain ⟨us,r1,p1,_⟩:=I.list ha
  obtain ⟨ws,r2,p2,_⟩:=I.list hb
  have l1:=r1.length
  have l2:=r2.length
  refine SeqAt.EqAt.of_refs e ?_
  by_cases el:ns.length=ms.length
  ·have el':(ns.map V.int).length=(ms.map V.int).length:=by rw [List.length_map,List.length_map]; exact el
   have h:=SeqAt.RcAt.lists (e:=fun j=>eqV ((ns.map V.int).getD j .non) ((ms.map V.int).getD j .non)) p1.isList p2.isList (by rw [List.size_toArray,List.size_toArray]; lia) hu (fun j h1 h2=>eqAt_items r1 r2 (flat_ints _) (flat_ints _) j h1 h2)
   rw [List.size_toArray,← l1,eqVs_all el',eqVs_ints] at h
   exact h
  ·have h:=SeqAt.RcAt.lists_lengths (A:=A) p1.isList p2.isList (by rw [List.size_toArray,List.size_toArray]; rw [List.length_map] at l1 l2; simp; lia) hu
   rw [decide_eq_false (fun z=>el (by rw [z]))]
   exact h
theorem in1_units {k:Nat} {A:Around} (r:Room k A):A.in1.units<cLine:=by
 have:=r.units
 show A.units+1<cLine
 lia
end
end L2
set_option maxHeartbeats 4000000
namespace L2
open PySem PySem.Spec PyProof.Rows
section
variable {X:Cx}
end
theorem ix_listK {X:Cx} {K:PySem.W.Frag} (h:X.K=K):IxR X (rIxL K):=h ▸ ix_list
end L2
set_option maxHeartbeats 4000000
namespace L2
open PySem PySem.Spec PyProof.Rows
def Exc0 (h:Heap) (e:Addr) (C:Value) (od:Option Addr):Prop:=∃ oe vs,h.get? e=some oe∧oe.cls=C∧oe.dict=od∧oe.data=.fields vs∧vs[1]?=some .none
def ExcT (h:Heap) (e T:Addr) (C:Value) (od:Option Addr) (fl:Value):Prop :=
 ∃ oe vs oT ts,h.get? e=some oe∧oe.cls=C∧oe.dict=od∧oe.data=.fields vs∧vs[1]?=some (.ref T)∧T≠e∧h.get? T=some oT∧oT.data=.fields ts∧ts[3]?=some fl
structure Nt (fs xs:List Addr) (h h':Heap):Prop where
 keep:∀ b o,h.get? b=some o→b∉fs→b∉xs→h'.get? b=some o
 slot:∀ b o,h.get? b=some o→b∉xs→∃ sl,h'.get? b=some { o with slots:=sl }
 there:∀ b o,h.get? b=some o→∃ o',h'.get? b=some o'
theorem Nt.refl {fs xs:List Addr} {h:Heap}:Nt fs xs h h:=⟨fun _ _ e _ _=>e,fun _ o e _=>⟨o.slots,e⟩,fun _ o e=>⟨o,e⟩⟩
theorem Nt.trans {fs xs ys:List Addr} {h h' h'':Heap} (a:Nt fs xs h h') (b:Nt fs ys h' h''):Nt fs (xs++ys) h h'' :=
 ⟨fun c o e hf hx=>b.keep c o (a.keep c o e hf fun z=>hx (List.mem_append.mpr (.inl z))) hf fun z=>hx (List.mem_append.mpr (.inr z)),
  fun c o e hx=>by
  obtain ⟨sl,e1⟩:=a.slot c o e fun z=>hx (List.mem_append.mpr (.inl z))
  obtain ⟨sl',e2⟩:=b.slot c _ e1 fun z=>hx (List.mem_append.mpr (.inr z))
  exact ⟨sl',e2⟩,
  fun c o e=>by
  obtain ⟨o',e1⟩:=a.there c o e
  exact b.there c o' e1⟩
theorem Un.noted {fs xs:List Addr} {H0 H:Hp} {h0 h h':Heap} (u:Un fs [] H0 H h0 h) (hx:∀ b∈xs,h0.get? b=none) (k:Nt fs xs h h'):Un fs [] H0 H h0 h' where
 keep:=fun b o e n hf he=>k.keep b o (u.keep b o e n hf he) hf fun z=>by rw [hx b z] at e; cases e
 slot:=fun b o e n hf he=>by
  obtain ⟨sl,e1⟩:=u.slot b o e n hf he
  obtain ⟨sl',e2⟩:=k.slot b _ e1 fun z=>by rw [hx b z] at e; cases e
  exact ⟨sl',e2⟩
 free:=u.free
 there:=fun b o e he=>by
  obtain ⟨o',e1⟩:=u.there b o e he
  exact k.there b o' e1
 tups:=u.tups
 frzs:=u.frzs
 tbls:=u.tbls
theorem HOk.noted {P:Program} {w:World} {fs xs:List Addr} {H:Hp} {h h':Heap} (x:HOk P w H h) (hf:∀ b∈fs,H b=none) (hx:∀ b∈xs,H b=none) (k:Nt fs xs h h'):HOk P w H h':=fun a o e =>
 (x a o e).stay (fun b u n q=>by
  have hs:∃ v,H b=some v:=by
   rcases n with rfl | n
   ·exact ⟨o,e⟩
   ·exact ⟨_,n⟩
  obtain ⟨v,hv⟩:=hs
  exact k.keep b u q (fun z=>by rw [hf b z] at hv; cases hv) fun z=>by rw [hx b z] at hv; cases hv) (fun _ q=>q) fun _ _ q=>q
theorem dict_mapFields (f:Array Value→Array Value) (o:Obj):(Obj.mapFields f o).dict=o.dict:=by
 unfold Obj.mapFields
 split <;> rfl
section
variable {M:Model} {A:Around} {E:Value→Shared→Prop} {s:Shared}
theorem note_entry {base:Heap} {env:Env} {outer:List Env} {L e:Addr} {oe:Obj} {vs:Array Value} {head:Value} {hadNext:Bool} {Q:Unit→Shared→Prop}
  (hfr:A.frames=some (env::outer)) (hl:s.heap.FunFrames base (env::outer)) (hf:env.frame=some L)
  (he:s.heap.get? e=some oe) (hd:oe.data=.fields vs) (hsz:1<vs.size)
  (h:∀ h' T,Nt (frs (env::outer)) [e] s.heap h'→ExcT h' e T oe.cls oe.dict (rawInt L)→s.heap.get? T=none→Q () { s with heap:=h' }) :
  wpAny M A (do let a ← frameOf env; let pl ← entryPlaceOf L hadNext; let b ← EntryCells.newEntry head a .none (rawInt L) .none pl; setField (.ref e) 1 b) Q E s:=by
 have hene:e∉(env::outer).filterMap (·.frame):=fun hm=>by
  obtain ⟨_,o,ho,hnf⟩:=hl.mem hm
  rw [he] at ho; injection ho with ho; subst ho; exact hnf vs hd
 refine wpAny_bind (wpAny_frameOf_fun hfr hl hf fun h₁ hs₁=>?_)
 refine wpAny_bind (wpAny_entryPlaceOf fun pl hpl=>?_)
 unfold EntryCells.newEntry newFields
 refine wpAny_bind (wpAny_newObj_type ?_ (hpl.sizeOk5 _ _ _ _ _))
 have he₁:h₁.get? e=some oe:=(hs₁.2.1 e hene).trans he
 generalize hT:({ cls:=.type "traceback",dict:=none,data:=.fields ([head,.ref L,.none,rawInt L,.none]++(if pl.isEmpty then List.replicate 6 Value.none else pl)).toArray }:Obj)=oT
 have he₂:=Heap.get?_push_of_some (h:=h₁) oT he₁
 refine wpAny_setField he₂ hd hsz (h _ h₁.objs.size ?_ ?_ ?_)
 ·have keep:∀ b o,b≠e→h₁.get? b=some o→((h₁.push oT).update e (Obj.mapFields (·.setIfInBounds 1 (Value.ref h₁.objs.size)))).get? b=some o:=fun b o hbe hb=>by
   rw [Heap.get?_update_other _ _ (Ne.symm hbe)]
   exact Heap.get?_push_of_some _ hb
  have hd₃:=Obj.data_mapFields hd (·.setIfInBounds 1 (Value.ref h₁.objs.size))
  have he₃:=Heap.get?_update_self (Obj.mapFields (·.setIfInBounds 1 (Value.ref h₁.objs.size))) he₂ (Obj.isFreed_of_fields hd₃)
  refine ⟨fun b o q hb hx=>keep b o (fun z=>hx (by rw [z]; exact List.mem_singleton.mpr rfl)) ((hs₁.2.1 b hb).trans q),fun b o q hx=>?_,fun b o q=>?_⟩
  ·obtain ⟨sl,e1⟩:=hs₁.2.2 b o q
   exact ⟨sl,keep b _ (fun z=>hx (by rw [z]; exact List.mem_singleton.mpr rfl)) e1⟩
  ·by_cases hb:b=e
   ·subst hb
    exact ⟨_,he₃⟩
   ·obtain ⟨sl,e1⟩:=hs₁.2.2 b o q
    exact ⟨_,keep b _ hb e1⟩
 ·have hTe:h₁.objs.size≠e:=Nat.ne_of_gt (Heap.lt_size he₁)
  have hd₃:=Obj.data_mapFields hd (·.setIfInBounds 1 (Value.ref h₁.objs.size))
  have he₃:=Heap.get?_update_self (Obj.mapFields (·.setIfInBounds 1 (Value.ref h₁.objs.size))) he₂ (Obj.isFreed_of_fields hd₃)
  have hT₃:((h₁.push oT).update e (Obj.mapFields (·.setIfInBounds 1 (Value.ref h₁.objs.size)))).get? h₁.objs.size=some oT :=
   (Heap.get?_update_other (h₁.push oT) (Obj.mapFields (·.setIfInBounds 1 (Value.ref h₁.objs.size))) (Ne.symm hTe)).trans (Heap.get?_push_size h₁ (by rw [← hT]; rfl))
  subst hT
  exact ⟨_,_,_,_,he₃,Obj.cls_mapFields _ _,dict_mapFields _ _,hd₃,by simp [hsz],hTe,hT₃,rfl,by first | (simp; done) | (rcases hpl with rfl | ⟨_,_,_,_,_,_,_,rfl⟩ <;> simp)⟩
 ·cases q:s.heap.get? h₁.objs.size with
  | none=>rfl
  | some o =>
   obtain ⟨sl,e1⟩:=hs₁.2.2 _ o q
   exact absurd (Heap.lt_size e1) (Nat.lt_irrefl _)
theorem note_first {base:Heap} {env:Env} {outer:List Env} {L e:Addr} {C:Value} {od:Option Addr} {Q:Unit→Shared→Prop}
  (hfr:A.frames=some (env::outer)) (hl:s.heap.FunFrames base (env::outer)) (hf:env.frame=some L) (hx:Exc0 s.heap e C od)
  (h:∀ h' T,Nt (frs (env::outer)) [e] s.heap h'→ExcT h' e T C od (rawInt L)→s.heap.get? T=none→Q () { s with heap:=h' }):wpAny M A (noteFrame (.ref e) env) Q E s:=by
 obtain ⟨oe,vs,he,rfl,rfl,hd,h1⟩:=hx
 unfold noteFrame
 simp only [hf]
 refine wpAny_bind (wpAny_field he hd h1 ?_)
 rw [if_neg (by decide)]
 exact note_entry hfr hl hf he hd (Array.getElem?_eq_some_iff.mp h1).1 h
theorem note_next {base:Heap} {env:Env} {outer:List Env} {L e T:Addr} {C:Value} {od:Option Addr} {Q:Unit→Shared→Prop}
  (hfr:A.frames=some (env::outer)) (hl:s.heap.FunFrames base (env::outer)) (hf:env.frame=some L) (hx:ExcT s.heap e T C od .none)
  (h:∀ h' T',Nt (frs (env::outer)) [T,e] s.heap h'→ExcT h' e T' C od (rawInt L)→s.heap.get? T'=none→Q () { s with heap:=h' }):wpAny M A (noteFrame (.ref e) env) Q E s:=by
 obtain ⟨oe,vs,oT,ts,he,rfl,rfl,hd,h1,hTe,hT,hdT,h3⟩:=hx
 unfold noteFrame
 simp only [hf]
 refine wpAny_bind (wpAny_field he hd h1 ?_)
 rw [if_pos (show (Value.ref T != Value.none)=true from by simp)]
 refine wpAny_bind (wpAny_field hT hdT h3 ?_)
 rw [if_neg (show ¬ ((Value.none == rawInt L)=true) from by simp [rawInt])]
 refine wpAny_bind (wpAny_setField hT hdT (Array.getElem?_eq_some_iff.mp h3).1 ?_)
 have other:∀ b,b≠T→(s.heap.update T (Obj.mapFields (·.setIfInBounds 3 Value.none))).get? b=s.heap.get? b:=fun b hb=>Heap.get?_update_other _ _ (Ne.symm hb)
 have noRecord:∀ b o,s.heap.get? b=some o→(∀ vs,o.data≠.fields vs)→b≠T:=fun b o hb hnf q=>by
  rw [q,hT] at hb; injection hb with hb; subst hb; exact hnf ts hdT
 have hdT2:=Obj.data_mapFields hdT (·.setIfInBounds 3 Value.none)
 have hT2:=Heap.get?_update_self (Obj.mapFields (·.setIfInBounds 3 Value.none)) hT (Obj.isFreed_of_fields hdT2)
 have nt:Nt (frs (env::outer)) [T] s.heap (s.heap.update T (Obj.mapFields (·.setIfInBounds 3 Value.none))):=⟨fun b o q _ hx=>(other b fun z=>hx (by rw [z]; exact List.mem_singleton.mpr rfl)).trans q,
  fun b o q hx=>⟨o.slots,(other b fun z=>hx (by rw [z]; exact List.mem_singleton.mpr rfl)).trans q⟩,fun b o q=>by
   by_cases hb:b=T
   ·subst hb; exact ⟨_,hT2⟩
   ·exact ⟨o,(other b hb).trans q⟩⟩
 refine note_entry hfr (hl.of_keeps fun b o hb hnf=>⟨o,(other b (noRecord b o hb hnf)).trans hb,rfl⟩) hf ((other e (Ne.symm hTe)).trans he) hd (Array.getElem?_eq_some_iff.mp h1).1
  fun h' T' n2 x2 f2=>h h' T' (nt.trans n2) x2 ?_
 cases q:s.heap.get? T' with
 | none=>rfl
 | some o =>
  obtain ⟨o',e1⟩:=nt.there T' o q
  have f2:(s.heap.update T (Obj.mapFields (·.setIfInBounds 3 Value.none))).get? T'=none:=f2
  rw [f2] at e1
  cases e1
theorem flight_none {fs:List Addr} {e T:Addr} {C fl:Value} {od:Option Addr} {Q:Unit→Shared→Prop} (hx:ExcT s.heap e T C od fl)
  (h:∀ h',Nt fs [T] s.heap h'→ExcT h' e T C od .none→Q () { s with heap:=h' }):wpAny M A (setFlight (.ref e) none) Q E s:=by
 obtain ⟨oe,vs,oT,ts,he,rfl,rfl,hd,h1,hTe,hT,hdT,h3⟩:=hx
 have hsz3:3<ts.size:=(Array.getElem?_eq_some_iff.mp h3).1
 unfold setFlight
 refine wpAny_bind (wpAny_field he hd h1 ?_)
 rw [if_pos (show (Value.ref T != Value.none)=true from by simp)]
 have other:∀ b,b≠T→(s.heap.update T (Obj.mapFields (·.setIfInBounds 3 ((none:Option Addr).elim Value.none fun f=>rawInt f)))).get? b=s.heap.get? b :=
  fun b hb=>Heap.get?_update_other _ _ (Ne.symm hb)
 have hdT2:=Obj.data_mapFields hdT (·.setIfInBounds 3 ((none:Option Addr).elim Value.none fun f=>rawInt f))
 have hT2:=Heap.get?_update_self (Obj.mapFields (·.setIfInBounds 3 ((none:Option Addr).elim Value.none fun f=>rawInt f))) hT (Obj.isFreed_of_fields hdT2)
 refine wpAny_setField hT hdT hsz3 (h _ ⟨fun b o q _ hx=>(other b fun z=>hx (by rw [z]; exact List.mem_singleton.mpr rfl)).trans q,
  fun b o q hx=>⟨o.slots,(other b fun z=>hx (by rw [z]; exact List.mem_singleton.mpr rfl)).trans q⟩,fun b o q=>?_⟩ ?_)
 ·by_cases hb:b=T
  ·subst hb; exact ⟨_,hT2⟩
  ·exact ⟨o,(other b hb).trans q⟩
 ·exact ⟨oe,vs,_,_,(other e (Ne.symm hTe)).trans he,rfl,rfl,hd,h1,hTe,hT2,hdT2,by simp [hsz3]⟩
end
end L2
set_option maxHeartbeats 4000000
namespace L2
open PySem PySem.Spec PyProof.Rows
def CX1 (P:Program) (w:World):CXT:=fun outer H s E ev s'=>∃ (e T:Addr) (C:Value) (od:Option Addr) (H':Hp),ev=.ref e∧s.heap.get? e=none∧s.heap.get? T=none∧ExcT s'.heap e T C od .none∧H' e=none∧H' T=none ∧
 s'.os=s.os∧AllBare s'.gens∧Un (frs outer) [] H H' s.heap s'.heap∧HOk P w H' s'.heap∧E C od H'
theorem ObjOk.there {P:Program} {w:World} {H:Hp} {h:Heap} {a:Addr} {o:HO} (x:ObjOk P w H h a o):∃ u,h.get? a=some u:=by
 cases o with
 | lst xs=>obtain ⟨_,_,_,_,e⟩:=x; exact ⟨_,e⟩
 | tup xs=>obtain ⟨_,_,_,o,e,_⟩:=x; exact ⟨_,e⟩
 | dK kvs=>obtain ⟨_,_,_,_,o,_,_,e,_⟩:=x; exact ⟨_,e⟩
 | dT kvs=>obtain ⟨_,_,_,_,o,_,_,e,_⟩:=x; exact ⟨_,e⟩
 | set S n=>obtain ⟨o,_,_,_,e,_⟩:=x; exact ⟨_,e⟩
 | ins C dx fs=>obtain ⟨_,_,_,e,_⟩:=x; exact ⟨_,e⟩
 | own y=>obtain ⟨_,e⟩:=x; exact ⟨_,e⟩
 | xd fs=>obtain ⟨_,⟨_,_,_,e,_⟩,_⟩:=x; exact ⟨_,e⟩
 | met f y=>exact ⟨_,x⟩
 | rng lo hi=>obtain ⟨_,_,_,e⟩:=x; exact ⟨_,e⟩
 | frz o u=>obtain ⟨e,_⟩:=x; exact ⟨_,e⟩
 | tbl ps=>exact ⟨_,x⟩
 | ext φ=>exact x.2.1
theorem HOk.none_of {P:Program} {w:World} {H:Hp} {h:Heap} {a:Addr} (x:HOk P w H h) (e:h.get? a=none):H a=none:=by
 cases q:H a with
 | none=>rfl
 | some o =>
  obtain ⟨u,e1⟩:=(x a o q).there
  rw [e] at e1
  cases e1
theorem Nt.front {fs xs:List Addr} {f:Addr} {h h':Heap} (k:Nt (f::fs) xs h h'):Nt fs (f::xs) h h' :=
 ⟨fun b o e hf hx=>k.keep b o e (fun z=>(List.mem_cons.mp z).elim (fun z=>hx (by rw [z]; exact List.mem_cons_self)) fun z=>hf z) fun z=>hx (List.mem_cons_of_mem _ z),
  fun b o e hx=>k.slot b o e fun z=>hx (List.mem_cons_of_mem _ z),k.there⟩
section
variable {P:Program} {w:World} {K:PySem.W.Frag} {mg:Str→Option Value} {base:Heap} {N:List Str} {qual:Str} {scope:Scope} {f:Addr} {cd:Value} {A:Around} {outer:List Env} {s:Shared} {H:Hp} {E:XK}
theorem left_frame {pins:List (Addr×Obj)} {σ:St} {H':Hp} {s':Shared} {e T:Addr} {xs:List Addr} {C:Value} {od:Option Addr} {h1:Heap} {M:Model} {B:Around} {R:Value→Shared→Prop} (J:Inv (cxOf (CX1 P w) P w K mg base N qual scope f cd A outer s H E) pins σ H' s')
  (n1:Nt (frs (envOfC qual scope s.heap.objs.size f cd::outer)) xs s'.heap h1) (x:ExcT h1 e T C od (rawInt s.heap.objs.size)) (hx:∀ b∈xs,s.heap.get? b=none∧H' b=none) (he:s.heap.get? e=none) (hT:s'.heap.get? T=none) (ne:H' e=none) (hE:E C od H') :
  wpAny M B (setFlight (.ref e) none) (fun _ s''=>CX1 P w outer H s E (.ref e) s'') R { s' with heap:=h1 }:=by
 have nT:H' T=none:=HOk.none_of J.hok hT
 have oT:s.heap.get? T=none:=by
  cases q:s.heap.get? T with
  | none=>rfl
  | some o =>
   obtain ⟨o',e1⟩:=J.base.there T o q (by show T∉([]:List Addr); simp)
   rw [hT] at e1
   cases e1
 refine flight_none (fs:=frs (envOfC qual scope s.heap.objs.size f cd::outer)) x fun h2 n2 x2=>?_
 have n12:Nt (frs (envOfC qual scope s.heap.objs.size f cd::outer)) (xs++[T]) s'.heap h2:=n1.trans n2
 have old:∀ b∈xs++[T],s.heap.get? b=none∧H' b=none:=fun b hb=>by
  rcases List.mem_append.mp hb with z | z
  ·exact hx b z
  ·rw [List.mem_singleton.mp z]
   exact ⟨oT,nT⟩
 have nf:Nt (frs outer) (s.heap.objs.size::(xs++[T])) s'.heap h2:=Nt.front n12
 refine ⟨e,T,C,od,H',rfl,he,oT,x2,ne,nT,J.os,J.bare,Un.noted J.base (fun b hb=>?_) nf,HOk.noted J.hok J.stkFree (fun b hb=>(old b hb).2) n12,hE⟩
 rcases List.mem_cons.mp hb with z | z
 ·rw [z]
  exact Heap.get?_none_of_le (Nat.le_refl _)
 ·exact (old b z).1
theorem pass_next {pins:List (Addr×Obj)} {σ:St} {H':Hp} {s':Shared} {e T:Addr} {C:Value} {od:Option Addr} (J:Inv (cxOf (CX1 P w) P w K mg base N qual scope f cd A outer s H E) pins σ H' s')
  (he:s.heap.get? e=none) (hT:s.heap.get? T=none) (x:ExcT s'.heap e T C od .none) (ne:H' e=none) (nT:H' T=none) (hE:E C od H'):(cxOf (CX1 P w) P w K mg base N qual scope f cd A outer s H E).xe (.ref e) s':=by
 show wpAny _ _ (leaving _ _) _ _ _
 unfold leaving
 refine wpAny_bind (note_next J.ok.frames J.stack rfl x fun h1 T' n1 x1 f1=>?_)
 exact left_frame J n1 x1 (fun b hb=>by
  rcases List.mem_cons.mp hb with z | z
  ·rw [z]; exact ⟨hT,nT⟩
  ·rw [List.mem_singleton.mp z]; exact ⟨he,ne⟩) he f1 ne hE
theorem pass_first {pins:List (Addr×Obj)} {σ:St} {H':Hp} {s':Shared} {e:Addr} {C:Value} {od:Option Addr} (J:Inv (cxOf (CX1 P w) P w K mg base N qual scope f cd A outer s H E) pins σ H' s')
  (he:s.heap.get? e=none) (x:Exc0 s'.heap e C od) (ne:H' e=none) (hE:E C od H'):(cxOf (CX1 P w) P w K mg base N qual scope f cd A outer s H E).xe (.ref e) s':=by
 show wpAny _ _ (leaving _ _) _ _ _
 unfold leaving
 refine wpAny_bind (note_first J.ok.frames J.stack rfl x fun h1 T' n1 x1 f1=>?_)
 exact left_frame J n1 x1 (fun b hb=>by rw [List.mem_singleton.mp hb]; exact ⟨he,ne⟩) he f1 ne hE
theorem pass1 {E':XK} (h:∀ C od H',E' C od H'→E C od H'):Passes (CX1 P w) (cxOf (CX1 P w) P w K mg base N qual scope f cd A outer s H E) E':=by
 rintro pins σ H1 s1 ev s' I ⟨e,T,C,od,H',rfl,he,hT,x,ne,nT,ho,hb,un,hok,q⟩
 have J:Inv (cxOf (CX1 P w) P w K mg base N qual scope f cd A outer s H E) pins σ H' s':=I.call' (ch:=[]) ho un hok hb (fun b z=>absurd z (by simp))
 have old:∀ b,s1.heap.get? b=none→s.heap.get? b=none:=fun b hb=>by
  cases q:s.heap.get? b with
  | none=>rfl
  | some o =>
   obtain ⟨o',e1⟩:=I.base.there b o q (by show b∉([]:List Addr); simp)
   rw [hb] at e1
   cases e1
 exact pass_next J (old e he) (old T hT) x ne nT (h _ _ _ q)
theorem Fun.okX {x:Str} {st:Stmt} {fd:FuncData} {ps:List Str} {k:Nat} {sp:Sp} (F:Fun K x qual st f fd) (S:FnScope N ps (defScope st)) (len:∀ vs H Q E,sp vs H Q E→vs.length=ps.length)
  (hbody:∀ (cdv:Value) (A:Around) (outer:List Env) (s:Shared) (H:Hp) (vs:List V) (Q:VK) (E:XK),Room k (A.deeper (envOfC qual (defScope st) s.heap.objs.size f cdv))→sp vs H Q E →
   ∃ t,PSs (cxOf (CX1 P w) P w K mg base N qual (defScope st) f cdv A outer s H E) (defBody st) t∧t { nx:=fun _ H'=>Q .non H',rt:=Q } (start N vs) H):FnOk P w K mg base (CX1 P w) (k+1) f fd ps sp:=by
 obtain ⟨oc,od,kV,doc,pm,an,cdv,ct,osl,rfl,lk,hcd⟩:=F.ex
 refine fn_of lk hcd S len fun A outer s H vs Q E hr hsp=>?_
 exact hbody cdv A outer s H vs Q E hr hsp
theorem FnOk.calm {k:Nat} {fd:FuncData} {ps:List Str} {sp:Sp} {CX:CXT} (F:FnOk P w K mg base CX0 k f fd ps sp):FnOk P w K mg base CX k f fd ps sp :=
 ⟨F.len,fun A outer s H args us vs Q E hr he hb hv hs=>codeAny_mono (F.run A outer s H args us vs Q E hr he hb hv hs) fun r s' q=>by
  cases r with
  | ok fl=>cases fl <;> exact q
  | error e=>exact False.elim q⟩
end
end L2
set_option maxHeartbeats 4000000
namespace L2
open PySem PySem.Spec PyProof.Rows
def ExcCls (h:Heap) (C:Addr) (bm:List Value):Prop :=
 ∃ (nm q:Str) (N:Addr) (bs:List Value) (hdct:Bool) (sn:List Str) (sub:List Value) (ab:Bool) (col:Option Bool) (dd:Option Addr) (k0 k1 k2 k3 k5:Option Value) (mN:Str→Option Value),
  h.get? C=some (excClassObj nm q C N bs bm hdct sn sub ab col dd k0 k1 k2 k3 k5 "ValueError.__new__")∧h.Ns N mN∧mN "__init__"=none∧OwnTail h [.type "ValueError",.type "Exception",.type "BaseException",.type "object"] bm
theorem ExcCls.keeps {h h':Heap} {C:Addr} {bm:List Value} (x:ExcCls h C bm) (k:∀ b o,h.get? b=some o→h'.get? b=some o):ExcCls h' C bm:=by
 obtain ⟨nm,q,N,bs,hdct,sn,sub,ab,col,dd,k0,k1,k2,k3,k5,mN,h1,h2,h3,h4⟩:=x
 exact ⟨nm,q,N,bs,hdct,sn,sub,ab,col,dd,k0,k1,k2,k3,k5,mN,k _ _ h1,h2.keeps k,h3,h4.keeps k⟩
def Raises (X:Cx) (E:XK):Prop:=∀ (pins:List (Addr×Obj)) (σ:St) (H:Hp) (s:Shared) (e:Addr) (C:Value) (od:Option Addr),Inv X pins σ H s→X.s₀.heap.get? e=none→Exc0 s.heap e C od→H e=none→E C od H→X.xe (.ref e) s
theorem raises1 {P:Program} {w:World} {K:PySem.W.Frag} {mg:Str→Option Value} {base:Heap} {N:List Str} {qual:Str} {scope:Scope} {f:Addr} {cd:Value} {A:Around} {outer:List Env} {s:Shared} {H:Hp} {E E':XK}
  (h:∀ C od H',E' C od H'→E C od H'):Raises (cxOf (CX1 P w) P w K mg base N qual scope f cd A outer s H E) E' :=
 fun _ _ _ _ _ _ _ I he x ne q=>pass_first I he x ne (h _ _ _ q)
section
variable {X:Cx} {E:XK} {x:Str} {C:Addr} {bm:List Value} {e₀:Expr} {args:List Expr} {t:TA} {np cpos pos:Pos}
def tRaise (t:TA) (C:Addr) (E:XK):TS:=fun _ σ H=>t σ H fun vs H1=>vs.length≤sizeLine∧E (.ref C) none H1
theorem ps_raise (hc:X.calm=true) (hex:X.ex=[]) (hg:Gl X x) (hm:X.mg x=some (.ref C)) (k:ExcCls X.base C bm) (hx:Raises X E) (ha:PA X (e₀::args) t)
  (he₀:starEach (e₀::args) X.env=(false,eval e₀ X.env)::starEach args X.env:=by rfl) (hpl:(backTo cpos (starEach (e₀::args) X.env)).any (·.1)=false:=by rfl) (hd:(x == ("__debug__":Str))=false:=by decide):PS X (.Raise (some (.Call (.Name x np) (e₀::args) [] cpos)) none pos) (tRaise t C E):=by
 intro pins s σ H D I h
 have kb:=k
 obtain ⟨nm,q,N,bs,hdct,sn,sub,ab,col,dd,k0,k1,k2,k3,k5,mN,h1,h2,h3,h4⟩:=kb
 refine wpAny_Raise_call_subT (C:=C) (nm:=nm) (q:=q) (N:=N) (bs:=bs) (bm:=bm) (hdct:=hdct) (sn:=sn) (sub:=sub) (ab:=ab) (col:=col) (dd:=dd) (k0:=k0) (k1:=k1) (k2:=k2) (k3:=k3) (k5:=k5) PySem.F.excBase_ValueError (h4.hasType (by decide)) (I.ok.hd hc) hpl h3 (ld_glob I hg hm ⟨rfl,?_⟩ hd)
 have hA:=ha cpos pins s σ H _ I h
 rw [he₀] at hA ⊢
 refine Calls.evalArgs_plain (thn hA fun us s1 ⟨vs,H1,I1,r,q1,q2⟩=>⟨rfl,by rw [← r.length]; exact q1,I1.bk _ _ h1,h2.keeps I1.bk,h4.keeps I1.bk,fun h' e hm=>?_⟩)
 obtain ⟨tt,he,htn,ht⟩:=hm.there
 have old:X.s₀.heap.get? e=none:=by
  cases q:X.s₀.heap.get? e with
  | none=>rfl
  | some o =>
   obtain ⟨o',e1⟩:=I1.base.there e o q (by rw [hex]; simp)
   rw [hm.new] at e1
   cases e1
 have hok:HOk X.prog X.w H1 h':=I1.hok.kept hm.keeps
 have J:Inv X pins σ H1 { s1 with heap:=h' }:=I1.un (Un.kept hm.keeps) hok
 exact hx pins σ H1 _ e (.ref C) none J old ⟨_,_,he,rfl,rfl,rfl,rfl⟩ (HOk.none_of I1.hok hm.new) q2
end
end L2
set_option maxHeartbeats 4000000
namespace L2
open PySem PySem.Spec PyProof.Rows
section
variable {X:Cx} {pins:List (Addr×Obj)} {σ:St} {H:Hp} {s:Shared}
theorem name_goes {M:Model} {A:Around} {E:Value→Shared→Prop} {i:Nat} {n:Str} {pos:Pos} {Q:Unit→Shared→Prop} (I:Inv X pins σ H s) (hN:X.N.Nodup) (hi:X.N[i]?=some n) (hk:X.env.scope.names.lookup n=some .local)
  (h:∀ s',Inv X pins (σ.set i none) H s'→Q () s'):wpAny M A (do bindName X.env n .none; unbindBehindTheSuite X.env n pos) Q E s:=by
 refine wpAny_bind (wpAny_bindName (store_ok I hN hi (Or.inl hk) (v:=.non) rfl (fun s1 I1=>?_) (.inr hk)))
 have hcls:(X.env.scope.kind == .class || (X.env.scope.kind == .module && X.env.locals != X.env.globals))=false:=by rw [I.ok.kind]; rfl
 have hiσ:i<σ.length:=by rw [I.len]; exact (List.getElem?_eq_some_iff.mp hi).1
 have hk':X.env.kindOf n=some .local:=hk
 unfold unbindBehindTheSuite
 refine wpAny_onRaise ?_
 unfold unbindName
 refine wpAny_bind (wpAny_point (wpAny_bind ?_))
 unfold deleteName
 simp only [hk',hcls]
 rw [if_neg (by decide)]
 obtain ⟨m,hn,hl⟩:=id I1.loc
 have hm:(m n).isSome=true:=by
  obtain ⟨u,_,q⟩:=hl i n .non hi (List.getElem?_set_self hiσ) (Or.inl hk)
  rcases q with ⟨_,e⟩ | ⟨k,_⟩
  ·rw [e]; rfl
  ·rw [hk'] at k
   rcases k with k | k <;> cases k
 refine wpAny_bind (wpAny_nsDel_keeps hn fun h' v hn' hs=>?_)
 simp only [hm,Bool.not_true,Bool.false_eq_true,if_false]
 refine wpAny_pure (wpAny_point (h _ ?_))
 obtain ⟨oL,_,_,hoL,_⟩:=id hn
 refine ⟨I1.ok,I1.os,I1.bare,⟨fun b o e n hb hx=>?_,fun b o e n hb hx=>?_,I1.base.free,fun b o e hx=>?_,I1.base.tups,I1.base.frzs,I1.base.tbls⟩,⟨_,hn',fun j y v' e1 e2 e3=>?_⟩,fun y c e=>?_,I1.free,I1.freeC,fun p hp=>?_,fun b ob e=>?_,by simpa using I.len⟩
 ·exact (hs.2 b (Nat.ne_of_lt (Nat.lt_of_lt_of_le (Heap.lt_size e) I.ok.above))).trans (I1.base.keep b o e n hb hx)
 ·obtain ⟨sl,e1⟩:=I1.base.slot b o e n hb hx
  exact ⟨sl,(hs.2 b (Nat.ne_of_lt (Nat.lt_of_lt_of_le (Heap.lt_size e) I.ok.above))).trans e1⟩
 ·obtain ⟨o',e1⟩:=I1.base.there b o e hx
  exact ⟨o',(hs.2 b (Nat.ne_of_lt (Nat.lt_of_lt_of_le (Heap.lt_size e) I.ok.above))).trans e1⟩
 ·by_cases hj:j=i
  ·subst hj
   rw [List.getElem?_set_self hiσ] at e2
   cases e2
  ·rw [List.getElem?_set_ne (Ne.symm hj)] at e2
   obtain ⟨u',r',q⟩:=hl j y v' e1 (by rw [List.getElem?_set_ne (Ne.symm hj)]; exact e2) e3
   refine ⟨u',r',?_⟩
   rcases q with ⟨k,e⟩ | ⟨k,c,e,z⟩
   ·refine .inl ⟨k,?_⟩
    have:y≠n:=fun e=>hj (nodup_ix hN e1 (e ▸ hi))
    simp [this,e]
   ·exact .inr ⟨k,c,e,z.sameBut hs (I1.cne y c e)⟩
 ·obtain ⟨w',z⟩:=I1.cell y c e
  exact ⟨w',z.sameBut hs (I1.cne y c e)⟩
 ·obtain ⟨e,n,ne,nf,d⟩:=I1.pin p hp
  exact ⟨(hs.2 p.1 ne).trans e,n,ne,nf,d⟩
 ·refine (I1.hok b ob e).stay (fun c w' hc q=>(hs.2 c ?_).trans q) (fun _ q=>q) fun _ _ q=>q
  rintro rfl
  rcases hc with rfl | hc
  ·rw [I1.free] at e; cases e
  ·rw [I1.free] at hc; cases hc
abbrev Cx.hand (X:Cx) (e:Addr):Cx:={ X with A:=X.A.mark (some (.ref e)),calm:=false,xe:=fun _ _=>False }
theorem Cx.Ok.hand (ok:X.Ok) (e:Addr):(X.hand e).Ok :=
 ⟨ok.mod,ok.kind,ok.glob,ok.blt,ok.above,ok.inj,ok.has,ok.cab,(fun h=>(by cases h)),ok.frames,ok.stk,ok.exf,ok.bs,ok.bsz,ok.noex,ok.exfs,ok.funs,ok.frf⟩
theorem Inv.hand (I:Inv X pins σ H s) (e:Addr):Inv (X.hand e) pins σ H s:=⟨I.ok.hand e,I.os,I.bare,I.base,I.loc,I.cell,I.free,I.freeC,I.pin,I.hok,I.len⟩
theorem Inv.unhand {e:Addr} (ok:X.Ok) (I:Inv (X.hand e) pins σ H s):Inv X pins σ H s:=⟨ok,I.os,I.bare,I.base,I.loc,I.cell,I.free,I.freeC,I.pin,I.hok,I.len⟩
end
def EShape (h:Heap) (C:Addr) (bm:List Value):Prop :=
 ∃ (nm q:Str) (N:Addr) (bs:List Value) (hdct:Bool) (sn:List Str) (sub:List Value) (ab:Bool) (col:Option Bool) (dd:Option Addr) (k0 k1 k2 k3 k5:Option Value) (newId:String),
  h.get? C=some (excClassObj nm q C N bs bm hdct sn sub ab col dd k0 k1 k2 k3 k5 newId)
theorem ExcCls.shape {h:Heap} {C:Addr} {bm:List Value} (x:ExcCls h C bm):EShape h C bm:=by
 obtain ⟨nm,q,N,bs,hdct,sn,sub,ab,col,dd,k0,k1,k2,k3,k5,mN,h1,h2,h3,h4⟩:=x
 exact ⟨nm,q,N,bs,hdct,sn,sub,ab,col,dd,k0,k1,k2,k3,k5,_,h1⟩
theorem EShape.keeps {h h':Heap} {C:Addr} {bm:List Value} (x:EShape h C bm) (k:∀ b o,h.get? b=some o→h'.get? b=some o):EShape h' C bm:=by
 obtain ⟨nm,q,N,bs,hdct,sn,sub,ab,col,dd,k0,k1,k2,k3,k5,i,h1⟩:=x
 exact ⟨nm,q,N,bs,hdct,sn,sub,ab,col,dd,k0,k1,k2,k3,k5,i,k _ _ h1⟩
section
variable {M:Model} {A:Around} {E:Value→Shared→Prop} {s:Shared}
theorem exc_matches {e C S:Addr} {oe:Obj} {bm bmS:List Value} {Q:Bool→Shared→Prop} (hC:EShape s.heap C bm) (hS:EShape s.heap S bmS) (he:s.heap.get? e=some oe) (hcls:oe.cls=.ref C)
  (hbase:bmS.contains (.type "BaseException")=true) (hq:Q ((Value.ref C::bm).contains (.ref S)) s):wpAny M A (excMatches (.ref e) (.ref S)) Q E s:=by
 obtain ⟨hp,g,d,tk,os⟩:=s
 obtain ⟨nm,q,N,bs,hdct,sn,sub,ab,col,dd,k0,k1,k2,k3,k5,i,h1⟩:=hC
 obtain ⟨nm',q',N',bs',hdct',sn',sub',ab',col',dd',k0',k1',k2',k3',k5',i',h2⟩:=hS
 have hcB:(Value.ref S::bmS).contains (.type "BaseException")=true:=by rw [List.contains_cons,hbase,Bool.or_true]
 have f:=tc_notTuple
 unfold excMatches
 repeat (first | (with_reducible refine wpAny_loadPart_at he ?_; rw [hcls]) | with_reducible refine wpAny_loadPart_at h2 ?_ | (with_reducible refine wpAny_isSubtype_exc h2 ?_; rw [hcB]) | with_reducible refine wpAny_isSubtype_exc h1 ?_ | wp_step)
 cases hb:(Value.ref C::bm).contains (.ref S) <;> (rw [hb] at hq; wp_walk; exact hq)
end
end L2
set_option maxHeartbeats 4000000
namespace L2
open PySem PySem.Spec PyProof.Rows
def XP (X:Cx) (pins:List (Addr×Obj)) (EX:St→XK) (ev:Value) (s':Shared):Prop:=∃ σ1 H1 s1,Inv X pins σ1 H1 s1∧CX1 X.prog X.w X.stack H1 s1 (EX σ1) ev s'
def PEx (X:Cx) (e:Expr) (t:TE) (EX:St→XK):Prop :=
 ∀ (pins:List (Addr×Obj)) (s:Shared) (σ:St) (H:Hp) (Q:VK),Inv X pins σ H s→t σ H Q→wpAny (model X.prog X.w) X.A (eval e X.env) (EP X pins σ Q) (XP X pins EX) s
def PSx (X:Cx) (st:Stmt) (t:TS) (EX:St→XK):Prop :=
 ∀ (pins:List (Addr×Obj)) (s:Shared) (σ:St) (H:Hp) (D:Ends),Inv X pins σ H s→t D σ H→wpAny (model X.prog X.w) X.A (exec st X.env) (SP X pins D) (XP X pins EX) s
def PSsx (X:Cx) (st:List Stmt) (t:TS) (EX:St→XK):Prop :=
 ∀ (pins:List (Addr×Obj)) (s:Shared) (σ:St) (H:Hp) (D:Ends),Inv X pins σ H s→t D σ H→wpAny (model X.prog X.w) X.A (execs st X.env) (SP X pins D) (XP X pins EX) s
section
variable {X:Cx} {EX:St→XK} {k:Nat} {f C:Addr} {fd:FuncData} {ps:List Str} {sp:Sp} {dvs:List V} {ds:List Value} {x m:Str} {p pos apos:Pos} {e o:Expr} {es:List Expr} {ta te:TE} {t:TA} {st:Stmt} {rest:List Stmt} {ts us:TS}
def tMethX (C:Addr) (m:Str) (sp:Sp) (dvs:List V) (EX:St→XK) (ta:TE) (t:TA):TE:=fun σ H Q=>ta σ H fun x H1=>∃ a dx fs,x=.ref a∧H1 a=some (.ins C dx fs)∧fs.lookup m=none ∧
 t σ H1 fun vs H2=>sp (x::(vs++dvs)) H2 Q (EX σ)
theorem run_fnX {pins:List (Addr×Obj)} {σ:St} {H:Hp} {s:Shared} {Q:VK} {us:List Value} {vs:List V} (F:FnOk X.prog X.w X.K X.mg X.base (CX1 X.prog X.w) k f fd ps sp) (hr:Room k X.A) (hb:Binds X.K fd ps ds) (hd:Vals dvs ds)
  (I:Inv X pins σ H s) (r:Vals vs us) (h:sp (vs++dvs) H Q (EX σ)):wpAny (model X.prog X.w) X.A (call (.ref f) us) (EP X pins σ Q) (XP X pins EX) s:=by
 have r2:Vals (vs++dvs) (us++ds):=r.append hd
 have hl:(us++ds).length=ps.length:=by rw [← r2.length]; exact F.len _ _ _ _ h
 refine wpAny_call (codeAny_mono (F.run X.A X.stack s H ⟨us,[]⟩ (us++ds) (vs++dvs) Q (EX σ) hr I.env0 (hb s us I.kIn hl) r2 h) fun r s' hq=>?_)
 cases r with
 | error e=>exact ⟨σ,H,s,I,hq⟩
 | ok fl =>
  cases fl with
  | ret u=>exact I.after hq
  | next=>exact False.elim hq
  | brk=>exact False.elim hq
  | cont=>exact False.elim hq
theorem nox_mono {α:Type} {s:Shared} {M:Model} {A:Around} {c:Sem α} {Q Q':α→Shared→Prop} {E:Value→Shared→Prop} (h:wpAny M A c Q (fun _ _=>False) s) (k:∀ a s',Q a s'→Q' a s'):wpAny M A c Q' E s :=
 wpAny_mono h k fun _ _ z=>False.elim z
theorem pex_meth {pl:Sem Bool} (he:PE X.nox o ta) (c:Cls X.K C) (hm:Meth X.K C m f) (F:FnOk X.prog X.w X.K X.mg X.base (CX1 X.prog X.w) k f fd ps sp) (hr:Room k X.A) (hb:Binds X.K fd ps ds) (hd:Vals dvs ds) (ha:PA X.nox (e::es) t)
  (hst:starEach (e::es) X.env=(false,eval e X.env)::starEach es X.env:=by rfl) (hpl:(backTo pos (starEach es X.env)).any (·.1)=false:=by rfl)
  (ht:eval (.Call (.Attribute o m apos) (e::es) [] pos) X.env=(do
   let ov ← eval o X.env
   standAt apos.atName
   let (f,first) ← holding [ov] (getMethod ov m pl)
   callWith pos f first (backTo pos (starEach (e::es) X.env)) (backToKw pos (keywordEach [] X.env))):=by rfl) :
  PEx X (.Call (.Attribute o m apos) (e::es) [] pos) (tMethX C m sp dvs EX ta t) EX:=by
 intro pins s σ H Q I h
 refine PySem.W.methodCall_KW (pl:=pl) (nox_mono (he pins s σ H _ (I.wish _) h) fun u s1 ⟨x,H1,I1,rx,a,dx,fs,ex,ea,l,q⟩=>?_) ht
 subst ex
 obtain rfl:u=Value.ref a:=rx
 refine getmeth_ok I1.unwish ea c hm l ?_
 refine PySem.W.callWith_K (first:=[.ref a]) (h₀:=X.base) I.ok.mod.kin hm.kp (nox_mono (ha pos pins s1 σ H1 _ I1 q) fun us s2 ⟨vs,H2,I2,r,q2⟩=>⟨I2.unwish.kIn,?_⟩) hst hpl
 exact run_fnX (us:=.ref a::us) (vs:=.ref a::vs) F hr hb hd I2.unwish (.cons rfl r) q2
theorem psx_expr (he:PEx X e te EX) (hs:swapsWith e none pos.line X.env=pure false:=by rfl):PSx X (.Expr e pos) (tDrop te) EX:=by
 intro pins s σ H D I h
 exact wpAny_Expr_any (thn (he pins s σ H _ I h) fun v s1 ⟨x,H1,I1,r1,q1⟩=>⟨σ,H1,I1,q1⟩) I.quiet hs
theorem pssx_one (h1:PSx X st ts EX):PSsx X [st] ts EX:=by
 intro pins s σ H D I h
 refine wpAny_execs_cons (thn (h1 pins s σ H D I h) fun f s1 q=>?_)
 cases f with
 | next=>exact wpAny_execs_nil q
 | ret v=>exact q
 | brk=>exact q
 | cont=>exact q
theorem psx_if {c:Expr} {a b:List Stmt} {tc:TT} (hc:PT X.nox c tc) (ha:PSsx X a ts EX) (hb:PSsx X b us EX):PSx X (.If c a b pos) (tIfS tc ts us) EX:=by
 intro pins s σ H D I h
 refine wpAny_If (nox_mono (hc pins s σ H _ (I.wish _) h) fun d s1 ⟨H1,I1,q1⟩=>?_)
 cases d with
 | true=>exact ha pins s1 σ H1 D I1.unwish q1
 | false=>exact hb pins s1 σ H1 D I1.unwish q1
end
end L2
set_option maxHeartbeats 4000000
namespace L2
open PySem PySem.Spec PyProof.Rows
def excO (e C:Addr) (od:Option Addr):HO:=.ext fun h=>∃ oe vs,h.get? e=some oe∧oe.cls=.ref C∧oe.dict=od∧oe.data=.fields vs
theorem excO_ok {P:Program} {w:World} {H:Hp} {h:Heap} {e T C:Addr} {od:Option Addr} {fl:Value} (x:ExcT h e T (.ref C) od fl):ObjOk P w H h e (excO e C od):=by
 obtain ⟨oe,vs,oT,ts,he,hc,ho,hd,_⟩:=x
 exact ⟨⟨oe,vs,he,hc,ho,hd⟩,⟨oe,he⟩,fun h1 h2 ⟨oe,vs,q1,q2⟩ k=>⟨oe,vs,k _ q1,q2⟩⟩
theorem Un.track {fs:List Addr} {H0 H:Hp} {h0 h:Heap} {e:Addr} {o:HO} (u:Un fs [] H0 H h0 h) (he:h0.get? e=none) (ne:H e=none):Un fs [] H0 (upd H e o) h0 h where
 keep:=u.keep
 slot:=u.slot
 free:=fun b ob q n hx=>by
  rw [upd_ne (fun z=>by rw [z,he] at q; cases q)]
  exact u.free b ob q n hx
 there:=u.there
 tups:=fun b xs q=>by
  have:=u.tups b xs q
  rw [upd_ne (fun z=>by rw [z,ne] at this; cases this)]
  exact this
 frzs:=fun b ob v q=>by
  have:=u.frzs b ob v q
  rw [upd_ne (fun z=>by rw [z,ne] at this; cases this)]
  exact this
 tbls:=fun b ps q=>by
  obtain ⟨more,this⟩:=u.tbls b ps q
  exact ⟨more,by rw [upd_ne (fun z=>by rw [z,ne] at this; cases this)]; exact this⟩
theorem HOk.track {P:Program} {w:World} {H:Hp} {h:Heap} {e:Addr} {o:HO} (x:HOk P w H h) (ne:H e=none) (new:ObjOk P w (upd H e o) h e o):HOk P w (upd H e o) h:=fun b u q=>by
 by_cases hb:b=e
 ·subst hb
  rw [upd_same] at q
  cases q
  exact new
 ·rw [upd_ne hb] at q
  exact (x b u q).stay (fun _ _ _ z=>z) (fun c z=>by rw [upd_ne (fun y=>by rw [y,ne] at z; cases z)]; exact z) fun c xs z=>by rw [upd_ne (fun y=>by rw [y,ne] at z; cases z)]; exact z
section
variable {X:Cx} {EX:St→XK} {x n:Str} {i:Nat} {S:Addr} {bmS:List Value} {body suite:List Stmt} {b₀:Stmt} {px hpos pos:Pos} {tb ts:TS}
def tTry (base:Heap) (i:Nat) (S:Addr) (tb:TS) (EX:St→XK) (ts:TS):TS:=fun D σ H=>tb D σ H ∧
 ∀ σ1 C od H',EX σ1 C od H'→∃ Ca bm,C=.ref Ca∧EShape base Ca bm∧(Value.ref Ca::bm).contains (.ref S)=true ∧
  ∀ e,H' e=none→ts { nx:=fun σ2 H2=>D.nx (σ2.set i none) H2,rt:=D.rt,bk:=fun σ2 H2=>D.bk (σ2.set i none) H2,ct:=fun σ2 H2=>D.ct (σ2.set i none) H2 } (σ1.set i (some (.ref e))) (upd H' e (excO e Ca od))
theorem ps_try (hN:X.N.Nodup) (hi:X.N[i]?=some n) (hk:X.env.scope.names.lookup n=some .local) (hst:X.stack=X.env::X.outer∧X.env.frame=some X.env.locals) (hg:Gl X x) (hm:X.mg x=some (.ref S)) (hS:EShape X.base S bmS) (hb:bmS.contains (.type "BaseException")=true)
  (hbody:PSsx X body tb EX) (hsuite:∀ e,PSs (X.hand e) (b₀::suite) ts) (hd:(x == ("__debug__":Str))=false:=by decide) :
  PS X (.Try body [.ExceptHandler (some (.Name x px)) (some n) (b₀::suite) hpos] [] [] pos) (tTry X.base i S tb EX ts):=by
 intro pins s σ H D I ⟨h1,h2⟩
 refine wpAny_Try_except (wpAny_mono (hbody pins s σ H D I h1) (fun f s1 q=>?_) fun ev s1 q=>?_)
 ·cases f with
  | next=>exact wpAny_execs_nil q
  | ret v=>exact q
  | brk=>exact q
  | cont=>exact q
 obtain ⟨σ1,H1,s0,I0,e,T,C,od,H',rfl,he,hT,x0,ne,nT,ho,hbare,un,hok,q⟩:=q
 obtain ⟨Ca,bm,rfl,hC,hin,hr⟩:=h2 σ1 C od H' q
 have J:Inv X pins σ1 H' s1:=I0.call' (ch:=[]) ho un hok hbare (fun b z=>absurd z (by simp))
 have fr:=J.ok.frames
 have stk:=J.stack
 have sf:=J.stkFree
 rw [hst.1] at fr stk sf un
 refine note_next fr stk hst.2 x0 fun ha T' n1 x1 f1=>?_
 have nT':H' T'=none:=HOk.none_of hok f1
 have oT':s0.heap.get? T'=none:=by
  cases q:s0.heap.get? T' with
  | none=>rfl
  | some o =>
   obtain ⟨o',e1⟩:=un.there T' o q (by simp)
   rw [f1] at e1
   cases e1
 refine flight_none (fs:=frs (X.env::X.outer)) x1 fun hb2 n2 x2=>?_
 have old:∀ b,b∈([T,e]++[T']:List Addr)∨b∈(([T,e]++[T'])++[T']:List Addr)→s0.heap.get? b=none∧H' b=none:=fun b hb=>by
  have:b=T∨b=e∨b=T':=by
   rcases hb with hb | hb
   ·simp only [List.mem_append,List.mem_cons,List.not_mem_nil,or_false] at hb
    rcases hb with (hb | hb) | hb
    ·exact .inl hb
    ·exact .inr (.inl hb)
    ·exact .inr (.inr hb)
   ·simp only [List.mem_append,List.mem_cons,List.not_mem_nil,or_false] at hb
    rcases hb with ((hb | hb) | hb) | hb
    ·exact .inl hb
    ·exact .inr (.inl hb)
    ·exact .inr (.inr hb)
    ·exact .inr (.inr hb)
  rcases this with rfl | rfl | rfl
  ·exact ⟨hT,nT⟩
  ·exact ⟨he,ne⟩
  ·exact ⟨oT',nT'⟩
 have n12:=n1.trans n2
 have J2:Inv X pins σ1 H' { s1 with heap:=hb2 }:=I0.call' (ch:=[]) ho (by rw [hst.1]; exact Un.noted un (fun b hb=>(old b (.inl hb)).1) n12) (HOk.noted hok sf (fun b hb=>(old b (.inl hb)).2) n12) hbare (fun b z=>absurd z (by simp))
 refine wpAny_handleBy_cons (codeAny_handlers_test ?_) (by intro q; cases q)
 refine ld_glob (J2.hand e) hg hm ?_ hd
 obtain ⟨oe,vs,oT,ts',xe,xc,_⟩:=id x2
 refine exc_matches (C:=Ca) (bm:=bm) (bmS:=bmS) (hC.keeps J2.bk) (hS.keeps J2.bk) xe xc hb ?_
 rw [hin]
 refine codeAny_handlers_suite_as ?_
 refine flight_none (fs:=frs (X.env::X.outer)) x2 fun hc2 n3 x3=>?_
 have n123:=n12.trans n3
 have J3:Inv X pins σ1 (upd H' e (excO e Ca od)) { s1 with heap:=hc2 }:=I0.call' (ch:=[]) ho (by rw [hst.1]; exact Un.track (Un.noted un (fun b hb=>(old b (.inr hb)).1) n123) he ne)
  (HOk.track (HOk.noted hok sf (fun b hb=>(old b (.inr hb)).2) n123) ne (excO_ok x3)) hbare (fun b z=>absurd z (by simp))
 refine store_ok J3 hN hi (Or.inl hk) (v:=.ref e) rfl (fun s4 I4=>?_) (.inr hk)
 refine wpAny_mono (hsuite e pins s4 _ _ _ (I4.hand e) (hr e ne)) (fun fl s5 q5=>?_) fun _ _ z=>False.elim z
 cases fl with
 | next =>
  obtain ⟨σ2,H2,I5,q5⟩:=q5
  exact name_goes (I5.unhand J.ok) hN hi hk fun s6 I6=>⟨_,H2,I6,q5⟩
 | brk =>
  obtain ⟨σ2,H2,I5,q5⟩:=q5
  exact name_goes (I5.unhand J.ok) hN hi hk fun s6 I6=>⟨_,H2,I6,q5⟩
 | cont =>
  obtain ⟨σ2,H2,I5,q5⟩:=q5
  exact name_goes (I5.unhand J.ok) hN hi hk fun s6 I6=>⟨_,H2,I6,q5⟩
 | ret u =>
  obtain ⟨v,σ2,H2,I5,r5,q5⟩:=q5
  exact name_goes (I5.unhand J.ok) hN hi hk fun s6 I6=>⟨v,_,H2,I6,r5,q5⟩
end
end L2
set_option maxHeartbeats 4000000
namespace L2
open PySem PySem.Spec PyProof.Rows PySem.W
section
variable {prog:Program} {w:World} {A:Around} {E:Value→Shared→Prop} {s:Shared} {K:PySem.W.Frag} {x D:Addr} {ox:Obj} {odo:Option Obj}
theorem exc_class {Q:Option Value→Shared→Prop} (X:K.In s.heap) (I:PySem.W.InstAt s.heap x ox D odo) (hga:findIn K (.ref D) "__getattribute__"=some (some (.builtin "BaseException.__getattribute__"))) (hgt:findIn K (.ref D) "__getattr__"=some none)
  (ha:findIn K (.ref D) "__class__"=some (some (.builtin "object.__class__"))) (hn:specialIn K (.builtin "object.__class__") "__get__"=some (some (.builtin "getset_descriptor.__get__"))) (htk:takesIn K (.builtin "object.__class__")=some true)
  (hm:mroIn K D (.type "object")=some true) (hfo:findObj K D odo "__class__"=some (.bind (.builtin "getset_descriptor.__get__") (.builtin "object.__class__"))) (hm2:mroIn K D (.type "BaseException")=some true) (h:Q (some (.ref D)) { s with toks:=s.toks+1 }):wpAny (model prog w) A (getAttr? (.ref x) "__class__") Q E s:=by
 obtain ⟨hh,g,d,t,os⟩:=s
 have L0:=I.type (M:=model prog w)
 have L1:=looks_findIn (M:=model prog w) X hga
 have L2:=looks_findIn (M:=model prog w) X hgt
 unfold getAttr? getAttrBy? getAttrBy
 refine wpAny_bind (wpAny_mkText (wpAny_bind (wpAny_attempt (wpAny_holding (wpAny_bind (L0.at (wpAny_bind (L1.at ?_))))))))
 have hx2:(Value.builtin "BaseException.__getattribute__" == Value.builtin "object.__getattribute__")=false:=by decide +kernel
 have f3:=F.attrBase_ValueError.ga.bind (.ref x)
 show wpAny _ _ (if (onTheHeap (Value.ref D) && Value.builtin "BaseException.__getattribute__" == Value.builtin "object.__getattribute__")=true then _ else _) _ _ _
 rw [hx2,Bool.and_false,if_neg Bool.false_ne_true]
 unfold getAttrByItsOwn hookBefore
 have hf:findObj K D odo "__class__"=some (.bind (.builtin "getset_descriptor.__get__") (.builtin "object.__class__")):=hfo
 have L3:=looks_find (M:=model prog w) X I hf
 have L4:=looks_mroIn (M:=model prog w) X hm2
 have ha2:=F.args_bexc_ga (.ref x) (.str "__class__" t)
 have hk:builtinKind "BaseException.__getattribute__"=some .slot:=by decide +kernel
 have hsplit:splitId "BaseException.__getattribute__"=some ("BaseException","__getattribute__"):=by decide +kernel
 refine wpAny_bind (L2.at ?_)
 refine wpAny_bind (wpAny_attempt (wpAny_holding ?_))
 unfold callGetattribute boundAndCalled
 rw [if_neg (by simp)]
 refine wpAny_bind (wpAny_of_eq f3 ?_)
 refine wpAny_call (codeAny_call_builtin F.attrBase_ValueError.ga.plain F.entry_bexc_ga ?_)
 simp only [checkBuiltinCall,hk,hsplit]
 refine wpAny_bind ?_
 unfold isInstance
 refine wpAny_bind (L0.at (L4.at ?_))
 repeat (first | assumption | wp_step)
 refine wpAny_loadPart I.at_ (wpAny_pure ?_)
 rw [I.cls]
 refine wpAny_bind (L3.at ?_)
 show wpAny _ _ (holding [Value.builtin "object.__class__"] (call (.builtin "getset_descriptor.__get__") [Value.builtin "object.__class__",.ref x,.ref D]) >>= ret) _ _ _
 refine wpAny_bind (wpAny_holding (wpAny_call (class_get (ox:=ox) (od:=odo) X I hm ?_)))
 refine wpAny_pure ?_
 show wpAny _ _ (handedOut (Value.ref D)) _ _ _
 exact wpAny_pure (wpAny_pure h)
end
structure ExcIn (K:PySem.W.Frag) (D:Addr):Prop where
 ga:findIn K (.ref D) "__getattribute__"=some (some (.builtin "BaseException.__getattribute__"))
 gt:findIn K (.ref D) "__getattr__"=some none
 cls:(clsIn K D).isSome=true
 at_:findIn K (.ref D) "__class__"=some (some (.builtin "object.__class__"))
 get:specialIn K (.builtin "object.__class__") "__get__"=some (some (.builtin "getset_descriptor.__get__"))
 tk:takesIn K (.builtin "object.__class__")=some true
 obj:mroIn K D (.type "object")=some true
 exc:mroIn K D (.type "BaseException")=some true
theorem ExcIn.found {K:PySem.W.Frag} {D:Addr} (F:ExcIn K D) (odo:Option Obj):findObj K D odo "__class__"=some (.bind (.builtin "getset_descriptor.__get__") (.builtin "object.__class__")):=by
 obtain ⟨cd,hc⟩:=Option.isSome_iff_exists.mp F.cls
 unfold findObj
 rw [hc,Option.bind_some,F.at_,Option.bind_some]
 simp [F.get,F.tk]
theorem kitx_exc {K:PySem.W.Frag} {x D:Addr} (F:ExcIn K D):KitX K (.ref x) (.ref D) (fun h=>∃ ox odo,PySem.W.InstAt h x ox D odo) where
 ty:=fun _ _ _ ⟨_,_,I⟩=>I.type
 it:=fun _ _ X _=>by
  obtain ⟨cdD,hcD⟩:=Option.isSome_iff_exists.mp F.cls
  unfold clsIn at hcD
  split at hcD
  ·rename_i c' d' cd' sl' ho
   intro A' Q' E' s' k q
   unfold isType loadHead
   exact wpAny_bind (wpAny_loadPart (k _ _ (X _ _ ho)) (wpAny_pure q))
  ·cases hcD
 ne:=fun h tp dd its n sl X htp=>by
  obtain ⟨cdD,hcD⟩:=Option.isSome_iff_exists.mp F.cls
  refine Bool.eq_false_iff.mpr fun q=>?_
  have e:D=tp:=Value.ref.inj (beq_iff_eq.mp q)
  subst e
  unfold clsIn at hcD
  split at hcD
  ·rename_i c' d' cd' sl' ho
   have z:=(X _ _ ho).symm.trans htp
   cases z
  ·cases hcD
 ca:=fun X ⟨_,odo,I⟩ k=>exc_class X I F.ga F.gt F.at_ F.get F.tk F.obj (F.found odo) F.exc k
section
variable {X:Cx} {pins:List (Addr×Obj)} {σ:St} {H:Hp} {s:Shared} {A:Around} {E:Value→Shared→Prop} {Q:Value→Shared→Prop} {c:Value} {b:Bool}
theorem isinst_exc {e D:Addr} {od:Option Addr} (I:Inv X pins σ H s) (ea:H e=some (excO e D od)) (hod:od=none∨∃ dx fs,od=some dx∧H dx=some (.xd fs)) (F:ExcIn X.K D) (k:PySem.W.kitOne X.K (.ref D) c=some b) (h:∀ tk,Q (.bool b) { s with toks:=tk }) :
  wpAny (model X.prog X.w) A (call (.builtin "isinstance") [.ref e,c]) Q E s:=by
 obtain ⟨⟨oe,vs,h1,h2,h3,h4⟩,_,_⟩:=I.hok e _ ea
 refine PySem.W.kia_one (kitx_exc F) I.kIn ?_ k (fun z=>nomatch z) h
 rcases hod with rfl | ⟨dx,fs,rfl,hx⟩
 ·exact ⟨oe,none,h1,h2,by unfold notCls; rw [h4],by rw [h3]; trivial⟩
 ·obtain ⟨od,e1⟩:=(I.hok dx _ hx).there
  exact ⟨oe,some od,h1,h2,by unfold notCls; rw [h4],by rw [h3]; exact e1⟩
end
end L2
set_option maxHeartbeats 4000000
namespace L2
open PySem PySem.Spec PyProof.Rows
section
variable {X:Cx}
def clsV:V→Option Value
 | .ty T=>some (.type T)
 | .ref C=>some (.ref C)
 | _=>none
def rIsX (K:PySem.W.Frag):List V→Hp→VK→Prop:=fun xs H Q=>∃ e D od c cv b,xs=[.ref e,c]∧clsV c=some cv∧H e=some (excO e D od)∧(od=none∨∃ dx fs,od=some dx∧H dx=some (.xd fs))∧ExcIn K D∧PySem.W.kitOne K (.ref D) cv=some b∧Q (.bl b) H
theorem call_isX:CallR X (.builtin "isinstance") (rIsX X.K):=by
 intro pins s σ H xs us Q I r h
 obtain ⟨e,D,od,c,cv,b,rfl,hc,ea,hod,F,k,q⟩:=h
 obtain ⟨u,w,rfl,rx,rT⟩:=Vals.two r
 cases (show u=Value.ref e from rx)
 have hw:w=cv:=by
  cases c with
  | ty T=>cases (show w=Value.type T from rT); exact Option.some.inj hc
  | ref C=>cases (show w=Value.ref C from rT); exact Option.some.inj hc
  | _=>cases hc
 subst hw
 exact isinst_exc I ea hod F k fun tk=>⟨.bl b,H,I.tok tk,rfl,q⟩
end
abbrev calmA (A:Around):Around:={ A with handled:=none }
structure FnOkM (P:Program) (w:World) (K:PySem.W.Frag) (mg:Str→Option Value) (base:Heap) (k:Nat) (f:Addr) (fd:FuncData) (ps:List Str) (sp:Sp):Prop where
 len:∀ vs H Q E,sp vs H Q E→vs.length=ps.length
 run:∀ (A:Around) (outer:List Env) (s:Shared) (H:Hp) (args:Args) (us:List Value) (vs:List V) (Q:VK) (E:XK),Room k (calmA A)→Env0 P w K mg base A outer s H→BindsTo s fd args (ps.zip us)→Vals vs us→sp vs H Q E →
  codeAny (model P w) A (.call (.ref f) args) (CR CX0 outer P w H s Q E) s
def cxM (P:Program) (w:World) (K:PySem.W.Frag) (mg:Str→Option Value) (base:Heap) (N:List Str) (qual:Str) (scope:Scope) (f:Addr) (cd:Value) (A:Around) (outer:List Env) (s:Shared) (H:Hp):Cx :=
 { cxOf CX0 P w K mg base N qual scope f cd A outer s H E0 with calm:=false,xe:=fun _ _=>False }
section
variable {P:Program} {w:World} {K:PySem.W.Frag} {mg:Str→Option Value} {base:Heap} {k:Nat} {f:Addr} {fd:FuncData} {ps:List Str} {sp:Sp}
theorem FnOkM.ok {CX:CXT} (F:FnOkM P w K mg base k f fd ps sp):FnOk P w K mg base CX k f fd ps sp :=
 FnOk.calm ⟨F.len,fun A outer s H args us vs Q E hr=>F.run A outer s H args us vs Q E ⟨rfl,hr.dp,hr.un⟩⟩
theorem Fun.okM {x qual:Str} {st:Stmt} {N:List Str} (F:Fun K x qual st f fd) (S:FnScope N ps (defScope st)) (len:∀ vs H Q E,sp vs H Q E→vs.length=ps.length)
  (hbody:∀ (cdv:Value) (A:Around) (outer:List Env) (s:Shared) (H:Hp) (vs:List V) (Q:VK) (E:XK),Room k (calmA (A.deeper (envOfC qual (defScope st) s.heap.objs.size f cdv)))→sp vs H Q E →
   ∃ t,PSs (cxM P w K mg base N qual (defScope st) f cdv A outer s H) (defBody st) t∧t { nx:=fun _ H'=>Q .non H',rt:=Q } (start N vs) H):FnOkM P w K mg base (k+1) f fd ps sp:=by
 obtain ⟨oc,od,kV,doc,pm,an,cdv,ct,osl,rfl,lk,hcd⟩:=F.ex
 refine ⟨len,fun A outer s H args us vs Q E hr e0 hb r hsp=>?_⟩
 have hl:=len _ _ _ _ hsp
 have KX:K.In s.heap:=e0.mod.kin.keeps fun b o e=>(e0.bs b o e).1
 have lim:s.heap.NoLimit:=e0.mod.nolimit.keeps fun b o e=>(e0.bs b o e).1
 have hkind:∀ y∈ps.zip us,(defScope st).names.lookup y.1=some .local∨((defScope st).names.lookup y.1=some .cell∧((cellsFrom (s.heap.objs.size+1) (defScope st).names []).lookup y.1).isSome=true):=fun ⟨n,v⟩ hy=>by
  rcases S.par n (List.of_mem_zip hy).1 with q | q
  ·exact .inl q
  ·exact .inr ⟨q,PySem.W.cellsFrom_some _ _ _ (.inl q)⟩
 have hdep:A.depth<recursionLimit:=hr.depth
 refine codeAny_call_function hdep (KX _ _ lk) rfl S.co S.gen rfl (PySem.W.codeRec_of KX hcd) (hb _ _ _ _ ?_)
 refine wpAny_newFunctionEnv_cells S.kind hkind fun env he s1 x=>?_
 subst he
 refine ⟨lim.keeps x.toInCall.keep,codeAny_func ?_⟩
 have hr':Room k (calmA (A.deeper (envOfC qual (defScope st) s.heap.objs.size f cdv))):=hr.deeper (envOfC qual (defScope st) s.heap.objs.size f cdv)
 obtain ⟨t,ht,hq⟩:=hbody cdv A outer s H vs Q E hr' hsp
 have e1:Env0 P w K mg base (calmA A) outer s H:=⟨e0.frames,e0.mod,e0.bs,e0.bsz,e0.funs,e0.frf,e0.hok,e0.bare⟩
 have I0:Inv (cxOf CX0 P w K mg base N qual (defScope st) f cdv (calmA A) outer s H E0) [] (start N vs) H s1:=inv_start S rfl e1 hl r x
 have ok:=I0.ok
 have I:Inv (cxM P w K mg base N qual (defScope st) f cdv A outer s H) [] (start N vs) H s1 :=
  ⟨⟨ok.mod,ok.kind,ok.glob,ok.blt,ok.above,ok.inj,ok.has,ok.cab,(fun h=>(by cases h)),ok.frames,ok.stk,ok.exf,ok.bs,ok.bsz,ok.noex,ok.exfs,ok.funs,ok.frf⟩,I0.os,I0.bare,I0.base,I0.loc,I0.cell,I0.free,I0.freeC,I0.pin,I0.hok,I0.len⟩
 refine wpAny_mono (ht [] s1 (start N vs) H _ I hq) (fun fl s' hs=>?_) fun e s' hs=>False.elim hs
 have fin:∀ {σ':St} {H':Hp} {v:V} {u:Value},Inv (cxM P w K mg base N qual (defScope st) f cdv A outer s H) [] σ' H' s'→RelV v u→Q v H'→CE outer P w H s Q u s' :=
  fun {σ' H' v u} J rv q=>⟨v,H',J.os,J.bare,J.base,J.hok,rv,q⟩
 cases fl with
 | ret u =>
  obtain ⟨v,σ',H',J,rv,q⟩:=hs
  exact fin J rv q
 | next =>
  obtain ⟨σ',H',J,q⟩:=hs
  exact fin (v:=V.non) (u:=Value.none) J rfl q
 | brk =>
  obtain ⟨_,_,_,q⟩:=hs
  exact False.elim q
 | cont =>
  obtain ⟨_,_,_,q⟩:=hs
  exact False.elim q
end
section
variable {X:Cx} {k:Nat} {f:Addr} {fd:FuncData} {ps:List Str} {sp:Sp} {dvs:List V} {ds:List Value} {x:Str} {p pos:Pos} {e:Expr} {es:List Expr} {t:TA}
theorem pe_callM (F:FnOkM X.prog X.w X.K X.mg X.base k f fd ps sp) (hr:Room k (calmA X.A)) (hg:Gl X x) (hm:X.mg x=some (.ref f)) (hk:PySem.W.keepIn X.K (.ref f)=true) (hb:Binds X.K fd ps ds) (hd:Vals dvs ds)
  (ha:PA X (e::es) t) (hdb:(x == ("__debug__":Str))=false:=by decide) (he:starEach (e::es) X.env=(false,eval e X.env)::starEach es X.env:=by rfl) (hpl:(backTo pos (starEach es X.env)).any (·.1)=false:=by rfl) :
  PE X (.Call (.Name x p) (e::es) [] pos) (tCall sp dvs E0 t):=by
 intro pins s σ H Q I h
 refine wpAny_Call_Name_kw (ld_glob I hg hm ?_ hdb)
 refine PySem.W.callWith_K (h₀:=X.base) I.ok.mod.kin hk (thn (ha pos pins s σ H _ I h) fun us s1 ⟨vs,H1,I1,r,q⟩=>⟨I1.kIn,?_⟩) he hpl
 have r2:Vals (vs++dvs) (us++ds):=r.append hd
 have hl:(us++ds).length=ps.length:=by rw [← r2.length]; exact F.len _ _ _ _ q
 refine wpAny_call (codeAny_mono (F.run X.A X.stack s1 H1 ⟨us,[]⟩ (us++ds) (vs++dvs) Q E0 hr I1.env0 (hb s1 us I1.kIn hl) r2 q) fun r s' hq=>?_)
 cases r with
 | error e=>exact False.elim hq
 | ok fl =>
  cases fl with
  | ret u=>exact I1.after hq
  | next=>exact False.elim hq
  | brk=>exact False.elim hq
  | cont=>exact False.elim hq
end
end L2
set_option maxHeartbeats 4000000
namespace L2
open PySem PySem.Spec PyProof.Rows PySem.W
abbrev bmV:List Value:=[.type "ValueError",.type "Exception",.type "BaseException",.type "object"]
def shapeIn (K:PySem.W.Frag) (C:Addr):Bool:=match K.lookup C with
 | some ⟨.type "type",_,.cls cd,sl⟩=>(match cd.mro,sl.toList with
  | .ref C'::_,[_,_,_,_,some (.builtin _),_]=>C' == C && !cd.hasDel
  | _,_=>false)
 | _=>false
theorem shape_of_in {K:PySem.W.Frag} {h:Heap} {C:Addr} (X:K.In h) (q:shapeIn K C=true):∃ bm,EShape h C bm∧∀ S b,mroIn K C S=some b→(Value.ref C::bm).contains S=b:=by
 unfold shapeIn at q
 split at q
 ·rename_i dd cd sl ho
  split at q
  ·rename_i C' bm k0 k1 k2 k3 n k5 hm hs
   simp only [Bool.and_eq_true,beq_iff_eq,Bool.not_eq_true'] at q
   obtain ⟨rfl,hdel⟩:=q
   obtain ⟨nm,bs,mro,ns,qn,hd,sn,sub,ab,col,del⟩:=cd
   dsimp only at hm hdel
   subst hm hdel
   have hsl:sl=#[k0,k1,k2,k3,some (.builtin n),k5]:=by
    obtain ⟨l⟩:=sl
    simp only at hs
    rw [hs]
   subst hsl
   refine ⟨bm,⟨nm,qn,ns,bs,hd,sn,sub,ab,col,dd,k0,k1,k2,k3,k5,n,X _ _ ho⟩,fun S b e=>?_⟩
   unfold mroIn clsIn at e
   rw [ho] at e
   simp only [Option.bind_some,List.isEmpty_cons,Bool.false_eq_true,if_false] at e
   exact Option.some.inj e
  ·cases q
 ·cases q
theorem excCls_of_in {K:PySem.W.Frag} {h:Heap} {C:Addr} (X:K.In h) (q:excIn K C bmV "ValueError.__new__"=true):∃ bm,ExcCls h C bm∧∀ S b,mroIn K C S=some b→(Value.ref C::bm).contains S=b:=by
 unfold excIn at q
 split at q
 ·rename_i dd cd sl ho
  split at q
  ·rename_i C' bm k0 k1 k2 k3 n k5 hm hs
   simp only [Bool.and_eq_true,beq_iff_eq,Bool.not_eq_true'] at q
   obtain ⟨⟨⟨⟨⟨rfl,rfl⟩,hdel⟩,ht⟩,hok⟩,hni⟩:=q
   obtain ⟨nm,bs,mro,ns,qn,hd,sn,sub,ab,col,del⟩:=cd
   dsimp only at hm hdel hok hni
   subst hm hdel
   have hsl:sl=#[k0,k1,k2,k3,some (.builtin "ValueError.__new__"),k5]:=by
    obtain ⟨l⟩:=sl
    simp only at hs
    rw [hs]
   subst hsl
   refine ⟨bm,⟨nm,qn,ns,bs,hd,sn,sub,ab,col,dd,k0,k1,k2,k3,k5,_,X _ _ ho,.of_isNs (isNs_of_in X hok),nsMap_none_of_in X hok hni,tail_of_in X ht⟩,fun S b e=>?_⟩
   unfold mroIn clsIn at e
   rw [ho] at e
   simp only [Option.bind_some,List.isEmpty_cons,Bool.false_eq_true,if_false] at e
   exact Option.some.inj e
  ·cases q
 ·cases q
end L2
set_option maxHeartbeats 4000000
namespace Ts
open PySem PyProof.Rows
section
variable {P:Program} {w:World} {A:Around} {E:Value→Shared→Prop} {s:Shared}
theorem gather_tup {t:Addr} {vs:List Value} {Q:List Value→Shared→Prop} (ht:s.heap.IsTuple t vs.toArray) (hz:vs.length≤sizeLine)
  (k:Q vs { s with heap:=(s.heap.push (seqObj "list" #[] 0)).update s.heap.objs.size (Obj.mapSeq (·++vs.toArray)) }):wpAny (model P w) A (collect (.ref t)) Q E s:=by
 obtain ⟨ob,hob,hcl,m,hdt⟩:=id ht
 unfold collect
 refine wpAny_bind (wpAny_runValue (codeAny_builtin entry_proto_collect' ?_))
 show wpAny _ _ (do again (.builtin "list.__iadd__" ⟨[← newList [],.ref t],[]⟩)) _ _ s
 refine wpAny_bind (wpAny_newList (wpAny_pure ⟨Code.quiet_builtin _ (by decide +kernel),codeAny_builtin entry_list_iadd' ?_⟩))
 show wpAny _ _ (Builtin.List.listExtendWith (.ref s.heap.objs.size) (.ref t) (.ref s.heap.objs.size)) _ _ { s with heap:=s.heap.push (seqObj "list" #[] 0) }
 unfold Builtin.List.listExtendWith
 have hob':(s.heap.push (seqObj "list" #[] 0)).get? t=some ob:=Heap.get?_push_of_some _ hob
 refine wpAny_bind (wpAny_typeOf (T:="tuple") ⟨ob,hob',hcl⟩ ?_)
 have et:(Value.type "tuple" == Value.type "tuple")=true:=by rfl
 rw [if_pos (by rw [et]; simp)]
 refine wpAny_bind (listItems_at hob' hdt (wpAny_bind (listItems_at (xs:=#[]) (n:=0) (Heap.get?_push_size _ rfl) rfl ?_)))
 rw [if_neg (by simp)]
 refine wpAny_bind (listUpdate_at (xs:=#[]) (n:=0) (Heap.get?_push_size _ rfl) rfl (wpAny_pure ?_) (Nat.zero_le _) (by show (#[]++vs.toArray).size≤sizeLine+1; rw [Array.size_append,List.size_toArray]; simp; lia))
 show wpAny (model P w) A (do { let o ← load s.heap.objs.size; match o.data with | .seq xs _=>pure xs.toList | _=>unsupported "internal:collect" }) Q E { s with heap:=(s.heap.push (seqObj "list" #[] 0)).update s.heap.objs.size (Obj.mapSeq (·++vs.toArray)) }
 refine wpAny_bind (wpAny_load (get?_update_seq (Heap.get?_push_size _ rfl) _) ?_)
 have ev:((#[]:Array Value)++vs.toArray).toList=vs:=by simp
 show wpAny _ _ (pure ((#[]:Array Value)++vs.toArray).toList) Q E _
 rw [ev]
 exact wpAny_pure k
theorem sorted_tup {t:Addr} {vs:List Value} {ns:List Int} {Q:Value→Shared→Prop} (ht:s.heap.IsTuple t vs.toArray) (hI:IntsAre vs ns) (h2:vs.length<64)
  (h:∀ (out:Array Value) (ms:List Int),IntsAre out.toList ms→ms.Perm ns→ms.Pairwise (·≤·)→Q (.ref (s.heap.objs.size+1)) { s with heap:=sortedAll s.heap vs out }) :
  wpAny (model P w) A (call (.builtin "sorted") [.ref t]) Q E s:=by
 refine Calls.call_function_entry kind_sorted plain_sorted entry_sorted (args_sorted1 _) ?_
 unfold Builtin.«sorted»
 have hsz:((s.heap.push (seqObj "list" #[] 0)).update s.heap.objs.size (Obj.mapSeq (·++vs.toArray))).objs.size=s.heap.objs.size+1:=by rw [Heap.size_update,size_push']
 have hL:(((s.heap.push (seqObj "list" #[] 0)).update s.heap.objs.size (Obj.mapSeq (·++vs.toArray))).push (seqObj "list" vs.toArray 0)).get? (s.heap.objs.size+1)=some (seqObj "list" vs.toArray 0):=by
  rw [← hsz]; exact Heap.get?_push_size _ rfl
 refine wpAny_bind (m:=checkCount "sorted" 1 1 _) (wpAny_pure (wpAny_bind (gather_tup ht (by rw [sizeLine_eq]; lia) (wpAny_bind (wpAny_newList ?_)))))
 show wpAny _ _ _ _ _ { s with heap:=((s.heap.push (seqObj "list" #[] 0)).update s.heap.objs.size (Obj.mapSeq (·++vs.toArray))).push (seqObj "list" vs.toArray 0) }
 rw [hsz]
 exact wpAny_bind (wpAny_holding (wpAny_call_entry slot_list_sort ⟨_,hL,rfl⟩ entry_list_sort (list_sort_tree hL hI h2 fun out ms q1 q2 q3=>⟨_,rfl,wpAny_pure ⟨_,rfl,h out ms q1 q2 q3⟩⟩) (args_list_sort _)))
end
end Ts
namespace L2
open PySem PySem.Spec PyProof.Rows
theorem any_range (bs:List Bool):((List.range bs.length).any fun i=>(bs[i]?).getD false)=bs.any id:=by
 refine Bool.eq_iff_iff.mpr ?_
 rw [List.any_eq_true,List.any_eq_true]
 constructor
 ·rintro ⟨i,hi,e⟩
  have hl:=List.mem_range.mp hi
  rw [List.getElem?_eq_getElem hl,Option.getD_some] at e
  exact ⟨bs[i],List.getElem_mem hl,e⟩
 ·rintro ⟨b,hb,e⟩
  obtain ⟨i,hi⟩:=List.getElem?_of_mem hb
  refine ⟨i,List.mem_range.mpr (List.getElem?_eq_some_iff.mp hi).1,?_⟩
  rw [hi,Option.getD_some]
  exact e
theorem all_range (bs:List Bool):((List.range bs.length).all fun i=>(bs[i]?).getD true)=bs.all id:=by
 refine Bool.eq_iff_iff.mpr ?_
 rw [List.all_eq_true,List.all_eq_true]
 constructor
 ·intro h b hb
  obtain ⟨i,hi⟩:=List.getElem?_of_mem hb
  have:=h i (List.mem_range.mpr (List.getElem?_eq_some_iff.mp hi).1)
  rw [hi,Option.getD_some] at this
  exact this
 ·intro h i hi
  have hl:=List.mem_range.mp hi
  rw [List.getElem?_eq_getElem hl,Option.getD_some]
  exact h _ (List.getElem_mem hl)
theorem bools_of:∀ {bs:List Bool} {us:List Value},Vals (bs.map V.bl) us→us=bs.map Value.bool
 | [],_,r=>by cases r; rfl
 | b::bs,_,r=>by
  cases r with
  | cons r t =>
   cases (show _=Value.bool b from r)
   rw [bools_of t]
   rfl
section
variable {X:Cx}
def rAny (K:PySem.W.Frag):List V→Hp→VK→Prop:=fun xs H Q=>∃ (p:Addr) (bs:List Bool),xs=[.ref p]∧SqL K H p (bs.map V.bl)∧Q (.bl (bs.any id)) H
def rAll (K:PySem.W.Frag):List V→Hp→VK→Prop:=fun xs H Q=>∃ (p:Addr) (bs:List Bool),xs=[.ref p]∧SqL K H p (bs.map V.bl)∧Q (.bl (bs.all id)) H
theorem walked {h h':Heap} {o:Obj} (hk:∀ b x,b∉[h.objs.size]→(h.push o).get? b=some x→h'.get? b=some x):∀ b x,h.get? b=some x→h'.get? b=some x:=fun b x e=>by
 refine hk b x (fun z=>?_) (Heap.get?_push_of_some _ e)
 have lt:=Heap.lt_size e
 rw [List.mem_singleton.mp z] at lt
 exact Nat.lt_irrefl _ lt
theorem call_anyL (hc:X.calm=true):CallR X (.builtin "any") (rAny X.K):=by
 intro pins s σ H xs us Q I r h
 obtain ⟨p,bs,rfl,hq,q⟩:=h
 obtain ⟨u,rfl,rx⟩:=vals1 r
 cases rx
 obtain ⟨its,rv,pl,hz⟩:=I.list hq
 obtain rfl:=bools_of rv
 have lp:p<s.heap.objs.size:=by obtain ⟨_,e,_⟩:=pl.isList; exact Heap.lt_size e
 refine call_any_walk (wpAny_pyIter_list pl.isList ?_)
 refine ⟨s.heap.objs.size,[s.heap.objs.size,p],[s.heap.objs.size],(bs.map Value.bool).toArray.size,_,_,fun i=>(bs[i]?).getD false,rfl,Walks.list (A:=X.A.in1) (I.ok.hd hc) _ p (Nat.ne_of_lt lp) _,
  ⟨⟨_,Heap.get?_push_size _ rfl,rfl,rfl⟩,pl.isList.push _⟩,fun i v s' Q' E' hP hQ=>?_,fun h' tk hk=>?_⟩
 ·have hP2:(bs.map Value.bool)[i]?=some v:=by simpa using hP
  rw [List.getElem?_map] at hP2
  cases e:bs[i]? with
  | none=>rw [e] at hP2; cases hP2
  | some b =>
   dsimp only at hQ
   rw [e] at hP2 hQ
   have:Value.bool b=v:=by simpa using hP2
   rw [← this]
   exact wpAny_truthy_bool hQ
 ·rw [List.size_toArray,List.length_map,any_range]
  exact ⟨.bl (bs.any id),H,I.kept (t':=tk) (walked hk),rfl,q⟩
theorem call_allL (hc:X.calm=true):CallR X (.builtin "all") (rAll X.K):=by
 intro pins s σ H xs us Q I r h
 obtain ⟨p,bs,rfl,hq,q⟩:=h
 obtain ⟨u,rfl,rx⟩:=vals1 r
 cases rx
 obtain ⟨its,rv,pl,hz⟩:=I.list hq
 obtain rfl:=bools_of rv
 have lp:p<s.heap.objs.size:=by obtain ⟨_,e,_⟩:=pl.isList; exact Heap.lt_size e
 refine call_all_walk (wpAny_pyIter_list pl.isList ?_)
 refine ⟨s.heap.objs.size,[s.heap.objs.size,p],[s.heap.objs.size],(bs.map Value.bool).toArray.size,_,_,fun i=>(bs[i]?).getD true,rfl,Walks.list (A:=X.A.in1) (I.ok.hd hc) _ p (Nat.ne_of_lt lp) _,
  ⟨⟨_,Heap.get?_push_size _ rfl,rfl,rfl⟩,pl.isList.push _⟩,fun i v s' Q' E' hP hQ=>?_,fun h' tk hk=>?_⟩
 ·have hP2:(bs.map Value.bool)[i]?=some v:=by simpa using hP
  rw [List.getElem?_map] at hP2
  cases e:bs[i]? with
  | none=>rw [e] at hP2; cases hP2
  | some b =>
   dsimp only at hQ
   rw [e] at hP2 hQ
   have:Value.bool b=v:=by simpa using hP2
   rw [← this]
   exact wpAny_truthy_bool hQ
 ·rw [List.size_toArray,List.length_map,all_range]
  exact ⟨.bl (bs.all id),H,I.kept (t':=tk) (walked hk),rfl,q⟩
theorem Same.tup {K:PySem.W.Frag} {H H':Hp} {a:Addr} {xs:List V} (e:Same H H') (h:SqT K H a xs):SqT K H' a xs:=by
 rcases h with (h | ⟨o,h⟩) | h
 ·exact .inl (.inl (e _ _ h))
 ·exact .inl (.inr ⟨o,e _ _ h⟩)
 ·exact .inr h
def SqS (K:PySem.W.Frag) (H:Hp) (a:Addr) (xs:List V):Prop:=SqL K H a xs∨SqT K H a xs
theorem Same.sqs {K:PySem.W.Frag} {H H':Hp} {a:Addr} {xs:List V} (e:Same H H') (h:SqS K H a xs):SqS K H' a xs:=h.imp e.seq e.tup
def rSortS (K:PySem.W.Frag):List V→Hp→VK→Prop:=fun xs H Q=>∃ (p:Addr) (ns:List Int),xs=[.ref p]∧SqS K H p (ns.map V.int)∧ns.length<64∧∀ (l:Addr) (ms:List Int),H l=none→ms.Perm ns→ms.Pairwise (·≤·)→Q (.ref l) (upd H l (.lst (ms.map V.int)))
theorem call_sortS:CallR X (.builtin "sorted") (rSortS X.K):=by
 intro pins s σ H xs us Q I r h
 obtain ⟨p,ns,rfl,hq,hl,q⟩:=h
 rcases hq with hq | hq
 ·exact call_sorted pins s σ H _ us Q I r ⟨p,ns,rfl,hq,hl,q⟩
 obtain ⟨u,rfl,rx⟩:=vals1 r
 cases rx
 obtain ⟨its,rv,pl,hz⟩:=I.tuple hq
 have hi:IntsAre its ns:=intsAre_of rv
 have hlen:=rv.length
 rw [List.length_map] at hlen hz
 refine Ts.sorted_tup (show s.heap.IsTuple p its.toArray from pl) hi (by lia) fun out ms a1 a2 a3=>?_
 obtain ⟨e,he⟩:=sortedAll_at s.heap its out
 have hfr:H (s.heap.objs.size+1)=none:=I.hok.fresh (Nat.le_succ _)
 refine ⟨.ref (s.heap.objs.size+1),_,I.laid (t':=s.toks) (o:=.lst (ms.map V.int)) (fun b u q=>sortedAll_old q) (Nat.le_succ _) ⟨?_,out.toList,e,vals_ints a1,?_⟩,rfl,q _ ms hfr a2 a3⟩
 ·rw [List.length_map,a2.length_eq]; exact hz
 ·simpa using he
def iSeq (K:PySem.W.Frag) (tl:TE):TI:=fun σ H R=>tl σ H fun x H1=>∃ a,x=.ref a∧(((∃ xs,SqL K H1 a xs)∧R (Itl K a) H1)∨((∃ xs,SqT K H1 a xs)∧R (Itt K a) H1))
theorem pi_seq {tg l:Expr} {tl:TE} (hl:PE X l tl):PI X tg l (iSeq X.K tl):=by
 intro pins s σ H R I h
 refine thn (hl pins s σ H _ I h) fun v s1 ⟨x,H1,I1,r1,q1⟩=>?_
 obtain ⟨a,e,q1⟩:=q1
 subst e
 cases r1
 have fp:∀ b∈[s1.heap.objs.size],FpOk X pins H1 b:=fun b hb=>by
  rw [List.mem_singleton.mp hb]
  exact I1.fpOk (Nat.le_refl _) (I1.hok.fresh (Nat.le_refl _))
 rcases q1 with ⟨⟨xs,hq⟩,q⟩ | ⟨⟨xs,hq⟩,q⟩
 ·obtain ⟨its,rv,p,hz⟩:=I1.list hq
  exact wpAny_pyIter_list p.isList ⟨s1.heap.objs.size,[s1.heap.objs.size],_,_,H1,rfl,I1.kept (t':=s1.toks) fun b o e=>Heap.get?_push_of_some _ e,turn_list a _,⟨_,Heap.get?_push_size _ rfl,rfl,rfl⟩,fp,q⟩
 ·obtain ⟨its,rv,p,hz⟩:=I1.tuple hq
  exact wpAny_pyIter_tuple (show s1.heap.IsTuple a its.toArray from p) ⟨s1.heap.objs.size,[s1.heap.objs.size],_,_,H1,rfl,I1.kept (t':=s1.toks) fun b o e=>Heap.get?_push_of_some _ e,turn_tuple a _,⟨_,Heap.get?_push_size _ rfl,rfl,rfl⟩,fp,q⟩
end
end L2
namespace Ts
open PySem PyProof.Rows
theorem tup_no_set:isSubtype (.type "tuple") (.type "set")=pure false:=by rw [isSubtype_type]; kernel_rfl
theorem tup_no_frozen:isSubtype (.type "tuple") (.type "frozenset")=pure false:=by rw [isSubtype_type]; kernel_rfl
section
variable {prog:Program} {w:World} {A:Around} {E:Value→Shared→Prop} {s:Shared}
abbrev setNew (led:Bool):Obj:={ cls:=.type "set",dict:=none,data:=.set #[] 0 (.fresh 0 0 led) }
set_option maxHeartbeats 4000000 in
theorem set_tup {t:Addr} {its:Array Value} {ns:List Int} {Q:Value→Shared→Prop} (hh:A.handled=none) (ht:s.heap.IsTuple t its) (hi:IntsAre its.toList ns) (hb:its.size+1<scanBound)
  (h:∀ (h':Heap) (tk:Nat),h'.SetOf (intKind prog w) s.heap.objs.size (fun k'=>(firstMet (fun i=>ns.getD i 0) its.size).any (· == k')) (firstMet (fun i=>ns.getD i 0) its.size).length →
   (∀ b o,b<s.heap.objs.size→s.heap.get? b=some o→h'.get? b=some o)→Q (.ref s.heap.objs.size) { s with heap:=h',toks:=tk }) :
  wpAny (model prog w) A (call (.type "set") [.ref t]) Q E s:=by
 obtain ⟨cc,tl,hmro⟩:=PySem.F.called_set.mro
 have hmade:=PySem.F.called_set.made
 have hsub:=PySem.F.called_set.sub
 refine wpAny_call (codeAny_of_tree ?_)
 show wpAny _ _ (callAny (.type "set") _) _ _ _
 refine wpAny_pure ⟨Code.quiet_builtin _ (by decide +kernel),codeAny_builtin PySem.F.entry_type_call ?_⟩
 rw [Around.under_plain (weight_type_call_type "set" [.ref t] []) rfl]
 have n1:=PySem.F.called_set.notType
 have n2:=PySem.F.called_set.canCreate
 have n3:=PySem.F.typeCall_set_1 (.ref t)
 repeat (any_goals (first | assumption | wp_step))
 refine codeAny_mono (code_set_new_1 (.ref t) (E:=E) (Q₁:=fun obj s₁=>∃ led:Bool,obj=.ref s.heap.objs.size∧s₁={ s with heap:=s.heap.push (setNew led) }) fun led=>⟨led,rfl,rfl⟩) fun r s₁ hr=>?_
 cases r with
 | error e=>exact hr
 | ok fl =>
  cases fl with
  | ret obj =>
   obtain ⟨led,rfl,rfl⟩:=hr
   have hS:(s.heap.push (setNew led)).get? s.heap.objs.size=some (setNew led):=Heap.get?_push_size _ rfl
   have hT:Shared.TypeIs { s with heap:=s.heap.push (setNew led) } (.ref s.heap.objs.size) "set":=⟨_,hS,rfl⟩
   have hli:=PySem.F.called_set.init.lookup
   have hbi:=PySem.F.called_set.init.bind (.ref s.heap.objs.size)
   repeat (any_goals (first | assumption | wp_step))
   refine codeAny_mono (codeAny_call_builtin (R:=wants (fun r s₂=>r=.none∧∃ h' tk,s₂={ s with heap:=h',toks:=tk } ∧
     h'.SetOf (intKind prog w) s.heap.objs.size (fun k'=>(firstMet (fun i=>ns.getD i 0) its.size).any (· == k')) (firstMet (fun i=>ns.getD i 0) its.size).length ∧
     (∀ b o,b<s.heap.objs.size→s.heap.get? b=some o→h'.get? b=some o)) E) PySem.F.called_set.init.plain PySem.F.entry_set_init (check_set_init_1 hT ?_)) fun r₂ s₂ hr₂=>?_
   ·obtain ⟨ot,hot,hct,nt,hdt⟩:=ht
    obtain ⟨c1,c2,c3,c4⟩:=ot
    simp only at hct hdt
    subst hct; subst hdt
    have hot':(s.heap.push (setNew led)).get? t=some { cls:=.type "tuple",dict:=c2,data:=.seq its nt,slots:=c4 }:=Heap.get?_push_of_some _ hot
    have ns1:=tup_no_set
    have ns2:=tup_no_frozen
    have ns3:(Value.type "tuple" == Value.type "dict")=false:=by decide
    have ht1:(s.heap.push (setNew led)).IsTuple t its:=⟨_,hot',rfl,nt,rfl⟩
    unfold Builtin.«set.__init__» noKeywords Builtin.Frozenset.updateFrom
    generalize hPI:pyIter=PI
    wp_walk
    subst hPI
    refine wpAny_pyIter_tuple ht1 (wpAny_bind (wpAny_runValue ?_))
    have ltS:t<s.heap.objs.size:=Heap.lt_size hot
    have hh3:A.in1.in1.in1.handled=none:=by simp [hh]
    have neI:t≠(s.heap.push (setNew led)).objs.size:=by
     rw [Heap.size_push]; exact Nat.ne_of_lt (Nat.lt_succ_of_lt ltS)
    have nSf:s.heap.objs.size∉[(s.heap.push (setNew led)).objs.size,t]:=by
     rw [Heap.size_push]
     simp only [List.mem_cons,List.not_mem_nil,or_false,not_or]
     exact ⟨Nat.ne_of_lt (Nat.lt_succ_self _),Nat.ne_of_gt ltS⟩
    have hval:∀ (i:Nat) (v:Value),its[i]?=some v→∃ t,v=.int ((fun i=>ns.getD i 0) i) t:=fun i v hv=>IntsAre.int_at hi i v (by rw [Array.getElem?_toList]; exact hv)
    refine codeAny_set_update_loopS ((Walks.tuple hh3 _ t neI its).toS) s.heap.objs.size nSf (fun i=>ns.getD i 0) hval hb (its.size - 0) 0 _ (by lia) (Nat.zero_le _) ⟨⟨_,Heap.get?_push_size _ rfl,rfl,rfl⟩,?ht2⟩ ?hS0 ?hR
    case ht2 =>
     exact ⟨_,Heap.get?_push_of_some _ hot',rfl,nt,rfl⟩
    case hS0 =>
     have hg:((s.heap.push (setNew led)).push { cls:=.type "tuple_iterator",data:=.fields #[.ref t,.int 0 0] }).get? s.heap.objs.size=some (setNew led):=Heap.get?_push_of_some _ hS
     exact SetOf_congr ((setObjOf_fresh (knd:=intKind prog w) led).setOf hg (by unfold scanBound; lia)) (fun _=>rfl) rfl
    case hR =>
     intro s' hm hS'
     obtain ⟨h',g',d',tk',os'⟩:=s'
     obtain rfl:g'=s.gens:=hm.gens
     obtain rfl:d'=s.drawn:=hm.drawn
     obtain rfl:os'=s.os:=hm.os
     show wpAny _ _ _ _ _ _
     refine wpAny_pure ?_
     show wpAny _ _ (ret Value.none) _ _ _
     refine wpAny_pure ⟨rfl,h',tk',rfl,hS',fun b o hb e=>hm.heap b o ?_ (Heap.get?_push_of_some _ (Heap.get?_push_of_some _ e))⟩
     rw [Heap.size_push]
     simp only [List.mem_cons,List.not_mem_nil,or_false,not_or]
     exact ⟨Nat.ne_of_lt hb,Nat.ne_of_lt (Nat.lt_succ_of_lt hb)⟩
   ·cases r₂ with
    | error e=>exact hr₂
    | ok fl₂ =>
     cases fl₂ with
     | ret r =>
      obtain ⟨rfl,h',tk,rfl,hS',hk'⟩:=hr₂
      repeat (any_goals (first | assumption | wp_step))
      exact h _ _ hS' hk'
     | _=>exact hr₂.elim
  | _=>exact hr.elim
end
end Ts
namespace L2
open PySem PySem.Spec PyProof.Rows
section
variable {X:Cx}
def rSetS (K:PySem.W.Frag):List V→Hp→VK→Prop:=fun xs H Q=>∃ (p:Addr) (ns:List Int),xs=[.ref p]∧SqS K H p (ns.map V.int)∧ns.length<1000∧∀ (l:Addr) (S:Int→Bool) (n:Nat),H l=none→n≤ns.length→(n=ns.length↔ns.Nodup)→Q (.ref l) (upd H l (.set S n))
theorem call_setS (hc:X.calm=true):CallR X (.type "set") (rSetS X.K):=by
 intro pins s σ H xs us Q I r h
 obtain ⟨p,ns,rfl,hq,hl,q⟩:=h
 rcases hq with hq | hq
 ·exact call_set hc pins s σ H _ us Q I r ⟨p,ns,rfl,hq,hl,q⟩
 obtain ⟨u,rfl,rx⟩:=vals1 r
 cases rx
 obtain ⟨its,rv,pl,hz⟩:=I.tuple hq
 have hi:IntsAre its ns:=intsAre_of rv
 have hlen:=rv.length
 rw [List.length_map] at hlen hz
 refine Ts.set_tup (I.ok.hd hc) (show s.heap.IsTuple p its.toArray from pl) (by simpa using hi) (by rw [List.size_toArray]; unfold scanBound; lia) fun h' tk hS hk=>?_
 have hsz:its.toArray.size=ns.length:=by rw [List.size_toArray,hlen]
 rw [hsz] at hS
 have hm:=met_all (fun i=>ns.getD i 0) ns.length
 rw [getD_map] at hm
 exact ⟨.ref s.heap.objs.size,_,I.laid (t':=tk) (o:=.set _ _) (fun b u q=>hk b u (Heap.lt_size q) q) (Nat.le_refl _) hS,rfl,q _ _ _ (I.hok.fresh (Nat.le_refl _)) (firstMet_length_le _ _) hm⟩
end
end L2
set_option maxHeartbeats 4000000
namespace Zp
open PySem PyProof.Rows
theorem ap {a b:Nat} (h:a<b∨b<a):a≠b:=by lia
section
variable {prog:Program} {w:World} {A:Around} {E:Value→Shared→Prop} {s:Shared}
theorem alive {a:Addr} {o:Obj} {Q:Option Obj→Shared→Prop} (ho:s.heap.get? a=some o) (h:Q (some o) s):wpAny (model prog w) A (loadIfAlive a) Q E s:=fun Γ p hΓ=>by
 unfold loadIfAlive
 rw [Sem.wp_loadIfAlive,ho]
 simpa using h
abbrev ZipAt (h:Heap) (z TI TO:Addr) (f0:Value) (f1:Bool):Prop:=h.get? z=some { cls:=.type "zip",dict:=none,data:=.fields #[f0,.bool f1,.bool false,.ref TI,.ref TO],slots:=#[] }
theorem held_next {z TI TO i1 i2 l1 l2 T0:Addr} {f1:Bool} {k:Nat} {xs ys:Array Value} {x y:Value} {Q:Value→Shared→Prop} (D:ZipApart z TI TO i1 i2 l1 l2)
  (hz:ZipAt s.heap z TI TO (rawInt T0) f1) (hT0:∃ o,s.heap.get? T0=some o) (hTI:IsPair s.heap TI (.ref i1) (.ref i2))
  (h1:s.heap.IsListIter i1 l1 k) (h2:s.heap.IsListIter i2 l2 k) (hl1:s.heap.IsList l1 xs) (hl2:s.heap.IsList l2 ys) (hx:xs[k]?=some x) (hy:ys[k]?=some y)
  (hQ:∀ h' g1,ZipAt h' z TI TO (rawInt T0) g1→h'.IsListIter i1 l1 (k+1)→h'.IsListIter i2 l2 (k+1)→IsPair h' s.heap.objs.size x y→(∀ c o,c≠z→c≠i1→c≠i2→s.heap.get? c=some o→h'.get? c=some o)→Q (.ref s.heap.objs.size) { s with heap:=h' }) :
  wpAny (model prog w) A (Builtin.«zip.__next__» ⟨[.ref z],[]⟩) (fun fin s'=>∃ v,fin=.done (.ret v)∧Q v s') E s:=by
 obtain ⟨o0,hT0⟩:=hT0
 show wpAny _ _ (field (.ref z) 2 >>= _) _ _ _
 refine wpAny_bind (wpAny_field hz rfl (x:=.bool false) rfl ?_)
 show wpAny _ _ (field (.ref z) 3 >>= _) _ _ _
 refine wpAny_bind (wpAny_field hz rfl (x:=.ref TI) rfl (wpAny_bind (wpAny_seqItems hTI rfl ?_)))
 show wpAny _ _ (Builtin.SmallTypes.ownedTupleIsFree (.ref z) >>= _) _ _ _
 refine wpAny_bind ?_
 have key:∀ (Qf:Bool→Shared→Prop),(∀ h₁ g1,ZipAt h₁ z TI TO (rawInt T0) g1→Heap.SameBut z s.heap h₁→Qf false { s with heap:=h₁ })→wpAny (model prog w) A (Builtin.SmallTypes.ownedTupleIsFree (.ref z)) Qf E s:=fun Qf hf=>by
  unfold Builtin.SmallTypes.ownedTupleIsFree
  refine wpAny_bind (wpAny_field hz rfl (x:=rawInt T0) rfl ?_)
  show wpAny _ _ (loadIfAlive ((T0:Int).toNat) >>= _) _ _ _
  rw [Int.toNat_natCast]
  refine wpAny_bind (alive hT0 ?_)
  show wpAny _ _ (field (.ref z) 1 >>= _) _ _ _
  refine wpAny_bind (wpAny_field hz rfl (x:=.bool f1) rfl ?_)
  cases f1 with
  | true=>exact wpAny_pure (hf s.heap true hz ⟨rfl,fun _ _=>rfl⟩)
  | false =>
   show wpAny _ _ (setField (.ref z) 1 (.bool true) >>= _) _ _ _
   exact wpAny_bind (wpAny_setField_rec hz (by simp) fun h₁ hz₁ hs₁=>wpAny_pure (hf h₁ true hz₁ hs₁))
 refine key _ fun h₁ g1 hz₁ hs₁=>?_
 simp only [Bool.false_eq_true,if_false,← Array.forIn_toList,List.forIn_cons,List.forIn_nil]
 refine wpAny_bind (wpAny_bind (wpAny_bind (wpAny_holding ?_)))
 show wpAny _ _ (Builtin.SmallTypes.nextOf (.ref i1) >>= _) _ _ _
 refine wpAny_bind (wpAny_nextOf_list_item (h1.extBut hs₁.extBut D.i1z) (hl1.extBut hs₁.extBut D.l1z) hx fun h₂ h1₂ hs₂=>wpAny_pure (wpAny_pure ?_))
 refine wpAny_bind (wpAny_bind (wpAny_holding ?_))
 show wpAny _ _ (Builtin.SmallTypes.nextOf (.ref i2) >>= _) _ _ _
 refine wpAny_bind (wpAny_nextOf_list_item ((h2.extBut hs₁.extBut D.i2z).extBut hs₂.extBut D.i12.symm) ((hl2.extBut hs₁.extBut D.l2z).extBut hs₂.extBut D.l2i1) hy fun h₃ h2₃ hs₃=>wpAny_pure (wpAny_pure (wpAny_pure ?_)))
 refine wpAny_bind (wpAny_newTuple (wpAny_pure ⟨_,rfl,?_⟩) (by show 2≤sizeLine; decide))
 have hsz:h₃.objs.size=s.heap.objs.size:=by rw [hs₃.1,hs₂.1,hs₁.1]
 have hz₃:ZipAt h₃ z TI TO (rawInt T0) g1:=hs₃.extBut _ _ D.i2z.symm (hs₂.extBut _ _ D.i1z.symm hz₁)
 have kp:∀ c o,c≠z→c≠i1→c≠i2→s.heap.get? c=some o→h₃.get? c=some o:=fun c o c1 c2 c3 e=>hs₃.extBut _ _ c3 (hs₂.extBut _ _ c2 (hs₁.extBut _ _ c1 e))
 have h1₃:h₃.IsListIter i1 l1 (k+1):=h1₂.extBut hs₃.extBut D.i12
 show Q (.ref h₃.objs.size) _
 rw [hsz]
 refine hQ _ g1 (Heap.get?_push_of_some _ hz₃) (h1₃.at fun o e=>Heap.get?_push_of_some _ e) (h2₃.at fun o e=>Heap.get?_push_of_some _ e) ?_ fun c o c1 c2 c3 e=>Heap.get?_push_of_some _ (kp c o c1 c2 c3 e)
 rw [← hsz]
 exact Heap.get?_push_size _ rfl
theorem held_pyNext {z TI TO i1 i2 l1 l2 T0:Addr} {f1:Bool} {k:Nat} {xs ys:Array Value} {x y:Value} {Q:Option Value→Shared→Prop} (D:ZipApart z TI TO i1 i2 l1 l2)
  (hz:ZipAt s.heap z TI TO (rawInt T0) f1) (hT0:∃ o,s.heap.get? T0=some o) (hTI:IsPair s.heap TI (.ref i1) (.ref i2))
  (h1:s.heap.IsListIter i1 l1 k) (h2:s.heap.IsListIter i2 l2 k) (hl1:s.heap.IsList l1 xs) (hl2:s.heap.IsList l2 ys) (hx:xs[k]?=some x) (hy:ys[k]?=some y)
  (hQ:∀ h' g1,ZipAt h' z TI TO (rawInt T0) g1→h'.IsListIter i1 l1 (k+1)→h'.IsListIter i2 l2 (k+1)→IsPair h' s.heap.objs.size x y→(∀ c o,c≠z→c≠i1→c≠i2→s.heap.get? c=some o→h'.get? c=some o)→Q (some (.ref s.heap.objs.size)) { s with heap:=h' }) :
  wpAny (model prog w) A (pyNext (.ref z)) Q E s:=by
 have hT:s.TypeIs (.ref z) "zip":=⟨_,hz,rfl⟩
 unfold pyNext
 exact wpAny_bind (wpAny_attempt (wpAny_callSpecial?_slot (name:=Str.ofString "__next__") hT F.slot_zip_next (wpAny_call_entry F.slot_zip_next hT F.entry_zip_next
  (held_next D hz hT0 hTI h1 h2 hl1 hl2 hx hy fun h' g1 a1 a2 a3 a4 a5=>wpAny_pure (hQ h' g1 a1 a2 a3 a4 a5)) (F.args_zip_next_1 _))))
theorem held_end {z TI TO i1 i2 l1 l2 T0:Addr} {f1:Bool} {k:Nat} {xs:Array Value} {Q:Option Value→Shared→Prop} (hh:A.handled=none) (D:ZipApart z TI TO i1 i2 l1 l2)
  (hz:ZipAt s.heap z TI TO (rawInt T0) f1) (hT0:∃ o,s.heap.get? T0=some o) (hTI:IsPair s.heap TI (.ref i1) (.ref i2)) (h1:s.heap.IsListIter i1 l1 k) (hl1:s.heap.IsList l1 xs) (hx:xs[k]?=none)
  (hQ:∀ h',(∀ c o,c≠z→c≠i1→s.heap.get? c=some o→h'.get? c=some o)→Q none { s with heap:=h' }):wpAny (model prog w) A (pyNext (.ref z)) Q E s:=by
 obtain ⟨o0,hT0⟩:=hT0
 have hT:s.TypeIs (.ref z) "zip":=⟨_,hz,rfl⟩
 unfold pyNext
 refine wpAny_bind (wpAny_attempt (wpAny_callSpecial?_slot (name:=Str.ofString "__next__") hT F.slot_zip_next (wpAny_call_entry F.slot_zip_next hT F.entry_zip_next ?_ (F.args_zip_next_1 _))))
 show wpAny _ _ (field (.ref z) 2 >>= _) _ _ _
 refine wpAny_bind (wpAny_field hz rfl (x:=.bool false) rfl ?_)
 show wpAny _ _ (field (.ref z) 3 >>= _) _ _ _
 refine wpAny_bind (wpAny_field hz rfl (x:=.ref TI) rfl (wpAny_bind (wpAny_seqItems hTI rfl ?_)))
 show wpAny _ _ (Builtin.SmallTypes.ownedTupleIsFree (.ref z) >>= _) _ _ _
 refine wpAny_bind ?_
 have key:∀ (Qf:Bool→Shared→Prop) (E':Value→Shared→Prop),(∀ h₁ g1,ZipAt h₁ z TI TO (rawInt T0) g1→Heap.SameBut z s.heap h₁→Qf false { s with heap:=h₁ })→wpAny (model prog w) A.in1 (Builtin.SmallTypes.ownedTupleIsFree (.ref z)) Qf E' s:=fun Qf E' hf=>by
  unfold Builtin.SmallTypes.ownedTupleIsFree
  refine wpAny_bind (wpAny_field hz rfl (x:=rawInt T0) rfl ?_)
  show wpAny _ _ (loadIfAlive ((T0:Int).toNat) >>= _) _ _ _
  rw [Int.toNat_natCast]
  refine wpAny_bind (alive hT0 ?_)
  show wpAny _ _ (field (.ref z) 1 >>= _) _ _ _
  refine wpAny_bind (wpAny_field hz rfl (x:=.bool f1) rfl ?_)
  cases f1 with
  | true=>exact wpAny_pure (hf s.heap true hz ⟨rfl,fun _ _=>rfl⟩)
  | false =>
   show wpAny _ _ (setField (.ref z) 1 (.bool true) >>= _) _ _ _
   exact wpAny_bind (wpAny_setField_rec hz (by simp) fun h₁ hz₁ hs₁=>wpAny_pure (hf h₁ true hz₁ hs₁))
 refine key _ _ fun h₁ g1 hz₁ hs₁=>?_
 simp only [Bool.false_eq_true,if_false,← Array.forIn_toList,List.forIn_cons,List.forIn_nil]
 refine wpAny_bind (wpAny_bind (wpAny_bind (wpAny_holding ?_)))
 show wpAny _ _ (Builtin.SmallTypes.nextOf (.ref i1) >>= _) _ _ _
 refine wpAny_bind (wpAny_nextOf_list_end hh (h1.extBut hs₁.extBut D.i1z) (hl1.extBut hs₁.extBut D.l1z) hx fun h₂ e hs₂ he=>?_)
 obtain ⟨oe,hoe,hce⟩:=he
 refine wpAny_bind (wpAny_isInstance (T:="StopIteration") (b:=true) ⟨oe,hoe,hce⟩ isSubtype_stop ?_)
 exact wpAny_pure (hQ _ fun c o c1 c2 e=>hs₂ _ _ c2 (hs₁.extBut _ _ c1 e))
end
section
variable {prog:Program} {w:World} {A:Around} {R:Result→Shared→Prop}
theorem fill_loop {S it:Addr} {res:Value} {n:Nat} (J:Nat→Array Value→Shared→Prop) (hn:n≤sizeLine)
  (hsz:∀ i acc s,J i acc s→acc.size=i)
  (hitem:∀ i acc s (E:Value→Shared→Prop),i<n→J i acc s→wpAny (model prog w) A.in1 (pyNext (.ref it)) (fun r s'=>∃ x c,r=some x∧s'.heap.get? S=some { cls:=.type "list",dict:=none,data:=.seq acc c,slots:=#[] }∧J (i+1) (acc.push x) { s' with heap:=s'.heap.update S (Obj.mapSeq (·.push x)) }) E s)
  (hdone:∀ acc s (E:Value→Shared→Prop),J n acc s→wpAny (model prog w) A.in1 (pyNext (.ref it)) (fun r s'=>r=none∧R (.ok (.ret res)) s') E s) :
  ∀ (k i:Nat) (acc:Array Value) (s:Shared),n - i=k→i≤n→J i acc s→codeAny (model prog w) A (.builtin "list.extend.loop" ⟨[.ref S,.ref it,res],[]⟩) R s:=by
 intro k
 induction k with
 | zero =>
  intro i acc s hk hi hJ
  obtain rfl:i=n:=by lia
  refine codeAny_builtin PySem.F.entry_extend_loop ?_
  rw [Around.under_plainId PySem.F.plain_extend_loop _]
  show wpAny _ A.in1 (pyNext (.ref it) >>= _) _ _ s
  refine wpAny_bind (wpAny_mono (hdone acc s _ hJ) (fun r s' h=>?_) fun _ _ e=>e)
  obtain ⟨rfl,h⟩:=h
  exact wpAny_pure h
 | succ k ih =>
  intro i acc s hk hi hJ
  refine codeAny_builtin PySem.F.entry_extend_loop ?_
  rw [Around.under_plainId PySem.F.plain_extend_loop _]
  show wpAny _ A.in1 (pyNext (.ref it) >>= _) _ _ s
  refine wpAny_bind (wpAny_mono (hitem i acc s _ (by lia) hJ) (fun r s' h=>?_) fun _ _ e=>e)
  obtain ⟨x,c,rfl,hS,hJ'⟩:=h
  have za:=hsz i acc s hJ
  show wpAny _ A.in1 (updateSeq S (·.push x) >>= _) _ _ _
  exact wpAny_bind (wpAny_updateSeq hS rfl (wpAny_pure ⟨plainId_quiet PySem.F.plain_extend_loop _,ih (i+1) _ _ (by lia) (by lia) hJ'⟩) (by rw [za]; lia) (by show (acc.push x).size≤sizeLine+1; rw [Array.size_push,za]; lia))
end
theorem nolen_zip:typeLookup (.type "zip") "__len__"=pure none:=by rw [typeLookup_type,builtinLookup_eq_fast]; kernel_rfl
theorem nohint_zip:typeLookup (.type "zip") "__length_hint__"=pure none:=by rw [typeLookup_type,builtinLookup_eq_fast]; kernel_rfl
section
variable {prog:Program} {w:World} {A:Around} {E:Value→Shared→Prop} {s:Shared}
theorem zip_hint {z:Addr} {Q:Bool→Shared→Prop} (hT:s.TypeIs (.ref z) "zip") (h:Q true s):wpAny (model prog w) A (Builtin.List.listLengthHint (.ref z)) Q E s:=by
 unfold Builtin.List.listLengthHint
 refine wpAny_bind (wpAny_specialOf hT nolen_zip ?_)
 show wpAny _ A (specialOf (Value.ref z) (Str.ofString "__length_hint__") >>= _) _ _ _
 exact wpAny_bind (wpAny_specialOf hT nohint_zip (wpAny_pure h))
end
end Zp
set_option maxHeartbeats 4000000
namespace Zp
open PySem PyProof.Rows
section
variable {prog:Program} {w:World} {A:Around} {E:Value→Shared→Prop} {s:Shared}
abbrev ListAt (h:Heap) (S:Nat) (acc:Array Value) (c:Nat):Prop:=h.get? S=some { cls:=.type "list",dict:=none,data:=.seq acc c,slots:=#[] }
structure Filling (s:Shared) (z TI TO i1 i2 l1 l2 S:Nat) (xs ys:Array Value) (i:Nat) (acc:Array Value) (h:Heap) (Ts:List Nat):Prop where
 kept:∀ (b:Nat) o,s.heap.get? b=some o→h.get? b=some o
 zip:(i=0∧ZipAt h z TI TO .none false)∨∃ (T0:Nat) (f1:Bool),ZipAt h z TI TO (rawInt T0) f1∧Ts[0]?=some T0
 ti:IsPair h TI (.ref i1) (.ref i2)
 to_:∃ a b,IsPair h TO a b
 it1:h.IsListIter i1 l1 i
 it2:h.IsListIter i2 l2 i
 lst:∃ c,ListAt h S acc c
 acc:acc.toList=Ts.map Value.ref
 len:Ts.length=i
 tup:∀ (j:Nat) (T:Nat),Ts[j]?=some T→s.heap.objs.size≤T∧T≠S∧T≠z∧T≠TO∧T≠i1∧T≠i2∧∃ x y,xs[j]?=some x∧ys[j]?=some y∧IsPair h T x y
 inc:Ts.Pairwise (·<·)
theorem Filling.grow {z TI TO i1 i2 l1 l2 S:Nat} {xs ys acc:Array Value} {i:Nat} {h h':Heap} {Ts:List Nat} {x y:Value} (F:Filling s z TI TO i1 i2 l1 l2 S xs ys i acc h Ts)
  (hs:s.heap.objs.size≤z∧s.heap.objs.size≤TI∧s.heap.objs.size≤TO∧s.heap.objs.size≤i1∧s.heap.objs.size≤i2∧s.heap.objs.size≤S) (dS:S≠z∧S≠TI∧S≠TO∧S≠i1∧S≠i2) (dT:TI≠z∧TI≠TO∧TI≠i1∧TI≠i2)
  (hx:xs[i]?=some x) (hy:ys[i]?=some y)
  (zip':∃ (T0:Nat) (f1:Bool),ZipAt h' z TI TO (rawInt T0) f1∧(Ts++[h.objs.size])[0]?=some T0) (to':∃ a b,IsPair h' TO a b) (a1:h'.IsListIter i1 l1 (i+1)) (a2:h'.IsListIter i2 l2 (i+1)) (tp:IsPair h' h.objs.size x y)
  (kp:∀ (c:Nat) o,c≠z→c≠TO→c≠i1→c≠i2→h.get? c=some o→h'.get? c=some o) :
  (∃ c,ListAt h' S acc c)∧Filling s z TI TO i1 i2 l1 l2 S xs ys (i+1) (acc.push (.ref h.objs.size)) (h'.update S (Obj.mapSeq (·.push (.ref h.objs.size)))) (Ts++[h.objs.size]):=by
 obtain ⟨c,hS⟩:=F.lst
 have hS':ListAt h' S acc c:=kp S _ dS.1 dS.2.2.1 dS.2.2.2.1 dS.2.2.2.2 hS
 have lt:(S:Nat)<h.objs.size:=Heap.lt_size hS
 have up:∀ (b:Nat) o,b≠S→h'.get? b=some o→(h'.update S (Obj.mapSeq (·.push (.ref h.objs.size)))).get? b=some o:=fun b o nb e=>(Heap.get?_update_other _ _ (Ne.symm nb)).trans e
 have lz:(z:Nat)<h.objs.size:=by
  rcases F.zip with ⟨_,e⟩ | ⟨_,_,e,_⟩
  ·exact Heap.lt_size e
  ·exact Heap.lt_size e
 have lto:(TO:Nat)<h.objs.size:=by obtain ⟨_,_,e⟩:=F.to_; exact Heap.lt_size e
 have l1':(i1:Nat)<h.objs.size:=by obtain ⟨_,e,_⟩:=F.it1; exact Heap.lt_size e
 have l2':(i2:Nat)<h.objs.size:=by obtain ⟨_,e,_⟩:=F.it2; exact Heap.lt_size e
 have sle:s.heap.objs.size≤h.objs.size:=Nat.le_trans hs.1 (Nat.le_of_lt lz)
 refine ⟨⟨c,hS'⟩,⟨fun b o e=>?_,.inr ?_,?_,?_,a1.at fun o e=>up _ o dS.2.2.2.1.symm e,a2.at fun o e=>up _ o dS.2.2.2.2.symm e,⟨_,Heap.get?_update_self _ hS' rfl⟩,?_,?_,fun j T hj=>?_,?_⟩⟩
 ·have hb:(b:Nat)<s.heap.objs.size:=Heap.lt_size e
  exact up b o (ap (by lia)) (kp b o (ap (by lia)) (ap (by lia)) (ap (by lia)) (ap (by lia)) (F.kept b o e))
 ·obtain ⟨T0,f1,e1,e2⟩:=zip'
  exact ⟨T0,f1,up _ _ dS.1.symm e1,e2⟩
 ·exact up _ _ dS.2.1.symm (kp _ _ dT.1 dT.2.1 dT.2.2.1 dT.2.2.2 F.ti)
 ·obtain ⟨a,b,e⟩:=to'
  exact ⟨a,b,up _ _ dS.2.2.1.symm e⟩
 ·rw [Array.toList_push,F.acc,List.map_append]
  rfl
 ·rw [List.length_append,F.len]
  rfl
 ·by_cases hl:j<Ts.length
  ·rw [List.getElem?_append_left hl] at hj
   obtain ⟨b1,b2,b3,b4,b5,b6,x',y',b7,b8,b9⟩:=F.tup j T hj
   exact ⟨b1,b2,b3,b4,b5,b6,x',y',b7,b8,up _ _ b2 (kp _ _ b3 b4 b5 b6 b9)⟩
  ·rw [List.getElem?_append_right (by lia)] at hj
   have e0:j - Ts.length=0:=by
    cases q:j - Ts.length with
    | zero=>rfl
    | succ m=>rw [q] at hj; simp at hj
   rw [e0] at hj
   have eT:h.objs.size=T:=by simpa using hj
   have ej:j=i:=by have:=F.len; lia
   subst eT ej
   exact ⟨sle,ap (by lia),ap (by lia),ap (by lia),ap (by lia),ap (by lia),x,y,hx,hy,up _ _ (ap (by lia)) tp⟩
 ·refine List.pairwise_append.mpr ⟨F.inc,List.pairwise_singleton _ _,fun a ha b hb=>?_⟩
  rw [List.mem_singleton.mp hb]
  obtain ⟨j,hj⟩:=List.getElem?_of_mem ha
  obtain ⟨_,_,_,_,_,_,_,_,_,_,e⟩:=F.tup j a hj
  exact Heap.lt_size e
theorem list_zip {l1 l2:Nat} {xs ys:Array Value} {Q:Value→Shared→Prop} (hh:A.handled=none) (hl1:s.heap.IsList l1 xs) (hl2:s.heap.IsList l2 ys) (h0:0<xs.size) (hle:xs.size≤ys.size) (hn:xs.size≤sizeLine)
  (hQ:∀ h' (Ts:List Nat) (S:Nat) (c:Nat),(∀ b o,s.heap.get? b=some o→h'.get? b=some o)→s.heap.objs.size≤S→ListAt h' S (Ts.map Value.ref).toArray c→Ts.length=xs.size→Ts.Pairwise (·<·) →
   (∀ (j:Nat) (T:Nat),Ts[j]?=some T→s.heap.objs.size≤T∧T≠S∧∃ x y,xs[j]?=some x∧ys[j]?=some y∧IsPair h' T x y)→Q (.ref S) { s with heap:=h' }) :
  wpAny (model prog w) A (call (.type "zip") [.ref l1,.ref l2]) (fun z s1=>wpAny (model prog w) A (call (.type "list") [z]) Q E s1) E s:=by
 have b1:l1<s.heap.objs.size:=by obtain ⟨_,e,_⟩:=hl1; exact Heap.lt_size e
 have b2:l2<s.heap.objs.size:=by obtain ⟨_,e,_⟩:=hl2; exact Heap.lt_size e
 refine call_zip_2 hl1 hl2 fun hp hz hTI hTO hit1 hit2 hsz hk=>?_
 have D:=zipApart_new b1 b2
 refine callType_codes (Q₁:=fun obj s₁=>obj=.ref hp.objs.size∧s₁={ s with heap:=hp.push { cls:=.type "list",data:=.seq #[] } }) PySem.F.called_list (PySem.F.typeCall_list_1 _) PySem.F.entry_list_init (code_list_new _ ⟨rfl,rfl⟩) fun obj s₁ h₁=>?_
 obtain ⟨rfl,rfl⟩:=h₁
 have hS:(hp.push { cls:=.type "list",data:=.seq #[] }).get? hp.objs.size=some { cls:=.type "list",data:=.seq #[] }:=Heap.get?_push_size _ rfl
 refine ⟨⟨_,hS,rfl⟩,PySem.F.args_list_init_2 _ _,?_⟩
 have S5:hp.objs.size=s.heap.objs.size+5:=hsz
 show wpAny _ _ (do let old ← Builtin.List.listItems (.ref hp.objs.size); Builtin.List.listUpdate (.ref hp.objs.size) (fun _=>#[]); letGo old.toList.reverse; Builtin.List.listExtendWith (.ref hp.objs.size) (.ref (s.heap.objs.size+4)) .none) _ _ _
 refine wpAny_bind ?_
 unfold Builtin.List.listItems
 refine wpAny_bind (wpAny_seqItems hS rfl (wpAny_pure ?_))
 show wpAny _ _ (updateSeq hp.objs.size (fun _=>#[]) >>= fun _=>letGo (#[]:Array Value).toList.reverse >>= fun _=>Builtin.List.listExtendWith (.ref hp.objs.size) (.ref (s.heap.objs.size+4)) .none) _ _ _
 refine wpAny_bind (wpAny_updateSeq hS rfl ?_)
 have hS₂:=Heap.get?_update_self (Obj.mapSeq (fun _=>(#[]:Array Value))) hS rfl
 refine wpAny_bind (wpAny_letGo ?_)
 have old2:∀ b o,hp.get? b=some o→((hp.push { cls:=.type "list",data:=.seq #[] }).update hp.objs.size (Obj.mapSeq (fun _=>(#[]:Array Value)))).get? b=some o:=fun b o e =>
  (Heap.get?_update_other _ _ (Nat.ne_of_gt (Heap.lt_size e))).trans (Heap.get?_push_of_some _ e)
 unfold Builtin.List.listExtendWith
 refine wpAny_bind (wpAny_typeOf (T:="zip") ⟨_,old2 _ _ hz,rfl⟩ ?_)
 have e1:Builtin.List.listSameRef (.ref hp.objs.size) (.ref (s.heap.objs.size+4))=false:=by
  have:hp.objs.size≠s.heap.objs.size+4:=by lia
  simp [Builtin.List.listSameRef,this]
 have e2:(Value.type "zip" == Value.type "list")=false:=by decide
 have e3:(Value.type "zip" == Value.type "tuple")=false:=by decide
 simp only [e1,e2,e3,Bool.or_false,Bool.false_eq_true,if_false]
 refine wpAny_bind (wpAny_pyIter_zip (old2 _ _ hz) (wpAny_bind (wpAny_holding (zip_hint ⟨_,old2 _ _ hz,rfl⟩ ?_))))
 show wpAny _ _ (rule "list.extend.makes-room" >>= fun _=>Builtin.List.listTouch (.ref hp.objs.size) >>= fun _=>again (.builtin "list.extend.loop" ⟨[.ref hp.objs.size,.ref (s.heap.objs.size+4),.none],[]⟩)) _ _ _
 refine wpAny_bind (wpAny_rule (wpAny_bind ?_))
 show wpAny _ _ (updateSeq hp.objs.size (·.push .none) >>= fun _=>updateSeq hp.objs.size (·.pop)) _ _ _
 refine wpAny_bind (wpAny_updateSeq hS₂ rfl ?_)
 have hS₃:=Heap.get?_update_self (Obj.mapSeq (·.push Value.none)) hS₂ rfl
 refine wpAny_updateSeq (hz:=by seq_fits) hS₃ rfl ?_
 have hS₄:=Heap.get?_update_self (Obj.mapSeq (·.pop)) hS₃ rfl
 have old4:∀ b o,hp.get? b=some o→_:=fun b o (e:hp.get? b=some o)=>(Heap.get?_update_other _ (Obj.mapSeq (·.pop)) (Nat.ne_of_gt (Heap.lt_size e))).trans ((Heap.get?_update_other _ (Obj.mapSeq (·.push Value.none)) (Nat.ne_of_gt (Heap.lt_size e))).trans (old2 b o e))
 refine wpAny_pure ⟨plainId_quiet PySem.F.plain_extend_loop _,?_⟩
 generalize ((((hp.push { cls:=.type "list",data:=.seq #[] }).update hp.objs.size (Obj.mapSeq (fun _=>(#[]:Array Value)))).update hp.objs.size (Obj.mapSeq (·.push Value.none))).update hp.objs.size (Obj.mapSeq (·.pop)))=h4 at hS₄ old4 ⊢
 have hs6:s.heap.objs.size≤s.heap.objs.size+4∧s.heap.objs.size≤s.heap.objs.size+2∧s.heap.objs.size≤s.heap.objs.size+3∧s.heap.objs.size≤s.heap.objs.size∧s.heap.objs.size≤s.heap.objs.size+1∧s.heap.objs.size≤hp.objs.size:=by lia
 have dS:hp.objs.size≠s.heap.objs.size+4∧hp.objs.size≠s.heap.objs.size+2∧hp.objs.size≠s.heap.objs.size+3∧hp.objs.size≠s.heap.objs.size∧hp.objs.size≠s.heap.objs.size+1:=by lia
 have dT:s.heap.objs.size+2≠s.heap.objs.size+4∧s.heap.objs.size+2≠s.heap.objs.size+3∧s.heap.objs.size+2≠s.heap.objs.size∧s.heap.objs.size+2≠s.heap.objs.size+1:=by lia
 have F0:Filling s (s.heap.objs.size+4) (s.heap.objs.size+2) (s.heap.objs.size+3) s.heap.objs.size (s.heap.objs.size+1) l1 l2 hp.objs.size xs ys 0 #[] h4 [] :=
  ⟨fun b o e=>old4 _ _ (hk b o e),.inl ⟨rfl,old4 _ _ hz⟩,old4 _ _ hTI,⟨_,_,old4 _ _ hTO⟩,hit1.at fun o e=>old4 _ o e,hit2.at fun o e=>old4 _ o e,⟨_,hS₄⟩,rfl,rfl,fun j T z=>by simp at z,List.Pairwise.nil⟩
 refine fill_loop (n:=xs.size) (fun i acc s'=>∃ h Ts,s'={ s with heap:=h }∧Filling s (s.heap.objs.size+4) (s.heap.objs.size+2) (s.heap.objs.size+3) s.heap.objs.size (s.heap.objs.size+1) l1 l2 hp.objs.size xs ys i acc h Ts) hn ?_ ?_ ?_ xs.size 0 #[] _ (by lia) (Nat.zero_le _) ⟨h4,[],rfl,F0⟩
 ·rintro i acc s' ⟨h,Ts,rfl,F⟩
  have:=congrArg List.length F.acc
  rw [Array.length_toList,List.length_map,F.len] at this
  exact this
 ·rintro i acc s' E' hi ⟨h,Ts,rfl,F⟩
  have hx:xs[i]?=some xs[i]:=Array.getElem?_eq_getElem hi
  have hy:ys[i]?=some (ys[i]'(by lia)):=Array.getElem?_eq_getElem (by lia)
  have li1:h.IsList l1 xs:=hl1.at fun o e=>F.kept _ o e
  have li2:h.IsList l2 ys:=hl2.at fun o e=>F.kept _ o e
  rcases F.zip with ⟨rfl,e⟩ | ⟨T0,f1,e,e0⟩
  ·obtain ⟨ta,tb,hto⟩:=F.to_
   refine wpAny_pyNext_zip_item (s:={ s with heap:=h }) D e F.ti hto F.it1 F.it2 li1 li2 hx hy fun h' q1 q2 q3 q4 q5 q6 q7=>?_
   have ets:Ts=[]:=List.length_eq_zero_iff.mp F.len
   obtain ⟨⟨c,g1⟩,g2⟩:=F.grow hs6 dS dT hx hy ⟨h.objs.size,false,q1,by rw [ets]; rfl⟩ ⟨_,_,q2⟩ q3 q4 q5 q7
   exact ⟨_,c,rfl,g1,_,_,rfl,g2⟩
  ·obtain ⟨_,_,_,_,_,_,_,_,_,_,al⟩:=F.tup 0 T0 e0
   refine held_pyNext (s:={ s with heap:=h }) D e ⟨_,al⟩ F.ti F.it1 F.it2 li1 li2 hx hy fun h' g1 q1 q2 q3 q4 q5=>?_
   obtain ⟨ta,tb,hto⟩:=F.to_
   have lto:=D.TOz
   obtain ⟨⟨c,r1⟩,r2⟩:=F.grow hs6 dS dT hx hy ⟨T0,g1,q1,by
    have hl:0<Ts.length:=(List.getElem?_eq_some_iff.mp e0).1
    rw [List.getElem?_append_left hl]
    exact e0⟩ ⟨ta,tb,q5 _ _ D.TOz D.TOi1 D.TOi2 hto⟩ q2 q3 q4 fun c o c1 _ c3 c4 e=>q5 c o c1 c3 c4 e
   exact ⟨_,c,rfl,r1,_,_,rfl,r2⟩
 ·rintro acc s' E' ⟨h,Ts,rfl,F⟩
  have li1:h.IsList l1 xs:=hl1.at fun o e=>F.kept _ o e
  rcases F.zip with ⟨e,_⟩ | ⟨T0,f1,e,e0⟩
  ·lia
  ·obtain ⟨_,_,_,_,_,_,_,_,_,_,al⟩:=F.tup 0 T0 e0
   refine held_end (s:={ s with heap:=h }) (A:=A.in1.in1) hh D e ⟨_,al⟩ F.ti F.it1 li1 (by simp) fun h' kp=>?_
   obtain ⟨c,hl⟩:=F.lst
   have ea:acc=(Ts.map Value.ref).toArray:=by rw [← F.acc,Array.toArray_toList]
   refine ⟨rfl,rfl,hQ h' Ts _ c (fun (b:Nat) o e=>?_) (by lia) ?_ F.len F.inc fun j T hj=>?_⟩
   ·have hb:(b:Nat)<s.heap.objs.size:=Heap.lt_size e
    exact kp b o (ap (by lia)) (ap (by lia)) (F.kept b o e)
   ·rw [← ea]
    exact kp _ _ dS.1 dS.2.2.2.1 hl
   ·obtain ⟨b1,b2,b3,b4,b5,b6,x,y,b7,b8,b9⟩:=F.tup j T hj
    exact ⟨b1,b2,x,y,b7,b8,kp _ _ b3 b5 b9⟩
end
end Zp
namespace L2
open PySem PySem.Spec PyProof.Rows
def updAll (H:Hp):List (Addr×HO)→Hp
 | []=>H
 | p::r=>upd (updAll H r) p.1 p.2
theorem updAll_not {H:Hp} {b:Addr}:∀ {L:List (Addr×HO)},b∉L.map (·.1)→updAll H L b=H b
 | [],_=>rfl
 | p::r,h=>by
  have h1:b≠p.1:=fun z=>h (by rw [z]; exact List.mem_cons_self ..)
  show upd (updAll H r) p.1 p.2 b=_
  rw [upd_ne h1]
  exact updAll_not fun z=>h (List.mem_cons_of_mem _ z)
theorem updAll_mem {H:Hp}:∀ {L:List (Addr×HO)},(L.map (·.1)).Nodup→∀ p∈L,updAll H L p.1=some p.2
 | [],_,p,h=>by cases h
 | q::r,nd,p,h=>by
  obtain ⟨n1,n2⟩:=List.nodup_cons.mp nd
  show upd (updAll H r) q.1 q.2 p.1=_
  rcases List.mem_cons.mp h with rfl | h
  ·exact upd_same
  ·have:p.1≠q.1:=fun z=>n1 (by show q.1∈r.map (·.1); rw [← z]; exact List.mem_map_of_mem h)
   rw [upd_ne this]
   exact updAll_mem n2 p h
theorem updAll_inv {H:Hp} {b:Addr} {o:HO}:∀ {L:List (Addr×HO)},updAll H L b=some o→(b,o)∈L∨H b=some o
 | [],h=>.inr h
 | q::r,h=>by
  by_cases e:b=q.1
  ·subst e
   have h2:upd (updAll H r) q.1 q.2 q.1=some o:=h
   rw [upd_same] at h2
   cases h2
   exact .inl (List.mem_cons_self ..)
  ·have h2:upd (updAll H r) q.1 q.2 b=some o:=h
   rw [upd_ne e] at h2
   rcases updAll_inv h2 with z | z
   ·exact .inl (List.mem_cons_of_mem _ z)
   ·exact .inr z
theorem updAll_same {H:Hp} {L:List (Addr×HO)} (h:∀ p∈L,H p.1=none):Same H (updAll H L):=fun b o e=>by
 rw [updAll_not fun z=>?_]
 ·exact e
 ·obtain ⟨p,hp,rfl⟩:=List.mem_map.mp z
  rw [h p hp] at e
  cases e
theorem Inv.laidAll {X:Cx} {pins:List (Addr×Obj)} {σ:St} {H:Hp} {s:Shared} {h':Heap} {L:List (Addr×HO)} {t':Nat} (I:Inv X pins σ H s) (k:∀ b u,s.heap.get? b=some u→h'.get? b=some u) (hp:∀ p∈L,s.heap.objs.size≤p.1)
  (new:∀ p∈L,∀ H2,ObjOk X.prog X.w H2 h' p.1 p.2):Inv X pins σ (updAll H L) { s with heap:=h',toks:=t' }:=by
 have sm:Same H (updAll H L):=updAll_same fun p h=>I.hok.fresh (hp p h)
 refine I.step (g':=s.gens) (d':=s.drawn) (t':=t') (ch:=[]) (fun b hb=>by cases hb) (fun b o _ _ _ q _=>k b o q) (fun b o _ _ _ q _=>⟨o.slots,k b o q⟩) (fun b o _ q n=>?_)
  (fun b o _ q=>⟨o,k b o q⟩) (fun b ys q=>sm _ _ q) (fun b o u q=>sm _ _ q) (fun b ps q=>⟨#[],by rw [sm _ _ q]; simp⟩) (fun m hm=>?_) (fun b o q=>?_) I.bare
 ·rw [updAll_not fun z=>?_]
  ·exact n
  ·obtain ⟨p,h,rfl⟩:=List.mem_map.mp z
   exact absurd (Heap.lt_size q) (Nat.not_lt.mpr (hp p h))
 ·obtain ⟨o,es,ep,ho,r⟩:=hm
  exact ⟨o,es,ep,k _ o ho,r⟩
 ·rcases updAll_inv q with z | z
  ·exact new _ z _
  ·exact (I.hok b o z).stay (fun c v _ e=>k c v e) (fun c e=>sm _ _ e) fun c ys e=>sm _ _ e
section
variable {X:Cx}
theorem boot_zip:bootBuiltins "zip"=some (.type "zip"):=by decide +kernel
def tLZip (K:PySem.W.Frag) (ta:TA):TE:=fun σ H Q=>ta σ H fun vs H1=>∃ a b xs ys,vs=[.ref a,.ref b]∧SqL K H1 a xs∧SqL K H1 b ys∧0<xs.length∧xs.length≤ys.length ∧
 ∀ (l:Addr) (ts:List Addr) H2,Same H1 H2→H1 l=none→H2 l=some (.lst (ts.map V.ref))→ts.length=xs.length→(∀ (j:Nat) (t:Addr),ts[j]?=some t→H1 t=none∧∃ x y,xs[j]?=some x∧ys[j]?=some y∧H2 t=some (.tup [x,y]))→Q (.ref l) H2
theorem pe_listzip {e1 e2:Expr} {ta:TA} {p pos p2 pos2:Pos} (hc:X.calm=true) (hg2:Gl X "list") (hm2:X.mg "list"=none) (hb2:bootBuiltins "list"=some (.type "list")) (hg:Gl X "zip") (hm:X.mg "zip"=none) (ha:PA X [e1,e2] ta)
  (hs:starEach (e1::[e2]) X.env=(false,eval e1 X.env)::starEach [e2] X.env:=by rfl) (hpl:(backTo pos (starEach [e2] X.env)).any (·.1)=false:=by rfl)
  (hs2:starEach [Expr.Call (.Name "zip" p) [e1,e2] [] pos] X.env=[(false,eval (.Call (.Name "zip" p) [e1,e2] [] pos) X.env)]:=by rfl) :
  PE X (.Call (.Name "list" p2) [.Call (.Name "zip" p) [e1,e2] [] pos] [] pos2) (tLZip X.K ta):=by
 intro pins s σ H Q I h
 refine Call_ (ld_blt I hg2 hm2 hb2 (PyProof.Rows.callWith_type1 ?_ hs2 rfl))
 rw [hs2]
 refine Calls.spliced_cons ?_
 refine Call_ (ld_blt I hg hm boot_zip (PyProof.Rows.callWith_type1 (thn (ha pos pins s σ H _ I h) fun us s1 ⟨vs,H1,I1,r1,q1⟩=>?_) hs hpl))
 obtain ⟨a,b,xs,ys,e,ha1,hb1,h0,hle,q⟩:=q1
 subst e
 obtain ⟨u,v,rfl,ra,rb⟩:=Vals.two r1
 cases ra
 cases rb
 obtain ⟨itx,rvx,plx,hzx⟩:=I1.list ha1
 obtain ⟨ity,rvy,ply,hzy⟩:=I1.list hb1
 have lx:=rvx.length
 have ly:=rvy.length
 refine wpAny_mono (Zp.list_zip (Q:=EP X pins σ Q) (E:=X.xe) (I1.ok.hd hc) plx.isList ply.isList (by rw [List.size_toArray]; lia) (by rw [List.size_toArray,List.size_toArray]; lia) (by rw [List.size_toArray]; lia) fun h' Ts S c kp hS hl hn inc ht=>?_) (fun z s2 hz=>Calls.spliced_nil hz) fun _ _ e=>e
 rw [List.size_toArray] at hn
 have lzz:Ts.length=((xs.zip ys).map fun p=>HO.tup [p.1,p.2]).length:=by rw [List.length_map,List.length_zip]; lia
 have ek:(Ts.zip ((xs.zip ys).map fun p=>HO.tup [p.1,p.2])).map (·.1)=Ts:=List.map_fst_zip (Nat.le_of_eq lzz)
 have at_:∀ (j:Nat) (T:Addr) (x y:V),Ts[j]?=some T→xs[j]?=some x→ys[j]?=some y→(Ts.zip ((xs.zip ys).map fun p=>HO.tup [p.1,p.2]))[j]?=some (T,HO.tup [x,y]):=fun j T x y e1 e2 e3=>by
  rw [List.getElem?_zip_eq_some]
  refine ⟨e1,?_⟩
  rw [List.getElem?_map]
  have:(xs.zip ys)[j]?=some (x,y):=List.getElem?_zip_eq_some.mpr ⟨e2,e3⟩
  rw [this]
  rfl
 have vr:∀ as:List Addr,Vals (as.map V.ref) (as.map Value.ref):=fun as=>by
  induction as with
  | nil=>exact .nil
  | cons a as ih=>exact .cons rfl ih
 have nS:S∉Ts:=fun z=>by
  obtain ⟨j,hj⟩:=List.getElem?_of_mem z
  exact (ht j S hj).2.1 rfl
 have nd:(((S,HO.lst (Ts.map V.ref))::Ts.zip ((xs.zip ys).map fun p=>HO.tup [p.1,p.2])).map (·.1)).Nodup:=by
  rw [List.map_cons,ek]
  exact List.nodup_cons.mpr ⟨nS,inc.imp fun q=>Nat.ne_of_lt q⟩
 have l2:(2:Nat)≤sizeLine:=by rw [sizeLine_eq]; decide
 have frs:∀ p∈(S,HO.lst (Ts.map V.ref))::Ts.zip ((xs.zip ys).map fun p=>HO.tup [p.1,p.2]),s1.heap.objs.size≤p.1:=fun p hp=>by
  rcases List.mem_cons.mp hp with rfl | hp
  ·exact hS
  ·have:p.1∈Ts:=by
    have:=List.mem_map_of_mem (f:=(·.1)) hp
    rw [ek] at this
    exact this
   obtain ⟨j,hj⟩:=List.getElem?_of_mem this
   exact (ht j _ hj).1
 have I2:=I1.laidAll (t':=s1.toks) (L:=(S,HO.lst (Ts.map V.ref))::Ts.zip ((xs.zip ys).map fun p=>HO.tup [p.1,p.2])) kp frs fun p hp H2=>by
  rcases List.mem_cons.mp hp with rfl | hp
  ·exact ⟨by rw [List.length_map]; lia,Ts.map Value.ref,c,vr Ts,hl⟩
  ·obtain ⟨j,hj⟩:=List.getElem?_of_mem hp
   obtain ⟨e1,e2⟩:=List.getElem?_zip_eq_some.mp hj
   rw [List.getElem?_map] at e2
   cases e3:(xs.zip ys)[j]? with
   | none=>rw [e3] at e2; cases e2
   | some xy =>
    rw [e3] at e2
    obtain ⟨ex,ey⟩:=List.getElem?_zip_eq_some.mp e3
    have e2:HO.tup [xy.1,xy.2]=p.2:=by simpa using e2
    rw [← e2]
    obtain ⟨_,_,x',y',f1,f2,f3⟩:=ht j p.1 e1
    obtain ⟨u1,g1,g2⟩:=rvx.get ex
    obtain ⟨u2,g3,g4⟩:=rvy.get ey
    have i1:u1=x':=by
     have:itx[j]?=some x':=by simpa using f1
     rw [g1] at this
     exact Option.some.inj this
    have i2:u2=y':=by
     have:ity[j]?=some y':=by simpa using f2
     rw [g3] at this
     exact Option.some.inj this
    subst i1 i2
    exact ⟨l2,[u1,u2],.cons g2 (.cons g4 .nil),⟨_,f3,rfl,_,rfl⟩⟩
 refine ⟨.ref S,_,I2,rfl,q S Ts _ (updAll_same fun p hp=>I1.hok.fresh (frs p hp)) (I1.hok.fresh hS) (updAll_mem nd _ (List.mem_cons_self ..)) (by lia) fun j T hj=>?_⟩
 have hjx:j<xs.length:=by have:=(List.getElem?_eq_some_iff.mp hj).1; lia
 have e1:xs[j]?=some xs[j]:=List.getElem?_eq_getElem hjx
 have e2:ys[j]?=some (ys[j]'(by lia)):=List.getElem?_eq_getElem (by lia)
 exact ⟨I1.hok.fresh (ht j T hj).1,_,_,e1,e2,updAll_mem nd (T,_) (List.mem_cons_of_mem _ (List.mem_of_getElem? (at_ j T _ _ hj e1 e2)))⟩
end
end L2
set_option maxHeartbeats 4000000
namespace Zp
open PySem PyProof.Rows
theorem typeCall3 (a b c:Value):checkTypeCall "zip" ⟨[a,b,c],[]⟩=pure ():=by kernel_rfl
theorem newCall3 (a b c:Value):checkBuiltinCall "zip.__new__" ⟨[.type "zip",a,b,c],[]⟩=pure ():=by kernel_rfl
theorem init4 (a b c d:Value):argsOk "object.__init__" ⟨[a,b,c,d],[]⟩:=by
 unfold argsOk; rw [signature?_of (id:="object.__init__") (n:=['_','_','t','i','n','i','_','_']) (o:=['t','c','e','j','b','o']) (by kernel_rfl) PySem.F.owner_object]; kernel_rfl
abbrev Trip (h:Heap) (T:Addr) (a b c:Value):Prop:=h.get? T=some { cls:=.type "tuple",data:=.seq #[a,b,c] }
abbrev itOf (l:Addr):Obj:={ cls:=.type "list_iterator",data:=.fields #[.ref l,.int 0 0] }
abbrev q1 (h:Heap) (l1:Addr):Heap:=h.push (itOf l1)
abbrev q2 (h:Heap) (l1 l2:Addr):Heap:=(q1 h l1).push (itOf l2)
abbrev q3 (h:Heap) (l1 l2 l3:Addr):Heap:=(q2 h l1 l2).push (itOf l3)
abbrev q4 (h:Heap) (l1 l2 l3:Addr):Heap:=(q3 h l1 l2 l3).push { cls:=.type "tuple",data:=.seq #[.ref h.objs.size,.ref (q1 h l1).objs.size,.ref (q2 h l1 l2).objs.size] }
abbrev q5 (h:Heap) (l1 l2 l3:Addr):Heap:=(q4 h l1 l2 l3).push { cls:=.type "tuple",data:=.seq #[.none,.none,.none] }
abbrev q6 (h:Heap) (l1 l2 l3:Addr):Heap:=(q5 h l1 l2 l3).push { cls:=.type "zip",data:=.fields #[.none,.bool false,.bool false,.ref (q3 h l1 l2 l3).objs.size,.ref (q4 h l1 l2 l3).objs.size] }
theorem meets_new3 (l1 l2 l3:Addr) (xs ys zs:Array Value) :
  Meets (Builtin.«zip.__new__» ⟨[.type "zip",.ref l1,.ref l2,.ref l3],[]⟩) (fun _ R s=>s.heap.IsList l1 xs∧s.heap.IsList l2 ys∧s.heap.IsList l3 zs∧R (.ok (.ret (.ref (q5 s.heap l1 l2 l3).objs.size))) { s with heap:=q6 s.heap l1 l2 l3 }) :=
 .of_wp fun prog w A R s h=>by
  obtain ⟨hp,g,d,tk,os⟩:=s; obtain ⟨hl1,hl2,hl3,h⟩:=h
  have hsub:=sub_zip
  have L1:Heap.IsList (Shared.heap ⟨hp,g,d,tk,os⟩) l1 xs:=hl1
  have L2:Heap.IsList (Shared.heap ⟨hp.push (itOf l1),g,d,tk,os⟩) l2 ys:=Heap.IsList.push hl2 _
  have L3:Heap.IsList (Shared.heap ⟨(hp.push (itOf l1)).push (itOf l2),g,d,tk,os⟩) l3 zs:=Heap.IsList.push (Heap.IsList.push hl3 _) _
  wp_walk using wpAny_pyIter_list L1,wpAny_pyIter_list L2,wpAny_pyIter_list L3
  exact ⟨_,rfl,h⟩
section
variable {prog:Program} {w:World} {A:Around} {E:Value→Shared→Prop} {s:Shared}
theorem call_zip3 {l1 l2 l3:Addr} {xs ys zs:Array Value} {Q:Value→Shared→Prop} (hl1:s.heap.IsList l1 xs) (hl2:s.heap.IsList l2 ys) (hl3:s.heap.IsList l3 zs)
  (h:∀ h',IsZip h' (s.heap.objs.size+5) (s.heap.objs.size+3) (s.heap.objs.size+4) .none→Trip h' (s.heap.objs.size+3) (.ref s.heap.objs.size) (.ref (s.heap.objs.size+1)) (.ref (s.heap.objs.size+2)) →
   Trip h' (s.heap.objs.size+4) .none .none .none→h'.IsListIter s.heap.objs.size l1 0→h'.IsListIter (s.heap.objs.size+1) l2 0→h'.IsListIter (s.heap.objs.size+2) l3 0 →
   (∀ c o,s.heap.get? c=some o→h'.get? c=some o)→Q (.ref (s.heap.objs.size+5)) { s with heap:=h' }) :
  wpAny (model prog w) A (call (.type "zip") [.ref l1,.ref l2,.ref l3]) Q E s:=by
 refine callType_new PySem.F.called_zip (by decide) (typeCall3 _ _ _) (newCall3 _ _ _) (fun obj=>init4 obj _ _ _) PySem.F.entry_zip_new (meets_new3 l1 l2 l3 xs ys zs) ⟨hl1,hl2,hl3,?_⟩
 have z1:(q1 s.heap l1).objs.size=s.heap.objs.size+1:=Heap.size_push ..
 have z2:(q2 s.heap l1 l2).objs.size=s.heap.objs.size+2:=by rw [Heap.size_push,z1]
 have z3:(q3 s.heap l1 l2 l3).objs.size=s.heap.objs.size+3:=by rw [Heap.size_push,z2]
 have z4:(q4 s.heap l1 l2 l3).objs.size=s.heap.objs.size+4:=by rw [Heap.size_push,z3]
 have z5:(q5 s.heap l1 l2 l3).objs.size=s.heap.objs.size+5:=by rw [Heap.size_push,z4]
 have up:∀ {hh:Heap} {o:Obj} {b:Addr} {ob:Obj},hh.get? b=some ob→(hh.push o).get? b=some ob:=fun e=>Heap.get?_push_of_some _ e
 have g6:(q6 s.heap l1 l2 l3).get? (q5 s.heap l1 l2 l3).objs.size=some _:=Heap.get?_push_size _ rfl
 have g5:(q6 s.heap l1 l2 l3).get? (q4 s.heap l1 l2 l3).objs.size=some _:=up (Heap.get?_push_size _ rfl)
 have g4:(q6 s.heap l1 l2 l3).get? (q3 s.heap l1 l2 l3).objs.size=some _:=up (up (Heap.get?_push_size _ rfl))
 have g3:(q6 s.heap l1 l2 l3).get? (q2 s.heap l1 l2).objs.size=some _:=up (up (up (Heap.get?_push_size _ rfl)))
 have g2:(q6 s.heap l1 l2 l3).get? (q1 s.heap l1).objs.size=some _:=up (up (up (up (Heap.get?_push_size _ rfl))))
 have g1:(q6 s.heap l1 l2 l3).get? s.heap.objs.size=some _:=up (up (up (up (up (Heap.get?_push_size _ rfl)))))
 show _∧_
 rw [z3,z4,z5] at g6
 rw [z1,z2,z3] at g4
 rw [z4] at g5
 rw [z2] at g3
 rw [z1] at g2
 rw [z5]
 exact ⟨⟨_,g6,rfl⟩,h _ g6 g4 g5 ⟨_,g1,rfl,rfl⟩ ⟨_,g2,rfl,rfl⟩ ⟨_,g3,rfl,rfl⟩ fun c o x=>up (up (up (up (up (up x)))))⟩
theorem upd_trip {T:Addr} {a b c x:Value} {k:Nat} {Q:Unit→Shared→Prop} (hT:Trip s.heap T a b c)
  (h:∀ h',h'.get? T=some { cls:=.type "tuple",data:=.seq ((#[a,b,c]:Array Value).setIfInBounds k x) }→Heap.SameBut T s.heap h'→Q () { s with heap:=h' }) :
  wpAny (model prog w) A (updateSeq T (·.setIfInBounds k x)) Q E s:=by
 refine wpAny_updateSeq hT rfl (h _ ?_ (Heap.SameBut.update ..))
 rw [Heap.get?_update_self _ hT rfl]
 simp [Obj.mapSeq]
theorem next3 {n l1 l2 l3:Nat} {k:Nat} {xs ys zs:Array Value} {x y v a b c:Value} {Q:Value→Shared→Prop} (b1:l1<n) (b2:l2<n) (b3:l3<n)
  (hz:IsZip s.heap (n+5) (n+3) (n+4) .none) (hTI:Trip s.heap (n+3) (.ref n) (.ref (n+1)) (.ref (n+2))) (hTO:Trip s.heap (n+4) a b c)
  (h1:s.heap.IsListIter n l1 k) (h2:s.heap.IsListIter (n+1) l2 k) (h3:s.heap.IsListIter (n+2) l3 k) (hl1:s.heap.IsList l1 xs) (hl2:s.heap.IsList l2 ys) (hl3:s.heap.IsList l3 zs) (hx:xs[k]?=some x) (hy:ys[k]?=some y) (hv:zs[k]?=some v)
  (hQ:∀ h',IsZip h' (n+5) (n+3) (n+4) (rawInt s.heap.objs.size)→Trip h' (n+4) x y v→h'.IsListIter n l1 (k+1)→h'.IsListIter (n+1) l2 (k+1)→h'.IsListIter (n+2) l3 (k+1)→Trip h' s.heap.objs.size x y v →
   (∀ (c:Nat) o,c≠n+5→c≠n+4→c≠n→c≠n+1→c≠n+2→s.heap.get? c=some o→h'.get? c=some o)→Q (.ref s.heap.objs.size) { s with heap:=h' }) :
  wpAny (model prog w) A (Builtin.«zip.__next__» ⟨[.ref (n+5)],[]⟩) (fun fin s'=>∃ v,fin=.done (.ret v)∧Q v s') E s:=by
 show wpAny _ _ (field (.ref (n+5)) 2 >>= _) _ _ _
 refine wpAny_bind (wpAny_field hz rfl (x:=.bool false) rfl ?_)
 show wpAny _ _ (field (.ref (n+5)) 3 >>= _) _ _ _
 refine wpAny_bind (wpAny_field hz rfl (x:=.ref (n+3)) rfl (wpAny_bind (wpAny_seqItems hTI rfl ?_)))
 show wpAny _ _ (Builtin.SmallTypes.ownedTupleIsFree (.ref (n+5)) >>= _) _ _ _
 refine wpAny_bind ?_
 unfold Builtin.SmallTypes.ownedTupleIsFree
 refine wpAny_bind (wpAny_field hz rfl (x:=.none) rfl (wpAny_pure ?_))
 simp only [if_true]
 refine wpAny_bind (wpAny_rule (wpAny_bind (wpAny_field hz rfl (x:=.ref (n+4)) rfl (wpAny_bind (wpAny_setField_rec hz (by simp) fun k1 hz1 t1=>?_)))))
 replace hz1:IsZip k1 (n+5) (n+3) (n+4) .ellipsis:=hz1
 refine wpAny_bind ?_
 simp only [List.zipIdx_cons,List.zipIdx_nil,List.forIn_cons,List.forIn_nil]
 refine wpAny_bind (wpAny_bind (wpAny_onRaise ?_))
 show wpAny _ _ (Builtin.SmallTypes.nextOf (.ref n) >>= _) _ _ _
 refine wpAny_bind (wpAny_nextOf_list_item (h1.extBut t1.extBut (Zp.ap (by lia))) (hl1.extBut t1.extBut (Zp.ap (by lia))) hx fun k2 g2 t2=>wpAny_pure ?_)
 have o2:Trip k2 (n+4) a b c:=t2.extBut _ _ (Zp.ap (by lia)) (t1.extBut _ _ (Zp.ap (by lia)) hTO)
 refine wpAny_bind (wpAny_seqItems o2 rfl (wpAny_bind (upd_trip o2 fun k3 o3 t3=>wpAny_bind (wpAny_letGo (wpAny_pure ?_)))))
 replace o3:Trip k3 (n+4) x b c:=o3
 refine wpAny_bind (wpAny_bind (wpAny_onRaise ?_))
 show wpAny _ _ (Builtin.SmallTypes.nextOf (.ref (n+1)) >>= _) _ _ _
 refine wpAny_bind (wpAny_nextOf_list_item (((h2.extBut t1.extBut (Zp.ap (by lia))).extBut t2.extBut (Zp.ap (by lia))).extBut t3.extBut (Zp.ap (by lia))) (((hl2.extBut t1.extBut (Zp.ap (by lia))).extBut t2.extBut (Zp.ap (by lia))).extBut t3.extBut (Zp.ap (by lia))) hy fun k4 g4 t4=>wpAny_pure ?_)
 have o4:Trip k4 (n+4) x b c:=t4.extBut _ _ (Zp.ap (by lia)) o3
 refine wpAny_bind (wpAny_seqItems o4 rfl (wpAny_bind (upd_trip o4 fun k5 o5 t5=>wpAny_bind (wpAny_letGo (wpAny_pure ?_)))))
 replace o5:Trip k5 (n+4) x y c:=o5
 refine wpAny_bind (wpAny_bind (wpAny_onRaise ?_))
 show wpAny _ _ (Builtin.SmallTypes.nextOf (.ref (n+2)) >>= _) _ _ _
 refine wpAny_bind (wpAny_nextOf_list_item (((((h3.extBut t1.extBut (Zp.ap (by lia))).extBut t2.extBut (Zp.ap (by lia))).extBut t3.extBut (Zp.ap (by lia))).extBut t4.extBut (Zp.ap (by lia))).extBut t5.extBut (Zp.ap (by lia))) (((((hl3.extBut t1.extBut (Zp.ap (by lia))).extBut t2.extBut (Zp.ap (by lia))).extBut t3.extBut (Zp.ap (by lia))).extBut t4.extBut (Zp.ap (by lia))).extBut t5.extBut (Zp.ap (by lia))) hv fun k6 g6 t6=>wpAny_pure ?_)
 have o6:Trip k6 (n+4) x y c:=t6.extBut _ _ (Zp.ap (by lia)) o5
 refine wpAny_bind (wpAny_seqItems o6 rfl (wpAny_bind (upd_trip o6 fun k7 o7 t7=>wpAny_bind (wpAny_letGo (wpAny_pure (wpAny_pure ?_))))))
 replace o7:Trip k7 (n+4) x y v:=o7
 refine wpAny_bind (wpAny_seqItems o7 rfl (wpAny_bind (wpAny_newTuple ?_)))
 have hsz:k7.objs.size=s.heap.objs.size:=by rw [t7.1,t6.1,t5.1,t4.1,t3.1,t2.1,t1.1]
 have keep:∀ (c:Nat) o,c≠n+5→c≠n+4→c≠n→c≠n+1→c≠n+2→s.heap.get? c=some o→k7.get? c=some o:=fun c o c1 c2 c3 c4 c5 e =>
  t7.extBut _ _ c2 (t6.extBut _ _ c5 (t5.extBut _ _ c2 (t4.extBut _ _ c4 (t3.extBut _ _ c2 (t2.extBut _ _ c3 (t1.extBut _ _ c1 e))))))
 have z7:IsZip k7 (n+5) (n+3) (n+4) .ellipsis:=t7.extBut _ _ (Zp.ap (by lia)) (t6.extBut _ _ (Zp.ap (by lia)) (t5.extBut _ _ (Zp.ap (by lia)) (t4.extBut _ _ (Zp.ap (by lia)) (t3.extBut _ _ (Zp.ap (by lia)) (t2.extBut _ _ (Zp.ap (by lia)) hz1)))))
 have i7:k7.IsListIter n l1 (k+1):=((((g2.extBut t3.extBut (Zp.ap (by lia))).extBut t4.extBut (Zp.ap (by lia))).extBut t5.extBut (Zp.ap (by lia))).extBut t6.extBut (Zp.ap (by lia))).extBut t7.extBut (Zp.ap (by lia))
 have j7:k7.IsListIter (n+1) l2 (k+1):=((g4.extBut t5.extBut (Zp.ap (by lia))).extBut t6.extBut (Zp.ap (by lia))).extBut t7.extBut (Zp.ap (by lia))
 have m7:k7.IsListIter (n+2) l3 (k+1):=g6.extBut t7.extBut (Zp.ap (by lia))
 have lz:(n+5:Nat)<k7.objs.size:=Heap.lt_size z7
 show wpAny _ _ (Builtin.SmallTypes.ownedTupleHandOut (.ref (n+5)) (.ref k7.objs.size) >>= _) _ _ _
 refine wpAny_bind ?_
 unfold Builtin.SmallTypes.ownedTupleHandOut
 have z8:IsZip (k7.push { cls:=.type "tuple",data:=.seq #[x,y,v] }) (n+5) (n+3) (n+4) .ellipsis:=Heap.get?_push_of_some _ z7
 refine wpAny_bind (wpAny_setField_rec z8 (by simp) fun k9 z9 t9=>?_)
 replace z9:IsZip k9 (n+5) (n+3) (n+4) (rawInt k7.objs.size):=z9
 refine wpAny_setField_rec z9 (by simp) fun k10 z10 t10=>?_
 replace z10:IsZip k10 (n+5) (n+3) (n+4) (rawInt k7.objs.size):=z10
 have up:∀ (c:Nat) o,c≠n+5→k7.get? c=some o→k10.get? c=some o:=fun c o c1 e=>t10.extBut _ _ c1 (t9.extBut _ _ c1 (Heap.get?_push_of_some _ e))
 have T10:Trip k10 k7.objs.size x y v:=t10.extBut _ _ (Zp.ap (by lia)) (t9.extBut _ _ (Zp.ap (by lia)) (Heap.get?_push_size _ rfl))
 rw [hsz] at z10 T10
 refine wpAny_pure ⟨_,rfl,?_⟩
 show Q (.ref k7.objs.size) _
 rw [hsz]
 exact hQ k10 z10 (up _ _ (Zp.ap (by lia)) o7) (i7.at fun o e=>up _ o (Zp.ap (by lia)) e) (j7.at fun o e=>up _ o (Zp.ap (by lia)) e) (m7.at fun o e=>up _ o (Zp.ap (by lia)) e) T10 fun c o c1 c2 c3 c4 c5 e=>up c o c1 (keep c o c1 c2 c3 c4 c5 e)
theorem pyNext3 {n l1 l2 l3:Nat} {k:Nat} {xs ys zs:Array Value} {x y v a b c:Value} {Q:Option Value→Shared→Prop} (b1:l1<n) (b2:l2<n) (b3:l3<n)
  (hz:IsZip s.heap (n+5) (n+3) (n+4) .none) (hTI:Trip s.heap (n+3) (.ref n) (.ref (n+1)) (.ref (n+2))) (hTO:Trip s.heap (n+4) a b c)
  (h1:s.heap.IsListIter n l1 k) (h2:s.heap.IsListIter (n+1) l2 k) (h3:s.heap.IsListIter (n+2) l3 k) (hl1:s.heap.IsList l1 xs) (hl2:s.heap.IsList l2 ys) (hl3:s.heap.IsList l3 zs) (hx:xs[k]?=some x) (hy:ys[k]?=some y) (hv:zs[k]?=some v)
  (hQ:∀ h',IsZip h' (n+5) (n+3) (n+4) (rawInt s.heap.objs.size)→Trip h' (n+4) x y v→h'.IsListIter n l1 (k+1)→h'.IsListIter (n+1) l2 (k+1)→h'.IsListIter (n+2) l3 (k+1)→Trip h' s.heap.objs.size x y v →
   (∀ (c:Nat) o,c≠n+5→c≠n+4→c≠n→c≠n+1→c≠n+2→s.heap.get? c=some o→h'.get? c=some o)→Q (some (.ref s.heap.objs.size)) { s with heap:=h' }) :
  wpAny (model prog w) A (pyNext (.ref (n+5))) Q E s:=by
 have hT:s.TypeIs (.ref (n+5)) "zip":=⟨_,hz,rfl⟩
 unfold pyNext
 exact wpAny_bind (wpAny_attempt (wpAny_callSpecial?_slot (name:=Str.ofString "__next__") hT PySem.F.slot_zip_next (wpAny_call_entry PySem.F.slot_zip_next hT PySem.F.entry_zip_next
  (next3 b1 b2 b3 hz hTI hTO h1 h2 h3 hl1 hl2 hl3 hx hy hv fun h' a1 a2 a3 a4 a5 a6 a7=>wpAny_pure (hQ h' a1 a2 a3 a4 a5 a6 a7)) (PySem.F.args_zip_next_1 _))))
theorem end3 {n l1:Nat} {k:Nat} {xs:Array Value} {Q:Option Value→Shared→Prop} (hh:A.handled=none) (b1:l1<n)
  (hz:IsZip s.heap (n+5) (n+3) (n+4) .none) (hTI:Trip s.heap (n+3) (.ref n) (.ref (n+1)) (.ref (n+2))) (h1:s.heap.IsListIter n l1 k) (hl1:s.heap.IsList l1 xs) (hx:xs[k]?=none)
  (hQ:∀ h',(∀ (c:Nat) o,c≠n+5→c≠n→s.heap.get? c=some o→h'.get? c=some o)→Q none { s with heap:=h' }):wpAny (model prog w) A (pyNext (.ref (n+5))) Q E s:=by
 have hT:s.TypeIs (.ref (n+5)) "zip":=⟨_,hz,rfl⟩
 unfold pyNext
 refine wpAny_bind (wpAny_attempt (wpAny_callSpecial?_slot (name:=Str.ofString "__next__") hT PySem.F.slot_zip_next (wpAny_call_entry PySem.F.slot_zip_next hT PySem.F.entry_zip_next ?_ (PySem.F.args_zip_next_1 _))))
 show wpAny _ _ (field (.ref (n+5)) 2 >>= _) _ _ _
 refine wpAny_bind (wpAny_field hz rfl (x:=.bool false) rfl ?_)
 show wpAny _ _ (field (.ref (n+5)) 3 >>= _) _ _ _
 refine wpAny_bind (wpAny_field hz rfl (x:=.ref (n+3)) rfl (wpAny_bind (wpAny_seqItems hTI rfl ?_)))
 show wpAny _ _ (Builtin.SmallTypes.ownedTupleIsFree (.ref (n+5)) >>= _) _ _ _
 refine wpAny_bind ?_
 unfold Builtin.SmallTypes.ownedTupleIsFree
 refine wpAny_bind (wpAny_field hz rfl (x:=.none) rfl (wpAny_pure ?_))
 simp only [if_true]
 refine wpAny_bind (wpAny_rule (wpAny_bind (wpAny_field hz rfl (x:=.ref (n+4)) rfl (wpAny_bind (wpAny_setField_rec hz (by simp) fun k1 hz1 t1=>?_)))))
 replace hz1:IsZip k1 (n+5) (n+3) (n+4) .ellipsis:=hz1
 refine wpAny_bind ?_
 simp only [List.zipIdx_cons,List.zipIdx_nil,List.forIn_cons,List.forIn_nil]
 refine wpAny_bind (wpAny_bind (wpAny_onRaise ?_))
 show wpAny _ _ (Builtin.SmallTypes.nextOf (.ref n) >>= _) _ _ _
 refine wpAny_bind (wpAny_nextOf_list_end hh (h1.extBut t1.extBut (Zp.ap (by lia))) (hl1.extBut t1.extBut (Zp.ap (by lia))) hx fun k2 e t2 he=>?_)
 obtain ⟨oe,hoe,hce⟩:=he
 have z2:IsZip k2 (n+5) (n+3) (n+4) .ellipsis:=t2 _ _ (Zp.ap (by lia)) hz1
 have nez:e≠n+5:=fun q=>by subst q; rw [z2] at hoe; cases hoe; simp at hce
 refine wpAny_setField_rec z2 (by simp) fun k3 _ t3=>?_
 refine wpAny_bind (wpAny_isInstance (T:="StopIteration") (b:=true) ⟨oe,t3.extBut _ _ nez hoe,hce⟩ isSubtype_stop ?_)
 exact wpAny_pure (hQ _ fun c o c1 c2 e=>t3.extBut _ _ c1 (t2 _ _ c2 (t1.extBut _ _ c1 e)))
end
end Zp
namespace L2
open PySem PySem.Spec PyProof.Rows
def Itz (K:PySem.W.Frag) (a b c:Addr):It :=
 ⟨fun i H=>∃ xs ys zs x y z,SqL K H a xs∧SqL K H b ys∧SqL K H c zs∧xs[i]?=some x∧ys[i]?=some y∧zs[i]?=some z,
  fun i H v H'=>∃ t x y z,H t=none∧v=.ref t∧H'=upd H t (.tup [x,y,z])∧(∀ xs,SqL K H a xs→xs[i]?=some x)∧(∀ ys,SqL K H b ys→ys[i]?=some y)∧∀ zs,SqL K H c zs→zs[i]?=some z,
  fun i H=>∃ xs,SqL K H a xs∧xs.length≤i⟩
theorem turn_zip3 {P:Program} {w:World} {K:PySem.W.Frag} {elts:List Expr} {k1:Nat} {tp:Pos} (n a b c:Nat) (b1:a<n) (b2:b<n) (b3:c<n) :
  Turn P w K (.Tuple elts k1 tp) (Itz K a b c) [n+5,n+3,n+4,n,n+1,n+2] (n+5) (fun i h=>IsZip h (n+5) (n+3) (n+4) .none∧Zp.Trip h (n+3) (.ref n) (.ref (n+1)) (.ref (n+2))∧(∃ u v x,Zp.Trip h (n+4) u v x)∧h.IsListIter n a i∧h.IsListIter (n+1) b i∧h.IsListIter (n+2) c i) where
 mem:=by simp
 obj:=fun i h st q hq=>by
  obtain ⟨h1,h2,⟨_,_,_,h3⟩,⟨o4,h4,_,d4⟩,⟨o5,h5,_,d5⟩,⟨o6,h6,_,d6⟩⟩:=st
  simp only [List.mem_cons,List.not_mem_nil,or_false] at hq
  rcases hq with rfl | rfl | rfl | rfl | rfl | rfl
  ·exact ⟨_,h1,fun v z=>by cases z⟩
  ·exact ⟨_,h2,fun v z=>by cases z⟩
  ·exact ⟨_,h3,fun v z=>by cases z⟩
  ·exact ⟨o4,h4,fun v z=>by rw [d4] at z; cases z⟩
  ·exact ⟨o5,h5,fun v z=>by rw [d5] at z; cases z⟩
  ·exact ⟨o6,h6,fun v z=>by rw [d6] at z; cases z⟩
 keep:=fun i h h' st k=>by
  obtain ⟨h1,h2,⟨u,v,x,h3⟩,h4,h5,h6⟩:=st
  exact ⟨k _ (by simp) _ h1,k _ (by simp) _ h2,⟨u,v,x,k _ (by simp) _ h3⟩,h4.at fun o q=>k _ (by simp) o q,h5.at fun o q=>k _ (by simp) o q,h6.at fun o q=>k _ (by simp) o q⟩
 item:=by
  intro X hP hw hK hc i pins s σ H E I hf st hg
  subst hP hw hK
  obtain ⟨h1,h2,⟨u,v,w',h3⟩,h4,h5,h6⟩:=st
  obtain ⟨xs,ys,zs,x,y,z,qa,qb,qc,ex,ey,ez⟩:=hg
  obtain ⟨itx,rx,px,_⟩:=I.list qa
  obtain ⟨ity,ry,py,_⟩:=I.list qb
  obtain ⟨itz,rz,pz,_⟩:=I.list qc
  obtain ⟨ux,gx,rvx⟩:=rx.get ex
  obtain ⟨uy,gy,rvy⟩:=ry.get ey
  obtain ⟨uz,gz,rvz⟩:=rz.get ez
  refine Zp.pyNext3 b1 b2 b3 h1 h2 h3 h4 h5 h6 px.isList py.isList pz.isList (x:=ux) (y:=uy) (v:=uz) (by simpa using gx) (by simpa using gy) (by simpa using gz) fun k1 a1 a2 a3 a4 a5 a6 a7=>⟨_,rfl,?_⟩
  refine wpAny_letOwnedTupleGo_zip a1 fun k2 z2 t2=>?_
  have lt5:(n+5:Nat)<s.heap.objs.size:=Heap.lt_size h1
  have kp2:∀ q o,q∉[n+5,n+4,n,n+1,n+2]→s.heap.get? q=some o→k2.get? q=some o:=fun q o hq e=>by
   simp only [List.mem_cons,List.not_mem_nil,or_false,not_or] at hq
   exact t2.extBut _ _ hq.1 (a7 q o hq.1 hq.2.1 hq.2.2.1 hq.2.2.2.1 hq.2.2.2.2 e)
  have lt4:n+4<s.heap.objs.size:=Heap.lt_size h3
  have hfr:H s.heap.objs.size=none:=I.hok.fresh (Nat.le_refl _)
  have tup2:Zp.Trip k2 s.heap.objs.size ux uy uz:=t2.extBut _ _ (Zp.ap (by lia)) a6
  have sub:∀ q∈[n+5,n+4,n,n+1,n+2],q∈[n+5,n+3,n+4,n,n+1,n+2]:=fun q hq=>by
   simp only [List.mem_cons,List.not_mem_nil,or_false] at hq ⊢
   rcases hq with h | h | h | h | h <;> simp [h]
  have nt:∀ q o,H q=some o→q∉[n+5,n+4,n,n+1,n+2]:=fun q o e hq=>by
   have:=(hf q (sub q hq)).1
   rw [this] at e
   cases e
  have hok2:HOk X.prog X.w (upd H s.heap.objs.size (.tup [x,y,z])) k2:=fun q o e=>by
   by_cases hq:q=s.heap.objs.size
   ·subst hq
    rw [upd_same] at e
    cases e
    have l3:(3:Nat)≤sizeLine:=by rw [sizeLine_eq]; decide
    exact ⟨l3,[ux,uy,uz],.cons rvx (.cons rvy (.cons rvz .nil)),⟨_,tup2,rfl,_,rfl⟩⟩
   ·rw [upd_ne hq] at e
    refine (I.hok q o e).stay (fun c v hc z=>?_) (fun c z=>by rw [upd_ne (ne_of_none z hfr)]; exact z) fun c ys z=>by rw [upd_ne (ne_of_none z hfr)]; exact z
    rcases hc with hc | hc
    ·subst hc
     exact kp2 c v (nt c _ e) z
    ·exact kp2 c v (nt c _ hc) z
  have I2:Inv X pins σ (upd H s.heap.objs.size (.tup [x,y,z])) { s with heap:=k2,toks:=s.toks }:=by
   refine I.step (g':=s.gens) (d':=s.drawn) (t':=s.toks) (ch:=[n+5,n+4,n,n+1,n+2]) (fun b hb=>?_) (fun b o _ _ hc q _=>kp2 b o hc q)
    (fun b o _ _ hc q _=>⟨o.slots,kp2 b o hc q⟩) (fun b o _ q n=>by rw [upd_ne (Nat.ne_of_lt (Heap.lt_size q))]; exact n)
    (fun b o hc q=>⟨o,kp2 b o hc q⟩) (fun b ys q=>by rw [upd_ne (ne_of_none q hfr)]; exact q) (fun b o u q=>by rw [upd_ne (ne_of_none q hfr)]; exact q)
    (fun b ps q=>⟨#[],by rw [upd_ne (ne_of_none q hfr),q]; simp⟩) (fun m hm=>?_) hok2 I.bare
   ·have fb:=hf b (sub b hb)
    exact ⟨fb.2.2.2.1,fb.2.1,fb.2.2.2.2.1,fb.2.2.2.2.2⟩
   ·obtain ⟨o,es,ep,ho,r⟩:=hm
    exact ⟨o,es,ep,kp2 _ o (fun hq=>(hf _ (sub _ hq)).2.1 rfl) ho,r⟩
  refine ⟨.ref s.heap.objs.size,_,I2,rfl,⟨_,x,y,z,hfr,rfl,rfl,fun l hl=>by rw [I.list_inj hl qa]; exact ex,fun l hl=>by rw [I.list_inj hl qb]; exact ey,fun l hl=>by rw [I.list_inj hl qc]; exact ez⟩,
   ⟨z2,t2.extBut _ _ (Zp.ap (by lia)) (a7 _ _ (Zp.ap (by lia)) (Zp.ap (by lia)) (Zp.ap (by lia)) (Zp.ap (by lia)) (Zp.ap (by lia)) h2),⟨_,_,_,t2.extBut _ _ (Zp.ap (by lia)) a2⟩,a3.at fun o e=>t2.extBut _ o (Zp.ap (by lia)) e,a4.at fun o e=>t2.extBut _ o (Zp.ap (by lia)) e,a5.at fun o e=>t2.extBut _ o (Zp.ap (by lia)) e⟩,fun q hq=>?_⟩
  have h0:=(hf q hq).1
  have lq:q<s.heap.objs.size:=by
   simp only [List.mem_cons,List.not_mem_nil,or_false] at hq
   rcases hq with rfl | rfl | rfl | rfl | rfl | rfl
   ·exact lt5
   ·exact Nat.lt_of_le_of_lt (show n+3≤n+5 by lia) lt5
   ·exact Nat.lt_of_le_of_lt (show n+4≤n+5 by lia) lt5
   ·exact Nat.lt_of_le_of_lt (show q≤q+5 by exact Nat.le_add_right _ _) lt5
   ·exact Nat.lt_of_le_of_lt (show n+1≤n+5 by lia) lt5
   ·exact Nat.lt_of_le_of_lt (show n+2≤n+5 by lia) lt5
  rw [upd_ne (Nat.ne_of_lt lq)]
  exact h0
 done:=by
  intro X hP hw hK hc i pins s σ H E I hf st hg
  subst hP hw hK
  obtain ⟨h1,h2,_,h4,_,_⟩:=st
  obtain ⟨xs,qa,ex⟩:=hg
  obtain ⟨itx,rx,px,_⟩:=I.list qa
  have hl:=rx.length
  have f5:=hf (n+5) (by simp)
  have f0:=hf n (by simp)
  refine Zp.end3 (I.ok.hd hc) b1 h1 h2 h4 px.isList (by simp; lia) fun h' kp=>⟨rfl,?_⟩
  have kp2:∀ q o,q∉[n+5,n]→s.heap.get? q=some o→h'.get? q=some o:=fun q o hq e=>by
   simp only [List.mem_cons,List.not_mem_nil,or_false,not_or] at hq
   exact kp q o hq.1 hq.2 e
  have nt:∀ q o,H q=some o→q∉[n+5,n]:=fun q o e hq=>by
   simp only [List.mem_cons,List.not_mem_nil,or_false] at hq
   rcases hq with rfl | rfl
   ·rw [f5.1] at e; cases e
   ·rw [f0.1] at e; cases e
  refine I.step (g':=s.gens) (d':=s.drawn) (t':=s.toks) (ch:=[n+5,n]) (fun b hb=>?_) (fun b o _ _ hc q _=>kp2 b o hc q) (fun b o _ _ hc q _=>⟨o.slots,kp2 b o hc q⟩) (fun _ _ _ _ z=>z)
   (fun b o hc q=>⟨o,kp2 b o hc q⟩) (fun _ _ e=>e) (fun _ _ _ e=>e) (fun b ps e=>⟨#[],by rw [e]; simp⟩) (fun m hm=>?_) (fun q o e=>?_) I.bare
  ·simp only [List.mem_cons,List.not_mem_nil,or_false] at hb
   rcases hb with rfl | rfl
   ·exact ⟨f5.2.2.2.1,f5.2.1,f5.2.2.2.2.1,f5.2.2.2.2.2⟩
   ·exact ⟨f0.2.2.2.1,f0.2.1,f0.2.2.2.2.1,f0.2.2.2.2.2⟩
  ·obtain ⟨o,es,ep,ho,r⟩:=hm
   exact ⟨o,es,ep,kp2 _ o (fun hq=>by
    simp only [List.mem_cons,List.not_mem_nil,or_false] at hq
    rcases hq with h | h
    ·exact f5.2.1 h.symm
    ·exact f0.2.1 h.symm) ho,r⟩
  ·refine (I.hok q o e).stay (fun c v hc z=>?_) (fun _ z=>z) fun _ _ z=>z
   rcases hc with hc | hc
   ·subst hc
    exact kp2 c v (nt c _ e) z
   ·exact kp2 c v (nt c _ hc) z
 self:=fun A i s Q E st h=>wpAny_pyIter_zip st.1 h
section
variable {X:Cx}
def iZip3 (K:PySem.W.Frag) (ta:TA):TI:=fun σ H R=>ta σ H fun vs H1=>∃ a b c,vs=[.ref a,.ref b,.ref c]∧(∃ xs,SqL K H1 a xs)∧(∃ xs,SqL K H1 b xs)∧(∃ xs,SqL K H1 c xs)∧R (Itz K a b c) H1
theorem pi_zip3 {elts:List Expr} {k1:Nat} {tp:Pos} {e1 e2 e3:Expr} {ta:TA} {p pos:Pos} (hg:Gl X "zip") (hm:X.mg "zip"=none) (ha:PA X [e1,e2,e3] ta)
  (hs:starEach (e1::[e2,e3]) X.env=(false,eval e1 X.env)::starEach [e2,e3] X.env:=by rfl) (hpl:(backTo pos (starEach [e2,e3] X.env)).any (·.1)=false:=by rfl) :
  PI X (.Tuple elts k1 tp) (.Call (.Name "zip" p) [e1,e2,e3] [] pos) (iZip3 X.K ta):=by
 intro pins s σ H R I h
 refine Call_ (ld_blt I hg hm boot_zip (PyProof.Rows.callWith_type1 (thn (ha pos pins s σ H _ I h) fun us s1 ⟨vs,H1,I1,r1,q1⟩=>?_) hs hpl))
 obtain ⟨a,b,c,e,⟨xs,qa⟩,⟨ys,qb⟩,⟨zs,qc⟩,q⟩:=q1
 subst e
 cases r1 with
 | cons ra r1 =>
 cases r1 with
 | cons rb r1 =>
 cases r1 with
 | cons rc r1 =>
 cases r1
 cases ra
 cases rb
 cases rc
 obtain ⟨itx,rx,px,_⟩:=I1.list qa
 obtain ⟨ity,ry,py,_⟩:=I1.list qb
 obtain ⟨itz,rz,pz,_⟩:=I1.list qc
 have ba:a<s1.heap.objs.size:=by obtain ⟨_,e,_⟩:=px.isList; exact Heap.lt_size e
 have bb:b<s1.heap.objs.size:=by obtain ⟨_,e,_⟩:=py.isList; exact Heap.lt_size e
 have bc:c<s1.heap.objs.size:=by obtain ⟨_,e,_⟩:=pz.isList; exact Heap.lt_size e
 refine Zp.call_zip3 px.isList py.isList pz.isList fun h' z1 z2 z3 z4 z5 z6 kp=>?_
 refine wpAny_pyIter_zip z1 ?_
 have I2:Inv X pins σ H1 { s1 with heap:=h' }:=I1.kept (t':=s1.toks) kp
 refine ⟨s1.heap.objs.size+5,_,_,_,H1,rfl,I2,turn_zip3 s1.heap.objs.size a b c ba bb bc,⟨z1,z2,⟨_,_,_,z3⟩,z4,z5,z6⟩,fun q hq=>?_,q⟩
 have:s1.heap.objs.size≤q:=by
  simp only [List.mem_cons,List.not_mem_nil,or_false] at hq
  rcases hq with rfl | rfl | rfl | rfl | rfl | rfl
  ·exact Nat.le_add_right _ _
  ·exact Nat.le_add_right _ _
  ·exact Nat.le_add_right _ _
  ·exact Nat.le_refl _
  ·exact Nat.le_add_right _ _
  ·exact Nat.le_add_right _ _
 exact I1.fpOk this (I1.hok.fresh this)
end
theorem for_zip3 {K:PySem.W.Frag} {a b c:Addr} {xs ys zs:List V} {g:TG} {tb:TS} {D:Ends} {σ:St} {H:Hp} (Pv:Nat→St→Hp→Prop) (h0:Pv 0 σ H) (hl:∀ i σ H,Pv i σ H→SqL K H a xs∧SqL K H b ys∧SqL K H c zs) (ly:xs.length≤ys.length) (lz:xs.length≤zs.length)
  (hs:∀ i x y z t σ H,xs[i]?=some x→ys[i]?=some y→zs[i]?=some z→H t=none→Pv i σ H→g (.ref t) σ (upd H t (.tup [x,y,z])) fun σ2 H2=>tb { D with nx:=Pv (i+1),ct:=Pv (i+1),bk:=D.nx } σ2 H2) (hd:∀ σ H,Pv xs.length σ H→D.nx σ H) :
  ∃ W:Nat→Nat→St→Hp→Prop,(∃ m,W 0 m σ H)∧∀ i m σ H,W i m σ H →
   ((Itz K a b c).stop i H∧D.nx σ H)∨((Itz K a b c).go i H∧∃ N:St→Hp→Prop,(∀ σ' H',N σ' H'→∃ m',m'<m∧W (i+1) m' σ' H')∧∀ x H',(Itz K a b c).yld i H x H'→g x σ H' fun σ2 H2=>tb { D with nx:=N,ct:=N,bk:=D.nx } σ2 H2):=by
 refine ⟨fun i m σ H=>m=xs.length - i∧i≤xs.length∧Pv i σ H,⟨xs.length,by simp,Nat.zero_le _,h0⟩,?_⟩
 rintro i m σ H ⟨rfl,hi,p⟩
 obtain ⟨qa,qb,qc⟩:=hl i σ H p
 by_cases hlt:i<xs.length
 ·refine .inr ⟨⟨xs,ys,zs,_,_,_,qa,qb,qc,List.getElem?_eq_getElem hlt,List.getElem?_eq_getElem (by lia),List.getElem?_eq_getElem (by lia)⟩,Pv (i+1),fun σ' H' p'=>⟨xs.length - (i+1),by lia,rfl,hlt,p'⟩,fun v H' y=>?_⟩
  obtain ⟨t,x,y,z,ht,rfl,rfl,f1,f2,f3⟩:=y
  exact hs i x y z t σ _ (f1 xs qa) (f2 ys qb) (f3 zs qc) ht p
 ·have e:i=xs.length:=by lia
  subst e
  exact .inl ⟨⟨xs,qa,Nat.le_refl _⟩,hd σ H p⟩
end L2
set_option maxHeartbeats 4000000
namespace L2
open PySem PySem.Spec PyProof.Rows
def LCG2 (K:PySem.W.Frag) (J:It) (l:Addr) (σ':St) (tt:TT) (te:TE) (Q:VK) (H1:Hp):Prop:=∃ W:Nat→Nat→Hp→Prop,(∃ m,W 0 m (upd H1 l (.lst [])))∧∀ i m H2,W i m H2 →
 (J.stop i H2∧Q (.ref l) H2)∨(J.go i H2∧∀ x H3,J.yld i H2 x H3→∃ ta y1 y2,x=.ref ta∧SqT K H3 ta [y1,y2]∧tt (some y1::some y2::σ') H3 fun b H4=>if b=true then te (some y1::some y2::σ') H4 fun y H5=>∃ ys m',H5 l=some (.lst ys)∧ys.length<sizeLine∧m'<m∧W (i+1) m' (upd H5 l (.lst (ys++[y])))
  else ∃ m',m'<m∧W (i+1) m' H4)
def tLC2 (K:PySem.W.Frag) (cap:List Nat) (wi:TI) (tt:TT) (te:TE):TE:=fun σ H Q=>wi σ H fun J H1=>∀ l,H1 l=none→LCG2 K J l (capV σ cap) tt te Q H1
section
variable {prog:Program} {w:World} {A:Around} {R:Result→Shared→Prop} {s:Shared}
theorem comp_loop_go {elt target iter:Expr} {ifs:List Expr} {scope:Scope} {pos:Pos} {it acc:Value} {env:Env} (J:Nat→Shared→Prop)
  (turn:∀ n s,J n s→wpAny (model prog w) A (pyNext it) (fun r s₁=>match r with
   | none=>R (.ok .next) s₁
   | some v=>wpAny (model prog w) A (letOwnedTupleGo target it v) (fun _ s₀=>wpAny (model prog w) A (assign target env v) (fun _ s₂ =>
     wpAny (model prog w) A (forIn ifs true fun c r=>if r=true then do let ok ← isTrue c env (eval c env); pure (ForInStep.yield ok) else pure (ForInStep.yield r)) (fun ok s₃ =>
      if ok=true then wpAny (model prog w) A (eval elt env) (fun x s₄=>wpAny (model prog w) A (call (.builtin "list.append") [acc,x]) (fun _ s₅=>∃ m,m<n∧J m s₅) (notedBy (model prog w) A env fun e s'=>R (.error e) s') s₄) (notedBy (model prog w) A env fun e s'=>R (.error e) s') s₃
      else ∃ m,m<n∧J m s₃) (notedBy (model prog w) A env fun e s'=>R (.error e) s') s₂) (notedBy (model prog w) A env fun e s'=>R (.error e) s') s₀) (notedBy (model prog w) A env fun e s'=>R (.error e) s') s₁) (notedBy (model prog w) A env fun e s'=>R (.error e) s') s)
  (n:Nat) (h:J n s):codeAny (model prog w) A (.compLoop (.ListComp elt [⟨target,iter,ifs,0⟩] scope pos) 0 it acc env) R s:=by
 refine codeAny_loop rfl J (fun n s hJ=>?_) n h
 show wpAny _ A ((compTurn (.ListComp elt [⟨target,iter,ifs,0⟩] scope pos) 0 it acc env).onRaise (fun x=>do { noteFrame x env; theTreesLotGoes x })) _ _ s
 refine wpAny_noted ?_
 rw [compTurn_list]
 refine wpAny_bind (wpAny_standAt (wpAny_bind (wpAny_mono (turn n s hJ) (fun r s₁ h₁=>?_) fun _ _ z=>z)))
 cases r with
 | none=>exact wpAny_pure h₁
 | some v =>
  refine wpAny_bind (wpAny_mono h₁ (fun _ s₀ h₀=>wpAny_bind (wpAny_mono h₀ (fun _ s₂ h₂=>wpAny_bind (wpAny_mono h₂ (fun ok s₃ h₃=>?_) fun _ _ z=>z)) fun _ _ z=>z)) fun _ _ z=>z)
  cases ok with
  | false=>exact wpAny_pure ⟨rfl,h₃⟩
  | true=>exact wpAny_bind (wpAny_bind (wpAny_mono h₃ (fun x s₄ h₄=>wpAny_bind (wpAny_mono h₄ (fun _ s₅ h₅=>wpAny_pure (wpAny_pure ⟨rfl,h₅⟩)) fun _ _ z=>z)) fun _ _ z=>z))
end
section
variable {X:Cx}
theorem inv_comp2 {pins:List (Addr×Obj)} {σ:St} {H:Hp} {s:Shared} {scope:Scope} {cl:List (Str×Addr)} {x x2:Str} {cap:List Nat} {caps:List Str} {fp:List Addr} {h':Heap} {t':Nat} (I:Inv X pins σ H s) (ok:(X.comp scope cl (x::x2::caps) s H fp).Ok)
  (ca:∀ y c,cl.lookup y=some c→X.env.cells.lookup y=some c) (cb:∀ y,(y,NameKind.free)∈scope.names→∃ c,cl.lookup y=some c) (hcell:∀ y∈scope.names,y.2≠.cell)
  (hcap:cap.map (fun k=>X.N[k]?)=caps.map some) (hvis:∀ y∈caps,((relabel scope X.env).names.lookup y=some .cell∨(relabel scope X.env).names.lookup y=some .free)∧(X.env.kindOf y=some .cell∨X.env.kindOf y=some .free))
  (hn:h'.Ns s.heap.objs.size fun _=>none) (kp:∀ b o,s.heap.get? b=some o→h'.get? b=some o):Inv (X.comp scope cl (x::x2::caps) s H fp) [] (none::none::capV σ cap) H { s with heap:=h',toks:=t' }:=by
 have hlen:cap.length=caps.length:=by
  have:=congrArg List.length hcap
  simpa using this
 refine ⟨ok,rfl,I.bare,Un.kept kp,⟨_,hn,fun i y v h1 h2 h3=>?_⟩,fun y c h=>?_,I.hok.fresh (Nat.le_refl _),fun y c h=>I.freeC y c (ca y c h),fun p hp=>absurd (show p∈([]:List (Addr×Obj)) from hp) (by simp),I.hok.kept kp,?_⟩
 ·cases i with
  | zero=>exact absurd h2 (by simp)
  | succ j0 =>
   cases j0 with
   | zero=>exact absurd h2 (by simp)
   | succ j =>
   have h1':caps[j]?=some y:=h1
   have h2':(capV σ cap)[j]?=some (some v):=h2
   unfold capV at h2'
   rw [List.getElem?_map] at h2'
   cases hk:cap[j]? with
   | none=>rw [hk] at h2'; cases h2'
   | some k =>
    rw [hk] at h2'
    have h2'':(σ[k]?).join=some v:=by simpa using h2'
    have hN:X.N[k]?=some y:=by
     have:=congrArg (fun l=>l[j]?) hcap
     simp only [List.getElem?_map,hk,h1',Option.map_some] at this
     exact Option.some.inj this
    have hσ:σ[k]?=some (some v):=by
     cases e:σ[k]? with
     | none=>rw [e] at h2''; cases h2''
     | some o=>rw [e] at h2''; exact congrArg some h2''
    obtain ⟨hv1,hv2⟩:=hvis y (List.mem_of_getElem? h1')
    obtain ⟨m,_,hl⟩:=I.loc
    obtain ⟨u,r,l⟩:=hl k y v hN hσ (by
     rcases hv2 with z | z
     ·exact .inr (.inl z)
     ·exact .inr (.inr z))
    refine ⟨u,r,?_⟩
    obtain ⟨c,hc⟩:=cb y (relabel_free hcell hv1)
    rcases l with ⟨z,_⟩ | ⟨_,c',hc',hcl⟩
    ·rcases hv2 with q | q <;> (rw [z] at q; cases q)
    ·have e:=ca y c hc
     rw [hc'] at e
     have e2:c'=c:=Option.some.inj e
     rw [e2] at hcl
     obtain ⟨o,ho,hd⟩:=hcl
     exact .inr ⟨hv1,c,hc,o,kp _ _ ho,hd⟩
 ·obtain ⟨v,o,ho,hd⟩:=I.cell y c (ca y c h)
  exact ⟨v,o,kp _ _ ho,hd⟩
 ·show (none::none::capV σ cap).length=(x::x2::caps).length
  simp [capV,hlen]
theorem pe_lcomp2 {elt iter:Expr} {x x2:Str} {px px2 pt:Pos} {kt:Nat} {ifs:List Expr} {scope:Scope} {pos:Pos} {cap:List Nat} {caps:List Str} {wi:TI} {tt:TT} {te:TE} (hc:X.calm=true) (hi:PI X (.Tuple [.Name x px,.Name x2 px2] kt pt) iter wi) (hkind:scope.kind=.function)
  (hnames:∀ y∈scope.names,y.2=.local→scope.names.lookup y.1=some .local) (hcell:∀ y∈scope.names,y.2≠.cell) (hx:scope.names.lookup x=some .local) (hx2:scope.names.lookup x2=some .local)
  (hfree:∀ y∈scope.names,y.2=.free→X.env.kindOf y.1=some .cell∨X.env.kindOf y.1=some .free) (hcap:cap.map (fun k=>X.N[k]?)=caps.map some)
  (hvis:∀ y∈caps,((relabel scope X.env).names.lookup y=some .cell∨(relabel scope X.env).names.lookup y=some .free)∧(X.env.kindOf y=some .cell∨X.env.kindOf y=some .free)) (nd:(x::x2::caps).Nodup)
  (body:∀ cl s₃ H₃ fp,PIfs (X.comp scope cl (x::x2::caps) s₃ H₃ fp) ifs tt∧PE (X.comp scope cl (x::x2::caps) s₃ H₃ fp) elt te) (hs:∀ v,foldedSetIterable iter X.env v=pure v:=by intro _; rfl) :
  PE X (.ListComp elt [⟨.Tuple [.Name x px,.Name x2 px2] kt pt,iter,ifs,0⟩] scope pos) (tLC2 X.K cap wi tt te):=by
 intro pins s σ H Q I h
 rw [eval_ListComp]
 obtain ⟨cl,hcl,ca,cb⟩:=clos_of (scope:=scope) (env:=X.env) fun y hy hf=>I.ok.has y.1 (hfree y hy hf)
 refine wpAny_comprehension_free (use:=none) rfl hs hcl hkind hnames (thn (hi pins s σ H _ I h) fun v s1 h1=>thn h1 fun itv s2 h2=>?_)
 obtain ⟨it,fp,tn,J,H2,e,I2,T,st2,f2,rest⟩:=h2
 subst e
 have hfr:H2 s2.heap.objs.size=none:=I2.hok.fresh (Nat.le_refl _)
 obtain ⟨W,⟨m0,w0⟩,turn⟩:=rest s2.heap.objs.size hfr
 refine wpAny_newObj_type (wpAny_newFunctionEnv hcell (by intro y hy; simp at hy) (fun h4 hn4 hs4=>?_) hkind)
 dsimp only at hn4 hs4 ⊢
 have I3:Inv X pins σ (upd H2 s2.heap.objs.size (.lst [])) { s2 with heap:=s2.heap.push { cls:=.type "list",dict:=none,data:=.seq ([]:List Value).toArray } } :=
  I2.laid (t':=s2.toks) (o:=.lst []) (fun b o e=>Heap.get?_push_of_some _ e) (Nat.le_refl _) ⟨Nat.zero_le _,[],0,.nil,Heap.get?_push_size _ rfl⟩
 generalize hs3:({ s2 with heap:=s2.heap.push { cls:=.type "list",dict:=none,data:=.seq ([]:List Value).toArray } }:Shared)=s3 at I3
 have hz3:s3.heap=s2.heap.push { cls:=.type "list",dict:=none,data:=.seq ([]:List Value).toArray }:=by rw [← hs3]
 rw [← hz3] at hn4 hs4 ⊢
 have kp3:∀ b o,s3.heap.get? b=some o→h4.get? b=some o:=fun b o e=>hs4.extBut b o (Nat.ne_of_lt (Heap.lt_size e)) (Heap.get?_push_of_some _ e)
 have lt2:∀ b∈fp,b<s2.heap.objs.size:=fun b hb=>let ⟨o,e,_⟩:=T.obj 0 _ st2 b hb; Heap.lt_size e
 have hz:s3.heap.objs.size=s2.heap.objs.size+1:=by rw [hz3,Heap.size_push]
 have lt3:∀ b∈fp,b<s3.heap.objs.size:=fun b hb=>by rw [hz]; exact Nat.lt_succ_of_lt (lt2 b hb)
 have f3:∀ b∈fp,FpOk X pins (upd H2 s2.heap.objs.size (.lst [])) b:=fun b hb=>⟨by rw [upd_ne (Nat.ne_of_lt (lt2 b hb))]; exact (f2 b hb).1,(f2 b hb).2⟩
 have ok':(X.comp scope cl (x::x2::caps) s3 (upd H2 s2.heap.objs.size (.lst [])) fp).Ok:=comp_ok I3 f3 lt3 hkind hcell ca cb
 have I4:Inv (X.comp scope cl (x::x2::caps) s3 (upd H2 s2.heap.objs.size (.lst [])) fp) [] (none::none::capV σ cap) (upd H2 s2.heap.objs.size (.lst [])) { s3 with heap:=h4,toks:=s2.toks+([]:List (Str×Value)).length } :=
  inv_comp2 I3 ok' ca cb hcell hcap hvis hn4 kp3
 have st4:tn 0 h4:=T.keep _ _ _ st2 fun b hb o e=>kp3 b o (by rw [hz3]; exact Heap.get?_push_of_some _ e)
 obtain ⟨bI,bE⟩:=body cl s3 (upd H2 s2.heap.objs.size (.lst [])) fp
 have stat:∀ {H':Hp},(∀ b∈fp,H' b=none)→∀ b∈fp,FpOk (X.comp scope cl (x::x2::caps) s3 (upd H2 s2.heap.objs.size (.lst [])) fp) [] H' b:=fun {H'} hn b hb =>
  ⟨hn b hb,Nat.ne_of_lt (lt3 b hb),ok'.exfs b hb,.inl hb,fun y c hy=>(f2 b hb).2.2.2.2.1 y c (ca y c hy),fun p hp=>absurd (show p∈([]:List (Addr×Obj)) from hp) (by simp)⟩
 have es:({ s2 with heap:=h4,toks:=s2.toks+([]:List (Str×Value)).length }:Shared)={ s3 with heap:=h4,toks:=s2.toks+([]:List (Str×Value)).length }:=by rw [← hs3]
 rw [es]
 have fin:∀ {σ':St} {H':Hp} {s':Shared},Inv (X.comp scope cl (x::x2::caps) s3 (upd H2 s2.heap.objs.size (.lst [])) fp) [] σ' H' s'→Q (.ref s2.heap.objs.size) H' →
   compPost (model X.prog X.w) X.A X.xe none (EP X pins σ Q) (.ref s2.heap.objs.size) s3.heap.objs.size (.ok .next) s':=fun {σ' H' s'} J' q=>by
  obtain ⟨m,hn,_⟩:=J'.loc
  refine ⟨m,hn,fun h' sb=>?_⟩
  have IX:Inv X pins σ H' s':=I3.call' J'.os J'.base J'.hok J'.bare fun b hb=>⟨(f3 b hb).2.2.2.1,(f3 b hb).2.1,(f3 b hb).2.2.2.2.1,(f3 b hb).2.2.2.2.2⟩
  have fc:=I3.fpOk (Nat.le_refl _) (I3.hok.fresh (Nat.le_refl _))
  exact ⟨.ref s2.heap.objs.size,H',IX.turned (t':=s'.toks) (fun b o hb e=>sb.extBut b o hb e) J'.free fc.2.1 fc.2.2.2.1 fc.2.2.2.2.1 fc.2.2.2.2.2,rfl,q⟩
 have loop:codeAny (model X.prog X.w) X.A (.compLoop (.ListComp elt [⟨.Tuple [.Name x px,.Name x2 px2] kt pt,iter,ifs,0⟩] scope pos) 0 (.ref it) (.ref s2.heap.objs.size) (compEnvC scope cl s3.heap.objs.size X.env))
   (compPost (model X.prog X.w) X.A X.xe none (EP X pins σ Q) (.ref s2.heap.objs.size) s3.heap.objs.size) { s3 with heap:=h4,toks:=s2.toks+([]:List (Str×Value)).length }:=by
  refine comp_loop_go (fun n s'=>∃ i o o2 H',Inv (X.comp scope cl (x::x2::caps) s3 (upd H2 s2.heap.objs.size (.lst [])) fp) [] (o::o2::capV σ cap) H' s'∧tn i s'.heap∧(∀ b∈fp,H' b=none)∧W i n H') ?_ m0
   ⟨0,none,none,_,I4,st4,fun b hb=>(f3 b hb).1,w0⟩
  rintro n s5 ⟨i,o,o2,H5,I5,st5,fr5,w5⟩
  rcases turn i n H5 w5 with ⟨stop,qn⟩ | ⟨go,step⟩
  ·refine thn (T.done (X.comp scope cl (x::x2::caps) s3 (upd H2 s2.heap.objs.size (.lst [])) fp) rfl rfl rfl hc i [] s5 _ H5 _ I5 (stat fr5) st5 stop) fun r s6 ⟨hr,I6⟩=>?_
   subst hr
   exact fin I6 qn
  ·refine thn (T.item (X.comp scope cl (x::x2::caps) s3 (upd H2 s2.heap.objs.size (.lst [])) fp) rfl rfl rfl hc i [] s5 _ H5 _ I5 (stat fr5) st5 go) fun r s6 ⟨u,hr,h6⟩=>?_
   subst hr
   dsimp only
   refine thn h6 fun _ s7 ⟨y,H7,I7,r7,y7,st7,fr7⟩=>?_
   have I7':=I7.pinned (stat fr7) (T.obj _ _ st7)
   obtain ⟨ta,y1,y2,ey,hty,step⟩:=step y H7 y7
   subst ey
   have pg1:=pg_name (X:=X.comp scope cl (x::x2::caps) s3 (upd H2 s2.heap.objs.size (.lst [])) fp) (i:=0) (x:=x) (pos:=px) nd rfl (.inl (lookup_relabel_local hx)) (.inr (lookup_relabel_local hx))
   have pg2:=pg_name (X:=X.comp scope cl (x::x2::caps) s3 (upd H2 s2.heap.objs.size (.lst [])) fp) (i:=1) (x:=x2) (pos:=px2) nd rfl (.inl (lookup_relabel_local hx2)) (.inr (lookup_relabel_local hx2))
   have pg:=pg_tup (X:=X.comp scope cl (x::x2::caps) s3 (upd H2 s2.heap.objs.size (.lst [])) fp) (pos:=pt) (k:=kt) hc (pgs_cons pg1 (pgs_cons pg2 pgs_nil))
   refine wpAny_mono (pg _ s7 _ H7 (.ref ta) u (fun σ' H'=>σ'=some y1::some y2::capV σ cap∧H'=H7) I7' r7 ⟨ta,_,rfl,hty,rfl,y1,_,rfl,y2,_,rfl,rfl,rfl,rfl⟩) (fun _ s8 ⟨σ8,H8,I8,e8,e8'⟩=>?_) fun _ _ f=>f.elim
   subst e8 e8'
   have again:∀ {H9:Hp} {s9:Shared} {m':Nat},Inv (X.comp scope cl (x::x2::caps) s3 (upd H2 s2.heap.objs.size (.lst [])) fp) ([]++pinsAt fp s7.heap) (some y1::some y2::capV σ cap) H9 s9→m'<n→W (i+1) m' H9 →
     ∃ m,m<n∧∃ i o o2 H',Inv (X.comp scope cl (x::x2::caps) s3 (upd H2 s2.heap.objs.size (.lst [])) fp) [] (o::o2::capV σ cap) H' s9∧tn i s9.heap∧(∀ b∈fp,H' b=none)∧W i m H':=fun {H9 s9 m'} I9 hm w9=>by
    have pin9:=fun b hb o e=>I9.pin (b,o) (List.mem_append_right _ (List.mem_append_right _ (mem_pinsAt hb e)))
    refine ⟨m',hm,i+1,some y1,some y2,H9,I9.unpinned,T.keep _ _ _ st7 fun b hb o e=>(pin9 b hb o e).1,fun b hb=>?_,w9⟩
    obtain ⟨o,e,d⟩:=T.obj _ _ st7 b hb
    exact (pin9 b hb o e).2.1
   refine wpAny_mono (bI _ s8 _ H8 _ I8 step) (fun ok s9 ⟨H9,I9,q9⟩=>?_) fun _ _ f=>f.elim
   cases ok with
   | false =>
    rw [if_neg Bool.false_ne_true] at q9 ⊢
    obtain ⟨m',hm,w9⟩:=q9
    exact again I9 hm w9
   | true =>
    rw [if_pos rfl] at q9 ⊢
    refine wpAny_mono (bE _ s9 _ H9 _ I9 q9) (fun z s10 ⟨v10,H10,I10,r10,ys,m',hl,hsz,hm,w10⟩=>?_) fun _ _ f=>f.elim
    refine wpAny_mono (mt_append (X:=X.comp scope cl (x::x2::caps) s3 (upd H2 s2.heap.objs.size (.lst [])) fp) _ s10 _ H10 (.ref s2.heap.objs.size) [v10] (.ref s2.heap.objs.size) [z] (fun _ H'=>H'=upd H10 s2.heap.objs.size (.lst (ys++[v10]))) I10 rfl (.cons r10 .nil) ⟨_,ys,v10,rfl,rfl,hl,hsz,rfl⟩) (fun _ s11 ⟨_,H11,I11,_,e11⟩=>?_) fun _ _ f=>f.elim
    subst e11
    exact again I11 hm w10
 refine codeAny_compStart_list loop (T.self _ 0 _ _ _ st4 loop)
end
theorem lc2_list {K:PySem.W.Frag} {a:Addr} {ts:List Addr} {l:Addr} {H1:Hp} {te:TE} {σ':St} {Q:VK} {ps:List (V×V)} (Rv:Nat→V→Hp→Prop) (st:∀ i v H H',Rv i v H→(∀ b o,b≠l→H b=some o→H' b=some o)→Rv i v H') (hn:ts.length≤1000) (hl:H1 l=none)
  (ha:SqL K H1 a (ts.map V.ref)) (hlen:ts.length=ps.length) (ht:∀ (i:Nat) (t:Addr) (p:V×V),ts[i]?=some t→ps[i]?=some p→SqT K H1 t [p.1,p.2])
  (he:∀ (i:Nat) (p:V×V) ys H2 (R:VK),ps[i]?=some p→Same H1 H2→H2 l=some (.lst ys)→(∀ v H3,Same H2 H3→Rv i v H3→R v H3)→te (some p.1::some p.2::σ') H2 R)
  (hq:∀ vs H2,Same H1 H2→H2 l=some (.lst vs)→vs.length=ps.length→(∀ i v,vs[i]?=some v→Rv i v H2)→Q (.ref l) H2):LCG2 K (Itl K a) l σ' tAlw te Q H1:=by
 refine ⟨fun i m H2=>m=ts.length - i∧i≤ts.length∧Same H1 H2∧∃ vs,H2 l=some (.lst vs)∧vs.length=i∧∀ j v,vs[j]?=some v→Rv j v H2,⟨ts.length,by simp,Nat.zero_le _,fun b o e=>by rw [upd_ne (ne_of_none e hl)]; exact e,[],upd_same,rfl,fun j v z=>by simp at z⟩,?_⟩
 rintro i m H2 ⟨rfl,hi,s2,vs,h2,vl,hv⟩
 by_cases hlt:i<ts.length
 ·have et:(ts.map V.ref)[i]?=some (.ref ts[i]):=by rw [List.getElem?_map,List.getElem?_eq_getElem hlt]; rfl
  refine .inr ⟨⟨_,_,s2.seq ha,et⟩,fun x H3 y=>?_⟩
  obtain ⟨e,y⟩:=y
  subst e
  have ex:=y _ (s2.seq ha)
  rw [et] at ex
  obtain rfl:V.ref ts[i]=x:=Option.some.inj ex
  have ep:ps[i]?=some (ps[i]'(by lia)):=List.getElem?_eq_getElem (by lia)
  have tq:=ht i _ _ (List.getElem?_eq_getElem hlt) ep
  refine ⟨ts[i],_,_,rfl,s2.tup tq,?_⟩
  unfold tAlw
  dsimp only
  rw [if_pos rfl]
  refine he i _ vs _ _ ep s2 h2 fun v H4 s4 r4=>⟨vs,ts.length - (i+1),s4 _ _ h2,small1000 (by lia),by lia,rfl,hlt,fun b o e=>?_,vs++[v],upd_same,by simp [vl],fun j u hu=>?_⟩
  ·rw [upd_ne (ne_of_none e hl)]
   exact s4 _ _ (s2 _ _ e)
  ·have keep:∀ b o,b≠l→H4 b=some o→upd H4 l (.lst (vs++[v])) b=some o:=fun b o nb e=>by rw [upd_ne nb]; exact e
   by_cases hj:j<vs.length
   ·rw [List.getElem?_append_left hj] at hu
    exact st _ _ _ _ (st _ _ _ _ (hv j u hu) fun b o _ e=>s4 b o e) keep
   ·rw [List.getElem?_append_right (by lia)] at hu
    have ej:j - vs.length=0:=by
     cases hk:j - vs.length with
     | zero=>rfl
     | succ k=>rw [hk] at hu; simp at hu
    rw [ej] at hu
    have eu:v=u:=by simpa using hu
    subst eu
    have:j=i:=by lia
    subst this
    exact st _ _ _ _ r4 keep
 ·have e:i=ts.length:=by lia
  subst e
  exact .inl ⟨⟨_,s2.seq ha,by rw [List.length_map]; exact Nat.le_refl _⟩,hq vs H2 s2 h2 (by lia) hv⟩
end L2
namespace L2
open PySem PySem.Spec PyProof.Rows
theorem pe_fldK {X:Cx} {K:PySem.W.Frag} {e:Expr} {f:Str} {pos:Pos} {ta:TE} (h:X.K=K) (he:PE X e ta) (hb:attributeBase e f X.env (eval e X.env)=eval e X.env):PE X (.Attribute e f pos) (tFld K ta f):=by
 subst h
 exact pe_fld he hb
theorem keysOf:∀ {vs:List V} {G:Nat→Addr→Prop},(∀ i v,vs[i]?=some v→∃ a,v=.ref a∧G i a)→∃ as:List Addr,vs=as.map V.ref∧∀ i a,as[i]?=some a→G i a
 | [],G,_=>⟨[],rfl,fun i a z=>by simp at z⟩
 | v::vs,G,h=>by
  obtain ⟨a,e,g⟩:=h 0 v rfl
  obtain ⟨as,e2,g2⟩:=keysOf (vs:=vs) (G:=fun i a=>G (i+1) a) fun i u hu=>h (i+1) u hu
  subst e e2
  refine ⟨a::as,rfl,fun i b hb=>?_⟩
  cases i with
  | zero =>
   have:a=b:=by simpa using hb
   subst this
   exact g
  | succ i=>exact g2 i b hb
theorem lc_tup_if {K:PySem.W.Frag} {a:Addr} {xs:List V} {l:Addr} {H1:Hp} {tt:TT} {te:TE} {σ':St} {Q:VK} (p:V→Bool) (f:V→V) (hn:xs.length≤1000) (hl:H1 l=none) (hx:SqT K H1 a xs)
  (ht:∀ x H2 (R:Bool→Hp→Prop),x∈xs→Same H1 H2→(∀ H3,Same H2 H3→R (p x) H3)→tt (some x::σ') H2 R)
  (he:∀ x H2 (R:VK),x∈xs→p x=true→Same H1 H2→(∀ H3,Same H2 H3→R (f x) H3)→te (some x::σ') H2 R)
  (hq:∀ H2,Same H1 H2→H2 l=some (.lst ((xs.filter p).map f))→Q (.ref l) H2):LCG (Itt K a) l σ' tt te Q H1:=by
 refine ⟨fun i m H2=>m=xs.length - i∧i≤xs.length∧Same H1 H2∧H2 l=some (.lst (((xs.take i).filter p).map f)),⟨xs.length,by simp,Nat.zero_le _,fun b o e=>by rw [upd_ne (ne_of_none e hl)]; exact e,by rw [upd_same]; rfl⟩,?_⟩
 rintro i m H2 ⟨rfl,hi,s2,h2⟩
 by_cases hlt:i<xs.length
 ·refine .inr ⟨⟨xs,xs[i],s2.tup hx,by simp [hlt]⟩,fun x H3 y=>?_⟩
  obtain ⟨e,y⟩:=y
  subst e
  have hxi:=y xs (s2.tup hx)
  have hm:=List.mem_of_getElem? hxi
  have tk:xs.take (i+1)=xs.take i++[x]:=by
   rw [List.take_succ,hxi]
   rfl
  refine ht x _ _ hm s2 fun H4 s4=>?_
  have s14:Same H1 H4:=s2.trans s4
  cases q:p x with
  | false =>
   rw [if_neg Bool.false_ne_true]
   refine ⟨xs.length - (i+1),by lia,rfl,hlt,s14,?_⟩
   rw [tk,List.filter_append,List.filter_cons,q,List.filter_nil]
   simp only [Bool.false_eq_true,if_false,List.append_nil]
   exact s4 _ _ h2
  | true =>
   rw [if_pos rfl]
   refine he x _ _ hm q s14 fun H5 s5=>⟨_,xs.length - (i+1),s5 _ _ (s4 _ _ h2),?_,by lia,rfl,hlt,fun b o e=>?_,?_⟩
   ·rw [List.length_map]
    refine small1000 (Nat.le_trans (List.length_filter_le _ _) ?_)
    rw [List.length_take]
    lia
   ·rw [upd_ne (ne_of_none e hl)]
    exact s5 _ _ (s14 _ _ e)
   ·rw [upd_same,tk,List.filter_append,List.filter_cons,q,List.filter_nil,List.map_append]
    rfl
 ·have e:i=xs.length:=by lia
  subst e
  rw [List.take_length] at h2
  exact .inl ⟨⟨xs,s2.tup hx,Nat.le_refl _⟩,hq H2 s2 h2⟩
theorem lc_seq_if {K:PySem.W.Frag} {a:Addr} {xs:List V} {H1:Hp} {tt:TT} {te:TE} {σ':St} {Q:VK} (p:V→Bool) (f:V→V) (hn:xs.length≤1000) (hx:SqS K H1 a xs)
  (ht:∀ x H2 (R:Bool→Hp→Prop),x∈xs→Same H1 H2→(∀ H3,Same H2 H3→R (p x) H3)→tt (some x::σ') H2 R)
  (he:∀ x H2 (R:VK),x∈xs→p x=true→Same H1 H2→(∀ H3,Same H2 H3→R (f x) H3)→te (some x::σ') H2 R)
  (hq:∀ l H2,H1 l=none→Same H1 H2→H2 l=some (.lst ((xs.filter p).map f))→Q (.ref l) H2) :
  ((∃ ys,SqL K H1 a ys)∧∀ l,H1 l=none→LCG (Itl K a) l σ' tt te Q H1)∨((∃ ys,SqT K H1 a ys)∧∀ l,H1 l=none→LCG (Itt K a) l σ' tt te Q H1):=by
 rcases hx with hx | hx
 ·exact .inl ⟨⟨_,hx⟩,fun l hl=>lc_list_if p f hn hl hx ht he fun H2 s2 h2=>hq l H2 hl s2 h2⟩
 ·exact .inr ⟨⟨_,hx⟩,fun l hl=>lc_tup_if p f hn hl hx ht he fun H2 s2 h2=>hq l H2 hl s2 h2⟩
theorem lc2_listN {K:PySem.W.Frag} {a:Addr} {ts:List Addr} {l:Addr} {H1:Hp} {te:TE} {σ':St} {Q:VK} {ps:List (V×V)} (Rv:Nat→V→Hp→Prop) (st:∀ i v H H',Rv i v H→(∀ b o,b≠l→H b=some o→H' b=some o)→Rv i v H') (hn:ts.length≤1000) (hl:H1 l=none)
  (ha:SqL K H1 a (ts.map V.ref)) (hlen:ts.length=ps.length) (ht:∀ (i:Nat) (t:Addr) (p:V×V),ts[i]?=some t→ps[i]?=some p→SqT K H1 t [p.1,p.2])
  (he:∀ (i:Nat) (p:V×V) ys H2 (R:VK),ps[i]?=some p→Same H1 H2→H2 l=some (.lst ys)→(∀ j u,ys[j]?=some u→Rv j u H2)→(∀ v H3,Same H2 H3→Rv i v H3→v∉ys→R v H3)→te (some p.1::some p.2::σ') H2 R)
  (hq:∀ vs H2,Same H1 H2→H2 l=some (.lst vs)→vs.length=ps.length→vs.Nodup→(∀ i v,vs[i]?=some v→Rv i v H2)→Q (.ref l) H2):LCG2 K (Itl K a) l σ' tAlw te Q H1:=by
 refine ⟨fun i m H2=>m=ts.length - i∧i≤ts.length∧Same H1 H2∧∃ vs,H2 l=some (.lst vs)∧vs.length=i∧vs.Nodup∧∀ j v,vs[j]?=some v→Rv j v H2,⟨ts.length,by simp,Nat.zero_le _,fun b o e=>by rw [upd_ne (ne_of_none e hl)]; exact e,[],upd_same,rfl,List.nodup_nil,fun j v z=>by simp at z⟩,?_⟩
 rintro i m H2 ⟨rfl,hi,s2,vs,h2,vl,nd,hv⟩
 by_cases hlt:i<ts.length
 ·have et:(ts.map V.ref)[i]?=some (.ref ts[i]):=by rw [List.getElem?_map,List.getElem?_eq_getElem hlt]; rfl
  refine .inr ⟨⟨_,_,s2.seq ha,et⟩,fun x H3 y=>?_⟩
  obtain ⟨e,y⟩:=y
  subst e
  have ex:=y _ (s2.seq ha)
  rw [et] at ex
  obtain rfl:V.ref ts[i]=x:=Option.some.inj ex
  have ep:ps[i]?=some (ps[i]'(by lia)):=List.getElem?_eq_getElem (by lia)
  have tq:=ht i _ _ (List.getElem?_eq_getElem hlt) ep
  refine ⟨ts[i],_,_,rfl,s2.tup tq,?_⟩
  unfold tAlw
  dsimp only
  rw [if_pos rfl]
  refine he i _ vs _ _ ep s2 h2 hv fun v H4 s4 r4 nv=>⟨vs,ts.length - (i+1),s4 _ _ h2,small1000 (by lia),by lia,rfl,hlt,fun b o e=>?_,vs++[v],upd_same,by simp [vl],?_,fun j u hu=>?_⟩
  ·rw [upd_ne (ne_of_none e hl)]
   exact s4 _ _ (s2 _ _ e)
  ·refine List.nodup_append.mpr ⟨nd,by simp,fun x hx y hy e=>?_⟩
   rw [List.mem_singleton.mp hy] at e
   exact nv (e ▸ hx)
  ·have keep:∀ b o,b≠l→H4 b=some o→upd H4 l (.lst (vs++[v])) b=some o:=fun b o nb e=>by rw [upd_ne nb]; exact e
   by_cases hj:j<vs.length
   ·rw [List.getElem?_append_left hj] at hu
    exact st _ _ _ _ (st _ _ _ _ (hv j u hu) fun b o _ e=>s4 b o e) keep
   ·rw [List.getElem?_append_right (by lia)] at hu
    have ej:j - vs.length=0:=by
     cases hk:j - vs.length with
     | zero=>rfl
     | succ k=>rw [hk] at hu; simp at hu
    rw [ej] at hu
    have eu:v=u:=by simpa using hu
    subst eu
    have:j=i:=by lia
    subst this
    exact st _ _ _ _ r4 keep
 ·have e:i=ts.length:=by lia
  subst e
  exact .inl ⟨⟨_,s2.seq ha,by rw [List.length_map]; exact Nat.le_refl _⟩,hq vs H2 s2 h2 (by lia) nd hv⟩
end L2
namespace L2
open PySem PySem.Spec PyProof.Rows
section
variable {X:Cx}
theorem call_list_ofK {K:PySem.W.Frag} (h:X.K=K):CallR X (.type "list") (fun xs H Q=>∃ p ys,xs=[.ref p]∧(SqL K H p ys∨SqT K H p ys)∧∀ l,H l=none→Q (.ref l) (upd H l (.lst ys))):=h ▸ call_list_of
theorem line_big10 {n:Nat} (h:n≤100000):n<sizeLine:=by have:=line20; lia
def rNeLL:R2:=fun x y H Q=>∃ (p q:Addr) (as bs:List Addr) (pss:List (List Int)),x=.ref p∧y=.ref q∧LL H p as pss∧LL H q bs pss∧Q (.bl false) H
theorem op_neLL (hu:X.A.units<cLine) (hu2:X.A.in1.units<cLine):OpR X (compareOp .NotEq) rNeLL:=by
 intro pins s σ H x y v u Q I rx ry h
 obtain ⟨p,q,as,bs,pss,rfl,rfl,hp,hq,k⟩:=h
 cases rx
 cases ry
 obtain ⟨us,r1,p1,_⟩:=I.list (SqL.of hp.lst)
 obtain ⟨ws,r2,p2,_⟩:=I.list (SqL.of hq.lst)
 obtain rfl:=refs_of r1
 obtain rfl:=refs_of r2
 have l1:=hp.len
 have l2:=hq.len
 refine SeqAt.RcNeAt.lists (e:=fun _=>true) p1.isList p2.isList (by rw [List.size_toArray,List.size_toArray,List.length_map,List.length_map]; lia) hu (fun j h1 h2=>?_) _ _ _ _ (fin_bl I k ?_)
 ·rw [List.size_toArray,List.length_map] at h1 h2
  have e1:as[j]?=some as[j]:=List.getElem?_eq_getElem h1
  have e2:bs[j]?=some bs[j]:=List.getElem?_eq_getElem h2
  have e3:pss[j]?=some (pss[j]'(by lia)):=List.getElem?_eq_getElem (by lia)
  have:=eqAt_lists (A:=X.A.in1) I (SqL.of (hp.at_ j _ _ e1 e3)) (SqL.of (hq.at_ j _ _ e2 e3)) hu2
  rw [decide_eq_true rfl] at this
  simpa using this
 ·rw [List.all_eq_true.mpr fun _ _=>rfl]
  rfl
end
theorem lc_listR {K:PySem.W.Frag} {a:Addr} {xs:List V} {l:Addr} {H1:Hp} {te:TE} {σ':St} {Q:VK} (Rv:Nat→V→Hp→Prop) (st:∀ i v H H',Rv i v H→(∀ b o,b≠l→H b=some o→H' b=some o)→Rv i v H') (hn:xs.length≤1000) (hl:H1 l=none) (hx:SqL K H1 a xs)
  (he:∀ (i:Nat) x ys H2 (R:VK),xs[i]?=some x→Same H1 H2→H2 l=some (.lst ys)→(∀ v H3,Same H2 H3→Rv i v H3→R v H3)→te (some x::σ') H2 R)
  (hq:∀ vs H2,Same H1 H2→H2 l=some (.lst vs)→vs.length=xs.length→(∀ i v,vs[i]?=some v→Rv i v H2)→Q (.ref l) H2):LCG (Itl K a) l σ' tAlw te Q H1:=by
 refine ⟨fun i m H2=>m=xs.length - i∧i≤xs.length∧Same H1 H2∧∃ vs,H2 l=some (.lst vs)∧vs.length=i∧∀ j v,vs[j]?=some v→Rv j v H2,⟨xs.length,by simp,Nat.zero_le _,fun b o e=>by rw [upd_ne (ne_of_none e hl)]; exact e,[],upd_same,rfl,fun j v z=>by simp at z⟩,?_⟩
 rintro i m H2 ⟨rfl,hi,s2,vs,h2,vl,hv⟩
 by_cases hlt:i<xs.length
 ·refine .inr ⟨⟨xs,xs[i],s2.seq hx,by simp [hlt]⟩,fun x H3 y=>?_⟩
  obtain ⟨e,y⟩:=y
  subst e
  have hxi:=y xs (s2.seq hx)
  unfold tAlw
  dsimp only
  rw [if_pos rfl]
  refine he i x vs _ _ hxi s2 h2 fun v H4 s4 r4=>⟨vs,xs.length - (i+1),s4 _ _ h2,small1000 (by lia),by lia,rfl,hlt,fun b o e=>?_,vs++[v],upd_same,by simp [vl],fun j u hu=>?_⟩
  ·rw [upd_ne (ne_of_none e hl)]
   exact s4 _ _ (s2 _ _ e)
  ·have keep:∀ b o,b≠l→H4 b=some o→upd H4 l (.lst (vs++[v])) b=some o:=fun b o nb e=>by rw [upd_ne nb]; exact e
   by_cases hj:j<vs.length
   ·rw [List.getElem?_append_left hj] at hu
    exact st _ _ _ _ (st _ _ _ _ (hv j u hu) fun b o _ e=>s4 b o e) keep
   ·rw [List.getElem?_append_right (by lia)] at hu
    have ej:j - vs.length=0:=by
     cases hk:j - vs.length with
     | zero=>rfl
     | succ k=>rw [hk] at hu; simp at hu
    rw [ej] at hu
    have eu:v=u:=by simpa using hu
    subst eu
    have:j=i:=by lia
    subst this
    exact st _ _ _ _ r4 keep
 ·have e:i=xs.length:=by lia
  subst e
  exact .inl ⟨⟨xs,s2.seq hx,Nat.le_refl _⟩,hq vs H2 s2 h2 vl hv⟩
end L2
namespace Pl
open PySem L2
theorem perm_len {ns:List Int} {n:Nat} (h:ns.Perm (iota n)):ns.length=n:=by rw [h.length_eq,iota_length]
theorem perm_mem {ns:List Int} {n:Nat} (h:ns.Perm (iota n)) {x:Int}:x∈ns↔0≤x∧x<n:=h.mem_iff.trans mem_iota
theorem perm_nodup {ns:List Int} {n:Nat} (h:ns.Perm (iota n)):ns.Nodup:=h.nodup_iff.mpr (iota_nodup n)
theorem perm_ins {ns:List Int} {n:Nat} (h:ns.Perm (iota n)) (g:Nat):(ns.take g++[(n:Int)]++ns.drop g).Perm (iota (n+1)):=by
 rw [iota_succ]
 have h1:(ns.take g++[(n:Int)]++ns.drop g).Perm (ns.take g++ns.drop g++[(n:Int)]):=by
  rw [List.append_assoc,List.append_assoc]
  exact List.Perm.append_left _ List.perm_append_comm
 rw [List.take_append_drop] at h1
 exact h1.trans (h.append_right _)
theorem same_sorted {a b:List Int} (hp:a.Perm b) (ha:a.Pairwise (·≤·)) (hb:b.Pairwise (·≤·)):a=b:=PySem.W.ksm_same hp ha hb
def plc (ns:List Int):List Int:=(iota ns.length).map fun s=>((ns.idxOf s:Nat):Int)
theorem plc_length (ns:List Int):(plc ns).length=ns.length:=by simp [plc,iota_length]
theorem plc_get {ns:List Int} {n:Nat} (h:ns.Perm (iota n)) {s:Nat} (hs:s<n):∃ j:Nat,(plc ns)[s]?=some (j:Int)∧j<n∧ns[j]?=some (s:Int):=by
 have hm:(s:Int)∈ns:=(perm_mem h).mpr (by lia)
 have hl:=perm_len h
 refine ⟨ns.idxOf (s:Int),?_,?_,?_⟩
 ·unfold plc
  rw [List.getElem?_map,hl]
  have:(iota n)[s]?=some (s:Int):=by
   unfold iota
   rw [List.getElem?_map,List.getElem?_range hs]
   rfl
  rw [this]
  rfl
 ·have:=List.idxOf_lt_length_of_mem hm
  lia
 ·have hlt:=List.idxOf_lt_length_of_mem hm
  rw [List.getElem?_eq_getElem hlt,List.getElem_idxOf hlt]
def Fnd (ns:List Int) (i:Nat) (f:List Int):Prop:=f.length=ns.length∧∀ j s,j<i→ns[j]?=some s→f[s.toNat]?=some ((j:Nat):Int)
theorem Fnd.step {ns:List Int} {n i:Nat} {f:List Int} {s:Int} (h:ns.Perm (iota n)) (F:Fnd ns i f) (hs:ns[i]?=some s):Fnd ns (i+1) (f.set s.toNat (i:Int)):=by
 refine ⟨by rw [List.length_set]; exact F.1,fun j t hj ht=>?_⟩
 have ms:=(perm_mem h).mp (List.mem_of_getElem? hs)
 have mt:=(perm_mem h).mp (List.mem_of_getElem? ht)
 have hl:=perm_len h
 by_cases e:j=i
 ·subst e
  rw [hs] at ht
  cases ht
  rw [List.getElem?_set_self (by have:=F.1; lia)]
 ·have ne:t≠s:=fun z=>by
   subst z
   have h1:=(List.getElem?_eq_some_iff.mp ht)
   have h2:=(List.getElem?_eq_some_iff.mp hs)
   obtain ⟨l1,e1⟩:=h1
   obtain ⟨l2,e2⟩:=h2
   have nd:=List.pairwise_iff_getElem.mp (perm_nodup h)
   rcases Nat.lt_or_gt_of_ne e with z | z
   ·exact nd j i l1 l2 z (e1.trans e2.symm)
   ·exact nd i j l2 l1 z (e2.trans e1.symm)
  rw [List.getElem?_set_ne (by lia)]
  exact F.2 j t (by lia) ht
theorem Fnd.eq {ns:List Int} {n:Nat} {f:List Int} (h:ns.Perm (iota n)) (F:Fnd ns n f):f=plc ns:=by
 have hl:=perm_len h
 refine List.ext_getElem? fun s=>?_
 by_cases hs:s<n
 ·obtain ⟨j,h1,h2,h3⟩:=plc_get h hs
  rw [h1]
  exact F.2 j (s:Int) h2 h3
 ·rw [List.getElem?_eq_none (by rw [F.1]; lia),List.getElem?_eq_none (by rw [plc_length]; lia)]
end Pl
namespace Pl
open PySem L2
def wr (ps:List Int) (c s:Nat):Bool:=decide (min (ps.getD c 0) (ps.getD (c+1) 0)<ps.getD s 0) && decide (ps.getD s 0<max (ps.getD c 0) (ps.getD (c+1) 0))
def cr (ps:List Int) (a b:Nat):Bool:=wr ps a b != wr ps a (b+1)
def NoX (ps:List Int):Prop:=∀ a b:Nat,a+2≤b→b+1<ps.length→(b - a) % 2=0→cr ps a b=false
theorem min_if (i j:Int):(if j<i then j else i)=min i j:=by
 rw [Int.min_def]; split <;> split <;> lia
theorem max_if (i j:Int):(if j>i then j else i)=max i j:=by
 rw [Int.max_def]; split <;> split <;> lia
end Pl
namespace Pl
open PySem L2
def turn (ns:List Int) (m:Nat):List Int:=ns.drop m++ns.take m
theorem nodup_at {ns:List Int} (nd:ns.Nodup) {i j:Nat} {s:Int} (h1:ns[i]?=some s) (h2:ns[j]?=some s):i=j:=by
 obtain ⟨l1,e1⟩:=List.getElem?_eq_some_iff.mp h1
 obtain ⟨l2,e2⟩:=List.getElem?_eq_some_iff.mp h2
 have q:=List.pairwise_iff_getElem.mp nd
 rcases Nat.lt_trichotomy i j with z | z | z
 ·exact absurd (e1.trans e2.symm) (q i j l1 l2 z)
 ·exact z
 ·exact absurd (e2.trans e1.symm) (q j i l2 l1 z)
theorem plc_ne {ns:List Int} {n s t:Nat} (h:ns.Perm (iota n)) (hs:s<n) (ht:t<n) (hst:s≠t):(plc ns).getD s 0≠(plc ns).getD t 0:=by
 obtain ⟨j,j1,j2,j3⟩:=plc_get h hs
 obtain ⟨k,k1,k2,k3⟩:=plc_get h ht
 have a1:(plc ns).getD s 0=(j:Int):=by rw [List.getD_eq_getElem?_getD,j1]; rfl
 have a2:(plc ns).getD t 0=(k:Int):=by rw [List.getD_eq_getElem?_getD,k1]; rfl
 rw [a1,a2]
 intro e
 have e':j=k:=by lia
 subst e'
 rw [j3] at k3
 injection k3 with k3
 lia
def btw (x y u:Int):Bool:=decide (min x y<u) && decide (u<max x y)
theorem wr_btw (ps:List Int) (c s:Nat):wr ps c s=btw (ps.getD c 0) (ps.getD (c+1) 0) (ps.getD s 0):=rfl
end Pl
namespace Pl
open PySem L2
def ins (ns:List Int) (g:Nat):List Int:=ns.take g++[(ns.length:Int)]++ns.drop g
theorem ins_perm {ns:List Int} {n:Nat} (h:ns.Perm (iota n)) (g:Nat):(ins ns g).Perm (iota (n+1)):=by
 unfold ins
 rw [perm_len h]
 exact perm_ins h g
def shf (g x:Int):Int:=if g≤x then x+1 else x
theorem ins_get_old {ns:List Int} {g j:Nat} {s:Int} (hg:g≤ns.length) (hj:ns[j]?=some s):(ins ns g)[(shf g j).toNat]?=some s:=by
 have hjn:j<ns.length:=(List.getElem?_eq_some_iff.mp hj).1
 unfold ins shf
 by_cases c:(g:Int)≤j
 ·rw [if_pos c,show ((j:Int)+1).toNat=j+1 by lia,List.getElem?_append_right (by simp; lia)]
  simp only [List.length_append,List.length_take,List.length_singleton,List.getElem?_drop]
  rw [show g+(j+1 - (min g ns.length+1))=j by lia]
  exact hj
 ·rw [if_neg c,show ((j:Int)).toNat=j by lia,List.getElem?_append_left (by simp; lia),List.getElem?_append_left (by simp; lia),List.getElem?_take_of_lt (by lia)]
  exact hj
theorem ins_get_new {ns:List Int} {g:Nat} (hg:g≤ns.length):(ins ns g)[g]?=some (ns.length:Int):=by
 unfold ins
 rw [List.getElem?_append_left (by simp; lia),List.getElem?_append_right (by simp; lia)]
 simp [show g - min g ns.length=0 by lia]
theorem plc_at {ns:List Int} {n s j:Nat} (h:ns.Perm (iota n)) (hs:ns[j]?=some (s:Int)):(plc ns).getD s 0=(j:Int):=by
 have hs':s<n:=by
  have:=(perm_mem h).mp (List.mem_of_getElem? hs)
  lia
 obtain ⟨k,k1,k2,k3⟩:=plc_get h hs'
 have e:=nodup_at (perm_nodup h) k3 hs
 subst e
 rw [List.getD_eq_getElem?_getD,k1]
 rfl
theorem plc_old {ns:List Int} {n g s:Nat} (h:ns.Perm (iota n)) (hg:g≤n) (hs:s<n):(plc (ins ns g)).getD s 0=shf g ((plc ns).getD s 0):=by
 obtain ⟨j,j1,j2,j3⟩:=plc_get h hs
 have e:=ins_get_old (g:=g) (by rw [perm_len h]; exact hg) j3
 rw [plc_at h j3,plc_at (ins_perm h g) e]
 have:0≤shf g (j:Int):=by unfold shf; split <;> lia
 lia
theorem plc_new {ns:List Int} {n g:Nat} (h:ns.Perm (iota n)) (hg:g≤n):(plc (ins ns g)).getD n 0=(g:Int):=by
 have e:=ins_get_new (ns:=ns) (g:=g) (by rw [perm_len h]; exact hg)
 rw [perm_len h] at e
 exact plc_at (ins_perm h g) e
theorem btw_shf (g x y u:Int):btw (shf g x) (shf g y) (shf g u)=btw x y u:=by
 have m:∀ a b:Int,(shf g a<shf g b)↔a<b:=fun a b=>by unfold shf; split <;> split <;> lia
 have key:(btw (shf g x) (shf g y) (shf g u)=true)↔(btw x y u=true):=by
  unfold btw
  simp only [Bool.and_eq_true,decide_eq_true_eq,Int.min_def,Int.max_def]
  by_cases c:x≤y
  ·have c':shf g x≤shf g y:=by unfold shf; split <;> split <;> lia
   rw [if_pos c,if_pos c,if_pos c',if_pos c',m,m]
  ·have c':¬ shf g x≤shf g y:=by unfold shf; split <;> split <;> lia
   rw [if_neg c,if_neg c,if_neg c',if_neg c',m,m]
 exact Bool.eq_iff_iff.mpr key
theorem btw_gap (g x y:Int):btw (shf g x) (shf g y) g=(decide (min x y<g) && decide (g≤max x y)):=by
 have key:(btw (shf g x) (shf g y) g=true)↔((decide (min x y<g) && decide (g≤max x y))=true):=by
  unfold btw shf
  simp only [Bool.and_eq_true,decide_eq_true_eq,Int.min_def,Int.max_def]
  by_cases c1:g≤x <;> by_cases c2:g≤y <;> simp only [c1,c2,if_true,if_false] <;> (repeat' split) <;> lia
 exact Bool.eq_iff_iff.mpr key
def FitG (ps:List Int) (st g:Nat):Prop:=∀ c:Nat,c+1<st→(st+1+c) % 2=0→wr ps c (st - 1)=(decide (min (ps.getD c 0) (ps.getD (c+1) 0)<(g:Int)) && decide ((g:Int)≤max (ps.getD c 0) (ps.getD (c+1) 0)))
theorem wr_old {ns:List Int} {n g c s:Nat} (h:ns.Perm (iota n)) (hg:g≤n) (hc:c+1<n) (hs:s<n):wr (plc (ins ns g)) c s=wr (plc ns) c s:=by
 rw [wr_btw,wr_btw,plc_old h hg (by lia),plc_old h hg hc,plc_old h hg hs,btw_shf]
theorem wr_new {ns:List Int} {n g c:Nat} (h:ns.Perm (iota n)) (hg:g≤n) (hc:c+1<n):wr (plc (ins ns g)) c n=(decide (min ((plc ns).getD c 0) ((plc ns).getD (c+1) 0)<(g:Int)) && decide ((g:Int)≤max ((plc ns).getD c 0) ((plc ns).getD (c+1) 0))):=by
 rw [wr_btw,plc_old h hg (by lia),plc_old h hg hc,plc_new h hg,btw_gap]
theorem nox_ins {ns:List Int} {n g:Nat} (h:ns.Perm (iota n)) (h1:1≤n) (hg:g≤n):NoX (plc (ins ns g))↔(NoX (plc ns)∧FitG (plc ns) n g):=by
 have l1:(plc ns).length=n:=by rw [plc_length,perm_len h]
 have l2:(plc (ins ns g)).length=n+1:=by rw [plc_length,perm_len (ins_perm h g)]
 have bb:∀ a b:Bool,(a != b)=false↔a=b:=by decide
 constructor
 ·intro N
  refine ⟨fun a b hab hb hp=>?_,fun c hc hp=>?_⟩
  ·have:=N a b hab (by lia) hp
   unfold cr at this ⊢
   rw [wr_old h hg (by lia) (by lia),wr_old h hg (by lia) (by lia)] at this
   exact this
  ·have:=N c (n - 1) (by lia) (by lia) (by lia)
   unfold cr at this
   rw [show n - 1+1=n by lia,wr_old h hg (by lia) (by lia),wr_new h hg (by lia),bb] at this
   exact this
 ·rintro ⟨N,F⟩ a b hab hb hp
  unfold cr
  by_cases e:b+1=n
  ·rw [e,wr_old h hg (by lia) (by lia),wr_new h hg (by lia),bb]
   have:=F a (by lia) (by lia)
   rw [show b=n - 1 by lia]
   exact this
  ·rw [wr_old h hg (by lia) (by lia),wr_old h hg (by lia) (by lia)]
   exact N a b hab (by lia) hp
theorem fit_beside {ns:List Int} {n e:Nat} (h:ns.Perm (iota n)) (h1:1≤n) (he:e≤1) {g:Nat} (hg:(g:Int)=(plc ns).getD (n - 1) 0+e):FitG (plc ns) n g:=by
 intro c hc hp
 rw [wr_btw]
 have n1:=plc_ne h (s:=c) (t:=n - 1) (by lia) (by lia) (by lia)
 have n2:=plc_ne h (s:=c+1) (t:=n - 1) (by lia) (by lia) (by lia)
 have key:(btw ((plc ns).getD c 0) ((plc ns).getD (c+1) 0) ((plc ns).getD (n - 1) 0)=true)↔((decide (min ((plc ns).getD c 0) ((plc ns).getD (c+1) 0)<(g:Int)) && decide ((g:Int)≤max ((plc ns).getD c 0) ((plc ns).getD (c+1) 0)))=true):=by
  unfold btw
  rw [hg]
  generalize (plc ns).getD c 0=x at *
  generalize (plc ns).getD (c+1) 0=y at *
  generalize (plc ns).getD (n - 1) 0=u at *
  simp only [Bool.and_eq_true,decide_eq_true_eq,Int.min_def,Int.max_def]
  split <;> lia
 exact Bool.eq_iff_iff.mpr key
end Pl
namespace Pl
open PySem L2
def Dis (ps:List Int):Prop:=∀ s t:Nat,s<ps.length→t<ps.length→s≠t→ps.getD s 0≠ps.getD t 0
theorem btw_sym {x y u v:Int} (h1:u≠x) (h2:u≠y) (h3:v≠x) (h4:v≠y):(btw x y u != btw x y v)=(btw u v x != btw u v y):=by
 have key:((btw x y u != btw x y v)=true)↔((btw u v x != btw u v y)=true):=by
  have e:∀ a b:Bool,((a != b)=true)↔¬ ((a=true)↔(b=true)):=by decide
  rw [e,e]
  unfold btw
  simp only [Bool.and_eq_true,decide_eq_true_eq,Int.min_def,Int.max_def]
  (repeat' split) <;> lia
 exact Bool.eq_iff_iff.mpr key
theorem cr_symm {ps:List Int} {a b:Nat} (D:Dis ps) (ha:a+1<ps.length) (hb:b+1<ps.length) (h:a+2≤b∨b+2≤a):cr ps a b=cr ps b a:=by
 unfold cr
 rw [wr_btw,wr_btw,wr_btw,wr_btw]
 exact btw_sym (D _ _ (by lia) (by lia) (by lia)) (D _ _ (by lia) (by lia) (by lia)) (D _ _ (by lia) (by lia) (by lia)) (D _ _ (by lia) (by lia) (by lia))
def wid (ps:List Int) (c:Nat):Int:=max (ps.getD c 0) (ps.getD (c+1) 0) - min (ps.getD c 0) (ps.getD (c+1) 0)
theorem NoX.both {ps:List Int} (N:NoX ps) (D:Dis ps) {a b:Nat} (ha:a+1<ps.length) (hb:b+1<ps.length) (hp:(a+b) % 2=0) (hne:a≠b):cr ps a b=false:=by
 rcases Nat.lt_or_gt_of_ne hne with h | h
 ·exact N a b (by lia) hb (by lia)
 ·rw [cr_symm D ha hb (by lia)]
  exact N b a (by lia) ha (by lia)
theorem wide_free {ps:List Int} (N:NoX ps) (D:Dis ps) {j d:Nat} (hj:j+1<ps.length) (hd:d+1<ps.length) (hp:(d+j) % 2=0) (hw:wid ps d≤wid ps j):wr ps d j=false∧wr ps d (j+1)=false:=by
 by_cases e:d=j
 ·subst e
  constructor
  ·rw [wr_btw]; unfold btw
   simp only [Bool.and_eq_false_iff,decide_eq_false_iff_not,Int.min_def,Int.max_def]
   split <;> lia
  ·rw [wr_btw]; unfold btw
   simp only [Bool.and_eq_false_iff,decide_eq_false_iff_not,Int.min_def,Int.max_def]
   split <;> lia
 ·have h:=N.both D hd hj hp e
  unfold cr at h
  have bb:∀ a b:Bool,(a != b)=false→a=b:=by decide
  have h':=bb _ _ h
  cases q:wr ps d j with
  | false=>exact ⟨rfl,by rw [← h',q]⟩
  | true =>
   exfalso
   have q':=h'.symm.trans q
   rw [wr_btw] at q q'
   unfold btw at q q'
   unfold wid at hw
   simp only [Bool.and_eq_true,decide_eq_true_eq] at q q'
   simp only [Int.min_def,Int.max_def] at q q' hw
   revert q q' hw
   (repeat' split) <;> lia
structure Fre (ps:List Int) (L:Nat→Prop):Prop where
 odd:∀ a b,L a→L b→a<b→(∀ e,a<e→e<b→¬ L e)→(b - a) % 2=1
 up:∀ c d,L c→d<c→(c - d) % 2=0→(∀ e,d≤e→e<c→¬ L e)→wr ps d c=false
 dn:∀ c d,L c→c<d→d+1<ps.length→(d - c) % 2=0→(∀ e,c<e→e≤d→¬ L e)→wr ps d (c+1)=false
theorem Fre.congr {ps:List Int} {L L':Nat→Prop} (F:Fre ps L) (h:∀ c,L c↔L' c):Fre ps L':=by
 have e:L=L':=funext fun c=>propext (h c)
 subst e
 exact F
theorem Fre.none {ps:List Int}:Fre ps (fun _=>False):=⟨fun _ _ h=>h.elim,fun _ _ h=>h.elim,fun _ _ h=>h.elim⟩
theorem Fre.add {ps:List Int} {L L':Nat→Prop} (F:Fre ps L) (sub:∀ c,L c→L' c) (odd:∀ a b,L' a→L' b→a<b→(∀ e,a<e→e<b→¬ L' e)→(b - a) % 2=1)
  (up:∀ c d,L' c→¬ L c→d<c→(c - d) % 2=0→(∀ e,d≤e→e<c→¬ L' e)→wr ps d c=false)
  (dn:∀ c d,L' c→¬ L c→c<d→d+1<ps.length→(d - c) % 2=0→(∀ e,c<e→e≤d→¬ L' e)→wr ps d (c+1)=false):Fre ps L' where
 odd:=odd
 up:=fun c d hc hd hp he=>by
  by_cases q:L c
  ·exact F.up c d q hd hp fun e h1 h2 h3=>he e h1 h2 (sub e h3)
  ·exact up c d hc q hd hp he
 dn:=fun c d hc hd hl hp he=>by
  by_cases q:L c
  ·exact F.dn c d q hd hl hp fun e h1 h2 h3=>he e h1 h2 (sub e h3)
  ·exact dn c d hc q hd hl hp he
theorem Fre.first {ps:List Int} {L:Nat→Prop} (N:NoX ps) (D:Dis ps) (F:Fre ps L) {b j:Nat} (hb:L b) (hbl:b+1<ps.length) (hno:∀ e,e<b→¬ L e) (j2:j<b) (j3:(b - j) % 2=1)
  (j4:∀ d,d<b→(b - d) % 2=1→wid ps d≤wid ps j):Fre ps (fun c=>L c∨c=j):=by
 refine F.add (fun c h=>.inl h) ?_ ?_ ?_
 ·intro x y hx hy hxy he
  have nb:¬ (x<b∧b<y):=fun ⟨h1,h2⟩=>he b h1 h2 (.inl hb)
  rcases hx with hx | rfl <;> rcases hy with hy | rfl
  ·exact F.odd x y hx hy hxy fun e h1 h2 h3=>he e h1 h2 (.inl h3)
  ·exact absurd hx (hno x (by lia))
  ·have:¬ (y<b):=fun z=>hno y z hy
   lia
  ·lia
 ·intro c d hc hn hd hp he
  rcases hc with hc | rfl
  ·exact absurd hc hn
  ·exact (wide_free N D (by lia) (by lia) (by lia) (j4 d (by lia) (by lia))).1
 ·intro c d hc hn hd hl hp he
  have nb:¬ (c<b∧b≤d):=fun ⟨h1,h2⟩=>he b h1 h2 (.inl hb)
  rcases hc with hc | rfl
  ·exact absurd hc hn
  ·exact (wide_free N D (by lia) (by lia) (by lia) (j4 d (by lia) (by lia))).2
theorem Fre.last {ps:List Int} {L:Nat→Prop} (N:NoX ps) (D:Dis ps) (F:Fre ps L) {a j:Nat} (ha:L a) (hno:∀ e,a<e→e+1<ps.length→¬ L e) (hL:∀ c,L c→c+1<ps.length) (j1:a<j) (j2:j+1<ps.length) (j3:(j - a) % 2=1)
  (j4:∀ d,a<d→d+1<ps.length→(d - a) % 2=1→wid ps d≤wid ps j):Fre ps (fun c=>L c∨c=j):=by
 refine F.add (fun c h=>.inl h) ?_ ?_ ?_
 ·intro x y hx hy hxy he
  have na:¬ (x<a∧a<y):=fun ⟨h1,h2⟩=>he a h1 h2 (.inl ha)
  rcases hx with hx | rfl <;> rcases hy with hy | rfl
  ·exact F.odd x y hx hy hxy fun e h1 h2 h3=>he e h1 h2 (.inl h3)
  ·have:¬ (a<x):=fun z=>hno x z (hL x hx) hx
   lia
  ·exact absurd hy (hno y (by lia) (hL y hy))
  ·lia
 ·intro c d hc hn hd hp he
  have na:¬ (d≤a∧a<c):=fun ⟨h1,h2⟩=>he a h1 h2 (.inl ha)
  rcases hc with hc | rfl
  ·exact absurd hc hn
  ·exact (wide_free N D (by lia) (by lia) (by lia) (j4 d (by lia) (by lia) (by lia))).1
 ·intro c d hc hn hd hl hp he
  rcases hc with hc | rfl
  ·exact absurd hc hn
  ·exact (wide_free N D (by lia) (by lia) (by lia) (j4 d (by lia) (by lia) (by lia))).2
theorem Fre.whole {ps:List Int} (N:NoX ps) (D:Dis ps) {j:Nat} (j2:j+1<ps.length) (j3:j % 2=0) (j4:∀ d,d+1<ps.length→d % 2=0→wid ps d≤wid ps j):Fre ps (fun c=>c=j):=by
 refine ⟨fun a b ha hb hab=>by lia,fun c d hc hd hp _=>?_,fun c d hc hd hl hp _=>?_⟩
 ·subst hc
  exact (wide_free N D (by lia) (by lia) (by lia) (j4 d (by lia) (by lia))).1
 ·subst hc
  exact (wide_free N D (by lia) (by lia) (by lia) (j4 d (by lia) (by lia))).2
structure Seg (ps:List Int) (f l:Nat):Prop where
 odd:0<f→l+1<ps.length→(l - f) % 2=0
 lo:0<f→∀ d,f≤d→d<l→(d+1 - f) % 2=0→wr ps d f=false
 hi:l+1<ps.length→∀ d,f≤d→d<l→(l - d) % 2=0→wr ps d l=false
structure Part (n:Nat) (L:Nat→Prop) (f l:Nat):Prop where
 le:f≤l
 lt:l<n
 fst:f=0∨∃ c,L c∧f=c+1
 lst:l+1=n∨L l
 no:∀ e,f≤e→e<l→¬ L e
theorem Fre.seg {ps:List Int} {L:Nat→Prop} (hL:∀ c,L c→c+1<ps.length):Fre ps L↔∀ f l,Part ps.length L f l→Seg ps f l:=by
 constructor
 ·intro F f l P
  refine ⟨fun h1 h2=>?_,fun h1 d d1 d2 d3=>?_,fun h1 d d1 d2 d3=>?_⟩
  ·rcases P.fst with z | ⟨c,hc,rfl⟩
   ·lia
   ·rcases P.lst with z | z
    ·lia
    ·have h:=P.le
     have:=F.odd c l hc z (by lia) fun e e1 e2=>P.no e (by lia) e2
     lia
  ·rcases P.fst with z | ⟨c,hc,rfl⟩
   ·lia
   ·have:=P.lt
    exact F.dn c d hc (by lia) (by lia) (by lia) fun e e1 e2=>P.no e (by lia) (by lia)
  ·rcases P.lst with z | z
   ·lia
   ·exact F.up l d z d2 d3 fun e e1 e2=>P.no e (by lia) e2
 ·intro S
  have low:∀ (c m:Nat),L c→m≤c→(∀ e,m≤e→e<c→¬ L e)→∃ f,f≤m∧Part ps.length L f c:=fun c m hc=>by
   induction m with
   | zero=>exact fun _ he=>⟨0,Nat.le_refl _,⟨by lia,by have:=hL c hc; lia,.inl rfl,.inr hc,he⟩⟩
   | succ m ih =>
    intro hm he
    by_cases q:L m
    ·exact ⟨m+1,Nat.le_refl _,⟨hm,by have:=hL c hc; lia,.inr ⟨m,q,rfl⟩,.inr hc,he⟩⟩
    ·obtain ⟨f,f1,f2⟩:=ih (by lia) fun e e1 e2=>by
      by_cases z:e=m
      ·subst z; exact q
      ·exact he e (by lia) e2
     exact ⟨f,by lia,f2⟩
  have high:∀ (c k m:Nat),L c→m+k+1=ps.length→c<m→(∀ e,c<e→e<m→¬ L e)→∃ l,m≤l∧Part ps.length L (c+1) l:=fun c k=>by
   induction k with
   | zero=>exact fun m hc hm hcm he=>⟨m,Nat.le_refl _,⟨by lia,by lia,.inr ⟨c,hc,rfl⟩,.inl (by lia),fun e e1 e2=>he e (by lia) e2⟩⟩
   | succ k ih =>
    intro m hc hm hcm he
    by_cases q:L m
    ·exact ⟨m,Nat.le_refl _,⟨by lia,by lia,.inr ⟨c,hc,rfl⟩,.inr q,fun e e1 e2=>he e (by lia) e2⟩⟩
    ·obtain ⟨l,l1,l2⟩:=ih (m+1) hc (by lia) (by lia) fun e e1 e2=>by
      by_cases z:e=m
      ·subst z; exact q
      ·exact he e e1 (by lia)
     exact ⟨l,by lia,l2⟩
  refine ⟨fun a b ha hb hab he=>?_,fun c d hc hd hp he=>?_,fun c d hc hd hl hp he=>?_⟩
  ·have:=(S (a+1) b ⟨by lia,by have:=hL b hb; lia,.inr ⟨a,ha,rfl⟩,.inr hb,fun e e1 e2=>he e (by lia) e2⟩).odd (by lia) (hL b hb)
   lia
  ·obtain ⟨f,f1,f2⟩:=low c d hc (by lia) he
   exact (S f c f2).hi (hL c hc) d f1 hd hp
  ·obtain ⟨l,l1,l2⟩:=high c (ps.length - 1 - (d+1)) (d+1) hc (by lia) (by lia) fun e e1 e2=>he e e1 (by lia)
   exact (S (c+1) l l2).lo (by lia) d (by lia) (by lia) (by lia)
end Pl
namespace Pl
open PySem L2
theorem part_only {n:Nat} {L:Nat→Prop} {f l f' l':Nat} (P:Part n L f l) (P':Part n L f' l') (h1:f≤l') (h2:l'≤l):f'=f∧l'=l:=by
 have e:l'=l:=by
  rcases P'.lst with z | z
  ·have:=P.lt; lia
  ·by_cases q:l'=l
   ·exact q
   ·exact absurd z (P.no l' h1 (by lia))
 subst e
 refine ⟨?_,rfl⟩
 rcases Nat.lt_trichotomy f' f with z | z | z
 ·rcases P.fst with y | ⟨c,hc,y⟩
  ·lia
  ·have:=P.le
   exact absurd hc (P'.no c (by lia) (by lia))
 ·exact z
 ·rcases P'.fst with y | ⟨c,hc,y⟩
  ·lia
  ·have:=P'.le
   exact absurd hc (P.no c (by lia) (by lia))
def First (ms:List Int) (i first:Nat):Prop:=(i=0∧first=0)∨∃ j p:Nat,i=j+1∧ms[j]?=some (p:Int)∧first=p+1
structure Srt (n:Nat) (L:Nat→Prop) (ms:List Int):Prop where
 mem:∀ x,x∈ms↔∃ c:Nat,L c∧x=(c:Int)
 inc:ms.Pairwise (·<·)
 bnd:∀ c,L c→c+1<n
theorem Srt.lt {n:Nat} {L:Nat→Prop} {ms:List Int} (S:Srt n L ms) {i j:Nat} {x y:Int} (hi:ms[i]?=some x) (hj:ms[j]?=some y) (h:i<j):x<y:=by
 obtain ⟨l1,e1⟩:=List.getElem?_eq_some_iff.mp hi
 obtain ⟨l2,e2⟩:=List.getElem?_eq_some_iff.mp hj
 rw [← e1,← e2]
 exact List.pairwise_iff_getElem.mp S.inc i j l1 l2 h
theorem Srt.le {n:Nat} {L:Nat→Prop} {ms:List Int} (S:Srt n L ms) {i j:Nat} {x y:Int} (hi:ms[i]?=some x) (hj:ms[j]?=some y) (h:i≤j):x≤y:=by
 by_cases e:i=j
 ·subst e
  rw [hi] at hj
  cases hj
  lia
 ·have:=S.lt hi hj (by lia)
  lia
theorem Srt.at {n:Nat} {L:Nat→Prop} {ms:List Int} (S:Srt n L ms) (hn:1≤n) {i first:Nat} (hi:i≤ms.length) (F:First ms i first) :
  ∃ last:Nat,(ms++[((n:Int) - 1)])[i]?=some (last:Int)∧Part n L first last∧(i<ms.length→First ms (i+1) (last+1)∧last+1<n)∧(i=ms.length→last+1=n):=by
 have hF:first=0∨∃ j p:Nat,i=j+1∧ms[j]?=some (p:Int)∧first=p+1∧L p:=by
  rcases F with ⟨_,z⟩ | ⟨j,p,h1,h2,h3⟩
  ·exact .inl z
  ·obtain ⟨c,hc,e⟩:=(S.mem p).mp (List.mem_of_getElem? h2)
   have e':c=p:=by lia
   subst e'
   exact .inr ⟨j,c,h1,h2,h3,hc⟩
 by_cases hk:i<ms.length
 ·obtain ⟨c,hc,e⟩:=(S.mem _).mp (List.getElem_mem hk)
  have hg:ms[i]?=some (c:Int):=by rw [List.getElem?_eq_getElem hk,e]
  have hb:=S.bnd c hc
  refine ⟨c,by rw [List.getElem?_append_left hk]; exact hg,⟨?_,by lia,?_,.inr hc,fun e h1 h2 he=>?_⟩,fun _=>⟨.inr ⟨i,c,rfl,hg,rfl⟩,hb⟩,fun z=>by lia⟩
  ·rcases hF with z | ⟨j,p,h1,h2,h3,h4⟩
   ·lia
   ·have:=S.lt h2 hg (by lia)
    lia
  ·rcases hF with z | ⟨j,p,h1,h2,h3,h4⟩
   ·exact .inl z
   ·exact .inr ⟨p,h4,h3⟩
  ·obtain ⟨q,hq⟩:=List.getElem?_of_mem ((S.mem (e:Int)).mpr ⟨e,he,rfl⟩)
   by_cases hqi:i≤q
   ·have:=S.le hg hq hqi
    lia
   ·rcases hF with z | ⟨j,p,h3,h4,h5,h6⟩
    ·rcases F with ⟨z1,_⟩ | ⟨j,p,_,_,z2⟩
     ·lia
     ·lia
    ·have:=S.le hq h4 (by lia)
     lia
 ·have ei:i=ms.length:=by lia
  refine ⟨n - 1,?_,⟨?_,by lia,?_,.inl (by lia),fun e h1 h2 he=>?_⟩,fun z=>absurd z hk,fun _=>by lia⟩
  ·rw [List.getElem?_append_right (by lia),ei,Nat.sub_self]
   simp
   lia
  ·rcases hF with z | ⟨j,p,h1,h2,h3,h4⟩
   ·lia
   ·have:=S.bnd p h4
    lia
  ·rcases hF with z | ⟨j,p,h1,h2,h3,h4⟩
   ·exact .inl z
   ·exact .inr ⟨p,h4,h3⟩
  ·obtain ⟨q,hq⟩:=List.getElem?_of_mem ((S.mem (e:Int)).mpr ⟨e,he,rfl⟩)
   have hql:=(List.getElem?_eq_some_iff.mp hq).1
   rcases hF with z | ⟨j,p,h3,h4,h5,h6⟩
   ·rcases F with ⟨z1,_⟩ | ⟨j,p,_,_,z2⟩
    ·lia
    ·lia
   ·have:=S.le hq h4 (by lia)
    lia
def Upto (ps:List Int) (L:Nat→Prop) (first:Nat):Prop:=∀ f l,Part ps.length L f l→l<first→Seg ps f l
theorem Upto.zero {ps:List Int} {L:Nat→Prop}:Upto ps L 0:=fun f l _ h=>by lia
theorem Upto.step {ps:List Int} {L:Nat→Prop} {first last:Nat} (U:Upto ps L first) (P:Part ps.length L first last) (S:Seg ps first last):Upto ps L (last+1):=fun f l Q h=>by
 by_cases z:l<first
 ·exact U f l Q z
 ·obtain ⟨e1,e2⟩:=part_only P Q (by lia) (by lia)
  subst e1 e2
  exact S
theorem Upto.fre {ps:List Int} {L:Nat→Prop} (hL:∀ c,L c→c+1<ps.length) (U:Upto ps L ps.length):Fre ps L:=(Fre.seg hL).mpr fun f l P=>U f l P P.lt
theorem seg_of {ps:List Int} {L:Nat→Prop} (hL:∀ c,L c→c+1<ps.length) (F:Fre ps L) {f l:Nat} (P:Part ps.length L f l):Seg ps f l:=(Fre.seg hL).mp F f l P
theorem srt_of {n:Nat} {cs:List Nat} {ms:List Int} (hp:ms.Perm (cs.map fun (c:Nat)=>(c:Int))) (hs:ms.Pairwise (·≤·)) (nd:cs.Nodup) (hb:∀ c∈cs,c+1<n):Srt n (fun c=>c∈cs) ms:=by
 have ndm:ms.Nodup:=hp.nodup_iff.mpr (List.Pairwise.map _ (fun a b h z=>h (by lia)) nd)
 refine ⟨fun x=>?_,?_,hb⟩
 ·rw [hp.mem_iff,List.mem_map]
  constructor
  ·rintro ⟨c,hc,rfl⟩; exact ⟨c,hc,rfl⟩
  ·rintro ⟨c,hc,rfl⟩; exact ⟨c,hc,rfl⟩
 ·exact List.Pairwise.imp₂ (fun a b (h1:a≤b) (h2:a≠b)=>by lia) hs ndm
end Pl
namespace Pl
open PySem L2
def lc (ps:List Int) (c:Nat):Nat:=if decide (ps.getD c 0<ps.getD (c+1) 0)=decide (c % 2=0) then 86 else 77
end Pl
namespace Pl
open PySem L2
def fstP (ms:List Nat) (j:Nat):Nat:=if j=0 then 0 else ms.getD (j - 1) 0+1
def lstP (n:Nat) (ms:List Nat) (j:Nat):Nat:=if j<ms.length then ms.getD j 0 else n - 1
def endsP (n:Nat) (ms:List Nat):List (Nat×Nat):=(List.range (ms.length+1)).map fun j=>(fstP ms j,lstP n ms j)
theorem endsP_length (n:Nat) (ms:List Nat):(endsP n ms).length=ms.length+1:=by unfold endsP; rw [List.length_map,List.length_range]
theorem endsP_get {n:Nat} {ms:List Nat} {j:Nat} (h:j≤ms.length):(endsP n ms)[j]?=some (fstP ms j,lstP n ms j):=by
 unfold endsP
 rw [List.getElem?_map,List.getElem?_range (by lia)]
 rfl
def likeP (side f l:Nat):List Nat:=((List.range (l - f)).filter fun i=>decide ((f+i) % 2=side % 2)).map fun i=>f+i
theorem mem_likeP {side f l d:Nat}:d∈likeP side f l↔f≤d∧d<l∧d % 2=side % 2:=by
 unfold likeP
 rw [List.mem_map]
 constructor
 ·rintro ⟨i,hi,rfl⟩
  obtain ⟨h1,h2⟩:=List.mem_filter.mp hi
  have:=List.mem_range.mp h1
  have:=of_decide_eq_true h2
  lia
 ·rintro ⟨h1,h2,h3⟩
  exact ⟨d - f,List.mem_filter.mpr ⟨List.mem_range.mpr (by lia),decide_eq_true (by rw [show f+(d - f)=d by lia]; exact h3)⟩,by lia⟩
theorem likeP_length (side f l:Nat):(likeP side f l).length≤l - f:=by
 unfold likeP
 rw [List.length_map]
 refine Nat.le_trans (List.length_filter_le _ _) ?_
 rw [List.length_range]
 exact Nat.le_refl _
theorem inc_get {ms:List Nat} (inc:ms.Pairwise (·<·)) {i j:Nat} (hij:i<j) (hj:j<ms.length):ms.getD i 0<ms.getD j 0:=by
 have:=List.pairwise_iff_getElem.mp inc i j (by lia) hj hij
 simpa [List.getD,hj,show i<ms.length by lia] using this
theorem get_mem {ms:List Nat} {j:Nat} (hj:j<ms.length):ms.getD j 0∈ms:=by
 simp [List.getD,hj]
theorem mem_get {ms:List Nat} {c:Nat} (h:c∈ms):∃ j,j<ms.length∧ms.getD j 0=c:=by
 obtain ⟨j,hj⟩:=List.getElem?_of_mem h
 refine ⟨j,(List.getElem?_eq_some_iff.mp hj).1,?_⟩
 rw [List.getD,hj]
 rfl
theorem inc_below {ms:List Nat} (inc:ms.Pairwise (·<·)) {j e:Nat} (hj:j<ms.length) (he:e∈ms) (lt:e<ms.getD j 0):1≤j∧e≤ms.getD (j - 1) 0:=by
 obtain ⟨i,hi,rfl⟩:=mem_get he
 have hij:i<j:=by
  rcases Nat.lt_trichotomy i j with h | h | h
  ·exact h
  ·subst h; lia
  ·have:=inc_get inc h hi; lia
 refine ⟨by lia,?_⟩
 by_cases h:i=j - 1
 ·rw [h]; exact Nat.le_refl _
 ·exact Nat.le_of_lt (inc_get inc (by lia) (by lia))
theorem inc_above {ms:List Nat} (inc:ms.Pairwise (·<·)) {j e:Nat} (hj:j<ms.length) (he:e∈ms) (lt:ms.getD j 0<e):j+1<ms.length∧ms.getD (j+1) 0≤e:=by
 obtain ⟨i,hi,rfl⟩:=mem_get he
 have hij:j<i:=by
  rcases Nat.lt_trichotomy i j with h | h | h
  ·have:=inc_get inc h hj; lia
  ·subst h; lia
  ·exact h
 refine ⟨by lia,?_⟩
 by_cases h:i=j+1
 ·rw [h]; exact Nat.le_refl _
 ·exact Nat.le_of_lt (inc_get inc (by lia) hi)
structure Looks (ps:List Int) (n:Nat) (ms:List Nat):Prop where
 odd:∀ j,1≤j→j<ms.length→(lstP n ms j - fstP ms j) % 2=0
 up:∀ j,j<ms.length→∀ d∈likeP (ms.getD j 0) (fstP ms j) (ms.getD j 0),wr ps d (ms.getD j 0)=false
 dn:∀ j,j<ms.length→∀ d∈likeP (ms.getD j 0) (ms.getD j 0+1) (lstP n ms (j+1)),wr ps d (ms.getD j 0+1)=false
theorem looks_iff {ps:List Int} {n:Nat} {ms:List Nat} (hl:ps.length=n) (inc:ms.Pairwise (·<·)) (bnd:∀ c∈ms,c+1<n):Looks ps n ms↔Fre ps (fun c=>c∈ms):=by
 constructor
 ·intro k
  refine ⟨fun a b ha hb hab no=>?_,fun c d hc hd hp no=>?_,fun c d hc hd hn hp no=>?_⟩
  ·obtain ⟨j,hj,rfl⟩:=mem_get hb
   obtain ⟨j1,hle⟩:=inc_below inc hj ha hab
   have hlt:=inc_get inc (show j - 1<j by lia) hj
   have ea:a=ms.getD (j - 1) 0:=by
    rcases Nat.lt_or_ge a (ms.getD (j - 1) 0) with h | h
    ·exact absurd (get_mem (show j - 1<ms.length by lia)) (no _ h hlt)
    ·lia
   have:=k.odd j j1 hj
   unfold lstP fstP at this
   rw [if_pos hj,if_neg (by lia)] at this
   lia
  ·obtain ⟨j,hj,rfl⟩:=mem_get hc
   refine k.up j hj d (mem_likeP.mpr ⟨?_,hd,by lia⟩)
   unfold fstP
   split
   ·lia
   ·have hlt:=inc_get inc (show j - 1<j by lia) hj
    rcases Nat.lt_or_ge (ms.getD (j - 1) 0) d with h | h
    ·exact h
    ·exact absurd (get_mem (show j - 1<ms.length by lia)) (no _ h hlt)
  ·obtain ⟨j,hj,rfl⟩:=mem_get hc
   refine k.dn j hj d (mem_likeP.mpr ⟨hd,?_,by lia⟩)
   unfold lstP
   split
   ·rename_i hj2
    have hlt:=inc_get inc (show j<j+1 by lia) hj2
    rcases Nat.lt_or_ge d (ms.getD (j+1) 0) with h | h
    ·exact h
    ·exact absurd (get_mem hj2) (no _ hlt h)
   ·lia
 ·intro F
  refine ⟨fun j j1 hj=>?_,fun j hj d hd=>?_,fun j hj d hd=>?_⟩
  ·have hlt:=inc_get inc (show j - 1<j by lia) hj
   have:=F.odd (ms.getD (j - 1) 0) (ms.getD j 0) (get_mem (by lia)) (get_mem hj) hlt fun e h1 h2 h3=>by
    have:=(inc_below inc hj h3 h2).2
    lia
   unfold lstP fstP
   rw [if_pos hj,if_neg (by lia)]
   lia
  ·obtain ⟨h1,h2,h3⟩:=mem_likeP.mp hd
   refine F.up _ d (get_mem hj) h2 (by lia) fun e e1 e2 e3=>?_
   obtain ⟨j1,hle⟩:=inc_below inc hj e3 e2
   unfold fstP at h1
   rw [if_neg (by lia)] at h1
   lia
  ·obtain ⟨h1,h2,h3⟩:=mem_likeP.mp hd
   have hb:=bnd _ (get_mem hj)
   refine F.dn _ d (get_mem hj) (by lia) ?_ (by lia) fun e e1 e2 e3=>?_
   ·unfold lstP at h2
    split at h2
    ·rename_i hj2
     have:=bnd _ (get_mem hj2)
     lia
    ·lia
   ·obtain ⟨j2,hle⟩:=inc_above inc hj e3 e1
    unfold lstP at h2
    rw [if_pos j2] at h2
    lia
theorem fst_le {n:Nat} {ms:List Nat} (inc:ms.Pairwise (·<·)) (bnd:∀ c∈ms,c+1<n) (h1:1≤n) {j:Nat} (hj:j≤ms.length):fstP ms j≤lstP n ms j∧lstP n ms j<n:=by
 unfold fstP lstP
 split
 ·split
  ·rename_i h
   have:=bnd _ (get_mem h)
   lia
  ·lia
 ·split
  ·rename_i h
   have:=bnd _ (get_mem h)
   have:=inc_get inc (show j - 1<j by lia) h
   lia
  ·have:=bnd _ (get_mem (show j - 1<ms.length by lia))
   lia
end Pl
namespace Sf
open PySem L2 Pl
def top (i:Nat):Stmt:=PySem.Challenge.pw_stripfold_k06_bench_deeds.main.body.getD i (.Pass ⟨0,0,0,0⟩)
abbrev sCheck:Stmt:=top 9
abbrev sPlaces:Stmt:=top 10
abbrev sWraps:Stmt:=top 12
abbrev sCross:Stmt:=top 13
abbrev sCrossing:Stmt:=top 14
abbrev s_foldable_places:Stmt:=top 15
abbrev s_check_creases:Stmt:=top 17
abbrev s_ends_of_parts:Stmt:=top 18
abbrev s_creases_like:Stmt:=top 19
abbrev s_wrapped_within:Stmt:=top 20
abbrev s_inner_parts_odd:Stmt:=top 21
abbrev s_lies_free:Stmt:=top 22
abbrev s_Bench:Stmt:=top 24
abbrev sDrawn:Stmt:=top 26
abbrev sNumber:Stmt:=top 27
abbrev sCounts:Stmt:=top 28
abbrev sSize:Stmt:=top 29
abbrev sLPlaces:Stmt:=top 30
abbrev sFits:Stmt:=top 31
abbrev sGood:Stmt:=top 32
abbrev sLWraps:Stmt:=top 33
abbrev sHeld:Stmt:=top 34
abbrev sLFree:Stmt:=top 35
abbrev s_law_creases:Stmt:=top 36
abbrev s_law_due:Stmt:=top 37
abbrev s_law_word_of:Stmt:=top 38
abbrev s_law_done:Stmt:=top 39
abbrev s_law_behind:Stmt:=top 40
abbrev s_law_row:Stmt:=top 41
abbrev s_law_parts:Stmt:=top 42
abbrev s_law_look:Stmt:=top 43
abbrev sLaw:Stmt:=top 44
end Sf
namespace Sf
open PySem L2 Pl
structure Own (mg:Str→Option Value):Prop where
 len:mg "len"=none
 sorted:mg "sorted"=none
 list:mg "list"=none
 range:mg "range"=none
 enumerate:mg "enumerate"=none
 isinstance:mg "isinstance"=none
 int:mg "int"=none
 str:mg "str"=none
structure Def (K:PySem.W.Frag) (mg:Str→Option Value) (x:Str) (st:Stmt) (ps:List Str) (f:Addr) (fd:FuncData):Prop where
 fn:Fun K x x st f fd
 bd:Binds K fd ps []
 at_:mg x=some (.ref f)
theorem boot_list:bootBuiltins "list"=some (.type "list"):=by decide +kernel
theorem boot_range':bootBuiltins "range"=some (.type "range"):=by decide +kernel
theorem boot_int:bootBuiltins "int"=some (.type "int"):=by decide +kernel
theorem boot_isinstance:bootBuiltins "isinstance"=some (.builtin "isinstance"):=by decide +kernel
theorem same_new {H:Hp} {p:Addr} {o:HO} (h:H p=none):Same H (upd H p o):=fun b u e=>by rw [upd_ne (ne_of_none e h)]; exact e
theorem small_line {n:Nat} (h:n≤1000):n≤sizeLine:=Nat.le_of_lt (small1000 h)
theorem at_int {ps:List Int} {c:Nat} (h:c<ps.length):atI (ps.map V.int) (c:Int)=some (.int (ps.getD c 0)):=by
 refine atI_nat ?_
 rw [List.getElem?_map,List.getElem?_eq_getElem h]
 simp [List.getD,h]
theorem rep0 (n:Nat):(List.replicate n ([V.int 0]:List V)).flatten=(List.replicate n (0:Int)).map V.int:=by
 induction n with
 | zero=>rfl
 | succ n ih =>
  rw [List.replicate_succ,List.flatten_cons,ih,List.replicate_succ,List.map_cons]
  rfl
def spCheck (K:PySem.W.Frag):Sp:=fun vs H Q _=>∃ (p:Addr) (ns:List Int) (n:Nat),vs=[.ref p]∧SqL K H p (ns.map V.int)∧ns.Perm (iota n)∧1≤n∧n≤60∧∀ H',Same H H'→Q .non H'
def spPlaces (K:PySem.W.Frag):Sp:=fun vs H Q _=>∃ (p:Addr) (ns:List Int) (n:Nat),vs=[.ref p]∧SqL K H p (ns.map V.int)∧ns.Perm (iota n)∧1≤n∧n≤60∧∀ l H',Same H H'→H l=none→H' l=some (.lst ((plc ns).map V.int))→Q (.ref l) H'
section
variable {P:Program} {w:World} {K:PySem.W.Frag} {mg:Str→Option Value} {base:Heap}
theorem scCheck:FnScope ["pile"] ["pile"] (defScope sCheck):=⟨rfl,rfl,rfl,by decide +kernel,rfl,by decide +kernel,by decide +kernel⟩
theorem ok_check {f:Addr} {fd:FuncData} (D:Def K mg "check_pile" sCheck ["pile"] f fd) (T:Own mg):FnOk P w K mg base CX0 1 f fd ["pile"] (spCheck K):=by
 refine D.fn.ok scCheck (fun vs H Q E h=>?_) (fun cdv A outer s H vs Q E hr h=>?_)
 ·obtain ⟨p,ns,n,rfl,_⟩:=h
  rfl
 ·obtain ⟨p,ns,n,rfl,hq,hp,h1,h2,k⟩:=h
  have hl:=perm_len hp
  refine ⟨_,pss_one (ps_if (pw_or (pt_cmpR op_eq (pe_callB call_len_seq (by rfl) T.len PySem.boot_len (pa_cons (pv 0) pa_nil)) pe_int (nomark _))
   (pw_or1 (pt_cmpR (op_ne_lst hr.units0) (pe_callB call_sorted (by rfl) T.sorted PyProof.Rows.boot_sorted (pa_cons (pv 0) pa_nil))
    (pe_callTy (call_list_rng rfl) (by rfl) T.list boot_list (pa_cons (pe_callTy call_range1 (by rfl) T.range boot_range' (pa_cons (pe_callB call_len_seq (by rfl) T.len PySem.boot_len (pa_cons (pv 0) pa_nil)) pa_nil)) pa_nil)) (nomark _)))).pt
   pss_never pss_nil),?_⟩
  refine ⟨_,rfl,p,_,rfl,.inl hq,rfl,_,rfl,?_⟩
  rw [List.length_map,hl]
  refine ite2 (fun z=>?_) (fun _=>?_)
  ·exfalso
   have:=of_decide_eq_true z
   injection this with this
   lia
  ·refine ⟨_,rfl,p,ns,rfl,hq,by lia,fun l ms hl1 pm so=>?_⟩
   have e:ms=iota n:=same_sorted (pm.trans hp) so (iota_sorted n)
   subst e
   have s1:=same_new (o:=.lst ((iota n).map V.int)) hl1
   refine ⟨_,rfl,p,_,rfl,.inl (s1.seq hq),_,rfl,fun r hr1=>?_⟩
   have s2:=same_new (o:=.rng 0 ((ns.map V.int).length:Int)) hr1
   rw [List.length_map,hl] at s2 ⊢
   refine ⟨r,0,(n:Int),rfl,upd_same,by lia,by lia,by lia,by lia,by lia,fun l2 hl2=>?_⟩
   have s3:=same_new (o:=.lst (rngV 0 ((n:Int) - 0).toNat)) hl2
   refine ⟨l,l2,_,_,rfl,rfl,SqL.of (s3 _ _ (s2 _ _ upd_same)),SqL.of upd_same,flat_ints _,?_,?_⟩
   ·rw [show ((n:Int) - 0).toNat=n by lia,rngV_iota]; exact flat_ints _
   ·rw [show ((n:Int) - 0).toNat=n by lia,rngV_iota,eqVs_ints]
    refine ⟨_,rfl,?_⟩
    simp only [decide_true,if_true,Bool.not_true]
    refine iteF ?_
    rw [show ((n:Int) - 0).toNat=n by lia,rngV_iota] at s3
    exact k _ (s1.trans (s2.trans s3))
theorem scPlaces:FnScope ["pile","found","place","stamp"] ["pile"] (defScope sPlaces):=⟨rfl,rfl,rfl,by decide +kernel,rfl,by decide +kernel,by decide +kernel⟩
theorem ok_places {f fC:Addr} {fd fdC:FuncData} (D:Def K mg "places" sPlaces ["pile"] f fd) (DC:Def K mg "check_pile" sCheck ["pile"] fC fdC) (T:Own mg):FnOk P w K mg base CX0 2 f fd ["pile"] (spPlaces K):=by
 have GC:FnOk P w K mg base CX0 1 fC fdC ["pile"] (spCheck K):=ok_check DC T
 refine D.fn.ok scPlaces (fun vs H Q E h=>?_) (fun cdv A outer s H vs Q E hr h=>?_)
 ·obtain ⟨p,ns,n,rfl,_⟩:=h
  rfl
 ·obtain ⟨p,ns,n,rfl,hq,hp,h1,h2,k⟩:=h
  have hl:=perm_len hp
  refine ⟨_,pss_cons (ps_expr (pe_call GC hr rfl DC.at_ DC.fn.kp DC.bd .nil pass0 (pa_cons (pv 0) pa_nil)))
   (pss_cons (ps_set (i:=1) scPlaces.nd rfl (Or.inl rfl) (pe_op op_rep (pe_lst (pa_cons pe_int pa_nil)) (pe_callB call_len_seq (by rfl) T.len PySem.boot_len (pa_cons (pv 0) pa_nil))))
   (pss_cons (ps_for PassesOwn.never rfl (pi_enum rfl T.enumerate (pa_cons (pv 0) pa_nil))
     (pg_tup rfl (pgs_cons (pg_name (i:=2) scPlaces.nd rfl (Or.inl rfl)) (pgs_cons (pg_name (i:=3) scPlaces.nd rfl (Or.inl rfl)) pgs_nil)))
     (pss_one (ps_asg (pv 2) (pg_sub (pv 1) (pv 3) set_list))))
   (pss_one (ps_ret (pv 1))))),?_⟩
  refine ⟨_,rfl,p,ns,n,rfl,hq,hp,h1,h2,fun H1 s1=>?_⟩
  refine ⟨small_line (by decide),fun z hz=>⟨_,rfl,p,_,rfl,.inl ((same_new hz).seq (s1.seq hq)),z,_,[.int 0],rfl,rfl,upd_same,?_,?_,?_,fun l hl2=>?_⟩⟩
  ·rw [List.length_map]; lia
  ·rw [List.length_map]; lia
  ·rw [List.length_map,hl]; exact small_line (by simp; lia)
  have s2:Same H _:=s1.trans ((same_new hz).trans (same_new (o:=.lst ((List.replicate n (0:Int)).map V.int)) hl2))
  rw [List.length_map,hl,show ((n:Int)).toNat=n by lia,rep0]
  have hlH:H l=none:=(s1.trans (same_new hz)).free hl2
  refine ⟨_,rfl,p,rfl,⟨_,s2.seq hq⟩,for_enum (K:=K) (a:=p) (xs:=ns.map V.int) (fun i σ H2=>∃ (fs:List Int) (v u:Option V),σ=[some (.ref p),some (.ref l),v,u]∧Same H H2∧H2 l=some (.lst (fs.map V.int))∧Fnd ns i fs)
   ⟨_,none,none,rfl,s2,upd_same,by simp [hl],fun j s hj=>by lia⟩ (fun i σ H2 _ ⟨_,_,_,_,s3,_⟩=>s3.seq hq) ?_ ?_⟩
  ·rintro i y t σ H2 hi ht ⟨fs,v,u,rfl,s3,hf,F⟩
   rw [List.getElem?_map] at hi
   cases e:ns[i]? with
   | none=>rw [e] at hi; cases hi
   | some x =>
    rw [e] at hi
    cases hi
    have hx:=(perm_mem hp).mp (List.mem_of_getElem? e)
    have nt:l≠t:=ne_of_none hf ht
    have hfl:=F.1
    have ht2:(upd H2 t (.tup [.int (i:Nat),.int x])) l=some (.lst (fs.map V.int)):=by rw [upd_ne nt]; exact hf
    refine ⟨t,_,rfl,SqT.of upd_same,rfl,_,_,rfl,_,_,rfl,rfl,_,rfl,_,rfl,_,rfl,l,_,x,x.toNat,rfl,rfl,ht2,?_,?_⟩
    ·rw [List.length_map]
     unfold ixN
     rw [if_pos hx.1,if_pos (by lia)]
    ·refine ⟨fs.set x.toNat (i:Int),_,_,rfl,fun b o eb=>?_,?_,F.step hp e⟩
     ·have nb:b≠l:=ne_of_none eb hlH
      rw [upd_ne nb]
      exact same_new ht b o (s3 b o eb)
     ·rw [upd_same,List.map_set]
  ·rintro σ H2 ⟨fs,v,u,rfl,s3,hf,F⟩
   rw [List.length_map,hl] at F
   have e:=F.eq hp
   subst e
   exact ⟨_,rfl,k l H2 s3 hlH hf⟩
end
end Sf
namespace Sf
open PySem L2 Pl
def spDrawn (K:PySem.W.Frag):Sp:=fun vs H Q _=>∃ (a:Addr) (ns:List Int) (k:Nat),vs=[.ref a,.int (k:Int)]∧SqL K H a (ns.map V.int)∧Q (.int (ns.getD k 0)) H
def spNumber (K:PySem.W.Frag):Sp:=fun vs H Q _=>∃ (a:Addr) (ns:List Int) (k:Nat),vs=[.ref a,.int (k:Int)]∧SqL K H a (ns.map V.int)∧k≤100000∧∀ v H',Same H H'→0≤v→v<2147483647→Q (.int v) H'
def spCounts:Sp:=fun vs H Q _=>∃ i,vs=[.int i]∧Q (.bl true) H
def spSize:Sp:=fun vs H Q _=>∃ c,vs=[.int c]∧∀ (n:Nat) H',Same H H'→1≤n→n≤60→Q (.int (n:Int)) H'
theorem cut_take (xs:List V) {g:Nat} (hg:g≤xs.length):cutV xs none (some (g:Int))=xs.take g:=by
 unfold cutV
 rw [HT.sIx_none,HT.sIx_nat,Nat.min_eq_left hg]
 rfl
theorem cut_drop (xs:List V) {g:Nat} (hg:g≤xs.length):cutV xs (some (g:Int)) none=xs.drop g:=by
 unfold cutV
 rw [HT.sIx_none,HT.sIx_nat,Nat.min_eq_left hg,List.take_of_length_le (by rw [List.length_drop]; lia)]
section
variable {P:Program} {w:World} {K:PySem.W.Frag} {mg:Str→Option Value} {base:Heap}
theorem scDrawn:FnScope ["_law_script","_law_k"] ["_law_script","_law_k"] (defScope sDrawn):=⟨rfl,rfl,rfl,by decide +kernel,rfl,by decide +kernel,by decide +kernel⟩
theorem ok_drawn {f:Addr} {fd:FuncData} (D:Def K mg "_law_drawn" sDrawn ["_law_script","_law_k"] f fd) (T:Own mg):FnOk P w K mg base CX0 1 f fd ["_law_script","_law_k"] (spDrawn K):=by
 refine D.fn.ok scDrawn (fun vs H Q E h=>?_) (fun cdv A outer s H vs Q E hr h=>?_)
 ·obtain ⟨a,ns,k,rfl,_⟩:=h
  rfl
 ·obtain ⟨a,ns,k,rfl,hq,q⟩:=h
  refine ⟨_,pss_one (ps_ret (pe_ifExp (pt_cmpR op_lt (pv 1) (pe_callB call_len_seq (by rfl) T.len PySem.boot_len (pa_cons (pv 0) pa_nil)) (nomark _)) (pe_ix ix_list (pv 0) (pv 1) (fun _ _=>rfl)) pe_int)),?_⟩
  refine ⟨_,rfl,_,rfl,a,_,rfl,.inl hq,_,_,rfl,rfl,_,rfl,?_⟩
  rw [List.length_map]
  refine ite2 (fun z=>?_) (fun z=>?_)
  ·have z':=of_decide_eq_true z
   exact ⟨_,rfl,_,rfl,a,_,_,_,rfl,rfl,hq,at_int (by lia),q⟩
  ·have z':¬ ((k:Int)<ns.length):=fun y=>z (decide_eq_true y)
   have e:ns.getD k 0=0:=by
    rw [List.getD_eq_getElem?_getD,List.getElem?_eq_none (by lia)]
    rfl
   rw [e] at q
   exact q
theorem scNumber:FnScope ["_law_script","_law_k","_law_cell"] ["_law_script","_law_k"] (defScope sNumber):=⟨rfl,rfl,rfl,by decide +kernel,rfl,by decide +kernel,by decide +kernel⟩
theorem ok_number {f:Addr} {fd:FuncData} (D:Def K mg "_law_number" sNumber ["_law_script","_law_k"] f fd) (T:Own mg):FnOk P w K mg base CX0 1 f fd ["_law_script","_law_k"] (spNumber K):=by
 refine D.fn.ok scNumber (fun vs H Q E h=>?_) (fun cdv A outer s H vs Q E hr h=>?_)
 ·obtain ⟨a,ns,k,rfl,_⟩:=h
  rfl
 ·obtain ⟨a,ns,k,rfl,hq,hk,q⟩:=h
  refine ⟨_,pss_cons (ps_set (i:=2) scNumber.nd rfl (Or.inl rfl) (pe_op op_add (pe_op op_mul (pe_op op_mul (pv 1) (pv 1)) pe_int) (pv 1)))
   (pss_cons (ps_if (pt_cmpR op_lt (pv 1) (pe_callB call_len_seq (by rfl) T.len PySem.boot_len (pa_cons (pv 0) pa_nil)) (nomark _))
    (pss_one (ps_set (i:=2) scNumber.nd rfl (Or.inl rfl) (pe_ix ix_list (pv 0) (pv 1) (fun _ _=>rfl))))
    (pss_one (ps_if (pt_cmpR (op_ne_lst hr.units0) (pv 0) (pe_lst pa_nil) (nomark _))
     (pss_one (ps_set (i:=2) scNumber.nd rfl (Or.inl rfl) (pe_op op_add (pv 2) (pe_ix ix_list (pv 0) (pe_op op_mod (pv 1) (pe_callB call_len_seq (by rfl) T.len PySem.boot_len (pa_cons (pv 0) pa_nil))) (fun _ _=>rfl)))))
     pss_nil)))
   (pss_one (ps_ret (pe_op op_mod (pe_op op_mul (pv 2) pe_int) pe_int)))),?_⟩
  have last:∀ (c:Int) H',Same H H'→tRet (tOp (rI (fun _ j=>0<j) fun i j=>V.int (i % j)) (tOp (rI CMul fun i j=>V.int (i * j)) (tVar 2) (tC (.int 48271))) (tC (.int 2147483647))) { nx:=fun _ H'=>Q .non H',rt:=Q } [some (.ref a),some (.int (k:Int)),some (.int c)] H':=fun c H' s' =>
   ⟨_,rfl,_,_,rfl,rfl,.inr ⟨by decide,by decide⟩,_,_,rfl,rfl,(by show (0:Int)<2147483647; decide),q _ H' s' (Int.emod_nonneg _ (by decide)) (Int.emod_lt_of_pos _ (by decide))⟩
  have kb:-(2 ^ 64)<(k:Int)∧(k:Int)<2 ^ 64:=by constructor <;> lia
  have kk:-(2 ^ 64)<(k:Int) * (k:Int)∧(k:Int) * (k:Int)<2 ^ 64:=by
   have h1:(k:Int) * (k:Int)≤100000 * 100000:=Int.mul_le_mul (by lia) (by lia) (by lia) (by lia)
   have h2:0≤(k:Int) * (k:Int):=Int.mul_nonneg (by lia) (by lia)
   constructor <;> lia
  refine ⟨_,rfl,_,rfl,_,_,rfl,rfl,.inl kb,_,_,rfl,rfl,.inl kk,_,rfl,_,_,rfl,rfl,?_⟩
  refine ⟨_,rfl,_,rfl,a,_,rfl,.inl hq,_,_,rfl,rfl,_,rfl,?_⟩
  rw [List.length_map]
  refine ite2 (fun z=>?_) (fun z=>?_)
  ·have z':=of_decide_eq_true z
   exact ⟨_,rfl,_,rfl,a,_,_,_,rfl,rfl,hq,at_int (by lia),last _ H (Same.refl H)⟩
  ·refine ⟨_,rfl,small_line (by decide),fun e he=>⟨a,e,_,_,rfl,rfl,(same_new he).seq hq,SqL.of upd_same,flat_ints _,rfl,_,rfl,?_⟩⟩
   have s1:=same_new (o:=.lst []) he
   refine ite2 (fun y=>?_) (fun y=>?_)
   ·have hne:ns≠[]:=fun z=>by subst z; cases y
    have hpos:0<ns.length:=List.length_pos_iff.mpr hne
    have it:atI (ns.map V.int) ((k:Int) % ((ns.map V.int).length:Int))=some (.int (ns.getD (k % ns.length) 0)):=by
     rw [List.length_map]
     have e:=at_int (ps:=ns) (c:=k % ns.length) (Nat.mod_lt _ hpos)
     rw [Int.natCast_emod] at e
     exact e
    refine ⟨_,rfl,_,rfl,_,rfl,_,rfl,a,_,rfl,.inl (s1.seq hq),_,_,rfl,rfl,?_,a,_,_,_,rfl,rfl,s1.seq hq,it,_,_,rfl,rfl,last _ _ s1⟩
    rw [List.length_map]
    lia
   ·exact last _ _ s1
theorem scCounts:FnScope ["_law_thing"] ["_law_thing"] (defScope sCounts):=⟨rfl,rfl,rfl,by decide +kernel,rfl,by decide +kernel,by decide +kernel⟩
theorem ok_counts {f:Addr} {fd:FuncData} (D:Def K mg "_law_counts" sCounts ["_law_thing"] f fd) (T:Own mg):FnOk P w K mg base CX0 1 f fd ["_law_thing"] spCounts:=by
 refine D.fn.ok scCounts (fun vs H Q E h=>?_) (fun cdv A outer s H vs Q E hr h=>?_)
 ·obtain ⟨i,rfl,_⟩:=h
  rfl
 ·obtain ⟨i,rfl,q⟩:=h
  refine ⟨_,pss_one (ps_ret (pe_and (pe_callB call_isinst (by rfl) T.isinstance boot_isinstance (pa_cons (pv 0) (pa_cons (pe_bltn (by rfl) T.int boot_int (v:=.ty "int") rfl) pa_nil)))
   (pe_and (pe_cmpR op_notB (pv 0) pe_bl (nomark _)) (pe_one (pe_cmpR op_notB (pv 0) pe_bl (nomark _)))))),?_⟩
  refine ⟨_,rfl,_,"int",_,true,rfl,.int i,rfl,true,rfl,iteT ?_⟩
  refine ⟨_,rfl,true,rfl,.inl ⟨i,rfl,true,rfl,iteT ?_⟩⟩
  exact ⟨_,rfl,false,rfl,.inl ⟨i,rfl,q⟩⟩
theorem scSize:FnScope ["_law_cell"] ["_law_cell"] (defScope sSize):=⟨rfl,rfl,rfl,by decide +kernel,rfl,by decide +kernel,by decide +kernel⟩
theorem ok_size {f:Addr} {fd:FuncData} (D:Def K mg "_law_size" sSize ["_law_cell"] f fd):FnOk P w K mg base CX0 1 f fd ["_law_cell"] spSize:=by
 refine D.fn.ok scSize (fun vs H Q E h=>?_) (fun cdv A outer s H vs Q E hr h=>?_)
 ·obtain ⟨i,rfl,_⟩:=h
  rfl
 ·obtain ⟨c,rfl,q⟩:=h
  refine ⟨_,pss_one (ps_ret (pe_op op_add pe_int (pe_op op_mod (pe_op op_fdiv (pv 0) pe_int) (pe_ix ix_list (pe_lst (pa_cons pe_int (pa_cons pe_int (pa_cons pe_int (pa_cons pe_int (pa_cons pe_int (pa_cons pe_int (pa_cons pe_int (pa_cons pe_int pa_nil)))))))))
   (pe_op op_mod (pv 0) pe_int) (fun _ _=>rfl))))),?_⟩
  refine ⟨_,rfl,_,_,rfl,rfl,⟨by decide,by decide⟩,small_line (by decide),fun l hl=>⟨_,rfl,_,_,rfl,rfl,(by show (0:Int)<8; decide),?_⟩⟩
  have h0:=Int.emod_nonneg c (show (8:Int)≠0 by decide)
  have h8:=Int.emod_lt_of_pos c (show (0:Int)<8 by decide)
  have key:∃ m:Int,atI ([V.int 5,.int 9,.int 13,.int 4,.int 9,.int 7,.int 13,.int 30]:List V) (c % 8)=some (.int m)∧0<m∧m≤60:=by
   have:c % 8=0∨c % 8=1∨c % 8=2∨c % 8=3∨c % 8=4∨c % 8=5∨c % 8=6∨c % 8=7:=by lia
   rcases this with h | h | h | h | h | h | h | h <;> rw [h] <;> exact ⟨_,rfl,by decide,by decide⟩
  obtain ⟨m,e,m1,m2⟩:=key
  refine ⟨l,_,_,_,rfl,rfl,SqL.of upd_same,e,_,_,rfl,rfl,m1,_,_,rfl,rfl,?_⟩
  have b0:=Int.emod_nonneg (c / 8) (show m≠0 by lia)
  have b1:=Int.emod_lt_of_pos (c / 8) m1
  have e3:=Int.toNat_of_nonneg (show 0≤1+c / 8 % m by lia)
  show Q (V.int (1+c / 8 % m)) _
  rw [← e3]
  exact q _ _ (same_new hl) (by lia) (by lia)
end
end Sf
namespace Sf
open PySem L2 Pl
theorem boot_min:bootBuiltins "min"=some (.builtin "min"):=by decide +kernel
theorem boot_max:bootBuiltins "max"=some (.builtin "max"):=by decide +kernel
structure OwnM (mg:Str→Option Value):Prop where
 min:mg "min"=none
 max:mg "max"=none
def spWraps (K:PySem.W.Frag):Sp:=fun vs H Q _=>∃ (l:Addr) (ps:List Int) (c s:Nat),vs=[.ref l,.int (c:Int),.int (s:Int)]∧SqL K H l (ps.map V.int)∧c+1<ps.length∧s<ps.length∧Q (.bl (wr ps c s)) H
def spCross (K:PySem.W.Frag):Sp:=fun vs H Q _=>∃ (l:Addr) (ps:List Int) (a b:Nat),vs=[.ref l,.int (a:Int),.int (b:Int)]∧SqL K H l (ps.map V.int)∧a+1<ps.length∧b+1<ps.length∧Q (.bl (cr ps a b)) H
def spCrossing (K:PySem.W.Frag):Sp:=fun vs H Q _=>∃ (p:Addr) (ns:List Int) (n:Nat),vs=[.ref p]∧SqL K H p (ns.map V.int)∧ns.Perm (iota n)∧1≤n∧n≤60 ∧
 (∀ H',Same H H'→NoX (plc ns)→Q .non H')∧∀ (t:Addr) (a b:Nat) H',Same H H'→H t=none→H' t=some (.tup [.int (a:Int),.int (b:Int)])→a+2≤b→b+1<n→(b - a) % 2=0→cr (plc ns) a b=true→Q (.ref t) H'
def spLPlaces (K:PySem.W.Frag):Sp:=fun vs H Q _=>∃ (p:Addr) (ns:List Int) (n:Nat),vs=[.ref p]∧SqL K H p (ns.map V.int)∧ns.Perm (iota n)∧n≤60∧∀ l H',Same H H'→H l=none→H' l=some (.lst ((plc ns).map V.int))→Q (.ref l) H'
section
variable {P:Program} {w:World} {K:PySem.W.Frag} {mg:Str→Option Value} {base:Heap}
theorem scWraps:FnScope ["at","crease","stamp","low","high"] ["at","crease","stamp"] (defScope sWraps):=⟨rfl,rfl,rfl,by decide +kernel,rfl,by decide +kernel,by decide +kernel⟩
theorem ok_wraps {f:Addr} {fd:FuncData} (D:Def K mg "wraps" sWraps ["at","crease","stamp"] f fd) (M:OwnM mg):FnOk P w K mg base CX0 1 f fd ["at","crease","stamp"] (spWraps K):=by
 refine D.fn.ok scWraps (fun vs H Q E h=>?_) (fun cdv A outer s H vs Q E hr h=>?_)
 ·obtain ⟨l,ps,c,s',rfl,_⟩:=h
  rfl
 ·obtain ⟨l,ps,c,s',rfl,hq,h1,h2,k⟩:=h
  refine ⟨_,pss_cons (ps_set (i:=3) scWraps.nd rfl (Or.inl rfl) (pe_callB (call_min2 rfl) (by rfl) M.min boot_min (pa_cons (pe_ix ix_list (pv 0) (pv 1) (fun _ _=>rfl)) (pa_cons (pe_ix ix_list (pv 0) (pe_op op_add (pv 1) pe_int) (fun _ _=>rfl)) pa_nil))))
   (pss_cons (ps_set (i:=4) scWraps.nd rfl (Or.inl rfl) (pe_callB (call_max2 rfl) (by rfl) M.max boot_max (pa_cons (pe_ix ix_list (pv 0) (pv 1) (fun _ _=>rfl)) (pa_cons (pe_ix ix_list (pv 0) (pe_op op_add (pv 1) pe_int) (fun _ _=>rfl)) pa_nil))))
   (pss_one (ps_ret (pe_and (pe_cmpR op_lt (pv 3) (pe_ix ix_list (pv 0) (pv 2) (fun _ _=>rfl)) (nomark _)) (pe_one (pe_cmpR op_lt (pe_ix ix_list (pv 0) (pv 2) (fun _ _=>rfl)) (pv 4) (nomark _))))))),?_⟩
  have e0:=at_int (ps:=ps) (c:=c) (by lia)
  have e1:=at_int (ps:=ps) (c:=c+1) h1
  have e2:=at_int (ps:=ps) (c:=s') h2
  refine ⟨_,rfl,_,rfl,l,_,_,_,rfl,rfl,hq,e0,_,rfl,_,rfl,_,_,rfl,rfl,l,_,_,_,rfl,rfl,hq,e1,_,_,rfl,?_⟩
  rw [min_if]
  refine ⟨_,rfl,_,rfl,l,_,_,_,rfl,rfl,hq,e0,_,rfl,_,rfl,_,_,rfl,rfl,l,_,_,_,rfl,rfl,hq,e1,_,_,rfl,?_⟩
  rw [max_if]
  unfold wr at k
  refine ⟨_,rfl,_,rfl,_,rfl,l,_,_,_,rfl,rfl,hq,e2,_,_,rfl,rfl,_,rfl,?_⟩
  refine ite2 (fun z=>?_) (fun z=>?_)
  ·rw [z,Bool.true_and] at k
   exact ⟨_,rfl,_,rfl,l,_,_,_,rfl,rfl,hq,e2,_,rfl,_,_,rfl,rfl,k⟩
  ·rw [Bool.eq_false_iff.mpr z,Bool.false_and] at k
   exact k
theorem scCross:FnScope ["at","one","other"] ["at","one","other"] (defScope sCross):=⟨rfl,rfl,rfl,by decide +kernel,rfl,by decide +kernel,by decide +kernel⟩
theorem ok_cross {f fW:Addr} {fd fdW:FuncData} (D:Def K mg "cross" sCross ["at","one","other"] f fd) (DW:Def K mg "wraps" sWraps ["at","crease","stamp"] fW fdW) (M:OwnM mg):FnOk P w K mg base CX0 2 f fd ["at","one","other"] (spCross K):=by
 have GW:FnOk P w K mg base CX0 1 fW fdW ["at","crease","stamp"] (spWraps K):=ok_wraps DW M
 refine D.fn.ok scCross (fun vs H Q E h=>?_) (fun cdv A outer s H vs Q E hr h=>?_)
 ·obtain ⟨l,ps,a,b,rfl,_⟩:=h
  rfl
 ·obtain ⟨l,ps,a,b,rfl,hq,h1,h2,k⟩:=h
  refine ⟨_,pss_one (ps_ret (pe_cmpR op_ne (pe_call GW hr rfl DW.at_ DW.fn.kp DW.bd .nil pass0 (pa_cons (pv 0) (pa_cons (pv 1) (pa_cons (pv 2) pa_nil))))
   (pe_call GW hr rfl DW.at_ DW.fn.kp DW.bd .nil pass0 (pa_cons (pv 0) (pa_cons (pv 1) (pa_cons (pe_op op_add (pv 2) pe_int) pa_nil)))) (nomark _))),?_⟩
  refine ⟨_,rfl,_,rfl,_,rfl,l,ps,a,b,rfl,hq,h1,by lia,_,rfl,_,rfl,_,rfl,_,_,rfl,rfl,l,ps,a,b+1,rfl,hq,h1,h2,rfl,?_⟩
  rw [dec_bl]
  exact k
theorem scCrossing:FnScope ["pile","at","creases","one","other"] ["pile"] (defScope sCrossing):=⟨rfl,rfl,rfl,by decide +kernel,rfl,by decide +kernel,by decide +kernel⟩
theorem ok_crossing {f fC fP fW fX:Addr} {fd fdC fdP fdW fdX:FuncData} (D:Def K mg "crossing" sCrossing ["pile"] f fd) (DP:Def K mg "places" sPlaces ["pile"] fP fdP) (DC:Def K mg "check_pile" sCheck ["pile"] fC fdC)
  (DX:Def K mg "cross" sCross ["at","one","other"] fX fdX) (DW:Def K mg "wraps" sWraps ["at","crease","stamp"] fW fdW) (T:Own mg) (M:OwnM mg):FnOk P w K mg base CX0 3 f fd ["pile"] (spCrossing K):=by
 have GP:FnOk P w K mg base CX0 2 fP fdP ["pile"] (spPlaces K):=ok_places DP DC T
 have GX:FnOk P w K mg base CX0 2 fX fdX ["at","one","other"] (spCross K):=ok_cross DX DW M
 refine D.fn.ok scCrossing (fun vs H Q E h=>?_) (fun cdv A outer s H vs Q E hr h=>?_)
 ·obtain ⟨p,ns,n,rfl,_⟩:=h
  rfl
 ·obtain ⟨p,ns,n,rfl,hq,hp,h1,h2,kN,kT⟩:=h
  have hl:=perm_len hp
  have pl:=plc_length ns
  refine ⟨_,pss_cons (ps_set (i:=1) scCrossing.nd rfl (Or.inl rfl) (pe_call GP hr rfl DP.at_ DP.fn.kp DP.bd .nil pass0 (pa_cons (pv 0) pa_nil)))
   (pss_cons (ps_set (i:=2) scCrossing.nd rfl (Or.inl rfl) (pe_op op_sub (pe_callB call_len_seq (by rfl) T.len PySem.boot_len (pa_cons (pv 1) pa_nil)) pe_int))
   (pss_cons (ps_for PassesOwn.never rfl (pi_range1 rfl T.range (pa_cons (pv 2) pa_nil)) (pg_name (i:=3) scCrossing.nd rfl (Or.inl rfl))
    (pss_one (ps_for PassesOwn.never rfl (pi_range3 rfl T.range (pa_cons (pe_op op_add (pv 3) pe_int) (pa_cons (pv 2) (pa_cons pe_int pa_nil)))) (pg_name (i:=4) scCrossing.nd rfl (Or.inl rfl))
     (pss_one (ps_if (pt_val (pe_call GX hr (by rfl) DX.at_ DX.fn.kp DX.bd .nil pass0 (pa_cons (pv 1) (pa_cons (pv 3) (pa_cons (pv 4) pa_nil))))) (pss_one (ps_ret (pe_tup (pa_cons (pv 3) (pa_cons (pv 4) pa_nil))))) pss_nil)))))
   (pss_one (ps_ret pe_non)))),?_⟩
  refine ⟨_,rfl,p,ns,n,rfl,hq,hp,h1,h2,fun la H1 s1 hla0 hla=>?_⟩
  refine ⟨_,rfl,la,_,rfl,.inl (SqL.of hla),_,_,rfl,rfl,?_⟩
  rw [List.length_map,pl,hl]
  refine ⟨_,rfl,_,rfl,by lia,by lia,for_range (lo:=0) (n:=((n:Int) - 1).toNat) (fun i σ H2=>∃ (v u:Option V),σ=[some (.ref p),some (.ref la),some (.int ((n:Int) - 1)),v,u]∧Same H1 H2 ∧
    ∀ a b:Nat,a<i→a+2≤b→b+1<n→(b - a) % 2=0→cr (plc ns) a b=false) ⟨none,none,rfl,Same.refl _,fun a b ha=>by lia⟩ ?_ ?_⟩
  ·rintro i σ H2 hi ⟨v,u,rfl,s2,hno⟩
   refine ⟨_,rfl,_,_,rfl,rfl,_,rfl,_,_,rfl,⟨by lia,by lia,by lia,by lia⟩,for_step (lo:=0+(i:Int)+2) (c:=2) (n:=half2 (0+(i:Int)+2) ((n:Int) - 1)) (fun j σ H3=>∃ (u:Option V),σ=[some (.ref p),some (.ref la),some (.int ((n:Int) - 1)),some (.int (0+(i:Int))),u]∧Same H1 H3 ∧
    ∀ t:Nat,t<j→cr (plc ns) i (i+2+2 * t)=false) ⟨_,rfl,s2,fun t ht=>by lia⟩ ?_ ?_⟩
   ·rintro j σ H3 hj ⟨u,rfl,s3,hj2⟩
    have hj':i+2+2 * j+1<n:=by unfold half2 at hj; lia
    refine ⟨_,rfl,_,rfl,_,rfl,la,plc ns,i,i+2+2 * j,?_,SqL.of (s3 _ _ hla),by lia,by lia,_,rfl,?_⟩
    ·have e:(0+(i:Int)+2+(j:Nat) * 2)=((i+2+2 * j:Nat):Int):=by lia
     rw [e]
     simp
    refine ite2 (fun z=>?_) (fun z=>?_)
    ·refine ⟨_,rfl,_,rfl,small_line (by show 2≤1000; decide),fun t ht=>?_⟩
     have s3':=s1.trans s3
     refine kT t i (i+2+2 * j) _ (s3'.trans (same_new ht)) (s3'.free ht) ?_ (by lia) hj' (by lia) z
     have e:(0+(i:Int)+2+(j:Nat) * 2)=((i+2+2 * j:Nat):Int):=by lia
     rw [upd_same,e]
     simp
    ·refine ⟨_,rfl,s3,fun t ht=>?_⟩
     by_cases e:t=j
     ·rw [e]; exact Bool.eq_false_iff.mpr z
     ·exact hj2 t (by lia)
   ·rintro σ H3 ⟨u,rfl,s3,hj2⟩
    refine ⟨_,_,rfl,s3,fun a b ha hab hb hpar=>?_⟩
    by_cases e:a=i
    ·subst e
     have:=hj2 ((b - a - 2) / 2) (by unfold half2; lia)
     rw [show a+2+2 * ((b - a - 2) / 2)=b by lia] at this
     exact this
    ·exact hno a b (by lia) hab hb hpar
  ·rintro σ H2 ⟨v,u,rfl,s2,hno⟩
   exact kN H2 (s1.trans s2) fun a b hab hb hpar=>hno a b (by rw [pl,hl] at hb; lia) hab (by rw [pl,hl] at hb; exact hb) hpar
end
end Sf
namespace Sf
open PySem L2 Pl
abbrev Fit:=@FitG
theorem nox_one:NoX (plc [0]):=fun a b hab hb=>by have e:(plc [0]).length=1:=rfl; lia
def spFits (K:PySem.W.Frag):Sp:=fun vs H Q _=>∃ (l:Addr) (ps:List Int) (st g:Nat),vs=[.ref l,.int (st:Int),.int (g:Int)]∧SqL K H l (ps.map V.int)∧ps.length=st∧1≤st∧st≤60∧∀ b:Bool,(b=true↔Fit ps st g)→Q (.bl b) H
def spGood (K:PySem.W.Frag):Sp:=fun vs H Q _=>∃ (a:Addr) (ns:List Int) (st n:Nat),vs=[.ref a,.int (st:Int),.int (n:Int)]∧SqL K H a (ns.map V.int)∧st≤1000∧1≤n∧n≤60 ∧
 ∀ (l:Addr) (ms:List Int) H',Same H H'→H l=none→ms.Perm (iota n)→NoX (plc ms)→H' l=some (.lst (ms.map V.int))→Q (.ref l) H'
def forBody (s:Stmt):List Stmt:=match s with
 | .For _ _ b _ _=>b
 | _=>[]
section
variable {P:Program} {w:World} {K:PySem.W.Frag} {mg:Str→Option Value} {base:Heap}
theorem scLWraps:FnScope ["_law_at","_law_crease","_law_stamp","_law_low","_law_high"] ["_law_at","_law_crease","_law_stamp"] (defScope sLWraps):=⟨rfl,rfl,rfl,by decide +kernel,rfl,by decide +kernel,by decide +kernel⟩
theorem ok_lwraps {f:Addr} {fd:FuncData} (D:Def K mg "_law_wraps" sLWraps ["_law_at","_law_crease","_law_stamp"] f fd) (M:OwnM mg):FnOk P w K mg base CX0 1 f fd ["_law_at","_law_crease","_law_stamp"] (spWraps K):=by
 refine D.fn.ok scLWraps (fun vs H Q E h=>?_) (fun cdv A outer s H vs Q E hr h=>?_)
 ·obtain ⟨l,ps,c,s',rfl,_⟩:=h
  rfl
 ·obtain ⟨l,ps,c,s',rfl,hq,h1,h2,k⟩:=h
  refine ⟨_,pss_cons (ps_set (i:=3) scLWraps.nd rfl (Or.inl rfl) (pe_callB (call_min2 rfl) (by rfl) M.min boot_min (pa_cons (pe_ix ix_list (pv 0) (pv 1) (fun _ _=>rfl)) (pa_cons (pe_ix ix_list (pv 0) (pe_op op_add (pv 1) pe_int) (fun _ _=>rfl)) pa_nil))))
   (pss_cons (ps_set (i:=4) scLWraps.nd rfl (Or.inl rfl) (pe_callB (call_max2 rfl) (by rfl) M.max boot_max (pa_cons (pe_ix ix_list (pv 0) (pv 1) (fun _ _=>rfl)) (pa_cons (pe_ix ix_list (pv 0) (pe_op op_add (pv 1) pe_int) (fun _ _=>rfl)) pa_nil))))
   (pss_one (ps_ret (pe_and (pe_cmpR op_lt (pv 3) (pe_ix ix_list (pv 0) (pv 2) (fun _ _=>rfl)) (nomark _)) (pe_one (pe_cmpR op_lt (pe_ix ix_list (pv 0) (pv 2) (fun _ _=>rfl)) (pv 4) (nomark _))))))),?_⟩
  have e0:=at_int (ps:=ps) (c:=c) (by lia)
  have e1:=at_int (ps:=ps) (c:=c+1) h1
  have e2:=at_int (ps:=ps) (c:=s') h2
  refine ⟨_,rfl,_,rfl,l,_,_,_,rfl,rfl,hq,e0,_,rfl,_,rfl,_,_,rfl,rfl,l,_,_,_,rfl,rfl,hq,e1,_,_,rfl,?_⟩
  rw [min_if]
  refine ⟨_,rfl,_,rfl,l,_,_,_,rfl,rfl,hq,e0,_,rfl,_,rfl,_,_,rfl,rfl,l,_,_,_,rfl,rfl,hq,e1,_,_,rfl,?_⟩
  rw [max_if]
  unfold wr at k
  refine ⟨_,rfl,_,rfl,_,rfl,l,_,_,_,rfl,rfl,hq,e2,_,_,rfl,rfl,_,rfl,?_⟩
  refine ite2 (fun z=>?_) (fun z=>?_)
  ·rw [z,Bool.true_and] at k
   exact ⟨_,rfl,_,rfl,l,_,_,_,rfl,rfl,hq,e2,_,rfl,_,_,rfl,rfl,k⟩
  ·rw [Bool.eq_false_iff.mpr z,Bool.false_and] at k
   exact k
theorem scLPlaces:FnScope ["_law_pile","_law_at","_law_k"] ["_law_pile"] (defScope sLPlaces):=⟨rfl,rfl,rfl,by decide +kernel,rfl,by decide +kernel,by decide +kernel⟩
theorem ok_lplaces {f:Addr} {fd:FuncData} (D:Def K mg "_law_places" sLPlaces ["_law_pile"] f fd) (T:Own mg):FnOk P w K mg base CX0 1 f fd ["_law_pile"] (spLPlaces K):=by
 refine D.fn.ok scLPlaces (fun vs H Q E h=>?_) (fun cdv A outer s H vs Q E hr h=>?_)
 ·obtain ⟨p,ns,n,rfl,_⟩:=h
  rfl
 ·obtain ⟨p,ns,n,rfl,hq,hp,h2,k⟩:=h
  have hl:=perm_len hp
  refine ⟨_,pss_cons (ps_set (i:=1) scLPlaces.nd rfl (Or.inl rfl) (pe_op op_rep (pe_lst (pa_cons pe_int pa_nil)) (pe_callB call_len_seq (by rfl) T.len PySem.boot_len (pa_cons (pv 0) pa_nil))))
   (pss_cons (ps_for PassesOwn.never rfl (pi_range1 rfl T.range (pa_cons (pe_callB call_len_seq (by rfl) T.len PySem.boot_len (pa_cons (pv 0) pa_nil)) pa_nil)) (pg_name (i:=2) scLPlaces.nd rfl (Or.inl rfl))
     (pss_one (ps_asg (pv 2) (pg_sub (pv 1) (pe_ix ix_list (pv 0) (pv 2) (fun _ _=>rfl)) set_list))))
   (pss_one (ps_ret (pv 1)))),?_⟩
  refine ⟨small_line (by decide),fun z hz=>⟨_,rfl,p,_,rfl,.inl ((same_new hz).seq hq),z,_,[.int 0],rfl,rfl,upd_same,?_,?_,?_,fun l hl2=>?_⟩⟩
  ·rw [List.length_map]; lia
  ·rw [List.length_map]; lia
  ·rw [List.length_map,hl]; exact small_line (by simp; lia)
  have s2:Same H _:=(same_new hz).trans (same_new (o:=.lst ((List.replicate n (0:Int)).map V.int)) hl2)
  rw [List.length_map,hl,show ((n:Int)).toNat=n by lia,rep0]
  have hlH:H l=none:=(same_new hz).free hl2
  refine ⟨_,rfl,p,_,rfl,.inl (s2.seq hq),_,rfl,?_,?_,?_⟩
  ·rw [List.length_map]; lia
  ·rw [List.length_map]; lia
  refine for_range (lo:=0) (n:=(((ns.map V.int).length:Nat):Int).toNat) (fun i σ H2=>∃ (fs:List Int) (v:Option V),σ=[some (.ref p),some (.ref l),v]∧Same H H2∧H2 l=some (.lst (fs.map V.int))∧Fnd ns i fs)
   ⟨_,none,rfl,s2,upd_same,by simp [hl],fun j s hj=>by lia⟩ ?_ ?_
  ·rintro i σ H2 hi ⟨fs,v,rfl,s3,hf,F⟩
   rw [List.length_map,hl] at hi
   obtain ⟨x,e⟩:∃ x,ns[i]?=some x:=⟨_,List.getElem?_eq_getElem (show i<ns.length by lia)⟩
   have hx:=(perm_mem hp).mp (List.mem_of_getElem? e)
   have hfl:=F.1
   have ge:atI (ns.map V.int) (0+(i:Int))=some (.int x):=by
    rw [Int.zero_add]
    exact atI_nat (by rw [List.getElem?_map,e]; rfl)
   refine ⟨_,rfl,_,rfl,_,rfl,_,rfl,p,_,_,_,rfl,rfl,s3.seq hq,ge,l,_,x,x.toNat,rfl,rfl,hf,?_,?_⟩
   ·rw [List.length_map]
    unfold ixN
    rw [if_pos hx.1,if_pos (by lia)]
   ·refine ⟨fs.set x.toNat (i:Int),_,rfl,fun b o eb=>?_,?_,F.step hp e⟩
    ·rw [upd_ne (ne_of_none eb hlH)]
     exact s3 b o eb
    ·rw [upd_same,List.map_set,Int.zero_add]
  ·rintro σ H2 ⟨fs,v,rfl,s3,hf,F⟩
   rw [List.length_map,hl,show ((n:Int)).toNat=n by lia] at F
   have e:=F.eq hp
   subst e
   exact ⟨_,rfl,k l H2 s3 hlH hf⟩
theorem scFits:FnScope ["_law_at","_law_stamp","_law_gap","_law_crease","_law_low","_law_high"] ["_law_at","_law_stamp","_law_gap"] (defScope sFits):=⟨rfl,rfl,rfl,by decide +kernel,rfl,by decide +kernel,by decide +kernel⟩
theorem ok_fits {f:Addr} {fd:FuncData} (D:Def K mg "_law_fits" sFits ["_law_at","_law_stamp","_law_gap"] f fd) (T:Own mg) (M:OwnM mg):FnOk P w K mg base CX0 1 f fd ["_law_at","_law_stamp","_law_gap"] (spFits K):=by
 refine D.fn.ok scFits (fun vs H Q E h=>?_) (fun cdv A outer s H vs Q E hr h=>?_)
 ·obtain ⟨l,ps,st,g,rfl,_⟩:=h
  rfl
 ·obtain ⟨l,ps,st,g,rfl,hq,hl,h1,h2,k⟩:=h
  refine ⟨_,pss_cons (ps_for PassesOwn.never rfl (pi_range3 rfl T.range (pa_cons (pe_op op_mod (pe_op op_add (pv 1) pe_int) pe_int) (pa_cons (pe_op op_sub (pv 1) pe_int) (pa_cons pe_int pa_nil)))) (pg_name (i:=3) scFits.nd rfl (Or.inl rfl))
    (pss_cons (ps_set (i:=4) scFits.nd rfl (Or.inl rfl) (pe_callB (call_min2 rfl) (by rfl) M.min boot_min (pa_cons (pe_ix ix_list (pv 0) (pv 3) (fun _ _=>rfl)) (pa_cons (pe_ix ix_list (pv 0) (pe_op op_add (pv 3) pe_int) (fun _ _=>rfl)) pa_nil))))
    (pss_cons (ps_set (i:=5) scFits.nd rfl (Or.inl rfl) (pe_callB (call_max2 rfl) (by rfl) M.max boot_max (pa_cons (pe_ix ix_list (pv 0) (pv 3) (fun _ _=>rfl)) (pa_cons (pe_ix ix_list (pv 0) (pe_op op_add (pv 3) pe_int) (fun _ _=>rfl)) pa_nil))))
    (pss_one (ps_if (pt_cmpR op_ne
      (pe_and (pe_cmpR op_lt (pv 4) (pe_ix ix_list (pv 0) (pe_op op_sub (pv 1) pe_int) (fun _ _=>rfl)) (nomark _)) (pe_one (pe_cmpR op_lt (pe_ix ix_list (pv 0) (pe_op op_sub (pv 1) pe_int) (fun _ _=>rfl)) (pv 5) (nomark _))))
      (pe_and (pe_cmpR op_lt (pv 4) (pv 2) (nomark _)) (pe_one (pe_cmpR op_le (pv 2) (pv 5) (nomark _)))) (nomark _)) (pss_one (ps_ret pe_bl)) pss_nil)))))
   (pss_one (ps_ret pe_bl)),?_⟩
  have m0:=Int.emod_nonneg ((st:Int)+1) (show (2:Int)≠0 by decide)
  have m1:=Int.emod_lt_of_pos ((st:Int)+1) (show (0:Int)<2 by decide)
  obtain ⟨m,hm⟩:∃ m:Nat,((st:Int)+1) % 2=(m:Int):=⟨(((st:Int)+1) % 2).toNat,by lia⟩
  refine ⟨_,rfl,_,_,rfl,rfl,_,_,rfl,rfl,(by show (0:Int)<2; decide),_,rfl,_,_,rfl,rfl,?_⟩
  show ∃ i j:Int,[V.int (((st:Int)+1) % 2),V.int ((st:Int) - 1),V.int 2]=[.int i,.int j,.int 2]∧_
  rw [hm]
  refine ⟨_,_,rfl,⟨by lia,by lia,by lia,by lia⟩,for_step (lo:=(m:Int)) (c:=2) (n:=half2 (m:Int) ((st:Int) - 1)) (fun j σ H2=>∃ (u v w':Option V),σ=[some (.ref l),some (.int (st:Int)),some (.int (g:Int)),u,v,w']∧H2=H ∧
    ∀ t:Nat,t<j→wr ps (m+2 * t) (st - 1)=(decide (min (ps.getD (m+2 * t) 0) (ps.getD (m+2 * t+1) 0)<(g:Int)) && decide ((g:Int)≤max (ps.getD (m+2 * t) 0) (ps.getD (m+2 * t+1) 0))))
   ⟨_,_,_,rfl,rfl,fun t ht=>by lia⟩ ?_ ?_⟩
  ·rintro j σ H2 hj ⟨u,v,w',rfl,rfl,hj2⟩
   have hj':m+2 * j+1<st:=by unfold half2 at hj; lia
   have ec:((m:Int)+(j:Nat) * 2)=((m+2 * j:Nat):Int):=by lia
   rw [ec]
   have e0:=at_int (ps:=ps) (c:=m+2 * j) (by lia)
   have e1:atI (ps.map V.int) (((m+2 * j:Nat):Int)+1)=some (.int (ps.getD (m+2 * j+1) 0)):=at_int (c:=m+2 * j+1) (by lia)
   have e2:atI (ps.map V.int) ((st:Int) - 1)=some (.int (ps.getD (st - 1) 0)):=by
    have:=at_int (ps:=ps) (c:=st - 1) (by lia)
    rw [show ((st - 1:Nat):Int)=(st:Int) - 1 by lia] at this
    exact this
   refine ⟨_,rfl,_,rfl,l,_,_,_,rfl,rfl,hq,e0,_,rfl,_,rfl,_,_,rfl,rfl,l,_,_,_,rfl,rfl,hq,e1,_,_,rfl,?_⟩
   rw [min_if]
   refine ⟨_,rfl,_,rfl,l,_,_,_,rfl,rfl,hq,e0,_,rfl,_,rfl,_,_,rfl,rfl,l,_,_,_,rfl,rfl,hq,e1,_,_,rfl,?_⟩
   rw [max_if]
   have fin:∀ x y:Bool,x=wr ps (m+2 * j) (st - 1)→y=(decide (min (ps.getD (m+2 * j) 0) (ps.getD (m+2 * j+1) 0)<(g:Int)) && decide ((g:Int)≤max (ps.getD (m+2 * j) 0) (ps.getD (m+2 * j+1) 0))) →
     if (!decide (V.bl x=V.bl y))=true then Q (.bl false) H2 else ∃ (u v w':Option V),([some (V.ref l),some (.int (st:Int)),some (.int (g:Int)),some (.int ((m+2 * j:Nat):Int)),some (.int (min (ps.getD (m+2 * j) 0) (ps.getD (m+2 * j+1) 0))),some (.int (max (ps.getD (m+2 * j) 0) (ps.getD (m+2 * j+1) 0)))]:St)=[some (.ref l),some (.int (st:Int)),some (.int (g:Int)),u,v,w']∧H2=H2 ∧
      ∀ t:Nat,t<j+1→wr ps (m+2 * t) (st - 1)=(decide (min (ps.getD (m+2 * t) 0) (ps.getD (m+2 * t+1) 0)<(g:Int)) && decide ((g:Int)≤max (ps.getD (m+2 * t) 0) (ps.getD (m+2 * t+1) 0))):=fun x y ex ey=>by
    by_cases e:x=y
    ·refine iteNS (by rw [e]) ⟨_,_,_,rfl,rfl,fun t ht=>?_⟩
     by_cases et:t=j
     ·subst et
      rw [← ex,← ey]
      exact e
     ·exact hj2 t (by lia)
    ·rw [decide_eq_false (fun z=>e (by injection z))]
     refine iteT (k false ⟨fun z=>(by cases z),fun F=>?_⟩)
     exact absurd (ex.trans ((F (m+2 * j) hj' (by lia)).trans ey.symm)) e
   have yy:∀ x:Bool,x=wr ps (m+2 * j) (st - 1)→tAndV (tOp (rI0 fun i j=>V.bl (decide (i<j))) (tVar 4) (tVar 2)) (tOp (rI0 fun i j=>V.bl (decide (i≤j))) (tVar 2) (tVar 5))
     [some (V.ref l),some (.int (st:Int)),some (.int (g:Int)),some (.int ((m+2 * j:Nat):Int)),some (.int (min (ps.getD (m+2 * j) 0) (ps.getD (m+2 * j+1) 0))),some (.int (max (ps.getD (m+2 * j) 0) (ps.getD (m+2 * j+1) 0)))] H2
     (fun y H3=>rNe (.bl x) y H3 fun z H4=>∃ b,z=.bl b∧if b=true then Q (.bl false) H4 else ∃ (u v w':Option V),([some (V.ref l),some (.int (st:Int)),some (.int (g:Int)),some (.int ((m+2 * j:Nat):Int)),some (.int (min (ps.getD (m+2 * j) 0) (ps.getD (m+2 * j+1) 0))),some (.int (max (ps.getD (m+2 * j) 0) (ps.getD (m+2 * j+1) 0)))]:St)=[some (.ref l),some (.int (st:Int)),some (.int (g:Int)),u,v,w']∧H4=H2 ∧
      ∀ t:Nat,t<j+1→wr ps (m+2 * t) (st - 1)=(decide (min (ps.getD (m+2 * t) 0) (ps.getD (m+2 * t+1) 0)<(g:Int)) && decide ((g:Int)≤max (ps.getD (m+2 * t) 0) (ps.getD (m+2 * t+1) 0)))):=fun x ex=>by
    refine ⟨_,rfl,_,rfl,_,_,rfl,rfl,_,rfl,?_⟩
    refine ite2 (fun z=>?_) (fun z=>?_)
    ·refine ⟨_,rfl,_,rfl,_,_,rfl,rfl,rfl,_,rfl,fin x _ ex ?_⟩
     rw [z,Bool.true_and]
    ·refine ⟨rfl,_,rfl,fin x _ ex ?_⟩
     rw [Bool.eq_false_iff.mpr z,Bool.false_and]
   refine ⟨_,rfl,_,rfl,_,rfl,_,_,rfl,rfl,l,_,_,_,rfl,rfl,hq,e2,_,_,rfl,rfl,_,rfl,?_⟩
   refine ite2 (fun z=>?_) (fun z=>?_)
   ·refine ⟨_,rfl,_,rfl,_,_,rfl,rfl,l,_,_,_,rfl,rfl,hq,e2,_,rfl,_,_,rfl,rfl,yy _ ?_⟩
    unfold wr
    rw [z,Bool.true_and]
   ·refine yy _ ?_
    unfold wr
    rw [Bool.eq_false_iff.mpr z,Bool.false_and]
  ·rintro σ H2 ⟨u,v,w',rfl,rfl,hj2⟩
   refine k true ⟨fun _ c hc hpar=>?_,fun _=>rfl⟩
   have:=hj2 ((c - m) / 2) (by unfold half2; lia)
   rw [show m+2 * ((c - m) / 2)=c by lia] at this
   exact this
theorem scGood:FnScope ["_law_script","_law_start","_law_size_here","_law_pile","_law_stamp","_law_at","_law_number_here","_law_gap"] ["_law_script","_law_start","_law_size_here"] (defScope sGood):=⟨rfl,rfl,rfl,by decide +kernel,rfl,by decide +kernel,by decide +kernel⟩
theorem ok_good {f fN fLP fF:Addr} {fd fdN fdLP fdF:FuncData} (D:Def K mg "_law_good" sGood ["_law_script","_law_start","_law_size_here"] f fd) (DN:Def K mg "_law_number" sNumber ["_law_script","_law_k"] fN fdN)
  (DLP:Def K mg "_law_places" sLPlaces ["_law_pile"] fLP fdLP) (DF:Def K mg "_law_fits" sFits ["_law_at","_law_stamp","_law_gap"] fF fdF) (T:Own mg) (M:OwnM mg) :
  FnOk P w K mg base CX0 2 f fd ["_law_script","_law_start","_law_size_here"] (spGood K):=by
 have GN:FnOk P w K mg base CX0 1 fN fdN ["_law_script","_law_k"] (spNumber K):=ok_number DN T
 have GL:FnOk P w K mg base CX0 1 fLP fdLP ["_law_pile"] (spLPlaces K):=ok_lplaces DLP T
 have GF:FnOk P w K mg base CX0 1 fF fdF ["_law_at","_law_stamp","_law_gap"] (spFits K):=ok_fits DF T M
 refine D.fn.ok scGood (fun vs H Q E h=>?_) (fun cdv A outer s H vs Q E hr h=>?_)
 ·obtain ⟨a,ns,st,n,rfl,_⟩:=h
  rfl
 ·obtain ⟨a,ns,st,n,rfl,hq,h1,h2,h3,k⟩:=h
  obtain ⟨tc,hcat,hread⟩:∃ t,PS ((cxOf CX0 P w K mg base ["_law_script","_law_start","_law_size_here","_law_pile","_law_stamp","_law_at","_law_number_here","_law_gap"] "_law_good" (defScope sGood) f cdv A outer s H E).nox) ((forBody ((defBody sGood).getD 1 (.Pass ⟨0,0,0,0⟩))).getD 4 (.Pass ⟨0,0,0,0⟩)) t ∧
    ∀ (D:Ends) (l:Addr) (ms:List Int) (i g:Nat) (u5 u6:Option V) H2,H2 l=some (.lst (ms.map V.int))→ms.length=i→i≤60→g≤i →
     (∀ (l':Addr) H3,Same H2 H3→H2 l'=none→H3 l'=some (.lst ((ms.take g++[(i:Int)]++ms.drop g).map V.int))→D.nx [some (.ref a),some (.int (st:Int)),some (.int (n:Int)),some (.ref l'),some (.int (i:Int)),u5,u6,some (.int (g:Int))] H3) →
     t D [some (.ref a),some (.int (st:Int)),some (.int (n:Int)),some (.ref l),some (.int (i:Int)),u5,u6,some (.int (g:Int))] H2:=by
   refine ⟨_,ps_set (i:=3) scGood.nd rfl (Or.inl rfl) (pe_op op_cat (pe_op op_cat (pe_slice sl_list (pv 3) po_none (po_some (pv 7))) (pe_lst (pa_cons (pv 4) pa_nil))) (pe_slice sl_list (pv 3) (po_some (pv 7)) po_none)),?_⟩
   intro D l ms i g u5 u6 H2 hl hm hi hg kk
   have gl:g≤(ms.map V.int).length:=by rw [List.length_map,hm]; exact hg
   refine ⟨_,rfl,_,rfl,_,rfl,l,_,rfl,SqL.of hl,fun p1 hp1=>?_⟩
   rw [cut_take _ gl]
   refine ⟨_,rfl,small_line (by show 1≤1000; decide),fun p2 hp2=>?_⟩
   have t1:=same_new (o:=.lst ((ms.map V.int).take g)) hp1
   have t2:=same_new (o:=.lst [V.int (i:Int)]) hp2
   refine ⟨p1,p2,_,_,rfl,rfl,t2 _ _ upd_same,upd_same,?_,fun p3 hp3=>?_⟩
   ·refine small_line ?_
    rw [List.length_take,List.length_map]
    simp
    lia
   have t3:=same_new (o:=.lst ((ms.map V.int).take g++[V.int (i:Int)])) hp3
   refine ⟨_,rfl,_,rfl,_,rfl,l,_,rfl,SqL.of (t3 _ _ (t2 _ _ (t1 _ _ hl))),fun p4 hp4=>?_⟩
   rw [cut_drop _ gl]
   have t4:=same_new (o:=.lst ((ms.map V.int).drop g)) hp4
   refine ⟨p3,p4,_,_,rfl,rfl,t4 _ _ upd_same,upd_same,?_,fun p5 hp5=>?_⟩
   ·refine small_line ?_
    rw [List.length_append,List.length_take,List.length_drop,List.length_map]
    simp
    lia
   have s5:Same H2 _:=t1.trans (t2.trans (t3.trans t4))
   refine kk p5 _ (s5.trans (same_new hp5)) (s5.free hp5) ?_
   rw [upd_same,List.map_append,List.map_append,List.map_take,List.map_drop]
   rfl
  refine ⟨_,pss_cons (ps_set (i:=3) scGood.nd rfl (Or.inl rfl) (pe_lst (pa_cons pe_int pa_nil)))
   (pss_cons (ps_for PassesOwn.never rfl (pi_range2 rfl T.range (pa_cons pe_int (pa_cons (pv 2) pa_nil))) (pg_name (i:=4) scGood.nd rfl (Or.inl rfl))
    (pss_cons (ps_set (i:=5) scGood.nd rfl (Or.inl rfl) (pe_call GL hr rfl DLP.at_ DLP.fn.kp DLP.bd .nil pass0 (pa_cons (pv 3) pa_nil)))
    (pss_cons (ps_set (i:=6) scGood.nd rfl (Or.inl rfl) (pe_call GN hr rfl DN.at_ DN.fn.kp DN.bd .nil pass0 (pa_cons (pv 0) (pa_cons (pe_op op_add (pv 1) (pv 4)) pa_nil))))
    (pss_cons (ps_set (i:=7) scGood.nd rfl (Or.inl rfl) (pe_op op_mod (pv 6) (pe_op op_add (pv 4) pe_int)))
    (pss_cons (ps_if (pt_not (pt_val (pe_call GF hr (by rfl) DF.at_ DF.fn.kp DF.bd .nil pass0 (pa_cons (pv 5) (pa_cons (pv 4) (pa_cons (pv 7) pa_nil))))))
      (pss_one (ps_set (i:=7) scGood.nd rfl (Or.inl rfl) (pe_op op_add (pe_ix ix_list (pv 5) (pe_op op_sub (pv 4) pe_int) (fun _ _=>rfl)) (pe_op op_mod (pe_op op_fdiv (pv 6) pe_int) pe_int)))) pss_nil)
    (pss_one hcat))))))
   (pss_one (ps_ret (pv 3)))),?_⟩
  refine ⟨small_line (by decide),fun l0 hl0=>?_⟩
  refine ⟨_,rfl,_,_,rfl,⟨by lia,by lia,by lia,by lia⟩,for_range (lo:=1) (n:=((n:Int) - 1).toNat) (fun i σ H2=>∃ (l:Addr) (ms:List Int) (v4 v5 v6 v7:Option V),σ=[some (.ref a),some (.int (st:Int)),some (.int (n:Int)),some (.ref l),v4,v5,v6,v7]∧Same H H2∧H l=none∧H2 l=some (.lst (ms.map V.int))∧ms.Perm (iota (i+1))∧NoX (plc ms))
   ⟨l0,[0],none,none,none,none,rfl,same_new hl0,hl0,upd_same,List.Perm.refl _,nox_one⟩ ?_ ?_⟩
  ·rintro i σ H2 hi ⟨l,ms,v4,v5,v6,v7,rfl,s2,hl,hl2,pm,nx⟩
   have ml:=perm_len pm
   rw [show (1:Int)+(i:Nat)=((i+1:Nat):Int) by lia]
   refine ⟨_,rfl,l,ms,i+1,rfl,SqL.of hl2,pm,by lia,fun la H3 s3 hla0 hla=>?_⟩
   have pl:=plc_length ms
   refine ⟨_,rfl,_,rfl,_,rfl,_,_,rfl,rfl,a,ns,st+(i+1),?_,(s2.trans s3).seq hq,by lia,fun y H4 s4 y1 y2=>?_⟩
   ·simp
   refine ⟨_,rfl,_,rfl,_,_,rfl,rfl,_,_,rfl,rfl,?_,?_⟩
   ·show (0:Int)<((i+1:Nat):Int)+1
    lia
   have g0:=Int.emod_nonneg y (show ((i+1:Nat):Int)+1≠0 by lia)
   have g1:=Int.emod_lt_of_pos y (show (0:Int)<((i+1:Nat):Int)+1 by lia)
   obtain ⟨g,hg⟩:∃ g:Nat,y % (((i+1:Nat):Int)+1)=(g:Int):=⟨(y % (((i+1:Nat):Int)+1)).toNat,by lia⟩
   show gName 7 (V.int (y % (((i+1:Nat):Int)+1))) _ _ _
   rw [hg] at g0 g1 ⊢
   have hl4:=s4 _ _ (s3 _ _ hl2)
   have hla4:=s4 _ _ hla
   have ends:∀ (D:Ends) (g':Nat),g'≤i+1→FitG (plc ms) (i+1) g'→(∀ σ H5,(∃ (l:Addr) (ms:List Int) (v4 v5 v6 v7:Option V),σ=[some (.ref a),some (.int (st:Int)),some (.int (n:Int)),some (.ref l),v4,v5,v6,v7]∧Same H H5∧H l=none∧H5 l=some (.lst (ms.map V.int))∧ms.Perm (iota (i+1+1))∧NoX (plc ms))→D.nx σ H5) →
     tc D [some (.ref a),some (.int (st:Int)),some (.int (n:Int)),some (.ref l),some (.int ((i+1:Nat):Int)),some (.ref la),some (.int y),some (.int (g':Int))] H4:=fun D g' hg' hF hD =>
    hread D l ms (i+1) g' _ _ H4 hl4 ml (by lia) hg' fun l' H5 s5 f5 e5=>hD _ _ ⟨l',_,_,_,_,_,rfl,s2.trans (s3.trans (s4.trans s5)),(s2.trans (s3.trans s4)).free f5,e5,perm_ins pm g',by
     have:=(nox_ins pm (by lia) hg').mpr ⟨nx,hF⟩
     unfold ins at this
     rw [ml] at this
     exact this⟩
   refine ⟨_,rfl,_,rfl,_,rfl,la,plc ms,i+1,g,rfl,SqL.of hla4,by rw [pl,ml],by lia,by lia,fun b hb=>?_⟩
   cases b with
   | true=>exact ⟨true,rfl,iteF (ends _ g (by lia) (hb.mp rfl) fun _ _ z=>z)⟩
   | false =>
    refine ⟨false,rfl,iteT ?_⟩
    obtain ⟨j,j1,j2,j3⟩:=plc_get pm (s:=i) (by lia)
    have ej:atI ((plc ms).map V.int) (((i+1:Nat):Int) - 1)=some (.int (j:Int)):=by
     rw [show ((i+1:Nat):Int) - 1=((i:Nat):Int) by lia]
     exact atI_nat (by rw [List.getElem?_map,j1]; rfl)
    refine ⟨_,rfl,_,rfl,_,_,rfl,rfl,la,_,_,_,rfl,rfl,SqL.of hla4,ej,_,rfl,_,_,rfl,rfl,⟨by decide,by decide⟩,_,_,rfl,rfl,(by show (0:Int)<2; decide),_,_,rfl,rfl,?_⟩
    have b0:=Int.emod_nonneg (y / 64) (show (2:Int)≠0 by decide)
    have b1:=Int.emod_lt_of_pos (y / 64) (show (0:Int)<2 by decide)
    have:=fun D hD=>ends D (j+(y / 64 % 2).toNat) (by lia) (fit_beside (e:=(y / 64 % 2).toNat) pm (by lia) (by lia) (by rw [show i+1 - 1=i by lia,plc_at pm j3]; lia)) hD
    rw [show ((j+(y / 64 % 2).toNat:Nat):Int)=(j:Int)+y / 64 % 2 by lia] at this
    exact this _ fun _ _ z=>z
  ·rintro σ H2 ⟨l,ms,v4,v5,v6,v7,rfl,s2,hl,hl2,pm,nx⟩
   rw [show ((n:Int) - 1).toNat+1=n by lia] at pm
   exact ⟨_,rfl,k l ms H2 s2 hl pm nx hl2⟩
end
end Sf
namespace Sf
open PySem L2 Pl
def spHeld (K:PySem.W.Frag):Sp:=fun vs H Q _=>∃ (l:Addr) (ps:List Int) (f e c s:Nat),vs=[.ref l,.int (f:Int),.int (e:Int),.int (c:Int),.int (s:Int)]∧SqL K H l (ps.map V.int)∧ps.length≤60∧e<ps.length∧s<ps.length∧f≤1000 ∧
 ∀ b:Bool,(b=true↔∃ d:Nat,f≤d∧d<e∧((d:Int) - (c:Int)) % 2=0∧wr ps d s=true)→Q (.bl b) H
def spFree (K:PySem.W.Frag):Sp:=fun vs H Q _=>∃ (l ll:Addr) (ps:List Int) (cs:List Nat),vs=[.ref l,.ref ll]∧SqL K H l (ps.map V.int)∧SqL K H ll ((cs.map fun (c:Nat)=>(c:Int)).map V.int)∧1≤ps.length∧ps.length≤60∧cs.length≤60∧cs.Nodup∧(∀ c∈cs,c+1<ps.length) ∧
 ∀ (b:Bool) H',Same H H'→(b=true↔Fre ps (fun c=>c∈cs))→Q (.bl b) H'
section
variable {P:Program} {w:World} {K:PySem.W.Frag} {mg:Str→Option Value} {base:Heap}
abbrev nmHeld:List Str:=["_law_at","_law_first","_law_last","_law_crease","_law_stamp"]
theorem scHeld:FnScope ["_law_at","_law_first","_law_last","_law_crease","_law_stamp","_law_other"] nmHeld (defScope sHeld):=⟨rfl,rfl,rfl,by decide +kernel,rfl,by decide +kernel,by decide +kernel⟩
theorem ok_held {f fW:Addr} {fd fdW:FuncData} (D:Def K mg "_law_held" sHeld nmHeld f fd) (DW:Def K mg "_law_wraps" sLWraps ["_law_at","_law_crease","_law_stamp"] fW fdW) (T:Own mg) (M:OwnM mg):FnOk P w K mg base CX0 2 f fd nmHeld (spHeld K):=by
 have GW:FnOk P w K mg base CX0 1 fW fdW ["_law_at","_law_crease","_law_stamp"] (spWraps K):=ok_lwraps DW M
 refine D.fn.ok scHeld (fun vs H Q E h=>?_) (fun cdv A outer s H vs Q E hr h=>?_)
 ·obtain ⟨l,ps,f,e,c,s,rfl,_⟩:=h
  rfl
 ·obtain ⟨l,ps,f,e,c,s,rfl,hq,h1,h2,h3,h4,k⟩:=h
  refine ⟨_,pss_cons (ps_for PassesOwn.never rfl (pi_range2 rfl T.range (pa_cons (pv 1) (pa_cons (pv 2) pa_nil))) (pg_name (i:=5) scHeld.nd rfl (Or.inl rfl))
    (pss_one (ps_if (pw_and (pt_cmpR op_eq (pe_op op_mod (pe_op op_sub (pv 5) (pv 3)) pe_int) pe_int (nomark _)) (pw_and1 (pt_val (pe_call GW hr (by rfl) DW.at_ DW.fn.kp DW.bd .nil pass0 (pa_cons (pv 0) (pa_cons (pv 5) (pa_cons (pv 4) pa_nil)))))) ).pt (pss_one (ps_ret pe_bl)) pss_nil)))
   (pss_one (ps_ret pe_bl)),?_⟩
  refine ⟨_,rfl,_,rfl,_,_,rfl,⟨by lia,by lia,by lia,by lia⟩,for_range (lo:=(f:Int)) (n:=((e:Int) - (f:Int)).toNat) (fun i σ H2=>∃ (v:Option V),σ=[some (.ref l),some (.int (f:Int)),some (.int (e:Int)),some (.int (c:Int)),some (.int (s:Int)),v]∧H2=H ∧
    ∀ d:Nat,f≤d→d<f+i→((d:Int) - (c:Int)) % 2=0→wr ps d s=false) ⟨none,rfl,rfl,fun d d1 d2=>by lia⟩ ?_ ?_⟩
  ·rintro i σ H2 hi ⟨v,rfl,rfl,hno⟩
   have ed:(f:Int)+(i:Nat)=((f+i:Nat):Int):=by lia
   rw [ed]
   refine ⟨_,rfl,_,rfl,_,_,rfl,rfl,_,_,rfl,rfl,(by show (0:Int)<2; decide),rfl,_,rfl,?_⟩
   refine ite2 (fun z=>?_) (fun z=>?_)
   ·have z':(((f+i:Nat):Int) - (c:Int)) % 2=0:=by
     have:=of_decide_eq_true z
     injection this
    refine ⟨_,rfl,_,rfl,_,rfl,l,ps,f+i,s,rfl,hq,by lia,h3,_,rfl,?_⟩
    refine ite2 (fun y=>?_) (fun y=>?_)
    ·exact k true ⟨fun _=>⟨f+i,by lia,by lia,z',y⟩,fun _=>rfl⟩
    ·refine ⟨_,rfl,rfl,fun d d1 d2 d3=>?_⟩
     by_cases q:d=f+i
     ·subst q; exact Bool.eq_false_iff.mpr y
     ·exact hno d d1 (by lia) d3
   ·refine iteF ⟨_,rfl,rfl,fun d d1 d2 d3=>?_⟩
    by_cases q:d=f+i
    ·subst q
     exact absurd (decide_eq_true (show V.int ((((f+i:Nat):Int) - (c:Int)) % 2)=V.int 0 by rw [d3])) z
    ·exact hno d d1 (by lia) d3
  ·rintro σ H2 ⟨v,rfl,rfl,hno⟩
   refine k false ⟨fun z=>(by cases z),fun ⟨d,d1,d2,d3,d4⟩=>?_⟩
   rw [hno d d1 (by lia) d3] at d4
   exact d4
abbrev nmFree:List Str:=["_law_at","_law_loose","_law_end","_law_first","_law_last"]
theorem scFree:FnScope nmFree ["_law_at","_law_loose"] (defScope sLFree):=⟨rfl,rfl,rfl,by decide +kernel,rfl,by decide +kernel,by decide +kernel⟩
theorem ok_lfree {f fH fW:Addr} {fd fdH fdW:FuncData} (D:Def K mg "_law_free" sLFree ["_law_at","_law_loose"] f fd) (DH:Def K mg "_law_held" sHeld nmHeld fH fdH) (DW:Def K mg "_law_wraps" sLWraps ["_law_at","_law_crease","_law_stamp"] fW fdW) (T:Own mg) (M:OwnM mg) :
  FnOk P w K mg base CX0 3 f fd ["_law_at","_law_loose"] (spFree K):=by
 have GH:FnOk P w K mg base CX0 2 fH fdH nmHeld (spHeld K):=ok_held DH DW T M
 refine D.fn.ok scFree (fun vs H Q E h=>?_) (fun cdv A outer s H vs Q E hr h=>?_)
 ·obtain ⟨l,ll,ps,cs,rfl,_⟩:=h
  rfl
 ·obtain ⟨l,ll,ps,cs,rfl,hq,hc,n1,n2,c1,nd,cb,k⟩:=h
  obtain ⟨t3,h3,r3⟩:∃ t,PSs ((cxOf CX0 P w K mg base nmFree "_law_free" (defScope sLFree) f cdv A outer s H E).nox) ((forBody ((defBody sLFree).getD 2 (.Pass ⟨0,0,0,0⟩))).drop 2) t ∧
    ∀ (D:Ends) (first last:Nat) H2,SqL K H2 l (ps.map V.int)→first≤last→last<ps.length→(¬ Seg ps first last→D.rt (.bl false) H2) →
     (Seg ps first last→D.nx [some (.ref l),some (.ref ll),some (.int ((ps.length:Int) - 1)),some (.int ((last:Int)+1)),some (.int (last:Int))] H2) →
     (first=0∨last+1=ps.length∨(last - first) % 2=0)→(0<first→∀ d,first≤d→d<last→(d+1 - first) % 2=0→wr ps d first=false) →
     t D [some (.ref l),some (.ref ll),some (.int ((ps.length:Int) - 1)),some (.int (first:Int)),some (.int (last:Int))] H2:=by
   refine ⟨_,pss_cons (ps_if (pw_and (pt_cmpR op_lt (pv 4) (pv 2) (nomark _)) (pw_and1 (pt_val (pe_call GH hr (by rfl) DH.at_ DH.fn.kp DH.bd .nil pass0 (pa_cons (pv 0) (pa_cons (pv 3) (pa_cons (pv 4) (pa_cons (pv 4) (pa_cons (pv 4) pa_nil))))))))).pt (pss_one (ps_ret pe_bl)) pss_nil)
    (pss_one (ps_set (i:=3) scFree.nd rfl (Or.inl rfl) (pe_op op_add (pv 4) pe_int))),?_⟩
   intro D first last H2 hq5 hle hlt bad good o1 o2
   refine ⟨_,rfl,_,rfl,_,_,rfl,rfl,_,rfl,?_⟩
   refine ite2 (fun z=>?_) (fun z=>?_)
   ·have z':=of_decide_eq_true z
    refine ⟨_,rfl,_,rfl,_,rfl,_,rfl,_,rfl,l,ps,first,last,last,last,rfl,hq5,n2,hlt,hlt,by lia,fun b hb=>⟨b,rfl,?_⟩⟩
    cases b with
    | true =>
     obtain ⟨d,d1,d2,d3,d4⟩:=hb.mp rfl
     refine iteT (bad fun sg=>?_)
     rw [sg.hi (by lia) d d1 d2 (by lia)] at d4
     cases d4
    | false =>
     refine iteF ?_
     refine ⟨_,rfl,_,_,rfl,rfl,good ⟨fun a b=>by lia,o2,fun _ d d1 d2 d3=>?_⟩⟩
     cases q:wr ps d last with
     | false=>rfl
     | true=>exact absurd (hb.mpr ⟨d,d1,d2,by lia,q⟩) (by decide)
   ·have z':¬ ((last:Int)<(ps.length:Int) - 1):=fun y=>z (decide_eq_true y)
    refine iteF ?_
    exact ⟨_,rfl,_,_,rfl,rfl,good ⟨fun a b=>by lia,o2,fun y=>by lia⟩⟩
  obtain ⟨t2,h2,r2⟩:∃ t,PSs ((cxOf CX0 P w K mg base nmFree "_law_free" (defScope sLFree) f cdv A outer s H E).nox) ((forBody ((defBody sLFree).getD 2 (.Pass ⟨0,0,0,0⟩))).drop 1) t ∧
    ∀ (D:Ends) (first last:Nat) H2,SqL K H2 l (ps.map V.int)→first≤last→last<ps.length→(¬ Seg ps first last→D.rt (.bl false) H2) →
     (Seg ps first last→D.nx [some (.ref l),some (.ref ll),some (.int ((ps.length:Int) - 1)),some (.int ((last:Int)+1)),some (.int (last:Int))] H2) →
     (first=0∨last+1=ps.length∨(last - first) % 2=0) →
     t D [some (.ref l),some (.ref ll),some (.int ((ps.length:Int) - 1)),some (.int (first:Int)),some (.int (last:Int))] H2:=by
   refine ⟨_,pss_cons (ps_if (pw_and (pt_cmpR op_gt (pv 3) pe_int (nomark _)) (pw_and1 (pt_val (pe_call GH hr (by rfl) DH.at_ DH.fn.kp DH.bd .nil pass0 (pa_cons (pv 0) (pa_cons (pv 3) (pa_cons (pv 4) (pa_cons (pe_op op_sub (pv 3) pe_int) (pa_cons (pv 3) pa_nil))))))))).pt (pss_one (ps_ret pe_bl)) pss_nil)
    h3,?_⟩
   intro D first last H2 hq5 hle hlt bad good o1
   refine ⟨_,rfl,_,_,rfl,rfl,_,rfl,?_⟩
   refine ite2 (fun z=>?_) (fun z=>?_)
   ·have z0:=of_decide_eq_true z
    refine ⟨_,rfl,_,rfl,_,rfl,_,rfl,_,_,rfl,rfl,_,rfl,l,ps,first,last,first - 1,first,?_,hq5,n2,hlt,by lia,by lia,fun b hb=>⟨b,rfl,?_⟩⟩
    ·rw [show ((first - 1:Nat):Int)=(first:Int) - 1 by lia]
     rfl
    cases b with
    | true =>
     obtain ⟨d,d1,d2,d3,d4⟩:=hb.mp rfl
     refine iteT (bad fun sg=>?_)
     rw [sg.lo (by lia) d d1 d2 (by lia)] at d4
     cases d4
    | false =>
     refine iteF (r3 _ first last H2 hq5 hle hlt bad good o1 fun _ d d1 d2 d3=>?_)
     cases q:wr ps d first with
     | false=>rfl
     | true=>exact absurd (hb.mpr ⟨d,d1,d2,by lia,q⟩) (by decide)
   ·have z0:¬ ((0:Int)<(first:Int)):=fun y=>z (decide_eq_true y)
    exact iteF (r3 _ first last H2 hq5 hle hlt bad good o1 fun q=>by lia)
  refine ⟨_,pss_cons (ps_set (i:=2) scFree.nd rfl (Or.inl rfl) (pe_op op_sub (pe_callB call_len_seq (by rfl) T.len PySem.boot_len (pa_cons (pv 0) pa_nil)) pe_int))
   (pss_cons (ps_set (i:=3) scFree.nd rfl (Or.inl rfl) pe_int)
   (pss_cons (ps_for PassesOwn.never rfl (pi_list (pe_op op_cat (pe_callB call_sorted (by rfl) T.sorted PyProof.Rows.boot_sorted (pa_cons (pv 1) pa_nil)) (pe_lst (pa_cons (pv 2) pa_nil)))) (pg_name (i:=4) scFree.nd rfl (Or.inl rfl))
    (pss_cons (ps_if (pw_and (pt_cmpR op_gt (pv 3) pe_int (nomark _)) (pw_and (pt_cmpR op_lt (pv 4) (pv 2) (nomark _)) (pw_and1 (pt_cmpR op_eq (pe_op op_mod (pe_op op_sub (pv 4) (pv 3)) pe_int) pe_int (nomark _))))).pt (pss_one (ps_ret pe_bl)) pss_nil)
    h2))
   (pss_one (ps_ret pe_bl)))),?_⟩
  refine ⟨_,rfl,l,_,rfl,.inl hq,_,_,rfl,rfl,?_⟩
  rw [List.length_map]
  refine ⟨_,rfl,ll,_,rfl,hc,by rw [List.length_map]; lia,fun l2 ms hl2 pm so=>?_⟩
  have t2:=same_new (o:=.lst (ms.map V.int)) hl2
  refine ⟨_,rfl,small_line (by show 1≤1000; decide),fun l3 hl3=>?_⟩
  have t3:=same_new (o:=.lst [V.int ((ps.length:Int) - 1)]) hl3
  have ml:=pm.length_eq
  rw [List.length_map] at ml
  refine ⟨l2,l3,_,_,rfl,rfl,t3 _ _ upd_same,upd_same,?_,fun l4 hl4=>?_⟩
  ·refine small_line ?_
   rw [List.length_map,ml]
   simp
   lia
  have S:=srt_of pm so nd cb
  have exs:ms.map V.int++[V.int ((ps.length:Int) - 1)]=(ms++[((ps.length:Int) - 1)]).map V.int:=by rw [List.map_append]; rfl
  rw [exs]
  have t4:=same_new (o:=.lst ((ms++[((ps.length:Int) - 1)]).map V.int)) hl4
  generalize hH5:upd (upd (upd H l2 (.lst (ms.map V.int))) l3 (.lst [V.int ((ps.length:Int) - 1)])) l4 (.lst ((ms++[((ps.length:Int) - 1)]).map V.int))=H5
  have s5:Same H H5:=by rw [← hH5]; exact t2.trans (t3.trans t4)
  have h5:H5 l4=some (.lst ((ms++[((ps.length:Int) - 1)]).map V.int)):=by rw [← hH5,upd_same]
  refine ⟨l4,rfl,⟨_,SqL.of h5⟩,for_list (K:=K) (a:=l4) (xs:=(ms++[((ps.length:Int) - 1)]).map V.int) (fun i σ H2=>∃ (first:Nat) (v:Option V),σ=[some (.ref l),some (.ref ll),some (.int ((ps.length:Int) - 1)),some (.int (first:Int)),v]∧H2=H5 ∧
    Upto ps (fun c=>c∈cs) first∧(i≤ms.length→First ms i first)∧(i=ms.length+1→first=ps.length)) ⟨0,none,rfl,rfl,Upto.zero,fun _=>.inl ⟨rfl,rfl⟩,fun z=>by lia⟩ (fun i σ H2 _ ⟨_,_,_,e,_⟩=>by rw [e]; exact SqL.of h5) ?_ ?_⟩
  ·rintro i x σ H2 hx ⟨first,v,rfl,rfl,U,F,F2⟩
   rw [List.getElem?_map] at hx
   have hi:i<ms.length+1:=by
    cases e:(ms++[((ps.length:Int) - 1)])[i]? with
    | none=>rw [e] at hx; cases hx
    | some y =>
     have:=(List.getElem?_eq_some_iff.mp e).1
     simpa using this
   obtain ⟨last,g1,Pt,g2,g3⟩:=S.at n1 (by lia) (F (by lia))
   rw [g1] at hx
   obtain rfl:x=V.int (last:Int):=(Option.some.inj hx).symm
   have hq5:=s5.seq hq
   have hle:=Pt.le
   have hlt:=Pt.lt
   have bad:¬ Seg ps first last→Q (.bl false) H2:=fun ns=>k false H2 s5 ⟨fun z=>(by cases z),fun Fr=>absurd (seg_of cb Fr Pt) ns⟩
   have good:Seg ps first last→∃ (first':Nat) (v:Option V),([some (.ref l),some (.ref ll),some (.int ((ps.length:Int) - 1)),some (.int ((last:Int)+1)),some (.int (last:Int))]:St)=[some (.ref l),some (.ref ll),some (.int ((ps.length:Int) - 1)),some (.int (first':Int)),v]∧H2=H2 ∧
     Upto ps (fun c=>c∈cs) first'∧(i+1≤ms.length→First ms (i+1) first')∧(i+1=ms.length+1→first'=ps.length):=fun sg =>
    ⟨last+1,_,rfl,rfl,U.step Pt sg,fun z=>(g2 (by lia)).1,fun z=>g3 (by lia)⟩
   refine ⟨_,rfl,_,_,rfl,rfl,_,rfl,?_⟩
   refine ite2 (fun z=>?_) (fun z=>?_)
   ·have z0:=of_decide_eq_true z
    refine ⟨_,rfl,_,rfl,_,_,rfl,rfl,_,rfl,?_⟩
    refine ite2 (fun y=>?_) (fun y=>?_)
    ·have y':=of_decide_eq_true y
     refine ⟨_,rfl,_,rfl,_,_,rfl,rfl,_,_,rfl,rfl,(by show (0:Int)<2; decide),rfl,_,rfl,?_⟩
     refine ite2 (fun x=>?_) (fun x=>?_)
     ·have x':((last:Int) - (first:Int)) % 2=1:=by
       have:=of_decide_eq_true x
       injection this
      exact bad fun sg=>by
       have:=sg.odd (by lia) (by lia)
       lia
     ·refine r2 _ first last H2 hq5 hle hlt bad good (.inr (.inr ?_))
      by_cases q:(last - first) % 2=0
      ·exact q
      ·exact absurd (decide_eq_true (show V.int (((last:Int) - (first:Int)) % 2)=V.int 1 by congr 1; lia)) x
    ·have y':¬ ((last:Int)<(ps.length:Int) - 1):=fun q=>y (decide_eq_true q)
     exact iteF (r2 _ first last H2 hq5 hle hlt bad good (.inr (.inl (by lia))))
   ·have z0:¬ ((0:Int)<(first:Int)):=fun y=>z (decide_eq_true y)
    exact iteF (r2 _ first last H2 hq5 hle hlt bad good (.inl (by lia)))
  ·rintro σ H2 ⟨first,v,rfl,rfl,U,F,F2⟩
   have e:=F2 (by rw [List.length_map]; simp)
   subst e
   exact k true H2 s5 ⟨fun _=>Upto.fre cb U,fun _=>rfl⟩
end
end Sf
set_option maxHeartbeats 4000000
namespace Sf
open PySem L2 Pl
structure Errs (K:PySem.W.Frag) (mg:Str→Option Value) (cl:Nat→Addr):Prop where
 n0:mg "NoPile"=some (.ref (cl 0))
 n1:mg "Crossing"=some (.ref (cl 1))
 n2:mg "NoCrease"=some (.ref (cl 2))
 n3:mg "NoLetters"=some (.ref (cl 3))
 n4:mg "NoCount"=some (.ref (cl 4))
 n5:mg "Stuck"=some (.ref (cl 5))
 val:mg "ValueError"=none
 inn:∀ i,i<6→ExcIn K (cl i)
 kit:∀ i j,i<6→j<6→PySem.W.kitOne K (.ref (cl i)) (.ref (cl j))=some (decide (j=i))
 kitV:∀ i,i<6→PySem.W.kitOne K (.ref (cl i)) (.type "ValueError")=some true
theorem boot_ValueError:bootBuiltins "ValueError"=some (.type "ValueError"):=by decide +kernel
def Held (cl:Nat→Addr) (H:Hp) (e:Addr) (i:Nat):Prop:=i<6∧∃ od,H e=some (excO e (cl i) od)∧(od=none∨∃ dx fs,od=some dx∧H dx=some (.xd fs))
theorem Held.same {cl:Nat→Addr} {H H':Hp} {e:Addr} {i:Nat} (x:Held cl H e i) (s:Same H H'):Held cl H' e i:=by
 obtain ⟨hi,od,h,o⟩:=x
 refine ⟨hi,od,s _ _ h,?_⟩
 rcases o with o | ⟨dx,fs,o,h2⟩
 ·exact .inl o
 ·exact .inr ⟨dx,fs,o,s _ _ h2⟩
structure ErrsB (mg:Str→Option Value) (base:Heap) (cl:Nat→Addr) (S:Addr):Prop where
 at_:mg "StripError"=some (.ref S)
 sup:∃ bm,EShape base S bm∧bm.contains (.type "BaseException")=true
 all:∀ i,i<6→∃ bm,EShape base (cl i) bm∧(Value.ref (cl i)::bm).contains (.ref S)=true
end Sf
set_option maxHeartbeats 4000000
namespace Sf
open PySem L2 Pl
seal PS PSs PE PA PSsx PSx PEx
theorem boot_int':bootBuiltins "int"=some (.type "int"):=by decide +kernel
def wordI (i:Nat):Int:=if i=2 then 1 else if i=5 then 2 else 3
def spWordOf (cl:Nat→Addr):Sp:=fun vs H Q _=>∃ (e:Addr) (i:Nat),vs=[.ref e]∧Held cl H e i∧∀ H',Same H H'→Q (.int (wordI i)) H'
section
variable {P:Program} {w:World} {K:PySem.W.Frag} {mg:Str→Option Value} {base:Heap}
theorem scWordOf:FnScope ["_law_e","_law_others"] ["_law_e"] (defScope s_law_word_of):=⟨rfl,rfl,rfl,by decide +kernel,rfl,by decide +kernel,by decide +kernel⟩
theorem ok_wordof {f:Addr} {fd:FuncData} {cl:Nat→Addr} (D:Def K mg "_law_word_of" s_law_word_of ["_law_e"] f fd) (T:Own mg) (R:Errs K mg cl):FnOkM P w K mg base 1 f fd ["_law_e"] (spWordOf cl):=by
 refine Fun.okM D.fn scWordOf (fun vs H Q E h=>?_) (fun cdv A outer s H vs Q E hr h=>?_)
 ·obtain ⟨e,i,rfl,_⟩:=h
  rfl
 ·obtain ⟨e,i,rfl,he,k⟩:=h
  refine ⟨_,pss_cons (ps_set (i:=1) scWordOf.nd rfl (Or.inl rfl) (pe_lst (pa_cons (pe_callB call_isX (by rfl) T.isinstance boot_isinstance (pa_cons (pv 0) (pa_cons (pe_glob (v:=.ref (cl 0)) (by rfl) R.n0 rfl) pa_nil)))
    (pa_cons (pe_callB call_isX (by rfl) T.isinstance boot_isinstance (pa_cons (pv 0) (pa_cons (pe_glob (v:=.ref (cl 3)) (by rfl) R.n3 rfl) pa_nil)))
    (pa_cons (pe_callB call_isX (by rfl) T.isinstance boot_isinstance (pa_cons (pv 0) (pa_cons (pe_glob (v:=.ref (cl 4)) (by rfl) R.n4 rfl) pa_nil)))
    (pa_cons (pe_callB call_isX (by rfl) T.isinstance boot_isinstance (pa_cons (pv 0) (pa_cons (pe_glob (v:=.ref (cl 1)) (by rfl) R.n1 rfl) pa_nil))) pa_nil))))))
   (pss_cons (ps_if (pw_or (pt_cmpR op_in_seq pe_bl (pv 1) rfl) (pw_or1 (pt_not (pt_val (pe_callB call_isX (by rfl) T.isinstance boot_isinstance (pa_cons (pv 0) (pa_cons (pe_bltn (v:=.ty "ValueError") (by rfl) R.val boot_ValueError rfl) pa_nil))))))).pt (pss_one (ps_ret pe_int)) pss_nil)
   (pss_one (ps_ret (pe_op op_add (pe_callTy call_int1 (by rfl) T.int boot_int' (pa_cons (pe_callB call_isX (by rfl) T.isinstance boot_isinstance (pa_cons (pv 0) (pa_cons (pe_glob (v:=.ref (cl 2)) (by rfl) R.n2 rfl) pa_nil))) pa_nil))
    (pe_op op_mul pe_int (pe_callTy call_int1 (by rfl) T.int boot_int' (pa_cons (pe_callB call_isX (by rfl) T.isinstance boot_isinstance (pa_cons (pv 0) (pa_cons (pe_glob (v:=.ref (cl 5)) (by rfl) R.n5 rfl) pa_nil))) pa_nil))))))),?_⟩
  obtain ⟨hi,od,ho,hx⟩:=id he
  have F:=R.inn i hi
  refine ⟨_,rfl,e,_,od,_,_,_,rfl,rfl,ho,hx,F,R.kit i 0 hi (by decide),?_⟩
  refine ⟨_,rfl,e,_,od,_,_,_,rfl,rfl,ho,hx,F,R.kit i 3 hi (by decide),?_⟩
  refine ⟨_,rfl,e,_,od,_,_,_,rfl,rfl,ho,hx,F,R.kit i 4 hi (by decide),?_⟩
  refine ⟨_,rfl,e,_,od,_,_,_,rfl,rfl,ho,hx,F,R.kit i 1 hi (by decide),?_⟩
  refine ⟨small_line (by show 4≤1000; decide),fun l1 hl1=>?_⟩
  have s1:=same_new (o:=.lst [.bl (decide (0=i)),.bl (decide (3=i)),.bl (decide (4=i)),.bl (decide (1=i))]) hl1
  obtain ⟨_,od1,ho1,hx1⟩:=he.same s1
  refine ⟨_,rfl,l1,_,rfl,.inl (SqL.of upd_same),rfl,rfl,_,rfl,?_⟩
  have hin:inV (.bl true) [.bl (decide (0=i)),.bl (decide (3=i)),.bl (decide (4=i)),.bl (decide (1=i))]=true↔wordI i=3:=by
   have:i=0∨i=1∨i=2∨i=3∨i=4∨i=5:=by lia
   rcases this with rfl | rfl | rfl | rfl | rfl | rfl <;> decide
  show if inV _ _=true then _ else _
  refine ite2 (fun h=>?_) (fun h=>?_)
  ·have:=k _ s1
   rw [hin.mp h] at this
   exact this
  ·refine ⟨_,rfl,e,_,od1,_,_,_,rfl,rfl,ho1,hx1,F,R.kitV i hi,true,rfl,iteF ?_⟩
   refine ⟨_,rfl,e,_,od1,_,_,_,rfl,rfl,ho1,hx1,F,R.kit i 2 hi (by decide),.inr ⟨_,rfl,?_⟩⟩
   refine ⟨_,rfl,e,_,od1,_,_,_,rfl,rfl,ho1,hx1,F,R.kit i 5 hi (by decide),.inr ⟨_,rfl,_,_,rfl,rfl,.inl ⟨by decide,by decide⟩,_,_,rfl,rfl,?_⟩⟩
   have e2:(if decide (2=i)=true then 1 else 0)+2 * (if decide (5=i)=true then 1 else 0)=wordI i:=by
    have h':¬ wordI i=3:=fun z=>h (hin.mpr z)
    have:i=0∨i=1∨i=2∨i=3∨i=4∨i=5:=by lia
    rcases this with rfl | rfl | rfl | rfl | rfl | rfl
    ·exact absurd rfl h'
    ·exact absurd rfl h'
    ·rfl
    ·exact absurd rfl h'
    ·exact absurd rfl h'
    ·rfl
   have:=k _ s1
   rw [← e2] at this
   exact this
end
end Sf
set_option maxHeartbeats 4000000
namespace Pl
open PySem L2
def partsL (ns:List Int):Nat→List Nat→List (List Int)
 | first,[]=>[ns.filter fun s=>decide ((first:Int)≤s)]
 | first,c::cs=>(ns.filter fun s=>decide ((first:Int)≤s) && decide (s≤(c:Int)))::partsL ns (c+1) cs
theorem partsL_length (ns:List Int):∀ (cs:List Nat) (first:Nat),(partsL ns first cs).length=cs.length+1
 | [],_=>rfl
 | _::cs,_=>by unfold partsL; rw [List.length_cons,partsL_length ns cs,List.length_cons]
structure Rise (L:Nat→Prop) (ms:List Nat):Prop where
 mem:∀ c,c∈ms↔L c
 inc:ms.Pairwise (·<·)
theorem Rise.unique {L:Nat→Prop} {ms ms':List Nat} (h:Rise L ms) (h':Rise L ms'):ms=ms':=by
 have e:∀ {l:List Nat},l.Pairwise (·<·)→l.Pairwise (·≤·):=fun h=>h.imp fun q=>Nat.le_of_lt q
 have nd:∀ {l:List Nat},l.Pairwise (·<·)→l.Nodup:=fun h=>h.imp fun q=>Nat.ne_of_lt q
 have pm:ms.Perm ms':=(List.perm_ext_iff_of_nodup (nd h.inc) (nd h'.inc)).mpr fun c=>(h.mem c).trans (h'.mem c).symm
 exact pm.eq_of_pairwise (fun a b _ _ h1 h2=>Nat.le_antisymm h1 h2) (e h.inc) (e h'.inc)
structure Steps (ps:List Int) (n:Nat) (steps:List (List Nat)):Prop where
 nd:steps.flatten.Nodup
 bnd:∀ c∈steps.flatten,c+1<n
 all:∀ c,c+1<n→c∈steps.flatten
 shape:∀ s∈steps,(∃ a,s=[a])∨∃ a b,s=[a,b]∧a<b
 free:∀ k,k≤steps.length→Fre ps (fun c=>c∈(steps.take k).flatten)
end Pl
namespace Sf
open PySem L2 Pl
abbrev cz (cs:List Nat):List Int:=cs.map fun (c:Nat)=>(c:Int)
abbrev cv (cs:List Nat):List V:=(cz cs).map V.int
abbrev BP:=Hp→Addr→List Int→(Nat→Prop)→(Addr→Prop)→Prop
structure BenchOk (C:Addr) (B:BP):Prop where
 ins:∀ {H b ns L own},B H b ns L own→∃ dx fs,H b=some (.ins C dx fs)∧fs.lookup ("draw":Str)=none∧fs.lookup ("press":Str)=none∧fs.lookup ("loose":Str)=none∧fs.lookup ("parts":Str)=none
 held:∀ {H b ns L own x},B H b ns L own→own x→H x≠none
 keep:∀ {H H' b ns L own},B H b ns L own→(∀ x,own x→H' x=H x)→B H' b ns L own
theorem BenchOk.same {C:Addr} {B:BP} (O:BenchOk C B) {H H':Hp} {b:Addr} {ns:List Int} {L:Nat→Prop} {own:Addr→Prop} (h:B H b ns L own) (s:Same H H'):B H' b ns L own :=
 O.keep h fun x hx=>by
  cases e:H x with
  | none=>exact absurd e (O.held h hx)
  | some o=>exact s x o e
def Beside (own:Addr→Prop) (H H':Hp):Prop:=∀ x o,H x=some o→¬ own x→H' x=some o
def spInit (K:PySem.W.Frag) (C:Addr) (B:BP):Sp:=fun vs H Q _=>∃ (x p dx:Addr) (ns:List Int) (n:Nat),vs=[.ref x,.ref p]∧H x=some (.ins C dx [])∧H dx=some (.own x)∧SqL K H p (ns.map V.int)∧p≠x∧p≠dx∧ns.Perm (iota n)∧1≤n∧n≤60∧NoX (plc ns) ∧
 ∀ (own:Addr→Prop) H',(∀ y o,H y=some o→y≠x→H' y=some o)→(∀ y,own y→y=x∨y=dx∨H y=none)→B H' x ns (fun _=>False) own→Q .non H'
def spDraw (K:PySem.W.Frag) (B:BP):Sp:=fun vs H Q _=>∃ (b q:Addr) (ns:List Int) (n:Nat) (L:Nat→Prop) (own:Addr→Prop) (cs:List Nat),vs=[.ref b,.ref q]∧B H b ns L own∧(SqL K H q (cv cs)∨SqT K H q (cv cs))∧¬ own q∧ns.Perm (iota n)∧n≤60∧NoX (plc ns)∧cs.Nodup∧(∀ c∈cs,c+1<n)∧(∀ c∈cs,¬ L c)∧Fre (plc ns) (fun c=>L c∨c∈cs) ∧
 ∀ (v:V) (own':Addr→Prop) H',Beside own H H'→(∀ y,own' y→own y∨H y=none)→B H' b ns (fun c=>L c∨c∈cs) own'→Q v H'
def spPress (K:PySem.W.Frag) (B:BP):Sp:=fun vs H Q _=>∃ (b q:Addr) (ns:List Int) (n:Nat) (L:Nat→Prop) (own:Addr→Prop) (cs:List Nat),vs=[.ref b,.ref q]∧B H b ns L own∧(SqL K H q (cv cs)∨SqT K H q (cv cs))∧¬ own q∧ns.Perm (iota n)∧n≤60∧NoX (plc ns)∧cs.Nodup∧(∀ c∈cs,c+1<n)∧(∀ c∈cs,L c)∧Fre (plc ns) (fun c=>L c∧c∉cs) ∧
 ∀ (v:V) (own':Addr→Prop) H',Beside own H H'→(∀ y,own' y→own y∨H y=none)→B H' b ns (fun c=>L c∧c∉cs) own'→Q v H'
def spLoose (B:BP):Sp:=fun vs H Q _=>∃ (b:Addr) (ns:List Int) (L:Nat→Prop) (own:Addr→Prop),vs=[.ref b]∧B H b ns L own∧∀ (l:Addr) (ms:List Nat) H',Same H H'→H l=none→Rise L ms→H' l=some (.lst (cv ms))→Q (.ref l) H'
end Sf
set_option maxHeartbeats 4000000
namespace Sf
open PySem L2 Pl
seal PS PSs PE PA PSsx PSx PEx
def BadC (n:Nat) (cs:List Int):Prop:=¬ (cs.Nodup∧∀ c∈cs,0≤c∧c+1<(n:Int))
def NewL (dr:Bool) (L:Nat→Prop) (cs:List Int):Nat→Prop:=fun c=>if dr=true then L c∨(c:Int)∈cs else L c∧(c:Int)∉cs
def StkC (dr:Bool) (at_:List Int) (L:Nat→Prop) (cs:List Int):Prop:=(∃ c∈cs,(L c.toNat↔dr=true))∨¬ Fre at_ (NewL dr L cs)
def Behind (B:BP) (b:Addr) (ns:List Int) (own:Addr→Prop) (L':Nat→Prop) (H H':Hp):Prop:=∃ own':Addr→Prop,Beside own H H'∧(∀ y,own' y→own y∨H y=none)∧B H' b ns L' own'
def spDeed (K:PySem.W.Frag) (B:BP) (cl:Nat→Addr) (dr:Bool):Sp:=fun vs H Q E=>∃ (b q:Addr) (ns:List Int) (n:Nat) (L:Nat→Prop) (own:Addr→Prop) (cs:List Int),vs=[.ref b,.ref q]∧B H b ns L own∧(SqL K H q (cs.map V.int)∨SqT K H q (cs.map V.int))∧¬ own q∧ns.Perm (iota n)∧1≤n∧n≤60∧NoX (plc ns)∧cs.length≤60 ∧
 (BadC n cs→∀ H',Behind B b ns own L H H'→E (.ref (cl 2)) none H')∧(¬ BadC n cs→StkC dr (plc ns) L cs→∀ H',Behind B b ns own L H H'→E (.ref (cl 5)) none H')∧(¬ BadC n cs→¬ StkC dr (plc ns) L cs→∀ v H',Behind B b ns own (NewL dr L cs) H H'→Q v H')
def spDone (K:PySem.W.Frag) (B:BP):Sp:=fun vs H Q _=>∃ (b q:Addr) (dr:Bool) (ns:List Int) (n:Nat) (L:Nat→Prop) (own:Addr→Prop) (cs:List Int),vs=[.ref b,.ref q,.bl dr]∧B H b ns L own∧(SqL K H q (cs.map V.int)∨SqT K H q (cs.map V.int))∧¬ own q∧ns.Perm (iota n)∧1≤n∧n≤60∧NoX (plc ns)∧cs.length≤60 ∧
 (BadC n cs→∀ H',Behind B b ns own L H H'→Q (.int 1) H')∧(¬ BadC n cs→StkC dr (plc ns) L cs→∀ H',Behind B b ns own L H H'→Q (.int 2) H')∧(¬ BadC n cs→¬ StkC dr (plc ns) L cs→∀ H',Behind B b ns own (NewL dr L cs) H H'→Q (.int 0) H')
section
variable {P:Program} {w:World} {K:PySem.W.Frag} {mg:Str→Option Value} {base:Heap} {C:Addr} {B:BP}
theorem Behind.same (O:BenchOk C B) {b:Addr} {ns:List Int} {own:Addr→Prop} {L':Nat→Prop} {H H' H2:Hp} (h:Behind B b ns own L' H H') (s:Same H' H2):Behind B b ns own L' H H2:=by
 obtain ⟨own',h1,h2,h3⟩:=h
 exact ⟨own',fun x o e q=>s x o (h1 x o e q),h2,O.same h3 s⟩
abbrev nmDone:List Str:=["_law_bench","_law_creases_here","_law_drawing","_law_word","_law_e"]
theorem scDone:FnScope nmDone ["_law_bench","_law_creases_here","_law_drawing"] (defScope s_law_done):=⟨rfl,rfl,rfl,by decide +kernel,rfl,by decide +kernel,by decide +kernel⟩
theorem ok_done {f fW fD fR:Addr} {fd fdW fdD fdR:FuncData} {psD psR:List Str} {cl:Nat→Addr} {S:Addr} {kB:Nat} (hkB:kB≤26) (D:Def K mg "_law_done" s_law_done ["_law_bench","_law_creases_here","_law_drawing"] f fd) (T:Own mg) (R:Errs K mg cl) (EB:ErrsB mg base cl S) (O:BenchOk C B) (CL:Cls K C)
  (mD:Meth K C "draw" fD) (bD:Binds K fdD psD []) (GD:FnOk P w K mg base (CX1 P w) kB fD fdD psD (spDeed K B cl true)) (mR:Meth K C "press" fR) (bR:Binds K fdR psR []) (GR:FnOk P w K mg base (CX1 P w) kB fR fdR psR (spDeed K B cl false))
  (DW:Def K mg "_law_word_of" s_law_word_of ["_law_e"] fW fdW):FnOk P w K mg base CX0 27 f fd ["_law_bench","_law_creases_here","_law_drawing"] (spDone K B):=by
 have GW:FnOkM P w K mg base 1 fW fdW ["_law_e"] (spWordOf cl):=ok_wordof DW T R
 obtain ⟨bmS,shS,hbS⟩:=EB.sup
 refine D.fn.ok scDone (fun vs H Q E h=>?_) (fun cdv A outer s H vs Q E hr h=>?_)
 ·obtain ⟨b,q,dr,ns,n,L,own,cs,rfl,_⟩:=h
  rfl
 ·obtain ⟨b,q,dr,ns,n,L,own,cs,rfl,hB,hq,hno,pm,n1,n2,nx,hlen,k1,k2,k3⟩:=h
  have hrB:=hr.mono hkB
  have hrW:=hr.mono (show 1≤26 by decide)
  refine ⟨_,pss_cons (ps_set (i:=3) scDone.nd rfl (Or.inl rfl) pe_int)
   (pss_cons (ps_try (i:=4) (S:=S) (EX:=fun σ1 C od H'=>σ1=[some (.ref b),some (.ref q),some (.bl dr),some (.int 0),none]∧od=none∧Behind B b ns own L H H'∧((BadC n cs∧C=.ref (cl 2))∨(¬ BadC n cs∧StkC dr (plc ns) L cs∧C=.ref (cl 5)))) scDone.nd rfl rfl ⟨rfl,rfl⟩ (by rfl) EB.at_ shS hbS
     (pssx_one (psx_if (pt_val (pv 2)) (pssx_one (psx_expr (pex_meth (pv 0) CL mD GD hrB bD .nil (pa_cons (pv 1) pa_nil)))) (pssx_one (psx_expr (pex_meth (pv 0) CL mR GR hrB bR .nil (pa_cons (pv 1) pa_nil))))))
     (fun e=>pss_cons (ps_set (i:=3) scDone.nd rfl (Or.inl rfl) pe_int)
      (pss_one (ps_if (pt_cmpR op_gt (pe_callM GW ⟨rfl,hrW.dp,hrW.un⟩ (by rfl) DW.at_ DW.fn.kp DW.bd .nil (pa_cons (pv 4) pa_nil)) pe_int (nomark _))
       (pss_one (ps_set (i:=3) scDone.nd rfl (Or.inl rfl) (pe_callM GW ⟨rfl,hrW.dp,hrW.un⟩ (by rfl) DW.at_ DW.fn.kp DW.bd .nil (pa_cons (pv 4) pa_nil)))) pss_nil))))
   (pss_one (ps_ret (pv 3)))),?_⟩
  obtain ⟨dx,fs,hb,l1,l2,_,_⟩:=O.ins hB
  refine ⟨⟨_,rfl,dr,rfl,?_⟩,?_⟩
  ·cases dr with
   | true =>
    refine iteT ⟨_,rfl,b,dx,fs,rfl,hb,l1,_,rfl,b,q,ns,n,L,own,cs,rfl,hB,hq,hno,pm,n1,n2,nx,hlen,fun bad H' h=>⟨rfl,rfl,h,.inl ⟨bad,rfl⟩⟩,fun nb st H' h=>⟨rfl,rfl,h,.inr ⟨nb,st,rfl⟩⟩,fun nb ns v H' h=>⟨_,rfl,k3 nb ns H' h⟩⟩
   | false =>
    refine iteF ⟨_,rfl,b,dx,fs,rfl,hb,l2,_,rfl,b,q,ns,n,L,own,cs,rfl,hB,hq,hno,pm,n1,n2,nx,hlen,fun bad H' h=>⟨rfl,rfl,h,.inl ⟨bad,rfl⟩⟩,fun nb st H' h=>⟨rfl,rfl,h,.inr ⟨nb,st,rfl⟩⟩,fun nb ns v H' h=>⟨_,rfl,k3 nb ns H' h⟩⟩
  ·rintro σ1 Cv od H' ⟨rfl,rfl,hbe,hw⟩
   obtain ⟨i,hi,hc,hw0,kk⟩:∃ i,i<6∧Cv=.ref (cl i)∧0<wordI i∧∀ H2,Same H' H2→Q (.int (wordI i)) H2:=by
    rcases hw with ⟨bad,hc⟩ | ⟨nb,st,hc⟩
    ·exact ⟨2,by decide,hc,by decide,fun H2 s=>k1 bad H2 (hbe.same O s)⟩
    ·exact ⟨5,by decide,hc,by decide,fun H2 s=>k2 nb st H2 (hbe.same O s)⟩
   obtain ⟨bm,sh,hin⟩:=EB.all i hi
   refine ⟨cl i,bm,hc,sh,hin,fun e he=>?_⟩
   have s2:=same_new (o:=excO e (cl i) none) he
   have hd:Held cl (upd H' e (excO e (cl i) none)) e i:=⟨hi,none,upd_same,.inl rfl⟩
   refine ⟨_,rfl,e,i,rfl,hd,fun H3 s3=>⟨_,_,rfl,rfl,_,rfl,?_⟩⟩
   refine ite2 (fun _=>?_) (fun z=>absurd (decide_eq_true hw0) z)
   exact ⟨_,rfl,e,i,rfl,hd.same s3,fun H4 s4=>⟨_,rfl,kk H4 (s2.trans (s3.trans s4))⟩⟩
end
end Sf
set_option maxHeartbeats 4000000
namespace Sf
open PySem L2 Pl
seal PS PSs PE PA PSsx PSx PEx
def spCreases (K:PySem.W.Frag):Sp:=fun vs H Q _=>∃ (n:Nat) (a:Addr) (ms:List Int) (m:Nat),vs=[.int (n:Int),.ref a,.int (m:Int)]∧SqL K H a (ms.map V.int)∧1≤n∧n≤60∧ms.length≤60∧m<2147483648 ∧
 ∀ (l:Addr) (cs:List Int) H',Same H H'→H l=none→H' l=some (.lst (cs.map V.int))→cs.length≤60→Q (.ref l) H'
section
variable {P:Program} {w:World} {K:PySem.W.Frag} {mg:Str→Option Value} {base:Heap}
abbrev nmCre:List Str:=["_law_size_here","_law_loose","_law_number_here","_law_many","_law_one","_law_other","_law_way","_law_far"]
theorem scCre:FnScope nmCre ["_law_size_here","_law_loose","_law_number_here"] (defScope s_law_creases):=⟨rfl,rfl,rfl,by decide +kernel,rfl,by decide +kernel,by decide +kernel⟩
theorem ok_creases {f:Addr} {fd:FuncData} (D:Def K mg "_law_creases" s_law_creases ["_law_size_here","_law_loose","_law_number_here"] f fd) (T:Own mg) (M:OwnM mg):FnOk P w K mg base CX0 1 f fd ["_law_size_here","_law_loose","_law_number_here"] (spCreases K):=by
 refine D.fn.ok scCre (fun vs H Q E h=>?_) (fun cdv A outer s H vs Q E hr h=>?_)
 ·obtain ⟨n,a,ms,m,rfl,_⟩:=h
  rfl
 ·obtain ⟨n,a,ms,m,rfl,hS,n1,n2,hml,hm,k⟩:=h
  refine ⟨_,pss_cons (ps_set (i:=3) scCre.nd rfl (Or.inl rfl) (pe_callB (call_max2 rfl) (by rfl) M.max boot_max (pa_cons pe_int (pa_cons (pe_op op_sub (pv 0) pe_int) pa_nil))))
   (pss_cons (ps_set (i:=4) scCre.nd rfl (Or.inl rfl) (pe_op op_mod (pe_op op_fdiv (pv 2) pe_int) (pv 3)))
   (pss_cons (ps_set (i:=5) scCre.nd rfl (Or.inl rfl) (pe_op op_mod (pe_op op_fdiv (pe_op op_mod (pe_op op_mul (pv 2) pe_int) pe_int) pe_int) (pv 3)))
   (pss_cons (ps_set (i:=6) scCre.nd rfl (Or.inl rfl) (pe_op op_mod (pv 2) pe_int))
   (pss_cons (ps_if (pt_cmpR op_eq (pv 6) pe_int (nomark _)) (pss_one (ps_ret (pe_lst (pa_cons (pv 4) (pa_cons (pe_op op_add (pv 4) pe_int) pa_nil))))) pss_nil)
   (pss_cons (ps_if (pt_cmpR op_eq (pv 6) pe_int (nomark _)) (pss_one (ps_ret (pe_lst (pa_cons (pv 5) (pa_cons (pv 4) pa_nil))))) pss_nil)
   (pss_cons (ps_if (pt_cmpR op_eq (pv 6) pe_int (nomark _)) (pss_one (ps_ret (pe_lcomp (cap:=[1]) (caps:=["_law_loose"]) rfl (pi_range1 rfl T.range (pa_cons (pe_op op_sub (pv 0) pe_int) pa_nil)) rfl (by decide +kernel) (by decide +kernel) rfl
      (by show ∀ y:Str×NameKind,y∈_→y.2=NameKind.free→(defScope s_law_creases).names.lookup y.1=some .cell∨(defScope s_law_creases).names.lookup y.1=some .free; decide +kernel) rfl (fun y hy=>by rw [List.mem_singleton.mp hy]; exact ⟨.inl rfl,.inl rfl⟩) (by decide +kernel)
      (fun cl s₃ H₃ fp=>⟨pifs_one (pt_cmpR (op_notIn_seqK (K:=K) rfl) (pv 0) (pv 1) rfl),pv 0⟩)))) pss_nil)
   (pss_cons (ps_if (pt_cmpR op_eq (pv 6) pe_int (nomark _)) (pss_one (ps_ret (pe_callTy call_list_of (by rfl) T.list boot_list (pa_cons (pv 1) pa_nil)))) pss_nil)
   (pss_cons (ps_if (pt_cmpR op_eq (pv 6) pe_int (nomark _)) (pss_one (ps_ret (pe_lst (pa_cons (pv 4) (pa_cons (pv 5) (pa_cons (pe_op op_mod (pe_op op_add (pv 4) (pv 5)) (pv 3)) pa_nil)))))) pss_nil)
   (pss_cons (ps_if (pt_cmpR op_eq (pv 6) pe_int (nomark _))
     (pss_cons (ps_set (i:=7) scCre.nd rfl (Or.inl rfl) (pe_op op_mod (pe_op op_mul (pe_op op_mul (pv 2) pe_int) pe_int) (pe_op op_pow pe_int pe_int)))
     (pss_one (ps_ret (pe_lst (pa_cons (pv 4) (pa_cons (pe_ix ix_list (pe_lst (pa_cons (pe_un un_neg pe_int) (pa_cons (pe_op op_sub (pv 0) pe_int) (pa_cons (pe_op op_add (pv 0) (pv 7)) (pa_cons (pe_op op_sub (pe_un un_neg pe_int) (pv 7)) pa_nil))))) (pe_op op_mod (pe_op op_fdiv (pv 2) pe_int) pe_int) (fun _ _=>rfl)) pa_nil)))))) pss_nil)
   (pss_one (ps_ret (pe_lst (pa_cons (pv 4) pa_nil))))))))))))),?_⟩
  have fin:∀ (l:Addr) (cs:List Int),H l=none→cs.length≤60→Q (.ref l) (upd H l (.lst (cs.map V.int))):=fun l cs hl hc=>k l cs _ (same_new hl) hl upd_same hc
  refine ⟨_,rfl,_,_,rfl,rfl,_,_,rfl,?_⟩
  have hmx:0<(if (n:Int) - 1>1 then (n:Int) - 1 else 1):=by split <;> lia
  generalize (if (n:Int) - 1>1 then (n:Int) - 1 else 1)=mx at hmx
  refine ⟨_,rfl,_,_,rfl,rfl,⟨by decide,by decide⟩,_,rfl,_,_,rfl,rfl,hmx,?_⟩
  refine ⟨_,rfl,_,_,rfl,rfl,.inr ⟨by decide,by decide⟩,_,_,rfl,rfl,(by show (0:Int)<2147483587; decide),_,_,rfl,rfl,⟨by decide,by decide⟩,_,rfl,_,_,rfl,rfl,hmx,?_⟩
  refine ⟨_,rfl,_,_,rfl,rfl,(by show (0:Int)<8; decide),?_⟩
  refine ⟨_,rfl,rfl,_,rfl,ite2 (fun _=>?_) (fun _=>?_)⟩
  ·exact ⟨_,rfl,_,rfl,_,_,rfl,rfl,small_line (by show 2≤1000; decide),fun l hl=>fin l [_,_] hl (by show 2≤60; decide)⟩
  refine ⟨_,rfl,rfl,_,rfl,ite2 (fun _=>?_) (fun _=>?_)⟩
  ·exact ⟨_,rfl,_,rfl,small_line (by show 2≤1000; decide),fun l hl=>fin l [_,_] hl (by show 2≤60; decide)⟩
  refine ⟨_,rfl,rfl,_,rfl,ite2 (fun _=>?_) (fun _=>?_)⟩
  ·refine ⟨_,rfl,_,_,rfl,rfl,_,rfl,by lia,by lia,fun lc' hlc=>?_⟩
   refine lc_range_if (lo:=0) (n:=((n:Int) - 1).toNat) (fun i=>!inV (.int (i:Int)) (ms.map V.int)) (fun i=>.int (i:Int)) (by lia) hlc (fun i H2 R hi s2 hR=>?_) (fun i H2 R hi hp s2 hR=>?_) fun H2 s2 h2=>?_
   ·refine ⟨_,rfl,_,rfl,a,_,rfl,.inl (s2.seq hS),rfl,flat_ints _,_,rfl,?_⟩
    rw [show (0:Int)+(i:Nat)=(i:Int) by lia]
    exact hR H2 (Same.refl _)
   ·refine ⟨_,rfl,?_⟩
    rw [show (0:Int)+(i:Nat)=(i:Int) by lia]
    exact hR H2 (Same.refl _)
   ·refine k lc' (((List.range ((n:Int) - 1).toNat).filter fun i:Nat=>!inV (.int (i:Int)) (ms.map V.int)).map fun i:Nat=>(i:Int)) H2 s2 hlc (h2.trans (by rw [List.map_map]; rfl)) ?_
    rw [List.length_map]
    have:=List.length_filter_le (fun i:Nat=>!inV (.int (i:Int)) (ms.map V.int)) (List.range ((n:Int) - 1).toNat)
    rw [List.length_range] at this
    lia
  refine ⟨_,rfl,rfl,_,rfl,ite2 (fun _=>?_) (fun _=>?_)⟩
  ·exact ⟨_,rfl,a,_,rfl,.inl hS,fun l hl=>fin l ms hl hml⟩
  refine ⟨_,rfl,rfl,_,rfl,ite2 (fun _=>?_) (fun _=>?_)⟩
  ·exact ⟨_,rfl,_,rfl,_,rfl,_,rfl,_,_,rfl,rfl,_,rfl,_,_,rfl,rfl,hmx,small_line (by show 3≤1000; decide),fun l hl=>fin l [_,_,_] hl (by show 3≤60; decide)⟩
  refine ⟨_,rfl,rfl,_,rfl,ite2 (fun _=>?_) (fun _=>?_)⟩
  ·refine ⟨_,rfl,_,_,rfl,rfl,.inr ⟨by decide,by decide⟩,_,_,rfl,rfl,.inr ⟨by decide,by decide⟩,_,_,rfl,rfl,⟨by decide,by decide,by decide⟩,_,_,rfl,rfl,(by show (0:Int)<10 ^ 60; decide),?_⟩
   have far:∃ fr:Int,fr=(m:Int) * 69621 * 69621 % 10 ^ 60:=⟨_,rfl⟩
   refine ⟨_,rfl,_,rfl,_,rfl,_,_,rfl,rfl,_,rfl,_,rfl,_,_,rfl,rfl,_,rfl,_,rfl,_,_,rfl,rfl,small_line (by show 4≤1000; decide),fun l0 hl0=>?_⟩
   refine ⟨_,rfl,_,_,rfl,rfl,⟨by decide,by decide⟩,_,_,rfl,rfl,(by show (0:Int)<4; decide),?_⟩
   have b0:=Int.emod_nonneg ((m:Int) / 8) (show (4:Int)≠0 by decide)
   have b1:=Int.emod_lt_of_pos ((m:Int) / 8) (show (0:Int)<4 by decide)
   have key:∀ x1 x2 x3 x4:Int,∃ v:Int,atI [V.int x1,.int x2,.int x3,.int x4] ((m:Int) / 8 % 4)=some (.int v):=fun x1 x2 x3 x4=>by
    have:(m:Int) / 8 % 4=0∨(m:Int) / 8 % 4=1∨(m:Int) / 8 % 4=2∨(m:Int) / 8 % 4=3:=by lia
    rcases this with e | e | e | e <;> rw [e]
    ·exact ⟨x1,rfl⟩
    ·exact ⟨x2,rfl⟩
    ·exact ⟨x3,rfl⟩
    ·exact ⟨x4,rfl⟩
   obtain ⟨v,hv⟩:=key _ _ _ _
   refine ⟨l0,_,_,_,rfl,rfl,SqL.of upd_same,hv,small_line (by show 2≤1000; decide),fun l hl=>?_⟩
   exact k l [_,v] _ ((same_new hl0).trans (same_new hl)) ((same_new hl0).free hl) upd_same (by show 2≤60; decide)
  exact ⟨_,rfl,small_line (by show 1≤1000; decide),fun l hl=>fin l [_] hl (by show 1≤60; decide)⟩
end
end Sf
set_option maxHeartbeats 4000000
namespace Sf
open PySem L2 Pl
theorem boot_setZ:bootBuiltins "set"=some (.type "set"):=by decide +kernel
theorem boot_anyZ:bootBuiltins "any"=some (.builtin "any"):=by decide +kernel
theorem boot_allZ:bootBuiltins "all"=some (.builtin "all"):=by decide +kernel
structure OwnZ (mg:Str→Option Value):Prop where
 set:mg "set"=none
 any:mg "any"=none
 all:mg "all"=none
 zip:mg "zip"=none
structure Prs (H:Hp) (l:Addr) (ts:List Addr) (es:List (Nat×Nat)):Prop where
 lst:H l=some (.lst (ts.map V.ref))
 len:ts.length=es.length
 at_:∀ (i:Nat) (t:Addr) (e:Nat×Nat),ts[i]?=some t→es[i]?=some e→H t=some (.tup [.int (e.1:Int),.int (e.2:Int)])
theorem Prs.same {H H':Hp} {l:Addr} {ts:List Addr} {es:List (Nat×Nat)} (x:Prs H l ts es) (s:Same H H'):Prs H' l ts es:=⟨s _ _ x.lst,x.len,fun i t e h1 h2=>s _ _ (x.at_ i t e h1 h2)⟩
def spFoldP (K:PySem.W.Frag):Sp:=fun vs H Q _=>∃ (p:Addr) (ns:List Int) (n:Nat),vs=[.ref p]∧SqL K H p (ns.map V.int)∧ns.Perm (iota n)∧1≤n∧n≤60∧NoX (plc ns)∧∀ l H',Same H H'→H l=none→H' l=some (.lst ((plc ns).map V.int))→Q (.ref l) H'
def spCheckCr (K:PySem.W.Frag):Sp:=fun vs H Q _=>∃ (q:Addr) (n:Nat) (cs:List Nat),vs=[.int (n:Int),.ref q]∧SqS K H q (cv cs)∧cs.Nodup∧(∀ c∈cs,c+1<n)∧cs.length≤60∧∀ H',Same H H'→Q .non H'
def spEnds:Sp:=fun vs H Q _=>∃ (o:Addr) (n:Nat) (ms:List Nat),vs=[.int (n:Int),.ref o]∧H o=some (.lst (cv ms))∧1≤n∧ms.length≤60 ∧
 ∀ l ts H',Same H H'→H l=none→(∀ t∈ts,H t=none)→Prs H' l ts (endsP n ms)→Q (.ref l) H'
def spLike:Sp:=fun vs H Q _=>∃ side f l:Nat,vs=[.int (side:Int),.int (f:Int),.int (l:Int)]∧l≤1000∧f≤1000∧∀ a H',Same H H'→H a=none→H' a=some (.lst (cv (likeP side f l)))→Q (.ref a) H'
def spWW (K:PySem.W.Frag):Sp:=fun vs H Q _=>∃ (la t:Addr) (ps:List Int) (s side f l:Nat),vs=[.ref la,.int (s:Int),.int (side:Int),.ref t]∧SqL K H la (ps.map V.int)∧SqT K H t [.int (f:Int),.int (l:Int)]∧f≤l∧l<ps.length∧s<ps.length∧ps.length≤60 ∧
 ∀ H',Same H H'→Q (.bl ((likeP side f l).any fun c=>wr ps c s)) H'
def spInner:Sp:=fun vs H Q _=>∃ (l:Addr) (ts:List Addr) (es:List (Nat×Nat)),vs=[.ref l]∧Prs H l ts es∧1≤es.length∧es.length≤101∧(∀ e∈es,e.1≤e.2) ∧
 ∀ (b:Bool) H',Same H H'→(b=true↔∀ j e,1≤j→j+1<es.length→es[j]?=some e→(e.2 - e.1) % 2=0)→Q (.bl b) H'
def spLies (K:PySem.W.Frag):Sp:=fun vs H Q _=>∃ (la o:Addr) (ps:List Int) (ms:List Nat),vs=[.ref la,.ref o]∧SqL K H la (ps.map V.int)∧H o=some (.lst (cv ms))∧1≤ps.length∧ps.length≤60∧ms.Pairwise (·<·)∧(∀ c∈ms,c+1<ps.length)∧ms.length≤60 ∧
 ∀ (b:Bool) H',Same H H'→(b=true↔Fre ps (fun c=>c∈ms))→Q (.bl b) H'
theorem cv_get {ms:List Nat} {j:Nat} (h:j<ms.length):(cv ms)[j]?=some (.int ((ms.getD j 0:Nat):Int)):=by
 rw [List.getElem?_map,List.getElem?_map,List.getElem?_eq_getElem h]
 simp [List.getD,h]
theorem cv_len (ms:List Nat):(cv ms).length=ms.length:=by rw [List.length_map,List.length_map]
theorem cv_flat (ms:List Nat):(cv ms).all flatV=true:=flat_ints _
section
variable {P:Program} {w:World} {K:PySem.W.Frag} {mg:Str→Option Value} {base:Heap}
seal PS PSs PE PA
theorem scFoldP:FnScope ["pile","pair"] ["pile"] (defScope s_foldable_places):=⟨rfl,rfl,rfl,by decide +kernel,rfl,by decide +kernel,by decide +kernel⟩
theorem ok_foldp {f fX fP fC fCr fW:Addr} {fd fdX fdP fdC fdCr fdW:FuncData} (D:Def K mg "foldable_places" s_foldable_places ["pile"] f fd) (DX:Def K mg "crossing" sCrossing ["pile"] fX fdX) (DP:Def K mg "places" sPlaces ["pile"] fP fdP) (DC:Def K mg "check_pile" sCheck ["pile"] fC fdC)
  (DCr:Def K mg "cross" sCross ["at","one","other"] fCr fdCr) (DW:Def K mg "wraps" sWraps ["at","crease","stamp"] fW fdW) (T:Own mg) (M:OwnM mg):FnOk P w K mg base CX0 4 f fd ["pile"] (spFoldP K):=by
 have GX:FnOk P w K mg base CX0 3 fX fdX ["pile"] (spCrossing K):=ok_crossing DX DP DC DCr DW T M
 have GP:FnOk P w K mg base CX0 2 fP fdP ["pile"] (spPlaces K):=ok_places DP DC T
 refine D.fn.ok scFoldP (fun vs H Q E h=>?_) (fun cdv A outer s H vs Q E hr h=>?_)
 ·obtain ⟨p,ns,n,rfl,_⟩:=h
  rfl
 ·obtain ⟨p,ns,n,rfl,hq,hp,h1,h2,nx,k⟩:=h
  have hr2:=hr.mono (show 2≤3 by decide)
  have pl:(plc ns).length=n:=by rw [plc_length,perm_len hp]
  refine ⟨_,pss_cons (ps_set (i:=1) scFoldP.nd rfl (Or.inl rfl) (pe_call GX hr rfl DX.at_ DX.fn.kp DX.bd .nil pass0 (pa_cons (pv 0) pa_nil)))
   (pss_cons (ps_if (pt_cmpR op_notN (pv 1) pe_non (nomark _)) pss_never pss_nil)
   (pss_one (ps_ret (pe_call GP hr2 rfl DP.at_ DP.fn.kp DP.bd .nil pass0 (pa_cons (pv 0) pa_nil))))),?_⟩
  refine ⟨_,rfl,p,ns,n,rfl,hq,hp,h1,h2,fun H1 s1 _=>?_,fun t a b H1 s1 ht _ c1 c2 c3 c4=>?_⟩
  ·refine ⟨_,rfl,rfl,_,rfl,iteF ?_⟩
   exact ⟨_,rfl,p,ns,n,rfl,s1.seq hq,hp,h1,h2,fun l H2 s2 hl hl2=>k l H2 (s1.trans s2) (s1.free hl) hl2⟩
  ·have:=nx a b c1 (by lia) c3
   rw [c4] at this
   cases this
theorem scCheckCr:FnScope ["stamps","creases","crease"] ["stamps","creases"] (defScope s_check_creases):=⟨rfl,rfl,rfl,by decide +kernel,rfl,by decide +kernel,by decide +kernel⟩
theorem ok_checkcr {f:Addr} {fd:FuncData} (D:Def K mg "check_creases" s_check_creases ["stamps","creases"] f fd) (T:Own mg) (Z:OwnZ mg):FnOk P w K mg base CX0 1 f fd ["stamps","creases"] (spCheckCr K):=by
 refine D.fn.ok scCheckCr (fun vs H Q E h=>?_) (fun cdv A outer s H vs Q E hr h=>?_)
 ·obtain ⟨q,n,cs,rfl,_⟩:=h
  rfl
 ·obtain ⟨q,n,cs,rfl,hq,nd,hb,hl,k⟩:=h
  have cl:=cv_len cs
  obtain ⟨t2,h2,r2⟩:∃ t,PSs ((cxOf CX0 P w K mg base ["stamps","creases","crease"] "check_creases" (defScope s_check_creases) f cdv A outer s H E).nox) ((defBody s_check_creases).drop 1) t ∧
    ∀ (D:Ends) (v:Option V),(∀ H',Same H H'→D.nx [some (.int (n:Int)),some (.ref q),v] H')→t D [some (.int (n:Int)),some (.ref q),v] H:=by
   refine ⟨_,pss_one (ps_if (pt_cmpR op_ne (pe_callB call_lenSet (by rfl) T.len PySem.boot_len (pa_cons (pe_callTy (call_setS rfl) (by rfl) Z.set boot_setZ (pa_cons (pv 1) pa_nil)) pa_nil)) (pe_callB call_len_seq (by rfl) T.len PySem.boot_len (pa_cons (pv 1) pa_nil)) (nomark _)) pss_never pss_nil),?_⟩
   intro D v kD
   refine ⟨_,rfl,q,cz cs,rfl,hq,by rw [List.length_map]; lia,fun l S m hl0 _ hm=>?_⟩
   have s1:=same_new (o:=.set S m) hl0
   refine ⟨l,S,m,rfl,upd_same,_,rfl,q,_,rfl,s1.sqs hq,rfl,_,rfl,?_⟩
   refine iteNS ?_ (kD _ s1)
   show V.int _=V.int _
   have nz:(cz cs).Nodup:=by
    unfold List.Nodup
    rw [List.pairwise_map]
    exact nd.imp fun h z=>h (by lia)
   rw [hm.mpr nz,cl,List.length_map]
  refine ⟨_,pss_cons (ps_for PassesOwn.never rfl (pi_seq (pv 1)) (pg_name (i:=2) scCheckCr.nd rfl (Or.inl rfl))
    (pss_one (ps_if (pw_or (pt_cmpR op_lt (pv 2) pe_int (nomark _)) (pw_or1 (pt_cmpR op_gt (pv 2) (pe_op op_sub (pv 0) pe_int) (nomark _)))).pt pss_never pss_nil))) h2,?_⟩
  have val:∀ (i:Nat) (x:V),(cv cs)[i]?=some x→∃ c:Nat,x=.int (c:Int)∧c+1<n:=fun i x e=>by
   have hm:=List.mem_of_getElem? e
   obtain ⟨z,hz,rfl⟩:=List.mem_map.mp hm
   obtain ⟨c,hc,rfl⟩:=List.mem_map.mp hz
   exact ⟨c,rfl,hb c hc⟩
  refine ⟨_,rfl,q,rfl,?_⟩
  rcases hq with hq | hq
  ·refine .inl ⟨⟨_,hq⟩,for_list (K:=K) (a:=q) (xs:=cv cs) (fun i σ H2=>∃ v:Option V,σ=[some (.int (n:Int)),some (.ref q),v]∧H2=H) ⟨none,rfl,rfl⟩ (fun i σ H2 _ ⟨_,_,e⟩=>by rw [e]; exact hq) ?_ ?_⟩
   ·rintro i x σ H2 hi ⟨v,rfl,rfl⟩
    obtain ⟨c,rfl,hc⟩:=val i x hi
    refine ⟨_,rfl,_,_,rfl,rfl,_,rfl,ite2 (fun z=>?_) (fun _=>⟨_,rfl,_,rfl,_,_,rfl,rfl,_,_,rfl,rfl,_,rfl,ite2 (fun z=>?_) (fun _=>⟨_,rfl,rfl⟩)⟩)⟩
    ·have:=of_decide_eq_true z
     lia
    ·have:=of_decide_eq_true z
     lia
   ·rintro σ H2 ⟨v,rfl,rfl⟩
    exact r2 _ v fun H' s'=>k H' s'
  ·refine .inr ⟨⟨_,hq⟩,for_tup (K:=K) (a:=q) (xs:=cv cs) (fun i σ H2=>∃ v:Option V,σ=[some (.int (n:Int)),some (.ref q),v]∧H2=H) ⟨none,rfl,rfl⟩ (fun i σ H2 _ ⟨_,_,e⟩=>by rw [e]; exact hq) ?_ ?_⟩
   ·rintro i x σ H2 hi ⟨v,rfl,rfl⟩
    obtain ⟨c,rfl,hc⟩:=val i x hi
    refine ⟨_,rfl,_,_,rfl,rfl,_,rfl,ite2 (fun z=>?_) (fun _=>⟨_,rfl,_,rfl,_,_,rfl,rfl,_,_,rfl,rfl,_,rfl,ite2 (fun z=>?_) (fun _=>⟨_,rfl,rfl⟩)⟩)⟩
    ·have:=of_decide_eq_true z
     lia
    ·have:=of_decide_eq_true z
     lia
   ·rintro σ H2 ⟨v,rfl,rfl⟩
    exact r2 _ v fun H' s'=>k H' s'
theorem scEnds:FnScope ["stamps","opened","firsts","lasts"] ["stamps","opened"] (defScope s_ends_of_parts):=⟨rfl,rfl,rfl,by decide +kernel,rfl,by decide +kernel,by decide +kernel⟩
theorem ok_ends {f:Addr} {fd:FuncData} (D:Def K mg "ends_of_parts" s_ends_of_parts ["stamps","opened"] f fd) (T:Own mg) (Z:OwnZ mg):FnOk P w K mg base CX0 1 f fd ["stamps","opened"] spEnds:=by
 refine D.fn.ok scEnds (fun vs H Q E h=>?_) (fun cdv A outer s H vs Q E hr h=>?_)
 ·obtain ⟨o,n,ms,rfl,_⟩:=h
  rfl
 ·obtain ⟨o,n,ms,rfl,ho,h1,hl,k⟩:=h
  have cl:=cv_len ms
  refine ⟨_,pss_cons (ps_set (i:=2) scEnds.nd rfl (Or.inl rfl) (pe_op op_cat (pe_lst (pa_cons pe_int pa_nil)) (pe_lcomp (cap:=[]) (caps:=[]) rfl (pi_list (pv 1))
     rfl (by decide +kernel) (by decide +kernel) rfl (by show ∀ y:Str×NameKind,y∈_→y.2=NameKind.free→(defScope s_ends_of_parts).names.lookup y.1=some .cell∨(defScope s_ends_of_parts).names.lookup y.1=some .free; decide +kernel) rfl (fun y hy=>by cases hy) (by decide +kernel)
     (fun cl s₃ H₃ fp=>⟨pifs_nil,pe_op op_add (pv 0) pe_int⟩))))
   (pss_cons (ps_set (i:=3) scEnds.nd rfl (Or.inl rfl) (pe_op op_cat (pv 1) (pe_lst (pa_cons (pe_op op_sub (pv 0) pe_int) pa_nil))))
   (pss_one (ps_ret (pe_listzip rfl (by rfl) T.list boot_list (by rfl) Z.zip (pa_cons (pv 2) (pa_cons (pv 3) pa_nil)))))),?_⟩
  refine ⟨small_line (by decide),fun l0 hl0=>?_⟩
  have t0:=same_new (o:=.lst [V.int 0]) hl0
  refine ⟨_,rfl,o,rfl,⟨_,SqL.of (t0 _ _ ho)⟩,fun l1 hl1=>?_⟩
  refine lc_list_if (p:=fun _=>true) (f:=fun v=>match v with | .int c=>.int (c+1) | _=>.non) (by rw [cl]; lia) hl1 (SqL.of (t0 _ _ ho)) (fun x H2 R _ _ kR=>kR H2 (Same.refl _)) (fun x H2 R hx _ s2 kR=>?_) fun H2 s2 h2=>?_
  ·obtain ⟨z,hz,rfl⟩:=List.mem_map.mp hx
   exact ⟨_,rfl,_,_,rfl,rfl,kR H2 (Same.refl _)⟩
  rw [List.filter_eq_self.mpr (fun _ _=>rfl),List.map_map,List.map_map] at h2
  have e1:ms.map (((fun v=>match v with | .int c=>V.int (c+1) | _=>.non) ∘ V.int) ∘ fun (c:Nat)=>(c:Int))=ms.map fun (c:Nat)=>V.int ((c:Int)+1):=List.map_congr_left fun c _=>rfl
  rw [e1] at h2
  have sm:ms.length+1≤sizeLine:=small_line (by lia)
  refine ⟨l0,l1,_,_,rfl,rfl,s2 _ _ (upd_same),h2,?_,fun l2 hl2=>?_⟩
  ·rw [List.length_map]
   show 1+ms.length≤_
   lia
  have t2:=same_new (o:=.lst ([V.int 0]++ms.map fun (c:Nat)=>V.int ((c:Int)+1))) hl2
  have s02:Same H _:=t0.trans (s2.trans t2)
  refine ⟨_,rfl,_,rfl,_,_,rfl,rfl,small_line (by show 1≤1000; decide),fun l3 hl3=>?_⟩
  have t3:=same_new (o:=.lst [V.int ((n:Int) - 1)]) hl3
  refine ⟨o,l3,_,_,rfl,rfl,t3 _ _ (s02 _ _ ho),upd_same,?_,fun l4 hl4=>?_⟩
  ·rw [cl]
   exact sm
  have t4:=same_new (o:=.lst (cv ms++[V.int ((n:Int) - 1)])) hl4
  have s24:=t3.trans t4
  refine ⟨_,rfl,_,rfl,l2,l4,[V.int 0]++ms.map (fun (c:Nat)=>V.int ((c:Int)+1)),cv ms++[V.int ((n:Int) - 1)],rfl,SqL.of (s24 _ _ upd_same),SqL.of upd_same,?_,?_,fun l ts H5 s5 hl5 h5 tl ht=>?_⟩
  ·rw [List.length_append,List.length_map]
   show 0<1+ms.length
   lia
  ·rw [List.length_append,List.length_append,List.length_map,cl]
   show 1+ms.length≤ms.length+1
   lia
  have s04:=s02.trans s24
  have tl2:ts.length=ms.length+1:=by
   rw [tl,List.length_append,List.length_map]
   show 1+ms.length=_
   lia
  refine k l ts H5 (s04.trans s5) (s04.free hl5) (fun t htm=>?_) ⟨h5,by rw [endsP_length]; exact tl2,fun i t e hi he=>?_⟩
  ·obtain ⟨i,hi⟩:=List.getElem?_of_mem htm
   exact s04.free (ht i t hi).1
  ·obtain ⟨_,x,y,ex,ey,e5⟩:=ht i t hi
   have hil:i≤ms.length:=by have:=(List.getElem?_eq_some_iff.mp hi).1; lia
   rw [endsP_get hil] at he
   obtain rfl:=Option.some.inj he
   rw [e5]
   congr 3
   ·cases i with
    | zero =>
     have:V.int 0=x:=by simpa using ex
     rw [← this]
     rfl
    | succ i =>
     have ex2:(ms.map fun (c:Nat)=>V.int ((c:Int)+1))[i]?=some x:=ex
     rw [List.getElem?_map,List.getElem?_eq_getElem (show i<ms.length by lia)] at ex2
     have:V.int ((ms[i]:Int)+1)=x:=by simpa using ex2
     rw [← this]
     unfold fstP
     rw [if_neg (by lia)]
     simp [List.getD,show i<ms.length by lia]
   ·congr 1
    by_cases hlt:i<ms.length
    ·rw [List.getElem?_append_left (by rw [cl]; exact hlt),cv_get hlt] at ey
     rw [← Option.some.inj ey]
     unfold lstP
     rw [if_pos hlt]
    ·have ei:i=ms.length:=by lia
     subst ei
     rw [List.getElem?_append_right (by rw [cl]; exact Nat.le_refl _),cl,Nat.sub_self] at ey
     have:V.int ((n:Int) - 1)=y:=by simpa using ey
     rw [← this]
     unfold lstP
     rw [if_neg hlt]
     congr 1
     lia
theorem scLike:FnScope ["side","first","last"] ["side","first","last"] (defScope s_creases_like):=⟨rfl,rfl,rfl,by decide +kernel,rfl,by decide +kernel,by decide +kernel⟩
theorem ok_like {f:Addr} {fd:FuncData} (D:Def K mg "creases_like" s_creases_like ["side","first","last"] f fd) (T:Own mg):FnOk P w K mg base CX0 1 f fd ["side","first","last"] spLike:=by
 refine D.fn.ok scLike (fun vs H Q E h=>?_) (fun cdv A outer s H vs Q E hr h=>?_)
 ·obtain ⟨side,f,l,rfl,_⟩:=h
  rfl
 ·obtain ⟨side,fr,la,rfl,hl,hf,k⟩:=h
  refine ⟨_,pss_one (ps_ret (pe_lcomp (cap:=[0]) (caps:=["side"]) rfl (pi_range2 rfl T.range (pa_cons (pv 1) (pa_cons (pv 2) pa_nil)))
     rfl (by decide +kernel) (by decide +kernel) rfl (by show ∀ y:Str×NameKind,y∈_→y.2=NameKind.free→(defScope s_creases_like).names.lookup y.1=some .cell∨(defScope s_creases_like).names.lookup y.1=some .free; decide +kernel) rfl (fun y hy=>by rw [List.mem_singleton.mp hy]; exact ⟨.inl rfl,.inl rfl⟩) (by decide +kernel)
     (fun cl s₃ H₃ fp=>⟨pifs_one (pt_cmpR op_eq (pe_op op_mod (pv 0) pe_int) (pe_op op_mod (pv 1) pe_int) (nomark _)),pv 0⟩))),?_⟩
  refine ⟨_,rfl,_,rfl,(fr:Int),(la:Int),rfl,⟨by lia,by lia,by lia,by lia⟩,fun l1 hl1=>?_⟩
  have en:((la:Int) - (fr:Int)).toNat=la - fr:=by lia
  rw [en]
  refine lc_range_if (p:=fun i=>decide ((fr+i) % 2=side % 2)) (f:=fun i=>V.int ((fr+i:Nat):Int)) (by lia) hl1 (fun i H2 R hi s2 kR=>?_) (fun i H2 R hi _ s2 kR=>?_) fun H2 s2 h2=>?_
  ·refine ⟨_,rfl,_,_,rfl,rfl,(by show (0:Int)<2; decide),_,rfl,_,_,rfl,rfl,(by show (0:Int)<2; decide),rfl,_,rfl,?_⟩
   have e:decide (V.int (((fr:Int)+(i:Nat)) % 2)=V.int ((side:Int) % 2))=decide ((fr+i) % 2=side % 2):=by
    by_cases h:(fr+i) % 2=side % 2
    ·rw [decide_eq_true h,decide_eq_true]
     congr 1
     lia
    ·rw [decide_eq_false h,decide_eq_false]
     intro z
     injection z with z
     lia
   rw [e]
   exact kR H2 (Same.refl _)
  ·refine ⟨_,rfl,?_⟩
   have:=kR H2 (Same.refl _)
   rw [show ((fr+i:Nat):Int)=(fr:Int)+(i:Nat) by lia] at this
   exact this
  ·refine k l1 H2 s2 hl1 (h2.trans ?_)
   congr 2
   unfold likeP
   show _=List.map V.int (List.map (fun (c:Nat)=>(c:Int)) (List.map _ _))
   rw [List.map_map,List.map_map]
   rfl
theorem scWW:FnScope ["at","stamp","side","ends"] ["at","stamp","side","ends"] (defScope s_wrapped_within):=⟨rfl,rfl,rfl,by decide +kernel,rfl,by decide +kernel,by decide +kernel⟩
theorem ok_ww {f fL fW:Addr} {fd fdL fdW:FuncData} (D:Def K mg "wrapped_within" s_wrapped_within ["at","stamp","side","ends"] f fd) (DL:Def K mg "creases_like" s_creases_like ["side","first","last"] fL fdL) (DW:Def K mg "wraps" sWraps ["at","crease","stamp"] fW fdW) (T:Own mg) (M:OwnM mg) (Z:OwnZ mg) :
  FnOk P w K mg base CX0 2 f fd ["at","stamp","side","ends"] (spWW K):=by
 have GL:FnOk P w K mg base CX0 1 fL fdL ["side","first","last"] spLike:=ok_like DL T
 have GW:FnOk P w K mg base CX0 1 fW fdW ["at","crease","stamp"] (spWraps K):=ok_wraps DW M
 refine D.fn.ok scWW (fun vs H Q E h=>?_) (fun cdv A outer s H vs Q E hr h=>?_)
 ·obtain ⟨la,t,ps,s,side,f,l,rfl,_⟩:=h
  rfl
 ·obtain ⟨la,t,ps,st,side,fr,lt,rfl,ha,ht,h1,h2,h3,h4,k⟩:=h
  refine ⟨_,pss_one (ps_ret (pe_callB (call_anyL rfl) (by rfl) Z.any boot_anyZ (pa_cons (pe_lcomp (cap:=[0,1]) (caps:=["at","stamp"]) rfl
     (pi_list (pe_call GL hr rfl DL.at_ DL.fn.kp DL.bd .nil pass0 (pa_cons (pv 2) (pa_cons (pe_ix ix_tup (pv 3) pe_int (fun _ _=>rfl)) (pa_cons (pe_ix ix_tup (pv 3) pe_int (fun _ _=>rfl)) pa_nil)))))
     rfl (by decide +kernel) (by decide +kernel) rfl (by show ∀ y:Str×NameKind,y∈_→y.2=NameKind.free→(defScope s_wrapped_within).names.lookup y.1=some .cell∨(defScope s_wrapped_within).names.lookup y.1=some .free; decide +kernel) rfl
     (fun y hy=>by rcases List.mem_cons.mp hy with rfl | hy; exact ⟨.inl rfl,.inl rfl⟩; rw [List.mem_singleton.mp hy]; exact ⟨.inl rfl,.inl rfl⟩) (by decide +kernel)
     (fun cl s₃ H₃ fp=>⟨pifs_nil,pe_call GW hr rfl DW.at_ DW.fn.kp DW.bd .nil pass0 (pa_cons (pv 1) (pa_cons (pv 0) (pa_cons (pv 2) pa_nil)))⟩)) pa_nil))),?_⟩
  refine ⟨_,rfl,_,rfl,t,_,0,_,rfl,rfl,ht,rfl,_,rfl,t,_,1,_,rfl,rfl,ht,rfl,side,fr,lt,rfl,by lia,by lia,fun a H1 s1 ha0 ha1=>?_⟩
  refine ⟨a,rfl,⟨_,SqL.of ha1⟩,fun l1 hl1=>?_⟩
  have cl:=cv_len (likeP side fr lt)
  have ll:=likeP_length side fr lt
  refine lc_list_if (p:=fun _=>true) (f:=fun v=>match v with | .int c=>.bl (wr ps c.toNat st) | _=>.non) (by rw [cl]; lia) hl1 (SqL.of ha1) (fun x H2 R _ _ kR=>kR H2 (Same.refl _)) (fun x H2 R hx _ s2 kR=>?_) fun H2 s2 h2'=>?_
  ·obtain ⟨z,hz,rfl⟩:=List.mem_map.mp hx
   obtain ⟨c,hc,rfl⟩:=List.mem_map.mp hz
   obtain ⟨c1,c2,c3⟩:=mem_likeP.mp hc
   refine ⟨_,rfl,_,rfl,_,rfl,la,ps,c,st,rfl,(s1.trans s2).seq ha,by lia,h3,?_⟩
   have kk:=kR H2 (Same.refl _)
   change R (V.bl (wr ps (Int.toNat (c:Int)) st)) H2 at kk
   rw [Int.toNat_natCast] at kk
   exact kk
  ·rw [List.filter_eq_self.mpr (fun _ _=>rfl),List.map_map,List.map_map] at h2'
   refine ⟨l1,(likeP side fr lt).map fun c=>wr ps c st,rfl,SqL.of (h2'.trans ?_),?_⟩
   ·congr 2
    rw [List.map_map]
    exact List.map_congr_left fun c _=>rfl
   ·rw [List.any_map]
    exact k H2 (s1.trans s2)
theorem scInner:FnScope ["parts"] ["parts"] (defScope s_inner_parts_odd):=⟨rfl,rfl,rfl,by decide +kernel,rfl,by decide +kernel,by decide +kernel⟩
theorem cut_inner (xs:List V) (h:1≤xs.length):cutV xs (some 1) (some (-1))=(xs.drop 1).take (xs.length - 2):=by
 unfold cutV
 have e1:HT.sIx xs.length 0 (some 1)=1:=by rw [show (some 1:Option Int)=some ((1:Nat):Int) from rfl,HT.sIx_nat]; lia
 have e2:HT.sIx xs.length xs.length (some (-1))=xs.length - 1:=by
  unfold HT.sIx
  simp
  lia
 rw [e1,e2]
 congr 1
theorem cut_one (xs:List V) (h:1≤xs.length):cutV xs (some 1) none=xs.drop 1:=by
 unfold cutV
 have e1:HT.sIx xs.length 0 (some 1)=1:=by rw [show (some 1:Option Int)=some ((1:Nat):Int) from rfl,HT.sIx_nat]; lia
 rw [e1,HT.sIx_none]
 exact List.take_of_length_le (by rw [List.length_drop]; exact Nat.le_refl _)
theorem ok_inner {f:Addr} {fd:FuncData} (D:Def K mg "inner_parts_odd" s_inner_parts_odd ["parts"] f fd) (T:Own mg) (Z:OwnZ mg):FnOk P w K mg base CX0 1 f fd ["parts"] spInner:=by
 refine D.fn.ok scInner (fun vs H Q E h=>?_) (fun cdv A outer s H vs Q E hr h=>?_)
 ·obtain ⟨l,ts,es,rfl,_⟩:=h
  rfl
 ·obtain ⟨l,ts,es,rfl,hp,h1,h2,hle,k⟩:=h
  refine ⟨_,pss_one (ps_ret (pe_callB (call_allL rfl) (by rfl) Z.all boot_allZ (pa_cons (pe_lcomp2 (cap:=[]) (caps:=[]) rfl (pi_list (pe_slice sl_list (pv 0) (po_some pe_int) (po_some (pe_un un_neg pe_int))))
     rfl (by decide +kernel) (by decide +kernel) rfl rfl (by show ∀ y:Str×NameKind,y∈_→y.2=NameKind.free→(defScope s_inner_parts_odd).names.lookup y.1=some .cell∨(defScope s_inner_parts_odd).names.lookup y.1=some .free; decide +kernel) rfl (fun y hy=>by cases hy) (by decide +kernel)
     (fun cl s₃ H₃ fp=>⟨pifs_nil,pe_cmpR op_eq (pe_op op_mod (pe_op op_sub (pv 1) (pv 0)) pe_int) pe_int (nomark _)⟩)) pa_nil))),?_⟩
  refine ⟨_,rfl,_,rfl,_,rfl,_,rfl,l,_,rfl,SqL.of hp.lst,fun p1 hp1=>?_⟩
  have tl:=hp.len
  have ec:cutV (ts.map V.ref) (some 1) (some (-1))=((ts.drop 1).take (ts.length - 2)).map V.ref:=by
   rw [cut_inner _ (by rw [List.length_map]; lia),List.length_map,List.map_take,List.map_drop]
  rw [ec]
  have t1:=same_new (o:=.lst (((ts.drop 1).take (ts.length - 2)).map V.ref)) hp1
  refine ⟨p1,rfl,⟨_,SqL.of upd_same⟩,fun l1 hl1=>?_⟩
  have gi:∀ i,i<ts.length - 2→((ts.drop 1).take (ts.length - 2))[i]?=ts[i+1]?∧((es.drop 1).take (es.length - 2))[i]?=es[i+1]?:=fun i hi=>by
   rw [List.getElem?_take_of_lt hi,List.getElem?_drop,List.getElem?_take_of_lt (by lia),List.getElem?_drop,show 1+i=i+1 by lia]
   exact ⟨rfl,rfl⟩
  have lt1:((ts.drop 1).take (ts.length - 2)).length=ts.length - 2:=by rw [List.length_take,List.length_drop]; lia
  have le1:((es.drop 1).take (es.length - 2)).length=es.length - 2:=by rw [List.length_take,List.length_drop]; lia
  refine lc2_list (ps:=((es.drop 1).take (es.length - 2)).map fun e=>(V.int (e.1:Int),V.int (e.2:Int))) (fun i v _=>∃ e,es[i+1]?=some e∧v=.bl (decide ((e.2 - e.1) % 2=0))) (fun i v H2 H3 z _=>z) (by lia) hl1 (SqL.of upd_same) (by rw [List.length_map,lt1,le1,tl]) ?_ ?_ ?_
  ·intro i t p hi hpi
   have hlt:i<ts.length - 2:=by have:=(List.getElem?_eq_some_iff.mp hi).1; lia
   obtain ⟨g1,g2⟩:=gi i hlt
   rw [g1] at hi
   rw [List.getElem?_map,g2] at hpi
   cases e:es[i+1]? with
   | none=>rw [e] at hpi; cases hpi
   | some q =>
    rw [e] at hpi
    obtain rfl:=Option.some.inj hpi
    exact SqT.of (t1 _ _ (hp.at_ (i+1) t q hi e))
  ·intro i p ys H2 R hpi s2 _ kR
   have hlt:i<es.length - 2:=by have:=(List.getElem?_eq_some_iff.mp hpi).1; rw [List.length_map,le1] at this; exact this
   obtain ⟨g1,g2⟩:=gi i (by lia)
   rw [List.getElem?_map,g2] at hpi
   cases e:es[i+1]? with
   | none=>rw [e] at hpi; cases hpi
   | some q =>
    rw [e] at hpi
    obtain rfl:=Option.some.inj hpi
    have hq:=hle q (List.mem_of_getElem? e)
    refine ⟨_,rfl,_,rfl,_,_,rfl,rfl,_,_,rfl,rfl,(by show (0:Int)<2; decide),rfl,kR _ H2 (Same.refl _) ⟨q,e,?_⟩⟩
    congr 1
    by_cases h:(q.2 - q.1) % 2=0
    ·rw [decide_eq_true h,decide_eq_true]
     have e3:(((q.2:Nat):Int) - ((q.1:Nat):Int)) % 2=0:=by lia
     exact congrArg V.int e3
    ·rw [decide_eq_false h,decide_eq_false]
     intro z
     injection z with z
     lia
  ·intro vs H2 s2 h2l vl hv
   rw [List.length_map,le1] at vl
   have eb:vs=((List.range (es.length - 2)).map fun i=>decide (((es.getD (i+1) (0,0)).2 - (es.getD (i+1) (0,0)).1) % 2=0)).map V.bl:=by
    refine List.ext_getElem? fun i=>?_
    by_cases hi:i<es.length - 2
    ·have hvi:vs[i]?=some vs[i]:=List.getElem?_eq_getElem (by lia)
     obtain ⟨e,e1,e2⟩:=hv i _ hvi
     rw [hvi,e2,List.getElem?_map,List.getElem?_map,List.getElem?_range hi]
     simp [List.getD,e1]
    ·rw [List.getElem?_eq_none (by lia),List.getElem?_eq_none (by rw [List.length_map,List.length_map,List.length_range]; lia)]
   rw [eb] at h2l
   refine ⟨l1,_,rfl,SqL.of h2l,k _ H2 (t1.trans s2) ?_⟩
   rw [List.all_eq_true]
   constructor
   ·intro h j e j1 j2 ej
    have:=h _ (List.mem_map.mpr ⟨j - 1,List.mem_range.mpr (by lia),rfl⟩)
    have:=of_decide_eq_true this
    rw [show j - 1+1=j by lia] at this
    simpa [List.getD,ej] using this
   ·intro h b hb
    obtain ⟨i,hi,rfl⟩:=List.mem_map.mp hb
    have hi:=List.mem_range.mp hi
    have ei:es[i+1]?=some (es[i+1]'(by lia)):=List.getElem?_eq_getElem (by lia)
    have:=h (i+1) _ (by lia) (by lia) ei
    refine decide_eq_true ?_
    simpa [List.getD,ei] using this
theorem scLies:FnScope ["at","opened","parts","crease","before","behind"] ["at","opened"] (defScope s_lies_free):=⟨rfl,rfl,rfl,by decide +kernel,rfl,by decide +kernel,by decide +kernel⟩
theorem ok_lies {f fE fI fWW fL fW:Addr} {fd fdE fdI fdWW fdL fdW:FuncData} (D:Def K mg "lies_free" s_lies_free ["at","opened"] f fd) (DE:Def K mg "ends_of_parts" s_ends_of_parts ["stamps","opened"] fE fdE) (DI:Def K mg "inner_parts_odd" s_inner_parts_odd ["parts"] fI fdI)
  (DWW:Def K mg "wrapped_within" s_wrapped_within ["at","stamp","side","ends"] fWW fdWW) (DL:Def K mg "creases_like" s_creases_like ["side","first","last"] fL fdL) (DW:Def K mg "wraps" sWraps ["at","crease","stamp"] fW fdW) (T:Own mg) (M:OwnM mg) (Z:OwnZ mg):FnOk P w K mg base CX0 3 f fd ["at","opened"] (spLies K):=by
 have GE:FnOk P w K mg base CX0 1 fE fdE ["stamps","opened"] spEnds:=ok_ends DE T Z
 have GI:FnOk P w K mg base CX0 1 fI fdI ["parts"] spInner:=ok_inner DI T Z
 have GW:FnOk P w K mg base CX0 2 fWW fdWW ["at","stamp","side","ends"] (spWW K):=ok_ww DWW DL DW T M Z
 refine D.fn.ok scLies (fun vs H Q E h=>?_) (fun cdv A outer s H vs Q E hr h=>?_)
 ·obtain ⟨la,o,ps,ms,rfl,_⟩:=h
  rfl
 ·obtain ⟨la,o,ps,ms,rfl,ha,ho,p1,p2,inc,bnd,ml,k⟩:=h
  have hr1:=hr.mono (show 1≤2 by decide)
  have LK:=looks_iff (ps:=ps) (n:=ps.length) rfl inc bnd
  refine ⟨_,pss_cons (ps_set (i:=2) scLies.nd rfl (Or.inl rfl) (pe_call GE hr1 rfl DE.at_ DE.fn.kp DE.bd .nil pass0 (pa_cons (pe_callB call_len_seq (by rfl) T.len PySem.boot_len (pa_cons (pv 0) pa_nil)) (pa_cons (pv 1) pa_nil))))
   (pss_cons (ps_if (pt_not (pt_val (pe_call GI hr1 (by rfl) DI.at_ DI.fn.kp DI.bd .nil pass0 (pa_cons (pv 2) pa_nil)))) (pss_one (ps_ret pe_bl)) pss_nil)
   (pss_cons (ps_for PassesOwn.never rfl (pi_zip3 rfl Z.zip (pa_cons (pv 1) (pa_cons (pv 2) (pa_cons (pe_slice sl_list (pv 2) (po_some pe_int) po_none) pa_nil))))
     (pg_tup rfl (pgs_cons (pg_name (i:=3) scLies.nd rfl (Or.inl rfl)) (pgs_cons (pg_name (i:=4) scLies.nd rfl (Or.inl rfl)) (pgs_cons (pg_name (i:=5) scLies.nd rfl (Or.inl rfl)) pgs_nil))))
    (pss_one (ps_if (pw_or (pt_val (pe_call GW hr (by rfl) DWW.at_ DWW.fn.kp DWW.bd .nil pass0 (pa_cons (pv 0) (pa_cons (pv 3) (pa_cons (pv 3) (pa_cons (pv 4) pa_nil)))))) (pw_or1 (pt_val (pe_call GW hr (by rfl) DWW.at_ DWW.fn.kp DWW.bd .nil pass0 (pa_cons (pv 0) (pa_cons (pe_op op_add (pv 3) pe_int) (pa_cons (pv 3) (pa_cons (pv 5) pa_nil)))))))).pt (pss_one (ps_ret pe_bl)) pss_nil)))
   (pss_one (ps_ret pe_bl)))),?_⟩
  refine ⟨_,rfl,la,_,rfl,.inl ha,_,rfl,o,ps.length,ms,?_,ho,p1,by lia,fun l ts H1 s1 hl0 ht0 hp=>?_⟩
  ·show [V.int ((ps.map V.int).length:Int),V.ref o]=[V.int (ps.length:Int),V.ref o]
   rw [List.length_map]
  have el:=endsP_length ps.length ms
  have tl:=hp.len
  have eget:∀ {j},j≤ms.length→(endsP ps.length ms)[j]?=some (fstP ms j,lstP ps.length ms j):=fun h=>endsP_get h
  refine ⟨_,rfl,l,ts,endsP ps.length ms,rfl,hp,by lia,by lia,fun e he=>?_,fun b H2 s2 hb=>?_⟩
  ·obtain ⟨j,hj⟩:=List.getElem?_of_mem he
   have hjl:=(List.getElem?_eq_some_iff.mp hj).1
   rw [eget (by lia)] at hj
   obtain rfl:=Option.some.inj hj
   exact (fst_le inc bnd p1 (by lia)).1
  have hodd:b=true↔∀ j,1≤j→j<ms.length→(lstP ps.length ms j - fstP ms j) % 2=0:=by
   rw [hb]
   constructor
   ·intro h j j1 j2
    exact h j _ j1 (by lia) (eget (by lia))
   ·intro h j e j1 j2 ej
    rw [eget (by lia)] at ej
    obtain rfl:=Option.some.inj ej
    exact h j j1 (by lia)
  refine ⟨b,rfl,?_⟩
  cases b with
  | false =>
   refine iteT ?_
   refine k false H2 (s1.trans s2) ⟨fun z=>(by cases z),fun F=>?_⟩
   exact hodd.mpr (LK.mpr F).odd
  | true =>
   refine iteF ?_
   have odd:=hodd.mp rfl
   have s12:=s1.trans s2
   have hp2:=hp.same s2
   refine ⟨_,rfl,_,rfl,_,rfl,_,rfl,l,_,rfl,SqL.of hp2.lst,fun p3 hp3=>?_⟩
   have ec:cutV (ts.map V.ref) (some 1) none=(ts.drop 1).map V.ref:=by rw [cut_one _ (by rw [List.length_map]; lia),List.map_drop]
   rw [ec]
   have t3:=same_new (o:=.lst ((ts.drop 1).map V.ref)) hp3
   have s13:=s12.trans t3
   have hp4:=hp2.same t3
   refine ⟨o,l,p3,rfl,⟨_,SqL.of (s13 _ _ ho)⟩,⟨_,SqL.of hp4.lst⟩,⟨_,SqL.of upd_same⟩,for_zip3 (K:=K) (xs:=cv ms) (ys:=ts.map V.ref) (zs:=(ts.drop 1).map V.ref)
    (fun i σ H4=>∃ (u v x:Option V),σ=[some (.ref la),some (.ref o),some (.ref l),u,v,x]∧Same (upd H2 p3 (.lst ((ts.drop 1).map V.ref))) H4∧(∀ j,j<i→(∀ d∈likeP (ms.getD j 0) (fstP ms j) (ms.getD j 0),wr ps d (ms.getD j 0)=false)∧∀ d∈likeP (ms.getD j 0) (ms.getD j 0+1) (lstP ps.length ms (j+1)),wr ps d (ms.getD j 0+1)=false))
    ⟨none,none,none,rfl,Same.refl _,fun j hj=>by lia⟩ (fun i σ H4 ⟨_,_,_,_,s4,_⟩=>⟨SqL.of (s4 _ _ (s13 _ _ ho)),SqL.of (s4 _ _ hp4.lst),SqL.of (s4 _ _ upd_same)⟩) (by rw [cv_len,List.length_map]; lia) (by rw [cv_len,List.length_map,List.length_drop]; lia) ?_ ?_⟩
   ·rintro i x y z t σ H4 hx hy hz ht ⟨u,v,x',rfl,s4,inv⟩
    have hi:i<ms.length:=by have:=(List.getElem?_eq_some_iff.mp hx).1; rw [cv_len] at this; exact this
    rw [cv_get hi] at hx
    obtain rfl:=Option.some.inj hx
    have hti:ts[i]?=some (ts[i]'(by lia)):=List.getElem?_eq_getElem (by lia)
    have hti1:ts[i+1]?=some (ts[i+1]'(by lia)):=List.getElem?_eq_getElem (by lia)
    rw [List.getElem?_map,hti] at hy
    obtain rfl:=Option.some.inj hy
    rw [List.getElem?_map,List.getElem?_drop,show 1+i=i+1 by lia,hti1] at hz
    obtain rfl:=Option.some.inj hz
    have t5:=same_new (o:=.tup [V.int ((ms.getD i 0:Nat):Int),V.ref ts[i],V.ref ts[i+1]]) ht
    have s5:=s4.trans t5
    have e0:=s5 _ _ (hp4.at_ i _ _ hti (eget (by lia)))
    have e1:=s5 _ _ (hp4.at_ (i+1) _ _ hti1 (eget (by lia)))
    have ha5:=s5.seq (s13.seq ha)
    have hci:=bnd _ (get_mem hi)
    have f0:=fst_le inc bnd p1 (show i≤ms.length by lia)
    have f1:=fst_le inc bnd p1 (show i+1≤ms.length by lia)
    have el0:lstP ps.length ms i=ms.getD i 0:=by unfold lstP; rw [if_pos hi]
    have ef1:fstP ms (i+1)=ms.getD i 0+1:=by unfold fstP; rw [if_neg (by lia)]; rfl
    rw [el0] at e0 f0
    rw [ef1] at e1 f1
    refine ⟨t,_,rfl,SqT.of upd_same,rfl,_,_,rfl,_,_,rfl,_,_,rfl,rfl,?_⟩
    refine ⟨_,rfl,_,rfl,_,rfl,_,rfl,la,_,ps,ms.getD i 0,ms.getD i 0,fstP ms i,ms.getD i 0,rfl,ha5,SqT.of e0,f0.1,by lia,by lia,p2,fun H6 s6=>⟨_,rfl,?_⟩⟩
    refine ite2 (fun y=>?_) (fun y=>?_)
    ·refine k false H6 (s13.trans (s5.trans s6)) ⟨fun z=>(by cases z),fun F=>?_⟩
     exfalso
     obtain ⟨d,hd,hw⟩:=List.any_eq_true.mp y
     have:=(LK.mpr F).up i hi d hd
     rw [this] at hw
     cases hw
    ·have up:∀ d∈likeP (ms.getD i 0) (fstP ms i) (ms.getD i 0),wr ps d (ms.getD i 0)=false:=fun d hd=>by
      cases q:wr ps d (ms.getD i 0) with
      | false=>rfl
      | true=>exact absurd (List.any_eq_true.mpr ⟨d,hd,q⟩) y
     refine ⟨_,rfl,_,rfl,_,_,rfl,rfl,_,rfl,_,rfl,la,_,ps,ms.getD i 0+1,ms.getD i 0,ms.getD i 0+1,lstP ps.length ms (i+1),rfl,s6.seq ha5,SqT.of (s6 _ _ e1),f1.1,f1.2,by lia,p2,fun H7 s7=>⟨_,rfl,?_⟩⟩
     refine ite2 (fun y2=>?_) (fun y2=>?_)
     ·refine k false H7 (s13.trans (s5.trans (s6.trans s7))) ⟨fun z=>(by cases z),fun F=>?_⟩
      exfalso
      obtain ⟨d,hd,hw⟩:=List.any_eq_true.mp y2
      have:=(LK.mpr F).dn i hi d hd
      rw [this] at hw
      cases hw
     ·refine ⟨_,_,_,rfl,s5.trans (s6.trans s7),fun j hj=>?_⟩
      by_cases ej:j=i
      ·subst ej
       refine ⟨up,fun d hd=>?_⟩
       cases q:wr ps d (ms.getD j 0+1) with
       | false=>rfl
       | true=>exact absurd (List.any_eq_true.mpr ⟨d,hd,q⟩) y2
      ·exact inv j (by lia)
   ·rintro σ H4 ⟨u,v,x,rfl,s4,inv⟩
    rw [cv_len] at inv
    refine k true H4 (s13.trans s4) ⟨fun _=>LK.mp ⟨odd,fun j hj=>(inv j hj).1,fun j hj=>(inv j hj).2⟩,fun _=>rfl⟩
end
end Sf
set_option maxHeartbeats 4000000
namespace Pl
open PySem L2
theorem partsL_get {ns:List Int} {n:Nat} (h:ns.Perm (iota n)):∀ (ms:List Nat) (first j:Nat),j≤ms.length→(partsL ns first ms)[j]?=some (ns.filter fun s=>decide (((if j=0 then first else ms.getD (j - 1) 0+1:Nat):Int)≤s) && decide (s≤(lstP n ms j:Int)))
 | [],first,j,hj=>by
  have e:j=0:=by simpa using hj
  subst e
  show some (ns.filter fun s=>decide ((first:Int)≤s))=_
  congr 1
  refine List.filter_congr fun s hs=>?_
  have:=(perm_mem h).mp hs
  have e2:decide (s≤(lstP n [] 0:Int))=true:=decide_eq_true (by unfold lstP; simp; lia)
  rw [e2,Bool.and_true]
  rfl
 | c::cs,first,j,hj=>by
  cases j with
  | zero =>
   show some (ns.filter fun s=>decide ((first:Int)≤s) && decide (s≤(c:Int)))=_
   have e:lstP n (c::cs) 0=c:=by unfold lstP; simp
   rw [e]
   rfl
  | succ j =>
   have ih:=partsL_get h cs (c+1) j (by simpa using hj)
   show (partsL ns (c+1) cs)[j]?=_
   rw [ih]
   have e1:(if j=0 then c+1 else cs.getD (j - 1) 0+1:Nat)=(if j+1=0 then first else (c::cs).getD (j+1 - 1) 0+1:Nat):=by
    have r:(if j+1=0 then first else (c::cs).getD (j+1 - 1) 0+1:Nat)=(c::cs).getD j 0+1:=if_neg (by lia)
    rw [r]
    cases j with
    | zero=>rfl
    | succ k=>rfl
   have e2:lstP n cs j=lstP n (c::cs) (j+1):=by
    unfold lstP
    by_cases hj2:j<cs.length
    ·rw [if_pos hj2,if_pos (by simpa using hj2)]
     rfl
    ·rw [if_neg hj2,if_neg (by simpa using hj2)]
   rw [e1,e2]
theorem sorted_nat {cs:List Nat} {ms:List Int} (mp:ms.Perm (cs.map fun (c:Nat)=>(c:Int))) (so:ms.Pairwise (·≤·)) (nd:cs.Nodup):∃ rs:List Nat,ms=rs.map (fun (c:Nat)=>(c:Int))∧rs.Pairwise (·<·)∧(∀ c,c∈rs↔c∈cs)∧rs.length=cs.length:=by
 have mz:ms=(ms.map Int.toNat).map (fun (c:Nat)=>(c:Int)):=by
  have e:ms.map ((fun (c:Nat)=>(c:Int)) ∘ Int.toNat)=ms.map id:=List.map_congr_left fun x hx=>by
   obtain ⟨c,_,rfl⟩:=List.mem_map.mp (mp.mem_iff.mp hx)
   show ((Int.toNat (c:Int):Nat):Int)=(c:Int)
   rw [Int.toNat_natCast]
  rw [List.map_map,e,List.map_id]
 have ndz:(cs.map fun (c:Nat)=>(c:Int)).Nodup:=by
  unfold List.Nodup
  rw [List.pairwise_map]
  exact nd.imp fun h z=>h (by lia)
 refine ⟨ms.map Int.toNat,mz,?_,fun c=>?_,by rw [List.length_map,mp.length_eq,List.length_map]⟩
 ·rw [List.pairwise_map]
  refine List.Pairwise.imp_of_mem ?_ (List.pairwise_and_iff.mpr ⟨so,mp.nodup_iff.mpr ndz⟩)
  intro a b ha hb hab
  obtain ⟨ca,_,rfl⟩:=List.mem_map.mp (mp.mem_iff.mp ha)
  obtain ⟨cb,_,rfl⟩:=List.mem_map.mp (mp.mem_iff.mp hb)
  have h1:=hab.1
  have h2:=hab.2
  rw [Int.toNat_natCast,Int.toNat_natCast]
  lia
 ·rw [List.mem_map]
  constructor
  ·rintro ⟨x,hx,rfl⟩
   obtain ⟨c,hc,rfl⟩:=List.mem_map.mp (mp.mem_iff.mp hx)
   rw [Int.toNat_natCast]
   exact hc
  ·intro hc
   exact ⟨(c:Int),mp.mem_iff.mpr (List.mem_map.mpr ⟨c,hc,rfl⟩),by rw [Int.toNat_natCast]⟩
theorem nodup_le:∀ (n:Nat) (l:List Nat),l.Nodup→(∀ c∈l,c<n)→l.length≤n
 | 0,l,_,h=>by
  cases l with
  | nil=>exact Nat.le_refl _
  | cons a r=>exact absurd (h a (List.mem_cons_self ..)) (by lia)
 | n+1,l,nd,h=>by
  have ih:=nodup_le n (l.erase n) (nd.erase n) fun c hc=>by
   have:=(nd.mem_erase_iff).mp hc
   have:=h c this.2
   lia
  by_cases hn:n∈l
  ·rw [List.length_erase_of_mem hn] at ih
   lia
  ·rw [List.erase_of_not_mem hn] at ih
   lia
theorem inv_int {x:Int} (ms:List Int):inV (.int x) (ms.map V.int)=decide (x∈ms):=by
 refine Bool.eq_iff_iff.mpr ?_
 unfold inV
 rw [List.any_eq_true,decide_eq_true_eq]
 constructor
 ·rintro ⟨v,hv,e⟩
  obtain ⟨y,hy,rfl⟩:=List.mem_map.mp hv
  have:eqV (.int y) (.int x)=decide (y=x):=rfl
  rw [this] at e
  rw [← of_decide_eq_true e]
  exact hy
 ·intro h
  exact ⟨.int x,List.mem_map_of_mem h,(decide_eq_true rfl:decide (x=x)=true)⟩
end Pl
namespace Sf
open PySem L2 Pl
abbrev sInit:Stmt:=inClass s_Bench 0
abbrev sDraw:Stmt:=inClass s_Bench 1
abbrev sPress:Stmt:=inClass s_Bench 2
abbrev sSettle:Stmt:=inClass s_Bench 3
abbrev sLoose:Stmt:=inClass s_Bench 4
abbrev sPartsB:Stmt:=inClass s_Bench 5
abbrev sBetween:Stmt:=inClass s_Bench 6
structure BCl (K:PySem.W.Frag) (C:Addr):Prop where
 cl:Cls K C
 nAt:NoAttr K C "at"
 nPi:NoAttr K C "pile"
 nOp:NoAttr K C "opened"
structure MDef (K:PySem.W.Frag) (C:Addr) (x qual:Str) (st:Stmt) (ps:List Str) (f:Addr) (fd:FuncData):Prop where
 fn:Fun K x qual st f fd
 bd:Binds K fd ps []
 me:Meth K C x f
def bFs (la lp lo:Addr):List (Str×V):=[("at",.ref la),("pile",.ref lp),("opened",.ref lo)]
structure BAt (C:Addr) (H:Hp) (b dx la lp lo:Addr) (ns:List Int) (ms:List Nat):Prop where
 ins:H b=some (.ins C dx (bFs la lp lo))
 own:H dx=some (.own b)
 at_:H la=some (.lst ((plc ns).map V.int))
 pi_:H lp=some (.lst (ns.map V.int))
 op_:H lo=some (.lst (cv ms))
def BenchP (C:Addr):BP:=fun H b ns L own=>∃ (dx la lp lo:Addr) (ms:List Nat),BAt C H b dx la lp lo ns ms∧Rise L ms∧(1≤ns.length∧∀ c∈ms,c+1<ns.length)∧∀ y,own y↔(y=b∨y=dx∨y=la∨y=lp∨y=lo)
theorem benchP_ok (C:Addr):BenchOk C (BenchP C) where
 ins:=fun {H b ns L own} ⟨dx,la,lp,lo,ms,B,_⟩=>⟨dx,_,B.ins,rfl,rfl,rfl,rfl⟩
 held:=fun {H b ns L own x} ⟨dx,la,lp,lo,ms,B,_,_,O⟩ hx=>by
  rcases (O x).mp hx with rfl | rfl | rfl | rfl | rfl
  ·rw [B.ins]; simp
  ·rw [B.own]; simp
  ·rw [B.at_]; simp
  ·rw [B.pi_]; simp
  ·rw [B.op_]; simp
 keep:=fun {H H' b ns L own} ⟨dx,la,lp,lo,ms,B,R,bd,O⟩ k =>
  ⟨dx,la,lp,lo,ms,⟨(k b ((O b).mpr (.inl rfl))).trans B.ins,(k dx ((O dx).mpr (.inr (.inl rfl)))).trans B.own,(k la ((O la).mpr (.inr (.inr (.inl rfl))))).trans B.at_,(k lp ((O lp).mpr (.inr (.inr (.inr (.inl rfl)))))).trans B.pi_,(k lo ((O lo).mpr (.inr (.inr (.inr (.inr rfl)))))).trans B.op_⟩,R,bd,O⟩
theorem BAt.same {C:Addr} {H H':Hp} {b dx la lp lo:Addr} {ns:List Int} {ms:List Nat} (B:BAt C H b dx la lp lo ns ms) (s:Same H H'):BAt C H' b dx la lp lo ns ms:=⟨s _ _ B.ins,s _ _ B.own,s _ _ B.at_,s _ _ B.pi_,s _ _ B.op_⟩
theorem BenchP.congr {C:Addr} {H:Hp} {b:Addr} {ns:List Int} {L L':Nat→Prop} {own:Addr→Prop} (h:BenchP C H b ns L own) (e:∀ c,L c↔L' c):BenchP C H b ns L' own:=by
 obtain ⟨dx,la,lp,lo,ms,B,R,bd,O⟩:=h
 exact ⟨dx,la,lp,lo,ms,B,⟨fun c=>(R.mem c).trans (e c),R.inc⟩,bd,O⟩
def spSettle (K:PySem.W.Frag) (C:Addr):Sp:=fun vs H Q _=>∃ (b q dx la lp lo:Addr) (ns:List Int) (n:Nat) (ms cs:List Nat),vs=[.ref b,.ref q]∧BAt C H b dx la lp lo ns ms∧H q=some (.lst (cv cs))∧ns.Perm (iota n)∧1≤n∧n≤60∧cs.Nodup∧(∀ c∈cs,c+1<n)∧cs.length≤60∧Fre (plc ns) (fun c=>c∈cs) ∧
 ∀ (rs:List Nat) (l:Addr) H',(∀ y o,H y=some o→y≠b→H' y=some o)→H l=none→BAt C H' b dx la lp l ns rs→rs.Pairwise (·<·)→(∀ c,c∈rs↔c∈cs)→Q .non H'
def spBetween (C:Addr):Sp:=fun vs H Q _=>∃ (b dx la lp lo:Addr) (ns:List Int) (ms:List Nat) (f l:Nat),vs=[.ref b,.int (f:Int),.int (l:Int)]∧BAt C H b dx la lp lo ns ms∧ns.length≤60 ∧
 ∀ a H',Same H H'→H a=none→H' a=some (.lst ((ns.filter fun s=>decide ((f:Int)≤s) && decide (s≤(l:Int))).map V.int))→Q (.ref a) H'
section
variable {P:Program} {w:World} {K:PySem.W.Frag} {mg:Str→Option Value} {base:Heap}
seal PS PSs PE PA
theorem scInitB:FnScope ["self","pile"] ["self","pile"] (defScope sInit):=⟨rfl,rfl,rfl,by decide +kernel,rfl,by decide +kernel,by decide +kernel⟩
theorem ok_initB {C f fF:Addr} {fd fdF:FuncData} (F:Fun K "__init__" "Bench.__init__" sInit f fd) (BC:BCl K C) (DF:Def K mg "foldable_places" s_foldable_places ["pile"] fF fdF) (GF:FnOk P w K mg base CX0 4 fF fdF ["pile"] (spFoldP K)) (T:Own mg):FnOk P w K mg base CX0 5 f fd ["self","pile"] (spInit K C (BenchP C)):=by
 refine F.ok scInitB (fun vs H Q E h=>?_) (fun cdv A outer s H vs Q E hr h=>?_)
 ·obtain ⟨x,p,dx,ns,n,rfl,_⟩:=h
  rfl
 ·obtain ⟨x,p,dx,ns,n,rfl,hx,hdx,hp,npx,npd,pm,n1,n2,nx,k⟩:=h
  have nl:=perm_len pm
  have l1:∀ {v:V},(putF "at" v []).length<1000:=fun {v}=>Nat.lt_of_le_of_lt (length_putF _ _ _) (by decide)
  have l2:∀ {v u:V},(putF "pile" u (putF "at" v [])).length<1000:=fun {v u}=>Nat.lt_of_le_of_lt (length_putF _ _ _) (Nat.lt_of_le_of_lt (Nat.add_le_add_right (length_putF _ _ _) 1) (by decide))
  refine ⟨_,pss_cons (ps_fld (pv 0) (pe_call GF hr rfl DF.at_ DF.fn.kp DF.bd .nil pass0 (pa_cons (pv 1) pa_nil)) rfl)
   (pss_cons (ps_fld (pv 0) (pe_callTy call_list_of (by rfl) T.list boot_list (pa_cons (pv 1) pa_nil)) rfl)
   (pss_one (ps_fld (pv 0) (pe_lst pa_nil) rfl))),?_⟩
  refine ⟨_,rfl,p,ns,n,rfl,hp,pm,n1,n2,nx,fun la H1 s1 hla0 hla=>?_⟩
  refine ⟨_,rfl,x,C,dx,[],rfl,s1 _ _ hx,BC.cl,BC.nAt,by decide,?_⟩
  have nax:la≠x:=fun z=>by rw [z,hx] at hla0; cases hla0
  have nadx:la≠dx:=fun z=>by rw [z,hdx] at hla0; cases hla0
  have ndx:dx≠x:=fun z=>by rw [z,hx] at hdx; cases hdx
  have k2:∀ y o,H1 y=some o→y≠x→upd H1 x (.ins C dx (putF "at" (.ref la) [])) y=some o:=fun y o e ny=>by rw [upd_ne ny]; exact e
  have hp2:SqL K (upd H1 x (.ins C dx (putF "at" (.ref la) []))) p (ns.map V.int):=by
   rcases s1.seq hp with (h | ⟨o,h⟩) | h
   ·exact .inl (.inl (k2 _ _ h npx))
   ·exact .inl (.inr ⟨o,k2 _ _ h npx⟩)
   ·exact .inr h
  refine ⟨_,rfl,p,_,rfl,.inl hp2,fun lp hlp=>?_⟩
  have t3:=same_new (o:=.lst (ns.map V.int)) hlp
  have nlx:lp≠x:=fun z=>by rw [z,upd_same] at hlp; cases hlp
  have nlp1:H1 lp=none:=by rw [upd_ne nlx] at hlp; exact hlp
  have nlpd:lp≠dx:=fun z=>by rw [z,s1 _ _ hdx] at nlp1; cases nlp1
  have nlpa:lp≠la:=fun z=>by rw [z,hla] at nlp1; cases nlp1
  refine ⟨_,rfl,x,C,dx,_,rfl,t3 _ _ upd_same,BC.cl,BC.nPi,l1,?_⟩
  refine ⟨small_line (by decide),fun lo hlo=>?_⟩
  have t5:=same_new (o:=.lst []) hlo
  refine ⟨_,rfl,x,C,dx,_,rfl,t5 _ _ upd_same,BC.cl,BC.nOp,l2,?_⟩
  have nox:lo≠x:=fun z=>by rw [z,upd_same] at hlo; cases hlo
  have up:∀ y o,upd (upd H1 x (.ins C dx (putF "at" (.ref la) []))) lp (.lst (ns.map V.int)) y=some o→y≠x→_=some o:=fun y o (e:upd (upd H1 x (.ins C dx (putF "at" (.ref la) []))) lp (.lst (ns.map V.int)) y=some o) ny =>
   show upd (upd (upd (upd (upd H1 x (.ins C dx (putF "at" (.ref la) []))) lp (.lst (ns.map V.int))) x (.ins C dx (putF "pile" (.ref lp) (putF "at" (.ref la) [])))) lo (.lst [])) x (.ins C dx (putF "opened" (.ref lo) (putF "pile" (.ref lp) (putF "at" (.ref la) [])))) y=some o by
    rw [upd_ne ny]
    refine t5 _ _ ?_
    rw [upd_ne ny]
    exact e
  have lo1:upd (upd H1 x (.ins C dx (putF "at" (.ref la) []))) lp (.lst (ns.map V.int)) lo=none:=by rw [upd_ne nox] at hlo; exact hlo
  have loH:H lo=none:=by
   have e1:lo≠lp:=fun z=>by rw [z,upd_same] at lo1; cases lo1
   rw [upd_ne e1,upd_ne nox] at lo1
   exact s1.free lo1
  refine k (fun y=>y=x∨y=dx∨y=la∨y=lp∨y=lo) _ (fun y o e ny=>up y o (t3 _ _ (k2 _ _ (s1 _ _ e) ny)) ny) (fun y hy=>?_) ⟨dx,la,lp,lo,[],⟨?_,?_,?_,?_,?_⟩,⟨fun c=>⟨fun z=>(by cases z),fun z=>False.elim z⟩,List.Pairwise.nil⟩,⟨by lia,fun c z=>(by cases z)⟩,fun y=>Iff.rfl⟩
  ·rcases hy with rfl | rfl | rfl | rfl | rfl
   ·exact .inl rfl
   ·exact .inr (.inl rfl)
   ·exact .inr (.inr hla0)
   ·exact .inr (.inr (s1.free nlp1))
   ·exact .inr (.inr loH)
  ·exact upd_same
  ·exact up _ _ (t3 _ _ (k2 _ _ (s1 _ _ hdx) ndx)) ndx
  ·exact up _ _ (t3 _ _ (k2 _ _ hla nax)) nax
  ·exact up _ _ upd_same nlx
  ·rw [upd_ne nox]
   exact upd_same
theorem scSettle:FnScope ["self","creases","rising"] ["self","creases"] (defScope sSettle):=⟨rfl,rfl,rfl,by decide +kernel,rfl,by decide +kernel,by decide +kernel⟩
theorem ok_settle {C f fL:Addr} {fd fdL:FuncData} (D:MDef K C "settle" "Bench.settle" sSettle ["self","creases"] f fd) (BC:BCl K C) (DL:Def K mg "lies_free" s_lies_free ["at","opened"] fL fdL) (GL:FnOk P w K mg base CX0 3 fL fdL ["at","opened"] (spLies K)) (T:Own mg):FnOk P w K mg base CX0 4 f fd ["self","creases"] (spSettle K C):=by
 refine D.fn.ok scSettle (fun vs H Q E h=>?_) (fun cdv A outer s H vs Q E hr h=>?_)
 ·obtain ⟨b,q,dx,la,lp,lo,ns,n,ms,cs,rfl,_⟩:=h
  rfl
 ·obtain ⟨b,q,dx,la,lp,lo,ns,n,ms,cs,rfl,B,hq,pm,n1,n2,nd,hb,hl,F,k⟩:=h
  have pl:(plc ns).length=n:=by rw [plc_length,perm_len pm]
  refine ⟨_,pss_cons (ps_set (i:=2) scSettle.nd rfl (Or.inl rfl) (pe_callB call_sortS (by rfl) T.sorted PyProof.Rows.boot_sorted (pa_cons (pv 1) pa_nil)))
   (pss_cons (ps_if (pt_not (pt_val (pe_call GL hr (by rfl) DL.at_ DL.fn.kp DL.bd .nil pass0 (pa_cons (pe_fld (pv 0) rfl) (pa_cons (pv 2) pa_nil))))) pss_never pss_nil)
   (pss_one (ps_fld (pv 0) (pv 2) rfl))),?_⟩
  refine ⟨_,rfl,q,cz cs,rfl,.inl (SqL.of hq),by rw [List.length_map]; lia,fun l rz hl0 mp so=>?_⟩
  obtain ⟨rs,rfl,inc,mm,rl⟩:=sorted_nat mp so nd
  have t1:=same_new (o:=.lst (cv rs)) hl0
  refine ⟨_,rfl,b,C,dx,_,_,rfl,t1 _ _ B.ins,BC.cl,BC.nAt,rfl,_,rfl,la,l,plc ns,rs,rfl,SqL.of (t1 _ _ B.at_),upd_same,by lia,by lia,inc,fun c hc=>by rw [pl]; exact hb c ((mm c).mp hc),by lia,fun bb H2 s2 hbb=>?_⟩
  have ht:bb=true:=hbb.mpr (F.congr fun c=>(mm c).symm)
  subst ht
  refine ⟨true,rfl,iteF ?_⟩
  have s12:=t1.trans s2
  refine ⟨_,rfl,_,rfl,b,C,dx,_,rfl,s12 _ _ B.ins,BC.cl,BC.nOp,(by show 3<1000; decide),?_⟩
  have up:∀ y o,H2 y=some o→y≠b→upd H2 b (.ins C dx (putF "opened" (.ref l) (bFs la lp lo))) y=some o:=fun y o e ny=>by rw [upd_ne ny]; exact e
  have B2:=B.same s12
  have nb:∀ {y:Addr} {o:HO},H y=some o→(∀ fs,o≠.ins C dx fs)→y≠b:=fun {y o} e no z=>by
   rw [z,B.ins] at e
   exact no _ (Option.some.inj e).symm
  have lb:l≠b:=fun z=>by rw [z,B.ins] at hl0; cases hl0
  refine k rs l _ (fun y o e ny=>up y o (s12 _ _ e) ny) hl0 ⟨upd_same,up _ _ B2.own (nb B.own (by intro _ z; cases z)),up _ _ B2.at_ (nb B.at_ (by intro _ z; cases z)),up _ _ B2.pi_ (nb B.pi_ (by intro _ z; cases z)),up _ _ (s2 _ _ upd_same) lb⟩ inc mm
theorem scDrawB:FnScope ["self","creases"] ["self","creases"] (defScope sDraw):=⟨rfl,rfl,rfl,by decide +kernel,rfl,by decide +kernel,by decide +kernel⟩
theorem ok_drawB {C f fC fS:Addr} {fd fdC fdS:FuncData} (D:MDef K C "draw" "Bench.draw" sDraw ["self","creases"] f fd) (BC:BCl K C) (DC:Def K mg "check_creases" s_check_creases ["stamps","creases"] fC fdC) (DS:MDef K C "settle" "Bench.settle" sSettle ["self","creases"] fS fdS) (GS:FnOk P w K mg base CX0 4 fS fdS ["self","creases"] (spSettle K C)) (T:Own mg) (Z:OwnZ mg) :
  FnOk P w K mg base CX0 5 f fd ["self","creases"] (spDraw K (BenchP C)):=by
 have GC:FnOk P w K mg base CX0 1 fC fdC ["stamps","creases"] (spCheckCr K):=ok_checkcr DC T Z
 refine D.fn.ok scDrawB (fun vs H Q E h=>?_) (fun cdv A outer s H vs Q E hr h=>?_)
 ·obtain ⟨b,q,ns,n,L,own,cs,rfl,_⟩:=h
  rfl
 ·obtain ⟨b,q,ns,n,L,own,cs,rfl,⟨dx,la,lp,lo,ms,B,R,⟨n1',bd⟩,O⟩,hq,hno,pm,n2,nx,nd,hb,hL,F,k⟩:=h
  have hr1:=hr.mono (show 1≤4 by decide)
  have nl:=perm_len pm
  have pl:(plc ns).length=n:=by rw [plc_length,nl]
  have dm:∀ c∈cs,c∉ms:=fun c hc z=>hL c hc ((R.mem c).mp z)
  have csl:cs.length≤60:=by
   have:=nodup_le n cs nd fun c hc=>by have:=hb c hc; lia
   lia
  refine ⟨_,pss_cons (ps_expr (pe_call GC hr1 rfl DC.at_ DC.fn.kp DC.bd .nil pass0 (pa_cons (pe_callB call_len_seq (by rfl) T.len PySem.boot_len (pa_cons (pe_fld (pv 0) rfl) pa_nil)) (pa_cons (pv 1) pa_nil))))
   (pss_cons (ps_if (pt_val (pe_callB (call_anyL rfl) (by rfl) Z.any boot_anyZ (pa_cons (pe_lcomp (cap:=[0]) (caps:=["self"]) rfl (pi_seq (pv 1))
     rfl (by decide +kernel) (by decide +kernel) rfl (by show ∀ y:Str×NameKind,y∈_→y.2=NameKind.free→(defScope sDraw).names.lookup y.1=some .cell∨(defScope sDraw).names.lookup y.1=some .free; decide +kernel) rfl (fun y hy=>by rw [List.mem_singleton.mp hy]; exact ⟨.inl rfl,.inl rfl⟩) (by decide +kernel)
     (fun cl s₃ H₃ fp=>⟨pifs_nil,pe_cmpR (op_in_seqK (K:=K) rfl) (pv 0) (pe_fldK (K:=K) rfl (pv 1) rfl) rfl⟩)) pa_nil))) pss_never pss_nil)
   (pss_one (ps_expr (pe_meth (pv 0) BC.cl DS.me GS hr DS.bd .nil pass0 (pa_cons (pe_op op_cat (pe_fld (pv 0) rfl) (pe_callTy call_list_of (by rfl) T.list boot_list (pa_cons (pv 1) pa_nil))) pa_nil))))),?_⟩
  refine ⟨_,rfl,b,C,dx,_,_,rfl,B.ins,BC.cl,BC.nAt,rfl,la,_,rfl,.inl (SqL.of B.at_),_,rfl,q,n,cs,?_,hq,nd,hb,csl,fun H1 s1=>?_⟩
  ·show [V.int (((plc ns).map V.int).length:Int),V.ref q]=[V.int (n:Int),V.ref q]
   rw [List.length_map,pl]
  have B1:=B.same s1
  have hq1:SqS K H1 q (cv cs):=s1.sqs hq
  have cl:=cv_len cs
  refine ⟨_,rfl,q,rfl,lc_seq_if (xs:=cv cs) (p:=fun _=>true) (f:=fun _=>.bl false) (by rw [cl]; lia) hq1 (fun x H2 R' _ _ kR=>kR H2 (Same.refl _)) (fun x H2 R' hx _ s2 kR=>?_) fun l H2 hl0 s2 h2=>?_⟩
  ·obtain ⟨z,hz,rfl⟩:=List.mem_map.mp hx
   obtain ⟨c,hc,rfl⟩:=List.mem_map.mp hz
   refine ⟨_,rfl,_,rfl,b,C,dx,_,_,rfl,s2 _ _ B1.ins,BC.cl,BC.nOp,rfl,lo,cv ms,rfl,.inl (SqL.of (s2 _ _ B1.op_)),rfl,cv_flat ms,?_⟩
   have:inV (.int (c:Int)) (cv ms)=false:=by
    rw [inv_int]
    refine decide_eq_false fun z=>?_
    obtain ⟨d,hd,e⟩:=List.mem_map.mp z
    have:d=c:=by lia
    exact dm c hc (this ▸ hd)
   show R' (.bl (inV (.int (c:Int)) (cv ms))) H2
   rw [this]
   exact kR H2 (Same.refl _)
  rw [List.filter_eq_self.mpr (fun _ _=>rfl)] at h2
  have hf:(cv cs).map (fun _=>V.bl false)=(cs.map fun _=>false).map V.bl:=by
   rw [List.map_map,List.map_map,List.map_map]
   rfl
  rw [hf] at h2
  have na:(cs.map fun _=>false).any id=false:=by
   rw [List.any_map]
   exact List.any_eq_false.mpr fun _ _=>by simp
  refine ⟨l,_,rfl,SqL.of h2,_,rfl,?_⟩
  rw [na]
  refine iteF ?_
  have B2:=B1.same s2
  have s12:=s1.trans s2
  refine ⟨_,rfl,b,dx,_,rfl,B2.ins,rfl,_,rfl,b,C,dx,_,_,rfl,B2.ins,BC.cl,BC.nOp,rfl,_,rfl,q,_,rfl,s12.sqs hq,fun l3 hl3=>?_⟩
  have t3:=same_new (o:=.lst (cv cs)) hl3
  have ndm:(ms++cs).Nodup:=List.nodup_append.mpr ⟨R.inc.imp fun h=>Nat.ne_of_lt h,nd,fun x hx y hy e=>dm y hy (e ▸ hx)⟩
  have bnd:∀ c∈ms++cs,c+1<n:=fun c hc=>by
   rcases List.mem_append.mp hc with h | h
   ·have:=bd c h; lia
   ·exact hb c h
  have mcl:(ms++cs).length≤60:=by
   have:=nodup_le n (ms++cs) ndm fun c hc=>by have:=bnd c hc; lia
   lia
  refine ⟨lo,l3,_,_,rfl,rfl,t3 _ _ B2.op_,upd_same,?_,fun l4 hl4=>?_⟩
  ·rw [cv_len,cv_len]
   exact small_line (by rw [List.length_append] at mcl; lia)
  have t4:=same_new (o:=.lst (cv ms++cv cs)) hl4
  have B4:=(B2.same t3).same t4
  refine ⟨b,l4,dx,la,lp,lo,ns,n,ms,ms++cs,rfl,B4,?_,pm,by lia,n2,ndm,bnd,mcl,F.congr fun c=>?_,fun rs lr H5 k5 hlr B5 inc mm=>?_⟩
  ·rw [upd_same]
   congr 2
   rw [← List.map_append,← List.map_append]
  ·rw [List.mem_append,R.mem]
  have s14:Same H (upd (upd H2 l3 (.lst (cv cs))) l4 (.lst (cv ms++cv cs))):=s12.trans (t3.trans t4)
  refine k .non (fun y=>y=b∨y=dx∨y=la∨y=lp∨y=lr) H5 (fun y o e ny=>k5 y o (s14 _ _ e) fun z=>ny ((O y).mpr (.inl z))) (fun y hy=>?_) ⟨dx,la,lp,lr,rs,B5,⟨fun c=>?_,inc⟩,⟨n1',fun c hc=>?_⟩,fun y=>Iff.rfl⟩
  ·rcases hy with h | h | h | h | h
   ·exact .inl ((O y).mpr (.inl h))
   ·exact .inl ((O y).mpr (.inr (.inl h)))
   ·exact .inl ((O y).mpr (.inr (.inr (.inl h))))
   ·exact .inl ((O y).mpr (.inr (.inr (.inr (.inl h)))))
   ·rw [h]
    exact .inr (s14.free hlr)
  ·rw [mm,List.mem_append,R.mem]
  ·rw [nl]
   exact bnd c ((mm c).mp hc)
theorem scPressB:FnScope ["self","creases"] ["self","creases"] (defScope sPress):=⟨rfl,rfl,rfl,by decide +kernel,rfl,by decide +kernel,by decide +kernel⟩
theorem ok_pressB {C f fC fS:Addr} {fd fdC fdS:FuncData} (D:MDef K C "press" "Bench.press" sPress ["self","creases"] f fd) (BC:BCl K C) (DC:Def K mg "check_creases" s_check_creases ["stamps","creases"] fC fdC) (DS:MDef K C "settle" "Bench.settle" sSettle ["self","creases"] fS fdS) (GS:FnOk P w K mg base CX0 4 fS fdS ["self","creases"] (spSettle K C)) (T:Own mg) (Z:OwnZ mg) :
  FnOk P w K mg base CX0 5 f fd ["self","creases"] (spPress K (BenchP C)):=by
 have GC:FnOk P w K mg base CX0 1 fC fdC ["stamps","creases"] (spCheckCr K):=ok_checkcr DC T Z
 refine D.fn.ok scPressB (fun vs H Q E h=>?_) (fun cdv A outer s H vs Q E hr h=>?_)
 ·obtain ⟨b,q,ns,n,L,own,cs,rfl,_⟩:=h
  rfl
 ·obtain ⟨b,q,ns,n,L,own,cs,rfl,⟨dx,la,lp,lo,ms,B,R,⟨n1',bd⟩,O⟩,hq,hno,pm,n2,nx,nd,hb,hL,F,k⟩:=h
  have hr1:=hr.mono (show 1≤4 by decide)
  have nl:=perm_len pm
  have pl:(plc ns).length=n:=by rw [plc_length,nl]
  have im:∀ c∈cs,c∈ms:=fun c hc=>(R.mem c).mpr (hL c hc)
  have csl:cs.length≤60:=by
   have:=nodup_le n cs nd fun c hc=>by have:=hb c hc; lia
   lia
  have msl:ms.length≤60:=by
   have:=nodup_le n ms (R.inc.imp fun h=>Nat.ne_of_lt h) fun c hc=>by have:=bd c hc; lia
   lia
  refine ⟨_,pss_cons (ps_expr (pe_call GC hr1 rfl DC.at_ DC.fn.kp DC.bd .nil pass0 (pa_cons (pe_callB call_len_seq (by rfl) T.len PySem.boot_len (pa_cons (pe_fld (pv 0) rfl) pa_nil)) (pa_cons (pv 1) pa_nil))))
   (pss_cons (ps_if (pt_not (pt_val (pe_callB (call_allL rfl) (by rfl) Z.all boot_allZ (pa_cons (pe_lcomp (cap:=[0]) (caps:=["self"]) rfl (pi_seq (pv 1))
     rfl (by decide +kernel) (by decide +kernel) rfl (by show ∀ y:Str×NameKind,y∈_→y.2=NameKind.free→(defScope sPress).names.lookup y.1=some .cell∨(defScope sPress).names.lookup y.1=some .free; decide +kernel) rfl (fun y hy=>by rw [List.mem_singleton.mp hy]; exact ⟨.inl rfl,.inl rfl⟩) (by decide +kernel)
     (fun cl s₃ H₃ fp=>⟨pifs_nil,pe_cmpR (op_in_seqK (K:=K) rfl) (pv 0) (pe_fldK (K:=K) rfl (pv 1) rfl) rfl⟩)) pa_nil)))) pss_never pss_nil)
   (pss_one (ps_expr (pe_meth (pv 0) BC.cl DS.me GS hr DS.bd .nil pass0 (pa_cons (pe_lcomp (cap:=[1]) (caps:=["creases"]) rfl (pi_list (pe_fld (pv 0) rfl))
     rfl (by decide +kernel) (by decide +kernel) rfl (by show ∀ y:Str×NameKind,y∈_→y.2=NameKind.free→(defScope sPress).names.lookup y.1=some .cell∨(defScope sPress).names.lookup y.1=some .free; decide +kernel) rfl (fun y hy=>by rw [List.mem_singleton.mp hy]; exact ⟨.inl rfl,.inl rfl⟩) (by decide +kernel)
     (fun cl s₃ H₃ fp=>⟨pifs_one (pt_cmpR (op_notIn_seqK (K:=K) rfl) (pv 0) (pv 1) rfl),pv 0⟩)) pa_nil))))),?_⟩
  refine ⟨_,rfl,b,C,dx,_,_,rfl,B.ins,BC.cl,BC.nAt,rfl,la,_,rfl,.inl (SqL.of B.at_),_,rfl,q,n,cs,?_,hq,nd,hb,csl,fun H1 s1=>?_⟩
  ·show [V.int (((plc ns).map V.int).length:Int),V.ref q]=[V.int (n:Int),V.ref q]
   rw [List.length_map,pl]
  have B1:=B.same s1
  have hq1:SqS K H1 q (cv cs):=s1.sqs hq
  have cl:=cv_len cs
  refine ⟨_,rfl,q,rfl,lc_seq_if (xs:=cv cs) (p:=fun _=>true) (f:=fun _=>.bl true) (by rw [cl]; lia) hq1 (fun x H2 R' _ _ kR=>kR H2 (Same.refl _)) (fun x H2 R' hx _ s2 kR=>?_) fun l H2 hl0 s2 h2=>?_⟩
  ·obtain ⟨z,hz,rfl⟩:=List.mem_map.mp hx
   obtain ⟨c,hc,rfl⟩:=List.mem_map.mp hz
   refine ⟨_,rfl,_,rfl,b,C,dx,_,_,rfl,s2 _ _ B1.ins,BC.cl,BC.nOp,rfl,lo,cv ms,rfl,.inl (SqL.of (s2 _ _ B1.op_)),rfl,cv_flat ms,?_⟩
   have:inV (.int (c:Int)) (cv ms)=true:=by
    rw [inv_int]
    exact decide_eq_true (List.mem_map.mpr ⟨c,im c hc,rfl⟩)
   show R' (.bl (inV (.int (c:Int)) (cv ms))) H2
   rw [this]
   exact kR H2 (Same.refl _)
  rw [List.filter_eq_self.mpr (fun _ _=>rfl)] at h2
  have hf:(cv cs).map (fun _=>V.bl true)=(cs.map fun _=>true).map V.bl:=by
   rw [List.map_map,List.map_map,List.map_map]
   rfl
  rw [hf] at h2
  have na:(cs.map fun _=>true).all id=true:=by
   rw [List.all_map]
   exact List.all_eq_true.mpr fun _ _=>rfl
  refine ⟨l,_,rfl,SqL.of h2,_,rfl,?_⟩
  rw [na]
  refine iteF ?_
  have B2:=B1.same s2
  have s12:=s1.trans s2
  refine ⟨_,rfl,b,dx,_,rfl,B2.ins,rfl,_,rfl,b,C,dx,_,_,rfl,B2.ins,BC.cl,BC.nOp,rfl,lo,rfl,⟨_,SqL.of B2.op_⟩,fun l3 hl3=>?_⟩
  refine lc_list_if (xs:=cv ms) (p:=fun v=>match v with | .int c=>!decide (c∈cz cs) | _=>false) (f:=id) (by rw [cv_len]; lia) hl3 (SqL.of B2.op_) (fun x H3 R' hx s3 kR=>?_) (fun x H3 R' hx _ s3 kR=>⟨_,rfl,kR H3 (Same.refl _)⟩) fun H3 s3 h3=>?_
  ·obtain ⟨z,hz,rfl⟩:=List.mem_map.mp hx
   refine ⟨_,rfl,_,rfl,q,cv cs,rfl,s3.sqs (s12.sqs hq),rfl,cv_flat cs,_,rfl,?_⟩
   have:=kR H3 (Same.refl _)
   show R' (!inV (.int z) (cv cs)) H3
   rw [inv_int]
   exact this
  have ef:((cv ms).filter (fun v=>match v with | .int c=>!decide (c∈cz cs) | _=>false)).map id=cv (ms.filter fun c=>!decide (c∈cs)):=by
   rw [List.map_id,List.filter_map,List.filter_map]
   congr 2
   refine List.filter_congr fun c _=>?_
   show (!decide ((c:Int)∈cz cs))=(!decide (c∈cs))
   have:((c:Int)∈cz cs)↔c∈cs:=by
    rw [List.mem_map]
    constructor
    ·rintro ⟨d,hd,e⟩
     have:d=c:=by lia
     exact this ▸ hd
    ·exact fun h=>⟨c,h,rfl⟩
   rw [decide_eq_decide.mpr this]
  rw [ef] at h3
  have B3:=B2.same s3
  have mf:∀ c,c∈ms.filter (fun c=>!decide (c∈cs))↔(c∈ms∧c∉cs):=fun c=>by rw [List.mem_filter]; simp
  have s13:=s12.trans s3
  have fl:(ms.filter fun c=>!decide (c∈cs)).length≤60:=Nat.le_trans (List.length_filter_le _ _) msl
  refine ⟨b,l3,dx,la,lp,lo,ns,n,ms,ms.filter (fun c=>!decide (c∈cs)),rfl,B3,h3,pm,by lia,n2,(R.inc.imp fun h=>Nat.ne_of_lt h).sublist List.filter_sublist,fun c hc=>?_,fl,F.congr fun c=>?_,fun rs lr H5 k5 hlr B5 inc mm=>?_⟩
  ·have:=bd c ((mf c).mp hc).1
   lia
  ·rw [mf,R.mem]
  refine k .non (fun y=>y=b∨y=dx∨y=la∨y=lp∨y=lr) H5 (fun y o e ny=>k5 y o (s13 _ _ e) fun z=>ny ((O y).mpr (.inl z))) (fun y hy=>?_) ⟨dx,la,lp,lr,rs,B5,⟨fun c=>?_,inc⟩,⟨n1',fun c hc=>?_⟩,fun y=>Iff.rfl⟩
  ·rcases hy with h | h | h | h | h
   ·exact .inl ((O y).mpr (.inl h))
   ·exact .inl ((O y).mpr (.inr (.inl h)))
   ·exact .inl ((O y).mpr (.inr (.inr (.inl h))))
   ·exact .inl ((O y).mpr (.inr (.inr (.inr (.inl h)))))
   ·rw [h]
    exact .inr (s13.free hlr)
  ·rw [mm,mf,R.mem]
  ·exact bd c ((mf c).mp ((mm c).mp hc)).1
theorem scLooseB:FnScope ["self"] ["self"] (defScope sLoose):=⟨rfl,rfl,rfl,by decide +kernel,rfl,by decide +kernel,by decide +kernel⟩
theorem ok_looseB {C f:Addr} {fd:FuncData} (D:MDef K C "loose" "Bench.loose" sLoose ["self"] f fd) (BC:BCl K C) (T:Own mg):FnOk P w K mg base CX0 1 f fd ["self"] (spLoose (BenchP C)):=by
 refine D.fn.ok scLooseB (fun vs H Q E h=>?_) (fun cdv A outer s H vs Q E hr h=>?_)
 ·obtain ⟨b,ns,L,own,rfl,_⟩:=h
  rfl
 ·obtain ⟨b,ns,L,own,rfl,⟨dx,la,lp,lo,ms,B,R,bd,O⟩,k⟩:=h
  refine ⟨_,pss_one (ps_ret (pe_callTy call_list_of (by rfl) T.list boot_list (pa_cons (pe_fld (pv 0) rfl) pa_nil))),?_⟩
  exact ⟨_,rfl,b,C,dx,_,_,rfl,B.ins,BC.cl,BC.nOp,rfl,lo,_,rfl,.inl (SqL.of B.op_),fun l hl=>k l ms _ (same_new hl) hl R upd_same⟩
theorem scBetween:FnScope ["self","first","last"] ["self","first","last"] (defScope sBetween):=⟨rfl,rfl,rfl,by decide +kernel,rfl,by decide +kernel,by decide +kernel⟩
theorem ok_between {C f:Addr} {fd:FuncData} (D:MDef K C "part_between" "Bench.part_between" sBetween ["self","first","last"] f fd) (BC:BCl K C):FnOk P w K mg base CX0 1 f fd ["self","first","last"] (spBetween C):=by
 refine D.fn.ok scBetween (fun vs H Q E h=>?_) (fun cdv A outer s H vs Q E hr h=>?_)
 ·obtain ⟨b,dx,la,lp,lo,ns,ms,f,l,rfl,_⟩:=h
  rfl
 ·obtain ⟨b,dx,la,lp,lo,ns,ms,fr,lt,rfl,B,hn,k⟩:=h
  refine ⟨_,pss_one (ps_ret (pe_lcomp (cap:=[1,2]) (caps:=["first","last"]) rfl (pi_list (pe_fld (pv 0) rfl))
     rfl (by decide +kernel) (by decide +kernel) rfl (by show ∀ y:Str×NameKind,y∈_→y.2=NameKind.free→(defScope sBetween).names.lookup y.1=some .cell∨(defScope sBetween).names.lookup y.1=some .free; decide +kernel) rfl
     (fun y hy=>by rcases List.mem_cons.mp hy with rfl | hy; exact ⟨.inl rfl,.inl rfl⟩; rw [List.mem_singleton.mp hy]; exact ⟨.inl rfl,.inl rfl⟩) (by decide +kernel)
     (fun cl s₃ H₃ fp=>⟨pifs_one (pw_and (pt_cmpR op_le (pv 1) (pv 0) (nomark _)) (pw_and1 (pt_cmpR op_le (pv 0) (pv 2) (nomark _)))).pt,pv 0⟩))),?_⟩
  refine ⟨_,rfl,b,C,dx,_,_,rfl,B.ins,BC.cl,BC.nPi,rfl,lp,rfl,⟨_,SqL.of B.pi_⟩,fun l1 hl1=>?_⟩
  refine lc_list_if (xs:=ns.map V.int) (p:=fun v=>match v with | .int s=>decide ((fr:Int)≤s) && decide (s≤(lt:Int)) | _=>false) (f:=id) (by rw [List.length_map]; lia) hl1 (SqL.of B.pi_) (fun x H2 R' hx s2 kR=>?_) (fun x H2 R' hx _ s2 kR=>⟨_,rfl,kR H2 (Same.refl _)⟩) fun H2 s2 h2=>?_
  ·obtain ⟨z,hz,rfl⟩:=List.mem_map.mp hx
   have kk:=kR H2 (Same.refl _)
   change R' (decide ((fr:Int)≤z) && decide (z≤(lt:Int))) H2 at kk
   refine ⟨_,rfl,_,rfl,_,_,rfl,rfl,_,rfl,?_⟩
   cases e:decide ((fr:Int)≤z) with
   | false =>
    rw [e,Bool.false_and] at kk
    exact iteF kk
   | true =>
    rw [e,Bool.true_and] at kk
    exact iteT ⟨_,rfl,_,rfl,_,_,rfl,rfl,_,rfl,kk⟩
  ·refine k l1 H2 s2 hl1 (h2.trans ?_)
   rw [List.map_id,List.filter_map]
   rfl
theorem scPartsB:FnScope ["self"] ["self"] (defScope sPartsB):=⟨rfl,rfl,rfl,by decide +kernel,rfl,by decide +kernel,by decide +kernel⟩
theorem ok_partsB {C f fE fB:Addr} {fd fdE fdB:FuncData} (D:MDef K C "parts" "Bench.parts" sPartsB ["self"] f fd) (BC:BCl K C) (DE:Def K mg "ends_of_parts" s_ends_of_parts ["stamps","opened"] fE fdE) (DB:MDef K C "part_between" "Bench.part_between" sBetween ["self","first","last"] fB fdB) (T:Own mg) (Z:OwnZ mg) :
  FnOk P w K mg base CX0 2 f fd ["self"] (fun vs H Q E=>∃ (n:Nat) (b:Addr) (ns:List Int) (L:Nat→Prop) (own:Addr→Prop) (ms:List Nat),ns.Perm (iota n)∧n≤60∧vs=[.ref b]∧BenchP C H b ns L own∧Rise L ms ∧
   ∀ (l:Addr) (as:List Addr) H',Same H H'→H l=none→H' l=some (.lst (as.map V.ref))→as.length=ms.length+1→as.Nodup→(∀ a∈as,H a=none∧a≠l)→(∀ (i:Nat) (a:Addr) (p:List Int),as[i]?=some a→(partsL ns 0 ms)[i]?=some p→H' a=some (.lst (p.map V.int)))→Q (.ref l) H'):=by
 have GE:FnOk P w K mg base CX0 1 fE fdE ["stamps","opened"] spEnds:=ok_ends DE T Z
 have GB:FnOk P w K mg base CX0 1 fB fdB ["self","first","last"] (spBetween C):=ok_between DB BC
 refine D.fn.ok scPartsB (fun vs H Q E h=>?_) (fun cdv A outer s H vs Q E hr h=>?_)
 ·obtain ⟨n,b,ns,L,own,ms,_,_,rfl,_⟩:=h
  rfl
 ·obtain ⟨n,b,ns,L,own,ms',pm,n2,rfl,⟨dx,la,lp,lo,ms,B,R,⟨n1,bd⟩,O⟩,R',k⟩:=h
  obtain rfl:=R'.unique R
  have nl:=perm_len pm
  have pl:(plc ns).length=n:=by rw [plc_length,nl]
  have msl:ms'.length≤60:=by
   have:=nodup_le n ms' (R.inc.imp fun h=>Nat.ne_of_lt h) fun c hc=>by have:=bd c hc; lia
   lia
  refine ⟨_,pss_one (ps_ret (pe_lcomp2 (cap:=[0]) (caps:=["self"]) rfl (pi_list (pe_call GE hr rfl DE.at_ DE.fn.kp DE.bd .nil pass0 (pa_cons (pe_callB call_len_seq (by rfl) T.len PySem.boot_len (pa_cons (pe_fld (pv 0) rfl) pa_nil)) (pa_cons (pe_fld (pv 0) rfl) pa_nil))))
     rfl (by decide +kernel) (by decide +kernel) rfl rfl (by show ∀ y:Str×NameKind,y∈_→y.2=NameKind.free→(defScope sPartsB).names.lookup y.1=some .cell∨(defScope sPartsB).names.lookup y.1=some .free; decide +kernel) rfl (fun y hy=>by rw [List.mem_singleton.mp hy]; exact ⟨.inl rfl,.inl rfl⟩) (by decide +kernel)
     (fun cl s₃ H₃ fp=>⟨pifs_nil,pe_meth (pv 2) BC.cl DB.me GB hr DB.bd .nil pass0 (pa_cons (pv 0) (pa_cons (pv 1) pa_nil))⟩))),?_⟩
  refine ⟨_,rfl,b,C,dx,_,_,rfl,B.ins,BC.cl,BC.nAt,rfl,la,_,rfl,.inl (SqL.of B.at_),_,rfl,b,C,dx,_,_,rfl,B.ins,BC.cl,BC.nOp,rfl,lo,n,ms',?_,B.op_,by lia,msl,fun le ts H1 s1 hle hts hp=>?_⟩
  ·show [V.int (((plc ns).map V.int).length:Int),V.ref lo]=[V.int (n:Int),V.ref lo]
   rw [List.length_map,pl]
  have tl:=hp.len
  rw [endsP_length] at tl
  have B1:=B.same s1
  refine ⟨le,rfl,⟨_,SqL.of hp.lst⟩,fun l hl=>?_⟩
  refine lc2_listN (ps:=(endsP n ms').map fun e=>(V.int (e.1:Int),V.int (e.2:Int))) (fun i v H2=>∃ a,v=.ref a∧H1 a=none∧a≠l∧H2 a=some (.lst ((ns.filter fun s=>decide ((fstP ms' i:Int)≤s) && decide (s≤(lstP n ms' i:Int))).map V.int))) ?_ (by lia) hl (SqL.of hp.lst) (by rw [List.length_map,endsP_length]; exact tl) ?_ ?_ ?_
  ·rintro i v H2 H3 ⟨a,rfl,h1,h2,h3⟩ kp
   exact ⟨a,rfl,h1,h2,kp a _ h2 h3⟩
  ·intro i t p hi hpi
   rw [List.getElem?_map] at hpi
   cases e:(endsP n ms')[i]? with
   | none=>rw [e] at hpi; cases hpi
   | some q =>
    rw [e] at hpi
    obtain rfl:=Option.some.inj hpi
    exact SqT.of (hp.at_ i t q hi e)
  ·intro i p ys H2 R2 hpi s2 h2l hys kR
   have hil:i≤ms'.length:=by
    have:=(List.getElem?_eq_some_iff.mp hpi).1
    rw [List.length_map,endsP_length] at this
    lia
   rw [List.getElem?_map,endsP_get hil] at hpi
   obtain rfl:=Option.some.inj hpi
   refine ⟨_,rfl,b,dx,_,rfl,s2 _ _ B1.ins,rfl,_,rfl,_,rfl,b,dx,la,lp,lo,ns,ms',fstP ms' i,lstP n ms' i,rfl,B1.same s2,by lia,fun a H3 s3 ha0 ha=>?_⟩
   refine kR _ H3 s3 ⟨a,rfl,s2.free ha0,fun z=>?_,ha⟩ fun z=>?_
   ·rw [z,h2l] at ha0
    cases ha0
   ·obtain ⟨j,hj⟩:=List.getElem?_of_mem z
    obtain ⟨a',e',_,_,h4⟩:=hys j _ hj
    cases e'
    rw [h4] at ha0
    cases ha0
  ·intro vs H2 s2 h2l vl nd hv
   rw [List.length_map,endsP_length] at vl
   obtain ⟨as,rfl,g⟩:=keysOf (G:=fun i a=>H1 a=none∧a≠l∧H2 a=some (.lst ((ns.filter fun s=>decide ((fstP ms' i:Int)≤s) && decide (s≤(lstP n ms' i:Int))).map V.int))) fun i v hi=>by
    obtain ⟨a,e,h1,h2,h3⟩:=hv i v hi
    exact ⟨a,e,h1,h2,h3⟩
   rw [List.length_map] at vl
   refine k l as H2 (s1.trans s2) (s1.free hl) h2l vl ?_ (fun a ha=>?_) fun i a p hi hpi=>?_
   ·unfold List.Nodup at nd
    rw [List.pairwise_map] at nd
    exact nd.imp fun h z=>h (by rw [z])
   ·obtain ⟨i,hi⟩:=List.getElem?_of_mem ha
    obtain ⟨h1,h2,_⟩:=g i a hi
    exact ⟨s1.free h1,h2⟩
   ·have hil:i≤ms'.length:=by have:=(List.getElem?_eq_some_iff.mp hi).1; lia
    rw [partsL_get pm ms' 0 i hil] at hpi
    obtain rfl:=Option.some.inj hpi
    exact (g i a hi).2.2
end
end Sf
set_option maxHeartbeats 4000000
namespace Sf
open PySem L2 Pl
seal PS PSs PE PA PSsx PSx PEx
theorem cz_of {n:Nat} {cs:List Int} (h:¬ BadC n cs):cs=cz (cs.map Int.toNat)∧(cs.map Int.toNat).Nodup∧∀ c∈cs.map Int.toNat,c+1<n:=by
 obtain ⟨nd,hb⟩:=Classical.not_not.mp h
 have e:cs=cz (cs.map Int.toNat):=by
  have e:cs.map ((fun (c:Nat)=>(c:Int)) ∘ Int.toNat)=cs.map id:=List.map_congr_left fun x hx=>by
   show ((Int.toNat x:Nat):Int)=x
   exact Int.toNat_of_nonneg (hb x hx).1
  show cs=List.map (fun (c:Nat)=>(c:Int)) (List.map Int.toNat cs)
  rw [List.map_map,e,List.map_id]
 refine ⟨e,?_,fun c hc=>?_⟩
 ·unfold List.Nodup
  rw [List.pairwise_map]
  refine List.Pairwise.imp_of_mem ?_ nd
  intro a b ha hb' hab z
  have h1:=(hb a ha).1
  have h2:=(hb b hb').1
  exact hab (by lia)
 ·obtain ⟨x,hx,rfl⟩:=List.mem_map.mp hc
  have:=hb x hx
  lia
def spCheckNo (K:PySem.W.Frag) (cN:Addr):Sp:=fun vs H _ E=>∃ (q:Addr) (n:Nat) (cs:List Int),vs=[.int (n:Int),.ref q]∧SqS K H q (cs.map V.int)∧BadC n cs∧cs.length≤60∧∀ H',Same H H'→E (.ref cN) none H'
def spSettleNo (K:PySem.W.Frag) (C cS:Addr):Sp:=fun vs H _ E=>∃ (b q dx la lp lo:Addr) (ns:List Int) (n:Nat) (ms cs:List Nat),vs=[.ref b,.ref q]∧BAt C H b dx la lp lo ns ms∧H q=some (.lst (cv cs))∧ns.Perm (iota n)∧1≤n∧n≤60∧cs.Nodup∧(∀ c∈cs,c+1<n)∧cs.length≤60∧¬ Fre (plc ns) (fun c=>c∈cs)∧∀ H',Same H H'→E (.ref cS) none H'
section
variable {P:Program} {w:World} {K:PySem.W.Frag} {mg:Str→Option Value} {base:Heap}
theorem no_creases {f cN:Addr} {fd:FuncData} {bm:List Value} (D:Def K mg "check_creases" s_check_creases ["stamps","creases"] f fd) (T:Own mg) (Z:OwnZ mg) (hN:mg "NoCrease"=some (.ref cN)) (C:ExcCls base cN bm):FnOk P w K mg base (CX1 P w) 1 f fd ["stamps","creases"] (spCheckNo K cN):=by
 refine Fun.okX D.fn scCheckCr (fun vs H Q E h=>?_) (fun cdv A outer s H vs Q E hr h=>?_)
 ·obtain ⟨q,n,cs,rfl,_⟩:=h
  rfl
 ·obtain ⟨q,n,cs,rfl,hq,bad,hl,k⟩:=h
  have cl:(cs.map V.int).length=cs.length:=List.length_map ..
  obtain ⟨t2,h2,r2⟩:∃ t,PSs (cxOf (CX1 P w) P w K mg base ["stamps","creases","crease"] "check_creases" (defScope s_check_creases) f cdv A outer s H E) ((defBody s_check_creases).drop 1) t ∧
    ∀ (D:Ends) (v:Option V),(∀ c∈cs,0≤c∧c+1<(n:Int))→t D [some (.int (n:Int)),some (.ref q),v] H:=by
   refine ⟨_,pss_one (ps_if (pt_cmpR op_ne (pe_callB call_lenSet (by rfl) T.len PySem.boot_len (pa_cons (pe_callTy (call_setS rfl) (by rfl) Z.set boot_setZ (pa_cons (pv 1) pa_nil)) pa_nil)) (pe_callB call_len_seq (by rfl) T.len PySem.boot_len (pa_cons (pv 1) pa_nil)) (nomark _))
    (pss_one (ps_raise (E:=E) rfl rfl (by rfl) hN C (raises1 fun _ _ _ h=>h) (pa_cons pe_str pa_nil))) pss_nil),?_⟩
   intro D v all
   refine ⟨_,rfl,q,cs,rfl,hq,by lia,fun l S m hl0 _ hm=>?_⟩
   have s1:=same_new (o:=.set S m) hl0
   refine ⟨l,S,m,rfl,upd_same,_,rfl,q,_,rfl,s1.sqs hq,rfl,_,rfl,?_⟩
   refine ite2 (fun _=>⟨small_line (by show 1≤1000; decide),k _ s1⟩) (fun z=>?_)
   exfalso
   refine bad ⟨hm.mp ?_,all⟩
   have z2:¬ (!decide (V.int (m:Int)=V.int ((cs.map V.int).length:Int)))=true:=z
   rw [cl] at z2
   have:V.int (m:Int)=V.int (cs.length:Int):=Classical.byContradiction fun h=>z2 (by rw [decide_eq_false h]; rfl)
   injection this with this
   lia
  refine ⟨_,pss_cons (ps_for PassesOwn.leaving rfl (pi_seq (pv 1)) (pg_name (i:=2) scCheckCr.nd rfl (Or.inl rfl))
    (pss_one (ps_if (pw_or (pt_cmpR op_lt (pv 2) pe_int (nomark _)) (pw_or1 (pt_cmpR op_gt (pv 2) (pe_op op_sub (pv 0) pe_int) (nomark _)))).pt (pss_one (ps_raise (E:=E) rfl rfl (by rfl) hN C (raises1 fun _ _ _ h=>h) (pa_cons pe_str pa_nil))) pss_nil))) h2,?_⟩
  have val:∀ (i:Nat) (x:V),(cs.map V.int)[i]?=some x→∃ c:Int,x=.int c∧cs[i]?=some c:=fun i x e=>by
   rw [List.getElem?_map] at e
   cases q:cs[i]? with
   | none=>rw [q] at e; cases e
   | some c=>rw [q] at e; exact ⟨c,(Option.some.inj e).symm,rfl⟩
  have fin:∀ {i:Nat},(∀ j c,j<i→cs[j]?=some c→0≤c∧c+1<(n:Int))→i=cs.length→∀ c∈cs,0≤c∧c+1<(n:Int):=fun {i} h e c hc=>by
   obtain ⟨j,hj⟩:=List.getElem?_of_mem hc
   exact h j c (by have:=(List.getElem?_eq_some_iff.mp hj).1; lia) hj
  refine ⟨_,rfl,q,rfl,?_⟩
  have next:∀ {i:Nat} {c:Int},(∀ j d,j<i→cs[j]?=some d→0≤d∧d+1<(n:Int))→cs[i]?=some c→0≤c∧c+1<(n:Int)→∀ j d,j<i+1→cs[j]?=some d→0≤d∧d+1<(n:Int):=fun {i c} h e hc j d hj ej=>by
   by_cases q:j=i
   ·subst q
    rw [e] at ej
    rw [← Option.some.inj ej]
    exact hc
   ·exact h j d (by lia) ej
  rcases hq with hq | hq
  ·refine .inl ⟨⟨_,hq⟩,for_list (K:=K) (a:=q) (xs:=cs.map V.int) (fun i σ H2=>∃ v:Option V,σ=[some (.int (n:Int)),some (.ref q),v]∧H2=H∧∀ j c,j<i→cs[j]?=some c→0≤c∧c+1<(n:Int)) ⟨none,rfl,rfl,fun j c hj=>by lia⟩ (fun i σ H2 _ ⟨_,_,e,_⟩=>by rw [e]; exact hq) ?_ ?_⟩
   ·rintro i x σ H2 hi ⟨v,rfl,rfl,inv⟩
    obtain ⟨c,rfl,hc⟩:=val i x hi
    refine ⟨_,rfl,_,_,rfl,rfl,_,rfl,ite2 (fun z=>?_) (fun z1=>⟨_,rfl,_,rfl,_,_,rfl,rfl,_,_,rfl,rfl,_,rfl,ite2 (fun z=>?_) (fun z2=>⟨_,rfl,rfl,next inv hc ⟨?_,?_⟩⟩)⟩)⟩
    ·exact ⟨small_line (by show 1≤1000; decide),k _ (Same.refl _)⟩
    ·exact ⟨small_line (by show 1≤1000; decide),k _ (Same.refl _)⟩
    ·exact Int.not_lt.mp fun h=>z1 (decide_eq_true h)
    ·have:¬ ((n:Int) - 2<c):=fun h=>z2 (decide_eq_true h)
     lia
   ·rintro σ H2 ⟨v,rfl,rfl,inv⟩
    exact r2 _ v (fin inv cl)
  ·refine .inr ⟨⟨_,hq⟩,for_tup (K:=K) (a:=q) (xs:=cs.map V.int) (fun i σ H2=>∃ v:Option V,σ=[some (.int (n:Int)),some (.ref q),v]∧H2=H∧∀ j c,j<i→cs[j]?=some c→0≤c∧c+1<(n:Int)) ⟨none,rfl,rfl,fun j c hj=>by lia⟩ (fun i σ H2 _ ⟨_,_,e,_⟩=>by rw [e]; exact hq) ?_ ?_⟩
   ·rintro i x σ H2 hi ⟨v,rfl,rfl,inv⟩
    obtain ⟨c,rfl,hc⟩:=val i x hi
    refine ⟨_,rfl,_,_,rfl,rfl,_,rfl,ite2 (fun z=>?_) (fun z1=>⟨_,rfl,_,rfl,_,_,rfl,rfl,_,_,rfl,rfl,_,rfl,ite2 (fun z=>?_) (fun z2=>⟨_,rfl,rfl,next inv hc ⟨?_,?_⟩⟩)⟩)⟩
    ·exact ⟨small_line (by show 1≤1000; decide),k _ (Same.refl _)⟩
    ·exact ⟨small_line (by show 1≤1000; decide),k _ (Same.refl _)⟩
    ·exact Int.not_lt.mp fun h=>z1 (decide_eq_true h)
    ·have:¬ ((n:Int) - 2<c):=fun h=>z2 (decide_eq_true h)
     lia
   ·rintro σ H2 ⟨v,rfl,rfl,inv⟩
    exact r2 _ v (fin inv cl)
theorem no_settle {C f fL cS:Addr} {fd fdL:FuncData} {bm:List Value} (D:MDef K C "settle" "Bench.settle" sSettle ["self","creases"] f fd) (BC:BCl K C) (DL:Def K mg "lies_free" s_lies_free ["at","opened"] fL fdL) (GL:FnOk P w K mg base CX0 3 fL fdL ["at","opened"] (spLies K)) (T:Own mg) (hS:mg "Stuck"=some (.ref cS)) (X:ExcCls base cS bm) :
  FnOk P w K mg base (CX1 P w) 4 f fd ["self","creases"] (spSettleNo K C cS):=by
 refine Fun.okX D.fn scSettle (fun vs H Q E h=>?_) (fun cdv A outer s H vs Q E hr h=>?_)
 ·obtain ⟨b,q,dx,la,lp,lo,ns,n,ms,cs,rfl,_⟩:=h
  rfl
 ·obtain ⟨b,q,dx,la,lp,lo,ns,n,ms,cs,rfl,B,hq,pm,n1,n2,nd,hb,hl,F,k⟩:=h
  have pl:(plc ns).length=n:=by rw [plc_length,perm_len pm]
  refine ⟨_,pss_cons (ps_set (i:=2) scSettle.nd rfl (Or.inl rfl) (pe_callB call_sortS (by rfl) T.sorted PyProof.Rows.boot_sorted (pa_cons (pv 1) pa_nil)))
   (pss_cons (ps_if (pt_not (pt_val (pe_call (FnOk.calm GL) hr (by rfl) DL.at_ DL.fn.kp DL.bd .nil (pass1 fun _ _ _ h=>h) (pa_cons (pe_fld (pv 0) rfl) (pa_cons (pv 2) pa_nil))))) (pss_one (ps_raise (E:=E) rfl rfl (by rfl) hS X (raises1 fun _ _ _ h=>h) (pa_cons pe_str pa_nil))) pss_nil)
   pss_never),?_⟩
  refine ⟨_,rfl,q,cz cs,rfl,.inl (SqL.of hq),by rw [List.length_map]; lia,fun l rz hl0 mp so=>?_⟩
  obtain ⟨rs,rfl,inc,mm,rl⟩:=sorted_nat mp so nd
  have t1:=same_new (o:=.lst (cv rs)) hl0
  refine ⟨_,rfl,b,C,dx,_,_,rfl,t1 _ _ B.ins,BC.cl,BC.nAt,rfl,_,rfl,la,l,plc ns,rs,rfl,SqL.of (t1 _ _ B.at_),upd_same,by lia,by lia,inc,fun c hc=>by rw [pl]; exact hb c ((mm c).mp hc),by lia,fun bb H2 s2 hbb=>?_⟩
  have ht:bb=false:=by
   cases bb with
   | false=>rfl
   | true=>exact absurd ((hbb.mp rfl).congr mm) F
  subst ht
  exact ⟨false,rfl,iteT ⟨small_line (by show 1≤1000; decide),k _ (t1.trans s2)⟩⟩
end
end Sf
set_option maxHeartbeats 4000000
namespace L2
theorem FnOk.or {P:PySem.Program} {w:PySem.World} {K:PySem.W.Frag} {mg:PySem.Str→Option PySem.Value} {base:PySem.Heap} {CX:CXT} {k:Nat} {f:PySem.Addr} {fd:PySem.FuncData} {ps:List PySem.Str} {sp sp':Sp} (F:FnOk P w K mg base CX k f fd ps sp) (G:FnOk P w K mg base CX k f fd ps sp') :
  FnOk P w K mg base CX k f fd ps (fun vs H Q E=>sp vs H Q E∨sp' vs H Q E) :=
 ⟨fun vs H Q E h=>h.elim (F.len vs H Q E) (G.len vs H Q E),fun A outer s H args us vs Q E hr he hb hv h=>h.elim (F.run A outer s H args us vs Q E hr he hb hv) (G.run A outer s H args us vs Q E hr he hb hv)⟩
end L2
namespace Sf
open PySem L2 Pl
seal PS PSs PE PA PSsx PSx PEx
theorem mem_cz {c:Nat} {cs:List Nat}:((c:Int)∈cz cs)↔c∈cs:=by
 rw [List.mem_map]
 constructor
 ·rintro ⟨d,hd,e⟩
  have:d=c:=by lia
  exact this ▸ hd
 ·exact fun h=>⟨c,h,rfl⟩
def spNoDeed (K:PySem.W.Frag) (C cE:Addr) (cond:Nat→List Int→List Nat→List Int→Prop):Sp:=fun vs H _ E=>∃ (b q dx la lp lo:Addr) (ns:List Int) (n:Nat) (ms:List Nat) (cs:List Int),vs=[.ref b,.ref q]∧BAt C H b dx la lp lo ns ms∧SqS K H q (cs.map V.int)∧ns.Perm (iota n)∧1≤n∧n≤60∧ms.Pairwise (·<·)∧(∀ c∈ms,c+1<n)∧cs.length≤60∧cond n ns ms cs∧∀ H',Same H H'→E (.ref cE) none H'
abbrev dTwo:Nat→List Int→List Nat→List Int→Prop:=fun n _ ms cs=>¬ BadC n cs∧∃ c∈cs,c.toNat∈ms
abbrev pTwo:Nat→List Int→List Nat→List Int→Prop:=fun n _ ms cs=>¬ BadC n cs∧∃ c∈cs,c.toNat∉ms
abbrev dThree:Nat→List Int→List Nat→List Int→Prop:=fun n ns ms cs=>¬ BadC n cs∧(∀ c∈cs,c.toNat∉ms)∧¬ Fre (plc ns) (fun c=>c∈ms∨(c:Int)∈cs)
abbrev pThree:Nat→List Int→List Nat→List Int→Prop:=fun n ns ms cs=>¬ BadC n cs∧(∀ c∈cs,c.toNat∈ms)∧¬ Fre (plc ns) (fun c=>c∈ms∧¬ (c:Int)∈cs)
section
variable {P:Program} {w:World} {K:PySem.W.Frag} {mg:Str→Option Value} {base:Heap}
theorem no_draw1 {C f fC cE:Addr} {fd fdC:FuncData} {bm:List Value} (D:MDef K C "draw" "Bench.draw" sDraw ["self","creases"] f fd) (BC:BCl K C) (DC:Def K mg "check_creases" s_check_creases ["stamps","creases"] fC fdC) (GC:FnOk P w K mg base (CX1 P w) 1 fC fdC ["stamps","creases"] (spCheckNo K cE)) (T:Own mg) (Z:OwnZ mg) :
  FnOk P w K mg base (CX1 P w) 5 f fd ["self","creases"] (spNoDeed K C cE (fun n _ _ cs=>BadC n cs)):=by
 refine Fun.okX D.fn scDrawB (fun vs H Q E h=>?_) (fun cdv A outer s H vs Q E hr h=>?_)
 ·obtain ⟨b,q,dx,la,lp,lo,ns,n,ms,cs,rfl,_⟩:=h
  rfl
 ·obtain ⟨b,q,dx,la,lp,lo,ns,n,ms,cs,rfl,B,hq,pm,n1,n2,inc,bd,csl,cond,k⟩:=h
  have hr1:=hr.mono (show 1≤4 by decide)
  have nl:=perm_len pm
  have pl:(plc ns).length=n:=by rw [plc_length,nl]
  refine ⟨_,pss_cons (ps_expr (pe_call (E:=E) GC hr1 rfl DC.at_ DC.fn.kp DC.bd .nil (pass1 fun _ _ _ h=>h) (pa_cons (pe_callB call_len_seq (by rfl) T.len PySem.boot_len (pa_cons (pe_fld (pv 0) rfl) pa_nil)) (pa_cons (pv 1) pa_nil)))) pss_never,?_⟩
  refine ⟨_,rfl,b,C,dx,_,_,rfl,B.ins,BC.cl,BC.nAt,rfl,la,_,rfl,.inl (SqL.of B.at_),_,rfl,q,n,cs,?_,hq,cond,csl,fun H1 s1=>k H1 s1⟩
  ·show [V.int (((plc ns).map V.int).length:Int),V.ref q]=[V.int (n:Int),V.ref q]
   rw [List.length_map,pl]
theorem no_draw2 {C f fC cS:Addr} {fd fdC:FuncData} {bm:List Value} (D:MDef K C "draw" "Bench.draw" sDraw ["self","creases"] f fd) (BC:BCl K C) (DC:Def K mg "check_creases" s_check_creases ["stamps","creases"] fC fdC) (hS:mg "Stuck"=some (.ref cS)) (X:ExcCls base cS bm) (T:Own mg) (Z:OwnZ mg) :
  FnOk P w K mg base (CX1 P w) 5 f fd ["self","creases"] (spNoDeed K C cS dTwo):=by
 have GC:FnOk P w K mg base CX0 1 fC fdC ["stamps","creases"] (spCheckCr K):=ok_checkcr DC T Z
 refine Fun.okX D.fn scDrawB (fun vs H Q E h=>?_) (fun cdv A outer s H vs Q E hr h=>?_)
 ·obtain ⟨b,q,dx,la,lp,lo,ns,n,ms,cs,rfl,_⟩:=h
  rfl
 ·obtain ⟨b,q,dx,la,lp,lo,ns,n,ms,cs,rfl,B,hq,pm,n1,n2,inc,bd,csl,cond,k⟩:=h
  have hr1:=hr.mono (show 1≤4 by decide)
  have nl:=perm_len pm
  have pl:(plc ns).length=n:=by rw [plc_length,nl]
  have hc3:=cond.1
  obtain ⟨ez,nd,hb⟩:=cz_of hc3
  generalize hds:cs.map Int.toNat=ds at ez nd hb
  subst ez
  have dl:ds.length≤60:=by rw [List.length_map] at csl; exact csl
  refine ⟨_,pss_cons (ps_expr (pe_call (FnOk.calm GC) hr1 rfl DC.at_ DC.fn.kp DC.bd .nil (pass1 (E':=E0) fun _ _ _ h=>h.elim) (pa_cons (pe_callB call_len_seq (by rfl) T.len PySem.boot_len (pa_cons (pe_fld (pv 0) rfl) pa_nil)) (pa_cons (pv 1) pa_nil))))
   (pss_cons (ps_if (pt_val (pe_callB (call_anyL rfl) (by rfl) Z.any boot_anyZ (pa_cons (pe_lcomp (cap:=[0]) (caps:=["self"]) rfl (pi_seq (pv 1))
     rfl (by decide +kernel) (by decide +kernel) rfl (by show ∀ y:Str×NameKind,y∈_→y.2=NameKind.free→(defScope sDraw).names.lookup y.1=some .cell∨(defScope sDraw).names.lookup y.1=some .free; decide +kernel) rfl (fun y hy=>by rw [List.mem_singleton.mp hy]; exact ⟨.inl rfl,.inl rfl⟩) (by decide +kernel)
     (fun cl s₃ H₃ fp=>⟨pifs_nil,pe_cmpR (op_in_seqK (K:=K) rfl) (pv 0) (pe_fldK (K:=K) rfl (pv 1) rfl) rfl⟩)) pa_nil))) (pss_one (ps_raise (E:=E) rfl rfl (by rfl) hS X (raises1 fun _ _ _ h=>h) (pa_cons pe_str pa_nil))) pss_nil) pss_never),?_⟩
  refine ⟨_,rfl,b,C,dx,_,_,rfl,B.ins,BC.cl,BC.nAt,rfl,la,_,rfl,.inl (SqL.of B.at_),_,rfl,q,n,ds,?_,hq,nd,hb,dl,fun H1 s1=>?_⟩
  ·show [V.int (((plc ns).map V.int).length:Int),V.ref q]=[V.int (n:Int),V.ref q]
   rw [List.length_map,pl]
  have B1:=B.same s1
  have hq1:SqS K H1 q (cv ds):=s1.sqs hq
  have cl:=cv_len ds
  refine ⟨_,rfl,q,rfl,lc_seq_if (xs:=cv ds) (p:=fun _=>true) (f:=fun v=>.bl (inV v (cv ms))) (by rw [cl]; lia) hq1 (fun x H2 R' _ _ kR=>kR H2 (Same.refl _)) (fun x H2 R' hx _ s2 kR=>?_) fun l H2 hl0 s2 h2=>?_⟩
  ·obtain ⟨z,hz,rfl⟩:=List.mem_map.mp hx
   exact ⟨_,rfl,_,rfl,b,C,dx,_,_,rfl,s2 _ _ B1.ins,BC.cl,BC.nOp,rfl,lo,cv ms,rfl,.inl (SqL.of (s2 _ _ B1.op_)),rfl,cv_flat ms,kR H2 (Same.refl _)⟩
  rw [List.filter_eq_self.mpr (fun _ _=>rfl)] at h2
  have hf:(cv ds).map (fun v=>V.bl (inV v (cv ms)))=(ds.map fun c=>decide (c∈ms)).map V.bl:=by
   rw [List.map_map,List.map_map,List.map_map]
   refine List.map_congr_left fun c _=>?_
   show V.bl (inV (.int (c:Int)) (cv ms))=V.bl (decide (c∈ms))
   rw [inv_int]
   congr 1
   refine decide_eq_decide.mpr ?_
   rw [List.mem_map]
   constructor
   ·rintro ⟨d,hd,e⟩
    have:d=c:=by lia
    exact this ▸ hd
   ·exact fun h=>⟨c,h,rfl⟩
  rw [hf] at h2
  refine ⟨l,_,rfl,SqL.of h2,_,rfl,?_⟩
  have B2:=B1.same s2
  have s12:=s1.trans s2
  have na:(ds.map fun c=>decide (c∈ms)).any id=true:=by
   obtain ⟨c,hc,hm⟩:=cond.2
   obtain ⟨d,hd,rfl⟩:=List.mem_map.mp hc
   rw [Int.toNat_natCast] at hm
   exact List.any_eq_true.mpr ⟨true,List.mem_map.mpr ⟨d,hd,decide_eq_true hm⟩,rfl⟩
  rw [na]
  exact iteT ⟨small_line (by show 1≤1000; decide),k _ s12⟩
theorem no_draw3 {C f fC fS cS:Addr} {fd fdC fdS:FuncData} (D:MDef K C "draw" "Bench.draw" sDraw ["self","creases"] f fd) (BC:BCl K C) (DC:Def K mg "check_creases" s_check_creases ["stamps","creases"] fC fdC) (DS:MDef K C "settle" "Bench.settle" sSettle ["self","creases"] fS fdS) (GS:FnOk P w K mg base (CX1 P w) 4 fS fdS ["self","creases"] (spSettleNo K C cS)) (T:Own mg) (Z:OwnZ mg) :
  FnOk P w K mg base (CX1 P w) 5 f fd ["self","creases"] (spNoDeed K C cS dThree):=by
 have GC:FnOk P w K mg base CX0 1 fC fdC ["stamps","creases"] (spCheckCr K):=ok_checkcr DC T Z
 refine Fun.okX D.fn scDrawB (fun vs H Q E h=>?_) (fun cdv A outer s H vs Q E hr h=>?_)
 ·obtain ⟨b,q,dx,la,lp,lo,ns,n,ms,cs,rfl,_⟩:=h
  rfl
 ·obtain ⟨b,q,dx,la,lp,lo,ns,n,ms,cs,rfl,B,hq,pm,n1,n2,inc,bd,csl,cond,k⟩:=h
  have hr1:=hr.mono (show 1≤4 by decide)
  have nl:=perm_len pm
  have pl:(plc ns).length=n:=by rw [plc_length,nl]
  have hc3:=cond.1
  obtain ⟨ez,nd,hb⟩:=cz_of hc3
  generalize hds:cs.map Int.toNat=ds at ez nd hb
  subst ez
  have dl:ds.length≤60:=by rw [List.length_map] at csl; exact csl
  refine ⟨_,pss_cons (ps_expr (pe_call (FnOk.calm GC) hr1 rfl DC.at_ DC.fn.kp DC.bd .nil (pass1 (E':=E0) fun _ _ _ h=>h.elim) (pa_cons (pe_callB call_len_seq (by rfl) T.len PySem.boot_len (pa_cons (pe_fld (pv 0) rfl) pa_nil)) (pa_cons (pv 1) pa_nil))))
   (pss_cons (ps_if (pt_val (pe_callB (call_anyL rfl) (by rfl) Z.any boot_anyZ (pa_cons (pe_lcomp (cap:=[0]) (caps:=["self"]) rfl (pi_seq (pv 1))
     rfl (by decide +kernel) (by decide +kernel) rfl (by show ∀ y:Str×NameKind,y∈_→y.2=NameKind.free→(defScope sDraw).names.lookup y.1=some .cell∨(defScope sDraw).names.lookup y.1=some .free; decide +kernel) rfl (fun y hy=>by rw [List.mem_singleton.mp hy]; exact ⟨.inl rfl,.inl rfl⟩) (by decide +kernel)
     (fun cl s₃ H₃ fp=>⟨pifs_nil,pe_cmpR (op_in_seqK (K:=K) rfl) (pv 0) (pe_fldK (K:=K) rfl (pv 1) rfl) rfl⟩)) pa_nil))) pss_never pss_nil)
   (pss_one (ps_expr (pe_meth (E:=E) (pv 0) BC.cl DS.me GS hr DS.bd .nil (pass1 fun _ _ _ h=>h) (pa_cons (pe_op op_cat (pe_fld (pv 0) rfl) (pe_callTy call_list_of (by rfl) T.list boot_list (pa_cons (pv 1) pa_nil))) pa_nil))))),?_⟩
  refine ⟨_,rfl,b,C,dx,_,_,rfl,B.ins,BC.cl,BC.nAt,rfl,la,_,rfl,.inl (SqL.of B.at_),_,rfl,q,n,ds,?_,hq,nd,hb,dl,fun H1 s1=>?_⟩
  ·show [V.int (((plc ns).map V.int).length:Int),V.ref q]=[V.int (n:Int),V.ref q]
   rw [List.length_map,pl]
  have B1:=B.same s1
  have hq1:SqS K H1 q (cv ds):=s1.sqs hq
  have cl:=cv_len ds
  refine ⟨_,rfl,q,rfl,lc_seq_if (xs:=cv ds) (p:=fun _=>true) (f:=fun v=>.bl (inV v (cv ms))) (by rw [cl]; lia) hq1 (fun x H2 R' _ _ kR=>kR H2 (Same.refl _)) (fun x H2 R' hx _ s2 kR=>?_) fun l H2 hl0 s2 h2=>?_⟩
  ·obtain ⟨z,hz,rfl⟩:=List.mem_map.mp hx
   exact ⟨_,rfl,_,rfl,b,C,dx,_,_,rfl,s2 _ _ B1.ins,BC.cl,BC.nOp,rfl,lo,cv ms,rfl,.inl (SqL.of (s2 _ _ B1.op_)),rfl,cv_flat ms,kR H2 (Same.refl _)⟩
  rw [List.filter_eq_self.mpr (fun _ _=>rfl)] at h2
  have hf:(cv ds).map (fun v=>V.bl (inV v (cv ms)))=(ds.map fun c=>decide (c∈ms)).map V.bl:=by
   rw [List.map_map,List.map_map,List.map_map]
   refine List.map_congr_left fun c _=>?_
   show V.bl (inV (.int (c:Int)) (cv ms))=V.bl (decide (c∈ms))
   rw [inv_int]
   congr 1
   refine decide_eq_decide.mpr ?_
   rw [List.mem_map]
   constructor
   ·rintro ⟨d,hd,e⟩
    have:d=c:=by lia
    exact this ▸ hd
   ·exact fun h=>⟨c,h,rfl⟩
  rw [hf] at h2
  refine ⟨l,_,rfl,SqL.of h2,_,rfl,?_⟩
  have B2:=B1.same s2
  have s12:=s1.trans s2
  have dm:∀ c∈ds,c∉ms:=fun c hc z=>cond.2.1 (c:Int) (List.mem_map.mpr ⟨c,hc,rfl⟩) (by rw [Int.toNat_natCast]; exact z)
  have na:(ds.map fun c=>decide (c∈ms)).any id=false:=by
   refine List.any_eq_false.mpr fun b hb'=>?_
   obtain ⟨c,hc,rfl⟩:=List.mem_map.mp hb'
   exact fun z=>dm c hc (of_decide_eq_true z)
  rw [na]
  refine iteF ?_
  refine ⟨_,rfl,b,dx,_,rfl,B2.ins,rfl,_,rfl,b,C,dx,_,_,rfl,B2.ins,BC.cl,BC.nOp,rfl,_,rfl,q,_,rfl,s12.sqs hq,fun l3 hl3=>?_⟩
  have t3:=same_new (o:=.lst (cv ds)) hl3
  have ndm:(ms++ds).Nodup:=List.nodup_append.mpr ⟨inc.imp fun h=>Nat.ne_of_lt h,nd,fun x hx y hy e=>dm y hy (e ▸ hx)⟩
  have bnd:∀ c∈ms++ds,c+1<n:=fun c hc=>by
   rcases List.mem_append.mp hc with h | h
   ·exact bd c h
   ·exact hb c h
  have mcl:(ms++ds).length≤60:=by
   have:=nodup_le n (ms++ds) ndm fun c hc=>by have:=bnd c hc; lia
   lia
  refine ⟨lo,l3,_,_,rfl,rfl,t3 _ _ B2.op_,upd_same,?_,fun l4 hl4=>?_⟩
  ·rw [cv_len,cv_len]
   exact small_line (by rw [List.length_append] at mcl; lia)
  have t4:=same_new (o:=.lst (cv ms++cv ds)) hl4
  have B4:=(B2.same t3).same t4
  refine ⟨b,l4,dx,la,lp,lo,ns,n,ms,ms++ds,rfl,B4,?_,pm,n1,n2,ndm,bnd,mcl,fun F=>cond.2.2 (F.congr fun c=>?_),fun H5 s5=>k H5 (s12.trans (t3.trans (t4.trans s5)))⟩
  ·rw [upd_same]
   congr 2
   rw [← List.map_append,← List.map_append]
  ·rw [List.mem_append,mem_cz]
theorem no_press1 {C f fC cE:Addr} {fd fdC:FuncData} {bm:List Value} (D:MDef K C "press" "Bench.press" sPress ["self","creases"] f fd) (BC:BCl K C) (DC:Def K mg "check_creases" s_check_creases ["stamps","creases"] fC fdC) (GC:FnOk P w K mg base (CX1 P w) 1 fC fdC ["stamps","creases"] (spCheckNo K cE)) (T:Own mg) (Z:OwnZ mg) :
  FnOk P w K mg base (CX1 P w) 5 f fd ["self","creases"] (spNoDeed K C cE (fun n _ _ cs=>BadC n cs)):=by
 refine Fun.okX D.fn scPressB (fun vs H Q E h=>?_) (fun cdv A outer s H vs Q E hr h=>?_)
 ·obtain ⟨b,q,dx,la,lp,lo,ns,n,ms,cs,rfl,_⟩:=h
  rfl
 ·obtain ⟨b,q,dx,la,lp,lo,ns,n,ms,cs,rfl,B,hq,pm,n1,n2,inc,bd,csl,cond,k⟩:=h
  have hr1:=hr.mono (show 1≤4 by decide)
  have nl:=perm_len pm
  have pl:(plc ns).length=n:=by rw [plc_length,nl]
  refine ⟨_,pss_cons (ps_expr (pe_call (E:=E) GC hr1 rfl DC.at_ DC.fn.kp DC.bd .nil (pass1 fun _ _ _ h=>h) (pa_cons (pe_callB call_len_seq (by rfl) T.len PySem.boot_len (pa_cons (pe_fld (pv 0) rfl) pa_nil)) (pa_cons (pv 1) pa_nil)))) pss_never,?_⟩
  refine ⟨_,rfl,b,C,dx,_,_,rfl,B.ins,BC.cl,BC.nAt,rfl,la,_,rfl,.inl (SqL.of B.at_),_,rfl,q,n,cs,?_,hq,cond,csl,fun H1 s1=>k H1 s1⟩
  ·show [V.int (((plc ns).map V.int).length:Int),V.ref q]=[V.int (n:Int),V.ref q]
   rw [List.length_map,pl]
theorem no_press2 {C f fC cS:Addr} {fd fdC:FuncData} {bm:List Value} (D:MDef K C "press" "Bench.press" sPress ["self","creases"] f fd) (BC:BCl K C) (DC:Def K mg "check_creases" s_check_creases ["stamps","creases"] fC fdC) (hS:mg "Stuck"=some (.ref cS)) (X:ExcCls base cS bm) (T:Own mg) (Z:OwnZ mg) :
  FnOk P w K mg base (CX1 P w) 5 f fd ["self","creases"] (spNoDeed K C cS pTwo):=by
 have GC:FnOk P w K mg base CX0 1 fC fdC ["stamps","creases"] (spCheckCr K):=ok_checkcr DC T Z
 refine Fun.okX D.fn scPressB (fun vs H Q E h=>?_) (fun cdv A outer s H vs Q E hr h=>?_)
 ·obtain ⟨b,q,dx,la,lp,lo,ns,n,ms,cs,rfl,_⟩:=h
  rfl
 ·obtain ⟨b,q,dx,la,lp,lo,ns,n,ms,cs,rfl,B,hq,pm,n1,n2,inc,bd,csl,cond,k⟩:=h
  have hr1:=hr.mono (show 1≤4 by decide)
  have nl:=perm_len pm
  have pl:(plc ns).length=n:=by rw [plc_length,nl]
  have hc3:=cond.1
  obtain ⟨ez,nd,hb⟩:=cz_of hc3
  generalize hds:cs.map Int.toNat=ds at ez nd hb
  subst ez
  have dl:ds.length≤60:=by rw [List.length_map] at csl; exact csl
  refine ⟨_,pss_cons (ps_expr (pe_call (FnOk.calm GC) hr1 rfl DC.at_ DC.fn.kp DC.bd .nil (pass1 (E':=E0) fun _ _ _ h=>h.elim) (pa_cons (pe_callB call_len_seq (by rfl) T.len PySem.boot_len (pa_cons (pe_fld (pv 0) rfl) pa_nil)) (pa_cons (pv 1) pa_nil))))
   (pss_cons (ps_if (pt_not (pt_val (pe_callB (call_allL rfl) (by rfl) Z.all boot_allZ (pa_cons (pe_lcomp (cap:=[0]) (caps:=["self"]) rfl (pi_seq (pv 1))
     rfl (by decide +kernel) (by decide +kernel) rfl (by show ∀ y:Str×NameKind,y∈_→y.2=NameKind.free→(defScope sPress).names.lookup y.1=some .cell∨(defScope sPress).names.lookup y.1=some .free; decide +kernel) rfl (fun y hy=>by rw [List.mem_singleton.mp hy]; exact ⟨.inl rfl,.inl rfl⟩) (by decide +kernel)
     (fun cl s₃ H₃ fp=>⟨pifs_nil,pe_cmpR (op_in_seqK (K:=K) rfl) (pv 0) (pe_fldK (K:=K) rfl (pv 1) rfl) rfl⟩)) pa_nil)))) (pss_one (ps_raise (E:=E) rfl rfl (by rfl) hS X (raises1 fun _ _ _ h=>h) (pa_cons pe_str pa_nil))) pss_nil) pss_never),?_⟩
  refine ⟨_,rfl,b,C,dx,_,_,rfl,B.ins,BC.cl,BC.nAt,rfl,la,_,rfl,.inl (SqL.of B.at_),_,rfl,q,n,ds,?_,hq,nd,hb,dl,fun H1 s1=>?_⟩
  ·show [V.int (((plc ns).map V.int).length:Int),V.ref q]=[V.int (n:Int),V.ref q]
   rw [List.length_map,pl]
  have B1:=B.same s1
  have hq1:SqS K H1 q (cv ds):=s1.sqs hq
  have cl:=cv_len ds
  refine ⟨_,rfl,q,rfl,lc_seq_if (xs:=cv ds) (p:=fun _=>true) (f:=fun v=>.bl (inV v (cv ms))) (by rw [cl]; lia) hq1 (fun x H2 R' _ _ kR=>kR H2 (Same.refl _)) (fun x H2 R' hx _ s2 kR=>?_) fun l H2 hl0 s2 h2=>?_⟩
  ·obtain ⟨z,hz,rfl⟩:=List.mem_map.mp hx
   exact ⟨_,rfl,_,rfl,b,C,dx,_,_,rfl,s2 _ _ B1.ins,BC.cl,BC.nOp,rfl,lo,cv ms,rfl,.inl (SqL.of (s2 _ _ B1.op_)),rfl,cv_flat ms,kR H2 (Same.refl _)⟩
  rw [List.filter_eq_self.mpr (fun _ _=>rfl)] at h2
  have hf:(cv ds).map (fun v=>V.bl (inV v (cv ms)))=(ds.map fun c=>decide (c∈ms)).map V.bl:=by
   rw [List.map_map,List.map_map,List.map_map]
   refine List.map_congr_left fun c _=>?_
   show V.bl (inV (.int (c:Int)) (cv ms))=V.bl (decide (c∈ms))
   rw [inv_int]
   congr 1
   refine decide_eq_decide.mpr ?_
   rw [List.mem_map]
   constructor
   ·rintro ⟨d,hd,e⟩
    have:d=c:=by lia
    exact this ▸ hd
   ·exact fun h=>⟨c,h,rfl⟩
  rw [hf] at h2
  refine ⟨l,_,rfl,SqL.of h2,_,rfl,?_⟩
  have B2:=B1.same s2
  have s12:=s1.trans s2
  have na:(ds.map fun c=>decide (c∈ms)).all id=false:=by
   obtain ⟨c,hc,hm⟩:=cond.2
   obtain ⟨d,hd,rfl⟩:=List.mem_map.mp hc
   rw [Int.toNat_natCast] at hm
   refine Bool.eq_false_iff.mpr fun h=>?_
   have:=List.all_eq_true.mp h (decide (d∈ms)) (List.mem_map.mpr ⟨d,hd,rfl⟩)
   exact hm (of_decide_eq_true this)
  rw [na]
  exact iteT ⟨small_line (by show 1≤1000; decide),k _ s12⟩
theorem no_press3 {C f fC fS cS:Addr} {fd fdC fdS:FuncData} (D:MDef K C "press" "Bench.press" sPress ["self","creases"] f fd) (BC:BCl K C) (DC:Def K mg "check_creases" s_check_creases ["stamps","creases"] fC fdC) (DS:MDef K C "settle" "Bench.settle" sSettle ["self","creases"] fS fdS) (GS:FnOk P w K mg base (CX1 P w) 4 fS fdS ["self","creases"] (spSettleNo K C cS)) (T:Own mg) (Z:OwnZ mg) :
  FnOk P w K mg base (CX1 P w) 5 f fd ["self","creases"] (spNoDeed K C cS pThree):=by
 have GC:FnOk P w K mg base CX0 1 fC fdC ["stamps","creases"] (spCheckCr K):=ok_checkcr DC T Z
 refine Fun.okX D.fn scPressB (fun vs H Q E h=>?_) (fun cdv A outer s H vs Q E hr h=>?_)
 ·obtain ⟨b,q,dx,la,lp,lo,ns,n,ms,cs,rfl,_⟩:=h
  rfl
 ·obtain ⟨b,q,dx,la,lp,lo,ns,n,ms,cs,rfl,B,hq,pm,n1,n2,inc,bd,csl,cond,k⟩:=h
  have hr1:=hr.mono (show 1≤4 by decide)
  have nl:=perm_len pm
  have pl:(plc ns).length=n:=by rw [plc_length,nl]
  have hc3:=cond.1
  obtain ⟨ez,nd,hb⟩:=cz_of hc3
  generalize hds:cs.map Int.toNat=ds at ez nd hb
  subst ez
  have dl:ds.length≤60:=by rw [List.length_map] at csl; exact csl
  refine ⟨_,pss_cons (ps_expr (pe_call (FnOk.calm GC) hr1 rfl DC.at_ DC.fn.kp DC.bd .nil (pass1 (E':=E0) fun _ _ _ h=>h.elim) (pa_cons (pe_callB call_len_seq (by rfl) T.len PySem.boot_len (pa_cons (pe_fld (pv 0) rfl) pa_nil)) (pa_cons (pv 1) pa_nil))))
   (pss_cons (ps_if (pt_not (pt_val (pe_callB (call_allL rfl) (by rfl) Z.all boot_allZ (pa_cons (pe_lcomp (cap:=[0]) (caps:=["self"]) rfl (pi_seq (pv 1))
     rfl (by decide +kernel) (by decide +kernel) rfl (by show ∀ y:Str×NameKind,y∈_→y.2=NameKind.free→(defScope sPress).names.lookup y.1=some .cell∨(defScope sPress).names.lookup y.1=some .free; decide +kernel) rfl (fun y hy=>by rw [List.mem_singleton.mp hy]; exact ⟨.inl rfl,.inl rfl⟩) (by decide +kernel)
     (fun cl s₃ H₃ fp=>⟨pifs_nil,pe_cmpR (op_in_seqK (K:=K) rfl) (pv 0) (pe_fldK (K:=K) rfl (pv 1) rfl) rfl⟩)) pa_nil)))) pss_never pss_nil)
   (pss_one (ps_expr (pe_meth (E:=E) (pv 0) BC.cl DS.me GS hr DS.bd .nil (pass1 fun _ _ _ h=>h) (pa_cons (pe_lcomp (cap:=[1]) (caps:=["creases"]) rfl (pi_list (pe_fld (pv 0) rfl))
     rfl (by decide +kernel) (by decide +kernel) rfl (by show ∀ y:Str×NameKind,y∈_→y.2=NameKind.free→(defScope sPress).names.lookup y.1=some .cell∨(defScope sPress).names.lookup y.1=some .free; decide +kernel) rfl (fun y hy=>by rw [List.mem_singleton.mp hy]; exact ⟨.inl rfl,.inl rfl⟩) (by decide +kernel)
     (fun cl s₃ H₃ fp=>⟨pifs_one (pt_cmpR (op_notIn_seqK (K:=K) rfl) (pv 0) (pv 1) rfl),pv 0⟩)) pa_nil))))),?_⟩
  refine ⟨_,rfl,b,C,dx,_,_,rfl,B.ins,BC.cl,BC.nAt,rfl,la,_,rfl,.inl (SqL.of B.at_),_,rfl,q,n,ds,?_,hq,nd,hb,dl,fun H1 s1=>?_⟩
  ·show [V.int (((plc ns).map V.int).length:Int),V.ref q]=[V.int (n:Int),V.ref q]
   rw [List.length_map,pl]
  have B1:=B.same s1
  have hq1:SqS K H1 q (cv ds):=s1.sqs hq
  have cl:=cv_len ds
  refine ⟨_,rfl,q,rfl,lc_seq_if (xs:=cv ds) (p:=fun _=>true) (f:=fun v=>.bl (inV v (cv ms))) (by rw [cl]; lia) hq1 (fun x H2 R' _ _ kR=>kR H2 (Same.refl _)) (fun x H2 R' hx _ s2 kR=>?_) fun l H2 hl0 s2 h2=>?_⟩
  ·obtain ⟨z,hz,rfl⟩:=List.mem_map.mp hx
   exact ⟨_,rfl,_,rfl,b,C,dx,_,_,rfl,s2 _ _ B1.ins,BC.cl,BC.nOp,rfl,lo,cv ms,rfl,.inl (SqL.of (s2 _ _ B1.op_)),rfl,cv_flat ms,kR H2 (Same.refl _)⟩
  rw [List.filter_eq_self.mpr (fun _ _=>rfl)] at h2
  have hf:(cv ds).map (fun v=>V.bl (inV v (cv ms)))=(ds.map fun c=>decide (c∈ms)).map V.bl:=by
   rw [List.map_map,List.map_map,List.map_map]
   refine List.map_congr_left fun c _=>?_
   show V.bl (inV (.int (c:Int)) (cv ms))=V.bl (decide (c∈ms))
   rw [inv_int]
   congr 1
   refine decide_eq_decide.mpr ?_
   rw [List.mem_map]
   constructor
   ·rintro ⟨d,hd,e⟩
    have:d=c:=by lia
    exact this ▸ hd
   ·exact fun h=>⟨c,h,rfl⟩
  rw [hf] at h2
  refine ⟨l,_,rfl,SqL.of h2,_,rfl,?_⟩
  have B2:=B1.same s2
  have s12:=s1.trans s2
  have im:∀ c∈ds,c∈ms:=fun c hc=>by
   have:=cond.2.1 (c:Int) (List.mem_map.mpr ⟨c,hc,rfl⟩)
   rw [Int.toNat_natCast] at this
   exact this
  have na:(ds.map fun c=>decide (c∈ms)).all id=true:=by
   refine List.all_eq_true.mpr fun b hb'=>?_
   obtain ⟨c,hc,rfl⟩:=List.mem_map.mp hb'
   exact decide_eq_true (im c hc)
  rw [na]
  refine iteF ?_
  have msl:ms.length≤60:=by
   have:=nodup_le n ms (inc.imp fun h=>Nat.ne_of_lt h) fun c hc=>by have:=bd c hc; lia
   lia
  refine ⟨_,rfl,b,dx,_,rfl,B2.ins,rfl,_,rfl,b,C,dx,_,_,rfl,B2.ins,BC.cl,BC.nOp,rfl,lo,rfl,⟨_,SqL.of B2.op_⟩,fun l3 hl3=>?_⟩
  refine lc_list_if (xs:=cv ms) (p:=fun v=>!inV v (cv ds)) (f:=id) (by rw [cv_len]; lia) hl3 (SqL.of B2.op_) (fun x H3 R' hx s3 kR=>?_) (fun x H3 R' hx _ s3 kR=>⟨_,rfl,kR H3 (Same.refl _)⟩) fun H3 s3 h3=>?_
  ·obtain ⟨z,hz,rfl⟩:=List.mem_map.mp hx
   exact ⟨_,rfl,_,rfl,q,cv ds,rfl,s3.sqs (s12.sqs hq),rfl,cv_flat ds,_,rfl,kR H3 (Same.refl _)⟩
  have ef:((cv ms).filter fun v=>!inV v (cv ds)).map id=cv (ms.filter fun c=>!decide (c∈ds)):=by
   rw [List.map_id,List.filter_map,List.filter_map]
   congr 2
   refine List.filter_congr fun c _=>?_
   show (!inV (.int (c:Int)) (cv ds))=(!decide (c∈ds))
   rw [inv_int,decide_eq_decide.mpr (mem_cz (c:=c) (cs:=ds))]
  rw [ef] at h3
  have B3:=B2.same s3
  have mf:∀ c,c∈ms.filter (fun c=>!decide (c∈ds))↔(c∈ms∧c∉ds):=fun c=>by rw [List.mem_filter]; simp
  have fl:(ms.filter fun c=>!decide (c∈ds)).length≤60:=Nat.le_trans (List.length_filter_le _ _) msl
  refine ⟨b,l3,dx,la,lp,lo,ns,n,ms,ms.filter (fun c=>!decide (c∈ds)),rfl,B3,h3,pm,n1,n2,(inc.imp fun h=>Nat.ne_of_lt h).sublist List.filter_sublist,fun c hc=>bd c ((mf c).mp hc).1,fl,fun F=>cond.2.2 (F.congr fun c=>?_),fun H5 s5=>k H5 (s12.trans (s3.trans s5))⟩
  rw [mf,mem_cz]
end
end Sf
set_option maxHeartbeats 4000000
namespace Sf
open PySem L2 Pl
section
variable {P:Program} {w:World} {K:PySem.W.Frag} {mg:Str→Option Value} {base:Heap}
theorem same_behind {C b:Addr} {ns:List Int} {L:Nat→Prop} {own:Addr→Prop} {H H':Hp} (B:BenchP C H b ns L own) (s:Same H H'):Behind (BenchP C) b ns own L H H' :=
 ⟨own,fun x o e _=>s x o e,fun y h=>.inl h,(benchP_ok C).same B s⟩
theorem newD {L:Nat→Prop} {cs:List Int} {c:Nat}:NewL true L cs c↔(L c∨(c:Int)∈cs):=by unfold NewL; rw [if_pos rfl]
theorem newP {L:Nat→Prop} {cs:List Int} {c:Nat}:NewL false L cs c↔(L c∧(c:Int)∉cs):=by unfold NewL; rw [if_neg Bool.false_ne_true]
theorem behind_congr {C b:Addr} {ns:List Int} {L L':Nat→Prop} {own own':Addr→Prop} {H H':Hp} (h1:Beside own H H') (h2:∀ y,own' y→own y∨H y=none) (h3:BenchP C H' b ns L own') (e:∀ c,L c↔L' c):Behind (BenchP C) b ns own L' H H':=⟨own',h1,h2,h3.congr e⟩
theorem ok_deedD {C f:Addr} {fd:FuncData} {cl:Nat→Addr} (G0:FnOk P w K mg base CX0 5 f fd ["self","creases"] (spDraw K (BenchP C))) (G1:FnOk P w K mg base (CX1 P w) 5 f fd ["self","creases"] (spNoDeed K C (cl 2) (fun n _ _ cs=>BadC n cs)))
  (G2:FnOk P w K mg base (CX1 P w) 5 f fd ["self","creases"] (spNoDeed K C (cl 5) dTwo)) (G3:FnOk P w K mg base (CX1 P w) 5 f fd ["self","creases"] (spNoDeed K C (cl 5) dThree)):FnOk P w K mg base (CX1 P w) 5 f fd ["self","creases"] (spDeed K (BenchP C) cl true):=by
 refine FnOk.imp (FnOk.or (FnOk.calm G0) (FnOk.or G1 (FnOk.or G2 G3))) fun vs H Q E h=>?_
 obtain ⟨b,q,ns,n,L,own,cs,rfl,hB,hq,hno,pm,n1,n2,nx,csl,k1,k2,k3⟩:=h
 obtain ⟨dx,la,lp,lo,ms,B,R,⟨_,bd⟩,O⟩:=id hB
 have nl:=perm_len pm
 have bd2:∀ c∈ms,c+1<n:=fun c hc=>by have:=bd c hc; lia
 by_cases bad:BadC n cs
 ·exact .inr (.inl ⟨b,q,dx,la,lp,lo,ns,n,ms,cs,rfl,B,hq,pm,n1,n2,R.inc,bd2,csl,bad,fun H' s=>k1 bad H' (same_behind hB s)⟩)
 ·by_cases two:∃ c∈cs,c.toNat∈ms
  ·refine .inr (.inr (.inl ⟨b,q,dx,la,lp,lo,ns,n,ms,cs,rfl,B,hq,pm,n1,n2,R.inc,bd2,csl,⟨bad,two⟩,fun H' s=>k2 bad (.inl ?_) H' (same_behind hB s)⟩))
   obtain ⟨c,hc,hm⟩:=two
   exact ⟨c,hc,iff_of_true ((R.mem _).mp hm) rfl⟩
  ·have two':∀ c∈cs,c.toNat∉ms:=fun c hc z=>two ⟨c,hc,z⟩
   by_cases three:Fre (plc ns) (NewL true L cs)
   ·obtain ⟨ez,nd,hb⟩:=cz_of bad
    have mz:∀ c:Nat,(c:Int)∈cs↔c∈cs.map Int.toNat:=fun c=>by
     conv=>lhs; rw [ez]
     exact mem_cz
    have nst:¬ StkC true (plc ns) L cs:=fun z=>by
     rcases z with ⟨c,hc,z⟩ | z
     ·exact two' c hc ((R.mem _).mpr (z.mpr rfl))
     ·exact z three
    refine .inl ⟨b,q,ns,n,L,own,cs.map Int.toNat,rfl,hB,?_,hno,pm,n2,nx,nd,hb,fun c hc z=>?_,three.congr fun c=>?_,fun v own' H' h1 h2 h3=>k3 bad nst v H' (behind_congr h1 h2 h3 fun c=>?_)⟩
    ·show SqL K H q ((cz (cs.map Int.toNat)).map V.int)∨SqT K H q ((cz (cs.map Int.toNat)).map V.int)
     rw [← ez]
     exact hq
    ·obtain ⟨x,hx,rfl⟩:=List.mem_map.mp hc
     exact two' x hx ((R.mem _).mpr z)
    ·rw [newD,mz]
    ·rw [newD,mz]
   ·refine .inr (.inr (.inr ⟨b,q,dx,la,lp,lo,ns,n,ms,cs,rfl,B,hq,pm,n1,n2,R.inc,bd2,csl,⟨bad,two',fun F=>three (F.congr fun c=>?_)⟩,fun H' s=>k2 bad (.inr three) H' (same_behind hB s)⟩))
    rw [newD,R.mem]
theorem ok_deedP {C f:Addr} {fd:FuncData} {cl:Nat→Addr} (G0:FnOk P w K mg base CX0 5 f fd ["self","creases"] (spPress K (BenchP C))) (G1:FnOk P w K mg base (CX1 P w) 5 f fd ["self","creases"] (spNoDeed K C (cl 2) (fun n _ _ cs=>BadC n cs)))
  (G2:FnOk P w K mg base (CX1 P w) 5 f fd ["self","creases"] (spNoDeed K C (cl 5) pTwo)) (G3:FnOk P w K mg base (CX1 P w) 5 f fd ["self","creases"] (spNoDeed K C (cl 5) pThree)):FnOk P w K mg base (CX1 P w) 5 f fd ["self","creases"] (spDeed K (BenchP C) cl false):=by
 refine FnOk.imp (FnOk.or (FnOk.calm G0) (FnOk.or G1 (FnOk.or G2 G3))) fun vs H Q E h=>?_
 obtain ⟨b,q,ns,n,L,own,cs,rfl,hB,hq,hno,pm,n1,n2,nx,csl,k1,k2,k3⟩:=h
 obtain ⟨dx,la,lp,lo,ms,B,R,⟨_,bd⟩,O⟩:=id hB
 have nl:=perm_len pm
 have bd2:∀ c∈ms,c+1<n:=fun c hc=>by have:=bd c hc; lia
 by_cases bad:BadC n cs
 ·exact .inr (.inl ⟨b,q,dx,la,lp,lo,ns,n,ms,cs,rfl,B,hq,pm,n1,n2,R.inc,bd2,csl,bad,fun H' s=>k1 bad H' (same_behind hB s)⟩)
 ·by_cases two:∃ c∈cs,c.toNat∉ms
  ·refine .inr (.inr (.inl ⟨b,q,dx,la,lp,lo,ns,n,ms,cs,rfl,B,hq,pm,n1,n2,R.inc,bd2,csl,⟨bad,two⟩,fun H' s=>k2 bad (.inl ?_) H' (same_behind hB s)⟩))
   obtain ⟨c,hc,hm⟩:=two
   exact ⟨c,hc,iff_of_false (fun z=>hm ((R.mem _).mpr z)) Bool.false_ne_true⟩
  ·have two':∀ c∈cs,c.toNat∈ms:=fun c hc=>Classical.byContradiction fun z=>two ⟨c,hc,z⟩
   by_cases three:Fre (plc ns) (NewL false L cs)
   ·obtain ⟨ez,nd,hb⟩:=cz_of bad
    have mz:∀ c:Nat,(c:Int)∈cs↔c∈cs.map Int.toNat:=fun c=>by
     conv=>lhs; rw [ez]
     exact mem_cz
    have nst:¬ StkC false (plc ns) L cs:=fun z=>by
     rcases z with ⟨c,hc,z⟩ | z
     ·exact Bool.false_ne_true (z.mp ((R.mem _).mp (two' c hc)))
     ·exact z three
    refine .inl ⟨b,q,ns,n,L,own,cs.map Int.toNat,rfl,hB,?_,hno,pm,n2,nx,nd,hb,fun c hc=>?_,three.congr fun c=>?_,fun v own' H' h1 h2 h3=>k3 bad nst v H' (behind_congr h1 h2 h3 fun c=>?_)⟩
    ·show SqL K H q ((cz (cs.map Int.toNat)).map V.int)∨SqT K H q ((cz (cs.map Int.toNat)).map V.int)
     rw [← ez]
     exact hq
    ·obtain ⟨x,hx,rfl⟩:=List.mem_map.mp hc
     exact (R.mem _).mp (two' x hx)
    ·rw [newP,mz]
    ·rw [newP,mz]
   ·refine .inr (.inr (.inr ⟨b,q,dx,la,lp,lo,ns,n,ms,cs,rfl,B,hq,pm,n1,n2,R.inc,bd2,csl,⟨bad,two',fun F=>three (F.congr fun c=>?_)⟩,fun H' s=>k2 bad (.inr three) H' (same_behind hB s)⟩))
    rw [newP,R.mem]
end
end Sf
set_option maxHeartbeats 4000000
namespace Sf
open PySem L2 Pl
seal PS PSs PE PA
def spDue (K:PySem.W.Frag):Sp:=fun vs H Q _=>∃ (la ll lc:Addr) (dr:Bool) (ns:List Int) (n:Nat) (ms:List Nat) (cs:List Int),vs=[.ref la,.ref ll,.ref lc,.bl dr]∧SqL K H la ((plc ns).map V.int)∧H ll=some (.lst (cv ms))∧H lc=some (.lst (cs.map V.int))∧ns.Perm (iota n)∧1≤n∧n≤60∧ms.Nodup∧(∀ c∈ms,c+1<n)∧cs.length≤60 ∧
 (BadC n cs→∀ H',Same H H'→Q (.int 1) H')∧(¬ BadC n cs→StkC dr (plc ns) (fun c=>c∈ms) cs→∀ H',Same H H'→Q (.int 2) H')∧(¬ BadC n cs→¬ StkC dr (plc ns) (fun c=>c∈ms) cs→∀ H',Same H H'→Q (.int 0) H')
abbrev nmDue:List Str:=["_law_at","_law_loose","_law_creases_here","_law_drawing","_law_k","_law_crease","_law_behind_here"]
section
variable {P:Program} {w:World} {K:PySem.W.Frag} {mg:Str→Option Value} {base:Heap}
theorem scDue:FnScope nmDue ["_law_at","_law_loose","_law_creases_here","_law_drawing"] (defScope s_law_due):=⟨rfl,rfl,rfl,by decide +kernel,rfl,by decide +kernel,by decide +kernel⟩
theorem take_nodup {cs:List Int} {i:Nat} {c:Int} (h:(cs.take i).Nodup) (e:cs[i]?=some c) (hn:c∉cs.take i):(cs.take (i+1)).Nodup:=by
 rw [List.take_succ,e]
 refine List.nodup_append.mpr ⟨h,by simp,fun x hx y hy z=>?_⟩
 have:y=c:=by simpa using hy
 exact hn (this ▸ z ▸ hx)
theorem ok_due {f fF fH fW:Addr} {fd fdF fdH fdW:FuncData} (D:Def K mg "_law_due" s_law_due ["_law_at","_law_loose","_law_creases_here","_law_drawing"] f fd) (DF:Def K mg "_law_free" sLFree ["_law_at","_law_loose"] fF fdF) (GF:FnOk P w K mg base CX0 3 fF fdF ["_law_at","_law_loose"] (spFree K)) (T:Own mg):FnOk P w K mg base CX0 4 f fd ["_law_at","_law_loose","_law_creases_here","_law_drawing"] (spDue K):=by
 refine D.fn.ok scDue (fun vs H Q E h=>?_) (fun cdv A outer s H vs Q E hr h=>?_)
 ·obtain ⟨la,ll,lc,dr,ns,n,ms,cs,rfl,_⟩:=h
  rfl
 ·obtain ⟨la,ll,lc,dr,ns,n,ms,cs,rfl,ha,hl,hc,pm,n1,n2,nd,hb,csl,k1,k2,k3⟩:=h
  have pl:(plc ns).length=n:=by rw [plc_length,perm_len pm]
  have cl:(cs.map V.int).length=cs.length:=List.length_map ..
  have msl:ms.length≤60:=by
   have:=nodup_le n ms nd fun c hc=>by have:=hb c hc; lia
   lia
  obtain ⟨t3,h3,r3⟩:∃ t,PSs ((cxOf CX0 P w K mg base nmDue "_law_due" (defScope s_law_due) f cdv A outer s H E).nox) ((defBody s_law_due).drop 2) t ∧
    ∀ (v5 v6:Option V) H2,Same H H2→¬ BadC n cs→(∀ c∈cs,¬ (c.toNat∈ms↔dr=true))→t { nx:=fun _ H'=>Q .non H',rt:=Q } [some (.ref la),some (.ref ll),some (.ref lc),some (.bl dr),v5,v6,none] H2:=by
   refine ⟨_,pss_cons (ps_lcomp (i₀:=6) (cap:=[2]) (caps:=["_law_creases_here"]) scDue.nd rfl (Or.inl rfl) rfl rfl (pi_list (pv 1)) rfl (by decide +kernel) (by decide +kernel) rfl
      (by show ∀ y:Str×NameKind,y∈_→y.2=NameKind.free→(defScope s_law_due).names.lookup y.1=some .cell∨(defScope s_law_due).names.lookup y.1=some .free; decide +kernel) rfl (fun y hy=>by rw [List.mem_singleton.mp hy]; exact ⟨.inl rfl,.inl rfl⟩) (by decide +kernel)
      (fun cl s₃ H₃ fp=>⟨pifs_one (pt_cmpR (op_notIn_seqK (K:=K) rfl) (pv 0) (pv 1) rfl),pv 0⟩))
    (pss_cons (ps_if (pt_val (pv 3)) (pss_one (ps_set (i:=6) scDue.nd rfl (Or.inl rfl) (pe_op op_cat (pv 1) (pv 2)))) pss_nil)
    (pss_cons (ps_if (pt_not (pt_val (pe_call GF hr (by rfl) DF.at_ DF.fn.kp DF.bd .nil pass0 (pa_cons (pv 0) (pa_cons (pv 6) pa_nil))))) (pss_one (ps_ret pe_int)) pss_nil)
    (pss_one (ps_ret pe_int)))),?_⟩
   intro v5 v6 H2 s2 nb none2
   obtain ⟨ez,ndz,hbz⟩:=cz_of nb
   have mz:∀ c:Nat,(c:Int)∈cs↔c∈cs.map Int.toNat:=fun c=>by
    conv=>lhs; rw [ez]
    exact mem_cz
   refine ⟨_,rfl,ll,rfl,⟨_,SqL.of (s2 _ _ hl)⟩,fun l1 hl1=>?_⟩
   refine lc_list_if (xs:=cv ms) (p:=fun v=>!inV v (cs.map V.int)) (f:=id) (by rw [cv_len]; lia) hl1 (SqL.of (s2 _ _ hl)) (fun x H3 R' hx s3 kR=>?_) (fun x H3 R' hx _ s3 kR=>⟨_,rfl,kR H3 (Same.refl _)⟩) fun H3 s3 h3=>?_
   ·obtain ⟨z,hz,rfl⟩:=List.mem_map.mp hx
    exact ⟨_,rfl,_,rfl,lc,cs.map V.int,rfl,.inl (SqL.of (s3 _ _ (s2 _ _ hc))),rfl,flat_ints cs,_,rfl,kR H3 (Same.refl _)⟩
   have ef:((cv ms).filter fun v=>!inV v (cs.map V.int)).map id=cv (ms.filter fun (c:Nat)=>!decide ((c:Int)∈cs)):=by
    rw [List.map_id,List.filter_map,List.filter_map]
    congr 2
    refine List.filter_congr fun c _=>?_
    show (!inV (.int (c:Int)) (cs.map V.int))=(!decide ((c:Int)∈cs))
    rw [inv_int]
   rw [ef] at h3
   have s13:=s2.trans s3
   have mf:∀ c:Nat,c∈ms.filter (fun (c:Nat)=>!decide ((c:Int)∈cs))↔(c∈ms∧(c:Int)∉cs):=fun c=>by rw [List.mem_filter]; simp
   refine ⟨_,rfl,dr,rfl,?_⟩
   cases dr with
   | false =>
    refine iteF ⟨_,rfl,_,rfl,la,l1,plc ns,ms.filter (fun (c:Nat)=>!decide ((c:Int)∈cs)),rfl,s13.seq ha,SqL.of h3,by lia,by lia,Nat.le_trans (List.length_filter_le _ _) msl,nd.sublist List.filter_sublist,fun c hc=>by rw [pl]; exact hb c ((mf c).mp hc).1,fun b H4 s4 hb4=>⟨b,rfl,?_⟩⟩
    have e:Fre (plc ns) (fun (c:Nat)=>c∈ms.filter (fun (c:Nat)=>!decide ((c:Int)∈cs)))↔Fre (plc ns) (NewL false (fun c=>c∈ms) cs):=by
     have:(fun (c:Nat)=>c∈ms.filter (fun (c:Nat)=>!decide ((c:Int)∈cs)))=NewL false (fun c=>c∈ms) cs:=funext fun c=>propext ((mf c).trans newP.symm)
     rw [this]
    cases b with
    | true =>
     refine iteF (k3 nb (fun z=>?_) H4 (s13.trans s4))
     rcases z with ⟨c,hc,z⟩ | z
     ·exact none2 c hc z
     ·exact z (e.mp (hb4.mp rfl))
    | false=>exact iteT (k2 nb (.inr fun F=>Bool.false_ne_true (hb4.mpr (e.mpr F))) H4 (s13.trans s4))
   | true =>
    have dm:∀ c∈cs.map Int.toNat,c∉ms:=fun c hc z=>by
     obtain ⟨x,hx,rfl⟩:=List.mem_map.mp hc
     exact none2 x hx (iff_of_true z rfl)
    have ndm:(ms++cs.map Int.toNat).Nodup:=List.nodup_append.mpr ⟨nd,ndz,fun x hx y hy e=>dm y hy (e ▸ hx)⟩
    have bnd:∀ c∈ms++cs.map Int.toNat,c+1<n:=fun c hc=>by
     rcases List.mem_append.mp hc with h | h
     ·exact hb c h
     ·exact hbz c h
    have mcl:(ms++cs.map Int.toNat).length≤60:=by
     have:=nodup_le n _ ndm fun c hc=>by have:=bnd c hc; lia
     lia
    refine iteT ⟨_,rfl,_,rfl,ll,lc,_,_,rfl,rfl,s13 _ _ hl,s13 _ _ hc,?_,fun l4 hl4=>?_⟩
    ·rw [cv_len,cl]
     exact small_line (by rw [List.length_append,List.length_map] at mcl; lia)
    have t4:=same_new (o:=.lst (cv ms++cs.map V.int)) hl4
    have s14:=s13.trans t4
    refine ⟨_,rfl,_,rfl,la,l4,plc ns,ms++cs.map Int.toNat,rfl,s14.seq ha,SqL.of (upd_same.trans ?_),by lia,by lia,mcl,ndm,fun c hc=>by rw [pl]; exact bnd c hc,fun b H4 s4 hb4=>⟨b,rfl,?_⟩⟩
    ·conv=>lhs; rw [ez]
     rw [List.map_append,List.map_append]
    have e:Fre (plc ns) (fun c=>c∈ms++cs.map Int.toNat)↔Fre (plc ns) (NewL true (fun c=>c∈ms) cs):=by
     have:(fun c=>c∈ms++cs.map Int.toNat)=NewL true (fun c=>c∈ms) cs:=funext fun c=>propext (by rw [List.mem_append,newD,mz])
     rw [this]
    cases b with
    | true =>
     refine iteF (k3 nb (fun z=>?_) H4 (s14.trans s4))
     rcases z with ⟨c,hc,z⟩ | z
     ·exact none2 c hc z
     ·exact z (e.mp (hb4.mp rfl))
    | false=>exact iteT (k2 nb (.inr fun F=>Bool.false_ne_true (hb4.mpr (e.mpr F))) H4 (s14.trans s4))
  refine ⟨_,pss_cons (ps_for PassesOwn.never rfl (pi_range1 rfl T.range (pa_cons (pe_callB call_len_seq (by rfl) T.len PySem.boot_len (pa_cons (pv 2) pa_nil)) pa_nil)) (pg_name (i:=4) scDue.nd rfl (Or.inl rfl))
    (pss_one (ps_if (pw_or (pt_cmpR op_lt (pe_ix ix_list (pv 2) (pv 4) (fun _ _=>rfl)) pe_int (nomark _)) (pw_or (pt_cmpR op_gt (pe_ix ix_list (pv 2) (pv 4) (fun _ _=>rfl)) (pe_op op_sub (pe_callB call_len_seq (by rfl) T.len PySem.boot_len (pa_cons (pv 0) pa_nil)) pe_int) (nomark _))
     (pw_or1 (pt_cmpR op_in_seq (pe_ix ix_list (pv 2) (pv 4) (fun _ _=>rfl)) (pe_slice sl_list (pv 2) po_none (po_some (pv 4))) rfl)))).pt (pss_one (ps_ret pe_int)) pss_nil)))
   (pss_cons (ps_for PassesOwn.never rfl (pi_list (pv 2)) (pg_name (i:=5) scDue.nd rfl (Or.inl rfl))
    (pss_one (ps_if (pt_cmpR op_eq (pe_cmpR op_in_seq (pv 5) (pv 1) rfl) (pv 3) (nomark _)) (pss_one (ps_ret pe_int)) pss_nil)))
   h3),?_⟩
  refine ⟨_,rfl,lc,_,rfl,.inl (SqL.of hc),_,rfl,?_,?_,?_⟩
  ·rw [cl]; lia
  ·rw [cl]; lia
  have en:((((cs.map V.int).length:Nat):Int)).toNat=cs.length:=by rw [cl]; lia
  rw [en]
  refine for_range (lo:=0) (n:=cs.length) (fun i σ H2=>∃ v:Option V,σ=[some (.ref la),some (.ref ll),some (.ref lc),some (.bl dr),v,none,none]∧Same H H2∧(cs.take i).Nodup∧∀ c∈cs.take i,0≤c∧c+1<(n:Int)) ⟨none,rfl,Same.refl _,by simp,fun c z=>by simp at z⟩ ?_ ?_
  ·rintro i σ H2 hi ⟨v,rfl,s2,nt,ht⟩
   rw [show (0:Int)+(i:Nat)=(i:Int) by lia]
   have ei:cs[i]?=some cs[i]:=List.getElem?_eq_getElem hi
   have g:atI (cs.map V.int) (i:Int)=some (.int cs[i]):=atI_nat (by rw [List.getElem?_map,ei]; rfl)
   have hc2:=SqL.of (K:=K) (s2 _ _ hc)
   have bad1:¬ (0≤cs[i]∧cs[i]+1<(n:Int))→BadC n cs:=fun h z=>h (z.2 _ (List.getElem_mem hi))
   refine ⟨_,rfl,_,rfl,lc,_,_,_,rfl,rfl,hc2,g,_,_,rfl,rfl,_,rfl,ite2 (fun z=>?_) (fun z1=>?_)⟩
   ·exact k1 (bad1 fun h=>by have:=of_decide_eq_true z; lia) H2 s2
   refine ⟨_,rfl,_,rfl,lc,_,_,_,rfl,rfl,hc2,g,_,rfl,la,_,rfl,.inl (s2.seq ha),_,_,rfl,rfl,_,_,rfl,rfl,_,rfl,ite2 (fun z=>?_) (fun z2=>?_)⟩
   ·refine k1 (bad1 fun h=>?_) H2 s2
    have z':=of_decide_eq_true z
    have:(((plc ns).map V.int).length:Int) - 2<cs[i]:=z'
    rw [List.length_map,pl] at this
    lia
   refine ⟨_,rfl,_,rfl,lc,_,_,_,rfl,rfl,hc2,g,_,rfl,_,rfl,_,rfl,lc,_,rfl,hc2,fun p1 hp1=>?_⟩
   have et:(cs.map V.int).take i=(cs.take i).map V.int:=by rw [List.map_take]
   rw [cut_take _ (by rw [cl]; lia),et]
   have t1:=same_new (o:=.lst ((cs.take i).map V.int)) hp1
   refine ⟨p1,_,rfl,.inl (SqL.of upd_same),rfl,flat_ints _,_,rfl,?_⟩
   show if inV (.int cs[i]) ((cs.take i).map V.int)=true then _ else _
   rw [inv_int]
   refine ite2 (fun z=>?_) (fun z3=>?_)
   ·refine k1 (fun h=>?_) _ (s2.trans t1)
    have hm:=of_decide_eq_true z
    have nd2:=h.1.sublist (List.take_sublist (i+1) cs)
    rw [List.take_succ,ei] at nd2
    exact (List.nodup_append.mp nd2).2.2 _ hm _ (by simp) rfl
   ·have hm:cs[i]∉cs.take i:=fun h=>z3 (decide_eq_true h)
    have h1:0≤cs[i]:=Int.not_lt.mp fun h=>z1 (decide_eq_true h)
    have h2:¬ ((((plc ns).map V.int).length:Int) - 2<cs[i]):=fun h=>z2 (decide_eq_true h)
    rw [List.length_map,pl] at h2
    refine ⟨_,rfl,s2.trans t1,take_nodup nt ei hm,fun c hc=>?_⟩
    rw [List.take_succ,ei] at hc
    rcases List.mem_append.mp hc with h | h
    ·exact ht c h
    ·have:c=cs[i]:=by simpa using h
     rw [this]
     lia
  ·rintro σ H2 ⟨v,rfl,s2,nt,ht⟩
   rw [List.take_length] at nt ht
   have nb:¬ BadC n cs:=fun h=>h ⟨nt,ht⟩
   refine ⟨_,rfl,lc,rfl,⟨_,SqL.of (s2 _ _ hc)⟩,for_list (K:=K) (a:=lc) (xs:=cs.map V.int) (fun i σ H3=>∃ u:Option V,σ=[some (.ref la),some (.ref ll),some (.ref lc),some (.bl dr),v,u,none]∧H3=H2∧∀ j c,j<i→cs[j]?=some c→¬ (c.toNat∈ms↔dr=true)) ⟨none,rfl,rfl,fun j c hj=>by lia⟩ (fun i σ H3 _ ⟨_,_,e,_⟩=>by rw [e]; exact SqL.of (s2 _ _ hc)) ?_ ?_⟩
   ·rintro i x σ H3 hi ⟨u,rfl,rfl,inv⟩
    rw [List.getElem?_map] at hi
    cases e:cs[i]? with
    | none=>rw [e] at hi; cases hi
    | some c =>
     rw [e] at hi
     obtain rfl:V.int c=x:=Option.some.inj hi
     have hr:=ht c (List.mem_of_getElem? e)
     have ei:inV (.int c) (cv ms)=decide (c.toNat∈ms):=by
      rw [inv_int]
      refine decide_eq_decide.mpr ?_
      conv=>lhs; rw [show c=((c.toNat:Nat):Int) by lia]
      exact mem_cz
     refine ⟨_,rfl,_,rfl,ll,_,rfl,.inl (SqL.of (s2 _ _ hl)),rfl,cv_flat ms,_,rfl,rfl,_,rfl,?_⟩
     show if decide (V.bl (inV (.int c) (cv ms))=V.bl dr)=true then _ else _
     rw [ei]
     have iff1:(decide (c.toNat∈ms)=dr)↔(c.toNat∈ms↔dr=true):=by
      cases dr with
      | true=>simp
      | false=>simp
     refine ite2 (fun z=>?_) (fun z=>?_)
     ·have:=of_decide_eq_true z
      injection this with this
      exact k2 nb (.inl ⟨c,List.mem_of_getElem? e,iff1.mp this⟩) _ s2
     ·refine ⟨_,rfl,rfl,fun j d hj ej=>?_⟩
      by_cases q:j=i
      ·subst q
       rw [e] at ej
       rw [← Option.some.inj ej]
       exact fun h=>z (decide_eq_true (by rw [iff1.mpr h]))
      ·exact inv j d (by lia) ej
   ·rintro σ H3 ⟨u,rfl,rfl,inv⟩
    rw [cl] at inv
    exact r3 v u _ s2 nb fun c hc=>by
     obtain ⟨j,hj⟩:=List.getElem?_of_mem hc
     exact inv j c (List.getElem?_eq_some_iff.mp hj).1 hj
end
end Sf
namespace Sf
open PySem L2 Pl
def spSameRow (K:PySem.W.Frag):Sp:=fun vs H Q _=>∃ (f d:Addr) (ns:List Int),vs=[.ref f,.ref d]∧H f=some (.lst (ns.map V.int))∧SqL K H d (ns.map V.int)∧ns.length≤60∧Q (.bl true) H
section
variable {P:Program} {w:World} {K:PySem.W.Frag} {mg:Str→Option Value} {base:Heap}
theorem scSameRow:FnScope ["_law_found","_law_due_here","_law_k"] ["_law_found","_law_due_here"] (defScope s_law_row):=⟨rfl,rfl,rfl,by decide +kernel,rfl,by decide +kernel,by decide +kernel⟩
theorem ok_samerow {f fCo:Addr} {fd fdCo:FuncData} (D:Def K mg "_law_row" s_law_row ["_law_found","_law_due_here"] f fd) (DCo:Def K mg "_law_counts" sCounts ["_law_thing"] fCo fdCo) (T:Own mg):FnOk P w K mg base CX0 2 f fd ["_law_found","_law_due_here"] (spSameRow K):=by
 have GCo:FnOk P w K mg base CX0 1 fCo fdCo ["_law_thing"] spCounts:=ok_counts DCo T
 refine D.fn.ok scSameRow (fun vs H Q E h=>?_) (fun cdv A outer s H vs Q E hr h=>?_)
 ·obtain ⟨p,d,ns,rfl,_⟩:=h
  rfl
 ·obtain ⟨p,d,ns,rfl,hp,hd,hl,k⟩:=h
  refine ⟨_,pss_cons (ps_if (pw_or (pt_not (pt_val (pe_callB call_isinst (by rfl) T.isinstance boot_isinstance (pa_cons (pv 0) (pa_cons (pe_bltn (by rfl) T.list boot_list (v:=.ty "list") rfl) pa_nil)))))
     (pw_or1 (pt_cmpR op_ne (pe_callB call_len_seq (by rfl) T.len PySem.boot_len (pa_cons (pv 0) pa_nil)) (pe_callB call_len_seq (by rfl) T.len PySem.boot_len (pa_cons (pv 1) pa_nil)) (nomark _)))).pt (pss_one (ps_ret pe_bl)) pss_nil)
   (pss_cons (ps_for PassesOwn.never rfl (pi_range1 rfl T.range (pa_cons (pe_callB call_len_seq (by rfl) T.len PySem.boot_len (pa_cons (pv 1) pa_nil)) pa_nil)) (pg_name (i:=2) scSameRow.nd rfl (Or.inl rfl))
    (pss_one (ps_if (pw_or (pt_not (pt_val (pe_call GCo hr (by rfl) DCo.at_ DCo.fn.kp DCo.bd .nil pass0 (pa_cons (pe_ix ix_list (pv 0) (pv 2) (fun _ _=>rfl)) pa_nil))))
     (pw_or1 (pt_cmpR op_ne (pe_ix ix_list (pv 0) (pv 2) (fun _ _=>rfl)) (pe_ix ix_list (pv 1) (pv 2) (fun _ _=>rfl)) (nomark _)))).pt (pss_one (ps_ret pe_bl)) pss_nil)))
   (pss_one (ps_ret pe_bl))),?_⟩
  refine ⟨_,rfl,_,"list",_,true,rfl,.lst hp,rfl,true,rfl,iteF ?_⟩
  refine ⟨_,rfl,p,_,rfl,.inl (SqL.of hp),_,rfl,d,_,rfl,.inl hd,rfl,_,rfl,iteNS rfl ?_⟩
  refine ⟨_,rfl,d,_,rfl,.inl hd,_,rfl,?_,?_,?_⟩
  ·rw [List.length_map]; lia
  ·rw [List.length_map]; lia
  refine for_range (lo:=0) (n:=(((ns.map V.int).length:Nat):Int).toNat) (fun i σ H2=>∃ (v:Option V),σ=[some (.ref p),some (.ref d),v]∧H2=H) ⟨none,rfl,rfl⟩ ?_ ?_
  ·rintro i σ H2 hi ⟨v,rfl,rfl⟩
   rw [List.length_map] at hi
   have g:atI (ns.map V.int) (0+(i:Int))=some (.int (ns.getD i 0)):=by
    rw [Int.zero_add]
    exact at_int (c:=i) (by lia)
   refine ⟨_,rfl,_,rfl,p,_,_,_,rfl,rfl,SqL.of hp,g,_,rfl,true,rfl,iteF ?_⟩
   refine ⟨_,rfl,_,rfl,p,_,_,_,rfl,rfl,SqL.of hp,g,_,rfl,_,rfl,d,_,_,_,rfl,rfl,hd,g,rfl,_,rfl,iteNS rfl ?_⟩
   exact ⟨_,rfl,rfl⟩
  ·rintro σ H2 ⟨v,rfl,rfl⟩
   exact k
end
end Sf
set_option maxHeartbeats 4000000
namespace Sf
open PySem L2 Pl
seal PS PSs PE PA
def spLParts (K:PySem.W.Frag):Sp:=fun vs H Q _=>∃ (lf lp ll:Addr) (as:List Addr) (ns:List Int) (n:Nat) (ms:List Nat),vs=[.ref lf,.ref lp,.ref ll]∧H lf=some (.lst (as.map V.ref))∧as.length=ms.length+1∧(∀ (i:Nat) (a:Addr) (p:List Int),as[i]?=some a→(partsL ns 0 ms)[i]?=some p→H a=some (.lst (p.map V.int))) ∧
 SqL K H lp (ns.map V.int)∧H ll=some (.lst (cv ms))∧ns.Perm (iota n)∧1≤n∧n≤60∧ms.length≤60∧∀ H',Same H H'→Q (.bl true) H'
abbrev nmLParts:List Str:=["_law_found","_law_pile","_law_loose","_law_ends","_law_first","_law_k"]
section
variable {P:Program} {w:World} {K:PySem.W.Frag} {mg:Str→Option Value} {base:Heap}
theorem scLParts:FnScope nmLParts ["_law_found","_law_pile","_law_loose"] (defScope s_law_parts):=⟨rfl,rfl,rfl,by decide +kernel,rfl,by decide +kernel,by decide +kernel⟩
theorem ok_lparts {f fR fCo:Addr} {fd fdR fdCo:FuncData} (D:Def K mg "_law_parts" s_law_parts ["_law_found","_law_pile","_law_loose"] f fd) (DR:Def K mg "_law_row" s_law_row ["_law_found","_law_due_here"] fR fdR) (DCo:Def K mg "_law_counts" sCounts ["_law_thing"] fCo fdCo) (T:Own mg):FnOk P w K mg base CX0 3 f fd ["_law_found","_law_pile","_law_loose"] (spLParts K):=by
 have GR:FnOk P w K mg base CX0 2 fR fdR ["_law_found","_law_due_here"] (spSameRow K):=ok_samerow DR DCo T
 refine D.fn.ok scLParts (fun vs H Q E h=>?_) (fun cdv A outer s H vs Q E hr h=>?_)
 ·obtain ⟨lf,lp,ll,as,ns,n,ms,rfl,_⟩:=h
  rfl
 ·obtain ⟨lf,lp,ll,as,ns,n,ms,rfl,hf,al,hat,hp,hl,pm,n1,n2,msl,k⟩:=h
  have nl:=perm_len pm
  refine ⟨_,pss_cons (ps_set (i:=3) scLParts.nd rfl (Or.inr rfl) (pe_op op_cat (pv 2) (pe_lst (pa_cons (pe_op op_sub (pe_callB call_len_seq (by rfl) T.len PySem.boot_len (pa_cons (pv 1) pa_nil)) pe_int) pa_nil))))
   (pss_cons (ps_if (pw_or (pt_not (pt_val (pe_callB call_isinst (by rfl) T.isinstance boot_isinstance (pa_cons (pv 0) (pa_cons (pe_bltn (by rfl) T.list boot_list (v:=.ty "list") rfl) pa_nil)))))
     (pw_or1 (pt_cmpR op_ne (pe_callB call_len_seq (by rfl) T.len PySem.boot_len (pa_cons (pv 0) pa_nil)) (pe_callB call_len_seq (by rfl) T.len PySem.boot_len (pa_cons (pv 3) pa_nil)) (nomark _)))).pt (pss_one (ps_ret pe_bl)) pss_nil)
   (pss_cons (ps_set (i:=4) scLParts.nd rfl (Or.inr rfl) pe_int)
   (pss_cons (ps_for PassesOwn.never rfl (pi_range1 rfl T.range (pa_cons (pe_callB call_len_seq (by rfl) T.len PySem.boot_len (pa_cons (pv 3) pa_nil)) pa_nil)) (pg_name (i:=5) scLParts.nd rfl (Or.inr rfl))
    (pss_cons (ps_if (pt_not (pt_val (pe_call GR hr (by rfl) DR.at_ DR.fn.kp DR.bd .nil pass0 (pa_cons (pe_ix ix_list (pv 0) (pv 5) (fun _ _=>rfl)) (pa_cons (pe_lcomp (cap:=[4,3,5]) (caps:=["_law_first","_law_ends","_law_k"]) rfl (pi_list (pv 1))
      rfl (by decide +kernel) (by decide +kernel) rfl (by show ∀ y:Str×NameKind,y∈_→y.2=NameKind.free→(defScope s_law_parts).names.lookup y.1=some .cell∨(defScope s_law_parts).names.lookup y.1=some .free; decide +kernel) rfl
      (fun y hy=>by rcases List.mem_cons.mp hy with rfl | hy; exact ⟨.inl rfl,.inl rfl⟩; rcases List.mem_cons.mp hy with rfl | hy; exact ⟨.inl rfl,.inl rfl⟩; rw [List.mem_singleton.mp hy]; exact ⟨.inl rfl,.inl rfl⟩) (by decide +kernel)
      (fun cl s₃ H₃ fp=>⟨pifs_one (pw_and (pt_cmpR op_le (pv 1) (pv 0) (nomark _)) (pw_and1 (pt_cmpR op_le (pv 0) (pe_ix (ix_listK (K:=K) rfl) (pv 2) (pv 3) (fun _ _=>rfl)) (nomark _)))).pt,pv 0⟩)) pa_nil))))) (pss_one (ps_ret pe_bl)) pss_nil)
    (pss_one (ps_set (i:=4) scLParts.nd rfl (Or.inr rfl) (pe_op op_add (pe_ix ix_list (pv 3) (pv 5) (fun _ _=>rfl)) pe_int)))))
   (pss_one (ps_ret pe_bl))))),?_⟩
  refine ⟨_,rfl,_,rfl,lp,_,rfl,.inl hp,_,_,rfl,rfl,small_line (by show 1≤1000; decide),fun p1 hp1=>?_⟩
  have t1:=same_new (o:=.lst [V.int (((ns.map V.int).length:Int) - 1)]) hp1
  refine ⟨ll,p1,_,_,rfl,rfl,t1 _ _ hl,upd_same,?_,fun le hle=>?_⟩
  ·rw [cv_len]
   exact small_line (by show ms.length+1≤1000; lia)
  have t2:=same_new (o:=.lst (cv ms++[V.int (((ns.map V.int).length:Int) - 1)])) hle
  have s2:=t1.trans t2
  have ee:cv ms++[V.int (((ns.map V.int).length:Int) - 1)]=(List.range (ms.length+1)).map fun j=>V.int ((lstP n ms j:Nat):Int):=by
   refine List.ext_getElem? fun j=>?_
   by_cases hj:j<ms.length
   ·rw [List.getElem?_append_left (by rw [cv_len]; exact hj),cv_get hj,List.getElem?_map,List.getElem?_range (by lia)]
    show _=some (V.int ((lstP n ms j:Nat):Int))
    unfold lstP
    rw [if_pos hj]
   ·by_cases hj2:j=ms.length
    ·subst hj2
     rw [List.getElem?_append_right (by rw [cv_len]; exact Nat.le_refl _),cv_len,Nat.sub_self,List.getElem?_map,List.getElem?_range (by lia)]
     show some (V.int (((ns.map V.int).length:Int) - 1))=some (V.int ((lstP n ms ms.length:Nat):Int))
     unfold lstP
     rw [if_neg (by lia),List.length_map,nl]
     congr 2
     lia
    ·rw [List.getElem?_eq_none (by rw [List.length_append,cv_len]; simp; lia),List.getElem?_eq_none (by rw [List.length_map,List.length_range]; lia)]
  have hle2:upd (upd H p1 (.lst [V.int (((ns.map V.int).length:Int) - 1)])) le (.lst (cv ms++[V.int (((ns.map V.int).length:Int) - 1)])) le=some (.lst ((List.range (ms.length+1)).map fun j=>V.int ((lstP n ms j:Nat):Int))):=by rw [upd_same,ee]
  generalize hH2:upd (upd H p1 (.lst [V.int (((ns.map V.int).length:Int) - 1)])) le (.lst (cv ms++[V.int (((ns.map V.int).length:Int) - 1)]))=H2 at hle2 s2
  have el:((List.range (ms.length+1)).map fun j=>V.int ((lstP n ms j:Nat):Int)).length=ms.length+1:=by rw [List.length_map,List.length_range]
  refine ⟨_,rfl,_,"list",_,true,rfl,.lst (s2 _ _ hf),rfl,true,rfl,iteF ?_⟩
  refine ⟨_,rfl,lf,_,rfl,.inl (SqL.of (s2 _ _ hf)),_,rfl,le,_,rfl,.inl (SqL.of hle2),rfl,_,rfl,iteNS ?_ ?_⟩
  ·show V.int ((as.map V.ref).length:Int)=V.int _
   rw [el,List.length_map,al]
  refine ⟨_,rfl,le,_,rfl,.inl (SqL.of hle2),_,rfl,?_,?_,?_⟩
  ·rw [el]; lia
  ·rw [el]; lia
  have en:(((((List.range (ms.length+1)).map fun j=>V.int ((lstP n ms j:Nat):Int)).length:Nat):Int)).toNat=ms.length+1:=by rw [el]; lia
  rw [en]
  refine for_range (lo:=0) (n:=ms.length+1) (fun i σ H3=>∃ (v:Option V) (fr:Int),σ=[some (.ref lf),some (.ref lp),some (.ref ll),some (.ref le),some (.int fr),v]∧Same H2 H3∧(i≤ms.length→fr=(fstP ms i:Int))) ⟨none,0,rfl,Same.refl _,fun _=>rfl⟩ ?_ ?_
  ·rintro i σ H3 hi ⟨v,fr,rfl,s3,hfr⟩
   obtain rfl:=hfr (by lia)
   rw [show (0:Int)+(i:Nat)=(i:Int) by lia]
   have ei:as[i]?=some (as[i]'(by lia)):=List.getElem?_eq_getElem (by lia)
   have g:atI (as.map V.ref) (i:Int)=some (.ref (as[i]'(by lia))):=atI_nat (by rw [List.getElem?_map,ei]; rfl)
   have ge:atI ((List.range (ms.length+1)).map fun j=>V.int ((lstP n ms j:Nat):Int)) (i:Int)=some (.int ((lstP n ms i:Nat):Int)):=atI_nat (by rw [List.getElem?_map,List.getElem?_range hi]; rfl)
   have gp:=partsL_get pm ms 0 i (by lia)
   have s03:=s2.trans s3
   refine ⟨_,rfl,_,rfl,lf,_,_,_,rfl,rfl,SqL.of (s03 _ _ hf),g,_,rfl,lp,rfl,⟨_,s03.seq hp⟩,fun l4 hl4=>?_⟩
   refine lc_list_if (xs:=ns.map V.int) (p:=fun v=>match v with | .int s=>decide ((fstP ms i:Int)≤s) && decide (s≤(lstP n ms i:Int)) | _=>false) (f:=id) (by rw [List.length_map]; lia) hl4 (s03.seq hp) (fun x H4 R' hx s4 kR=>?_) (fun x H4 R' hx _ s4 kR=>⟨_,rfl,kR H4 (Same.refl _)⟩) fun H4 s4 h4=>?_
   ·obtain ⟨z,hz,rfl⟩:=List.mem_map.mp hx
    have kk:=kR H4 (Same.refl _)
    change R' (decide ((fstP ms i:Int)≤z) && decide (z≤(lstP n ms i:Int))) H4 at kk
    refine ⟨_,rfl,_,rfl,_,_,rfl,rfl,_,rfl,?_⟩
    cases e:decide ((fstP ms i:Int)≤z) with
    | false =>
     rw [e,Bool.false_and] at kk
     exact iteF kk
    | true =>
     rw [e,Bool.true_and] at kk
     exact iteT ⟨_,rfl,_,rfl,_,rfl,le,_,_,_,rfl,rfl,SqL.of (s4 _ _ (s3 _ _ hle2)),ge,_,_,rfl,rfl,_,rfl,kk⟩
   have ef:((ns.map V.int).filter fun v=>match v with | .int s=>decide ((fstP ms i:Int)≤s) && decide (s≤(lstP n ms i:Int)) | _=>false).map id=(ns.filter fun s=>decide ((fstP ms i:Int)≤s) && decide (s≤(lstP n ms i:Int))).map V.int:=by
    rw [List.map_id,List.filter_map]
    rfl
   rw [ef] at h4
   have ha:=hat i _ _ ei gp
   refine ⟨as[i]'(by lia),l4,ns.filter fun s=>decide ((fstP ms i:Int)≤s) && decide (s≤(lstP n ms i:Int)),rfl,s4 _ _ (s03 _ _ ha),SqL.of h4,Nat.le_trans (List.length_filter_le _ _) (by lia),true,rfl,iteF ?_⟩
   refine ⟨_,rfl,_,rfl,le,_,_,_,rfl,rfl,SqL.of (s4 _ _ (s3 _ _ hle2)),ge,_,_,rfl,rfl,?_⟩
   refine ⟨_,_,rfl,s3.trans s4,fun h=>?_⟩
   show (lstP n ms i:Int)+1=((fstP ms (i+1):Nat):Int)
   have e1:fstP ms (i+1)=ms.getD i 0+1:=by unfold fstP; rw [if_neg (by lia)]; rfl
   have e2:lstP n ms i=ms.getD i 0:=by unfold lstP; rw [if_pos (by lia)]
   rw [e1,e2]
   lia
  ·rintro σ H3 ⟨v,fr,rfl,s3,_⟩
   exact k H3 (s2.trans s3)
end
end Sf
set_option maxHeartbeats 4000000
namespace Sf
open PySem L2 Pl
seal PS PSs PE PA
def Twin (H:Hp) (TS:Addr→Prop) (x y:Addr):Prop:=TS x∧TS y∧((∃ ns:List Int,H x=some (.lst (ns.map V.int))∧H y=some (.lst (ns.map V.int)))∨∃ (as bs:List Addr) (pss:List (List Int)),LL H x as pss∧LL H y bs pss∧(∀ a∈as,TS a)∧∀ b∈bs,TS b)
theorem Twin.keep {H H':Hp} {TS TS':Addr→Prop} {x y:Addr} (h:Twin H TS x y) (k:∀ z o,TS z→H z=some o→H' z=some o) (sub:∀ z,TS z→TS' z):Twin H' TS' x y:=by
 obtain ⟨tx,ty,h⟩:=h
 refine ⟨sub _ tx,sub _ ty,?_⟩
 rcases h with ⟨ns,h1,h2⟩ | ⟨as,bs,pss,h1,h2,h3,h4⟩
 ·exact .inl ⟨ns,k _ _ tx h1,k _ _ ty h2⟩
 ·exact .inr ⟨as,bs,pss,⟨k _ _ tx h1.lst,h1.len,fun i a p e1 e2=>k _ _ (h3 a (List.mem_of_getElem? e1)) (h1.at_ i a p e1 e2)⟩,⟨k _ _ ty h2.lst,h2.len,fun i a p e1 e2=>k _ _ (h4 a (List.mem_of_getElem? e1)) (h2.at_ i a p e1 e2)⟩,fun a ha=>sub a (h3 a ha),fun b hb=>sub b (h4 b hb)⟩
structure Told (H:Hp) (lt:Addr) (TS:Addr→Prop) (ts:List Addr):Prop where
 lst:H lt=some (.lst (ts.map V.ref))
 at_:∀ t∈ts,TS t∧∃ x y,H t=some (.tup [.ref x,.ref y])∧Twin H TS x y
 not:¬ TS lt
 dom:∀ y,TS y→H y≠none
theorem Told.keep {H H':Hp} {lt:Addr} {TS:Addr→Prop} {ts:List Addr} (h:Told H lt TS ts) (k:∀ z o,TS z→H z=some o→H' z=some o) (kl:H' lt=some (.lst (ts.map V.ref))):Told H' lt TS ts:=by
 refine ⟨kl,fun t ht=>?_,h.not,fun y hy=>?_⟩
 ·obtain ⟨t1,x,y,t2,t3⟩:=h.at_ t ht
  exact ⟨t1,x,y,k _ _ t1 t2,t3.keep k fun _ z=>z⟩
 ·cases e:H y with
  | none=>exact absurd e (h.dom y hy)
  | some o=>rw [k y o hy e]; simp
theorem Told.more {H H':Hp} {lt t x y:Addr} {TS:Addr→Prop} {ts:List Addr} (h:Told H lt TS ts) (k:∀ z o,H z=some o→z≠lt→H' z=some o) (kl:H' lt=some (.lst ((ts++[t]).map V.ref))) (ht:H t=none) (ht2:H' t=some (.tup [.ref x,.ref y]))
  (tw:Twin H' (fun z=>TS z∨(H z=none∧H' z≠none)) x y):Told H' lt (fun z=>TS z∨(H z=none∧H' z≠none)) (ts++[t]):=by
 have kT:∀ z o,TS z→H z=some o→H' z=some o:=fun z o tz e=>k z o e fun q=>h.not (q ▸ tz)
 refine ⟨kl,fun u hu=>?_,fun z=>?_,fun z hz=>?_⟩
 ·rcases List.mem_append.mp hu with hu | hu
  ·obtain ⟨t1,x',y',t2,t3⟩:=h.at_ u hu
   exact ⟨.inl t1,x',y',kT _ _ t1 t2,t3.keep kT fun _ q=>.inl q⟩
  ·rw [List.mem_singleton.mp hu]
   exact ⟨.inr ⟨ht,by rw [ht2]; simp⟩,x,y,ht2,tw⟩
 ·rcases z with z | ⟨z,_⟩
  ·exact h.not z
  ·rw [h.lst] at z
   cases z
 ·rcases hz with hz | ⟨_,hz⟩
  ·cases e:H z with
   | none=>exact absurd e (h.dom z hz)
   | some o=>rw [kT z o hz e]; simp
  ·exact hz
def spLook (K:PySem.W.Frag) (B:BP):Sp:=fun vs H Q _=>∃ (b lp ll lt:Addr) (m:Nat) (ns:List Int) (n:Nat) (L:Nat→Prop) (own:Addr→Prop) (ms:List Nat) (TS:Addr→Prop) (ts:List Addr),vs=[.ref b,.ref lp,.ref ll,.int (m:Int),.ref lt]∧B H b ns L own∧Rise L ms∧SqL K H lp (ns.map V.int)∧H ll=some (.lst (cv ms))∧ns.Perm (iota n)∧1≤n∧n≤60∧ms.length≤60∧Told H lt TS ts∧ts.length≤10000 ∧
 ∀ H' (TS':Addr→Prop) ts',(∀ y o,H y=some o→y≠lt→H' y=some o)→(∀ y,TS' y→TS y∨H y=none)→Told H' lt TS' ts'→ts'.length≤ts.length+2→Q (.bl true) H'
abbrev nmLook:List Str:=["_law_bench","_law_pile","_law_loose","_law_number_here","_law_told","_law_some","_law_parts_here"]
def spPartsN (B:BP):Sp:=fun vs H Q _=>∃ (n:Nat) (b:Addr) (ns:List Int) (L:Nat→Prop) (own:Addr→Prop) (ms:List Nat),ns.Perm (iota n)∧n≤60∧vs=[.ref b]∧B H b ns L own∧Rise L ms ∧
 ∀ (l:Addr) (as:List Addr) H',Same H H'→H l=none→H' l=some (.lst (as.map V.ref))→as.length=ms.length+1→as.Nodup→(∀ a∈as,H a=none∧a≠l)→(∀ (i:Nat) (a:Addr) (p:List Int),as[i]?=some a→(partsL ns 0 ms)[i]?=some p→H' a=some (.lst (p.map V.int)))→Q (.ref l) H'
section
variable {P:Program} {w:World} {K:PySem.W.Frag} {mg:Str→Option Value} {base:Heap} {C:Addr} {B:BP}
theorem scLook:FnScope nmLook ["_law_bench","_law_pile","_law_loose","_law_number_here","_law_told"] (defScope s_law_look):=⟨rfl,rfl,rfl,by decide +kernel,rfl,by decide +kernel,by decide +kernel⟩
theorem ok_look {f fR fCo fP fL fQ:Addr} {fd fdR fdCo fdP fdL fdQ:FuncData} {psL psQ:List Str} {kB:Nat} (hkB:kB≤20) (D:Def K mg "_law_look" s_law_look ["_law_bench","_law_pile","_law_loose","_law_number_here","_law_told"] f fd) (O:BenchOk C B) (CL:Cls K C)
  (mL:Meth K C "loose" fL) (bL:Binds K fdL psL []) (GL:FnOk P w K mg base CX0 kB fL fdL psL (spLoose B)) (mQ:Meth K C "parts" fQ) (bQ:Binds K fdQ psQ []) (GQ:FnOk P w K mg base CX0 kB fQ fdQ psQ (spPartsN B))
  (DR:Def K mg "_law_row" s_law_row ["_law_found","_law_due_here"] fR fdR) (DCo:Def K mg "_law_counts" sCounts ["_law_thing"] fCo fdCo) (DP:Def K mg "_law_parts" s_law_parts ["_law_found","_law_pile","_law_loose"] fP fdP) (T:Own mg):FnOk P w K mg base CX0 21 f fd ["_law_bench","_law_pile","_law_loose","_law_number_here","_law_told"] (spLook K B):=by
 have GR:FnOk P w K mg base CX0 2 fR fdR ["_law_found","_law_due_here"] (spSameRow K):=ok_samerow DR DCo T
 have GP:FnOk P w K mg base CX0 3 fP fdP ["_law_found","_law_pile","_law_loose"] (spLParts K):=ok_lparts DP DR DCo T
 refine D.fn.ok scLook (fun vs H Q E h=>?_) (fun cdv A outer s H vs Q E hr h=>?_)
 ·obtain ⟨b,lp,ll,lt,m,ns,n,L,own,ms,TS,ts,rfl,_⟩:=h
  rfl
 ·obtain ⟨b,lp,ll,lt,m,ns,n,L,own,ms,TS,ts,rfl,hB,R,hp,hl,pm,n1,n2,msl,hT,tsl,k⟩:=h
  have hrB:=hr.mono hkB
  have hr2:=hr.mono (show 2≤20 by decide)
  have hr3:=hr.mono (show 3≤20 by decide)
  obtain ⟨t2,h2,r2⟩:∃ t,PSs ((cxOf CX0 P w K mg base nmLook "_law_look" (defScope s_law_look) f cdv A outer s H E).nox) ((defBody s_law_look).drop 1) t ∧
    ∀ (ls lq:Addr) (as:List Addr) H2,Same H H2→H ls=none→H lq=none→ls≠lq→H2 ls=some (.lst (cv ms))→H2 lq=some (.lst (as.map V.ref))→as.length=ms.length+1→as.Nodup→(∀ a∈as,H a=none∧a≠lq∧a≠ls)→(∀ (i:Nat) (a:Addr) (p:List Int),as[i]?=some a→(partsL ns 0 ms)[i]?=some p→H2 a=some (.lst (p.map V.int))) →
     t { nx:=fun _ H'=>Q .non H',rt:=Q } [some (.ref b),some (.ref lp),some (.ref ll),some (.int (m:Int)),some (.ref lt),some (.ref ls),some (.ref lq)] H2:=by
   refine ⟨_,pss_cons (ps_if (pw_or (pt_not (pt_val (pe_call GR hr2 (by rfl) DR.at_ DR.fn.kp DR.bd .nil pass0 (pa_cons (pv 5) (pa_cons (pv 2) pa_nil))))) (pw_or1 (pt_not (pt_val (pe_call GP hr3 (by rfl) DP.at_ DP.fn.kp DP.bd .nil pass0 (pa_cons (pv 6) (pa_cons (pv 1) (pa_cons (pv 2) pa_nil)))))))).pt (pss_one (ps_ret pe_bl)) pss_nil)
    (pss_cons (ps_if (pt_cmpR op_eq (pe_op op_mod (pe_op op_fdiv (pv 3) pe_int) pe_int) pe_int (nomark _))
     (pss_cons (ps_expr (pe_bm PySem.F.plainAttrs_list PySem.F.slot_list_append PySem.F.type_list_append mt_append (pv 4) (pa_cons (pe_tup (pa_cons (pv 5) (pa_cons (pe_callTy call_list_of (by rfl) T.list boot_list (pa_cons (pv 5) pa_nil)) pa_nil))) pa_nil)))
     (pss_one (ps_expr (pe_bm PySem.F.plainAttrs_list PySem.F.slot_list_append PySem.F.type_list_append mt_append (pv 4) (pa_cons (pe_tup (pa_cons (pv 6) (pa_cons (pe_lcomp (cap:=[]) (caps:=[]) rfl (pi_list (pv 6))
      rfl (by decide +kernel) (by decide +kernel) rfl (by show ∀ y:Str×NameKind,y∈_→y.2=NameKind.free→(defScope s_law_look).names.lookup y.1=some .cell∨(defScope s_law_look).names.lookup y.1=some .free; decide +kernel) rfl (fun y hy=>by cases hy) (by decide +kernel)
      (fun cl s₃ H₃ fp=>⟨pifs_nil,pe_callTy (call_list_ofK (K:=K) rfl) (by rfl) T.list boot_list (pa_cons (pv 0) pa_nil)⟩)) pa_nil))) pa_nil))))) pss_nil)
    (pss_cons (ps_if (pt_cmpR op_eq (pe_op op_mod (pe_op op_fdiv (pv 3) pe_int) pe_int) pe_int (nomark _))
     (pss_cons (ps_expr (pe_bm PySem.F.plainAttrs_list PySem.F.slot_list_append PySem.F.type_list_append mt_append (pv 5) (pa_cons pe_int pa_nil)))
     (pss_cons (ps_expr (pe_bm0 PySem.F.plainAttrs_list PySem.F.slot_list_clear PySem.F.type_list_clear mt_clear (pe_ix ix_list (pv 6) pe_int (fun _ _=>rfl))))
     (pss_one (ps_expr (pe_bm PySem.F.plainAttrs_list PySem.F.slot_list_append PySem.F.type_list_append mt_append (pv 6) (pa_cons (pe_lst (pa_cons pe_int pa_nil)) pa_nil)))))) pss_nil)
    (pss_one (ps_ret pe_bl)))),?_⟩
   intro ls lq as H2 s2 hls0 hlq0 nlq hls hlq al nd has hat
   refine ⟨_,rfl,_,rfl,ls,ll,cz ms,rfl,hls,SqL.of (s2 _ _ hl),by rw [List.length_map]; exact msl,true,rfl,iteF ?_⟩
   refine ⟨_,rfl,_,rfl,_,rfl,lq,lp,ll,as,ns,n,ms,rfl,hlq,al,hat,s2.seq hp,s2 _ _ hl,pm,n1,n2,msl,fun H3 s3=>⟨true,rfl,iteF ?_⟩⟩
   have s23:=s2.trans s3
   have hls3:=s3 _ _ hls
   have hlq3:=s3 _ _ hlq
   have nlt:∀ {z:Addr},H z=none→z≠lt:=fun {z} e q=>by rw [q,hT.lst] at e; cases e
   have pl:(partsL ns 0 ms).length=ms.length+1:=partsL_length ns ms 0
   have kk:(m:Int) / 2 % 3=((m / 2 % 3:Nat):Int):=by lia
   refine ⟨_,rfl,_,_,rfl,rfl,⟨by decide,by decide⟩,_,_,rfl,rfl,(by show (0:Int)<3; decide),rfl,_,rfl,?_⟩
   refine ite2 (fun z=>?_) (fun z=>?_)
   ·have z0:(m:Int) / 2 % 3=0:=by
     have:=of_decide_eq_true z
     injection this
    refine ⟨_,rfl,.inl ⟨rfl,_,SqL.of (s23 _ _ hT.lst)⟩,_,rfl,_,rfl,ls,_,rfl,.inl (SqL.of hls3),fun x1 hx1=>?_⟩
    have u1:=same_new (o:=.lst (cv ms)) hx1
    refine ⟨(by show 2≤sizeLine; decide),fun t1 ht1=>?_⟩
    have u2:=same_new (o:=.tup [V.ref ls,V.ref x1]) ht1
    have sA:Same H (upd (upd H3 x1 (.lst (cv ms))) t1 (.tup [V.ref ls,V.ref x1])):=s23.trans (u1.trans u2)
    have x1H:H x1=none:=s23.free hx1
    have t1H:H t1=none:=(s23.trans u1).free ht1
    refine ⟨lt,_,_,rfl,rfl,sA _ _ hT.lst,by rw [List.length_map]; exact line_big10 (by lia),?_⟩
    have up4:∀ z o,upd (upd H3 x1 (.lst (cv ms))) t1 (.tup [V.ref ls,V.ref x1]) z=some o→z≠lt→upd (upd (upd H3 x1 (.lst (cv ms))) t1 (.tup [V.ref ls,V.ref x1])) lt (.lst (ts.map V.ref++[V.ref t1])) z=some o:=fun z o e nz=>by rw [upd_ne nz]; exact e
    have hlt4:upd (upd (upd H3 x1 (.lst (cv ms))) t1 (.tup [V.ref ls,V.ref x1])) lt (.lst (ts.map V.ref++[V.ref t1])) lt=some (.lst ((ts++[t1]).map V.ref)):=by rw [upd_same,List.map_append]; rfl
    have ls4:=up4 _ _ ((u1.trans u2) _ _ hls3) (nlt hls0)
    have x14:=up4 _ _ (u2 _ _ upd_same) (nlt x1H)
    have t14:=up4 _ _ upd_same (nlt t1H)
    have lq4:=up4 _ _ ((u1.trans u2) _ _ hlq3) (nlt hlq0)
    have as4:∀ (i:Nat) (a:Addr) (p:List Int),as[i]?=some a→(partsL ns 0 ms)[i]?=some p→upd (upd (upd H3 x1 (.lst (cv ms))) t1 (.tup [V.ref ls,V.ref x1])) lt (.lst (ts.map V.ref++[V.ref t1])) a=some (.lst (p.map V.int)):=fun i a p e1 e2=>up4 _ _ ((u1.trans u2) _ _ (s3 _ _ (hat i a p e1 e2))) (nlt (has a (List.mem_of_getElem? e1)).1)
    have k4:∀ z o,H z=some o→z≠lt→upd (upd (upd H3 x1 (.lst (cv ms))) t1 (.tup [V.ref ls,V.ref x1])) lt (.lst (ts.map V.ref++[V.ref t1])) z=some o:=fun z o e nz=>up4 z o (sA _ _ e) nz
    generalize upd (upd (upd H3 x1 (.lst (cv ms))) t1 (.tup [V.ref ls,V.ref x1])) lt (.lst (ts.map V.ref++[V.ref t1]))=H4 at hlt4 ls4 x14 t14 lq4 as4 k4
    have T1:=hT.more k4 hlt4 t1H t14 ⟨.inr ⟨hls0,by rw [ls4]; simp⟩,.inr ⟨x1H,by rw [x14]; simp⟩,.inl ⟨cz ms,ls4,x14⟩⟩
    have n4:∀ {z:Addr},H4 z=none→H z=none:=fun {z} e=>by
     cases q:H z with
     | none=>rfl
     | some o =>
      by_cases nz:z=lt
      ·rw [nz,hlt4] at e; cases e
      ·rw [k4 z o q nz] at e; cases e
    have nlt4:∀ {z:Addr},H4 z=none→z≠lt:=fun {z} e=>nlt (n4 e)
    refine ⟨_,rfl,.inl ⟨rfl,_,SqL.of hlt4⟩,_,rfl,_,rfl,lq,rfl,⟨_,SqL.of lq4⟩,fun l2 hl2=>?_⟩
    refine lc_listR (fun i v H5=>∃ a,v=.ref a∧H4 a=none∧a≠l2∧H5 a=some (.lst (((partsL ns 0 ms).getD i []).map V.int))) ?_ (by rw [List.length_map]; lia) hl2 (SqL.of lq4) ?_ ?_
    ·rintro i v H5 H6 ⟨a,rfl,q1,q2,q3⟩ kp
     exact ⟨a,rfl,q1,q2,kp a _ q2 q3⟩
    ·intro i x ys H5 R' hi s5 h5l kR
     rw [List.getElem?_map] at hi
     cases ea:as[i]? with
     | none=>rw [ea] at hi; cases hi
     | some a =>
      rw [ea] at hi
      obtain rfl:V.ref a=x:=Option.some.inj hi
      have hil:i<(partsL ns 0 ms).length:=by have:=(List.getElem?_eq_some_iff.mp ea).1; lia
      have ep:(partsL ns 0 ms)[i]?=some ((partsL ns 0 ms).getD i []):=by simp [List.getD,hil]
      refine ⟨_,rfl,a,_,rfl,.inl (SqL.of (s5 _ _ (as4 i a _ ea ep))),fun l6 hl6=>?_⟩
      refine kR _ _ (same_new hl6) ⟨l6,rfl,s5.free hl6,fun q=>?_,upd_same⟩
      rw [q,h5l] at hl6
      cases hl6
    ·intro vs H5 s5 h5l vl hv
     obtain ⟨bs,rfl,g⟩:=keysOf (G:=fun i a=>H4 a=none∧a≠l2∧H5 a=some (.lst (((partsL ns 0 ms).getD i []).map V.int))) fun i v hi=>by
      obtain ⟨a,e,q1,q2,q3⟩:=hv i v hi
      exact ⟨a,e,q1,q2,q3⟩
     rw [List.length_map,List.length_map] at vl
     refine ⟨(by show 2≤sizeLine; decide),fun t2' ht2=>?_⟩
     have u6:=same_new (o:=.tup [V.ref lq,V.ref l2]) ht2
     have s46:=s5.trans u6
     have t2H4:H4 t2'=none:=s5.free ht2
     refine ⟨lt,_,_,rfl,rfl,s46 _ _ hlt4,by rw [List.length_map,List.length_append]; exact line_big10 (by simp; lia),?_⟩
     have up6:∀ z o,upd H5 t2' (.tup [V.ref lq,V.ref l2]) z=some o→z≠lt→upd (upd H5 t2' (.tup [V.ref lq,V.ref l2])) lt (.lst ((ts++[t1]).map V.ref++[V.ref t2'])) z=some o:=fun z o e nz=>by rw [upd_ne nz]; exact e
     have hlt6:upd (upd H5 t2' (.tup [V.ref lq,V.ref l2])) lt (.lst ((ts++[t1]).map V.ref++[V.ref t2'])) lt=some (.lst (((ts++[t1])++[t2']).map V.ref)):=by rw [upd_same,List.map_append (l₁:=ts++[t1])]; rfl
     have k6:∀ z o,H4 z=some o→z≠lt→upd (upd H5 t2' (.tup [V.ref lq,V.ref l2])) lt (.lst ((ts++[t1]).map V.ref++[V.ref t2'])) z=some o:=fun z o e nz=>up6 z o (s46 _ _ e) nz
     have t26:=up6 _ _ upd_same (nlt4 t2H4)
     have l26:=up6 _ _ (u6 _ _ h5l) (nlt4 hl2)
     have LQ:LL (upd (upd H5 t2' (.tup [V.ref lq,V.ref l2])) lt (.lst ((ts++[t1]).map V.ref++[V.ref t2']))) lq as (partsL ns 0 ms):=⟨k6 _ _ lq4 (nlt hlq0),by lia,fun i a p e1 e2=>k6 _ _ (as4 i a p e1 e2) (nlt (has a (List.mem_of_getElem? e1)).1)⟩
     have LB:LL (upd (upd H5 t2' (.tup [V.ref lq,V.ref l2])) lt (.lst ((ts++[t1]).map V.ref++[V.ref t2']))) l2 bs (partsL ns 0 ms):=⟨l26,by lia,fun i a p e1 e2=>by
      obtain ⟨g1,g2,g3⟩:=g i a e1
      have:(partsL ns 0 ms).getD i []=p:=by simp [List.getD,e2]
      rw [this] at g3
      exact up6 _ _ (u6 _ _ g3) (nlt4 g1)⟩
     have new1:∀ {z:Addr} {o:HO},H z=none→H4 z=some o→TS z∨(H z=none∧H4 z≠none):=fun {z o} e1 e2=>.inr ⟨e1,by rw [e2]; simp⟩
     have T2:=T1.more k6 hlt6 t2H4 t26 ⟨.inl (new1 hlq0 lq4),.inr ⟨hl2,by rw [l26]; simp⟩,.inr ⟨as,bs,partsL ns 0 ms,LQ,LB,fun a ha=>?_,fun a ha=>?_⟩⟩
     ·generalize upd (upd H5 t2' (.tup [V.ref lq,V.ref l2])) lt (.lst ((ts++[t1]).map V.ref++[V.ref t2']))=H6 at T2 k6
      refine ⟨_,rfl,_,_,rfl,rfl,⟨by decide,by decide⟩,_,_,rfl,rfl,(by show (0:Int)<3; decide),rfl,_,rfl,ite2 (fun q=>?_) (fun _=>?_)⟩
      ·exfalso
       have:=of_decide_eq_true q
       injection this with this
       have q':(m:Int) / 2 % 3=1:=this
       lia
      ·refine k H6 _ _ (fun y o e ny=>k6 y o (k4 y o e ny) ny) (fun y hy=>?_) T2 (by rw [List.length_append,List.length_append]; simp)
       rcases hy with (hy | ⟨hy,_⟩) | ⟨hy,_⟩
       ·exact .inl hy
       ·exact .inr hy
       ·exact .inr (n4 hy)
     ·obtain ⟨i,hi⟩:=List.getElem?_of_mem ha
      have hil:i<(partsL ns 0 ms).length:=by have:=(List.getElem?_eq_some_iff.mp hi).1; lia
      exact .inl (new1 (has a ha).1 (as4 i a _ hi (List.getElem?_eq_getElem hil)))
     ·obtain ⟨i,hi⟩:=List.getElem?_of_mem ha
      have hil:i<(partsL ns 0 ms).length:=by have:=(List.getElem?_eq_some_iff.mp hi).1; lia
      obtain ⟨g1,_,_⟩:=g i a hi
      exact .inr ⟨g1,by rw [LB.at_ i a _ hi (List.getElem?_eq_getElem hil)]; simp⟩
   ·refine ⟨_,rfl,_,_,rfl,rfl,⟨by decide,by decide⟩,_,_,rfl,rfl,(by show (0:Int)<3; decide),rfl,_,rfl,ite2 (fun _=>?_) (fun _=>?_)⟩
    ·have a0l:0<as.length:=by lia
     have ea:as[0]?=some as[0]:=List.getElem?_eq_getElem a0l
     have ep:(partsL ns 0 ms)[0]?=some ((partsL ns 0 ms)[0]'(by lia)):=List.getElem?_eq_getElem (by lia)
     have hA:=has _ (List.getElem_mem a0l)
     refine ⟨_,rfl,.inl ⟨rfl,_,SqL.of hls3⟩,ls,_,_,rfl,rfl,hls3,by rw [cv_len]; exact small1000 (by lia),?_⟩
     have w1:∀ z o,H3 z=some o→z≠ls→upd H3 ls (.lst (cv ms++[V.int 0])) z=some o:=fun z o e nz=>by rw [upd_ne nz]; exact e
     have lq5:=w1 _ _ hlq3 (Ne.symm nlq)
     have a05:=w1 _ _ (s3 _ _ (hat 0 _ _ ea ep)) hA.2.2
     have g0:atI (as.map V.ref) 0=some (.ref as[0]):=atI_nat (j:=0) (by rw [List.getElem?_map,ea]; rfl)
     refine ⟨_,rfl,lq,_,0,_,rfl,rfl,SqL.of lq5,g0,.inl ⟨rfl,_,SqL.of a05⟩,as[0],_,rfl,rfl,a05,?_⟩
     have w2:∀ z o,upd H3 ls (.lst (cv ms++[V.int 0])) z=some o→z≠as[0]→upd (upd H3 ls (.lst (cv ms++[V.int 0]))) as[0] (.lst []) z=some o:=fun z o e nz=>by rw [upd_ne nz]; exact e
     have lq6:=w2 _ _ lq5 (Ne.symm hA.2.1)
     refine ⟨_,rfl,.inl ⟨rfl,_,SqL.of lq6⟩,small_line (by show 1≤1000; decide),fun l9 hl9=>?_⟩
     have w3:=same_new (o:=.lst [V.int 0]) hl9
     refine ⟨lq,_,_,rfl,rfl,w3 _ _ lq6,by rw [List.length_map]; exact small1000 (by lia),?_⟩
     have fin:∀ z o,H z=some o→upd (upd (upd (upd H3 ls (.lst (cv ms++[V.int 0]))) as[0] (.lst [])) l9 (.lst [V.int 0])) lq (.lst (as.map V.ref++[V.ref l9])) z=some o:=fun z o e=>by
      rw [upd_ne (ne_of_none e hlq0)]
      exact w3 _ _ (w2 _ _ (w1 _ _ (s23 _ _ e) (ne_of_none e hls0)) (ne_of_none e hA.1))
     exact k _ TS ts (fun y o e _=>fin y o e) (fun y hy=>.inl hy) (hT.keep (fun z o _ e=>fin z o e) (fin _ _ hT.lst)) (by lia)
    ·exact k H3 TS ts (fun y o e _=>s23 _ _ e) (fun y hy=>.inl hy) (hT.keep (fun z o _ e=>s23 _ _ e) (s23 _ _ hT.lst)) (by lia)
  refine ⟨_,pss_cons (ps_if (pt_cmpR op_eq (pe_op op_mod (pv 3) pe_int) pe_int (nomark _))
    (pss_cons (ps_set (i:=5) scLook.nd rfl (Or.inl rfl) (pe_meth0 (pv 0) CL mL GL hrB bL .nil pass0)) (pss_one (ps_set (i:=6) scLook.nd rfl (Or.inl rfl) (pe_meth0 (pv 0) CL mQ GQ hrB bQ .nil pass0))))
    (pss_cons (ps_set (i:=6) scLook.nd rfl (Or.inl rfl) (pe_meth0 (pv 0) CL mQ GQ hrB bQ .nil pass0)) (pss_one (ps_set (i:=5) scLook.nd rfl (Or.inl rfl) (pe_meth0 (pv 0) CL mL GL hrB bL .nil pass0))))) h2,?_⟩
  obtain ⟨dx,fs,hb,_,_,q3,q4⟩:=O.ins hB
  refine ⟨_,rfl,_,_,rfl,rfl,(by show (0:Int)<2; decide),rfl,_,rfl,ite2 (fun _=>?_) (fun _=>?_)⟩
  ·refine ⟨_,rfl,b,dx,fs,rfl,hb,q3,b,ns,L,own,rfl,hB,fun ls ms1 H1 s1 hls0 R1 hls=>?_⟩
   obtain rfl:=R1.unique R
   refine ⟨_,rfl,b,dx,fs,rfl,s1 _ _ hb,q4,n,b,ns,L,own,ms1,pm,n2,rfl,O.same hB s1,R1,fun lq as H2 s2 hlq0 hlq al nd has hat=>?_⟩
   exact r2 ls lq as H2 (s1.trans s2) hls0 (s1.free hlq0) (ne_of_none hls hlq0) (s2 _ _ hls) hlq al nd (fun a ha=>⟨s1.free (has a ha).1,(has a ha).2,Ne.symm (ne_of_none hls (has a ha).1)⟩) hat
  ·refine ⟨_,rfl,b,dx,fs,rfl,hb,q4,n,b,ns,L,own,ms,pm,n2,rfl,hB,R,fun lq as H1 s1 hlq0 hlq al nd has hat=>?_⟩
   refine ⟨_,rfl,b,dx,fs,rfl,s1 _ _ hb,q3,b,ns,L,own,rfl,O.same hB s1,fun ls ms1 H2 s2 hls0 R1 hls=>?_⟩
   obtain rfl:=R1.unique R
   have asE:∀ a∈as,∃ o,H1 a=some o:=fun a ha=>by
    obtain ⟨i,hi⟩:=List.getElem?_of_mem ha
    have hil:i<(partsL ns 0 ms1).length:=by rw [partsL_length]; have:=(List.getElem?_eq_some_iff.mp hi).1; lia
    exact ⟨_,hat i a _ hi (List.getElem?_eq_getElem hil)⟩
   exact r2 ls lq as H2 (s1.trans s2) (s1.free hls0) hlq0 (Ne.symm (ne_of_none hlq hls0)) hls (s2 _ _ hlq) al nd (fun a ha=>⟨(has a ha).1,(has a ha).2,by obtain ⟨o,e⟩:=asE a ha; exact ne_of_none e hls0⟩) fun i a p e1 e2=>s2 _ _ (hat i a p e1 e2)
end
end Sf
set_option maxHeartbeats 4000000
namespace Sf
open PySem L2 Pl
seal PS PSs PE PA PSsx PSx PEx
theorem boot_tuple:bootBuiltins "tuple"=some (.type "tuple"):=by decide +kernel
structure OwnT (mg:Str→Option Value):Prop where
 tuple:mg "tuple"=none
structure Moves (own own':Addr→Prop) (H H':Hp):Prop where
 stay:Beside own H H'
 grew:∀ y,own' y→own y∨H y=none
theorem Moves.not {own own':Addr→Prop} {H H':Hp} (m:Moves own own' H H') {y:Addr} {o:HO} (h:H y=some o) (n:¬ own y):¬ own' y:=fun q=>by
 rcases m.grew y q with z | z
 ·exact n z
 ·rw [h] at z; cases z
theorem Moves.none {own own':Addr→Prop} {H H':Hp} (m:Moves own own' H H') {y:Addr} (h:H' y=none):own y∨H y=none:=by
 cases e:H y with
 | none=>exact .inr rfl
 | some o =>
  by_cases q:own y
  ·exact .inl q
  ·rw [m.stay y o e q] at h
   cases h
theorem Moves.same {own own':Addr→Prop} {H H1 H2:Hp} (m:Moves own own' H H1) (s:Same H1 H2):Moves own own' H H2:=⟨fun y o h n=>s y o (m.stay y o h n),m.grew⟩
theorem Moves.pre {own own':Addr→Prop} {H H1 H2:Hp} (s:Same H H1) (m:Moves own own' H1 H2):Moves own own' H H2:=⟨fun y o h n=>m.stay y o (s y o h) n,fun y h=>(m.grew y h).imp id fun z=>s.free z⟩
def spBehind (K:PySem.W.Frag) (B:BP):Sp:=fun vs H Q _=>∃ (b la ll:Addr) (m:Nat) (ns:List Int) (n:Nat) (L:Nat→Prop) (own:Addr→Prop) (ms:List Nat),vs=[.ref b,.ref la,.ref ll,.int (m:Int)]∧B H b ns L own∧Rise L ms∧SqL K H la ((plc ns).map V.int)∧(∀ z,own z→z≠la)∧H ll=some (.lst (cv ms))∧¬ own ll∧ns.Perm (iota n)∧1≤n∧n≤60∧NoX (plc ns)∧(∀ c∈ms,c+1<n)∧m<2147483648 ∧
 ∀ (l:Addr) (ms':List Nat) (L':Nat→Prop) (own':Addr→Prop) H',Moves own own' H H'→B H' b ns L' own'→Rise L' ms'→(∀ c∈ms',c+1<n)→H' l=some (.lst (cv ms'))→(l=ll∨own l∨H l=none)→¬ own' l→Q (.ref l) H'
abbrev nmBehind:List Str:=["_law_bench","_law_at","_law_loose","_law_number_here","_law_drawing","_law_creases_here","_law_given","_law_word"]
theorem sqL_stay {K:PySem.W.Frag} {H H':Hp} {a:Addr} {xs:List V} (h:SqL K H a xs) (k:∀ o,H a=some o→H' a=some o):SqL K H' a xs:=by
 rcases h with (h | ⟨o,h⟩) | h
 ·exact .inl (.inl (k _ h))
 ·exact .inl (.inr ⟨o,k _ h⟩)
 ·exact .inr h
theorem due_of {K:PySem.W.Frag} {la ll lc:Addr} {dr:Bool} {ns:List Int} {n:Nat} {ms:List Nat} {cs:List Int} {H:Hp} {Q:VK} {E} {wd:Int} (ha:SqL K H la ((plc ns).map V.int)) (hl:H ll=some (.lst (cv ms))) (hc:H lc=some (.lst (cs.map V.int))) (pm:ns.Perm (iota n)) (n1:1≤n) (n2:n≤60) (nd:ms.Nodup) (hb:∀ c∈ms,c+1<n) (csl:cs.length≤60)
  (hw:(BadC n cs∧wd=1)∨(¬ BadC n cs∧StkC dr (plc ns) (fun c=>c∈ms) cs∧wd=2)∨(¬ BadC n cs∧¬ StkC dr (plc ns) (fun c=>c∈ms) cs∧wd=0)) (k:∀ H',Same H H'→Q (.int wd) H'):spDue K [.ref la,.ref ll,.ref lc,.bl dr] H Q E:=by
 refine ⟨la,ll,lc,dr,ns,n,ms,cs,rfl,ha,hl,hc,pm,n1,n2,nd,hb,csl,fun z=>?_,fun z z2=>?_,fun z z2=>?_⟩
 ·rcases hw with ⟨h,rfl⟩ | ⟨h,_⟩ | ⟨h,_⟩
  ·exact k
  ·exact absurd z h
  ·exact absurd z h
 ·rcases hw with ⟨h,_⟩ | ⟨h,h2,rfl⟩ | ⟨h,h2,_⟩
  ·exact absurd h z
  ·exact k
  ·exact absurd z2 h2
 ·rcases hw with ⟨h,_⟩ | ⟨h,h2,_⟩ | ⟨h,h2,rfl⟩
  ·exact absurd h z
  ·exact absurd h2 z2
  ·exact k
section
variable {P:Program} {w:World} {K:PySem.W.Frag} {mg:Str→Option Value} {base:Heap} {C:Addr} {B:BP}
theorem scBehind:FnScope nmBehind ["_law_bench","_law_at","_law_loose","_law_number_here"] (defScope s_law_behind):=⟨rfl,rfl,rfl,by decide +kernel,rfl,by decide +kernel,by decide +kernel⟩
theorem ok_behind {f fC fDo fDu:Addr} {fd fdC fdDo fdDu:FuncData} {psDo:List Str} (O:BenchOk C B) (D:Def K mg "_law_behind" s_law_behind ["_law_bench","_law_at","_law_loose","_law_number_here"] f fd)
  (DC:Def K mg "_law_creases" s_law_creases ["_law_size_here","_law_loose","_law_number_here"] fC fdC) (GC:FnOk P w K mg base CX0 1 fC fdC ["_law_size_here","_law_loose","_law_number_here"] (spCreases K))
  (DDo:Def K mg "_law_done" s_law_done ["_law_bench","_law_creases_here","_law_drawing"] fDo fdDo) (GDo:FnOk P w K mg base CX0 27 fDo fdDo ["_law_bench","_law_creases_here","_law_drawing"] (spDone K B))
  (DDu:Def K mg "_law_due" s_law_due ["_law_at","_law_loose","_law_creases_here","_law_drawing"] fDu fdDu) (GDu:FnOk P w K mg base CX0 4 fDu fdDu ["_law_at","_law_loose","_law_creases_here","_law_drawing"] (spDue K)) (T:Own mg) (U:OwnT mg) :
  FnOk P w K mg base CX0 28 f fd ["_law_bench","_law_at","_law_loose","_law_number_here"] (spBehind K B):=by
 refine D.fn.ok scBehind (fun vs H Q E h=>?_) (fun cdv A outer s H vs Q E hr h=>?_)
 ·obtain ⟨b,la,ll,m,ns,n,L,own,ms,rfl,_⟩:=h
  rfl
 ·obtain ⟨b,la,ll,m,ns,n,L,own,ms,rfl,hB,R,ha,na,hl,nl,pm,n1,n2,nx,hb,hm,k⟩:=h
  have hr1:=hr.mono (show 1≤27 by decide)
  have hr4:=hr.mono (show 4≤27 by decide)
  have pl:(plc ns).length=n:=by rw [plc_length,perm_len pm]
  have ndm:ms.Nodup:=R.inc.imp fun h=>Nat.ne_of_lt h
  have msl:ms.length≤60:=by
   have:=nodup_le n ms ndm fun c hc=>by have:=hb c hc; lia
   lia
  have eL:(fun c=>c∈ms)=L:=funext fun c=>propext (R.mem c)
  obtain ⟨t2,h2,r2⟩:∃ t,PSs ((cxOf CX0 P w K mg base nmBehind "_law_behind" (defScope s_law_behind) f cdv A outer s H E).nox) ((defBody s_law_behind).drop 4) t ∧
    ∀ (lc lg:Addr) (cs:List Int) (dr:Bool) (wd:Int) (L':Nat→Prop) (own':Addr→Prop) H1 H2,Same H H1→H1 lc=some (.lst (cs.map V.int))→H1 lg=some (.lst (cs.map V.int))→H lc=none→H lg=none→lc≠lg→cs.length≤60→Moves own own' H1 H2→B H2 b ns L' own'→¬ own lc→¬ own lg →
     ((BadC n cs∧wd=1∧L'=L)∨(¬ BadC n cs∧StkC dr (plc ns) L cs∧wd=2∧L'=L)∨(¬ BadC n cs∧¬ StkC dr (plc ns) L cs∧wd=0∧L'=NewL dr L cs)) →
     t { nx:=fun _ H'=>Q .non H',rt:=Q } [some (.ref b),some (.ref la),some (.ref ll),some (.int (m:Int)),some (.bl dr),some (.ref lc),some (.ref lg),some (.int wd)] H2:=by
   refine ⟨_,pss_cons (ps_if (pw_or (pt_cmpR op_ne (pv 7) (pe_call GDu hr4 (by rfl) DDu.at_ DDu.fn.kp DDu.bd .nil pass0 (pa_cons (pv 1) (pa_cons (pv 2) (pa_cons (pv 5) (pa_cons (pv 4) pa_nil))))) (nomark _)) (pw_or1 (pt_cmpR (op_ne_lst hr.units0) (pv 6) (pv 5) (nomark _)))).pt (pss_one (ps_ret pe_non)) pss_nil)
    (pss_cons (ps_expr (pe_bm PySem.F.plainAttrs_list PySem.F.slot_list_append PySem.F.type_list_append mt_append (pv 6) (pa_cons pe_int pa_nil)))
    (pss_cons (ps_if (pt_cmpR op_ne (pv 7) pe_int (nomark _)) (pss_one (ps_ret (pv 2))) pss_nil)
    (pss_cons (ps_if (pt_val (pv 4)) (pss_one (ps_ret (pe_callB call_sorted (by rfl) T.sorted PyProof.Rows.boot_sorted (pa_cons (pe_op op_cat (pv 2) (pv 5)) pa_nil)))) pss_nil)
    (pss_one (ps_ret (pe_lcomp (cap:=[5]) (caps:=["_law_creases_here"]) rfl (pi_list (pv 2)) rfl (by decide +kernel) (by decide +kernel) rfl
      (by show ∀ y:Str×NameKind,y∈_→y.2=NameKind.free→(defScope s_law_behind).names.lookup y.1=some .cell∨(defScope s_law_behind).names.lookup y.1=some .free; decide +kernel) rfl (fun y hy=>by rw [List.mem_singleton.mp hy]; exact ⟨.inl rfl,.inl rfl⟩) (by decide +kernel)
      (fun cl s₃ H₃ fp=>⟨pifs_one (pt_cmpR (op_notIn_seqK (K:=K) rfl) (pv 0) (pv 1) rfl),pv 0⟩))))))),?_⟩
   intro lc lg cs dr wd L' own' H1 H2 s1 hlc hlg hlc0 hlg0 ncg csl mv hB2 nlc nlg hw
   have lc2:=mv.stay _ _ hlc nlc
   have lg2:=mv.stay _ _ hlg nlg
   have ll2:=mv.stay _ _ (s1 _ _ hl) nl
   have la2:SqL K H2 la ((plc ns).map V.int):=sqL_stay (s1.seq ha) fun o e=>mv.stay _ _ e fun z=>na _ z rfl
   have hw':(BadC n cs∧wd=1)∨(¬ BadC n cs∧StkC dr (plc ns) (fun c=>c∈ms) cs∧wd=2)∨(¬ BadC n cs∧¬ StkC dr (plc ns) (fun c=>c∈ms) cs∧wd=0):=by
    rw [eL]
    rcases hw with ⟨h,e,_⟩ | ⟨h,h2,e,_⟩ | ⟨h,h2,e,_⟩
    ·exact .inl ⟨h,e⟩
    ·exact .inr (.inl ⟨h,h2,e⟩)
    ·exact .inr (.inr ⟨h,h2,e⟩)
   refine ⟨_,rfl,_,rfl,_,rfl,_,rfl,_,rfl,?_⟩
   dsimp only [tNil]
   refine due_of la2 ll2 lc2 pm n1 n2 ndm hb csl hw' fun H3 s3=>?_
   refine ⟨rfl,_,rfl,?_⟩
   refine ite2 (fun z=>by simp at z) (fun _=>?_)
   refine ⟨_,rfl,_,rfl,lg,lc,_,_,rfl,rfl,SqL.of (s3 _ _ lg2),SqL.of (s3 _ _ lc2),flat_ints _,flat_ints _,_,rfl,?_⟩
   refine ite2 (fun z=>?_) (fun _=>?_)
   ·exfalso
    rw [if_pos rfl,eqVs_ints,decide_eq_true rfl] at z
    cases z
   refine ⟨_,rfl,.inl ⟨rfl,_,SqL.of (s3 _ _ lg2)⟩,lg,_,_,rfl,rfl,s3 _ _ lg2,by rw [List.length_map]; exact small1000 (by lia),?_⟩
   have up4:∀ z o,H3 z=some o→z≠lg→upd H3 lg (.lst (cs.map V.int++[V.int 0])) z=some o:=fun z o e nz=>by rw [upd_ne nz]; exact e
   have ll4:=up4 _ _ (s3 _ _ ll2) (ne_of_none hl hlg0)
   have lc4:=up4 _ _ (s3 _ _ lc2) ncg
   have mg':¬ own' lg:=mv.not hlg nlg
   have B4:B (upd H3 lg (.lst (cs.map V.int++[V.int 0]))) b ns L' own':=O.keep (O.same hB2 s3) fun x hx=>upd_ne fun e=>mg' (e ▸ hx)
   have M4:Moves own own' H (upd H3 lg (.lst (cs.map V.int++[V.int 0]))):=⟨fun y o h q=>up4 _ _ (s3 _ _ (mv.stay y o (s1 _ _ h) q)) (ne_of_none h hlg0),fun y h=>(mv.grew y h).imp id fun z=>s1.free z⟩
   have f4:∀ {z:Addr},upd H3 lg (.lst (cs.map V.int++[V.int 0])) z=none→H3 z=none:=fun {z} e=>by
    by_cases q:z=lg
    ·rw [q,upd_same] at e; cases e
    ·rw [upd_ne q] at e; exact e
   generalize upd H3 lg (.lst (cs.map V.int++[V.int 0]))=H4 at ll4 lc4 B4 M4 f4
   have own4:∀ {z:Addr},H4 z=none→¬ own' z:=fun {z} e q=>O.held B4 q e
   refine ⟨_,rfl,rfl,_,rfl,ite2 (fun z=>?_) (fun z=>?_)⟩
   ·have w0:wd≠0:=fun e=>by rw [e] at z; simp at z
    have eL':L'=L:=by
     rcases hw with ⟨_,_,e⟩ | ⟨_,_,_,e⟩ | ⟨_,_,e,_⟩
     ·exact e
     ·exact e
     ·exact absurd e w0
    refine ⟨_,rfl,k ll ms L' own' H4 M4 B4 (eL' ▸ R) hb ll4 (.inl rfl) fun q=>?_⟩
    rcases M4.grew _ q with q | q
    ·exact nl q
    ·rw [hl] at q; cases q
   ·have w0:wd=0:=by
     by_cases e:wd=0
     ·exact e
     ·exact absurd (by simp [e]) z
    obtain ⟨nb,nst,eL'⟩:¬ BadC n cs∧¬ StkC dr (plc ns) L cs∧L'=NewL dr L cs:=by
     rcases hw with ⟨_,e,_⟩ | ⟨_,_,e,_⟩ | ⟨h1,h2,_,h3⟩
     ·rw [w0] at e; cases e
     ·rw [w0] at e; cases e
     ·exact ⟨h1,h2,h3⟩
    subst eL'
    obtain ⟨ez,ndz,hbz⟩:=cz_of nb
    have mz:∀ c:Nat,(c:Int)∈cs↔c∈cs.map Int.toNat:=fun c=>by
     conv=>lhs; rw [ez]
     exact mem_cz
    refine ⟨_,rfl,dr,rfl,?_⟩
    cases dr with
    | true =>
     have dm:∀ c∈cs.map Int.toNat,c∉ms:=fun c hc z=>by
      obtain ⟨x,hx,rfl⟩:=List.mem_map.mp hc
      exact nst (.inl ⟨x,hx,iff_of_true ((R.mem _).mp z) rfl⟩)
     have ndm2:(ms++cs.map Int.toNat).Nodup:=List.nodup_append.mpr ⟨ndm,ndz,fun x hx y hy e=>dm y hy (e ▸ hx)⟩
     have bnd:∀ c∈ms++cs.map Int.toNat,c+1<n:=fun c hc=>by
      rcases List.mem_append.mp hc with h | h
      ·exact hb c h
      ·exact hbz c h
     have mcl:(ms++cs.map Int.toNat).length≤n:=nodup_le n _ ndm2 fun c hc=>by have:=bnd c hc; lia
     refine iteT ⟨_,rfl,_,rfl,ll,lc,_,_,rfl,rfl,ll4,lc4,?_,fun l5 hl5=>?_⟩
     ·rw [cv_len,List.length_map]
      exact small_line (by rw [List.length_append,List.length_map] at mcl; lia)
     have e5:cv ms++cs.map V.int=cv (ms++cs.map Int.toNat):=by
      conv=>lhs; rw [ez]
      show (cz ms).map V.int++(cz (cs.map Int.toNat)).map V.int=(cz (ms++cs.map Int.toNat)).map V.int
      rw [← List.map_append]
      congr 1
      exact List.map_append.symm
     rw [e5]
     have t5:=same_new (o:=.lst (cv (ms++cs.map Int.toNat))) hl5
     refine ⟨l5,_,rfl,SqL.of upd_same,by rw [List.length_map]; lia,fun l6 rs hl6 rp so=>?_⟩
     obtain ⟨ds,rfl,dinc,dmem,dlen⟩:=sorted_nat rp so ndm2
     have t6:=same_new (o:=.lst ((ds.map fun (c:Nat)=>(c:Int)).map V.int)) hl6
     have s46:=t5.trans t6
     refine k l6 ds _ own' _ (M4.same s46) (O.same B4 s46) ⟨fun c=>?_,dinc⟩ (fun c hc=>bnd c ((dmem c).mp hc)) upd_same (.inr (M4.none (t5.free hl6))) (own4 (t5.free hl6))
     rw [dmem,List.mem_append,← eL,newD,mz]
    | false =>
     refine iteF ⟨_,rfl,ll,rfl,⟨_,SqL.of ll4⟩,fun l5 hl5=>?_⟩
     refine lc_list_if (xs:=cv ms) (p:=fun v=>!inV v (cs.map V.int)) (f:=id) (by rw [cv_len]; lia) hl5 (SqL.of ll4) (fun x H5 R' hx s5 kR=>?_) (fun x H5 R' hx _ s5 kR=>⟨_,rfl,kR H5 (Same.refl _)⟩) fun H5 s5 h5=>?_
     ·obtain ⟨z,hz,rfl⟩:=List.mem_map.mp hx
      exact ⟨_,rfl,_,rfl,lc,cs.map V.int,rfl,.inl (SqL.of (s5 _ _ lc4)),rfl,flat_ints cs,_,rfl,kR H5 (Same.refl _)⟩
     have ef:((cv ms).filter fun v=>!inV v (cs.map V.int)).map id=cv (ms.filter fun (c:Nat)=>!decide ((c:Int)∈cs)):=by
      rw [List.map_id,List.filter_map,List.filter_map]
      congr 2
      refine List.filter_congr fun c _=>?_
      show (!inV (.int (c:Int)) (cs.map V.int))=(!decide ((c:Int)∈cs))
      rw [inv_int]
     rw [ef] at h5
     have mf:∀ c:Nat,c∈ms.filter (fun (c:Nat)=>!decide ((c:Int)∈cs))↔(c∈ms∧(c:Int)∉cs):=fun c=>by rw [List.mem_filter]; simp
     refine k l5 _ _ own' _ (M4.same s5) (O.same B4 s5) ⟨fun c=>?_,R.inc.sublist List.filter_sublist⟩ (fun c hc=>hb c ((mf c).mp hc).1) h5 (.inr (M4.none hl5)) (own4 hl5)
     rw [mf,← eL,newP]
  have kB:∀ {z:Addr},H z=none→¬ own z:=fun {z} e q=>O.held hB q e
  refine ⟨_,pss_cons (ps_set (i:=4) scBehind.nd rfl (Or.inl rfl) (pe_cmpR op_eq (pe_op op_mod (pv 3) pe_int) pe_int (nomark _)))
   (pss_cons (ps_set (i:=5) scBehind.nd rfl (by first | exact Or.inl rfl | exact Or.inr rfl) (pe_call GC hr1 (by rfl) DC.at_ DC.fn.kp DC.bd .nil pass0 (pa_cons (pe_callB call_len_seq (by rfl) T.len PySem.boot_len (pa_cons (pv 1) pa_nil)) (pa_cons (pv 2) (pa_cons (pe_op op_fdiv (pv 3) pe_int) pa_nil)))))
   (pss_cons (ps_set (i:=6) scBehind.nd rfl (Or.inl rfl) (pe_callTy call_list_of (by rfl) T.list boot_list (pa_cons (pv 5) pa_nil)))
   (pss_cons (ps_if (pt_cmpR op_eq (pe_op op_mod (pe_op op_fdiv (pv 3) pe_int) pe_int) pe_int (nomark _))
    (pss_one (ps_set (i:=7) scBehind.nd rfl (Or.inl rfl) (pe_call GDo hr (by rfl) DDo.at_ DDo.fn.kp DDo.bd .nil pass0 (pa_cons (pv 0) (pa_cons (pe_callTy call_tuple_of (by rfl) U.tuple boot_tuple (pa_cons (pv 5) pa_nil)) (pa_cons (pv 4) pa_nil))))))
    (pss_one (ps_set (i:=7) scBehind.nd rfl (Or.inl rfl) (pe_call GDo hr (by rfl) DDo.at_ DDo.fn.kp DDo.bd .nil pass0 (pa_cons (pv 0) (pa_cons (pv 6) (pa_cons (pv 4) pa_nil))))))) h2))),?_⟩
  refine ⟨_,rfl,_,_,rfl,rfl,(by show (0:Int)<2; decide),rfl,?_⟩
  generalize decide (V.int ((m:Int) % 2)=V.int 0)=dr
  refine ⟨_,rfl,la,_,rfl,.inl ha,_,rfl,_,rfl,_,_,rfl,rfl,⟨by decide,by decide⟩,n,ll,cz ms,m / 4,?_,SqL.of hl,n1,n2,by rw [List.length_map]; exact msl,by lia,fun lc cs H1 s1 hlc0 hlc csl=>?_⟩
  ·rw [List.length_map,pl]
   congr 3
  refine ⟨_,rfl,lc,_,rfl,.inl (SqL.of hlc),fun lg hlg=>?_⟩
  have t1:=same_new (o:=.lst (cs.map V.int)) hlg
  have s2:=s1.trans t1
  have hlg0:H lg=none:=s1.free hlg
  have ncg:lc≠lg:=ne_of_none hlc hlg
  have hlc2:=t1 _ _ hlc
  have hlg2:upd H1 lg (.lst (cs.map V.int)) lg=some (.lst (cs.map V.int)):=upd_same
  generalize upd H1 lg (.lst (cs.map V.int))=H2 at s2 hlc2 hlg2
  have fin:∀ (H3 H4:Hp) (wd:Int) (L':Nat→Prop),Same H2 H3→Behind B b ns own L' H3 H4→((BadC n cs∧wd=1∧L'=L)∨(¬ BadC n cs∧StkC dr (plc ns) L cs∧wd=2∧L'=L)∨(¬ BadC n cs∧¬ StkC dr (plc ns) L cs∧wd=0∧L'=NewL dr L cs)) →
    t2 { nx:=fun _ H'=>Q .non H',rt:=Q } [some (.ref b),some (.ref la),some (.ref ll),some (.int (m:Int)),some (.bl dr),some (.ref lc),some (.ref lg),some (.int wd)] H4:=fun H3 H4 wd L' s3 ⟨own',b1,b2,b3⟩ hw=>r2 lc lg cs dr wd L' own' H3 H4 (s2.trans s3) (s3 _ _ hlc2) (s3 _ _ hlg2) hlc0 hlg0 ncg csl ⟨b1,b2⟩ b3 (kB hlc0) (kB hlg0) hw
  refine ⟨_,rfl,_,_,rfl,rfl,⟨by decide,by decide⟩,_,_,rfl,rfl,(by show (0:Int)<2; decide),rfl,_,rfl,ite2 (fun _=>?_) (fun _=>?_)⟩
  ·refine ⟨_,rfl,_,rfl,lc,_,rfl,.inl ⟨SqL.of hlc2,fun lt hlt=>?_⟩⟩
   have t3:=same_new (o:=.tup (cs.map V.int)) hlt
   refine ⟨_,rfl,b,lt,dr,ns,n,L,own,cs,rfl,O.same hB (s2.trans t3),.inr (SqT.of upd_same),kB (s2.free hlt),pm,n1,n2,nx,csl,fun z H4 h=>?_,fun z z2 H4 h=>?_,fun z z2 H4 h=>?_⟩
   ·exact fin _ H4 1 L t3 h (.inl ⟨z,rfl,rfl⟩)
   ·exact fin _ H4 2 L t3 h (.inr (.inl ⟨z,z2,rfl,rfl⟩))
   ·exact fin _ H4 0 _ t3 h (.inr (.inr ⟨z,z2,rfl,rfl⟩))
  ·refine ⟨_,rfl,_,rfl,_,rfl,b,lg,dr,ns,n,L,own,cs,rfl,O.same hB s2,.inl (SqL.of hlg2),kB hlg0,pm,n1,n2,nx,csl,fun z H4 h=>?_,fun z z2 H4 h=>?_,fun z z2 H4 h=>?_⟩
   ·exact fin _ H4 1 L (Same.refl _) h (.inl ⟨z,rfl,rfl⟩)
   ·exact fin _ H4 2 L (Same.refl _) h (.inr (.inl ⟨z,z2,rfl,rfl⟩))
   ·exact fin _ H4 0 _ (Same.refl _) h (.inr (.inr ⟨z,z2,rfl,rfl⟩))
end
end Sf
set_option maxHeartbeats 4000000
namespace Sf
open PySem L2 Pl
seal PS PSs PE PA PSsx PSx PEx
structure St6 (B:BP) (Fx:Addr→HO→Prop) (lL lt:Addr) (bb:Nat→Addr) (ns:Nat→List Int) (nn:Nat→Nat) (ll:Nat→Addr) (own:Nat→Addr→Prop) (L:Nat→Nat→Prop) (ms:Nat→List Nat) (H:Hp) (TS:Addr→Prop) (ts:List Addr):Prop where
 fix:∀ z o,Fx z o→H z=some o∧z≠lL∧z≠lt
 lst:H lL=some (.lst [.ref (ll 0),.ref (ll 1)])
 neq:lL≠lt
 told:Told H lt TS ts
 tsL:¬ TS lL
 bench:∀ k,k<2→B H (bb k) (ns k) (L k) (own k)
 rise:∀ k,k<2→Rise (L k) (ms k)
 bnd:∀ k,k<2→∀ c∈ms k,c+1<nn k
 at_:∀ k,k<2→H (ll k)=some (.lst (cv (ms k)))
 nL:∀ k,k<2→ll k≠lL∧ll k≠lt
 no:∀ k,k<2→∀ z,own k z→(∀ o,¬ Fx z o)∧z≠lL∧z≠lt∧¬ TS z∧∀ j,j<2→z≠ll j
 two:∀ k j,k<2→j<2→k≠j→∀ z,own k z→¬ own j z
section
variable {C:Addr} {B:BP} {Fx Fx':Addr→HO→Prop} {lL lt:Addr} {bb:Nat→Addr} {ns:Nat→List Int} {nn:Nat→Nat} {ll:Nat→Addr} {own:Nat→Addr→Prop} {L:Nat→Nat→Prop} {ms:Nat→List Nat} {H H':Hp} {TS TS':Addr→Prop} {ts ts':List Addr}
theorem St6.sub (x:St6 B Fx lL lt bb ns nn ll own L ms H TS ts) (h:∀ z o,Fx' z o→Fx z o):St6 B Fx' lL lt bb ns nn ll own L ms H TS ts :=
 { x with fix:=fun z o q=>x.fix z o (h z o q),no:=fun k hk z q=>⟨fun o y=>(x.no k hk z q).1 o (h z o y),(x.no k hk z q).2⟩ }
theorem St6.held (O:BenchOk C B) (x:St6 B Fx lL lt bb ns nn ll own L ms H TS ts) {k:Nat} (hk:k<2) {z:Addr} (q:own k z) (e:H z=none):False:=O.held (x.bench k hk) q e
theorem St6.look (O:BenchOk C B) (x:St6 B Fx lL lt bb ns nn ll own L ms H TS ts) (k:∀ y o,H y=some o→y≠lt→H' y=some o) (t1:∀ y,TS' y→TS y∨H y=none) (t2:Told H' lt TS' ts'):St6 B Fx lL lt bb ns nn ll own L ms H' TS' ts' where
 fix z o q:=⟨k z o (x.fix z o q).1 (x.fix z o q).2.2,(x.fix z o q).2⟩
 lst:=k _ _ x.lst x.neq
 neq:=x.neq
 told:=t2
 tsL q:=by
  rcases t1 _ q with z | z
  ·exact x.tsL z
  ·rw [x.lst] at z; cases z
 bench j hj:=O.keep (x.bench j hj) fun z q=>by
  cases e:H z with
  | none=>exact (x.held O hj q e).elim
  | some o=>exact k z o e (x.no j hj z q).2.2.1
 rise:=x.rise
 bnd:=x.bnd
 at_ j hj:=k _ _ (x.at_ j hj) (x.nL j hj).2
 nL:=x.nL
 no j hj z q:=by
  obtain ⟨n1,n2,n3,n4,n5⟩:=x.no j hj z q
  refine ⟨n1,n2,n3,fun y=>?_,n5⟩
  rcases t1 _ y with y | y
  ·exact n4 y
  ·exact x.held O hj q y
 two:=x.two
theorem St6.same (O:BenchOk C B) (x:St6 B Fx lL lt bb ns nn ll own L ms H TS ts) (s:Same H H'):St6 B Fx lL lt bb ns nn ll own L ms H' TS ts :=
 x.look O (fun y o e _=>s y o e) (fun _ h=>.inl h) (x.told.keep (fun z o _ e=>s z o e) (s _ _ x.told.lst))
theorem St6.add (O:BenchOk C B) (x:St6 B Fx lL lt bb ns nn ll own L ms H TS ts) (s:Same H H') {z0:Addr} {o0:HO} (h0:H z0=none) (h1:H' z0=some o0):St6 B (fun z o=>Fx z o∨(z=z0∧o=o0)) lL lt bb ns nn ll own L ms H' TS ts:=by
 have y:=x.same O s
 refine { y with fix:=fun z o q=>?_,no:=fun k hk z q=>?_ }
 ·rcases q with q | ⟨rfl,rfl⟩
  ·exact y.fix z o q
  ·exact ⟨h1,(fun e=>by rw [e,x.lst] at h0; cases h0),fun e=>by rw [e,x.told.lst] at h0; cases h0⟩
 ·refine ⟨fun o q2=>?_,(y.no k hk z q).2⟩
  rcases q2 with q2 | ⟨rfl,_⟩
  ·exact (y.no k hk z q).1 o q2
  ·exact x.held O hk q h0
def put {α:Type _} (f:Nat→α) (k:Nat) (a:α):Nat→α:=fun j=>if j=k then a else f j
theorem put_same {α:Type _} {f:Nat→α} {k:Nat} {a:α}:put f k a k=a:=if_pos rfl
theorem put_ne {α:Type _} {f:Nat→α} {k j:Nat} {a:α} (h:j≠k):put f k a j=f j:=if_neg h
theorem St6.deed (O:BenchOk C B) (x:St6 B Fx lL lt bb ns nn ll own L ms H TS ts) {k:Nat} (hk:k<2) {l:Addr} {ms':List Nat} {L':Nat→Prop} {own':Addr→Prop} (m:Moves (own k) own' H H') (hB:B H' (bb k) (ns k) L' own') (R:Rise L' ms') (hb:∀ c∈ms',c+1<nn k) (hl:H' l=some (.lst (cv ms'))) (hw:l=ll k∨own k l∨H l=none) (nl:¬ own' l) :
  St6 B Fx lL lt bb ns nn (put ll k l) (put own k own') (put L k L') (put ms k ms') (upd H' lL (.lst [.ref (put ll k l 0),.ref (put ll k l 1)])) TS ts:=by
 have up:∀ {z:Addr} {o:HO},H z=some o→¬ own k z→z≠lL→upd H' lL (.lst [.ref (put ll k l 0),.ref (put ll k l 1)]) z=some o:=fun {z o} e n1 n2=>by rw [upd_ne n2]; exact m.stay z o e n1
 have lLo:¬ own k lL:=fun q=>(x.no k hk _ q).2.1 rfl
 have lto:¬ own k lt:=fun q=>(x.no k hk _ q).2.2.1 rfl
 have grew:∀ {z:Addr} {o:HO},own' z→H z=some o→¬ own k z→False:=fun {z o} q e n=>m.not e n q
 have llo:∀ j,j<2→¬ own k (ll j):=fun j hj q=>(x.no k hk _ q).2.2.2.2 j hj rfl
 have lnL:l≠lL:=fun e=>by
  rcases hw with z | z | z
  ·exact (x.nL k hk).1 (z ▸ e)
  ·exact lLo (e ▸ z)
  ·rw [e,x.lst] at z; cases z
 have lnt:l≠lt:=fun e=>by
  rcases hw with z | z | z
  ·exact (x.nL k hk).2 (z ▸ e)
  ·exact lto (e ▸ z)
  ·rw [e,x.told.lst] at z; cases z
 refine ⟨fun z o q=>?_,upd_same,x.neq,x.told.keep (fun z o t e=>?_) (up x.told.lst lto (Ne.symm x.neq)),x.tsL,fun j hj=>?_,fun j hj=>?_,fun j hj=>?_,fun j hj=>?_,fun j hj=>?_,fun j hj z q=>?_,fun i j hi hj nij z q q2=>?_⟩
 ·obtain ⟨f1,f2,f3⟩:=x.fix z o q
  exact ⟨up f1 (fun y=>(x.no k hk z y).1 o q) f2,f2,f3⟩
 ·exact up e (fun y=>(x.no k hk z y).2.2.2.1 t) fun q=>x.tsL (q ▸ t)
 ·by_cases e:j=k
  ·subst e
   rw [put_same,put_same]
   exact O.keep hB fun z q=>upd_ne fun q2=>grew (q2 ▸ q) x.lst lLo
  ·rw [put_ne e,put_ne e]
   refine O.keep (x.bench j hj) fun z q=>?_
   cases eh:H z with
   | none=>exact (x.held O hj q eh).elim
   | some o=>exact up eh (x.two j k hj hk e z q) (x.no j hj z q).2.1
 ·by_cases e:j=k
  ·subst e
   rw [put_same,put_same]
   exact R
  ·rw [put_ne e,put_ne e]
   exact x.rise j hj
 ·by_cases e:j=k
  ·subst e
   rw [put_same]
   exact hb
  ·rw [put_ne e]
   exact x.bnd j hj
 ·by_cases e:j=k
  ·subst e
   rw [put_same,put_same,upd_ne lnL]
   exact hl
  ·rw [put_ne e,put_ne e]
   exact up (x.at_ j hj) (llo j hj) (x.nL j hj).1
 ·by_cases e:j=k
  ·subst e
   rw [put_same]
   exact ⟨lnL,lnt⟩
  ·rw [put_ne e]
   exact x.nL j hj
 ·by_cases e:j=k
  ·subst e
   rw [put_same] at q
   refine ⟨fun o y=>grew q (x.fix z o y).1 fun y2=>(x.no j hj z y2).1 o y,fun y=>grew (y ▸ q) x.lst lLo,fun y=>grew (y ▸ q) x.told.lst lto,fun y=>?_,fun i hi y=>?_⟩
   ·cases eh:H z with
    | none=>exact x.told.dom z y eh
    | some o=>exact grew q eh fun y2=>(x.no j hj z y2).2.2.2.1 y
   ·by_cases e:i=j
    ·subst e
     rw [put_same] at y
     exact nl (y ▸ q)
    ·rw [put_ne e] at y
     exact grew (y ▸ q) (x.at_ i hi) (llo i hi)
  ·rw [put_ne e] at q
   obtain ⟨n1,n2,n3,n4,n5⟩:=x.no j hj z q
   refine ⟨n1,n2,n3,n4,fun i hi y=>?_⟩
   by_cases e2:i=k
   ·subst e2
    rw [put_same] at y
    rcases hw with w | w | w
    ·exact n5 i hi (y.trans w)
    ·exact x.two j i hj hk e z q (y ▸ w)
    ·exact x.held O hj q (y ▸ w)
   ·rw [put_ne e2] at y
    exact n5 i hi y
 ·by_cases e:i=k
  ·subst e
   rw [put_same] at q
   rw [put_ne (Ne.symm nij)] at q2
   cases eh:H z with
   | none=>exact x.held O hj q2 eh
   | some o=>exact grew q eh fun y=>x.two i j hi hj nij z y q2
  ·rw [put_ne e] at q
   by_cases e2:j=k
   ·subst e2
    rw [put_same] at q2
    cases eh:H z with
    | none=>exact x.held O hi q eh
    | some o=>exact grew q2 eh fun y=>x.two i j hi hj nij z q y
   ·rw [put_ne e2] at q2
    exact x.two i j hi hj nij z q q2
end
end Sf
set_option maxHeartbeats 4000000
namespace Sf
open PySem L2 Pl
seal PS PSs PE PA PSsx PSx PEx
structure Fix6 (Fx:Addr→HO→Prop) (lB lA lb:Addr) (bb aa pp:Nat→Addr) (ns:Nat→List Int) (nn:Nat→Nat):Prop where
 B:Fx lB (.lst [.ref (bb 0),.ref (bb 1)])
 A:Fx lA (.lst [.ref (aa 0),.ref (aa 1)])
 b:Fx lb (.lst [.ref (pp 0),.ref (pp 1)])
 p:∀ k,k<2→Fx (pp k) (.lst ((ns k).map V.int))
 a:∀ k,k<2→Fx (aa k) (.lst ((plc (ns k)).map V.int))
 pm:∀ k,k<2→(ns k).Perm (iota (nn k))∧1≤nn k∧nn k≤60∧NoX (plc (ns k))
theorem Fix6.mono {Fx Fx':Addr→HO→Prop} {lB lA lb:Addr} {bb aa pp:Nat→Addr} {ns:Nat→List Int} {nn:Nat→Nat} (x:Fix6 Fx lB lA lb bb aa pp ns nn) (h:∀ z o,Fx z o→Fx' z o):Fix6 Fx' lB lA lb bb aa pp ns nn :=
 ⟨h _ _ x.B,h _ _ x.A,h _ _ x.b,fun k hk=>h _ _ (x.p k hk),fun k hk=>h _ _ (x.a k hk),x.pm⟩
theorem at2 (f:Nat→Addr) {j:Nat} (hj:j<2):atI [V.ref (f 0),V.ref (f 1)] (j:Int)=some (.ref (f j)):=by
 match j,hj with
 | 0,_=>rfl
 | 1,_=>rfl
theorem set2 (f:Nat→Addr) {k:Nat} (hk:k<2) (l:Addr):[V.ref (f 0),V.ref (f 1)].set k (V.ref l)=[.ref (put f k l 0),.ref (put f k l 1)]:=by
 match k,hk with
 | 0,_=>rfl
 | 1,_=>rfl
section
variable {K:PySem.W.Frag} {C:Addr} {B:BP} {Fx:Addr→HO→Prop} {lL lt lB lA lb:Addr} {bb aa pp:Nat→Addr} {ns:Nat→List Int} {nn:Nat→Nat} {ll:Nat→Addr} {own:Nat→Addr→Prop} {L:Nat→Nat→Prop} {ms:Nat→List Nat} {H:Hp} {TS:Addr→Prop} {ts:List Addr} {Q:VK}
theorem St6.len (x:St6 B Fx lL lt bb ns nn ll own L ms H TS ts) (F:Fix6 Fx lB lA lb bb aa pp ns nn) {j:Nat} (hj:j<2):(ms j).length≤60:=by
 have ndm:(ms j).Nodup:=(x.rise j hj).inc.imp fun h=>Nat.ne_of_lt h
 have:=nodup_le (nn j) _ ndm fun c hc=>by have:=x.bnd j hj c hc; lia
 have:=(F.pm j hj).2.2.1
 lia
theorem look_of (O:BenchOk C B) (x:St6 B Fx lL lt bb ns nn ll own L ms H TS ts) (F:Fix6 Fx lB lA lb bb aa pp ns nn) {j m:Nat} {v:Int} {E} (hj:j<2) (hv:v=(m:Int)) (tsl:ts.length≤10000)
  (k:∀ H' TS' ts',St6 B Fx lL lt bb ns nn ll own L ms H' TS' ts'→ts'.length≤ts.length+2→Q (.bl true) H'):spLook K B [.ref (bb j),.ref (pp j),.ref (ll j),.int v,.ref lt] H Q E:=by
 subst hv
 obtain ⟨pm,n1,n2,nx⟩:=F.pm j hj
 exact ⟨bb j,pp j,ll j,lt,m,ns j,nn j,L j,own j,ms j,TS,ts,rfl,x.bench j hj,x.rise j hj,SqL.of (x.fix _ _ (F.p j hj)).1,x.at_ j hj,pm,n1,n2,x.len F hj,x.told,tsl,fun H' TS' ts' k1 t1 t2 tl=>k H' TS' ts' (x.look O k1 t1 t2) tl⟩
theorem behind_of (O:BenchOk C B) (x:St6 B Fx lL lt bb ns nn ll own L ms H TS ts) (F:Fix6 Fx lB lA lb bb aa pp ns nn) {j m:Nat} {v:Int} {E} (hj:j<2) (hv:v=(m:Int)) (hm:m<2147483648)
  (k:∀ (l:Addr) (ms':List Nat) (L':Nat→Prop) (own':Addr→Prop) H',H' lL=some (.lst [.ref (ll 0),.ref (ll 1)])→St6 B Fx lL lt bb ns nn (put ll j l) (put own j own') (put L j L') (put ms j ms') (upd H' lL (.lst [.ref (put ll j l 0),.ref (put ll j l 1)])) TS ts→Q (.ref l) H'):spBehind K B [.ref (bb j),.ref (aa j),.ref (ll j),.int v] H Q E:=by
 subst hv
 obtain ⟨pm,n1,n2,nx⟩:=F.pm j hj
 refine ⟨bb j,aa j,ll j,m,ns j,nn j,L j,own j,ms j,rfl,x.bench j hj,x.rise j hj,SqL.of (x.fix _ _ (F.a j hj)).1,fun z q e=>(x.no j hj z q).1 _ (e ▸ F.a j hj),x.at_ j hj,fun q=>(x.no j hj _ q).2.2.2.2 j hj rfl,pm,n1,n2,nx,x.bnd j hj,hm,fun l ms' L' own' H' mv hB R hb hl hw nl=>?_⟩
 exact k l ms' L' own' H' (mv.stay _ _ x.lst fun q=>(x.no j hj _ q).2.1 rfl) (x.deed O hj mv hB R hb hl hw nl)
end
def spLaw (K:PySem.W.Frag):Sp:=fun vs H Q _=>∃ (a:Addr) (ns:List Int),vs=[.ref a]∧SqL K H a (ns.map V.int)∧ns.length≤63∧∀ H',Q (.bl true) H'
abbrev nmLaw:List Str:=["_law_script","_law_sizes","_law_both","_law_ats","_law_handed","_law_benches","_law_loose","_law_told","_law_cell","_law_k","_law_number_here","_law_behind_here","_law_order","_law_j","_law_one","_law_kept"]
theorem scLaw:FnScope nmLaw ["_law_script"] (defScope sLaw):=⟨rfl,rfl,rfl,by decide +kernel,rfl,by decide +kernel,by decide +kernel⟩
section
variable {P:Program} {w:World} {K:PySem.W.Frag} {mg:Str→Option Value} {base:Heap} {C:Addr} {B:BP}
theorem law_end {f fL:Addr} {fdL:FuncData} {cdv:Value} {A:Around} {outer} {s:Shared} {H:Hp} {Q:VK} {E:XK} (O:BenchOk C B) (hr:Room 29 (cxOf CX0 P w K mg base nmLaw "law" (defScope sLaw) f cdv A outer s H E).nox.A) (T:Own mg) (DL:Def K mg "_law_look" s_law_look ["_law_bench","_law_pile","_law_loose","_law_number_here","_law_told"] fL fdL)
  (GL:FnOk P w K mg base CX0 21 fL fdL ["_law_bench","_law_pile","_law_loose","_law_number_here","_law_told"] (spLook K B)) (k:∀ H',Q (.bl true) H'):∃ t,PSs ((cxOf CX0 P w K mg base nmLaw "law" (defScope sLaw) f cdv A outer s H E).nox) ((defBody sLaw).drop 11) t ∧
   ∀ {Fx:Addr→HO→Prop} {lL lt lB lA lb:Addr} {bb aa pp:Nat→Addr} {ns:Nat→List Int} {nn:Nat→Nat} {ll:Nat→Addr} {own:Nat→Addr→Prop} {L:Nat→Nat→Prop} {ms:Nat→List Nat} {H:Hp} {TS:Addr→Prop} {ts:List Addr} {a sz lh:Addr} {v8 v9 v10 v11 v12 v13 v14 v15:Option V},Fix6 Fx lB lA lb bb aa pp ns nn→St6 B Fx lL lt bb ns nn ll own L ms H TS ts→ts.length≤9000 →
    t { nx:=fun _ H'=>Q .non H',rt:=Q } [some (.ref a),some (.ref sz),some (.ref lb),some (.ref lA),some (.ref lh),some (.ref lB),some (.ref lL),some (.ref lt),v8,v9,v10,v11,v12,v13,v14,v15] H:=by
 have hr21:=hr.mono (show 21≤29 by decide)
 refine ⟨_,pss_cons (ps_for PassesOwn.never rfl (pi_range1 rfl T.range (pa_cons pe_int pa_nil)) (pg_name (i:=13) scLaw.nd rfl (Or.inl rfl))
   (pss_one (ps_if (pt_not (pt_val (pe_call GL hr21 (by rfl) DL.at_ DL.fn.kp DL.bd .nil pass0 (pa_cons (pe_ix ix_list (pv 5) (pv 13) (fun _ _=>rfl)) (pa_cons (pe_ix ix_list (pv 2) (pv 13) (fun _ _=>rfl)) (pa_cons (pe_ix ix_list (pv 6) (pv 13) (fun _ _=>rfl)) (pa_cons pe_int (pa_cons (pv 7) pa_nil)))))))) (pss_one (ps_ret pe_bl)) pss_nil)))
  (pss_cons (ps_for PassesOwn.never rfl (pi_list (pv 7)) (pg_tup rfl (pgs_cons (pg_name (i:=14) scLaw.nd rfl (Or.inl rfl)) (pgs_cons (pg_name (i:=15) scLaw.nd rfl (Or.inl rfl)) pgs_nil)))
   (pss_one (ps_if (pt_cmpR ((op_ne_lst hr.units0).or (op_neLL hr.units0 (in1_units hr))) (pv 14) (pv 15) (nomark _)) (pss_one (ps_ret pe_bl)) pss_nil)))
  (pss_one (ps_ret pe_bl))),?_⟩
 intro Fx lL lt lB lA lb bb aa pp ns nn ll own L ms H TS ts a sz lh v8 v9 v10 v11 v12 v13 v14 v15 F x tsl
 refine ⟨_,rfl,by decide,by decide,?_⟩
 refine for_range (lo:=0) (n:=2) (fun i σ H2=>∃ (v:Option V) (TS:Addr→Prop) (ts:List Addr),σ=[some (.ref a),some (.ref sz),some (.ref lb),some (.ref lA),some (.ref lh),some (.ref lB),some (.ref lL),some (.ref lt),v8,v9,v10,v11,v12,v,v14,v15]∧St6 B Fx lL lt bb ns nn ll own L ms H2 TS ts∧ts.length≤9000+2 * i) ⟨v13,TS,ts,rfl,x,by lia⟩ ?_ ?_
 ·rintro i σ H2 hi ⟨v,TS,ts,rfl,x,tsl⟩
  rw [show (0:Int)+(i:Nat)=(i:Int) by lia]
  refine ⟨_,rfl,_,rfl,lB,_,_,_,rfl,rfl,SqL.of (x.fix _ _ F.B).1,at2 bb hi,_,rfl,_,rfl,lb,_,_,_,rfl,rfl,SqL.of (x.fix _ _ F.b).1,at2 pp hi,_,rfl,_,rfl,lL,_,_,_,rfl,rfl,SqL.of x.lst,at2 ll hi,_,rfl,?_⟩
  dsimp only [tNil]
  refine look_of (m:=0) O x F hi rfl (by lia) fun H3 TS3 ts3 x3 l3=>?_
  exact ⟨true,rfl,iteF ⟨_,TS3,ts3,rfl,x3,by lia⟩⟩
 ·rintro σ H2 ⟨v,TS,ts,rfl,x,tsl⟩
  refine ⟨_,rfl,lt,rfl,⟨_,SqL.of x.told.lst⟩,for_list (K:=K) (a:=lt) (xs:=ts.map V.ref) (fun i σ H3=>H3=H2∧∃ (u1 u2:Option V),σ=[some (.ref a),some (.ref sz),some (.ref lb),some (.ref lA),some (.ref lh),some (.ref lB),some (.ref lL),some (.ref lt),v8,v9,v10,v11,v12,v,u1,u2]) ⟨rfl,v14,v15,rfl⟩ (fun i σ H3 _ ⟨e,_⟩=>by rw [e]; exact SqL.of x.told.lst) ?_ ?_⟩
  ·rintro i y σ H3 hi ⟨rfl,u1,u2,rfl⟩
   rw [List.getElem?_map] at hi
   cases e:ts[i]? with
   | none=>rw [e] at hi; cases hi
   | some t =>
    rw [e] at hi
    obtain rfl:V.ref t=y:=Option.some.inj hi
    obtain ⟨_,p,q,ht,_,_,tw⟩:=x.told.at_ t (List.mem_of_getElem? e)
    refine ⟨t,_,rfl,SqT.of ht,rfl,_,_,rfl,_,_,rfl,rfl,_,rfl,_,rfl,?_⟩
    rcases tw with ⟨zs,h1,h2⟩ | ⟨as,bs,pss,h1,h2,_⟩
    ·refine .inl ⟨p,q,_,_,rfl,rfl,SqL.of h1,SqL.of h2,flat_ints _,flat_ints _,_,rfl,?_⟩
     refine ite2 (fun z=>?_) (fun _=>⟨rfl,_,_,rfl⟩)
     exfalso
     rw [if_pos rfl,eqVs_ints,decide_eq_true rfl] at z
     cases z
    ·exact .inr ⟨p,q,as,bs,pss,rfl,rfl,h1,h2,_,rfl,iteF ⟨rfl,_,_,rfl⟩⟩
  ·rintro σ H3 ⟨rfl,_⟩
   exact k H3
end
end Sf
set_option maxHeartbeats 4000000
namespace Sf
open PySem L2 Pl
seal PS PSs PE PA PSsx PSx PEx
theorem ix2 {v:Int} {k:Nat} (hv:v=(k:Int)) (hk:k<2):ixN 2 v=some k:=by
 subst hv
 match k,hk with
 | 0,_=>rfl
 | 1,_=>rfl
theorem at2v (f:Nat→Addr) {v:Int} {j:Nat} (hv:v=(j:Int)) (hj:j<2):atI [V.ref (f 0),V.ref (f 1)] v=some (.ref (f j)):=hv ▸ at2 f hj
theorem cut_ints (xs:List Int) (lo hi:Option Int):∃ cs:List Int,cutV (xs.map V.int) lo hi=cs.map V.int∧cs.length≤xs.length:=by
 unfold cutV
 refine ⟨_,by rw [← List.map_drop,← List.map_take],?_⟩
 rw [List.length_take,List.length_drop]
 lia
abbrev loopAt:Stmt:=(defBody sLaw).getD 10 (.Pass ⟨0,0,0,0⟩)
section
variable {P:Program} {w:World} {K:PySem.W.Frag} {mg:Str→Option Value} {base:Heap} {C:Addr} {B:BP}
theorem law_in {f fL:Addr} {fdL:FuncData} {cdv:Value} {A:Around} {outer} {s:Shared} {H:Hp} {E:XK} (O:BenchOk C B) (hr:Room 29 (cxOf CX0 P w K mg base nmLaw "law" (defScope sLaw) f cdv A outer s H E).nox.A) (DL:Def K mg "_law_look" s_law_look ["_law_bench","_law_pile","_law_loose","_law_number_here","_law_told"] fL fdL)
  (GL:FnOk P w K mg base CX0 21 fL fdL ["_law_bench","_law_pile","_law_loose","_law_number_here","_law_told"] (spLook K B)):∃ t,PSs ((cxOf CX0 P w K mg base nmLaw "law" (defScope sLaw) f cdv A outer s H E).nox) ((forBody loopAt).drop 7) t ∧
   ∀ {D:Ends} {Fx:Addr→HO→Prop} {lL lt lB lA lb:Addr} {bb aa pp:Nat→Addr} {ns:Nat→List Int} {nn:Nat→Nat} {ll:Nat→Addr} {own:Nat→Addr→Prop} {L:Nat→Nat→Prop} {ms:Nat→List Nat} {H:Hp} {TS:Addr→Prop} {ts:List Addr} {a sz lh lo:Addr} {xs:List V} {m:Nat} {v:Int} {v8 v9 v11 v13 v14 v15:Option V},v=(m:Int)→Fix6 Fx lB lA lb bb aa pp ns nn→St6 B Fx lL lt bb ns nn ll own L ms H TS ts→Fx lo (.lst xs)→xs.length≤2→(∀ x∈xs,∃ j:Nat,j<2∧x=.int (j:Int))→ts.length≤1000 →
    (∀ (H':Hp) (TS':Addr→Prop) (ts':List Addr) (u:Option V),St6 B Fx lL lt bb ns nn ll own L ms H' TS' ts'→ts'.length≤ts.length+4→D.nx [some (.ref a),some (.ref sz),some (.ref lb),some (.ref lA),some (.ref lh),some (.ref lB),some (.ref lL),some (.ref lt),v8,v9,some (.int v),v11,some (.ref lo),u,v14,v15] H') →
    t D [some (.ref a),some (.ref sz),some (.ref lb),some (.ref lA),some (.ref lh),some (.ref lB),some (.ref lL),some (.ref lt),v8,v9,some (.int v),v11,some (.ref lo),v13,v14,v15] H:=by
 have hr21:=hr.mono (show 21≤29 by decide)
 refine ⟨_,pss_one (ps_for PassesOwn.never rfl (pi_list (pv 12)) (pg_name (i:=13) scLaw.nd rfl (Or.inl rfl))
   (pss_one (ps_if (pt_not (pt_val (pe_call GL hr21 (by rfl) DL.at_ DL.fn.kp DL.bd .nil pass0 (pa_cons (pe_ix ix_list (pv 5) (pv 13) (fun _ _=>rfl)) (pa_cons (pe_ix ix_list (pv 2) (pv 13) (fun _ _=>rfl)) (pa_cons (pe_ix ix_list (pv 6) (pv 13) (fun _ _=>rfl)) (pa_cons (pe_op op_fdiv (pv 10) pe_int) (pa_cons (pv 7) pa_nil)))))))) (pss_one (ps_ret pe_bl)) pss_nil))),?_⟩
 intro D Fx lL lt lB lA lb bb aa pp ns nn ll own L ms H TS ts a sz lh lo xs m v v8 v9 v11 v13 v14 v15 hv F x hlo xl hx tsl kk
 refine ⟨_,rfl,lo,rfl,⟨_,SqL.of (x.fix _ _ hlo).1⟩,for_list (K:=K) (a:=lo) (xs:=xs) (fun i σ H3=>∃ (u:Option V) (TS':Addr→Prop) (ts':List Addr),σ=[some (.ref a),some (.ref sz),some (.ref lb),some (.ref lA),some (.ref lh),some (.ref lB),some (.ref lL),some (.ref lt),v8,v9,some (.int v),v11,some (.ref lo),u,v14,v15]∧St6 B Fx lL lt bb ns nn ll own L ms H3 TS' ts'∧ts'.length≤ts.length+2 * i) ⟨v13,TS,ts,rfl,x,by lia⟩ (fun i σ H3 _ ⟨_,_,_,_,y,_⟩=>SqL.of (y.fix _ _ hlo).1) ?_ ?_⟩
 ·rintro i y σ H3 hi ⟨u,TS',ts',rfl,x3,tl⟩
  obtain ⟨j,hj,rfl⟩:=hx y (List.mem_of_getElem? hi)
  have il:i<2:=by have:=(List.getElem?_eq_some_iff.mp hi).1; lia
  refine ⟨_,rfl,_,rfl,lB,_,_,_,rfl,rfl,SqL.of (x3.fix _ _ F.B).1,at2 bb hj,_,rfl,_,rfl,lb,_,_,_,rfl,rfl,SqL.of (x3.fix _ _ F.b).1,at2 pp hj,_,rfl,_,rfl,lL,_,_,_,rfl,rfl,SqL.of x3.lst,at2 ll hj,_,rfl,_,_,rfl,rfl,⟨by decide,by decide⟩,_,rfl,?_⟩
  dsimp only [tNil]
  refine look_of (m:=m / 20) O x3 F hj (by rw [hv]; rfl) (by lia) fun H4 TS4 ts4 x4 l4=>?_
  exact ⟨true,rfl,iteF ⟨_,TS4,ts4,rfl,x4,by lia⟩⟩
 ·rintro σ H3 ⟨u,TS',ts',rfl,x3,tl⟩
  exact kk H3 TS' ts' u x3 (by lia)
theorem law_loop {f fL fB:Addr} {fdL fdB:FuncData} {cdv:Value} {A:Around} {outer} {s:Shared} {H:Hp} {Q:VK} {E:XK} (O:BenchOk C B) (hr:Room 29 (cxOf CX0 P w K mg base nmLaw "law" (defScope sLaw) f cdv A outer s H E).nox.A) (T:Own mg) (DL:Def K mg "_law_look" s_law_look ["_law_bench","_law_pile","_law_loose","_law_number_here","_law_told"] fL fdL)
  (GL:FnOk P w K mg base CX0 21 fL fdL ["_law_bench","_law_pile","_law_loose","_law_number_here","_law_told"] (spLook K B)) (DB:Def K mg "_law_behind" s_law_behind ["_law_bench","_law_at","_law_loose","_law_number_here"] fB fdB) (GB:FnOk P w K mg base CX0 28 fB fdB ["_law_bench","_law_at","_law_loose","_law_number_here"] (spBehind K B))
  (k:∀ H',Q (.bl true) H'):∃ t,PSs ((cxOf CX0 P w K mg base nmLaw "law" (defScope sLaw) f cdv A outer s H E).nox) ((defBody sLaw).drop 10) t ∧
   ∀ {Fx:Addr→HO→Prop} {lL lt lB lA lb:Addr} {bb aa pp:Nat→Addr} {ns:Nat→List Int} {nn:Nat→Nat} {ll:Nat→Addr} {own:Nat→Addr→Prop} {L:Nat→Nat→Prop} {ms:Nat→List Nat} {H:Hp} {TS:Addr→Prop} {a sz lh:Addr} {ss:List Int},Fix6 Fx lB lA lb bb aa pp ns nn→St6 B Fx lL lt bb ns nn ll own L ms H TS []→SqL K H a (ss.map V.int)→ss.length≤63 →
    t { nx:=fun _ H'=>Q .non H',rt:=Q } [some (.ref a),some (.ref sz),some (.ref lb),some (.ref lA),some (.ref lh),some (.ref lB),some (.ref lL),some (.ref lt),none,none,none,none,none,none,none,none] H:=by
 have hr28:=hr.mono (show 28≤29 by decide)
 obtain ⟨tE,hE,rE⟩:=law_end (f:=f) (cdv:=cdv) (A:=A) (outer:=outer) (s:=s) (H:=H) (Q:=Q) (E:=E) O hr T DL GL k
 obtain ⟨tI,hI,rI⟩:=law_in (f:=f) (cdv:=cdv) (A:=A) (outer:=outer) (s:=s) (H:=H) (E:=E) O hr DL GL
 refine ⟨_,pss_cons (ps_for PassesOwn.never rfl (pi_list (pe_slice sl_list (pv 0) (po_some pe_int) (po_some pe_int))) (pg_name (i:=8) scLaw.nd rfl (Or.inl rfl))
   (pss_cons (ps_set (i:=9) scLaw.nd rfl (Or.inl rfl) (pe_op op_mod (pv 8) pe_int))
   (pss_cons (ps_set (i:=10) scLaw.nd rfl (Or.inl rfl) (pe_op op_mod (pe_op op_mul (pe_op op_fdiv (pv 8) pe_int) pe_int) pe_int))
   (pss_cons (ps_set (i:=11) scLaw.nd rfl (Or.inl rfl) (pe_call GB hr28 rfl DB.at_ DB.fn.kp DB.bd .nil pass0 (pa_cons (pe_ix ix_list (pv 5) (pv 9) (fun _ _=>rfl)) (pa_cons (pe_ix ix_list (pv 3) (pv 9) (fun _ _=>rfl)) (pa_cons (pe_ix ix_list (pv 6) (pv 9) (fun _ _=>rfl)) (pa_cons (pv 10) pa_nil))))))
   (pss_cons (ps_if (pt_cmpR op_isN (pv 11) pe_non (nomark _)) (pss_one (ps_ret pe_bl)) pss_nil)
   (pss_cons (ps_asg (pv 11) (pg_sub (pv 6) (pv 9) set_list))
   (pss_cons (ps_set (i:=12) scLaw.nd rfl (Or.inl rfl) (pe_lst (pa_cons (pv 9) pa_nil)))
   (pss_cons (ps_if (pt_cmpR op_eq (pe_op op_mod (pe_op op_fdiv (pv 10) pe_int) pe_int) pe_int (nomark _)) (pss_one (ps_set (i:=12) scLaw.nd rfl (Or.inl rfl) (pe_lst (pa_cons (pe_op op_sub pe_int (pv 9)) (pa_cons (pv 9) pa_nil))))) pss_nil)
   hI)))))))) hE,?_⟩
 intro Fx lL lt lB lA lb bb aa pp ns nn ll own L ms H TS a sz lh ss F x hS hlen
 obtain ⟨cs,ecs,csl⟩:=cut_ints ss (some 2) (some 62)
 refine ⟨_,rfl,_,rfl,_,rfl,a,_,rfl,hS,fun lc hlc=>?_⟩
 rw [ecs]
 obtain ⟨Fy,x1,F1,hcs⟩:∃ Fy:Addr→HO→Prop,St6 B Fy lL lt bb ns nn ll own L ms (upd H lc (.lst (cs.map V.int))) TS []∧Fix6 Fy lB lA lb bb aa pp ns nn∧Fy lc (.lst (cs.map V.int)) :=
  ⟨_,x.add O (same_new (o:=.lst (cs.map V.int)) hlc) hlc upd_same,F.mono fun z o h=>.inl h,.inr ⟨rfl,rfl⟩⟩
 generalize upd H lc (.lst (cs.map V.int))=H1 at x1
 refine ⟨lc,rfl,⟨_,SqL.of (x1.fix _ _ hcs).1⟩,for_list (K:=K) (a:=lc) (xs:=cs.map V.int) (fun i σ H3=>∃ (v8 v9 v10 v11 v12 v13:Option V) (ll:Nat→Addr) (own:Nat→Addr→Prop) (L:Nat→Nat→Prop) (ms:Nat→List Nat) (TS:Addr→Prop) (ts:List Addr),σ=[some (.ref a),some (.ref sz),some (.ref lb),some (.ref lA),some (.ref lh),some (.ref lB),some (.ref lL),some (.ref lt),v8,v9,v10,v11,v12,v13,none,none]∧St6 B Fy lL lt bb ns nn ll own L ms H3 TS ts∧ts.length≤4 * i)
  ⟨none,none,none,none,none,none,ll,own,L,ms,TS,[],rfl,x1,by simp⟩ (fun i σ H3 _ ⟨_,_,_,_,_,_,_,_,_,_,_,_,_,y,_⟩=>SqL.of (y.fix _ _ hcs).1) ?_ ?_⟩
 ·rintro i y σ H3 hi ⟨v8,v9,v10,v11,v12,v13,ll,own,L,ms,TS,ts,rfl,x3,tl⟩
  have il:i<63:=by have:=(List.getElem?_eq_some_iff.mp hi).1; rw [List.length_map] at this; lia
  rw [List.getElem?_map] at hi
  cases e:cs[i]? with
  | none=>rw [e] at hi; cases hi
  | some c =>
   rw [e] at hi
   obtain rfl:V.int c=y:=Option.some.inj hi
   obtain ⟨q,hq,q2⟩:∃ q:Nat,c % 2=(q:Int)∧q<2:=⟨(c % 2).toNat,by lia,by lia⟩
   obtain ⟨m,hm,m2⟩:∃ m:Nat,c / 2 * 69621 % 2147483629=(m:Int)∧m<2147483648:=⟨(c / 2 * 69621 % 2147483629).toNat,by lia,by lia⟩
   refine ⟨_,rfl,_,_,rfl,rfl,(by show (0:Int)<2; decide),?_⟩
   refine ⟨_,rfl,_,_,rfl,rfl,⟨by decide,by decide⟩,_,_,rfl,rfl,.inr ⟨by decide,by decide⟩,_,_,rfl,rfl,(by show (0:Int)<2147483629; decide),?_⟩
   refine ⟨_,rfl,_,rfl,lB,_,_,_,rfl,rfl,SqL.of (x3.fix _ _ F1.B).1,at2v bb hq q2,_,rfl,_,rfl,lA,_,_,_,rfl,rfl,SqL.of (x3.fix _ _ F1.A).1,at2v aa hq q2,_,rfl,_,rfl,lL,_,_,_,rfl,rfl,SqL.of x3.lst,at2v ll hq q2,_,rfl,?_⟩
   dsimp only [tNil]
   refine behind_of O x3 F1 q2 hm m2 fun l ms' L' own' H4 hL4 x4=>?_
   refine ⟨_,rfl,rfl,_,rfl,ite2 (fun z=>(by have:=of_decide_eq_true z; cases this)) fun _=>?_⟩
   refine ⟨_,rfl,_,rfl,_,rfl,lL,_,_,q,rfl,rfl,hL4,ix2 hq q2,?_⟩
   rw [set2 ll q2 l]
   refine ⟨_,rfl,small_line (by show 1≤1000; decide),fun lo hlo=>?_⟩
   have x5:=x4.add O (same_new (o:=.lst [V.int (c % 2)]) hlo) hlo upd_same
   have F5:=F1.mono (Fx':=fun z o=>Fy z o∨(z=lo∧o=.lst [V.int (c % 2)])) fun z o h=>.inl h
   refine ⟨_,rfl,_,_,rfl,rfl,⟨by decide,by decide⟩,_,_,rfl,rfl,(by show (0:Int)<4; decide),rfl,_,rfl,ite2 (fun _=>?_) (fun _=>?_)⟩
   ·refine ⟨_,rfl,_,_,rfl,rfl,_,rfl,small_line (by show 2≤1000; decide),fun lo2 hlo2=>?_⟩
    have x6:=x5.add O (same_new (o:=.lst [V.int (1 - c % 2),V.int (c % 2)]) hlo2) hlo2 upd_same
    refine rI hm (F5.mono fun z o h=>.inl h) x6 (.inr ⟨rfl,rfl⟩) (by show 2≤2; decide) (fun y hy=>?_) (by lia) fun H7 TS7 ts7 u x7 l7=>?_
    ·rcases List.mem_cons.mp hy with rfl | hy
     ·exact ⟨1 - q,by lia,by congr 1; lia⟩
     ·rw [List.mem_singleton.mp hy]
      exact ⟨q,q2,by rw [hq]⟩
    ·exact ⟨_,_,_,_,_,_,_,_,_,_,TS7,ts7,rfl,x7.sub fun z o h=>.inl (.inl h),by lia⟩
   ·refine rI hm F5 x5 (.inr ⟨rfl,rfl⟩) (by show 1≤2; decide) (fun y hy=>?_) (by lia) fun H7 TS7 ts7 u x7 l7=>?_
    ·rw [List.mem_singleton.mp hy]
     exact ⟨q,q2,by rw [hq]⟩
    ·exact ⟨_,_,_,_,_,_,_,_,_,_,TS7,ts7,rfl,x7.sub fun z o h=>.inl h,by lia⟩
 ·rintro σ H3 ⟨v8,v9,v10,v11,v12,v13,ll,own,L,ms,TS,ts,rfl,x3,tl⟩
  rw [List.length_map] at tl
  exact rE F1 x3 (by lia)
end
end Sf
set_option maxHeartbeats 4000000
namespace Sf
open PySem L2 Pl
seal PS PSs PE PA PSsx PSx PEx
def pr {α:Type _} (x y:α):Nat→α:=fun j=>if j=0 then x else y
theorem two_of {p:Nat→Prop} (h0:p 0) (h1:p 1):∀ k,k<2→p k:=fun k hk=>by
 match k,hk with
 | 0,_=>exact h0
 | 1,_=>exact h1
structure BM6 (P:Program) (w:World) (K:PySem.W.Frag) (mg:Str→Option Value) (base:Heap) (C:Addr) (B:BP) (cl:Nat→Addr) (kB:Nat):Prop where
 cls:Cls K C
 ok:BenchOk C B
 at_:mg "Bench"=some (.ref C)
 init:∃ f fd ps,Mk K C f∧Binds K fd ps []∧FnOk P w K mg base CX0 kB f fd ps (spInit K C B)
 draw:∃ f fd ps,Meth K C "draw" f∧Binds K fd ps []∧FnOk P w K mg base (CX1 P w) kB f fd ps (spDeed K B cl true)
 press:∃ f fd ps,Meth K C "press" f∧Binds K fd ps []∧FnOk P w K mg base (CX1 P w) kB f fd ps (spDeed K B cl false)
 loose:∃ f fd ps,Meth K C "loose" f∧Binds K fd ps []∧FnOk P w K mg base CX0 kB f fd ps (spLoose B)
 parts:∃ f fd ps,Meth K C "parts" f∧Binds K fd ps []∧FnOk P w K mg base CX0 kB f fd ps (spPartsN B)
section
variable {P:Program} {w:World} {K:PySem.W.Frag} {mg:Str→Option Value} {base:Heap} {C:Addr} {B:BP}
theorem ok_law {f fD fN fS fCo fLP fF fG fW fH fLF fC fDu fWo fDo fB fR fP fL:Addr} {fd fdD fdN fdS fdCo fdLP fdF fdG fdW fdH fdLF fdC fdDu fdWo fdDo fdB fdR fdP fdL:FuncData} {cl:Nat→Addr} {S:Addr} {kB:Nat} (BM:BM6 P w K mg base C B cl kB) (hkB:kB≤20) (D:Def K mg "law" sLaw ["_law_script"] f fd) (T:Own mg) (M:OwnM mg) (U:OwnT mg) (R:Errs K mg cl) (EB:ErrsB mg base cl S)
  (DD:Def K mg "_law_drawn" sDrawn ["_law_script","_law_k"] fD fdD) (DN:Def K mg "_law_number" sNumber ["_law_script","_law_k"] fN fdN) (DS:Def K mg "_law_size" sSize ["_law_cell"] fS fdS) (DCo:Def K mg "_law_counts" sCounts ["_law_thing"] fCo fdCo)
  (DLP:Def K mg "_law_places" sLPlaces ["_law_pile"] fLP fdLP) (DF:Def K mg "_law_fits" sFits ["_law_at","_law_stamp","_law_gap"] fF fdF) (DG:Def K mg "_law_good" sGood ["_law_script","_law_start","_law_size_here"] fG fdG)
  (DW:Def K mg "_law_wraps" sLWraps ["_law_at","_law_crease","_law_stamp"] fW fdW) (DH:Def K mg "_law_held" sHeld nmHeld fH fdH) (DLF:Def K mg "_law_free" sLFree ["_law_at","_law_loose"] fLF fdLF)
  (DC:Def K mg "_law_creases" s_law_creases ["_law_size_here","_law_loose","_law_number_here"] fC fdC) (DDu:Def K mg "_law_due" s_law_due ["_law_at","_law_loose","_law_creases_here","_law_drawing"] fDu fdDu) (DWo:Def K mg "_law_word_of" s_law_word_of ["_law_e"] fWo fdWo)
  (DDo:Def K mg "_law_done" s_law_done ["_law_bench","_law_creases_here","_law_drawing"] fDo fdDo) (DB:Def K mg "_law_behind" s_law_behind ["_law_bench","_law_at","_law_loose","_law_number_here"] fB fdB) (DR:Def K mg "_law_row" s_law_row ["_law_found","_law_due_here"] fR fdR)
  (DP:Def K mg "_law_parts" s_law_parts ["_law_found","_law_pile","_law_loose"] fP fdP) (DL:Def K mg "_law_look" s_law_look ["_law_bench","_law_pile","_law_loose","_law_number_here","_law_told"] fL fdL):FnOk P w K mg base CX0 30 f fd ["_law_script"] (spLaw K):=by
 have GD:FnOk P w K mg base CX0 1 fD fdD ["_law_script","_law_k"] (spDrawn K):=ok_drawn DD T
 have GS:FnOk P w K mg base CX0 1 fS fdS ["_law_cell"] spSize:=ok_size DS
 have GLP:FnOk P w K mg base CX0 1 fLP fdLP ["_law_pile"] (spLPlaces K):=ok_lplaces DLP T
 have GG:FnOk P w K mg base CX0 2 fG fdG ["_law_script","_law_start","_law_size_here"] (spGood K):=ok_good DG DN DLP DF T M
 have GLF:FnOk P w K mg base CX0 3 fLF fdLF ["_law_at","_law_loose"] (spFree K):=ok_lfree DLF DH DW T M
 have O:=BM.ok
 obtain ⟨fI,fdI,psI,mkI,bI,GI⟩:=BM.init
 obtain ⟨fDr,fdDr,psDr,mDr,bDr,GDr⟩:=BM.draw
 obtain ⟨fPr,fdPr,psPr,mPr,bPr,GPr⟩:=BM.press
 obtain ⟨fLo,fdLo,psLo,mLo,bLo,GLo⟩:=BM.loose
 obtain ⟨fPa,fdPa,psPa,mPa,bPa,GPa⟩:=BM.parts
 have GL:FnOk P w K mg base CX0 21 fL fdL ["_law_bench","_law_pile","_law_loose","_law_number_here","_law_told"] (spLook K B):=ok_look hkB DL O BM.cls mLo bLo GLo mPa bPa GPa DR DCo DP T
 have GDo:FnOk P w K mg base CX0 27 fDo fdDo ["_law_bench","_law_creases_here","_law_drawing"] (spDone K B):=ok_done (by lia) DDo T R EB O BM.cls mDr bDr GDr mPr bPr GPr DWo
 have GDu:FnOk P w K mg base CX0 4 fDu fdDu ["_law_at","_law_loose","_law_creases_here","_law_drawing"] (spDue K):=ok_due (fH:=fH) (fW:=fW) (fdH:=fdH) (fdW:=fdW) DDu DLF GLF T
 have GB:FnOk P w K mg base CX0 28 fB fdB ["_law_bench","_law_at","_law_loose","_law_number_here"] (spBehind K B):=ok_behind (psDo:=[]) O DB DC (ok_creases DC T M) DDo GDo DDu GDu T U
 refine D.fn.ok scLaw (fun vs H Q E h=>?_) (fun cdv A outer s H vs Q E hr h=>?_)
 ·obtain ⟨a,ns,rfl,_⟩:=h
  rfl
 ·obtain ⟨a,ss,rfl,hS,hlen,k⟩:=h
  have hr1:=hr.mono (show 1≤29 by decide)
  have hr2:=hr.mono (show 2≤29 by decide)
  have hrI:=hr.mono (show kB+1≤29 by lia)
  obtain ⟨tL,hL,rL⟩:=law_loop (f:=f) (cdv:=cdv) (A:=A) (outer:=outer) (s:=s) (H:=H) (Q:=Q) (E:=E) O hr T DL GL DB GB k
  refine ⟨_,pss_cons (ps_set (i:=1) scLaw.nd rfl (Or.inl rfl) (pe_lst (pa_cons (pe_call GS hr1 rfl DS.at_ DS.fn.kp DS.bd .nil pass0 (pa_cons (pe_call GD hr1 rfl DD.at_ DD.fn.kp DD.bd .nil pass0 (pa_cons (pv 0) (pa_cons pe_int pa_nil))) pa_nil)) (pa_cons (pe_call GS hr1 rfl DS.at_ DS.fn.kp DS.bd .nil pass0 (pa_cons (pe_call GD hr1 rfl DD.at_ DD.fn.kp DD.bd .nil pass0 (pa_cons (pv 0) (pa_cons pe_int pa_nil))) pa_nil)) pa_nil))))
   (pss_cons (ps_set (i:=2) scLaw.nd rfl (Or.inl rfl) (pe_lst (pa_cons (pe_call GG hr2 rfl DG.at_ DG.fn.kp DG.bd .nil pass0 (pa_cons (pv 0) (pa_cons pe_int (pa_cons (pe_ix ix_list (pv 1) pe_int (fun _ _=>rfl)) pa_nil)))) (pa_cons (pe_call GG hr2 rfl DG.at_ DG.fn.kp DG.bd .nil pass0 (pa_cons (pv 0) (pa_cons pe_int (pa_cons (pe_ix ix_list (pv 1) pe_int (fun _ _=>rfl)) pa_nil)))) pa_nil))))
   (pss_cons (ps_set (i:=3) scLaw.nd rfl (Or.inl rfl) (pe_lst (pa_cons (pe_call GLP hr1 rfl DLP.at_ DLP.fn.kp DLP.bd .nil pass0 (pa_cons (pe_ix ix_list (pv 2) pe_int (fun _ _=>rfl)) pa_nil)) (pa_cons (pe_call GLP hr1 rfl DLP.at_ DLP.fn.kp DLP.bd .nil pass0 (pa_cons (pe_ix ix_list (pv 2) pe_int (fun _ _=>rfl)) pa_nil)) pa_nil))))
   (pss_cons (ps_set (i:=4) scLaw.nd rfl (Or.inl rfl) (pe_lst (pa_cons (pe_callTy call_list_of (by rfl) T.list boot_list (pa_cons (pe_ix ix_list (pv 2) pe_int (fun _ _=>rfl)) pa_nil)) (pa_cons (pe_callTy call_list_of (by rfl) T.list boot_list (pa_cons (pe_ix ix_list (pv 2) pe_int (fun _ _=>rfl)) pa_nil)) pa_nil))))
   (pss_cons (ps_set (i:=5) scLaw.nd rfl (Or.inl rfl) (pe_lst (pa_cons (pe_make mkI GI hrI rfl BM.at_ bI .nil pass0 (pa_cons (pe_ix ix_list (pv 4) pe_int (fun _ _=>rfl)) pa_nil)) (pa_cons (pe_make mkI GI hrI rfl BM.at_ bI .nil pass0 (pa_cons (pe_ix ix_list (pv 4) pe_int (fun _ _=>rfl)) pa_nil)) pa_nil))))
   (pss_cons (ps_if (pt_cmpR (op_neLL hr.units0 (in1_units hr)) (pv 4) (pv 2) (nomark _)) (pss_one (ps_ret pe_bl)) pss_nil)
   (pss_cons (ps_expr (pe_bm0 PySem.F.plainAttrs_list PySem.F.slot_list_reverse PySem.F.type_list_reverse mt_reverse (pe_ix ix_list (pv 4) pe_int (fun _ _=>rfl))))
   (pss_cons (ps_expr (pe_bm0 PySem.F.plainAttrs_list PySem.F.slot_list_clear PySem.F.type_list_clear mt_clear (pe_ix ix_list (pv 4) pe_int (fun _ _=>rfl))))
   (pss_cons (ps_set (i:=6) scLaw.nd rfl (Or.inl rfl) (pe_lst (pa_cons (pe_lst pa_nil) (pa_cons (pe_lst pa_nil) pa_nil))))
   (pss_cons (ps_set (i:=7) scLaw.nd rfl (Or.inl rfl) (pe_lst pa_nil)) hL))))))))),?_⟩
  refine ⟨_,rfl,a,ss,0,rfl,hS,_,rfl,fun n0 H1 s1 n01 n02=>?_⟩
  refine ⟨_,rfl,a,ss,1,rfl,s1.seq hS,_,rfl,fun n1 H2 s2 n11 n12=>⟨small_line (by show 2≤1000; decide),fun sz hsz=>?_⟩⟩
  have t2:=same_new (o:=.lst [V.int (n0:Int),V.int (n1:Int)]) hsz
  have hz3:upd H2 sz (.lst [V.int (n0:Int),V.int (n1:Int)]) sz=_:=upd_same
  have s3:=s1.trans (s2.trans t2)
  generalize upd H2 sz (.lst [V.int (n0:Int),V.int (n1:Int)])=H3 at hz3 s3
  refine ⟨_,rfl,_,rfl,sz,_,_,_,rfl,rfl,SqL.of hz3,rfl,a,ss,2,n0,rfl,s3.seq hS,by decide,n01,n02,fun p0 ns0 H4 s4 hp00 pm0 nx0 hp0=>?_⟩
  refine ⟨_,rfl,_,rfl,sz,_,_,_,rfl,rfl,SqL.of (s4 _ _ hz3),rfl,a,ss,7,n1,rfl,(s3.trans s4).seq hS,by decide,n11,n12,fun p1 ns1 H5 s5 hp10 pm1 nx1 hp1=>⟨small_line (by show 2≤1000; decide),fun lb hlb=>?_⟩⟩
  have t5:=same_new (o:=.lst [V.ref p0,V.ref p1]) hlb
  have hb6:upd H5 lb (.lst [V.ref p0,V.ref p1]) lb=_:=upd_same
  have hp06:=t5 _ _ (s5 _ _ hp0)
  have hp16:=t5 _ _ hp1
  have s6:=s3.trans (s4.trans (s5.trans t5))
  generalize upd H5 lb (.lst [V.ref p0,V.ref p1])=H6 at hb6 hp06 hp16 s6
  refine ⟨_,rfl,lb,_,_,_,rfl,rfl,SqL.of hb6,rfl,p0,ns0,n0,rfl,SqL.of hp06,pm0,n02,fun a0 H7 s7 ha00 ha0=>?_⟩
  refine ⟨_,rfl,lb,_,_,_,rfl,rfl,SqL.of (s7 _ _ hb6),rfl,p1,ns1,n1,rfl,SqL.of (s7 _ _ hp16),pm1,n12,fun a1 H8 s8 ha10 ha1=>⟨small_line (by show 2≤1000; decide),fun la hla=>?_⟩⟩
  have t8:=same_new (o:=.lst [V.ref a0,V.ref a1]) hla
  have s78:=s7.trans (s8.trans t8)
  have hla9:upd H8 la (.lst [V.ref a0,V.ref a1]) la=_:=upd_same
  have ha09:=t8 _ _ (s8 _ _ ha0)
  have ha19:=t8 _ _ ha1
  have hb9:=s78 _ _ hb6
  have hp09:=s78 _ _ hp06
  have hp19:=s78 _ _ hp16
  have s9:=s6.trans s78
  generalize upd H8 la (.lst [V.ref a0,V.ref a1])=H9 at hla9 ha09 ha19 hb9 hp09 hp19 s9
  refine ⟨_,rfl,lb,_,_,_,rfl,rfl,SqL.of hb9,rfl,p0,_,rfl,.inl (SqL.of hp09),fun h0 hh0=>?_⟩
  have t9:=same_new (o:=.lst (ns0.map V.int)) hh0
  refine ⟨_,rfl,lb,_,_,_,rfl,rfl,SqL.of (t9 _ _ hb9),rfl,p1,_,rfl,.inl (SqL.of (t9 _ _ hp19)),fun h1 hh1=>⟨small_line (by show 2≤1000; decide),fun lh hlh=>?_⟩⟩
  have t10:=same_new (o:=.lst (ns1.map V.int)) hh1
  have t11:=same_new (o:=.lst [V.ref h0,V.ref h1]) hlh
  have s9':=t9.trans (t10.trans t11)
  have hh0':=(t10.trans t11) _ _ (upd_same (H:=H9) (a:=h0) (o:=.lst (ns0.map V.int)))
  have hh1':=t11 _ _ (upd_same (H:=upd H9 h0 (.lst (ns0.map V.int))) (a:=h1) (o:=.lst (ns1.map V.int)))
  have hlh':upd (upd (upd H9 h0 (.lst (ns0.map V.int))) h1 (.lst (ns1.map V.int))) lh (.lst [V.ref h0,V.ref h1]) lh=_:=upd_same
  have h01:h0≠h1:=ne_of_none upd_same hh1
  have hh19:H9 h1=none:=t9.free hh1
  generalize upd (upd (upd H9 h0 (.lst (ns0.map V.int))) h1 (.lst (ns1.map V.int))) lh (.lst [V.ref h0,V.ref h1])=H10 at s9' hh0' hh1' hlh'
  refine ⟨_,rfl,lh,_,_,_,rfl,rfl,SqL.of hlh',rfl,fun x dx hx hdx hne=>?_⟩
  have up:∀ {y:Addr} {o:HO},H10 y=some o→(upd (upd H10 dx (.own x)) x (.ins C dx [])) y=some o:=fun h=>by rw [upd_ne (ne_of_none h hx),upd_ne (ne_of_none h hdx)]; exact h
  refine ⟨x,h0,dx,ns0,n0,rfl,upd_same,by rw [upd_ne hne,upd_same],SqL.of (up hh0'),ne_of_none hh0' hx,ne_of_none hh0' hdx,pm0,n01,n02,nx0,fun own0 H11 stay0 own00 hB0=>⟨rfl,?_⟩⟩
  have s11:Same H10 H11:=fun y o h=>stay0 y o (up h) (ne_of_none h hx)
  have no0:∀ {y:Addr} {o:HO},H10 y=some o→¬ own0 y:=fun {y o} h q=>by
   rcases own00 y q with z | z | z
   ·exact ne_of_none h hx z
   ·exact ne_of_none h hdx z
   ·rw [up h] at z; cases z
  refine ⟨_,rfl,lh,_,_,_,rfl,rfl,SqL.of (s11 _ _ hlh'),rfl,fun y dy hy hdy hney=>?_⟩
  have up2:∀ {z:Addr} {o:HO},H11 z=some o→(upd (upd H11 dy (.own y)) y (.ins C dy [])) z=some o:=fun h=>by rw [upd_ne (ne_of_none h hy),upd_ne (ne_of_none h hdy)]; exact h
  have hh11:=s11 _ _ hh1'
  refine ⟨y,h1,dy,ns1,n1,rfl,upd_same,by rw [upd_ne hney,upd_same],SqL.of (up2 hh11),ne_of_none hh11 hy,ne_of_none hh11 hdy,pm1,n11,n12,nx1,fun own1 H12 stay1 own10 hB1=>⟨rfl,?_⟩⟩
  have s12:Same H11 H12:=fun z o h=>stay1 z o (up2 h) (ne_of_none h hy)
  have no1:∀ {z:Addr} {o:HO},H11 z=some o→¬ own1 z:=fun {z o} h q=>by
   rcases own10 z q with e | e | e
   ·exact ne_of_none h hy e
   ·exact ne_of_none h hdy e
   ·rw [up2 h] at e; cases e
  have dis:∀ z,own0 z→¬ own1 z:=fun z q=>by
   cases e:H11 z with
   | none=>exact absurd e (O.held hB0 q)
   | some o=>exact no1 e
  refine ⟨small_line (by show 2≤1000; decide),fun lB hlB=>?_⟩
  have t12:=same_new (o:=.lst [V.ref x,V.ref y]) hlB
  have s1012:=s11.trans (s12.trans t12)
  have hlB':upd H12 lB (.lst [V.ref x,V.ref y]) lB=_:=upd_same
  have B0:=O.same hB0 (s12.trans t12)
  have B1:=O.same hB1 t12
  have nB0:¬ own0 lB:=fun q=>by
   cases e:H11 lB with
   | none=>exact O.held hB0 q e
   | some o=>rw [s12 _ _ e] at hlB; cases hlB
  have nB1:¬ own1 lB:=fun q=>O.held hB1 q hlB
  have nh0:lB≠h0:=Ne.symm (ne_of_none ((s11.trans s12) _ _ hh0') hlB)
  have nh1:lB≠h1:=Ne.symm (ne_of_none ((s11.trans s12) _ _ hh1') hlB)
  have K0:=s1012 _ _ hh0'
  have K1:=s1012 _ _ hh1'
  have Kh:=s1012 _ _ hlh'
  have s913:=s9'.trans s1012
  generalize upd H12 lB (.lst [V.ref x,V.ref y])=H13 at hlB' B0 B1 K0 K1 Kh s913
  refine ⟨_,rfl,_,rfl,lh,lb,[h0,h1],[p0,p1],[ns0,ns1],rfl,rfl,⟨Kh,rfl,fun i z q e1 e2=>?_⟩,⟨s913 _ _ hb9,rfl,fun i z q e1 e2=>?_⟩,_,rfl,iteF ?_⟩
  ·match i,e1,e2 with
   | 0,e1,e2=>cases e1; cases e2; exact K0
   | 1,e1,e2=>cases e1; cases e2; exact K1
  ·match i,e1,e2 with
   | 0,e1,e2=>cases e1; cases e2; exact s913 _ _ hp09
   | 1,e1,e2=>cases e1; cases e2; exact s913 _ _ hp19
  refine ⟨_,rfl,lh,_,_,_,rfl,rfl,SqL.of Kh,rfl,.inl ⟨rfl,_,SqL.of K0⟩,h0,_,rfl,rfl,K0,?_⟩
  have lhn0:lh≠h0:=fun e=>by rw [e,K0] at Kh; cases ns0 <;> cases Kh
  have Kh2:upd H13 h0 (.lst (ns0.map V.int).reverse) lh=some (.lst [V.ref h0,V.ref h1]):=by rw [upd_ne lhn0]; exact Kh
  have K12:upd H13 h0 (.lst (ns0.map V.int).reverse) h1=some (.lst (ns1.map V.int)):=by rw [upd_ne (Ne.symm h01)]; exact K1
  refine ⟨_,rfl,lh,_,_,_,rfl,rfl,SqL.of Kh2,rfl,.inl ⟨rfl,_,SqL.of K12⟩,h1,_,rfl,rfl,K12,?_⟩
  have up15:∀ {z:Addr} {o:HO},H13 z=some o→z≠h0→z≠h1→upd (upd H13 h0 (.lst (ns0.map V.int).reverse)) h1 (.lst []) z=some o:=fun e q0 q1=>by rw [upd_ne q1,upd_ne q0]; exact e
  have e15:∀ {z:Addr},z≠h0→z≠h1→upd (upd H13 h0 (.lst (ns0.map V.int).reverse)) h1 (.lst []) z=H13 z:=fun q0 q1=>by rw [upd_ne q1,upd_ne q0]
  generalize upd (upd H13 h0 (.lst (ns0.map V.int).reverse)) h1 (.lst [])=H15 at up15 e15
  have B0':B H15 x ns0 (fun _=>False) own0:=O.keep B0 fun z q=>e15 (fun e=>no0 hh0' (e ▸ q)) fun e=>no0 hh1' (e ▸ q)
  have B1':B H15 y ns1 (fun _=>False) own1:=O.keep B1 fun z q=>e15 (fun e=>no1 (s11 _ _ hh0') (e ▸ q)) fun e=>no1 (s11 _ _ hh1') (e ▸ q)
  have fx:∀ {z:Addr} {o:HO},H9 z=some o→H15 z=some o∧¬ own0 z∧¬ own1 z:=fun {z o} e=>⟨up15 (s913 _ _ e) (ne_of_none e hh0) (ne_of_none e hh19),no0 (s9' _ _ e),no1 (s11 _ _ (s9' _ _ e))⟩
  have FX:Fix6 (fun z o=>H15 z=some o∧¬ own0 z∧¬ own1 z) lB la lb (pr x y) (pr a0 a1) (pr p0 p1) (pr ns0 ns1) (pr n0 n1) :=
   ⟨⟨up15 hlB' nh0 nh1,nB0,nB1⟩,fx hla9,fx hb9,two_of (fx hp09) (fx hp19),two_of (fx ha09) (fx ha19),two_of ⟨pm0,n01,n02,nx0⟩ ⟨pm1,n11,n12,nx1⟩⟩
  refine ⟨small_line (by show 0≤1000; decide),fun l0 hl0=>⟨small_line (by show 0≤1000; decide),fun l1 hl1=>⟨small_line (by show 2≤1000; decide),fun lL hlL=>?_⟩⟩⟩
  refine ⟨small_line (by show 0≤1000; decide),fun lt hlt=>?_⟩
  have u0:=same_new (o:=.lst []) hl0
  have u1:=same_new (o:=.lst []) hl1
  have u2:=same_new (o:=.lst [V.ref l0,V.ref l1]) hlL
  have u3:=same_new (o:=.lst []) hlt
  have U:=u0.trans (u1.trans (u2.trans u3))
  have L0:=(u1.trans (u2.trans u3)) _ _ (upd_same (H:=H15) (a:=l0) (o:=.lst []))
  have L1:=(u2.trans u3) _ _ (upd_same (H:=upd H15 l0 (.lst [])) (a:=l1) (o:=.lst []))
  have LL':=u3 _ _ (upd_same (H:=upd (upd H15 l0 (.lst [])) l1 (.lst [])) (a:=lL) (o:=.lst [V.ref l0,V.ref l1]))
  have f1:H15 l1=none:=u0.free hl1
  have f2:H15 lL=none:=(u0.trans u1).free hlL
  have f3:H15 lt=none:=(u0.trans (u1.trans u2)).free hlt
  have q1:l0≠lL:=ne_of_none (u1 _ _ upd_same) hlL
  have q2:l0≠lt:=ne_of_none ((u1.trans u2) _ _ upd_same) hlt
  have q3:l1≠lL:=ne_of_none upd_same hlL
  have q4:l1≠lt:=ne_of_none (u2 _ _ upd_same) hlt
  have q5:lL≠lt:=ne_of_none upd_same hlt
  have hLt:upd (upd (upd (upd H15 l0 (.lst [])) l1 (.lst [])) lL (.lst [V.ref l0,V.ref l1])) lt (.lst []) lt=_:=upd_same
  generalize upd (upd (upd (upd H15 l0 (.lst [])) l1 (.lst [])) lL (.lst [V.ref l0,V.ref l1])) lt (.lst [])=H19 at U L0 L1 LL' hLt
  have fr:∀ {z:Addr},H15 z=none→(¬ own0 z)∧¬ own1 z:=fun e=>⟨fun q=>O.held B0' q e,fun q=>O.held B1' q e⟩
  have X:St6 B (fun z o=>H15 z=some o∧¬ own0 z∧¬ own1 z) lL lt (pr x y) (pr ns0 ns1) (pr n0 n1) (pr l0 l1) (pr own0 own1) (fun _ _=>False) (fun _=>[]) H19 (fun _=>False) []:=by
   refine ⟨fun z o q=>⟨U _ _ q.1,ne_of_none q.1 f2,ne_of_none q.1 f3⟩,LL',q5,⟨hLt,fun t ht=>(by cases ht),fun z=>z,fun z q=>q.elim⟩,fun z=>z,two_of (O.same B0' U) (O.same B1' U),fun k _=>⟨fun c=>⟨fun h=>(by cases h),fun h=>h.elim⟩,.nil⟩,fun k _ c hc=>(by cases hc),two_of L0 L1,two_of ⟨q1,q2⟩ ⟨q3,q4⟩,two_of (fun z q=>?_) (fun z q=>?_),fun i j hi hj nij z q q'=>?_⟩
   ·have q:own0 z:=q
    exact ⟨fun o e=>e.2.1 q,fun e=>(fr f2).1 (e ▸ q),fun e=>(fr f3).1 (e ▸ q),fun e=>e,two_of (fun (e:z=l0)=>(fr hl0).1 (e ▸ q)) (fun (e:z=l1)=>(fr f1).1 (e ▸ q))⟩
   ·have q:own1 z:=q
    exact ⟨fun o e=>e.2.2 q,fun e=>(fr f2).2 (e ▸ q),fun e=>(fr f3).2 (e ▸ q),fun e=>e,two_of (fun (e:z=l0)=>(fr hl0).2 (e ▸ q)) (fun (e:z=l1)=>(fr f1).2 (e ▸ q))⟩
   ·match i,j,hi,hj with
    | 0,0,_,_=>exact nij rfl
    | 1,1,_,_=>exact nij rfl
    | 0,1,_,_=>exact dis z q q'
    | 1,0,_,_=>exact dis z q' q
  have hSE:SqL K H19 a (ss.map V.int):=by
   have h9:SqL K H9 a (ss.map V.int):=s9.seq hS
   exact sqL_stay h9 fun o e=>U _ _ (fx e).1
  exact rL FX X hSE hlen
end
end Sf
set_option maxHeartbeats 4000000
namespace Sf
open PySem L2 Pl PySem.W
def cl6 (e0 e1 e2 e3 e4 e5:Addr):Nat→Addr
 | 0=>e0
 | 1=>e1
 | 2=>e2
 | 3=>e3
 | 4=>e4
 | _=>e5
theorem six_of {p:Nat→Prop} (h:p 0∧p 1∧p 2∧p 3∧p 4∧p 5):∀ i,i<6→p i:=fun i hi=>by
 obtain ⟨h0,h1,h2,h3,h4,h5⟩:=h
 match i,hi with
 | 0,_=>exact h0
 | 1,_=>exact h1
 | 2,_=>exact h2
 | 3,_=>exact h3
 | 4,_=>exact h4
 | 5,_=>exact h5
section
variable {K:PySem.W.Frag} {mg:Str→Option Value} {e0 e1 e2 e3 e4 e5 S:Addr}
abbrev kq (K:PySem.W.Frag) (i j:Addr) (b:Bool):Prop:=PySem.W.kitOne K (.ref i) (.ref j)=some b
theorem errs_mk (n:mg "NoPile"=some (.ref e0)∧mg "Crossing"=some (.ref e1)∧mg "NoCrease"=some (.ref e2)∧mg "NoLetters"=some (.ref e3)∧mg "NoCount"=some (.ref e4)∧mg "Stuck"=some (.ref e5)) (v:mg "ValueError"=none)
  (x:ExcIn K e0∧ExcIn K e1∧ExcIn K e2∧ExcIn K e3∧ExcIn K e4∧ExcIn K e5)
  (q:kq K e0 e0 true∧kq K e0 e1 false∧kq K e0 e2 false∧kq K e0 e3 false∧kq K e0 e4 false∧kq K e0 e5 false∧kq K e1 e0 false∧kq K e1 e1 true∧kq K e1 e2 false∧kq K e1 e3 false∧kq K e1 e4 false∧kq K e1 e5 false ∧
   kq K e2 e0 false∧kq K e2 e1 false∧kq K e2 e2 true∧kq K e2 e3 false∧kq K e2 e4 false∧kq K e2 e5 false∧kq K e3 e0 false∧kq K e3 e1 false∧kq K e3 e2 false∧kq K e3 e3 true∧kq K e3 e4 false∧kq K e3 e5 false ∧
   kq K e4 e0 false∧kq K e4 e1 false∧kq K e4 e2 false∧kq K e4 e3 false∧kq K e4 e4 true∧kq K e4 e5 false∧kq K e5 e0 false∧kq K e5 e1 false∧kq K e5 e2 false∧kq K e5 e3 false∧kq K e5 e4 false∧kq K e5 e5 true)
  (qv:kitOne K (.ref e0) (.type "ValueError")=some true∧kitOne K (.ref e1) (.type "ValueError")=some true∧kitOne K (.ref e2) (.type "ValueError")=some true∧kitOne K (.ref e3) (.type "ValueError")=some true∧kitOne K (.ref e4) (.type "ValueError")=some true∧kitOne K (.ref e5) (.type "ValueError")=some true) :
  Errs K mg (cl6 e0 e1 e2 e3 e4 e5):=by
 obtain ⟨n0,n1,n2,n3,n4,n5⟩:=n
 obtain ⟨q00,q01,q02,q03,q04,q05,q10,q11,q12,q13,q14,q15,q20,q21,q22,q23,q24,q25,q30,q31,q32,q33,q34,q35,q40,q41,q42,q43,q44,q45,q50,q51,q52,q53,q54,q55⟩:=q
 refine ⟨n0,n1,n2,n3,n4,n5,v,six_of x,fun i j hi hj=>?_,six_of qv⟩
 exact six_of (p:=fun i=>∀ j,j<6→kitOne K (.ref (cl6 e0 e1 e2 e3 e4 e5 i)) (.ref (cl6 e0 e1 e2 e3 e4 e5 j))=some (decide (j=i)))
  ⟨six_of ⟨q00,q01,q02,q03,q04,q05⟩,six_of ⟨q10,q11,q12,q13,q14,q15⟩,six_of ⟨q20,q21,q22,q23,q24,q25⟩,six_of ⟨q30,q31,q32,q33,q34,q35⟩,six_of ⟨q40,q41,q42,q43,q44,q45⟩,six_of ⟨q50,q51,q52,q53,q54,q55⟩⟩ i hi j hj
theorem errsB_mk {base:Heap} (X:K.In base) (s:mg "StripError"=some (.ref S)) (sh:shapeIn K S=true) (mB:mroIn K S (.type "BaseException")=some true) (h:shapeIn K e0=true∧shapeIn K e1=true∧shapeIn K e2=true∧shapeIn K e3=true∧shapeIn K e4=true∧shapeIn K e5=true)
  (m:mroIn K e0 (.ref S)=some true∧mroIn K e1 (.ref S)=some true∧mroIn K e2 (.ref S)=some true∧mroIn K e3 (.ref S)=some true∧mroIn K e4 (.ref S)=some true∧mroIn K e5 (.ref S)=some true):ErrsB mg base (cl6 e0 e1 e2 e3 e4 e5) S:=by
 refine ⟨s,?_,fun i hi=>?_⟩
 ·obtain ⟨bm,hs,c⟩:=shape_of_in X sh
  refine ⟨bm,hs,?_⟩
  have:=c _ _ mB
  rw [List.contains_cons,Bool.or_eq_true] at this
  rcases this with h | h
  ·cases h
  ·exact h
 ·have a:shapeIn K (cl6 e0 e1 e2 e3 e4 e5 i)=true:=six_of (p:=fun i=>shapeIn K (cl6 e0 e1 e2 e3 e4 e5 i)=true) h i hi
  have b:mroIn K (cl6 e0 e1 e2 e3 e4 e5 i) (.ref S)=some true:=six_of (p:=fun i=>mroIn K (cl6 e0 e1 e2 e3 e4 e5 i) (.ref S)=some true) m i hi
  obtain ⟨bm,hs,c⟩:=shape_of_in X a
  exact ⟨bm,hs,c _ _ b⟩
theorem isSome_of {α:Type _} {o:Option α} {a:α} (h:o=some a):o.isSome=true:=by rw [h]; rfl
def strKey (e:DictEntry):Bool:=match e.key with | .str _ _=>true | _=>false
theorem nsOk_lk {N:Addr} {oc:Value} {od:Option Addr} {es:List DictEntry} {nn:Nat} {sl:Array (Option Value)} (l:K.lookup N=some ⟨oc,od,.dict (List.toArray es) nn,sl⟩) (k:es.all strKey=true):nsOkIn K N=true:=by
 unfold nsOkIn
 rw [l]
 show (List.toArray es).all _=true
 rw [List.all_toArray]
 exact k
theorem shape_lk {C:Addr} {dd:Option Addr} {nm qn:Str} {bs bm sub:List Value} {ns:Addr} {hd ab:Bool} {sn:List Str} {col:Option Bool} {k0 k1 k2 k3 k5:Option Value} {n:String}
  (l:K.lookup C=some ⟨.type "type",dd,.cls ⟨nm,bs,.ref C::bm,ns,qn,hd,sn,sub,ab,col,false⟩,#[k0,k1,k2,k3,some (.builtin n),k5]⟩):shapeIn K C=true:=by
 unfold shapeIn
 rw [l]
 simp
theorem exc_lk {C D:Addr} {dd dd':Option Addr} {nm qn nm' qn':Str} {bs sub bs' sub' bm':List Value} {ns ns':Addr} {hd ab hd' ab':Bool} {sn sn':List Str} {col col':Option Bool} {k0 k1 k2 k3 k5:Option Value} {sl':Array (Option Value)} {oc':Value}
  (l:K.lookup C=some ⟨.type "type",dd,.cls ⟨nm,bs,.ref C::.ref D::bmV,ns,qn,hd,sn,sub,ab,col,false⟩,#[k0,k1,k2,k3,some (.builtin "ValueError.__new__"),k5]⟩) (o:nsOkIn K ns=true) (i:nsIn K ns "__init__"=some none)
  (l':K.lookup D=some ⟨oc',dd',.cls ⟨nm',bs',bm',ns',qn',hd',sn',sub',ab',col',false⟩,sl'⟩) (o':nsOkIn K ns'=true) (i':nsIn K ns' "__init__"=some none):excIn K C bmV "ValueError.__new__"=true:=by
 have t:tailIn K bmV (.ref D::bmV)=true:=by
  unfold tailIn
  rw [Bool.or_eq_true]
  right
  show (match K.lookup D with | some ⟨_,_,.cls cd,_⟩=>nsOkIn K cd.ns && nsIn K cd.ns "__init__" == some none && tailIn K bmV bmV | _=>false)=true
  rw [l']
  show (nsOkIn K ns' && nsIn K ns' "__init__" == some none && tailIn K bmV bmV)=true
  rw [o',i']
  rfl
 unfold excIn
 rw [l]
 show (C == C && "ValueError.__new__" == "ValueError.__new__" && !false && tailIn K bmV (.ref D::bmV) && nsOkIn K ns && nsIn K ns "__init__" == some none)=true
 rw [t,o,i]
 simp
end
end Sf
namespace Sf
open PySem L2 Pl
theorem len1 {α:Type _} {p:List α→Prop} (h:∀ a0:α,p [a0]) (us:List α) (e:us.length=1):p us:=by
 match us,e with
 | [a0],_=>exact h a0
theorem len2 {α:Type _} {p:List α→Prop} (h:∀ a0 a1:α,p [a0,a1]) (us:List α) (e:us.length=2):p us:=by
 match us,e with
 | [a0,a1],_=>exact h a0 a1
theorem len3 {α:Type _} {p:List α→Prop} (h:∀ a0 a1 a2:α,p [a0,a1,a2]) (us:List α) (e:us.length=3):p us:=by
 match us,e with
 | [a0,a1,a2],_=>exact h a0 a1 a2
theorem len4 {α:Type _} {p:List α→Prop} (h:∀ a0 a1 a2 a3:α,p [a0,a1,a2,a3]) (us:List α) (e:us.length=4):p us:=by
 match us,e with
 | [a0,a1,a2,a3],_=>exact h a0 a1 a2 a3
theorem len5 {α:Type _} {p:List α→Prop} (h:∀ a0 a1 a2 a3 a4:α,p [a0,a1,a2,a3,a4]) (us:List α) (e:us.length=5):p us:=by
 match us,e with
 | [a0,a1,a2,a3,a4],_=>exact h a0 a1 a2 a3 a4
theorem def_mk {K:PySem.W.Frag} {h:Heap} {mg:Str→Option Value} {x:Str} {st:Stmt} {f:Addr} {oc:Value} {od an:Option Addr} {sl:Array (Option Value)} {kV dc pm cd ct:Value} {ps:List Str} (X:K.In h) (G:h.Ns mainGlobals mg)
  (a:PySem.W.nsIn K mainGlobals x=some (some (.ref f))) (l:K.lookup f=some ⟨oc,od,.func (PySem.W.fnOf x x (defArgs st) (defBody st) (defScope st) .none kV dc pm an cd ct),sl⟩) (c:PySem.W.codeIn K cd x=true) (k:PySem.W.keepIn K (.ref f)=true)
  (hb:∀ (kV doc pm:Value) (an:Option Addr) (cdv ct:Value) (us:List Value),us.length=ps.length→bindArgs (PySem.W.fnOf x x (defArgs st) (defBody st) (defScope st) .none kV doc pm an cdv ct) ⟨us,[]⟩=pure (ps.zip us)) :
  Def K mg x st ps f (PySem.W.fnOf x x (defArgs st) (defBody st) (defScope st) .none kV dc pm an cd ct):=⟨fun_mk l c k,(fun_mk l c k).binds hb,PySem.W.mg_of X G a⟩
end Sf
set_option maxHeartbeats 4000000
namespace Sf
open PySem L2 Pl
theorem all_mk {l:PySem.W.OpenLaw} {w:World} {K:PySem.W.Frag} {h:Heap} {mg:Str→Option Value} {fa f1 f2 f3 f4 f5 f6 f7 f8 f9 f10 f11 f12 f13 f14 f15 f16 f17 f18 f19 f20 f21 f22 f23 f24 f25 f26 f27 f28 f29 f30 f31:Addr} (X:K.In h) (G:h.Ns mainGlobals mg) (hfa:mg "law"=some (.ref fa))
  {od1 an1 od2 an2 od3 an3 od4 an4 od5 an5 od6 an6 od7 an7 od8 an8 od9 an9 od10 an10 od11 an11 od12 an12 od13 an13 od14 an14 od15 an15 od16 an16 od17 an17 od18 an18 od19 an19 od20 an20 od21 an21 od22 an22 od23 an23 od24 an24 od25 an25 od26 an26 od27 an27 od28 an28 od29 an29 od30 an30 od31 an31:Option Addr} {sl1 sl2 sl3 sl4 sl5 sl6 sl7 sl8 sl9 sl10 sl11 sl12 sl13 sl14 sl15 sl16 sl17 sl18 sl19 sl20 sl21 sl22 sl23 sl24 sl25 sl26 sl27 sl28 sl29 sl30 sl31:Array (Option Value)} {oc1 kV1 dc1 pm1 cd1 ct1 oc2 kV2 dc2 pm2 cd2 ct2 oc3 kV3 dc3 pm3 cd3 ct3 oc4 kV4 dc4 pm4 cd4 ct4 oc5 kV5 dc5 pm5 cd5 ct5 oc6 kV6 dc6 pm6 cd6 ct6 oc7 kV7 dc7 pm7 cd7 ct7 oc8 kV8 dc8 pm8 cd8 ct8 oc9 kV9 dc9 pm9 cd9 ct9 oc10 kV10 dc10 pm10 cd10 ct10 oc11 kV11 dc11 pm11 cd11 ct11 oc12 kV12 dc12 pm12 cd12 ct12 oc13 kV13 dc13 pm13 cd13 ct13 oc14 kV14 dc14 pm14 cd14 ct14 oc15 kV15 dc15 pm15 cd15 ct15 oc16 kV16 dc16 pm16 cd16 ct16 oc17 kV17 dc17 pm17 cd17 ct17 oc18 kV18 dc18 pm18 cd18 ct18 oc19 kV19 dc19 pm19 cd19 ct19 oc20 kV20 dc20 pm20 cd20 ct20 oc21 kV21 dc21 pm21 cd21 ct21 oc22 kV22 dc22 pm22 cd22 ct22 oc23 kV23 dc23 pm23 cd23 ct23 oc24 kV24 dc24 pm24 cd24 ct24 oc25 kV25 dc25 pm25 cd25 ct25 oc26 kV26 dc26 pm26 cd26 ct26 oc27 kV27 dc27 pm27 cd27 ct27 oc28 kV28 dc28 pm28 cd28 ct28 oc29 kV29 dc29 pm29 cd29 ct29 oc30 kV30 dc30 pm30 cd30 ct30 oc31 kV31 dc31 pm31 cd31 ct31:Value}
  (a1:PySem.W.nsIn K mainGlobals "check_pile"=some (some (.ref f1))) (l1:K.lookup f1=some ⟨oc1,od1,.func (PySem.W.fnOf "check_pile" "check_pile" (defArgs sCheck) (defBody sCheck) (defScope sCheck) .none kV1 dc1 pm1 an1 cd1 ct1),sl1⟩) (c1:PySem.W.codeIn K cd1 "check_pile"=true) (k1:PySem.W.keepIn K (.ref f1)=true)
  (a2:PySem.W.nsIn K mainGlobals "places"=some (some (.ref f2))) (l2:K.lookup f2=some ⟨oc2,od2,.func (PySem.W.fnOf "places" "places" (defArgs sPlaces) (defBody sPlaces) (defScope sPlaces) .none kV2 dc2 pm2 an2 cd2 ct2),sl2⟩) (c2:PySem.W.codeIn K cd2 "places"=true) (k2:PySem.W.keepIn K (.ref f2)=true)
  (a3:PySem.W.nsIn K mainGlobals "wraps"=some (some (.ref f3))) (l3:K.lookup f3=some ⟨oc3,od3,.func (PySem.W.fnOf "wraps" "wraps" (defArgs sWraps) (defBody sWraps) (defScope sWraps) .none kV3 dc3 pm3 an3 cd3 ct3),sl3⟩) (c3:PySem.W.codeIn K cd3 "wraps"=true) (k3:PySem.W.keepIn K (.ref f3)=true)
  (a4:PySem.W.nsIn K mainGlobals "cross"=some (some (.ref f4))) (l4:K.lookup f4=some ⟨oc4,od4,.func (PySem.W.fnOf "cross" "cross" (defArgs sCross) (defBody sCross) (defScope sCross) .none kV4 dc4 pm4 an4 cd4 ct4),sl4⟩) (c4:PySem.W.codeIn K cd4 "cross"=true) (k4:PySem.W.keepIn K (.ref f4)=true)
  (a5:PySem.W.nsIn K mainGlobals "crossing"=some (some (.ref f5))) (l5:K.lookup f5=some ⟨oc5,od5,.func (PySem.W.fnOf "crossing" "crossing" (defArgs sCrossing) (defBody sCrossing) (defScope sCrossing) .none kV5 dc5 pm5 an5 cd5 ct5),sl5⟩) (c5:PySem.W.codeIn K cd5 "crossing"=true) (k5:PySem.W.keepIn K (.ref f5)=true)
  (a6:PySem.W.nsIn K mainGlobals "foldable_places"=some (some (.ref f6))) (l6:K.lookup f6=some ⟨oc6,od6,.func (PySem.W.fnOf "foldable_places" "foldable_places" (defArgs s_foldable_places) (defBody s_foldable_places) (defScope s_foldable_places) .none kV6 dc6 pm6 an6 cd6 ct6),sl6⟩) (c6:PySem.W.codeIn K cd6 "foldable_places"=true) (k6:PySem.W.keepIn K (.ref f6)=true)
  (a7:PySem.W.nsIn K mainGlobals "check_creases"=some (some (.ref f7))) (l7:K.lookup f7=some ⟨oc7,od7,.func (PySem.W.fnOf "check_creases" "check_creases" (defArgs s_check_creases) (defBody s_check_creases) (defScope s_check_creases) .none kV7 dc7 pm7 an7 cd7 ct7),sl7⟩) (c7:PySem.W.codeIn K cd7 "check_creases"=true) (k7:PySem.W.keepIn K (.ref f7)=true)
  (a8:PySem.W.nsIn K mainGlobals "ends_of_parts"=some (some (.ref f8))) (l8:K.lookup f8=some ⟨oc8,od8,.func (PySem.W.fnOf "ends_of_parts" "ends_of_parts" (defArgs s_ends_of_parts) (defBody s_ends_of_parts) (defScope s_ends_of_parts) .none kV8 dc8 pm8 an8 cd8 ct8),sl8⟩) (c8:PySem.W.codeIn K cd8 "ends_of_parts"=true) (k8:PySem.W.keepIn K (.ref f8)=true)
  (a9:PySem.W.nsIn K mainGlobals "creases_like"=some (some (.ref f9))) (l9:K.lookup f9=some ⟨oc9,od9,.func (PySem.W.fnOf "creases_like" "creases_like" (defArgs s_creases_like) (defBody s_creases_like) (defScope s_creases_like) .none kV9 dc9 pm9 an9 cd9 ct9),sl9⟩) (c9:PySem.W.codeIn K cd9 "creases_like"=true) (k9:PySem.W.keepIn K (.ref f9)=true)
  (a10:PySem.W.nsIn K mainGlobals "wrapped_within"=some (some (.ref f10))) (l10:K.lookup f10=some ⟨oc10,od10,.func (PySem.W.fnOf "wrapped_within" "wrapped_within" (defArgs s_wrapped_within) (defBody s_wrapped_within) (defScope s_wrapped_within) .none kV10 dc10 pm10 an10 cd10 ct10),sl10⟩) (c10:PySem.W.codeIn K cd10 "wrapped_within"=true) (k10:PySem.W.keepIn K (.ref f10)=true)
  (a11:PySem.W.nsIn K mainGlobals "inner_parts_odd"=some (some (.ref f11))) (l11:K.lookup f11=some ⟨oc11,od11,.func (PySem.W.fnOf "inner_parts_odd" "inner_parts_odd" (defArgs s_inner_parts_odd) (defBody s_inner_parts_odd) (defScope s_inner_parts_odd) .none kV11 dc11 pm11 an11 cd11 ct11),sl11⟩) (c11:PySem.W.codeIn K cd11 "inner_parts_odd"=true) (k11:PySem.W.keepIn K (.ref f11)=true)
  (a12:PySem.W.nsIn K mainGlobals "lies_free"=some (some (.ref f12))) (l12:K.lookup f12=some ⟨oc12,od12,.func (PySem.W.fnOf "lies_free" "lies_free" (defArgs s_lies_free) (defBody s_lies_free) (defScope s_lies_free) .none kV12 dc12 pm12 an12 cd12 ct12),sl12⟩) (c12:PySem.W.codeIn K cd12 "lies_free"=true) (k12:PySem.W.keepIn K (.ref f12)=true)
  (a13:PySem.W.nsIn K mainGlobals "_law_drawn"=some (some (.ref f13))) (l13:K.lookup f13=some ⟨oc13,od13,.func (PySem.W.fnOf "_law_drawn" "_law_drawn" (defArgs sDrawn) (defBody sDrawn) (defScope sDrawn) .none kV13 dc13 pm13 an13 cd13 ct13),sl13⟩) (c13:PySem.W.codeIn K cd13 "_law_drawn"=true) (k13:PySem.W.keepIn K (.ref f13)=true)
  (a14:PySem.W.nsIn K mainGlobals "_law_number"=some (some (.ref f14))) (l14:K.lookup f14=some ⟨oc14,od14,.func (PySem.W.fnOf "_law_number" "_law_number" (defArgs sNumber) (defBody sNumber) (defScope sNumber) .none kV14 dc14 pm14 an14 cd14 ct14),sl14⟩) (c14:PySem.W.codeIn K cd14 "_law_number"=true) (k14:PySem.W.keepIn K (.ref f14)=true)
  (a15:PySem.W.nsIn K mainGlobals "_law_counts"=some (some (.ref f15))) (l15:K.lookup f15=some ⟨oc15,od15,.func (PySem.W.fnOf "_law_counts" "_law_counts" (defArgs sCounts) (defBody sCounts) (defScope sCounts) .none kV15 dc15 pm15 an15 cd15 ct15),sl15⟩) (c15:PySem.W.codeIn K cd15 "_law_counts"=true) (k15:PySem.W.keepIn K (.ref f15)=true)
  (a16:PySem.W.nsIn K mainGlobals "_law_size"=some (some (.ref f16))) (l16:K.lookup f16=some ⟨oc16,od16,.func (PySem.W.fnOf "_law_size" "_law_size" (defArgs sSize) (defBody sSize) (defScope sSize) .none kV16 dc16 pm16 an16 cd16 ct16),sl16⟩) (c16:PySem.W.codeIn K cd16 "_law_size"=true) (k16:PySem.W.keepIn K (.ref f16)=true)
  (a17:PySem.W.nsIn K mainGlobals "_law_places"=some (some (.ref f17))) (l17:K.lookup f17=some ⟨oc17,od17,.func (PySem.W.fnOf "_law_places" "_law_places" (defArgs sLPlaces) (defBody sLPlaces) (defScope sLPlaces) .none kV17 dc17 pm17 an17 cd17 ct17),sl17⟩) (c17:PySem.W.codeIn K cd17 "_law_places"=true) (k17:PySem.W.keepIn K (.ref f17)=true)
  (a18:PySem.W.nsIn K mainGlobals "_law_fits"=some (some (.ref f18))) (l18:K.lookup f18=some ⟨oc18,od18,.func (PySem.W.fnOf "_law_fits" "_law_fits" (defArgs sFits) (defBody sFits) (defScope sFits) .none kV18 dc18 pm18 an18 cd18 ct18),sl18⟩) (c18:PySem.W.codeIn K cd18 "_law_fits"=true) (k18:PySem.W.keepIn K (.ref f18)=true)
  (a19:PySem.W.nsIn K mainGlobals "_law_good"=some (some (.ref f19))) (l19:K.lookup f19=some ⟨oc19,od19,.func (PySem.W.fnOf "_law_good" "_law_good" (defArgs sGood) (defBody sGood) (defScope sGood) .none kV19 dc19 pm19 an19 cd19 ct19),sl19⟩) (c19:PySem.W.codeIn K cd19 "_law_good"=true) (k19:PySem.W.keepIn K (.ref f19)=true)
  (a20:PySem.W.nsIn K mainGlobals "_law_wraps"=some (some (.ref f20))) (l20:K.lookup f20=some ⟨oc20,od20,.func (PySem.W.fnOf "_law_wraps" "_law_wraps" (defArgs sLWraps) (defBody sLWraps) (defScope sLWraps) .none kV20 dc20 pm20 an20 cd20 ct20),sl20⟩) (c20:PySem.W.codeIn K cd20 "_law_wraps"=true) (k20:PySem.W.keepIn K (.ref f20)=true)
  (a21:PySem.W.nsIn K mainGlobals "_law_held"=some (some (.ref f21))) (l21:K.lookup f21=some ⟨oc21,od21,.func (PySem.W.fnOf "_law_held" "_law_held" (defArgs sHeld) (defBody sHeld) (defScope sHeld) .none kV21 dc21 pm21 an21 cd21 ct21),sl21⟩) (c21:PySem.W.codeIn K cd21 "_law_held"=true) (k21:PySem.W.keepIn K (.ref f21)=true)
  (a22:PySem.W.nsIn K mainGlobals "_law_free"=some (some (.ref f22))) (l22:K.lookup f22=some ⟨oc22,od22,.func (PySem.W.fnOf "_law_free" "_law_free" (defArgs sLFree) (defBody sLFree) (defScope sLFree) .none kV22 dc22 pm22 an22 cd22 ct22),sl22⟩) (c22:PySem.W.codeIn K cd22 "_law_free"=true) (k22:PySem.W.keepIn K (.ref f22)=true)
  (a23:PySem.W.nsIn K mainGlobals "_law_creases"=some (some (.ref f23))) (l23:K.lookup f23=some ⟨oc23,od23,.func (PySem.W.fnOf "_law_creases" "_law_creases" (defArgs s_law_creases) (defBody s_law_creases) (defScope s_law_creases) .none kV23 dc23 pm23 an23 cd23 ct23),sl23⟩) (c23:PySem.W.codeIn K cd23 "_law_creases"=true) (k23:PySem.W.keepIn K (.ref f23)=true)
  (a24:PySem.W.nsIn K mainGlobals "_law_due"=some (some (.ref f24))) (l24:K.lookup f24=some ⟨oc24,od24,.func (PySem.W.fnOf "_law_due" "_law_due" (defArgs s_law_due) (defBody s_law_due) (defScope s_law_due) .none kV24 dc24 pm24 an24 cd24 ct24),sl24⟩) (c24:PySem.W.codeIn K cd24 "_law_due"=true) (k24:PySem.W.keepIn K (.ref f24)=true)
  (a25:PySem.W.nsIn K mainGlobals "_law_word_of"=some (some (.ref f25))) (l25:K.lookup f25=some ⟨oc25,od25,.func (PySem.W.fnOf "_law_word_of" "_law_word_of" (defArgs s_law_word_of) (defBody s_law_word_of) (defScope s_law_word_of) .none kV25 dc25 pm25 an25 cd25 ct25),sl25⟩) (c25:PySem.W.codeIn K cd25 "_law_word_of"=true) (k25:PySem.W.keepIn K (.ref f25)=true)
  (a26:PySem.W.nsIn K mainGlobals "_law_done"=some (some (.ref f26))) (l26:K.lookup f26=some ⟨oc26,od26,.func (PySem.W.fnOf "_law_done" "_law_done" (defArgs s_law_done) (defBody s_law_done) (defScope s_law_done) .none kV26 dc26 pm26 an26 cd26 ct26),sl26⟩) (c26:PySem.W.codeIn K cd26 "_law_done"=true) (k26:PySem.W.keepIn K (.ref f26)=true)
  (a27:PySem.W.nsIn K mainGlobals "_law_behind"=some (some (.ref f27))) (l27:K.lookup f27=some ⟨oc27,od27,.func (PySem.W.fnOf "_law_behind" "_law_behind" (defArgs s_law_behind) (defBody s_law_behind) (defScope s_law_behind) .none kV27 dc27 pm27 an27 cd27 ct27),sl27⟩) (c27:PySem.W.codeIn K cd27 "_law_behind"=true) (k27:PySem.W.keepIn K (.ref f27)=true)
  (a28:PySem.W.nsIn K mainGlobals "_law_row"=some (some (.ref f28))) (l28:K.lookup f28=some ⟨oc28,od28,.func (PySem.W.fnOf "_law_row" "_law_row" (defArgs s_law_row) (defBody s_law_row) (defScope s_law_row) .none kV28 dc28 pm28 an28 cd28 ct28),sl28⟩) (c28:PySem.W.codeIn K cd28 "_law_row"=true) (k28:PySem.W.keepIn K (.ref f28)=true)
  (a29:PySem.W.nsIn K mainGlobals "_law_parts"=some (some (.ref f29))) (l29:K.lookup f29=some ⟨oc29,od29,.func (PySem.W.fnOf "_law_parts" "_law_parts" (defArgs s_law_parts) (defBody s_law_parts) (defScope s_law_parts) .none kV29 dc29 pm29 an29 cd29 ct29),sl29⟩) (c29:PySem.W.codeIn K cd29 "_law_parts"=true) (k29:PySem.W.keepIn K (.ref f29)=true)
  (a30:PySem.W.nsIn K mainGlobals "_law_look"=some (some (.ref f30))) (l30:K.lookup f30=some ⟨oc30,od30,.func (PySem.W.fnOf "_law_look" "_law_look" (defArgs s_law_look) (defBody s_law_look) (defScope s_law_look) .none kV30 dc30 pm30 an30 cd30 ct30),sl30⟩) (c30:PySem.W.codeIn K cd30 "_law_look"=true) (k30:PySem.W.keepIn K (.ref f30)=true)
  (a31:PySem.W.nsIn K mainGlobals "law"=some (some (.ref f31))) (l31:K.lookup f31=some ⟨oc31,od31,.func (PySem.W.fnOf "law" "law" (defArgs sLaw) (defBody sLaw) (defScope sLaw) .none kV31 dc31 pm31 an31 cd31 ct31),sl31⟩) (c31:PySem.W.codeIn K cd31 "law"=true) (k31:PySem.W.keepIn K (.ref f31)=true)
  {C g0 g1 g2 g3 g4 g5 g6:Addr} {god0 gan0 god1 gan1 god2 gan2 god3 gan3 god4 gan4 god5 gan5 god6 gan6:Option Addr} {gsl0 gsl1 gsl2 gsl3 gsl4 gsl5 gsl6:Array (Option Value)} {goc0 gkV0 gdc0 gpm0 gcd0 gct0 goc1 gkV1 gdc1 gpm1 gcd1 gct1 goc2 gkV2 gdc2 gpm2 gcd2 gct2 goc3 gkV3 gdc3 gpm3 gcd3 gct3 goc4 gkV4 gdc4 gpm4 gcd4 gct4 goc5 gkV5 gdc5 gpm5 gcd5 gct5 goc6 gkV6 gdc6 gpm6 gcd6 gct6:Value}
  {S e0 e1 e2 e3 e4 e5:Addr}
  {dd0:Option Addr} {nm0 qn0:Str} {bs0 sub0:List Value} {ns0:Addr} {hdt0 ab0:Bool} {sn0:List Str} {col0:Option Bool} {ks0_0 ks1_0 ks2_0 ks3_0 ks5_0:Option Value} {new0:String} {bm0:List Value}
  {dd1:Option Addr} {nm1 qn1:Str} {bs1 sub1:List Value} {ns1:Addr} {hdt1 ab1:Bool} {sn1:List Str} {col1:Option Bool} {ks0_1 ks1_1 ks2_1 ks3_1 ks5_1:Option Value} {new1:String} {bm1:List Value}
  {dd2:Option Addr} {nm2 qn2:Str} {bs2 sub2:List Value} {ns2:Addr} {hdt2 ab2:Bool} {sn2:List Str} {col2:Option Bool} {ks0_2 ks1_2 ks2_2 ks3_2 ks5_2:Option Value}
  {dd3:Option Addr} {nm3 qn3:Str} {bs3 sub3:List Value} {ns3:Addr} {hdt3 ab3:Bool} {sn3:List Str} {col3:Option Bool} {ks0_3 ks1_3 ks2_3 ks3_3 ks5_3:Option Value} {new3:String} {bm3:List Value}
  {dd4:Option Addr} {nm4 qn4:Str} {bs4 sub4:List Value} {ns4:Addr} {hdt4 ab4:Bool} {sn4:List Str} {col4:Option Bool} {ks0_4 ks1_4 ks2_4 ks3_4 ks5_4:Option Value} {new4:String} {bm4:List Value}
  {dd5:Option Addr} {nm5 qn5:Str} {bs5 sub5:List Value} {ns5:Addr} {hdt5 ab5:Bool} {sn5:List Str} {col5:Option Bool} {ks0_5 ks1_5 ks2_5 ks3_5 ks5_5:Option Value}
  {ddS:Option Addr} {nmS qnS:Str} {bsS subS:List Value} {nsS:Addr} {hdtS abS:Bool} {snS:List Str} {colS:Option Bool} {ks0_S ks1_S ks2_S ks3_S ks5_S:Option Value} {newS:String}
  {noc2:Value} {nod2:Option Addr} {nes2:List DictEntry} {nnn2:Nat} {nsl2:Array (Option Value)}
  {noc5:Value} {nod5:Option Addr} {nes5:List DictEntry} {nnn5:Nat} {nsl5:Array (Option Value)}
  {nocS:Value} {nodS:Option Addr} {nesS:List DictEntry} {nnnS:Nat} {nslS:Array (Option Value)}
  (aC:PySem.W.nsIn K mainGlobals "Bench"=some (some (.ref C)))
  (ma0:PySem.W.findIn K (.ref C) "__init__"=some (some (.ref g0)))
  (mi0:PySem.W.isFn K (.ref g0)=true)
  (ml0:K.lookup g0=some ⟨goc0,god0,.func (PySem.W.fnOf "__init__" "Bench.__init__" (defArgs sInit) (defBody sInit) (defScope sInit) .none gkV0 gdc0 gpm0 gan0 gcd0 gct0),gsl0⟩)
  (mc0:PySem.W.codeIn K gcd0 "Bench.__init__"=true)
  (mk0:PySem.W.keepIn K (.ref g0)=true)
  (ma1:PySem.W.findIn K (.ref C) "draw"=some (some (.ref g1)))
  (mi1:PySem.W.isFn K (.ref g1)=true)
  (ml1:K.lookup g1=some ⟨goc1,god1,.func (PySem.W.fnOf "draw" "Bench.draw" (defArgs sDraw) (defBody sDraw) (defScope sDraw) .none gkV1 gdc1 gpm1 gan1 gcd1 gct1),gsl1⟩)
  (mc1:PySem.W.codeIn K gcd1 "Bench.draw"=true)
  (mk1:PySem.W.keepIn K (.ref g1)=true)
  (ma2:PySem.W.findIn K (.ref C) "press"=some (some (.ref g2)))
  (mi2:PySem.W.isFn K (.ref g2)=true)
  (ml2:K.lookup g2=some ⟨goc2,god2,.func (PySem.W.fnOf "press" "Bench.press" (defArgs sPress) (defBody sPress) (defScope sPress) .none gkV2 gdc2 gpm2 gan2 gcd2 gct2),gsl2⟩)
  (mc2:PySem.W.codeIn K gcd2 "Bench.press"=true)
  (mk2:PySem.W.keepIn K (.ref g2)=true)
  (ma3:PySem.W.findIn K (.ref C) "settle"=some (some (.ref g3)))
  (mi3:PySem.W.isFn K (.ref g3)=true)
  (ml3:K.lookup g3=some ⟨goc3,god3,.func (PySem.W.fnOf "settle" "Bench.settle" (defArgs sSettle) (defBody sSettle) (defScope sSettle) .none gkV3 gdc3 gpm3 gan3 gcd3 gct3),gsl3⟩)
  (mc3:PySem.W.codeIn K gcd3 "Bench.settle"=true)
  (mk3:PySem.W.keepIn K (.ref g3)=true)
  (ma4:PySem.W.findIn K (.ref C) "loose"=some (some (.ref g4)))
  (mi4:PySem.W.isFn K (.ref g4)=true)
  (ml4:K.lookup g4=some ⟨goc4,god4,.func (PySem.W.fnOf "loose" "Bench.loose" (defArgs sLoose) (defBody sLoose) (defScope sLoose) .none gkV4 gdc4 gpm4 gan4 gcd4 gct4),gsl4⟩)
  (mc4:PySem.W.codeIn K gcd4 "Bench.loose"=true)
  (mk4:PySem.W.keepIn K (.ref g4)=true)
  (ma5:PySem.W.findIn K (.ref C) "parts"=some (some (.ref g5)))
  (mi5:PySem.W.isFn K (.ref g5)=true)
  (ml5:K.lookup g5=some ⟨goc5,god5,.func (PySem.W.fnOf "parts" "Bench.parts" (defArgs sPartsB) (defBody sPartsB) (defScope sPartsB) .none gkV5 gdc5 gpm5 gan5 gcd5 gct5),gsl5⟩)
  (mc5:PySem.W.codeIn K gcd5 "Bench.parts"=true)
  (mk5:PySem.W.keepIn K (.ref g5)=true)
  (ma6:PySem.W.findIn K (.ref C) "part_between"=some (some (.ref g6)))
  (mi6:PySem.W.isFn K (.ref g6)=true)
  (ml6:K.lookup g6=some ⟨goc6,god6,.func (PySem.W.fnOf "part_between" "Bench.part_between" (defArgs sBetween) (defBody sBetween) (defScope sBetween) .none gkV6 gdc6 gpm6 gan6 gcd6 gct6),gsl6⟩)
  (mc6:PySem.W.codeIn K gcd6 "Bench.part_between"=true)
  (mk6:PySem.W.keepIn K (.ref g6)=true)
  (pg:PySem.W.plainGet K C Str.empty=true)
  (hd:PySem.W.hasDictIn K C=true)
  (po:PySem.W.plainOver K C=true)
  (sa:PySem.W.findIn K (.ref C) "__setattr__"=some (some (.builtin "object.__setattr__")))
  (mks:PySem.W.makesIn K C=true)
  (kc:PySem.W.keepIn K (.ref C)=true)
  (n_at:PySem.W.findIn K (.ref C) "at"=some none)
  (n_pile:PySem.W.findIn K (.ref C) "pile"=some none)
  (n_opened:PySem.W.findIn K (.ref C) "opened"=some none)
  (ae0:PySem.W.nsIn K mainGlobals "NoPile"=some (some (.ref e0)))
  (ae1:PySem.W.nsIn K mainGlobals "Crossing"=some (some (.ref e1)))
  (ae2:PySem.W.nsIn K mainGlobals "NoCrease"=some (some (.ref e2)))
  (ae3:PySem.W.nsIn K mainGlobals "NoLetters"=some (some (.ref e3)))
  (ae4:PySem.W.nsIn K mainGlobals "NoCount"=some (some (.ref e4)))
  (ae5:PySem.W.nsIn K mainGlobals "Stuck"=some (some (.ref e5)))
  (aS:PySem.W.nsIn K mainGlobals "StripError"=some (some (.ref S)))
  (zV:PySem.W.nsIn K mainGlobals "ValueError"=some none)
  (xi0:ExcIn K e0)
  (xi1:ExcIn K e1)
  (xi2:ExcIn K e2)
  (xi3:ExcIn K e3)
  (xi4:ExcIn K e4)
  (xi5:ExcIn K e5)
  (q00:PySem.W.kitOne K (.ref e0) (.ref e0)=some true)
  (q01:PySem.W.kitOne K (.ref e0) (.ref e1)=some false)
  (q02:PySem.W.kitOne K (.ref e0) (.ref e2)=some false)
  (q03:PySem.W.kitOne K (.ref e0) (.ref e3)=some false)
  (q04:PySem.W.kitOne K (.ref e0) (.ref e4)=some false)
  (q05:PySem.W.kitOne K (.ref e0) (.ref e5)=some false)
  (q10:PySem.W.kitOne K (.ref e1) (.ref e0)=some false)
  (q11:PySem.W.kitOne K (.ref e1) (.ref e1)=some true)
  (q12:PySem.W.kitOne K (.ref e1) (.ref e2)=some false)
  (q13:PySem.W.kitOne K (.ref e1) (.ref e3)=some false)
  (q14:PySem.W.kitOne K (.ref e1) (.ref e4)=some false)
  (q15:PySem.W.kitOne K (.ref e1) (.ref e5)=some false)
  (q20:PySem.W.kitOne K (.ref e2) (.ref e0)=some false)
  (q21:PySem.W.kitOne K (.ref e2) (.ref e1)=some false)
  (q22:PySem.W.kitOne K (.ref e2) (.ref e2)=some true)
  (q23:PySem.W.kitOne K (.ref e2) (.ref e3)=some false)
  (q24:PySem.W.kitOne K (.ref e2) (.ref e4)=some false)
  (q25:PySem.W.kitOne K (.ref e2) (.ref e5)=some false)
  (q30:PySem.W.kitOne K (.ref e3) (.ref e0)=some false)
  (q31:PySem.W.kitOne K (.ref e3) (.ref e1)=some false)
  (q32:PySem.W.kitOne K (.ref e3) (.ref e2)=some false)
  (q33:PySem.W.kitOne K (.ref e3) (.ref e3)=some true)
  (q34:PySem.W.kitOne K (.ref e3) (.ref e4)=some false)
  (q35:PySem.W.kitOne K (.ref e3) (.ref e5)=some false)
  (q40:PySem.W.kitOne K (.ref e4) (.ref e0)=some false)
  (q41:PySem.W.kitOne K (.ref e4) (.ref e1)=some false)
  (q42:PySem.W.kitOne K (.ref e4) (.ref e2)=some false)
  (q43:PySem.W.kitOne K (.ref e4) (.ref e3)=some false)
  (q44:PySem.W.kitOne K (.ref e4) (.ref e4)=some true)
  (q45:PySem.W.kitOne K (.ref e4) (.ref e5)=some false)
  (q50:PySem.W.kitOne K (.ref e5) (.ref e0)=some false)
  (q51:PySem.W.kitOne K (.ref e5) (.ref e1)=some false)
  (q52:PySem.W.kitOne K (.ref e5) (.ref e2)=some false)
  (q53:PySem.W.kitOne K (.ref e5) (.ref e3)=some false)
  (q54:PySem.W.kitOne K (.ref e5) (.ref e4)=some false)
  (q55:PySem.W.kitOne K (.ref e5) (.ref e5)=some true)
  (qv0:PySem.W.kitOne K (.ref e0) (.type "ValueError")=some true)
  (qv1:PySem.W.kitOne K (.ref e1) (.type "ValueError")=some true)
  (qv2:PySem.W.kitOne K (.ref e2) (.type "ValueError")=some true)
  (qv3:PySem.W.kitOne K (.ref e3) (.type "ValueError")=some true)
  (qv4:PySem.W.kitOne K (.ref e4) (.type "ValueError")=some true)
  (qv5:PySem.W.kitOne K (.ref e5) (.type "ValueError")=some true)
  (lcl0:K.lookup e0=some ⟨.type "type",dd0,.cls ⟨nm0,bs0,.ref e0::bm0,ns0,qn0,hdt0,sn0,sub0,ab0,col0,false⟩,#[ks0_0,ks1_0,ks2_0,ks3_0,some (.builtin new0),ks5_0]⟩)
  (lcl1:K.lookup e1=some ⟨.type "type",dd1,.cls ⟨nm1,bs1,.ref e1::bm1,ns1,qn1,hdt1,sn1,sub1,ab1,col1,false⟩,#[ks0_1,ks1_1,ks2_1,ks3_1,some (.builtin new1),ks5_1]⟩)
  (lcl2:K.lookup e2=some ⟨.type "type",dd2,.cls ⟨nm2,bs2,.ref e2::.ref S::bmV,ns2,qn2,hdt2,sn2,sub2,ab2,col2,false⟩,#[ks0_2,ks1_2,ks2_2,ks3_2,some (.builtin "ValueError.__new__"),ks5_2]⟩)
  (lcl3:K.lookup e3=some ⟨.type "type",dd3,.cls ⟨nm3,bs3,.ref e3::bm3,ns3,qn3,hdt3,sn3,sub3,ab3,col3,false⟩,#[ks0_3,ks1_3,ks2_3,ks3_3,some (.builtin new3),ks5_3]⟩)
  (lcl4:K.lookup e4=some ⟨.type "type",dd4,.cls ⟨nm4,bs4,.ref e4::bm4,ns4,qn4,hdt4,sn4,sub4,ab4,col4,false⟩,#[ks0_4,ks1_4,ks2_4,ks3_4,some (.builtin new4),ks5_4]⟩)
  (lcl5:K.lookup e5=some ⟨.type "type",dd5,.cls ⟨nm5,bs5,.ref e5::.ref S::bmV,ns5,qn5,hdt5,sn5,sub5,ab5,col5,false⟩,#[ks0_5,ks1_5,ks2_5,ks3_5,some (.builtin "ValueError.__new__"),ks5_5]⟩)
  (lclS:K.lookup S=some ⟨.type "type",ddS,.cls ⟨nmS,bsS,.ref S::bmV,nsS,qnS,hdtS,snS,subS,abS,colS,false⟩,#[ks0_S,ks1_S,ks2_S,ks3_S,some (.builtin newS),ks5_S]⟩)
  (ln2:K.lookup ns2=some ⟨noc2,nod2,.dict (List.toArray nes2) nnn2,nsl2⟩)
  (lk2:nes2.all Sf.strKey=true)
  (li2:PySem.W.nsIn K ns2 "__init__"=some none)
  (ln5:K.lookup ns5=some ⟨noc5,nod5,.dict (List.toArray nes5) nnn5,nsl5⟩)
  (lk5:nes5.all Sf.strKey=true)
  (li5:PySem.W.nsIn K ns5 "__init__"=some none)
  (lnS:K.lookup nsS=some ⟨nocS,nodS,.dict (List.toArray nesS) nnnS,nslS⟩)
  (lkS:nesS.all Sf.strKey=true)
  (liS:PySem.W.nsIn K nsS "__init__"=some none)
  (mB:PySem.W.mroIn K S (.type "BaseException")=some true)
  (mS0:PySem.W.mroIn K e0 (.ref S)=some true)
  (mS1:PySem.W.mroIn K e1 (.ref S)=some true)
  (mS2:PySem.W.mroIn K e2 (.ref S)=some true)
  (mS3:PySem.W.mroIn K e3 (.ref S)=some true)
  (mS4:PySem.W.mroIn K e4 (.ref S)=some true)
  (mS5:PySem.W.mroIn K e5 (.ref S)=some true)
  (z1:PySem.W.nsIn K mainGlobals "len"=some none) (z2:PySem.W.nsIn K mainGlobals "sorted"=some none) (z3:PySem.W.nsIn K mainGlobals "list"=some none) (z4:PySem.W.nsIn K mainGlobals "range"=some none) (z5:PySem.W.nsIn K mainGlobals "enumerate"=some none) (z6:PySem.W.nsIn K mainGlobals "isinstance"=some none) (z7:PySem.W.nsIn K mainGlobals "int"=some none) (z8:PySem.W.nsIn K mainGlobals "str"=some none) (z9:PySem.W.nsIn K mainGlobals "min"=some none) (z10:PySem.W.nsIn K mainGlobals "max"=some none) (z11:PySem.W.nsIn K mainGlobals "tuple"=some none) (z12:PySem.W.nsIn K mainGlobals "set"=some none) (z13:PySem.W.nsIn K mainGlobals "any"=some none) (z14:PySem.W.nsIn K mainGlobals "all"=some none) (z15:PySem.W.nsIn K mainGlobals "zip"=some none) :
  ∃ fd:FuncData,(∀ (s:Shared) (v:Value),BindsTo s fd ⟨[v],[]⟩ [("_law_script",v)])∧∀ base:Heap,K.In base→base.Ns mainGlobals mg→FnOk l.prog w K mg base CX0 30 fa fd ["_law_script"] (spLaw K):=by
 have e:=hfa.symm.trans (PySem.W.mg_of X G a31)
 cases e
 have T:Own mg:=⟨PySem.W.mg_none_of X G z1,PySem.W.mg_none_of X G z2,PySem.W.mg_none_of X G z3,PySem.W.mg_none_of X G z4,PySem.W.mg_none_of X G z5,PySem.W.mg_none_of X G z6,PySem.W.mg_none_of X G z7,PySem.W.mg_none_of X G z8⟩
 have M:OwnM mg:=⟨PySem.W.mg_none_of X G z9,PySem.W.mg_none_of X G z10⟩
 have U:OwnT mg:=⟨PySem.W.mg_none_of X G z11⟩
 have Z2:OwnZ mg:=⟨PySem.W.mg_none_of X G z12,PySem.W.mg_none_of X G z13,PySem.W.mg_none_of X G z14,PySem.W.mg_none_of X G z15⟩
 have D1:=def_mk (st:=sCheck) (ps:=["pile"]) X G a1 l1 c1 k1 fun _ _ _ _ _ _=>len1 fun _=>rfl
 have D2:=def_mk (st:=sPlaces) (ps:=["pile"]) X G a2 l2 c2 k2 fun _ _ _ _ _ _=>len1 fun _=>rfl
 have D3:=def_mk (st:=sWraps) (ps:=["at","crease","stamp"]) X G a3 l3 c3 k3 fun _ _ _ _ _ _=>len3 fun _ _ _=>rfl
 have D4:=def_mk (st:=sCross) (ps:=["at","one","other"]) X G a4 l4 c4 k4 fun _ _ _ _ _ _=>len3 fun _ _ _=>rfl
 have D5:=def_mk (st:=sCrossing) (ps:=["pile"]) X G a5 l5 c5 k5 fun _ _ _ _ _ _=>len1 fun _=>rfl
 have D6:=def_mk (st:=s_foldable_places) (ps:=["pile"]) X G a6 l6 c6 k6 fun _ _ _ _ _ _=>len1 fun _=>rfl
 have D7:=def_mk (st:=s_check_creases) (ps:=["stamps","creases"]) X G a7 l7 c7 k7 fun _ _ _ _ _ _=>len2 fun _ _=>rfl
 have D8:=def_mk (st:=s_ends_of_parts) (ps:=["stamps","opened"]) X G a8 l8 c8 k8 fun _ _ _ _ _ _=>len2 fun _ _=>rfl
 have D9:=def_mk (st:=s_creases_like) (ps:=["side","first","last"]) X G a9 l9 c9 k9 fun _ _ _ _ _ _=>len3 fun _ _ _=>rfl
 have D10:=def_mk (st:=s_wrapped_within) (ps:=["at","stamp","side","ends"]) X G a10 l10 c10 k10 fun _ _ _ _ _ _=>len4 fun _ _ _ _=>rfl
 have D11:=def_mk (st:=s_inner_parts_odd) (ps:=["parts"]) X G a11 l11 c11 k11 fun _ _ _ _ _ _=>len1 fun _=>rfl
 have D12:=def_mk (st:=s_lies_free) (ps:=["at","opened"]) X G a12 l12 c12 k12 fun _ _ _ _ _ _=>len2 fun _ _=>rfl
 have D13:=def_mk (st:=sDrawn) (ps:=["_law_script","_law_k"]) X G a13 l13 c13 k13 fun _ _ _ _ _ _=>len2 fun _ _=>rfl
 have D14:=def_mk (st:=sNumber) (ps:=["_law_script","_law_k"]) X G a14 l14 c14 k14 fun _ _ _ _ _ _=>len2 fun _ _=>rfl
 have D15:=def_mk (st:=sCounts) (ps:=["_law_thing"]) X G a15 l15 c15 k15 fun _ _ _ _ _ _=>len1 fun _=>rfl
 have D16:=def_mk (st:=sSize) (ps:=["_law_cell"]) X G a16 l16 c16 k16 fun _ _ _ _ _ _=>len1 fun _=>rfl
 have D17:=def_mk (st:=sLPlaces) (ps:=["_law_pile"]) X G a17 l17 c17 k17 fun _ _ _ _ _ _=>len1 fun _=>rfl
 have D18:=def_mk (st:=sFits) (ps:=["_law_at","_law_stamp","_law_gap"]) X G a18 l18 c18 k18 fun _ _ _ _ _ _=>len3 fun _ _ _=>rfl
 have D19:=def_mk (st:=sGood) (ps:=["_law_script","_law_start","_law_size_here"]) X G a19 l19 c19 k19 fun _ _ _ _ _ _=>len3 fun _ _ _=>rfl
 have D20:=def_mk (st:=sLWraps) (ps:=["_law_at","_law_crease","_law_stamp"]) X G a20 l20 c20 k20 fun _ _ _ _ _ _=>len3 fun _ _ _=>rfl
 have D21:=def_mk (st:=sHeld) (ps:=["_law_at","_law_first","_law_last","_law_crease","_law_stamp"]) X G a21 l21 c21 k21 fun _ _ _ _ _ _=>len5 fun _ _ _ _ _=>rfl
 have D22:=def_mk (st:=sLFree) (ps:=["_law_at","_law_loose"]) X G a22 l22 c22 k22 fun _ _ _ _ _ _=>len2 fun _ _=>rfl
 have D23:=def_mk (st:=s_law_creases) (ps:=["_law_size_here","_law_loose","_law_number_here"]) X G a23 l23 c23 k23 fun _ _ _ _ _ _=>len3 fun _ _ _=>rfl
 have D24:=def_mk (st:=s_law_due) (ps:=["_law_at","_law_loose","_law_creases_here","_law_drawing"]) X G a24 l24 c24 k24 fun _ _ _ _ _ _=>len4 fun _ _ _ _=>rfl
 have D25:=def_mk (st:=s_law_word_of) (ps:=["_law_e"]) X G a25 l25 c25 k25 fun _ _ _ _ _ _=>len1 fun _=>rfl
 have D26:=def_mk (st:=s_law_done) (ps:=["_law_bench","_law_creases_here","_law_drawing"]) X G a26 l26 c26 k26 fun _ _ _ _ _ _=>len3 fun _ _ _=>rfl
 have D27:=def_mk (st:=s_law_behind) (ps:=["_law_bench","_law_at","_law_loose","_law_number_here"]) X G a27 l27 c27 k27 fun _ _ _ _ _ _=>len4 fun _ _ _ _=>rfl
 have D28:=def_mk (st:=s_law_row) (ps:=["_law_found","_law_due_here"]) X G a28 l28 c28 k28 fun _ _ _ _ _ _=>len2 fun _ _=>rfl
 have D29:=def_mk (st:=s_law_parts) (ps:=["_law_found","_law_pile","_law_loose"]) X G a29 l29 c29 k29 fun _ _ _ _ _ _=>len3 fun _ _ _=>rfl
 have D30:=def_mk (st:=s_law_look) (ps:=["_law_bench","_law_pile","_law_loose","_law_number_here","_law_told"]) X G a30 l30 c30 k30 fun _ _ _ _ _ _=>len5 fun _ _ _ _ _=>rfl
 have D31:=def_mk (st:=sLaw) (ps:=["_law_script"]) X G a31 l31 c31 k31 fun _ _ _ _ _ _=>len1 fun _=>rfl
 have BC:BCl K C:=⟨⟨pg,hd,po,sa⟩,n_at,n_pile,n_opened⟩
 have MF0:=fun_mk (st:=sInit) ml0 mc0 mk0
 have MB0:=MF0.binds (ps:=["self","pile"]) fun _ _ _ _ _ _=>len2 fun _ _=>rfl
 have MF1:=fun_mk (st:=sDraw) ml1 mc1 mk1
 have MB1:=MF1.binds (ps:=["self","creases"]) fun _ _ _ _ _ _=>len2 fun _ _=>rfl
 have MD1:MDef K C "draw" "Bench.draw" sDraw ["self","creases"] g1 _:=⟨MF1,MB1,⟨ma1,mi1,mk1⟩⟩
 have MF2:=fun_mk (st:=sPress) ml2 mc2 mk2
 have MB2:=MF2.binds (ps:=["self","creases"]) fun _ _ _ _ _ _=>len2 fun _ _=>rfl
 have MD2:MDef K C "press" "Bench.press" sPress ["self","creases"] g2 _:=⟨MF2,MB2,⟨ma2,mi2,mk2⟩⟩
 have MF3:=fun_mk (st:=sSettle) ml3 mc3 mk3
 have MB3:=MF3.binds (ps:=["self","creases"]) fun _ _ _ _ _ _=>len2 fun _ _=>rfl
 have MD3:MDef K C "settle" "Bench.settle" sSettle ["self","creases"] g3 _:=⟨MF3,MB3,⟨ma3,mi3,mk3⟩⟩
 have MF4:=fun_mk (st:=sLoose) ml4 mc4 mk4
 have MB4:=MF4.binds (ps:=["self"]) fun _ _ _ _ _ _=>len1 fun _=>rfl
 have MD4:MDef K C "loose" "Bench.loose" sLoose ["self"] g4 _:=⟨MF4,MB4,⟨ma4,mi4,mk4⟩⟩
 have MF5:=fun_mk (st:=sPartsB) ml5 mc5 mk5
 have MB5:=MF5.binds (ps:=["self"]) fun _ _ _ _ _ _=>len1 fun _=>rfl
 have MD5:MDef K C "parts" "Bench.parts" sPartsB ["self"] g5 _:=⟨MF5,MB5,⟨ma5,mi5,mk5⟩⟩
 have MF6:=fun_mk (st:=sBetween) ml6 mc6 mk6
 have MB6:=MF6.binds (ps:=["self","first","last"]) fun _ _ _ _ _ _=>len3 fun _ _ _=>rfl
 have MD6:MDef K C "part_between" "Bench.part_between" sBetween ["self","first","last"] g6 _:=⟨MF6,MB6,⟨ma6,mi6,mk6⟩⟩
 have R:Errs K mg (cl6 e0 e1 e2 e3 e4 e5):=errs_mk (⟨PySem.W.mg_of X G ae0,PySem.W.mg_of X G ae1,PySem.W.mg_of X G ae2,PySem.W.mg_of X G ae3,PySem.W.mg_of X G ae4,PySem.W.mg_of X G ae5⟩) (PySem.W.mg_none_of X G zV) ⟨xi0,xi1,xi2,xi3,xi4,xi5⟩ ⟨q00,q01,q02,q03,q04,q05,q10,q11,q12,q13,q14,q15,q20,q21,q22,q23,q24,q25,q30,q31,q32,q33,q34,q35,q40,q41,q42,q43,q44,q45,q50,q51,q52,q53,q54,q55⟩ ⟨qv0,qv1,qv2,qv3,qv4,qv5⟩
 refine ⟨PySem.W.fnOf "law" "law" (defArgs sLaw) (defBody sLaw) (defScope sLaw) .none kV31 dc31 pm31 an31 cd31 ct31,fun s v=>.of_eq rfl,fun base KB GB0=>?_⟩
 have EB:ErrsB mg base (cl6 e0 e1 e2 e3 e4 e5) S:=errsB_mk KB (PySem.W.mg_of X G aS) (shape_lk lclS) mB ⟨shape_lk lcl0,shape_lk lcl1,shape_lk lcl2,shape_lk lcl3,shape_lk lcl4,shape_lk lcl5⟩ ⟨mS0,mS1,mS2,mS3,mS4,mS5⟩
 obtain ⟨bm2,X2,_⟩:=excCls_of_in KB (exc_lk lcl2 (nsOk_lk ln2 lk2) li2 lclS (nsOk_lk lnS lkS) liS)
 obtain ⟨bm5,X5,_⟩:=excCls_of_in KB (exc_lk lcl5 (nsOk_lk ln5 lk5) li5 lclS (nsOk_lk lnS lkS) liS)
 have GFO:=ok_foldp (P:=l.prog) (w:=w) (base:=base) D6 D5 D2 D1 D4 D3 T M
 have GLI:=ok_lies (P:=l.prog) (w:=w) (base:=base) D12 D8 D11 D10 D9 D3 T M Z2
 have GS0:=ok_settle (P:=l.prog) (w:=w) (base:=base) MD3 BC D12 GLI T
 have GS1:=no_settle (P:=l.prog) (w:=w) (base:=base) MD3 BC D12 GLI T (PySem.W.mg_of X G ae5) X5
 have GN:=no_creases (P:=l.prog) (w:=w) (base:=base) D7 T Z2 (PySem.W.mg_of X G ae2) X2
 have BM:BM6 l.prog w K mg base C (BenchP C) (cl6 e0 e1 e2 e3 e4 e5) 5:=⟨⟨pg,hd,po,sa⟩,benchP_ok C,PySem.W.mg_of X G aC,⟨g0,_,_,⟨mks,ma0,mi0,kc⟩,MB0,ok_initB MF0 BC D6 GFO T⟩,⟨g1,_,_,⟨ma1,mi1,mk1⟩,MB1,ok_deedD (cl:=cl6 e0 e1 e2 e3 e4 e5) (ok_drawB MD1 BC D7 MD3 GS0 T Z2) (no_draw1 (bm:=[]) MD1 BC D7 GN T Z2) (no_draw2 MD1 BC D7 (PySem.W.mg_of X G ae5) X5 T Z2) (no_draw3 MD1 BC D7 MD3 GS1 T Z2)⟩,⟨g2,_,_,⟨ma2,mi2,mk2⟩,MB2,ok_deedP (cl:=cl6 e0 e1 e2 e3 e4 e5) (ok_pressB MD2 BC D7 MD3 GS0 T Z2) (no_press1 (bm:=[]) MD2 BC D7 GN T Z2) (no_press2 MD2 BC D7 (PySem.W.mg_of X G ae5) X5 T Z2) (no_press3 MD2 BC D7 MD3 GS1 T Z2)⟩,⟨g4,_,_,⟨ma4,mi4,mk4⟩,MB4,(ok_looseB MD4 BC T).mono (by decide)⟩,⟨g5,_,_,⟨ma5,mi5,mk5⟩,MB5,(FnOk.imp (ok_partsB MD5 BC D8 MD6 T Z2) (sp':=spPartsN (BenchP C)) fun vs H Q E h=>by obtain ⟨n,b,ns,L,own,ms,h1,h2,h3,h4,h5,h6⟩:=h; exact ⟨n,b,ns,L,own,ms,h1,h2,h3,h4,h5,h6⟩).mono (by decide)⟩⟩
 exact ok_law BM (by decide) D31 T M U R EB D13 D14 D16 D15 D17 D18 D19 D20 D21 D22 D23 D24 D25 D26 D27 D28 D29 D30
theorem walk {l:PySem.W.OpenLaw} {q:Program} {loose:List Str} {XP:(Str→Option Value)→Heap→Prop} {YP:World→Heap→Prop} {d:DefRec} {K:Params→PySem.W.Frag} (hn:l.most=some 63) (hdf:d.params.defaults=[])
  (hY:∀ (w:World) (h:Heap),YP w h→(K w.params).In h)
  (F:∀ (w:World) (mg:Str→Option Value) (fa:Addr) (h:Heap),(K w.params).In h→h.Ns mainGlobals mg→mg d.name=some (.ref fa) →
   ∃ fd:FuncData,(∀ (s:Shared) (u:Value),BindsTo s fd ⟨[u],[]⟩ [("_law_script",u)])∧∀ base:Heap,(K w.params).In base→base.Ns mainGlobals mg→FnOk l.prog w (K w.params) mg base CX0 30 fa fd ["_law_script"] (spLaw (K w.params))) :
  PySem.W.WalkO q loose XP YP l.row.toRowW d [] (fun f vs=>PySem.call f vs) :=
 L2.walk_of (n:=63) (k:=30) (x:="_law_script") (CX:=fun _=>CX0) (sp:=fun w=>spLaw (K w.params)) hn (by decide) hdf ⟨rfl,by decide,by decide⟩ hY F (fun _ _ a ns hl _ hS=>⟨a,ns,rfl,hS,hl,fun _=>rfl⟩) fun _ _ _ _ _ z=>z
end Sf
namespace Tw
open PySem PySem.W PySem.W.Fast
noncomputable section
noncomputable def st (n : Nat) : Stmt := PySem.Challenge.pw_stripfold_k06_bench_deeds.main.body.getD n (.Pass ⟨0, 0, 0, 0⟩)
noncomputable def sm (n m : Nat) : Stmt := match st n with | .ClassDef (body := l) .. => l.getD m (.Pass ⟨0, 0, 0, 0⟩) | t => t
noncomputable def dA : Stmt → Arguments | .FunctionDef (args := a) .. => a | _ => default
noncomputable def dB : Stmt → List Stmt | .FunctionDef (body := b) .. => b | _ => []
noncomputable def dS : Stmt → Scope | .FunctionDef (scope := c) .. => c | _ => default
noncomputable abbrev vn : Value := .none
noncomputable abbrev vt : Value := .bool true
noncomputable abbrev i (n : Int) (t : Nat) : Value := .int n t
noncomputable abbrev j (n : Int) : Value := .int n 0
noncomputable abbrev s (x : Str) (t : Nat) : Value := .str x t
noncomputable abbrev r (a : Nat) : Value := .ref a
noncomputable abbrev S (x : Str) (t : Nat) : Option Value := some (.str x t)
noncomputable abbrev R (a : Nat) : Option Value := some (.ref a)
noncomputable abbrev y (n : String) : Value := .type n
noncomputable abbrev b (n : String) : Value := .builtin n
noncomputable abbrev D (l : Array Value) : Data := .fields l
noncomputable abbrev en (P : Params) (x : Str) (t : Nat) (v : Value) : DictEntry := ⟨PyData.keyHash P x, .str x t, v⟩
noncomputable abbrev oo (c : Value) (d : Data) : Obj := ⟨c, none, d, #[]⟩
noncomputable abbrev tu (l : List Value) : Obj := ⟨.type "tuple", none, .seq l.toArray 0, #[]⟩
noncomputable abbrev co (l : List Value) : Obj := ⟨.type "code", none, .fields l.toArray, #[]⟩
noncomputable abbrev C (n : Str) (a : Nat) (q : Str) (b c : Nat) (l m : Int) (f : Int) (x : Nat) (z : Bool) (e : Int) (p : Nat) (u v w : Value) (k h : Int) (g : Nat) : Obj := co [s n a, s q b, s "/claim/cut.py" c, j l, j m, j 0, j 0, j f, r x, .bool z, j e, r p, vn, u, v, w, j k, j h, s "/claim/cut.py" g]
noncomputable abbrev fd (n q : Str) (t : Stmt) (g : Nat) (c : List (Str × Nat)) (d k dc pm : Value) (an : Option Nat) (cd ct : Value) (bl : Nat) : Data := .func ⟨n, q, dA t, .stmts (dB t), dS t, g, c, d, k, dc, pm, an, cd, ct, bl⟩
noncomputable abbrev F (n q : Str) (t : Stmt) : Obj := oo vn (fd n q t 0 [] vn vn vn vn none vn vn 0)
noncomputable abbrev G (n q : Str) (t : Stmt) (d : Value) (m : Str) (k c : Nat) : Obj := oo (y "function") (fd n q t 3 [] d vn vn (s m k) none (r c) vn 0)
noncomputable abbrev K (o : Obj) : Params → Obj := fun _ => o
def q43:=K (tu [])
def q44:=K (oo vn (D #[]))
def q45:=K (C "<module>" 182 "<module>" 183 184 1 0 0 11 false 181 12 vn vn vn 185 1 186)
def q46:=K (Obj.mk (y "frame") none Data.plain #[(R 13),(R 3),(R 3),none,(S "__main__" 164),none,(R 0)])
def q49:=fun P:Params=>oo (y "dict") (Data.dict #[(en P "__name__" 165 (s "stripfold.errors" 187)),(en P "__doc__" 166 vn),(en P "__package__" 167 vn),(en P "__loader__" 168 (b "__main__.__loader__#opaque")),(en P "__spec__" 169 vn),(en P "__annotations__" 170 (r 6)),(en P "__builtins__" 171 (r 4)),(en P "__file__" 173 (s "/claim/cut.py" 172)),(en P "__cached__" 174 vn),(en P "StripError" 206 (r 24))] 10)
def q50:=K (oo vn (D #[(j 2),(j 0),(r 20)]))
def q51:=K (tu [(y "ValueError")])
def q52:=K (oo (y "builtin_function_or_method") (D #[(b "type.__prepare__"),(y "type")]))
def q53:=fun P:Params=>oo (y "dict") (Data.dict #[(en P "__module__" 196 (s "stripfold.errors" 187)),(en P "__qualname__" 198 (s "StripError" 197)),(en P "__firstlineno__" 200 (i 2 199)),(en P "__static_attributes__" 201 (r 22))] 4)
def q56:=K (C "StripError" 191 "StripError" 192 193 2 0 0 18 false 181 19 vn vn vn 194 2 195)
def q57:=K (Obj.mk (y "frame") none Data.plain #[(R 20),(R 3),(R 17),none,(S "stripfold.errors" 187),none,(R 0)])
def q59:=fun P:Params=>oo (y "dict") (Data.dict #[(en P "__module__" 196 (s "stripfold.errors" 187)),(en P "__firstlineno__" 200 (i 2 199)),(en P "__static_attributes__" 201 (r 22)),(en P "__weakref__" 203 (r 25)),(en P "__doc__" 204 vn)] 3)
def q60:=K (Obj.mk (y "type") none (Data.cls (ClassData.mk "StripError" [(y "ValueError")] [(r 24),(y "ValueError"),(y "Exception"),(y "BaseException"),(y "object")] 23 "StripError" true [] [] false none false)) #[(R 15),none,(S "StripError" 189),(S "StripError" 197),(some (b "ValueError.__new__")),(some vt)])
def q61:=K (oo (y "getset_descriptor") (D #[(s "__weakref__" 202),(r 24),(b "ExceptionGroup.__weakref__"),vn]))
def q62:=K (oo (y "super") (D #[(r 24),(r 24),(r 24)]))
def q63:=K (oo (y "builtin_function_or_method") (D #[(b "object.__init_subclass__"),(r 24)]))
def q64:=fun P:Params=>oo (y "dict") (Data.dict #[(en P "__name__" 165 (s "stripfold.errors" 187)),(en P "__doc__" 166 vn),(en P "__package__" 167 vn),(en P "__loader__" 168 (b "__main__.__loader__#opaque")),(en P "__spec__" 169 vn),(en P "__annotations__" 170 (r 6)),(en P "__builtins__" 171 (r 4)),(en P "__file__" 173 (s "/claim/cut.py" 172)),(en P "__cached__" 174 vn),(en P "StripError" 206 (r 24)),(en P "NoPile" 222 (r 37))] 11)
def q65:=K (oo vn (D #[(j 2),(j 0),(r 20),(j 4),(j 0),(r 33)]))
def q66:=K (Obj.mk (y "type") none (Data.cls (ClassData.mk "StripError" [(y "ValueError")] [(r 24),(y "ValueError"),(y "Exception"),(y "BaseException"),(y "object")] 23 "StripError" true [] [(r 37)] false none false)) #[(R 15),none,(S "StripError" 189),(S "StripError" 197),(some (b "ValueError.__new__")),(some vt)])
def q67:=K (tu [(r 24)])
def q69:=fun P:Params=>oo (y "dict") (Data.dict #[(en P "__module__" 214 (s "stripfold.errors" 187)),(en P "__qualname__" 216 (s "NoPile" 215)),(en P "__firstlineno__" 218 (i 4 217)),(en P "__static_attributes__" 219 (r 35))] 4)
def q72:=K (C "NoPile" 209 "NoPile" 210 211 4 0 0 31 false 181 32 vn vn vn 212 4 213)
def q73:=K (Obj.mk (y "frame") none Data.plain #[(R 33),(R 3),(R 30),none,(S "stripfold.errors" 187),none,(R 0)])
def q75:=fun P:Params=>oo (y "dict") (Data.dict #[(en P "__module__" 214 (s "stripfold.errors" 187)),(en P "__firstlineno__" 218 (i 4 217)),(en P "__static_attributes__" 219 (r 35)),(en P "__doc__" 220 vn)] 2)
def q76:=K (Obj.mk (y "type") none (Data.cls (ClassData.mk "NoPile" [(r 24)] [(r 37),(r 24),(y "ValueError"),(y "Exception"),(y "BaseException"),(y "object")] 36 "NoPile" true [] [] false none false)) #[(R 28),none,(S "NoPile" 207),(S "NoPile" 215),(some (b "ValueError.__new__")),(some vt)])
def q77:=K (oo (y "super") (D #[(r 37),(r 37),(r 37)]))
def q78:=K (oo (y "builtin_function_or_method") (D #[(b "object.__init_subclass__"),(r 37)]))
def q79:=fun P:Params=>oo (y "dict") (Data.dict #[(en P "__name__" 165 (s "stripfold.errors" 187)),(en P "__doc__" 166 vn),(en P "__package__" 167 vn),(en P "__loader__" 168 (b "__main__.__loader__#opaque")),(en P "__spec__" 169 vn),(en P "__annotations__" 170 (r 6)),(en P "__builtins__" 171 (r 4)),(en P "__file__" 173 (s "/claim/cut.py" 172)),(en P "__cached__" 174 vn),(en P "StripError" 206 (r 24)),(en P "NoPile" 222 (r 37)),(en P "NoCrease" 238 (r 49))] 12)
def q80:=K (oo vn (D #[(j 2),(j 0),(r 20),(j 4),(j 0),(r 33),(j 6),(j 0),(r 45)]))
def q81:=K (Obj.mk (y "type") none (Data.cls (ClassData.mk "StripError" [(y "ValueError")] [(r 24),(y "ValueError"),(y "Exception"),(y "BaseException"),(y "object")] 23 "StripError" true [] [(r 37),(r 49)] false none false)) #[(R 15),none,(S "StripError" 189),(S "StripError" 197),(some (b "ValueError.__new__")),(some vt)])
def q84:=fun P:Params=>oo (y "dict") (Data.dict #[(en P "__module__" 230 (s "stripfold.errors" 187)),(en P "__qualname__" 232 (s "NoCrease" 231)),(en P "__firstlineno__" 234 (i 6 233)),(en P "__static_attributes__" 235 (r 47))] 4)
def q87:=K (C "NoCrease" 225 "NoCrease" 226 227 6 0 0 43 false 181 44 vn vn vn 228 6 229)
def q88:=K (Obj.mk (y "frame") none Data.plain #[(R 45),(R 3),(R 42),none,(S "stripfold.errors" 187),none,(R 0)])
def q90:=fun P:Params=>oo (y "dict") (Data.dict #[(en P "__module__" 230 (s "stripfold.errors" 187)),(en P "__firstlineno__" 234 (i 6 233)),(en P "__static_attributes__" 235 (r 47)),(en P "__doc__" 236 vn)] 2)
def q91:=K (Obj.mk (y "type") none (Data.cls (ClassData.mk "NoCrease" [(r 24)] [(r 49),(r 24),(y "ValueError"),(y "Exception"),(y "BaseException"),(y "object")] 48 "NoCrease" true [] [] false none false)) #[(R 40),none,(S "NoCrease" 223),(S "NoCrease" 231),(some (b "ValueError.__new__")),(some vt)])
def q92:=K (oo (y "super") (D #[(r 49),(r 49),(r 49)]))
def q93:=K (oo (y "builtin_function_or_method") (D #[(b "object.__init_subclass__"),(r 49)]))
def q94:=fun P:Params=>oo (y "dict") (Data.dict #[(en P "__name__" 165 (s "stripfold.errors" 187)),(en P "__doc__" 166 vn),(en P "__package__" 167 vn),(en P "__loader__" 168 (b "__main__.__loader__#opaque")),(en P "__spec__" 169 vn),(en P "__annotations__" 170 (r 6)),(en P "__builtins__" 171 (r 4)),(en P "__file__" 173 (s "/claim/cut.py" 172)),(en P "__cached__" 174 vn),(en P "StripError" 206 (r 24)),(en P "NoPile" 222 (r 37)),(en P "NoCrease" 238 (r 49)),(en P "NoLetters" 254 (r 61))] 13)
def q95:=K (oo vn (D #[(j 2),(j 0),(r 20),(j 4),(j 0),(r 33),(j 6),(j 0),(r 45),(j 8),(j 0),(r 57)]))
def q96:=K (Obj.mk (y "type") none (Data.cls (ClassData.mk "StripError" [(y "ValueError")] [(r 24),(y "ValueError"),(y "Exception"),(y "BaseException"),(y "object")] 23 "StripError" true [] [(r 37),(r 49),(r 61)] false none false)) #[(R 15),none,(S "StripError" 189),(S "StripError" 197),(some (b "ValueError.__new__")),(some vt)])
def q99:=fun P:Params=>oo (y "dict") (Data.dict #[(en P "__module__" 246 (s "stripfold.errors" 187)),(en P "__qualname__" 248 (s "NoLetters" 247)),(en P "__firstlineno__" 250 (i 8 249)),(en P "__static_attributes__" 251 (r 59))] 4)
def q102:=K (C "NoLetters" 241 "NoLetters" 242 243 8 0 0 55 false 181 56 vn vn vn 244 8 245)
def q103:=K (Obj.mk (y "frame") none Data.plain #[(R 57),(R 3),(R 54),none,(S "stripfold.errors" 187),none,(R 0)])
def q105:=fun P:Params=>oo (y "dict") (Data.dict #[(en P "__module__" 246 (s "stripfold.errors" 187)),(en P "__firstlineno__" 250 (i 8 249)),(en P "__static_attributes__" 251 (r 59)),(en P "__doc__" 252 vn)] 2)
def q106:=K (Obj.mk (y "type") none (Data.cls (ClassData.mk "NoLetters" [(r 24)] [(r 61),(r 24),(y "ValueError"),(y "Exception"),(y "BaseException"),(y "object")] 60 "NoLetters" true [] [] false none false)) #[(R 52),none,(S "NoLetters" 239),(S "NoLetters" 247),(some (b "ValueError.__new__")),(some vt)])
def q107:=K (oo (y "super") (D #[(r 61),(r 61),(r 61)]))
def q108:=K (oo (y "builtin_function_or_method") (D #[(b "object.__init_subclass__"),(r 61)]))
def q109:=fun P:Params=>oo (y "dict") (Data.dict #[(en P "__name__" 165 (s "stripfold.errors" 187)),(en P "__doc__" 166 vn),(en P "__package__" 167 vn),(en P "__loader__" 168 (b "__main__.__loader__#opaque")),(en P "__spec__" 169 vn),(en P "__annotations__" 170 (r 6)),(en P "__builtins__" 171 (r 4)),(en P "__file__" 173 (s "/claim/cut.py" 172)),(en P "__cached__" 174 vn),(en P "StripError" 206 (r 24)),(en P "NoPile" 222 (r 37)),(en P "NoCrease" 238 (r 49)),(en P "NoLetters" 254 (r 61)),(en P "NoCount" 270 (r 73))] 14)
def q110:=K (oo vn (D #[(j 2),(j 0),(r 20),(j 4),(j 0),(r 33),(j 6),(j 0),(r 45),(j 8),(j 0),(r 57),(j 10),(j 0),(r 69)]))
def q111:=K (Obj.mk (y "type") none (Data.cls (ClassData.mk "StripError" [(y "ValueError")] [(r 24),(y "ValueError"),(y "Exception"),(y "BaseException"),(y "object")] 23 "StripError" true [] [(r 37),(r 49),(r 61),(r 73)] false none false)) #[(R 15),none,(S "StripError" 189),(S "StripError" 197),(some (b "ValueError.__new__")),(some vt)])
def q114:=fun P:Params=>oo (y "dict") (Data.dict #[(en P "__module__" 262 (s "stripfold.errors" 187)),(en P "__qualname__" 264 (s "NoCount" 263)),(en P "__firstlineno__" 266 (i 10 265)),(en P "__static_attributes__" 267 (r 71))] 4)
def q117:=K (C "NoCount" 257 "NoCount" 258 259 10 0 0 67 false 181 68 vn vn vn 260 10 261)
def q118:=K (Obj.mk (y "frame") none Data.plain #[(R 69),(R 3),(R 66),none,(S "stripfold.errors" 187),none,(R 0)])
def q120:=fun P:Params=>oo (y "dict") (Data.dict #[(en P "__module__" 262 (s "stripfold.errors" 187)),(en P "__firstlineno__" 266 (i 10 265)),(en P "__static_attributes__" 267 (r 71)),(en P "__doc__" 268 vn)] 2)
def q121:=K (Obj.mk (y "type") none (Data.cls (ClassData.mk "NoCount" [(r 24)] [(r 73),(r 24),(y "ValueError"),(y "Exception"),(y "BaseException"),(y "object")] 72 "NoCount" true [] [] false none false)) #[(R 64),none,(S "NoCount" 255),(S "NoCount" 263),(some (b "ValueError.__new__")),(some vt)])
def q122:=K (oo (y "super") (D #[(r 73),(r 73),(r 73)]))
def q123:=K (oo (y "builtin_function_or_method") (D #[(b "object.__init_subclass__"),(r 73)]))
def q124:=fun P:Params=>oo (y "dict") (Data.dict #[(en P "__name__" 165 (s "stripfold.errors" 187)),(en P "__doc__" 166 vn),(en P "__package__" 167 vn),(en P "__loader__" 168 (b "__main__.__loader__#opaque")),(en P "__spec__" 169 vn),(en P "__annotations__" 170 (r 6)),(en P "__builtins__" 171 (r 4)),(en P "__file__" 173 (s "/claim/cut.py" 172)),(en P "__cached__" 174 vn),(en P "StripError" 206 (r 24)),(en P "NoPile" 222 (r 37)),(en P "NoCrease" 238 (r 49)),(en P "NoLetters" 254 (r 61)),(en P "NoCount" 270 (r 73)),(en P "Stuck" 286 (r 85))] 15)
def q125:=K (oo vn (D #[(j 2),(j 0),(r 20),(j 4),(j 0),(r 33),(j 6),(j 0),(r 45),(j 8),(j 0),(r 57),(j 10),(j 0),(r 69),(j 12),(j 0),(r 81)]))
def q126:=K (Obj.mk (y "type") none (Data.cls (ClassData.mk "StripError" [(y "ValueError")] [(r 24),(y "ValueError"),(y "Exception"),(y "BaseException"),(y "object")] 23 "StripError" true [] [(r 37),(r 49),(r 61),(r 73),(r 85)] false none false)) #[(R 15),none,(S "StripError" 189),(S "StripError" 197),(some (b "ValueError.__new__")),(some vt)])
def q129:=fun P:Params=>oo (y "dict") (Data.dict #[(en P "__module__" 278 (s "stripfold.errors" 187)),(en P "__qualname__" 280 (s "Stuck" 279)),(en P "__firstlineno__" 282 (i 12 281)),(en P "__static_attributes__" 283 (r 83))] 4)
def q132:=K (C "Stuck" 273 "Stuck" 274 275 12 0 0 79 false 181 80 vn vn vn 276 12 277)
def q133:=K (Obj.mk (y "frame") none Data.plain #[(R 81),(R 3),(R 78),none,(S "stripfold.errors" 187),none,(R 0)])
def q135:=fun P:Params=>oo (y "dict") (Data.dict #[(en P "__module__" 278 (s "stripfold.errors" 187)),(en P "__firstlineno__" 282 (i 12 281)),(en P "__static_attributes__" 283 (r 83)),(en P "__doc__" 284 vn)] 2)
def q136:=K (Obj.mk (y "type") none (Data.cls (ClassData.mk "Stuck" [(r 24)] [(r 85),(r 24),(y "ValueError"),(y "Exception"),(y "BaseException"),(y "object")] 84 "Stuck" true [] [] false none false)) #[(R 76),none,(S "Stuck" 271),(S "Stuck" 279),(some (b "ValueError.__new__")),(some vt)])
def q137:=K (oo (y "super") (D #[(r 85),(r 85),(r 85)]))
def q138:=K (oo (y "builtin_function_or_method") (D #[(b "object.__init_subclass__"),(r 85)]))
def q139:=fun P:Params=>oo (y "dict") (Data.dict #[(en P "__name__" 165 (s "stripfold.judge" 333)),(en P "__doc__" 166 vn),(en P "__package__" 167 vn),(en P "__loader__" 168 (b "__main__.__loader__#opaque")),(en P "__spec__" 169 vn),(en P "__annotations__" 170 (r 6)),(en P "__builtins__" 171 (r 4)),(en P "__file__" 173 (s "/claim/cut.py" 172)),(en P "__cached__" 174 vn),(en P "StripError" 206 (r 24)),(en P "NoPile" 222 (r 37)),(en P "NoCrease" 238 (r 49)),(en P "NoLetters" 254 (r 61)),(en P "NoCount" 270 (r 73)),(en P "Stuck" 286 (r 85)),(en P "Crossing" 313 (r 104)),(en P "check_pile" 322 (r 113)),(en P "places" 332 (r 120)),(en P "wraps" 345 (r 127)),(en P "cross" 354 (r 134))] 20)
def q140:=K (oo vn (D #[(j 2),(j 0),(r 20),(j 4),(j 0),(r 33),(j 6),(j 0),(r 45),(j 8),(j 0),(r 57),(j 10),(j 0),(r 69),(j 12),(j 0),(r 81),(j 14),(j 0),(r 93),(j 21),(j 0),(r 112),(j 24),(j 0),(r 119),(j 31),(j 0),(r 126),(j 35),(j 0),(r 133)]))
def q141:=K (Obj.mk (y "type") none (Data.cls (ClassData.mk "StripError" [(y "ValueError")] [(r 24),(y "ValueError"),(y "Exception"),(y "BaseException"),(y "object")] 23 "StripError" true [] [(r 37),(r 49),(r 61),(r 73),(r 85),(r 104)] false none false)) #[(R 15),none,(S "StripError" 189),(S "StripError" 197),(some (b "ValueError.__new__")),(some vt)])
def q144:=fun P:Params=>oo (y "dict") (Data.dict #[(en P "__module__" 294 (s "stripfold.errors" 187)),(en P "__qualname__" 296 (s "Crossing" 295)),(en P "__firstlineno__" 298 (i 14 297)),(en P "__init__" 307 (r 101)),(en P "__static_attributes__" 310 (r 102))] 5)
def q146:=K (oo vn (D #[(j 16),(j 4),(r 100)]))
def q147:=K (C "Crossing" 289 "Crossing" 290 291 14 0 0 91 false 181 92 vn vn vn 292 14 293)
def q148:=K (Obj.mk (y "frame") none Data.plain #[(R 93),(R 3),(R 90),none,(S "stripfold.errors" 187),none,(R 0)])
def q151:=K (tu [(s "self" 302),(s "one" 303),(s "other" 304)])
def q153:=K (F "__init__" "Crossing.__init__" (sm 7 0))
def q154:=K (C "__init__" 299 "Crossing.__init__" 300 301 16 3 3 95 true 181 96 (r 97) (r 98) (r 99) 305 16 306)
def q155:=K (G "__init__" "Crossing.__init__" (sm 7 0) vn "stripfold.errors" 187 100)
def q156:=K (tu [(s "one" 308),(s "other" 309)])
def q157:=fun P:Params=>oo (y "dict") (Data.dict #[(en P "__module__" 294 (s "stripfold.errors" 187)),(en P "__firstlineno__" 298 (i 14 297)),(en P "__init__" 307 (r 101)),(en P "__static_attributes__" 310 (r 102)),(en P "__doc__" 311 vn)] 2)
def q158:=K (Obj.mk (y "type") none (Data.cls (ClassData.mk "Crossing" [(r 24)] [(r 104),(r 24),(y "ValueError"),(y "Exception"),(y "BaseException"),(y "object")] 103 "Crossing" true [] [] false none false)) #[(R 88),none,(S "Crossing" 287),(S "Crossing" 295),(some (b "ValueError.__new__")),(some vt)])
def q159:=K (oo (y "super") (D #[(r 104),(r 104),(r 104)]))
def q160:=K (oo (y "builtin_function_or_method") (D #[(b "object.__init_subclass__"),(r 104)]))
def q163:=K (tu [(s "pile" 319)])
def q165:=K (F "check_pile" "check_pile" (st 9))
def q166:=K (C "check_pile" 316 "check_pile" 317 318 21 1 3 107 true 181 108 (r 109) (r 110) (r 111) 320 21 321)
def q167:=K (G "check_pile" "check_pile" (st 9) vn "stripfold.piles" 314 112)
def q170:=K (tu [(s "pile" 326),(s "found" 327),(s "place" 328),(s "stamp" 329)])
def q172:=K (F "places" "places" (st 10))
def q173:=K (C "places" 323 "places" 324 325 24 1 3 114 true 181 115 (r 116) (r 117) (r 118) 330 24 331)
def q174:=K (G "places" "places" (st 10) vn "stripfold.piles" 314 119)
def q177:=K (tu [(s "at" 338),(s "crease" 339),(s "stamp" 340),(s "low" 341),(s "high" 342)])
def q179:=K (F "wraps" "wraps" (st 12))
def q180:=K (C "wraps" 335 "wraps" 336 337 31 3 3 121 true 181 122 (r 123) (r 124) (r 125) 343 31 344)
def q181:=K (G "wraps" "wraps" (st 12) vn "stripfold.judge" 333 126)
def q184:=K (tu [(s "at" 349),(s "one" 350),(s "other" 351)])
def q186:=K (F "cross" "cross" (st 13))
def q187:=K (C "cross" 346 "cross" 347 348 35 3 3 128 true 181 129 (r 130) (r 131) (r 132) 352 35 353)
def q188:=K (G "cross" "cross" (st 13) vn "stripfold.judge" 333 133)
def q189:=fun P:Params=>oo (y "dict") (Data.dict #[(en P "__name__" 165 (s "stripfold.bench" 421)),(en P "__doc__" 166 vn),(en P "__package__" 167 vn),(en P "__loader__" 168 (b "__main__.__loader__#opaque")),(en P "__spec__" 169 vn),(en P "__annotations__" 170 (r 6)),(en P "__builtins__" 171 (r 4)),(en P "__file__" 173 (s "/claim/cut.py" 172)),(en P "__cached__" 174 vn),(en P "StripError" 206 (r 24)),(en P "NoPile" 222 (r 37)),(en P "NoCrease" 238 (r 49)),(en P "NoLetters" 254 (r 61)),(en P "NoCount" 270 (r 73)),(en P "Stuck" 286 (r 85)),(en P "Crossing" 313 (r 104)),(en P "check_pile" 322 (r 113)),(en P "places" 332 (r 120)),(en P "wraps" 345 (r 127)),(en P "cross" 354 (r 134)),(en P "crossing" 365 (r 141)),(en P "foldable_places" 373 (r 148)),(en P "check_creases" 384 (r 155)),(en P "ends_of_parts" 390 (r 160)),(en P "creases_like" 396 (r 165)),(en P "wrapped_within" 402 (r 170)),(en P "inner_parts_odd" 408 (r 175)),(en P "lies_free" 420 (r 182))] 28)
def q190:=K (oo vn (D #[(j 2),(j 0),(r 20),(j 4),(j 0),(r 33),(j 6),(j 0),(r 45),(j 8),(j 0),(r 57),(j 10),(j 0),(r 69),(j 12),(j 0),(r 81),(j 14),(j 0),(r 93),(j 21),(j 0),(r 112),(j 24),(j 0),(r 119),(j 31),(j 0),(r 126),(j 35),(j 0),(r 133),(j 37),(j 0),(r 140),(j 45),(j 0),(r 147),(j 51),(j 0),(r 154),(j 57),(j 0),(r 159),(j 61),(j 0),(r 164),(j 63),(j 0),(r 169),(j 65),(j 0),(r 174),(j 67),(j 0),(r 181)]))
def q193:=K (tu [(s "pile" 358),(s "at" 359),(s "creases" 360),(s "one" 361),(s "other" 362)])
def q195:=K (F "crossing" "crossing" (st 14))
def q196:=K (C "crossing" 355 "crossing" 356 357 37 1 3 135 true 181 136 (r 137) (r 138) (r 139) 363 37 364)
def q197:=K (G "crossing" "crossing" (st 14) vn "stripfold.judge" 333 140)
def q200:=K (tu [(s "pile" 369),(s "pair" 370)])
def q202:=K (F "foldable_places" "foldable_places" (st 15))
def q203:=K (C "foldable_places" 366 "foldable_places" 367 368 45 1 3 142 true 181 143 (r 144) (r 145) (r 146) 371 45 372)
def q204:=K (G "foldable_places" "foldable_places" (st 15) vn "stripfold.judge" 333 147)
def q207:=K (tu [(s "stamps" 379),(s "creases" 380),(s "crease" 381)])
def q209:=K (F "check_creases" "check_creases" (st 17))
def q210:=K (C "check_creases" 376 "check_creases" 377 378 51 2 3 149 true 181 150 (r 151) (r 152) (r 153) 382 51 383)
def q211:=K (G "check_creases" "check_creases" (st 17) vn "stripfold.opening" 374 154)
def q214:=K (F "ends_of_parts" "ends_of_parts" (st 18))
def q215:=K (C "ends_of_parts" 385 "ends_of_parts" 386 387 57 2 3 156 true 181 157 vn vn (r 158) 388 57 389)
def q216:=K (G "ends_of_parts" "ends_of_parts" (st 18) vn "stripfold.opening" 374 159)
def q219:=K (F "creases_like" "creases_like" (st 19))
def q220:=K (C "creases_like" 391 "creases_like" 392 393 61 3 3 161 true 181 162 vn vn (r 163) 394 61 395)
def q221:=K (G "creases_like" "creases_like" (st 19) vn "stripfold.opening" 374 164)
def q224:=K (F "wrapped_within" "wrapped_within" (st 20))
def q225:=K (C "wrapped_within" 397 "wrapped_within" 398 399 63 4 3 166 true 181 167 vn vn (r 168) 400 63 401)
def q226:=K (G "wrapped_within" "wrapped_within" (st 20) vn "stripfold.opening" 374 169)
def q229:=K (F "inner_parts_odd" "inner_parts_odd" (st 21))
def q230:=K (C "inner_parts_odd" 403 "inner_parts_odd" 404 405 65 1 3 171 true 181 172 vn vn (r 173) 406 65 407)
def q231:=K (G "inner_parts_odd" "inner_parts_odd" (st 21) vn "stripfold.opening" 374 174)
def q234:=K (tu [(s "at" 412),(s "opened" 413),(s "parts" 414),(s "crease" 415),(s "before" 416),(s "behind" 417)])
def q236:=K (F "lies_free" "lies_free" (st 22))
def q237:=K (C "lies_free" 409 "lies_free" 410 411 67 2 3 176 true 181 177 (r 178) (r 179) (r 180) 418 67 419)
def q238:=K (G "lies_free" "lies_free" (st 22) vn "stripfold.opening" 374 181)
def q239:=fun P:Params=>oo (y "dict") (Data.dict #[(en P "__name__" 165 (s "stripfold.bench" 421)),(en P "__doc__" 166 vn),(en P "__package__" 167 vn),(en P "__loader__" 168 (b "__main__.__loader__#opaque")),(en P "__spec__" 169 vn),(en P "__annotations__" 170 (r 6)),(en P "__builtins__" 171 (r 4)),(en P "__file__" 173 (s "/claim/cut.py" 172)),(en P "__cached__" 174 vn),(en P "StripError" 206 (r 24)),(en P "NoPile" 222 (r 37)),(en P "NoCrease" 238 (r 49)),(en P "NoLetters" 254 (r 61)),(en P "NoCount" 270 (r 73)),(en P "Stuck" 286 (r 85)),(en P "Crossing" 313 (r 104)),(en P "check_pile" 322 (r 113)),(en P "places" 332 (r 120)),(en P "wraps" 345 (r 127)),(en P "cross" 354 (r 134)),(en P "crossing" 365 (r 141)),(en P "foldable_places" 373 (r 148)),(en P "check_creases" 384 (r 155)),(en P "ends_of_parts" 390 (r 160)),(en P "creases_like" 396 (r 165)),(en P "wrapped_within" 402 (r 170)),(en P "inner_parts_odd" 408 (r 175)),(en P "lies_free" 420 (r 182)),(en P "Bench" 493 (r 233))] 29)
def q240:=K (oo vn (D #[(j 2),(j 0),(r 20),(j 4),(j 0),(r 33),(j 6),(j 0),(r 45),(j 8),(j 0),(r 57),(j 10),(j 0),(r 69),(j 12),(j 0),(r 81),(j 14),(j 0),(r 93),(j 21),(j 0),(r 112),(j 24),(j 0),(r 119),(j 31),(j 0),(r 126),(j 35),(j 0),(r 133),(j 37),(j 0),(r 140),(j 45),(j 0),(r 147),(j 51),(j 0),(r 154),(j 57),(j 0),(r 159),(j 61),(j 0),(r 164),(j 63),(j 0),(r 169),(j 65),(j 0),(r 174),(j 67),(j 0),(r 181),(j 76),(j 0),(r 188)]))
def q243:=fun P:Params=>oo (y "dict") (Data.dict #[(en P "__module__" 430 (s "stripfold.bench" 421)),(en P "__qualname__" 432 (s "Bench" 431)),(en P "__firstlineno__" 434 (i 76 433)),(en P "__init__" 442 (r 196)),(en P "draw" 448 (r 201)),(en P "press" 454 (r 206)),(en P "settle" 463 (r 213)),(en P "loose" 470 (r 220)),(en P "parts" 476 (r 225)),(en P "part_between" 482 (r 230)),(en P "__static_attributes__" 486 (r 231))] 11)
def q245:=K (oo vn (D #[(j 78),(j 4),(r 195),(j 83),(j 4),(r 200),(j 89),(j 4),(r 205),(j 95),(j 4),(r 212),(j 101),(j 4),(r 219),(j 104),(j 4),(r 224),(j 107),(j 4),(r 229)]))
def q246:=K (C "Bench" 425 "Bench" 426 427 76 0 0 186 false 181 187 vn vn vn 428 76 429)
def q247:=K (Obj.mk (y "frame") none Data.plain #[(R 188),(R 3),(R 185),none,(S "stripfold.bench" 421),none,(R 0)])
def q250:=K (tu [(s "self" 438),(s "pile" 439)])
def q252:=K (F "__init__" "Bench.__init__" (sm 24 0))
def q253:=K (C "__init__" 435 "Bench.__init__" 436 437 78 2 3 190 true 181 191 (r 192) (r 193) (r 194) 440 78 441)
def q254:=K (G "__init__" "Bench.__init__" (sm 24 0) vn "stripfold.bench" 421 195)
def q257:=K (F "draw" "Bench.draw" (sm 24 1))
def q258:=K (C "draw" 443 "Bench.draw" 444 445 83 2 3 197 true 181 198 vn vn (r 199) 446 83 447)
def q259:=K (G "draw" "Bench.draw" (sm 24 1) vn "stripfold.bench" 421 200)
def q262:=K (F "press" "Bench.press" (sm 24 2))
def q263:=K (C "press" 449 "Bench.press" 450 451 89 2 3 202 true 181 203 vn vn (r 204) 452 89 453)
def q264:=K (G "press" "Bench.press" (sm 24 2) vn "stripfold.bench" 421 205)
def q267:=K (tu [(s "self" 458),(s "creases" 459),(s "rising" 460)])
def q269:=K (F "settle" "Bench.settle" (sm 24 3))
def q270:=K (C "settle" 455 "Bench.settle" 456 457 95 2 3 207 true 181 208 (r 209) (r 210) (r 211) 461 95 462)
def q271:=K (G "settle" "Bench.settle" (sm 24 3) vn "stripfold.bench" 421 212)
def q274:=K (tu [(s "self" 467)])
def q276:=K (F "loose" "Bench.loose" (sm 24 4))
def q277:=K (C "loose" 464 "Bench.loose" 465 466 101 1 3 214 true 181 215 (r 216) (r 217) (r 218) 468 101 469)
def q278:=K (G "loose" "Bench.loose" (sm 24 4) vn "stripfold.bench" 421 219)
def q281:=K (F "parts" "Bench.parts" (sm 24 5))
def q282:=K (C "parts" 471 "Bench.parts" 472 473 104 1 3 221 true 181 222 vn vn (r 223) 474 104 475)
def q283:=K (G "parts" "Bench.parts" (sm 24 5) vn "stripfold.bench" 421 224)
def q286:=K (F "part_between" "Bench.part_between" (sm 24 6))
def q287:=K (C "part_between" 477 "Bench.part_between" 478 479 107 3 3 226 true 181 227 vn vn (r 228) 480 107 481)
def q288:=K (G "part_between" "Bench.part_between" (sm 24 6) vn "stripfold.bench" 421 229)
def q289:=K (tu [(s "at" 483),(s "opened" 484),(s "pile" 485)])
def q290:=fun P:Params=>oo (y "dict") (Data.dict #[(en P "__module__" 430 (s "stripfold.bench" 421)),(en P "__firstlineno__" 434 (i 76 433)),(en P "__init__" 442 (r 196)),(en P "draw" 448 (r 201)),(en P "press" 454 (r 206)),(en P "settle" 463 (r 213)),(en P "loose" 470 (r 220)),(en P "parts" 476 (r 225)),(en P "part_between" 482 (r 230)),(en P "__static_attributes__" 486 (r 231)),(en P "__dict__" 488 (r 234)),(en P "__weakref__" 490 (r 235)),(en P "__doc__" 491 vn)] 4)
def q291:=K (Obj.mk (y "type") none (Data.cls (ClassData.mk "Bench" [(y "object")] [(r 233),(y "object")] 232 "Bench" true [] [] false none false)) #[none,none,(S "Bench" 423),(S "Bench" 431),(some (b "object.__new__")),(some vt)])
def q292:=K (oo (y "getset_descriptor") (D #[(s "__dict__" 487),(r 233),(b "function.__dict__"),(b "function.__dict__#set")]))
def q293:=K (oo (y "getset_descriptor") (D #[(s "__weakref__" 489),(r 233),(b "ExceptionGroup.__weakref__"),vn]))
def q294:=K (oo (y "super") (D #[(r 233),(r 233),(r 233)]))
def q295:=K (oo (y "builtin_function_or_method") (D #[(b "object.__init_subclass__"),(r 233)]))
def q296:=fun P:Params=>oo (y "dict") (Data.dict #[(en P "__name__" 165 (s "law_stripfold_k06_bench_deeds" 494)),(en P "__doc__" 166 vn),(en P "__package__" 167 vn),(en P "__loader__" 168 (b "__main__.__loader__#opaque")),(en P "__spec__" 169 vn),(en P "__annotations__" 170 (r 6)),(en P "__builtins__" 171 (r 4)),(en P "__file__" 173 (s "/claim/cut.py" 172)),(en P "__cached__" 174 vn),(en P "StripError" 206 (r 24)),(en P "NoPile" 222 (r 37)),(en P "NoCrease" 238 (r 49)),(en P "NoLetters" 254 (r 61)),(en P "NoCount" 270 (r 73)),(en P "Stuck" 286 (r 85)),(en P "Crossing" 313 (r 104)),(en P "check_pile" 322 (r 113)),(en P "places" 332 (r 120)),(en P "wraps" 345 (r 127)),(en P "cross" 354 (r 134)),(en P "crossing" 365 (r 141)),(en P "foldable_places" 373 (r 148)),(en P "check_creases" 384 (r 155)),(en P "ends_of_parts" 390 (r 160)),(en P "creases_like" 396 (r 165)),(en P "wrapped_within" 402 (r 170)),(en P "inner_parts_odd" 408 (r 175)),(en P "lies_free" 420 (r 182)),(en P "Bench" 493 (r 233)),(en P "_law_drawn" 503 (r 244)),(en P "_law_number" 512 (r 251)),(en P "_law_counts" 519 (r 258)),(en P "_law_size" 526 (r 265)),(en P "_law_places" 535 (r 272)),(en P "_law_fits" 547 (r 279)),(en P "_law_good" 561 (r 286)),(en P "_law_wraps" 572 (r 293)),(en P "_law_held" 584 (r 300)),(en P "_law_free" 595 (r 307)),(en P "_law_creases" 601 (r 312)),(en P "_law_due" 607 (r 317))] 41)
def q297:=K (oo vn (D #[(j 2),(j 0),(r 20),(j 4),(j 0),(r 33),(j 6),(j 0),(r 45),(j 8),(j 0),(r 57),(j 10),(j 0),(r 69),(j 12),(j 0),(r 81),(j 14),(j 0),(r 93),(j 21),(j 0),(r 112),(j 24),(j 0),(r 119),(j 31),(j 0),(r 126),(j 35),(j 0),(r 133),(j 37),(j 0),(r 140),(j 45),(j 0),(r 147),(j 51),(j 0),(r 154),(j 57),(j 0),(r 159),(j 61),(j 0),(r 164),(j 63),(j 0),(r 169),(j 65),(j 0),(r 174),(j 67),(j 0),(r 181),(j 76),(j 0),(r 188),(j 110),(j 0),(r 243),(j 112),(j 0),(r 250),(j 119),(j 0),(r 257),(j 121),(j 0),(r 264),(j 123),(j 0),(r 271),(j 128),(j 0),(r 278),(j 135),(j 0),(r 285),(j 145),(j 0),(r 292),(j 149),(j 0),(r 299),(j 154),(j 0),(r 306),(j 166),(j 0),(r 311),(j 185),(j 0),(r 316)]))
def q300:=K (tu [(s "_law_script" 499),(s "_law_k" 500)])
def q302:=K (F "_law_drawn" "_law_drawn" (st 26))
def q303:=K (C "_law_drawn" 496 "_law_drawn" 497 498 110 2 3 238 true 181 239 (r 240) (r 241) (r 242) 501 110 502)
def q304:=K (G "_law_drawn" "_law_drawn" (st 26) vn "law_stripfold_k06_bench_deeds" 494 243)
def q307:=K (tu [(s "_law_script" 507),(s "_law_k" 508),(s "_law_cell" 509)])
def q309:=K (F "_law_number" "_law_number" (st 27))
def q310:=K (C "_law_number" 504 "_law_number" 505 506 112 2 3 245 true 181 246 (r 247) (r 248) (r 249) 510 112 511)
def q311:=K (G "_law_number" "_law_number" (st 27) vn "law_stripfold_k06_bench_deeds" 494 250)
def q314:=K (tu [(s "_law_thing" 516)])
def q316:=K (F "_law_counts" "_law_counts" (st 28))
def q317:=K (C "_law_counts" 513 "_law_counts" 514 515 119 1 3 252 true 181 253 (r 254) (r 255) (r 256) 517 119 518)
def q318:=K (G "_law_counts" "_law_counts" (st 28) vn "law_stripfold_k06_bench_deeds" 494 257)
def q321:=K (tu [(s "_law_cell" 523)])
def q323:=K (F "_law_size" "_law_size" (st 29))
def q324:=K (C "_law_size" 520 "_law_size" 521 522 121 1 3 259 true 181 260 (r 261) (r 262) (r 263) 524 121 525)
def q325:=K (G "_law_size" "_law_size" (st 29) vn "law_stripfold_k06_bench_deeds" 494 264)
def q328:=K (tu [(s "_law_pile" 530),(s "_law_at" 531),(s "_law_k" 532)])
def q330:=K (F "_law_places" "_law_places" (st 30))
def q331:=K (C "_law_places" 527 "_law_places" 528 529 123 1 3 266 true 181 267 (r 268) (r 269) (r 270) 533 123 534)
def q332:=K (G "_law_places" "_law_places" (st 30) vn "law_stripfold_k06_bench_deeds" 494 271)
def q335:=K (tu [(s "_law_at" 539),(s "_law_stamp" 540),(s "_law_gap" 541),(s "_law_crease" 542),(s "_law_low" 543),(s "_law_high" 544)])
def q337:=K (F "_law_fits" "_law_fits" (st 31))
def q338:=K (C "_law_fits" 536 "_law_fits" 537 538 128 3 3 273 true 181 274 (r 275) (r 276) (r 277) 545 128 546)
def q339:=K (G "_law_fits" "_law_fits" (st 31) vn "law_stripfold_k06_bench_deeds" 494 278)
def q342:=K (tu [(s "_law_script" 551),(s "_law_start" 552),(s "_law_size_here" 553),(s "_law_pile" 554),(s "_law_stamp" 555),(s "_law_at" 556),(s "_law_number_here" 557),(s "_law_gap" 558)])
def q344:=K (F "_law_good" "_law_good" (st 32))
def q345:=K (C "_law_good" 548 "_law_good" 549 550 135 3 3 280 true 181 281 (r 282) (r 283) (r 284) 559 135 560)
def q346:=K (G "_law_good" "_law_good" (st 32) vn "law_stripfold_k06_bench_deeds" 494 285)
def q349:=K (tu [(s "_law_at" 565),(s "_law_crease" 566),(s "_law_stamp" 567),(s "_law_low" 568),(s "_law_high" 569)])
def q351:=K (F "_law_wraps" "_law_wraps" (st 33))
def q352:=K (C "_law_wraps" 562 "_law_wraps" 563 564 145 3 3 287 true 181 288 (r 289) (r 290) (r 291) 570 145 571)
def q353:=K (G "_law_wraps" "_law_wraps" (st 33) vn "law_stripfold_k06_bench_deeds" 494 292)
def q356:=K (tu [(s "_law_at" 576),(s "_law_first" 577),(s "_law_last" 578),(s "_law_crease" 579),(s "_law_stamp" 580),(s "_law_other" 581)])
def q358:=K (F "_law_held" "_law_held" (st 34))
def q359:=K (C "_law_held" 573 "_law_held" 574 575 149 5 3 294 true 181 295 (r 296) (r 297) (r 298) 582 149 583)
def q360:=K (G "_law_held" "_law_held" (st 34) vn "law_stripfold_k06_bench_deeds" 494 299)
def q363:=K (tu [(s "_law_at" 588),(s "_law_loose" 589),(s "_law_end" 590),(s "_law_first" 591),(s "_law_last" 592)])
def q365:=K (F "_law_free" "_law_free" (st 35))
def q366:=K (C "_law_free" 585 "_law_free" 586 587 154 2 3 301 true 181 302 (r 303) (r 304) (r 305) 593 154 594)
def q367:=K (G "_law_free" "_law_free" (st 35) vn "law_stripfold_k06_bench_deeds" 494 306)
def q370:=K (F "_law_creases" "_law_creases" (st 36))
def q371:=K (C "_law_creases" 596 "_law_creases" 597 598 166 3 3 308 true 181 309 vn vn (r 310) 599 166 600)
def q372:=K (G "_law_creases" "_law_creases" (st 36) vn "law_stripfold_k06_bench_deeds" 494 311)
def q375:=K (F "_law_due" "_law_due" (st 37))
def q376:=K (C "_law_due" 602 "_law_due" 603 604 185 4 3 313 true 181 314 vn vn (r 315) 605 185 606)
def q377:=K (G "_law_due" "_law_due" (st 37) vn "law_stripfold_k06_bench_deeds" 494 316)
def q378:=fun P:Params=>oo (y "dict") (Data.dict #[(en P "__name__" 165 (s "law_stripfold_k06_bench_deeds" 494)),(en P "__doc__" 166 vn),(en P "__package__" 167 vn),(en P "__loader__" 168 (b "__main__.__loader__#opaque")),(en P "__spec__" 169 vn),(en P "__annotations__" 170 (r 6)),(en P "__builtins__" 171 (r 4)),(en P "__file__" 173 (s "/claim/cut.py" 172)),(en P "__cached__" 174 vn),(en P "StripError" 206 (r 24)),(en P "NoPile" 222 (r 37)),(en P "NoCrease" 238 (r 49)),(en P "NoLetters" 254 (r 61)),(en P "NoCount" 270 (r 73)),(en P "Stuck" 286 (r 85)),(en P "Crossing" 313 (r 104)),(en P "check_pile" 322 (r 113)),(en P "places" 332 (r 120)),(en P "wraps" 345 (r 127)),(en P "cross" 354 (r 134)),(en P "crossing" 365 (r 141)),(en P "foldable_places" 373 (r 148)),(en P "check_creases" 384 (r 155)),(en P "ends_of_parts" 390 (r 160)),(en P "creases_like" 396 (r 165)),(en P "wrapped_within" 402 (r 170)),(en P "inner_parts_odd" 408 (r 175)),(en P "lies_free" 420 (r 182)),(en P "Bench" 493 (r 233)),(en P "_law_drawn" 503 (r 244)),(en P "_law_number" 512 (r 251)),(en P "_law_counts" 519 (r 258)),(en P "_law_size" 526 (r 265)),(en P "_law_places" 535 (r 272)),(en P "_law_fits" 547 (r 279)),(en P "_law_good" 561 (r 286)),(en P "_law_wraps" 572 (r 293)),(en P "_law_held" 584 (r 300)),(en P "_law_free" 595 (r 307)),(en P "_law_creases" 601 (r 312)),(en P "_law_due" 607 (r 317)),(en P "_law_word_of" 615 (r 324)),(en P "_law_done" 626 (r 331)),(en P "_law_behind" 632 (r 336)),(en P "_law_row" 641 (r 343)),(en P "_law_parts" 647 (r 348)),(en P "_law_look" 653 (r 353)),(en P "law" 675 (r 360))] 48)
def q379:=K (oo vn (D #[(j 2),(j 0),(r 20),(j 4),(j 0),(r 33),(j 6),(j 0),(r 45),(j 8),(j 0),(r 57),(j 10),(j 0),(r 69),(j 12),(j 0),(r 81),(j 14),(j 0),(r 93),(j 21),(j 0),(r 112),(j 24),(j 0),(r 119),(j 31),(j 0),(r 126),(j 35),(j 0),(r 133),(j 37),(j 0),(r 140),(j 45),(j 0),(r 147),(j 51),(j 0),(r 154),(j 57),(j 0),(r 159),(j 61),(j 0),(r 164),(j 63),(j 0),(r 169),(j 65),(j 0),(r 174),(j 67),(j 0),(r 181),(j 76),(j 0),(r 188),(j 110),(j 0),(r 243),(j 112),(j 0),(r 250),(j 119),(j 0),(r 257),(j 121),(j 0),(r 264),(j 123),(j 0),(r 271),(j 128),(j 0),(r 278),(j 135),(j 0),(r 285),(j 145),(j 0),(r 292),(j 149),(j 0),(r 299),(j 154),(j 0),(r 306),(j 166),(j 0),(r 311),(j 185),(j 0),(r 316),(j 198),(j 0),(r 323),(j 203),(j 0),(r 330),(j 215),(j 0),(r 335),(j 231),(j 0),(r 342),(j 238),(j 0),(r 347),(j 248),(j 0),(r 352),(j 265),(j 0),(r 359)]))
def q382:=K (tu [(s "_law_e" 611),(s "_law_others" 612)])
def q384:=K (F "_law_word_of" "_law_word_of" (st 38))
def q385:=K (C "_law_word_of" 608 "_law_word_of" 609 610 198 1 3 318 true 181 319 (r 320) (r 321) (r 322) 613 198 614)
def q386:=K (G "_law_word_of" "_law_word_of" (st 38) vn "law_stripfold_k06_bench_deeds" 494 323)
def q389:=K (tu [(s "_law_bench" 619),(s "_law_creases_here" 620),(s "_law_drawing" 621),(s "_law_word" 622),(s "_law_e" 623)])
def q391:=K (F "_law_done" "_law_done" (st 39))
def q392:=K (C "_law_done" 616 "_law_done" 617 618 203 3 3 325 true 181 326 (r 327) (r 328) (r 329) 624 203 625)
def q393:=K (G "_law_done" "_law_done" (st 39) vn "law_stripfold_k06_bench_deeds" 494 330)
def q396:=K (F "_law_behind" "_law_behind" (st 40))
def q397:=K (C "_law_behind" 627 "_law_behind" 628 629 215 4 3 332 true 181 333 vn vn (r 334) 630 215 631)
def q398:=K (G "_law_behind" "_law_behind" (st 40) vn "law_stripfold_k06_bench_deeds" 494 335)
def q401:=K (tu [(s "_law_found" 636),(s "_law_due_here" 637),(s "_law_k" 638)])
def q403:=K (F "_law_row" "_law_row" (st 41))
def q404:=K (C "_law_row" 633 "_law_row" 634 635 231 2 3 337 true 181 338 (r 339) (r 340) (r 341) 639 231 640)
def q405:=K (G "_law_row" "_law_row" (st 41) vn "law_stripfold_k06_bench_deeds" 494 342)
def q408:=K (F "_law_parts" "_law_parts" (st 42))
def q409:=K (C "_law_parts" 642 "_law_parts" 643 644 238 3 3 344 true 181 345 vn vn (r 346) 645 238 646)
def q410:=K (G "_law_parts" "_law_parts" (st 42) vn "law_stripfold_k06_bench_deeds" 494 347)
def q413:=K (F "_law_look" "_law_look" (st 43))
def q414:=K (C "_law_look" 648 "_law_look" 649 650 248 5 3 349 true 181 350 vn vn (r 351) 651 248 652)
def q415:=K (G "_law_look" "_law_look" (st 43) vn "law_stripfold_k06_bench_deeds" 494 352)
def q418:=K (tu [(s "_law_script" 657),(s "_law_sizes" 658),(s "_law_both" 659),(s "_law_ats" 660),(s "_law_handed" 661),(s "_law_benches" 662),(s "_law_loose" 663),(s "_law_told" 664),(s "_law_cell" 665),(s "_law_k" 666),(s "_law_number_here" 667),(s "_law_behind_here" 668),(s "_law_order" 669),(s "_law_j" 670),(s "_law_one" 671),(s "_law_kept" 672)])
def q420:=K (F "law" "law" (st 44))
def q421:=K (C "law" 654 "law" 655 656 265 1 3 354 true 181 355 (r 356) (r 357) (r 358) 673 265 674)
def q422:=K (G "law" "law" (st 44) vn "law_stripfold_k06_bench_deeds" 494 359)
lay_quick q43 q45 q46 q49 q51 q52 q53 q56 q57 q59 q60 q61 q62 q63 q64 q66 q67 q69 q72 q73 q75 q76 q77 q78 q79 q81 q84 q87 q88 q90 q91 q92 q93 q94 q96 q99 q102 q103 q105 q106 q107 q108 q109 q111 q114 q117 q118 q120 q121 q122 q123 q124 q126 q129 q132 q133 q135 q136 q137 q138 q139 q141 q144 q147 q148 q151 q153 q154 q155 q156 q157 q158 q159 q160 q163 q165 q166 q167 q170 q172 q173 q174 q177 q179 q180 q181 q184 q186 q187 q188 q189 q193 q195 q196 q197 q200 q202 q203 q204 q207 q209 q210 q211 q214 q215 q216 q219 q220 q221 q224 q225 q226 q229 q230 q231 q234 q236 q237 q238 q239 q243 q246 q247 q250 q252 q253 q254 q257 q258 q259 q262 q263 q264 q267 q269 q270 q271 q274 q276 q277 q278 q281 q282 q283 q286 q287 q288 q289 q290 q291 q292 q293 q294 q295 q296 q300 q302 q303 q304 q307 q309 q310 q311 q314 q316 q317 q318 q321 q323 q324 q325 q328 q330 q331 q332 q335 q337 q338 q339 q342 q344 q345 q346 q349 q351 q352 q353 q356 q358 q359 q360 q363 q365 q366 q367 q370 q371 q372 q375 q376 q377 q378 q382 q384 q385 q386 q389 q391 q392 q393 q396 q397 q398 q401 q403 q404 q405 q408 q409 q410 q413 q414 q415 q418 q420 q421 q422
def rh {α : Type} {a b : α} (_ : a = b) : α := b
theorem m {f g : Params → Obj} {l m : Params → List Obj} (h : ∀ P, f P = g P) (k : ∀ P, l P = m P) : ∀ P, f P :: l P = g P :: m P := fun P => by rw [h, k]
theorem w : ∀ _ : Params, ([] : List Obj) = [] := fun _ => rfl
theorem n {f g : Params → Obj} {l m r s : Params → BT} (h : ∀ P, f P = g P) (k : ∀ P, l P = m P) (j : ∀ P, r P = s P) : ∀ P, BT.node (f P) (l P) (r P) = BT.node (g P) (m P) (s P) := fun P => by rw [h, k, j]
theorem z : ∀ _ : Params, BT.nil = BT.nil := fun _ => rfl
theorem cf {f g : Params → Obj} (h : f = g) (P : Params) : f P = g P := by rw [h]
theorem nt (f : Params → Obj) (P : Params) : f P = f P := rfl
theorem hp {l m : Params → List Obj} (h : ∀ P, l P = m P) : (fun P => (⟨⟨l P⟩, (Life.mk [] [] [] 0 [] [] false #[] [] 0 false false false 0 [2000,10,10] false 0 true [] [] 0 false)⟩ : Heap)) = fun P => ⟨⟨m P⟩, (Life.mk [] [] [] 0 [] [] false #[] [] 0 false false false 0 [2000,10,10] false 0 true [] [] 0 false)⟩ := funext fun P => by rw [h]
def a0:=nt boot_o_0
def a1:=nt boot_o_1
def a2:=nt boot_o_2
def a3:=nt boot_o_3
def a4:=nt boot_o_4
def a5:=nt boot_o_5
def a6:=nt boot_o_6
def a7:=nt boot_o_7
def a8:=nt boot_o_8
def a9:=nt boot_o_9
def a10:=nt boot_o_10
def c43:=cf te884463465135415981
def c44:=nt q44
def c45:=cf te13889448576825750436
def c46:=cf te12533817398336138642
def c49:=cf te16279627670941099
def c50:=nt q50
def c51:=cf te4297019359811580518
def c52:=cf te16844969945156303824
def c53:=cf te4802334992162975308
def c56:=cf te14289334829765485849
def c57:=cf te7256263984274327189
def c59:=cf te2753129375794474508
def c60:=cf te13050808220722085565
def c61:=cf te6532128691203176238
def c62:=cf te17352715535294179840
def c63:=cf te6668820910017403409
def c64:=cf te10348655838005251911
def c65:=nt q65
def c66:=cf te2375937244994292034
def c67:=cf te17988935461955160295
def c69:=cf te13161629928981116537
def c72:=cf te15501206670482001998
def c73:=cf te11042884158472414240
def c75:=cf te10938861146790673202
def c76:=cf te14561465598332853518
def c77:=cf te16383302505593775965
def c78:=cf te17076170213902006987
def c79:=cf te557757464067557405
def c80:=nt q80
def c81:=cf te5455144829690826997
def c84:=cf te5006788459804746827
def c87:=cf te12116057069681979322
def c88:=cf te16504209368958856218
def c90:=cf te6445182272017302853
def c91:=cf te3086644993056486840
def c92:=cf te5516631169818262955
def c93:=cf te6148368441850853822
def c94:=cf te89264823975923259
def c95:=nt q95
def c96:=cf te4719992888276855231
def c99:=cf te16322324896641839542
def c102:=cf te15469517520523732924
def c103:=cf te8557487762758881313
def c105:=cf te867525791996690442
def c106:=cf te6876089748002398681
def c107:=cf te8180308965357553462
def c108:=cf te4816854744296236868
def c109:=cf te16468885187641083371
def c110:=nt q110
def c111:=cf te15726727799723306113
def c114:=cf te9990311817161383838
def c117:=cf te7952191974233954829
def c118:=cf te17200464992696206393
def c120:=cf te6050396430286289141
def c121:=cf te7944906550858281225
def c122:=cf te13106499127531927410
def c123:=cf te17049568869895294810
def c124:=cf te11458553286115429454
def c125:=nt q125
def c126:=cf te3765700043008552365
def c129:=cf te8580412910636205039
def c132:=cf te6138595054983006980
def c133:=cf te5528015336205979717
def c135:=cf te14602985023562998208
def c136:=cf te9009849156974646758
def c137:=cf te2560522633010526231
def c138:=cf te3269341985287915622
def c139:=cf te10427721709823116162
def c140:=nt q140
def c141:=cf te6801815000164997128
def c144:=cf te14567402196872240669
def c146:=nt q146
def c147:=cf te8342817737060035115
def c148:=cf te16828447584299475855
def c151:=cf te3285176088630311191
def c153:=cf te7296821496876219248
def c154:=cf te13231156790583422697
def c155:=cf te9000705284958434370
def c156:=cf te6110967550103944892
def c157:=cf te16414983066438607585
def c158:=cf te1907404263592796263
def c159:=cf te188857792401649437
def c160:=cf te866153642095691985
def c163:=cf te1426888061352879067
def c165:=cf te9227436569510965670
def c166:=cf te7099783033371393298
def c167:=cf te13384033376921556844
def c170:=cf te2056775939474520990
def c172:=cf te13737227648699636184
def c173:=cf te9698326925945776014
def c174:=cf te2850056106553647998
def c177:=cf te3953332380899834877
def c179:=cf te300536605345428999
def c180:=cf te2776000820745139184
def c181:=cf te12815452770860908140
def c184:=cf te14539139010340545562
def c186:=cf te17258594932580874607
def c187:=cf te7845505709262917123
def c188:=cf te10630457227261606098
def c189:=cf te10066175898862140133
def c190:=nt q190
def c193:=cf te16896246280727865496
def c195:=cf te1779170601781167486
def c196:=cf te2803292273962042601
def c197:=cf te362359453683282524
def c200:=cf te7188404256376251567
def c202:=cf te14568834685403652553
def c203:=cf te4882436908121724974
def c204:=cf te9952674999771376108
def c207:=cf te15150486162329448140
def c209:=cf te16727075163208035924
def c210:=cf te16474558319649485815
def c211:=cf te11084935842489568516
def c214:=cf te1893038645644406520
def c215:=cf te9143702668017743438
def c216:=cf te797967788098264193
def c219:=cf te3079093144068467466
def c220:=cf te16197044549519110212
def c221:=cf te5344651802939824766
def c224:=cf te2987014265503720558
def c225:=cf te2550275731651291422
def c226:=cf te14080068841292776977
def c229:=cf te9804618050714092675
def c230:=cf te6898504737866224556
def c231:=cf te14172904042595914749
def c234:=cf te1035715784683155993
def c236:=cf te15376821463430465647
def c237:=cf te2356639241678774876
def c238:=cf te618337919436386983
def c239:=cf te12133151544616389481
def c240:=nt q240
def c243:=cf te12540420139296931971
def c245:=nt q245
def c246:=cf te15811834854515703780
def c247:=cf te2131460145982727330
def c250:=cf te7108010164467815216
def c252:=cf te16506298767994088513
def c253:=cf te5432926585475506069
def c254:=cf te15972882419367631354
def c257:=cf te1480126488087687334
def c258:=cf te8309981062628410873
def c259:=cf te11454693925814895612
def c262:=cf te1856982216177908662
def c263:=cf te15569384370244708825
def c264:=cf te14090306141265494793
def c267:=cf te16570230819363262865
def c269:=cf te2522358485647057321
def c270:=cf te11925769393444426187
def c271:=cf te10146543612380891465
def c274:=cf te11169106721081831751
def c276:=cf te14698786219785743702
def c277:=cf te2075714394704432748
def c278:=cf te12851020563786618389
def c281:=cf te11958883465553546976
def c282:=cf te8571216182353817503
def c283:=cf te13946918983905945416
def c286:=cf te1909424112481810708
def c287:=cf te8505689701948361730
def c288:=cf te1933378300281448891
def c289:=cf te898547183481567589
def c290:=cf te5346366188493596500
def c291:=cf te4805885554869265664
def c292:=cf te9798347428754799649
def c293:=cf te13931395393704882967
def c294:=cf te9254707121784753907
def c295:=cf te10875473912043287186
def c296:=cf te6576452749421163473
def c297:=nt q297
def c300:=cf te3725203548457552068
def c302:=cf te15719841521025061640
def c303:=cf te18381415856656086831
def c304:=cf te13970546861644576490
def c307:=cf te13099229515124803254
def c309:=cf te3745424342144281793
def c310:=cf te10383725143203772447
def c311:=cf te4259684540392730570
def c314:=cf te11963749924677405888
def c316:=cf te7897186468155703008
def c317:=cf te2952964700421499761
def c318:=cf te9554028028219750764
def c321:=cf te2120768049054789183
def c323:=cf te4309367098482258962
def c324:=cf te9574184172845854229
def c325:=cf te17719249121848672605
def c328:=cf te4993149196915890410
def c330:=cf te11923364398487559473
def c331:=cf te10851477329014968852
def c332:=cf te15879951477650296827
def c335:=cf te7637571256138981099
def c337:=cf te4229777132484151940
def c338:=cf te17167546182659114405
def c339:=cf te8217619768608690919
def c342:=cf te14441488874898847421
def c344:=cf te1429178100873906855
def c345:=cf te77136101330255021
def c346:=cf te8395224385885037796
def c349:=cf te14510837364944608520
def c351:=cf te16795145446000564976
def c352:=cf te4658631977752743755
def c353:=cf te2523899684543659183
def c356:=cf te9852834894749623162
def c358:=cf te15776917880792329455
def c359:=cf te15543956203991248924
def c360:=cf te10178231576827143968
def c363:=cf te11706016898023016790
def c365:=cf te13914697180632967988
def c366:=cf te11121815170608681552
def c367:=cf te8483505947630436851
def c370:=cf te6865473299764378705
def c371:=cf te6800268168372678727
def c372:=cf te1377492770039171361
def c375:=cf te11374549740868635171
def c376:=cf te4113879273856466633
def c377:=cf te12810614948735356344
def c378:=cf te12911037361530394679
def c379:=nt q379
def c382:=cf te8147317173374040524
def c384:=cf te3918993504606103468
def c385:=cf te15642048496683112712
def c386:=cf te7538660620176255100
def c389:=cf te789197796286188471
def c391:=cf te13084270158988067094
def c392:=cf te4642528535902700481
def c393:=cf te5543939669472915754
def c396:=cf te515727602875840308
def c397:=cf te9393825794049634494
def c398:=cf te5295803158360904058
def c401:=cf te17662485030240021717
def c403:=cf te12257999727268522621
def c404:=cf te1606201362274214082
def c405:=cf te10391413329982709925
def c408:=cf te192712728833211274
def c409:=cf te9265138644218915307
def c410:=cf te1734668898032004408
def c413:=cf te14082333052485338452
def c414:=cf te9802017790419664299
def c415:=cf te8156826401338719996
def c418:=cf te3195644394852897740
def c420:=cf te4266029153602761747
def c421:=cf te3240293956816767143
def c422:=cf te14888334787892509306
def _root_.PySem.W.Fast.te5765596893449822052:=hp (m a0 (m a1 (m a2 (m a3 (m a4 (m a5 (m a6 (m a7 (m a8 (m a9 (m a10 (m c43 (m c44 (m c45 (m c46 (w))))))))))))))))
def _root_.PySem.W.Fast.tw5765596893449822052:=rh te5765596893449822052
def _root_.PySem.W.Fast.te2941231401344692230:=funext (n a0 (n a1 (n a3 (n a7 z z) (n c43 z z)) (n a5 (n a9 z z) (n c45 z z))) (n a2 (n a4 (n a8 z z) (n c44 z z)) (n a6 (n a10 z z) (n c46 z z))))
def _root_.PySem.W.Fast.tw2941231401344692230:=rh te2941231401344692230
def _root_.PySem.W.Fast.te1003591462259911419:=funext (n a0 (n a1 (n c49 (n a7 (n c51 z z) (n c59 z z)) (n c43 (n c44 z z) (n c63 z z))) (n a5 (n a9 (n c53 z z) (n c61 z z)) (n c45 (n c57 z z) z))) (n a2 (n a4 (n a8 (n c52 z z) (n c60 z z)) (n c50 (n c56 z z) z)) (n a6 (n a10 (n c43 z z) (n c62 z z)) (n c46 (n c43 z z) z))))
def _root_.PySem.W.Fast.tw1003591462259911419:=rh te1003591462259911419
def _root_.PySem.W.Fast.te10030975052744214013:=funext (n a0 (n a1 (n c64 (n a7 (n c51 (n c43 z z) z) (n c59 (n c78 z z) z)) (n c43 (n c44 (n c43 z z) z) (n c63 z z))) (n a5 (n a9 (n c53 (n c72 z z) z) (n c61 z z)) (n c45 (n c57 (n c76 z z) z) (n c52 z z)))) (n a2 (n a4 (n a8 (n c52 (n c44 z z) z) (n c66 z z)) (n c65 (n c56 (n c75 z z) z) (n c67 z z))) (n a6 (n a10 (n c43 (n c73 z z) z) (n c62 z z)) (n c46 (n c43 (n c77 z z) z) (n c69 z z)))))
def _root_.PySem.W.Fast.tw10030975052744214013:=rh te10030975052744214013
def _root_.PySem.W.Fast.te16306071952334212951:=funext (n a0 (n a1 (n c79 (n a7 (n c51 (n c43 z z) (n c43 z z)) (n c59 (n c78 z z) z)) (n c43 (n c44 (n c43 z z) (n c93 z z)) (n c63 (n c43 z z) z))) (n a5 (n a9 (n c53 (n c72 z z) (n c91 z z)) (n c61 (n c52 z z) z)) (n c45 (n c57 (n c76 z z) z) (n c52 (n c87 z z) z)))) (n a2 (n a4 (n a8 (n c52 (n c44 z z) (n c90 z z)) (n c81 (n c67 z z) z)) (n c80 (n c56 (n c75 z z) z) (n c67 (n c44 z z) z))) (n a6 (n a10 (n c43 (n c73 z z) (n c92 z z)) (n c62 (n c84 z z) z)) (n c46 (n c43 (n c77 z z) z) (n c69 (n c88 z z) z)))))
def _root_.PySem.W.Fast.tw16306071952334212951:=rh te16306071952334212951
def _root_.PySem.W.Fast.te1028035668127030180:=funext (n a0 (n a1 (n c94 (n a7 (n c51 (n c43 (n c108 z z) z) (n c43 z z)) (n c59 (n c78 z z) (n c43 z z))) (n c43 (n c44 (n c43 z z) (n c93 z z)) (n c63 (n c43 z z) (n c43 z z)))) (n a5 (n a9 (n c53 (n c72 z z) (n c91 z z)) (n c61 (n c52 z z) (n c102 z z))) (n c45 (n c57 (n c76 z z) (n c52 z z)) (n c52 (n c87 z z) (n c106 z z))))) (n a2 (n a4 (n a8 (n c52 (n c44 z z) (n c90 z z)) (n c96 (n c67 z z) (n c44 z z))) (n c95 (n c56 (n c75 z z) (n c67 z z)) (n c67 (n c44 z z) (n c105 z z)))) (n a6 (n a10 (n c43 (n c73 z z) (n c92 z z)) (n c62 (n c84 z z) (n c103 z z))) (n c46 (n c43 (n c77 z z) (n c99 z z)) (n c69 (n c88 z z) (n c107 z z))))))
def _root_.PySem.W.Fast.tw1028035668127030180:=rh te1028035668127030180
def _root_.PySem.W.Fast.te5738431642711323888:=funext (n a0 (n a1 (n c109 (n a7 (n c51 (n c43 (n c108 z z) z) (n c43 z z)) (n c59 (n c78 (n c43 z z) z) (n c43 z z))) (n c43 (n c44 (n c43 (n c43 z z) z) (n c93 z z)) (n c63 (n c43 (n c123 z z) z) (n c43 z z)))) (n a5 (n a9 (n c53 (n c72 (n c52 z z) z) (n c91 z z)) (n c61 (n c52 (n c121 z z) z) (n c102 z z))) (n c45 (n c57 (n c76 (n c117 z z) z) (n c52 z z)) (n c52 (n c87 z z) (n c106 z z))))) (n a2 (n a4 (n a8 (n c52 (n c44 (n c67 z z) z) (n c90 z z)) (n c111 (n c67 (n c120 z z) z) (n c44 z z))) (n c110 (n c56 (n c75 (n c44 z z) z) (n c67 z z)) (n c67 (n c44 z z) (n c105 z z)))) (n a6 (n a10 (n c43 (n c73 (n c114 z z) z) (n c92 z z)) (n c62 (n c84 (n c122 z z) z) (n c103 z z))) (n c46 (n c43 (n c77 (n c118 z z) z) (n c99 z z)) (n c69 (n c88 z z) (n c107 z z))))))
def _root_.PySem.W.Fast.tw5738431642711323888:=rh te5738431642711323888
def _root_.PySem.W.Fast.te76649103915894914:=funext (n a0 (n a1 (n c124 (n a7 (n c51 (n c43 (n c108 z z) z) (n c43 (n c43 z z) z)) (n c59 (n c78 (n c43 z z) z) (n c43 (n c138 z z) z))) (n c43 (n c44 (n c43 (n c43 z z) z) (n c93 (n c43 z z) z)) (n c63 (n c43 (n c123 z z) z) (n c43 z z)))) (n a5 (n a9 (n c53 (n c72 (n c52 z z) z) (n c91 (n c132 z z) z)) (n c61 (n c52 (n c121 z z) z) (n c102 z z))) (n c45 (n c57 (n c76 (n c117 z z) z) (n c52 (n c136 z z) z)) (n c52 (n c87 (n c52 z z) z) (n c106 z z))))) (n a2 (n a4 (n a8 (n c52 (n c44 (n c67 z z) z) (n c90 (n c44 z z) z)) (n c126 (n c67 (n c120 z z) z) (n c44 z z))) (n c125 (n c56 (n c75 (n c44 z z) z) (n c67 (n c135 z z) z)) (n c67 (n c44 (n c67 z z) z) (n c105 z z)))) (n a6 (n a10 (n c43 (n c73 (n c114 z z) z) (n c92 (n c133 z z) z)) (n c62 (n c84 (n c122 z z) z) (n c103 z z))) (n c46 (n c43 (n c77 (n c118 z z) z) (n c99 (n c137 z z) z)) (n c69 (n c88 (n c129 z z) z) (n c107 z z))))))
def _root_.PySem.W.Fast.tw76649103915894914:=rh te76649103915894914
def _root_.PySem.W.Fast.te14588359928872384758:=funext (n a0 (n a1 (n c139 (n a7 (n c51 (n c43 (n c108 (n c181 z z) z) (n c43 z z)) (n c43 (n c43 z z) (n c165 z z))) (n c59 (n c78 (n c43 z z) (n c157 z z)) (n c43 (n c138 z z) (n c173 z z)))) (n c43 (n c44 (n c43 (n c43 (n c43 z z) z) (n c153 z z)) (n c93 (n c43 z z) (n c44 z z))) (n c63 (n c43 (n c123 z z) (n c43 z z)) (n c43 (n c43 z z) (n c177 z z))))) (n a5 (n a9 (n c53 (n c72 (n c52 (n c44 z z) z) (n c151 z z)) (n c91 (n c132 z z) (n c167 z z))) (n c61 (n c52 (n c121 z z) (n c159 z z)) (n c102 (n c52 z z) (n c43 z z)))) (n c45 (n c57 (n c76 (n c117 (n c187 z z) z) (n c155 z z)) (n c52 (n c136 z z) (n c43 z z))) (n c52 (n c87 (n c52 z z) (n c163 z z)) (n c106 (n c147 z z) (n c179 z z)))))) (n a2 (n a4 (n a8 (n c52 (n c44 (n c67 (n c43 z z) z) (n c44 z z)) (n c90 (n c44 z z) (n c166 z z))) (n c141 (n c67 (n c120 z z) (n c158 z z)) (n c44 (n c67 z z) (n c174 z z)))) (n c140 (n c56 (n c75 (n c44 (n c186 z z) z) (n c154 z z)) (n c67 (n c135 z z) (n c170 z z))) (n c67 (n c44 (n c67 z z) (n c44 z z)) (n c105 (n c146 z z) (n c43 z z))))) (n a6 (n a10 (n c43 (n c73 (n c114 (n c184 z z) z) (n c43 z z)) (n c92 (n c133 z z) (n c43 z z))) (n c62 (n c84 (n c122 z z) (n c160 z z)) (n c103 (n c144 z z) (n c44 z z)))) (n c46 (n c43 (n c77 (n c118 (n c188 z z) z) (n c156 z z)) (n c99 (n c137 z z) (n c172 z z))) (n c69 (n c88 (n c129 z z) (n c43 z z)) (n c107 (n c148 z z) (n c180 z z)))))))
def _root_.PySem.W.Fast.tw14588359928872384758:=rh te14588359928872384758
def _root_.PySem.W.Fast.te12384562739538624031:=funext (n a0 (n a1 (n c189 (n a7 (n c51 (n c43 (n c108 (n c181 z z) z) (n c43 (n c215 z z) z)) (n c43 (n c43 (n c44 z z) z) (n c165 (n c231 z z) z))) (n c59 (n c78 (n c43 (n c43 z z) z) (n c157 (n c44 z z) z)) (n c43 (n c138 (n c207 z z) z) (n c173 z z)))) (n c43 (n c44 (n c43 (n c43 (n c43 z z) z) (n c153 (n c219 z z) z)) (n c93 (n c43 (n c203 z z) z) (n c44 (n c43 z z) z))) (n c63 (n c43 (n c123 (n c195 z z) z) (n c43 (n c43 z z) z)) (n c43 (n c43 (n c211 z z) z) (n c177 z z))))) (n a5 (n a9 (n c53 (n c72 (n c52 (n c44 z z) z) (n c151 (n c43 z z) z)) (n c91 (n c132 (n c43 z z) z) (n c167 (n c44 z z) z))) (n c61 (n c52 (n c121 (n c193 z z) z) (n c159 (n c225 z z) z)) (n c102 (n c52 (n c209 z z) z) (n c43 z z)))) (n c45 (n c57 (n c76 (n c117 (n c187 z z) z) (n c155 (n c221 z z) z)) (n c52 (n c136 (n c43 z z) z) (n c43 (n c237 z z) z))) (n c52 (n c87 (n c52 (n c197 z z) z) (n c163 (n c229 z z) z)) (n c106 (n c147 (n c44 z z) z) (n c179 z z)))))) (n a2 (n a4 (n a8 (n c52 (n c44 (n c67 (n c43 z z) z) (n c44 (n c216 z z) z)) (n c90 (n c44 (n c200 z z) z) (n c166 (n c43 z z) z))) (n c141 (n c67 (n c120 (n c44 z z) z) (n c158 (n c224 z z) z)) (n c44 (n c67 (n c43 z z) z) (n c174 z z)))) (n c190 (n c56 (n c75 (n c44 (n c186 z z) z) (n c154 (n c220 z z) z)) (n c67 (n c135 (n c204 z z) z) (n c170 (n c236 z z) z))) (n c67 (n c44 (n c67 (n c196 z z) z) (n c44 (n c44 z z) z)) (n c105 (n c146 (n c43 z z) z) (n c43 z z))))) (n a6 (n a10 (n c43 (n c73 (n c114 (n c184 z z) z) (n c43 (n c44 z z) z)) (n c92 (n c133 (n c202 z z) z) (n c43 (n c234 z z) z))) (n c62 (n c84 (n c122 (n c43 z z) z) (n c160 (n c226 z z) z)) (n c103 (n c144 (n c210 z z) z) (n c44 z z)))) (n c46 (n c43 (n c77 (n c118 (n c188 z z) z) (n c156 (n c43 z z) z)) (n c99 (n c137 (n c44 z z) z) (n c172 (n c238 z z) z))) (n c69 (n c88 (n c129 (n c43 z z) z) (n c43 (n c230 z z) z)) (n c107 (n c148 (n c214 z z) z) (n c180 z z)))))))
def _root_.PySem.W.Fast.tw12384562739538624031:=rh te12384562739538624031
def _root_.PySem.W.Fast.te9914894660837378713:=funext (n a0 (n a1 (n c239 (n a7 (n c51 (n c43 (n c108 (n c181 z z) (n c44 z z)) (n c43 (n c215 z z) (n c281 z z))) (n c43 (n c43 (n c44 z z) (n c43 z z)) (n c165 (n c231 z z) z))) (n c59 (n c78 (n c43 (n c43 z z) (n c257 z z)) (n c157 (n c44 z z) (n c289 z z))) (n c43 (n c138 (n c207 z z) (n c44 z z)) (n c173 (n c43 z z) z)))) (n c43 (n c44 (n c43 (n c43 (n c43 z z) (n c253 z z)) (n c153 (n c219 z z) (n c44 z z))) (n c93 (n c43 (n c203 z z) (n c269 z z)) (n c44 (n c43 z z) z))) (n c63 (n c43 (n c123 (n c195 z z) (n c44 z z)) (n c43 (n c43 z z) (n c293 z z))) (n c43 (n c43 (n c211 z z) (n c277 z z)) (n c177 (n c245 z z) z))))) (n a5 (n a9 (n c53 (n c72 (n c52 (n c44 z z) (n c43 z z)) (n c151 (n c43 z z) (n c283 z z))) (n c91 (n c132 (n c43 z z) (n c267 z z)) (n c167 (n c44 z z) z))) (n c61 (n c52 (n c121 (n c193 z z) (n c259 z z)) (n c159 (n c225 z z) (n c291 z z))) (n c102 (n c52 (n c209 z z) (n c43 z z)) (n c43 (n c243 z z) z)))) (n c45 (n c57 (n c76 (n c117 (n c187 z z) (n c43 z z)) (n c155 (n c221 z z) (n c287 z z))) (n c52 (n c136 (n c43 z z) (n c271 z z)) (n c43 (n c237 z z) z))) (n c52 (n c87 (n c52 (n c197 z z) (n c263 z z)) (n c163 (n c229 z z) (n c295 z z))) (n c106 (n c147 (n c44 z z) (n c43 z z)) (n c179 (n c247 z z) z)))))) (n a2 (n a4 (n a8 (n c52 (n c44 (n c67 (n c43 z z) (n c250 z z)) (n c44 (n c216 z z) (n c282 z z))) (n c90 (n c44 (n c200 z z) (n c44 z z)) (n c166 (n c43 z z) z))) (n c141 (n c67 (n c120 (n c44 z z) (n c258 z z)) (n c158 (n c224 z z) (n c290 z z))) (n c44 (n c67 (n c43 z z) (n c274 z z)) (n c174 (n c52 z z) z)))) (n c240 (n c56 (n c75 (n c44 (n c186 z z) (n c254 z z)) (n c154 (n c220 z z) (n c286 z z))) (n c67 (n c135 (n c204 z z) (n c270 z z)) (n c170 (n c236 z z) z))) (n c67 (n c44 (n c67 (n c196 z z) (n c262 z z)) (n c44 (n c44 z z) (n c294 z z))) (n c105 (n c146 (n c43 z z) (n c278 z z)) (n c43 (n c246 z z) z))))) (n a6 (n a10 (n c43 (n c73 (n c114 (n c184 z z) (n c252 z z)) (n c43 (n c44 z z) (n c43 z z))) (n c92 (n c133 (n c202 z z) (n c43 z z)) (n c43 (n c234 z z) z))) (n c62 (n c84 (n c122 (n c43 z z) (n c43 z z)) (n c160 (n c226 z z) (n c292 z z))) (n c103 (n c144 (n c210 z z) (n c276 z z)) (n c44 (n c43 z z) z)))) (n c46 (n c43 (n c77 (n c118 (n c188 z z) (n c44 z z)) (n c156 (n c43 z z) (n c288 z z))) (n c99 (n c137 (n c44 z z) (n c43 z z)) (n c172 (n c238 z z) z))) (n c69 (n c88 (n c129 (n c43 z z) (n c264 z z)) (n c43 (n c230 z z) z)) (n c107 (n c148 (n c214 z z) (n c44 z z)) (n c180 (n c43 z z) z)))))))
def _root_.PySem.W.Fast.tw9914894660837378713:=rh te9914894660837378713
def _root_.PySem.W.Fast.te13223284265314434621:=funext (n a0 (n a1 (n c296 (n a7 (n c51 (n c43 (n c108 (n c181 (n c43 z z) z) (n c44 z z)) (n c43 (n c215 (n c43 z z) z) (n c281 z z))) (n c43 (n c43 (n c44 (n c331 z z) z) (n c43 z z)) (n c165 (n c231 (n c363 z z) z) (n c44 z z)))) (n c59 (n c78 (n c43 (n c43 (n c323 z z) z) (n c257 z z)) (n c157 (n c44 (n c44 z z) z) (n c289 z z))) (n c43 (n c138 (n c207 (n c339 z z) z) (n c44 z z)) (n c173 (n c43 (n c371 z z) z) (n c307 z z))))) (n c43 (n c44 (n c43 (n c43 (n c43 (n c43 z z) z) (n c253 z z)) (n c153 (n c219 (n c351 z z) z) (n c44 z z))) (n c93 (n c43 (n c203 (n c335 z z) z) (n c269 z z)) (n c44 (n c43 (n c367 z z) z) (n c303 z z)))) (n c63 (n c43 (n c123 (n c195 (n c44 z z) z) (n c44 z z)) (n c43 (n c43 (n c359 z z) z) (n c293 z z))) (n c43 (n c43 (n c211 (n c43 z z) z) (n c277 z z)) (n c177 (n c245 (n c375 z z) z) (n c311 z z)))))) (n a5 (n a9 (n c53 (n c72 (n c52 (n c44 (n c317 z z) z) (n c43 z z)) (n c151 (n c43 (n c349 z z) z) (n c283 z z))) (n c91 (n c132 (n c43 (n c43 z z) z) (n c267 z z)) (n c167 (n c44 (n c365 z z) z) (n c43 z z)))) (n c61 (n c52 (n c121 (n c193 (n c325 z z) z) (n c259 z z)) (n c159 (n c225 (n c43 z z) z) (n c291 z z))) (n c102 (n c52 (n c209 (n c44 z z) z) (n c43 z z)) (n c43 (n c243 (n c43 z z) z) (n c309 z z))))) (n c45 (n c57 (n c76 (n c117 (n c187 (n c321 z z) z) (n c43 z z)) (n c155 (n c221 (n c353 z z) z) (n c287 z z))) (n c52 (n c136 (n c43 (n c337 z z) z) (n c271 z z)) (n c43 (n c237 (n c44 z z) z) (n c43 z z)))) (n c52 (n c87 (n c52 (n c197 (n c43 z z) z) (n c263 z z)) (n c163 (n c229 (n c43 z z) z) (n c295 z z))) (n c106 (n c147 (n c44 (n c345 z z) z) (n c43 z z)) (n c179 (n c247 (n c377 z z) z) (n c44 z z))))))) (n a2 (n a4 (n a8 (n c52 (n c44 (n c67 (n c43 (n c316 z z) z) (n c250 z z)) (n c44 (n c216 (n c44 z z) z) (n c282 z z))) (n c90 (n c44 (n c200 (n c332 z z) z) (n c44 z z)) (n c166 (n c43 (n c43 z z) z) (n c300 z z)))) (n c141 (n c67 (n c120 (n c44 (n c324 z z) z) (n c258 z z)) (n c158 (n c224 (n c356 z z) z) (n c290 z z))) (n c44 (n c67 (n c43 (n c43 z z) z) (n c274 z z)) (n c174 (n c52 (n c372 z z) z) (n c43 z z))))) (n c297 (n c56 (n c75 (n c44 (n c186 (n c44 z z) z) (n c254 z z)) (n c154 (n c220 (n c352 z z) z) (n c286 z z))) (n c67 (n c135 (n c204 (n c43 z z) z) (n c270 z z)) (n c170 (n c236 (n c43 z z) z) (n c304 z z)))) (n c67 (n c44 (n c67 (n c196 (n c328 z z) z) (n c262 z z)) (n c44 (n c44 (n c360 z z) z) (n c294 z z))) (n c105 (n c146 (n c43 (n c344 z z) z) (n c278 z z)) (n c43 (n c246 (n c376 z z) z) (n c43 z z)))))) (n a6 (n a10 (n c43 (n c73 (n c114 (n c184 (n c318 z z) z) (n c252 z z)) (n c43 (n c44 (n c43 z z) z) (n c43 z z))) (n c92 (n c133 (n c202 (n c44 z z) z) (n c43 z z)) (n c43 (n c234 (n c366 z z) z) (n c302 z z)))) (n c62 (n c84 (n c122 (n c43 (n c43 z z) z) (n c43 z z)) (n c160 (n c226 (n c358 z z) z) (n c292 z z))) (n c103 (n c144 (n c210 (n c342 z z) z) (n c276 z z)) (n c44 (n c43 (n c44 z z) z) (n c310 z z))))) (n c46 (n c43 (n c77 (n c118 (n c188 (n c43 z z) z) (n c44 z z)) (n c156 (n c43 (n c43 z z) z) (n c288 z z))) (n c99 (n c137 (n c44 (n c338 z z) z) (n c43 z z)) (n c172 (n c238 (n c370 z z) z) (n c44 z z)))) (n c69 (n c88 (n c129 (n c43 (n c330 z z) z) (n c264 z z)) (n c43 (n c230 (n c44 z z) z) (n c43 z z))) (n c107 (n c148 (n c214 (n c346 z z) z) (n c44 z z)) (n c180 (n c43 z z) (n c314 z z))))))))
def _root_.PySem.W.Fast.tw13223284265314434621:=rh te13223284265314434621
def _root_.PySem.W.Fast.te7202709808966412064:=funext (n a0 (n a1 (n c378 (n a7 (n c51 (n c43 (n c108 (n c181 (n c43 z z) z) (n c44 (n c44 z z) z)) (n c43 (n c215 (n c43 z z) z) (n c281 (n c413 z z) z))) (n c43 (n c43 (n c44 (n c331 z z) z) (n c43 (n c397 z z) z)) (n c165 (n c231 (n c363 z z) z) (n c44 z z)))) (n c59 (n c78 (n c43 (n c43 (n c323 z z) z) (n c257 (n c389 z z) z)) (n c157 (n c44 (n c44 z z) z) (n c289 (n c421 z z) z))) (n c43 (n c138 (n c207 (n c339 z z) z) (n c44 (n c405 z z) z)) (n c173 (n c43 (n c371 z z) z) (n c307 z z))))) (n c43 (n c44 (n c43 (n c43 (n c43 (n c43 z z) z) (n c253 (n c385 z z) z)) (n c153 (n c219 (n c351 z z) z) (n c44 (n c44 z z) z))) (n c93 (n c43 (n c203 (n c335 z z) z) (n c269 (n c401 z z) z)) (n c44 (n c43 (n c367 z z) z) (n c303 z z)))) (n c63 (n c43 (n c123 (n c195 (n c44 z z) z) (n c44 (n c393 z z) z)) (n c43 (n c43 (n c359 z z) z) (n c293 z z))) (n c43 (n c43 (n c211 (n c43 z z) z) (n c277 (n c409 z z) z)) (n c177 (n c245 (n c375 z z) z) (n c311 z z)))))) (n a5 (n a9 (n c53 (n c72 (n c52 (n c44 (n c317 z z) z) (n c43 (n c43 z z) z)) (n c151 (n c43 (n c349 z z) z) (n c283 (n c415 z z) z))) (n c91 (n c132 (n c43 (n c43 z z) z) (n c267 (n c43 z z) z)) (n c167 (n c44 (n c365 z z) z) (n c43 z z)))) (n c61 (n c52 (n c121 (n c193 (n c325 z z) z) (n c259 (n c391 z z) z)) (n c159 (n c225 (n c43 z z) z) (n c291 z z))) (n c102 (n c52 (n c209 (n c44 z z) z) (n c43 (n c44 z z) z)) (n c43 (n c243 (n c43 z z) z) (n c309 z z))))) (n c45 (n c57 (n c76 (n c117 (n c187 (n c321 z z) z) (n c43 (n c43 z z) z)) (n c155 (n c221 (n c353 z z) z) (n c287 (n c43 z z) z))) (n c52 (n c136 (n c43 (n c337 z z) z) (n c271 (n c403 z z) z)) (n c43 (n c237 (n c44 z z) z) (n c43 z z)))) (n c52 (n c87 (n c52 (n c197 (n c43 z z) z) (n c263 (n c44 z z) z)) (n c163 (n c229 (n c43 z z) z) (n c295 z z))) (n c106 (n c147 (n c44 (n c345 z z) z) (n c43 (n c43 z z) z)) (n c179 (n c247 (n c377 z z) z) (n c44 z z))))))) (n a2 (n a4 (n a8 (n c52 (n c44 (n c67 (n c43 (n c316 z z) z) (n c250 (n c382 z z) z)) (n c44 (n c216 (n c44 z z) z) (n c282 (n c414 z z) z))) (n c90 (n c44 (n c200 (n c332 z z) z) (n c44 (n c398 z z) z)) (n c166 (n c43 (n c43 z z) z) (n c300 z z)))) (n c141 (n c67 (n c120 (n c44 (n c324 z z) z) (n c258 (n c43 z z) z)) (n c158 (n c224 (n c356 z z) z) (n c290 (n c422 z z) z))) (n c44 (n c67 (n c43 (n c43 z z) z) (n c274 (n c43 z z) z)) (n c174 (n c52 (n c372 z z) z) (n c43 z z))))) (n c379 (n c56 (n c75 (n c44 (n c186 (n c44 z z) z) (n c254 (n c386 z z) z)) (n c154 (n c220 (n c352 z z) z) (n c286 (n c418 z z) z))) (n c67 (n c135 (n c204 (n c43 z z) z) (n c270 (n c43 z z) z)) (n c170 (n c236 (n c43 z z) z) (n c304 z z)))) (n c67 (n c44 (n c67 (n c196 (n c328 z z) z) (n c262 (n c43 z z) z)) (n c44 (n c44 (n c360 z z) z) (n c294 z z))) (n c105 (n c146 (n c43 (n c344 z z) z) (n c278 (n c410 z z) z)) (n c43 (n c246 (n c376 z z) z) (n c43 z z)))))) (n a6 (n a10 (n c43 (n c73 (n c114 (n c184 (n c318 z z) z) (n c252 (n c384 z z) z)) (n c43 (n c44 (n c43 z z) z) (n c43 (n c43 z z) z))) (n c92 (n c133 (n c202 (n c44 z z) z) (n c43 (n c44 z z) z)) (n c43 (n c234 (n c366 z z) z) (n c302 z z)))) (n c62 (n c84 (n c122 (n c43 (n c43 z z) z) (n c43 (n c392 z z) z)) (n c160 (n c226 (n c358 z z) z) (n c292 z z))) (n c103 (n c144 (n c210 (n c342 z z) z) (n c276 (n c408 z z) z)) (n c44 (n c43 (n c44 z z) z) (n c310 z z))))) (n c46 (n c43 (n c77 (n c118 (n c188 (n c43 z z) z) (n c44 (n c44 z z) z)) (n c156 (n c43 (n c43 z z) z) (n c288 (n c420 z z) z))) (n c99 (n c137 (n c44 (n c338 z z) z) (n c43 (n c404 z z) z)) (n c172 (n c238 (n c370 z z) z) (n c44 z z)))) (n c69 (n c88 (n c129 (n c43 (n c330 z z) z) (n c264 (n c396 z z) z)) (n c43 (n c230 (n c44 z z) z) (n c43 z z))) (n c107 (n c148 (n c214 (n c346 z z) z) (n c44 (n c44 z z) z)) (n c180 (n c43 (n c43 z z) z) (n c314 z z))))))))
def _root_.PySem.W.Fast.tw7202709808966412064:=rh te7202709808966412064
def _root_.PySem.W.Fast.te7715114639366141099:=hp (m a0 (m a1 (m a2 (m c378 (m a4 (m a5 (m a6 (m a7 (m a8 (m a9 (m a10 (m c43 (m c379 (m c45 (m c46 (m c51 (m c52 (m c53 (m c43 (m c44 (m c56 (m c57 (m c43 (m c59 (m c141 (m c61 (m c62 (m c63 (m c67 (m c52 (m c69 (m c43 (m c44 (m c72 (m c73 (m c43 (m c75 (m c76 (m c77 (m c78 (m c67 (m c52 (m c84 (m c43 (m c44 (m c87 (m c88 (m c43 (m c90 (m c91 (m c92 (m c93 (m c67 (m c52 (m c99 (m c43 (m c44 (m c102 (m c103 (m c43 (m c105 (m c106 (m c107 (m c108 (m c67 (m c52 (m c114 (m c43 (m c44 (m c117 (m c118 (m c43 (m c120 (m c121 (m c122 (m c123 (m c67 (m c52 (m c129 (m c43 (m c44 (m c132 (m c133 (m c43 (m c135 (m c136 (m c137 (m c138 (m c67 (m c52 (m c144 (m c43 (m c146 (m c147 (m c148 (m c43 (m c44 (m c151 (m c43 (m c153 (m c154 (m c155 (m c156 (m c157 (m c158 (m c159 (m c160 (m c43 (m c44 (m c163 (m c43 (m c165 (m c166 (m c167 (m c43 (m c44 (m c170 (m c43 (m c172 (m c173 (m c174 (m c43 (m c44 (m c177 (m c43 (m c179 (m c180 (m c181 (m c43 (m c44 (m c184 (m c43 (m c186 (m c187 (m c188 (m c43 (m c44 (m c193 (m c43 (m c195 (m c196 (m c197 (m c43 (m c44 (m c200 (m c43 (m c202 (m c203 (m c204 (m c43 (m c44 (m c207 (m c43 (m c209 (m c210 (m c211 (m c43 (m c44 (m c214 (m c215 (m c216 (m c43 (m c44 (m c219 (m c220 (m c221 (m c43 (m c44 (m c224 (m c225 (m c226 (m c43 (m c44 (m c229 (m c230 (m c231 (m c43 (m c44 (m c234 (m c43 (m c236 (m c237 (m c238 (m c43 (m c52 (m c243 (m c43 (m c245 (m c246 (m c247 (m c43 (m c44 (m c250 (m c43 (m c252 (m c253 (m c254 (m c43 (m c44 (m c257 (m c258 (m c259 (m c43 (m c44 (m c262 (m c263 (m c264 (m c43 (m c44 (m c267 (m c43 (m c269 (m c270 (m c271 (m c43 (m c44 (m c274 (m c43 (m c276 (m c277 (m c278 (m c43 (m c44 (m c281 (m c282 (m c283 (m c43 (m c44 (m c286 (m c287 (m c288 (m c289 (m c290 (m c291 (m c292 (m c293 (m c294 (m c295 (m c43 (m c44 (m c300 (m c43 (m c302 (m c303 (m c304 (m c43 (m c44 (m c307 (m c43 (m c309 (m c310 (m c311 (m c43 (m c44 (m c314 (m c43 (m c316 (m c317 (m c318 (m c43 (m c44 (m c321 (m c43 (m c323 (m c324 (m c325 (m c43 (m c44 (m c328 (m c43 (m c330 (m c331 (m c332 (m c43 (m c44 (m c335 (m c43 (m c337 (m c338 (m c339 (m c43 (m c44 (m c342 (m c43 (m c344 (m c345 (m c346 (m c43 (m c44 (m c349 (m c43 (m c351 (m c352 (m c353 (m c43 (m c44 (m c356 (m c43 (m c358 (m c359 (m c360 (m c43 (m c44 (m c363 (m c43 (m c365 (m c366 (m c367 (m c43 (m c44 (m c370 (m c371 (m c372 (m c43 (m c44 (m c375 (m c376 (m c377 (m c43 (m c44 (m c382 (m c43 (m c384 (m c385 (m c386 (m c43 (m c44 (m c389 (m c43 (m c391 (m c392 (m c393 (m c43 (m c44 (m c396 (m c397 (m c398 (m c43 (m c44 (m c401 (m c43 (m c403 (m c404 (m c405 (m c43 (m c44 (m c408 (m c409 (m c410 (m c43 (m c44 (m c413 (m c414 (m c415 (m c43 (m c44 (m c418 (m c43 (m c420 (m c421 (m c422 (w))))))))))))))))))))))))))))))))))))))))))))))))))))))))))))))))))))))))))))))))))))))))))))))))))))))))))))))))))))))))))))))))))))))))))))))))))))))))))))))))))))))))))))))))))))))))))))))))))))))))))))))))))))))))))))))))))))))))))))))))))))))))))))))))))))))))))))))))))))))))))))))))))))))))))))))))))))))))))))))))))))))))))))))))))))))))))))))))))))))))))
def _root_.PySem.W.Fast.tw7715114639366141099:=rh te7715114639366141099
end
end Tw
open PySem PySem.W PyProof.Rows
set_option maxRecDepth 100000 in
set_option maxHeartbeats 0 in
theorem PySem.Challenge.cw_stripfold_k06_bench_deeds_holds : PySem.Challenge.rw_stripfold_k06_bench_deeds.Holds := by
 w_on; o_law; k_head; (case hw => w_witness2)
 k_fill
 refine Sf.walk (l := PySem.Challenge.rw_stripfold_k06_bench_deeds) rfl rfl (fun w h Y => PySem.W.kIn_of Y) ?F
 case F =>
  intro w mg fa h KX G hmg
  refine' Sf.all_mk KX G hmg ?a1 ?l1 ?c1 ?k1 ?a2 ?l2 ?c2 ?k2 ?a3 ?l3 ?c3 ?k3 ?a4 ?l4 ?c4 ?k4 ?a5 ?l5 ?c5 ?k5 ?a6 ?l6 ?c6 ?k6 ?a7 ?l7 ?c7 ?k7 ?a8 ?l8 ?c8 ?k8 ?a9 ?l9 ?c9 ?k9 ?a10 ?l10 ?c10 ?k10 ?a11 ?l11 ?c11 ?k11 ?a12 ?l12 ?c12 ?k12 ?a13 ?l13 ?c13 ?k13 ?a14 ?l14 ?c14 ?k14 ?a15 ?l15 ?c15 ?k15 ?a16 ?l16 ?c16 ?k16 ?a17 ?l17 ?c17 ?k17 ?a18 ?l18 ?c18 ?k18 ?a19 ?l19 ?c19 ?k19 ?a20 ?l20 ?c20 ?k20 ?a21 ?l21 ?c21 ?k21 ?a22 ?l22 ?c22 ?k22 ?a23 ?l23 ?c23 ?k23 ?a24 ?l24 ?c24 ?k24 ?a25 ?l25 ?c25 ?k25 ?a26 ?l26 ?c26 ?k26 ?a27 ?l27 ?c27 ?k27 ?a28 ?l28 ?c28 ?k28 ?a29 ?l29 ?c29 ?k29 ?a30 ?l30 ?c30 ?k30 ?a31 ?l31 ?c31 ?k31 ?aC ?ma0 ?mi0 ?ml0 ?mc0 ?mk0 ?ma1 ?mi1 ?ml1 ?mc1 ?mk1 ?ma2 ?mi2 ?ml2 ?mc2 ?mk2 ?ma3 ?mi3 ?ml3 ?mc3 ?mk3 ?ma4 ?mi4 ?ml4 ?mc4 ?mk4 ?ma5 ?mi5 ?ml5 ?mc5 ?mk5 ?ma6 ?mi6 ?ml6 ?mc6 ?mk6 ?pg ?hd ?po ?sa ?mks ?kc ?n_at ?n_pile ?n_opened ?ae0 ?ae1 ?ae2 ?ae3 ?ae4 ?ae5 ?aS ?zV ?xi0 ?xi1 ?xi2 ?xi3 ?xi4 ?xi5 ?q00 ?q01 ?q02 ?q03 ?q04 ?q05 ?q10 ?q11 ?q12 ?q13 ?q14 ?q15 ?q20 ?q21 ?q22 ?q23 ?q24 ?q25 ?q30 ?q31 ?q32 ?q33 ?q34 ?q35 ?q40 ?q41 ?q42 ?q43 ?q44 ?q45 ?q50 ?q51 ?q52 ?q53 ?q54 ?q55 ?qv0 ?qv1 ?qv2 ?qv3 ?qv4 ?qv5 ?lcl0 ?lcl1 ?lcl2 ?lcl3 ?lcl4 ?lcl5 ?lclS ?ln2 ?lk2 ?li2 ?ln5 ?lk5 ?li5 ?lnS ?lkS ?liS ?mB ?mS0 ?mS1 ?mS2 ?mS3 ?mS4 ?mS5 ?z1 ?z2 ?z3 ?z4 ?z5 ?z6 ?z7 ?z8 ?z9 ?z10 ?z11 ?z12 ?z13 ?z14 ?z15
  (case a1 => k_is); (case l1 => k_is); (case c1 => k_is); (case k1 => k_is)
  (case a2 => k_is); (case l2 => k_is); (case c2 => k_is); (case k2 => k_is)
  (case a3 => k_is); (case l3 => k_is); (case c3 => k_is); (case k3 => k_is)
  (case a4 => k_is); (case l4 => k_is); (case c4 => k_is); (case k4 => k_is)
  (case a5 => k_is); (case l5 => k_is); (case c5 => k_is); (case k5 => k_is)
  (case a6 => k_is); (case l6 => k_is); (case c6 => k_is); (case k6 => k_is)
  (case a7 => k_is); (case l7 => k_is); (case c7 => k_is); (case k7 => k_is)
  (case a8 => k_is); (case l8 => k_is); (case c8 => k_is); (case k8 => k_is)
  (case a9 => k_is); (case l9 => k_is); (case c9 => k_is); (case k9 => k_is)
  (case a10 => k_is); (case l10 => k_is); (case c10 => k_is); (case k10 => k_is)
  (case a11 => k_is); (case l11 => k_is); (case c11 => k_is); (case k11 => k_is)
  (case a12 => k_is); (case l12 => k_is); (case c12 => k_is); (case k12 => k_is)
  (case a13 => k_is); (case l13 => k_is); (case c13 => k_is); (case k13 => k_is)
  (case a14 => k_is); (case l14 => k_is); (case c14 => k_is); (case k14 => k_is)
  (case a15 => k_is); (case l15 => k_is); (case c15 => k_is); (case k15 => k_is)
  (case a16 => k_is); (case l16 => k_is); (case c16 => k_is); (case k16 => k_is)
  (case a17 => k_is); (case l17 => k_is); (case c17 => k_is); (case k17 => k_is)
  (case a18 => k_is); (case l18 => k_is); (case c18 => k_is); (case k18 => k_is)
  (case a19 => k_is); (case l19 => k_is); (case c19 => k_is); (case k19 => k_is)
  (case a20 => k_is); (case l20 => k_is); (case c20 => k_is); (case k20 => k_is)
  (case a21 => k_is); (case l21 => k_is); (case c21 => k_is); (case k21 => k_is)
  (case a22 => k_is); (case l22 => k_is); (case c22 => k_is); (case k22 => k_is)
  (case a23 => k_is); (case l23 => k_is); (case c23 => k_is); (case k23 => k_is)
  (case a24 => k_is); (case l24 => k_is); (case c24 => k_is); (case k24 => k_is)
  (case a25 => k_is); (case l25 => k_is); (case c25 => k_is); (case k25 => k_is)
  (case a26 => k_is); (case l26 => k_is); (case c26 => k_is); (case k26 => k_is)
  (case a27 => k_is); (case l27 => k_is); (case c27 => k_is); (case k27 => k_is)
  (case a28 => k_is); (case l28 => k_is); (case c28 => k_is); (case k28 => k_is)
  (case a29 => k_is); (case l29 => k_is); (case c29 => k_is); (case k29 => k_is)
  (case a30 => k_is); (case l30 => k_is); (case c30 => k_is); (case k30 => k_is)
  (case a31 => k_is); (case l31 => k_is); (case c31 => k_is); (case k31 => k_is)
  (case aC => k_is)
  (case ma0 => k_is)
  (case mi0 => k_is)
  (case ml0 => k_is)
  (case mc0 => k_is)
  (case mk0 => k_is)
  (case ma1 => k_is)
  (case mi1 => k_is)
  (case ml1 => k_is)
  (case mc1 => k_is)
  (case mk1 => k_is)
  (case ma2 => k_is)
  (case mi2 => k_is)
  (case ml2 => k_is)
  (case mc2 => k_is)
  (case mk2 => k_is)
  (case ma3 => k_is)
  (case mi3 => k_is)
  (case ml3 => k_is)
  (case mc3 => k_is)
  (case mk3 => k_is)
  (case ma4 => k_is)
  (case mi4 => k_is)
  (case ml4 => k_is)
  (case mc4 => k_is)
  (case mk4 => k_is)
  (case ma5 => k_is)
  (case mi5 => k_is)
  (case ml5 => k_is)
  (case mc5 => k_is)
  (case mk5 => k_is)
  (case ma6 => k_is)
  (case mi6 => k_is)
  (case ml6 => k_is)
  (case mc6 => k_is)
  (case mk6 => k_is)
  (case pg => k_is)
  (case hd => k_is)
  (case po => k_is)
  (case sa => k_is)
  (case mks => k_is)
  (case kc => k_is)
  (case n_at => k_is)
  (case n_pile => k_is)
  (case n_opened => k_is)
  (case ae0 => k_is)
  (case ae1 => k_is)
  (case ae2 => k_is)
  (case ae3 => k_is)
  (case ae4 => k_is)
  (case ae5 => k_is)
  (case aS => k_is)
  (case zV => k_is)
  (case xi0 => exact ⟨by k_is, by k_is, Sf.isSome_of (by k_is), by k_is, by k_is, by k_is, by k_is, by k_is⟩)
  (case xi1 => exact ⟨by k_is, by k_is, Sf.isSome_of (by k_is), by k_is, by k_is, by k_is, by k_is, by k_is⟩)
  (case xi2 => exact ⟨by k_is, by k_is, Sf.isSome_of (by k_is), by k_is, by k_is, by k_is, by k_is, by k_is⟩)
  (case xi3 => exact ⟨by k_is, by k_is, Sf.isSome_of (by k_is), by k_is, by k_is, by k_is, by k_is, by k_is⟩)
  (case xi4 => exact ⟨by k_is, by k_is, Sf.isSome_of (by k_is), by k_is, by k_is, by k_is, by k_is, by k_is⟩)
  (case xi5 => exact ⟨by k_is, by k_is, Sf.isSome_of (by k_is), by k_is, by k_is, by k_is, by k_is, by k_is⟩)
  (case q00 => kit_is)
  (case q01 => kit_is)
  (case q02 => kit_is)
  (case q03 => kit_is)
  (case q04 => kit_is)
  (case q05 => kit_is)
  (case q10 => kit_is)
  (case q11 => kit_is)
  (case q12 => kit_is)
  (case q13 => kit_is)
  (case q14 => kit_is)
  (case q15 => kit_is)
  (case q20 => kit_is)
  (case q21 => kit_is)
  (case q22 => kit_is)
  (case q23 => kit_is)
  (case q24 => kit_is)
  (case q25 => kit_is)
  (case q30 => kit_is)
  (case q31 => kit_is)
  (case q32 => kit_is)
  (case q33 => kit_is)
  (case q34 => kit_is)
  (case q35 => kit_is)
  (case q40 => kit_is)
  (case q41 => kit_is)
  (case q42 => kit_is)
  (case q43 => kit_is)
  (case q44 => kit_is)
  (case q45 => kit_is)
  (case q50 => kit_is)
  (case q51 => kit_is)
  (case q52 => kit_is)
  (case q53 => kit_is)
  (case q54 => kit_is)
  (case q55 => kit_is)
  (case qv0 => kit_is)
  (case qv1 => kit_is)
  (case qv2 => kit_is)
  (case qv3 => kit_is)
  (case qv4 => kit_is)
  (case qv5 => kit_is)
  (case lcl0 => k_is)
  (case lcl1 => k_is)
  (case lcl2 => k_is)
  (case lcl3 => k_is)
  (case lcl4 => k_is)
  (case lcl5 => k_is)
  (case lclS => k_is)
  (case ln2 => k_is)
  (case lk2 => exact rfl)
  (case li2 => k_is)
  (case ln5 => k_is)
  (case lk5 => exact rfl)
  (case li5 => k_is)
  (case lnS => k_is)
  (case lkS => exact rfl)
  (case liS => k_is)
  (case mB => k_is)
  (case mS0 => k_is)
  (case mS1 => k_is)
  (case mS2 => k_is)
  (case mS3 => k_is)
  (case mS4 => k_is)
  (case mS5 => k_is)
  (case z1 => k_is); (case z2 => k_is); (case z3 => k_is); (case z4 => k_is); (case z5 => k_is); (case z6 => k_is); (case z7 => k_is); (case z8 => k_is); (case z9 => k_is); (case z10 => k_is); (case z11 => k_is); (case z12 => k_is); (case z13 => k_is); (case z14 => k_is); (case z15 => k_is)
#print axioms PySem.Challenge.cw_stripfold_k06_bench_deeds_holds
