import PyProof.Rows.All
import Wide.All
import OpenK.AllK
import Wide.FinOn
import Lean
import PyProof.EqAt
import PyProof.EqKinds
import PyProof.TupleCall
import PyProof.NeKinds
import PyProof.EnumMake
import PyProof.ListRange
import PyProof.Rows.Range3
import PyProof.Rows.SortRuns
import PyProof.Rows.SortWalk
import KE.KMinKey
import KE.KLam
import PyProof.Rows.RuleN_abs
import PyProof.AutoSeq1
import PySem.Challenge.RW_stripfold_k07_whole_drawn_apart
set_option Elab.async false
set_option linter.all false
set_option maxRecDepth 100000
namespace L2
open PySem PySem.Spec PyProof.Rows
abbrev Key:=Sum Int Str
def keyIs:Key→Value→Bool
 | .inl k,v=>Value.isInt k v
 | .inr x,v=>Value.isStrOf x v
def keyH (w:World):Key→Int
 | .inl k=>hashInt k
 | .inr x=>hashStr w x
theorem keyIs_shape:∀ {k:Key} {v:Value},keyIs k v=true→(∃ i t,k=Sum.inl i∧v=Value.int i t)∨(∃ x t,k=Sum.inr x∧v=Value.str x t)
 | .inl i,v,h=>by
  obtain ⟨t,e⟩:=Value.isInt_shape (k:=i) (v:=v) h
  exact .inl ⟨i,t,rfl,e⟩
 | .inr x,v,h=>by
  obtain ⟨t,e⟩:=Value.isStrOf_shape (x:=x) (v:=v) h
  exact .inr ⟨x,t,rfl,e⟩
theorem key_ll (a b:Int):decide ((Sum.inl a:Key)=Sum.inl b)=(a == b):=by
 by_cases e:a=b
 ·subst e; simp
 ·have h:¬ (Sum.inl a:Key)=Sum.inl b:=fun q=>e (Sum.inl.inj q)
  rw [decide_eq_false h]
  exact (beq_eq_false_iff_ne.mpr e).symm
theorem key_rr (a b:Str):decide ((Sum.inr a:Key)=Sum.inr b)=decide (a=b):=by
 by_cases e:a=b
 ·subst e; simp
 ·have h:¬ (Sum.inr a:Key)=Sum.inr b:=fun q=>e (Sum.inr.inj q)
  rw [decide_eq_false h,decide_eq_false e]
theorem key_lr (a:Int) (b:Str):decide ((Sum.inl a:Key)=Sum.inr b)=false:=decide_eq_false (fun q=>nomatch q)
theorem key_rl (a:Str) (b:Int):decide ((Sum.inr a:Key)=Sum.inl b)=false:=decide_eq_false (fun q=>nomatch q)
def mixKind (prog:Program) (w:World):PySem.KeyKind prog w Key where
 is:=keyIs
 hash:=keyH w
 inj:=fun v a b ha hb=>by
  rcases keyIs_shape ha with ⟨i,t,rfl,rfl⟩ | ⟨x,t,rfl,rfl⟩
  ·rcases keyIs_shape hb with ⟨j,u,rfl,e⟩ | ⟨y,u,rfl,e⟩
   ·injection e with e1 _; rw [e1]
   ·exact nomatch e
  ·rcases keyIs_shape hb with ⟨j,u,rfl,e⟩ | ⟨y,u,rfl,e⟩
   ·exact nomatch e
   ·injection e with e1 _; rw [e1]
 byValue:=fun k v h=>by
  rcases keyIs_shape h with ⟨i,t,rfl,rfl⟩ | ⟨x,t,rfl,rfl⟩ <;> rfl
 pyHash:=fun hv h=>by
  rcases keyIs_shape hv with ⟨i,t,rfl,rfl⟩ | ⟨x,t,rfl,rfl⟩
  ·exact wpAny_pyHash_int h
  ·exact wpAny_pyHash_str h
 eqBool:=fun hu hv h=>by
  rcases keyIs_shape hu with ⟨i,t,rfl,rfl⟩ | ⟨x,t,rfl,rfl⟩
  ·rcases keyIs_shape hv with ⟨j,u,rfl,rfl⟩ | ⟨y,u,rfl,rfl⟩
   ·rw [key_ll] at h; exact wpAny_eqBool_int h
   ·rw [key_lr] at h; exact SeqAt.EqAt.int_str i t y u _ _ _ _ h
  ·rcases keyIs_shape hv with ⟨j,u,rfl,rfl⟩ | ⟨y,u,rfl,rfl⟩
   ·rw [key_rl] at h; exact SeqAt.EqAt.str_int x t j u _ _ _ _ h
   ·rw [key_rr] at h; exact wpAny_eqBool_str h
 «strs»:=fun k x t v h=>by
  rcases keyIs_shape h with ⟨i,u,rfl,e⟩ | ⟨y,u,rfl,e⟩
  ·exact nomatch e
  ·injection e with e1 _
   subst e1
   cases v <;> rfl
end L2
namespace L2
open PySem PySem.Spec PyProof.Rows
inductive V where
 | non | bl (b:Bool) | int (i:Int) | str (x:Str) | byt (b:Array UInt8) | flt (b:UInt64) | ref (a:Addr) | ty (n:String)
 deriving DecidableEq
def RelV:V→Value→Prop
 | .non,u=>u=Value.none
 | .bl b,u=>u=Value.bool b
 | .int i,u=>∃ t,u=Value.int i t
 | .str x,u=>∃ t,u=Value.str x t
 | .byt b,u=>∃ t,u=Value.bytes b t
 | .flt b,u=>∃ t,u=Value.float b t
 | .ref a,u=>u=Value.ref a
 | .ty n,u=>u=Value.type n
abbrev Vals:List V→List Value→Prop:=Paired RelV
theorem Vals.length {xs:List V} {us:List Value} (r:Vals xs us):xs.length=us.length:=Paired.length r
theorem Vals.get:∀ {xs:List V} {us:List Value} {i:Nat} {x:V},Vals xs us→xs[i]?=some x→∃ u,us[i]?=some u∧RelV x u
 | _,_,_,_,.nil,e=>by simp at e
 | _,_,0,_,.cons r _,e=>by simp at e; subst e; exact ⟨_,rfl,r⟩
 | _,_,i+1,x,.cons _ t,e=>by
  obtain ⟨u,h1,h2⟩:=Vals.get (i:=i) (x:=x) t (by simpa using e)
  exact ⟨u,by simpa using h1,h2⟩
theorem Vals.set {x:V} {u:Value} (r:RelV x u):∀ {xs:List V} {us:List Value} (i:Nat),Vals xs us→Vals (xs.set i x) (us.set i u)
 | _,_,_,.nil=>.nil
 | _,_,0,.cons _ t=>.cons r t
 | _,_,i+1,.cons q t=>.cons q (Vals.set r i t)
theorem Vals.append:∀ {xs ys:List V} {us ws:List Value},Vals xs us→Vals ys ws→Vals (xs++ys) (us++ws)
 | _,_,_,_,.nil,s=>s
 | _,_,_,_,.cons r t,s=>.cons r (Vals.append t s)
theorem Vals.take:∀ {xs:List V} {us:List Value} (n:Nat),Vals xs us→Vals (xs.take n) (us.take n)
 | _,_,0,_=>.nil
 | _,_,_+1,.nil=>.nil
 | _,_,n+1,.cons r t=>.cons r (Vals.take n t)
theorem Vals.drop:∀ {xs:List V} {us:List Value} (n:Nat),Vals xs us→Vals (xs.drop n) (us.drop n)
 | _,_,0,r=>r
 | _,_,_+1,.nil=>.nil
 | _,_,n+1,.cons _ t=>Vals.drop n t
theorem Vals.none_of:∀ {xs:List V} {us:List Value} {i:Nat},Vals xs us→xs[i]?=none→us[i]?=none:=fun {xs us i} r e=>by
 have h1:=r.length
 have h2:xs.length≤i:=List.getElem?_eq_none_iff.mp e
 exact List.getElem?_eq_none_iff.mpr (by omega)
def RelO:Option V→Option Value→Prop
 | some v,some u=>RelV v u
 | none,none=>True
 | _,_=>False
def KV {κ:Type}:List (κ×V)→List (κ×Value)→Prop:=Paired fun (p:κ×V) (q:κ×Value)=>p.1=q.1∧RelV p.2 q.2
def kV:Key→V
 | .inl i=>.int i
 | .inr x=>.str x
inductive HO where
  | lst (xs:List V)
  | tup (xs:List V)
  | dK (kvs:List (Key×V)) | dT (kvs:List (List Key×V))
  | set (S:Int→Bool) (n:Nat)
  | ins (C dx:Addr) (fs:List (Str×V))
  | own (x:Addr)
  | xd (fs:List (Str×V))
  | met (f x:Addr)
  | rng (lo hi:Int)
  | frz (o:Obj) (u:HO)
  | tbl (ps:Array Value)
  | ext (φ:Heap→Prop)
abbrev Hp:=Addr→Option HO
def upd (H:Hp) (a:Addr) (o:HO):Hp:=fun b=>if b=a then some o else H b
theorem upd_same {H:Hp} {a:Addr} {o:HO}:upd H a o a=some o:=by unfold upd; rw [if_pos rfl]
theorem upd_ne {H:Hp} {a b:Addr} {o:HO} (h:b≠a):upd H a o b=H b:=by unfold upd; rw [if_neg h]
theorem ne_of {H:Hp} {a b:Addr} {o u:HO} (h:H a=some o) (h':H b=some u) (d:o≠u):a≠b:=by
 intro e; subst e; rw [h] at h'; exact d (Option.some.inj h')
theorem ne_of_none {H:Hp} {a b:Addr} {o:HO} (h:H a=some o) (h':H b=none):a≠b:=by
 intro e; subst e; rw [h] at h'; cases h'
section
variable (P:Program) (w:World)
def ObjOk (H:Hp) (h:Heap) (a:Addr):HO→Prop
 | .lst xs=>xs.length≤sizeLine∧∃ (its:List Value) (n:Nat),Vals xs its∧h.get? a=some { cls:=.type "list",data:=.seq its.toArray n }
 | .tup xs=>xs.length≤sizeLine∧∃ its:List Value,Vals xs its∧IsTup h a its.toArray
 | .dK kvs=>kvs.length≤sizeLine∧(a == sysModules)=false∧∃ vs,KV kvs vs∧h.DictOf (mixKind P w) a vs
 | .dT kvs=>kvs.length≤sizeLine∧(a == sysModules)=false∧∃ xs:List (List Key×Addr×Value),
   Paired (fun (p:List Key×V) (q:List Key×Addr×Value)=>p.1=q.1∧H q.2.1=some (.tup (p.1.map kV))∧RelV p.2 q.2.2) kvs xs ∧
   ∃ o es ep,h.get? a=some o∧o.ExactDict∧o.data=.dict es ep∧es.toList=xs.map (entryOfKey (tupleKind (mixKind P w)))∧(xs.map (·.1)).Nodup
 | .set S n=>h.SetOf (intKind P w) a S n
 | .ins C dx fs=>H dx=some (.own a)∧fs.length≤1000∧dx≠a∧h.get? a=some (PySem.W.instObj C dx) ∧
   ∃ mA,h.Ns1 dx mA∧(∀ f,RelO (fs.lookup f) (mA f))∧PySem.Within mA (fs.map (·.1))
 | .own _=>∃ o,h.get? a=some o
 | .xd fs=>∃ mA,h.Ns1 a mA∧∀ f,RelO (fs.lookup f) (mA f)
 | .rng lo hi=>∃ t u v,h.get? a=some { cls:=.type "range",data:=.fields #[.int lo t,.int hi u,.int 1 v] }
 | .frz o u=>h.get? a=some o∧ObjOk H h a u
 | .tbl ps=>h.get? a=some { cls:=.none,data:=.fields ps }
 | .met f x=>h.get? a=some (PySem.W.methodObj (.ref f) (.ref x))
 | .ext φ=>φ h∧(∃ o,h.get? a=some o)∧∀ h1 h2:Heap,φ h1→(∀ o,h1.get? a=some o→h2.get? a=some o)→φ h2
def HOk (H:Hp) (h:Heap):Prop:=∀ a o,H a=some o→ObjOk P w H h a o
end
section
variable {P:Program} {w:World} {H H':Hp} {h h':Heap} {a:Addr} {o:HO}
theorem ObjOk.lt (x:ObjOk P w H h a o):a<h.objs.size:=by
 cases o with
 | lst xs=>obtain ⟨_,_,_,_,e⟩:=x; exact Heap.lt_size e
 | tup xs=>obtain ⟨_,_,_,p⟩:=x; exact p.lt
 | dK kvs=>obtain ⟨_,_,_,_,o,_,_,e,_⟩:=x; exact Heap.lt_size e
 | dT kvs=>obtain ⟨_,_,_,_,o,_,_,e,_⟩:=x; exact Heap.lt_size e
 | set S n=>obtain ⟨o,_,_,_,e,_⟩:=x; exact Heap.lt_size e
 | ins C dx fs=>obtain ⟨_,_,_,e,_⟩:=x; exact Heap.lt_size e
 | own y=>obtain ⟨_,e⟩:=x; exact Heap.lt_size e
 | xd fs=>obtain ⟨_,⟨_,_,_,e,_⟩,_⟩:=x; exact Heap.lt_size e
 | rng lo hi=>obtain ⟨_,_,_,e⟩:=x; exact Heap.lt_size e
 | frz ob u=>obtain ⟨e,_⟩:=x; exact Heap.lt_size e
 | tbl ps=>exact Heap.lt_size (show h.get? a=some _ from x)
 | met f y=>exact Heap.lt_size (show h.get? a=some _ from x)
 | ext φ=>obtain ⟨_,⟨_,e⟩,_⟩:=x; exact Heap.lt_size e
theorem Paired.mapP {α β:Type} {F G:α→β→Prop}:∀ {l₁:List α} {l₂:List β},Paired F l₁ l₂→(∀ a b,F a b→G a b)→Paired G l₁ l₂
 | _,_,.nil,_=>.nil
 | _,_,.cons r t,f=>.cons (f _ _ r) (Paired.mapP t f)
theorem ObjOk.stay (x:ObjOk P w H h a o) (k:∀ b u,(b=a∨H b=some (.own a))→h.get? b=some u→h'.get? b=some u)
  (ho:∀ b,H b=some (.own a)→H' b=some (.own a)) (ht:∀ b xs,H b=some (.tup xs)→H' b=some (.tup xs)):ObjOk P w H' h' a o:=by
 induction o with
 | lst xs=>obtain ⟨z,its,n,r,e⟩:=x; exact ⟨z,its,n,r,k _ _ (.inl rfl) e⟩
 | tup xs=>obtain ⟨z,its,r,ob,e,c⟩:=x; exact ⟨z,its,r,ob,k _ _ (.inl rfl) e,c⟩
 | dK kvs=>obtain ⟨z,y,vs,r,ob,es,ep,e,c⟩:=x; exact ⟨z,y,vs,r,ob,es,ep,k _ _ (.inl rfl) e,c⟩
 | dT kvs =>
  obtain ⟨z,y,xs,r,ob,es,ep,e,c⟩:=x
  exact ⟨z,y,xs,Paired.mapP r fun p q z=>⟨z.1,ht _ _ z.2.1,z.2.2⟩,ob,es,ep,k _ _ (.inl rfl) e,c⟩
 | set S n=>obtain ⟨ob,es,ep,t,e,c⟩:=x; exact ⟨ob,es,ep,t,k _ _ (.inl rfl) e,c⟩
 | ins C dx fs =>
  obtain ⟨d,z,ne,e,mA,⟨od,es,ep,e2,c⟩,r⟩:=x
  exact ⟨ho _ d,z,ne,k _ _ (.inl rfl) e,mA,⟨od,es,ep,k _ _ (.inr d) e2,c⟩,r⟩
 | own y=>obtain ⟨ob,e⟩:=x; exact ⟨ob,k _ _ (.inl rfl) e⟩
 | xd fs=>obtain ⟨mA,⟨od,es,ep,e,c⟩,r⟩:=x; exact ⟨mA,⟨od,es,ep,k _ _ (.inl rfl) e,c⟩,r⟩
 | rng lo hi=>obtain ⟨t,u,v,e⟩:=x; exact ⟨t,u,v,k _ _ (.inl rfl) e⟩
 | frz ob u ih=>obtain ⟨e,q⟩:=x; exact ⟨k _ _ (.inl rfl) e,ih q⟩
 | tbl ps =>
  have e:h.get? a=some { cls:=.none,data:=.fields ps }:=x
  show h'.get? a=some { cls:=.none,data:=.fields ps }
  exact k a _ (.inl rfl) e
 | met f y =>
  have e:h.get? a=some (PySem.W.methodObj (.ref f) (.ref y)):=x
  show h'.get? a=some (PySem.W.methodObj (.ref f) (.ref y))
  exact k a _ (.inl rfl) e
 | ext φ=>obtain ⟨p,⟨o,e⟩,st⟩:=x; exact ⟨st _ _ p fun o q=>k _ _ (.inl rfl) q,⟨o,k _ _ (.inl rfl) e⟩,st⟩
theorem HOk.lt (x:HOk P w H h) (e:H a=some o):a<h.objs.size:=(x a o e).lt
theorem HOk.fresh (x:HOk P w H h) (e:h.objs.size≤a):H a=none:=by
 cases q:H a with
 | none=>rfl
 | some u=>exact absurd (Nat.lt_of_lt_of_le (x.lt q) e) (Nat.lt_irrefl _)
theorem HOk.kept (x:HOk P w H h) (k:∀ b u,h.get? b=some u→h'.get? b=some u):HOk P w H h':=fun a o e =>
 (x a o e).stay (fun b u _ q=>k b u q) (fun _ q=>q) fun _ _ q=>q
theorem HOk.laid (x:HOk P w H h) (k:∀ b u,h.get? b=some u→h'.get? b=some u) (hp:h.objs.size≤a) (new:ObjOk P w (upd H a o) h' a o):HOk P w (upd H a o) h':=fun b u e=>by
 have hn:=x.fresh hp
 by_cases hb:b=a
 ·subst hb; rw [upd_same] at e; cases e; exact new
 ·rw [upd_ne hb] at e
  exact (x b u e).stay (fun c v _ q=>k c v q) (fun c q=>by rw [upd_ne (ne_of_none q hn)]; exact q) fun c xs q=>by rw [upd_ne (ne_of_none q hn)]; exact q
end
def Rd (H:Hp) (a:Addr) (u:HO):Prop:=H a=some u∨∃ o,H a=some (.frz o u)
theorem Rd.of {H:Hp} {a:Addr} {u:HO} (h:H a=some u):Rd H a u:=.inl h
theorem Rd.ok {P:Program} {w:World} {H:Hp} {h:Heap} {a:Addr} {u:HO} (r:Rd H a u) (x:HOk P w H h):ObjOk P w H h a u:=by
 rcases r with r | ⟨o,r⟩
 ·exact x a u r
 ·obtain ⟨_,q⟩:=x a _ r
  exact q
def Mut:Option HO→Prop
 | some (.lst _)=>True
 | some (.dK _)=>True
 | some (.dT _)=>True
 | some (.set _ _)=>True
 | some (.ins _ _ _)=>True
 | some (.ext _)=>True
 | _=>False
section
variable {P:Program} {w:World} {H:Hp} {h h':Heap} {x e:Addr} {o':HO}
theorem HOk.write (ok:HOk P w H h) (mu:Mut (H x)) (he:e=x∨H e=some (.own x)) (k:∀ b u,b≠e→h.get? b=some u→h'.get? b=some u) (heo:∃ u,h'.get? e=some u)
  (new:ObjOk P w (upd H x o') h' x o'):HOk P w (upd H x o') h':=fun b u q=>by
 have nown:∀ c y,H c=some (.own y)→c≠x:=fun c y r z=>by subst z; rw [r] at mu; exact mu
 have ntup:∀ c xs,H c=some (.tup xs)→c≠x:=fun c xs r z=>by subst z; rw [r] at mu; exact mu
 by_cases hb:b=x
 ·subst hb; rw [upd_same] at q; cases q; exact new
 ·rw [upd_ne hb] at q
  by_cases hbe:b=e
  ·have q':H b=some (.own x):=by
    rcases he with z | z
    ·exact absurd (hbe.trans z) hb
    ·rw [hbe]; exact z
   rw [q] at q'; cases q'
   obtain ⟨v,hv⟩:=heo
   exact ⟨v,by rw [hbe]; exact hv⟩
  ·refine (ok b u q).stay (fun c v hc r=>k c v ?_ r) (fun c r=>by rw [upd_ne (nown c b r)]; exact r) fun c xs r=>by rw [upd_ne (ntup c xs r)]; exact r
   rcases hc with rfl | hc
   ·exact hbe
   ·rintro rfl
    rcases he with z | z
    ·exact nown c b hc z
    ·rw [hc] at z; cases z; exact hb rfl
end
structure Un (fs ex:List Addr) (H H':Hp) (h h':Heap):Prop where
 keep:∀ b o,h.get? b=some o→H b=none→b∉fs→b∉ex→h'.get? b=some o
 slot:∀ b o,h.get? b=some o→H b=none→b∈fs→b∉ex→∃ sl,h'.get? b=some { o with slots:=sl }
 free:∀ b o,h.get? b=some o→H b=none→b∉ex→H' b=none
 there:∀ b o,h.get? b=some o→b∉ex→∃ o',h'.get? b=some o'
 tups:∀ b xs,H b=some (.tup xs)→H' b=some (.tup xs)
 frzs:∀ b o u,H b=some (.frz o u)→H' b=some (.frz o u)
 tbls:∀ b ps,H b=some (.tbl ps)→∃ more,H' b=some (.tbl (ps++more))
section
variable {fs fs' ex ex':List Addr} {H H1 H2:Hp} {h h1 h2 h':Heap} {a x e:Addr} {o:HO}
theorem Un.any (u:Un fs ex H H1 h h1) {b:Addr} {ob:Obj} (q:h.get? b=some ob) (n:H b=none) (hx:b∉ex):∃ sl,h1.get? b=some { ob with slots:=sl }:=by
 by_cases hb:b∈fs
 ·exact u.slot b ob q n hb hx
 ·exact ⟨ob.slots,u.keep b ob q n hb hx⟩
theorem Un.trans (a:Un fs ex H H1 h h1) (b:Un fs ex H1 H2 h1 h2):Un fs ex H H2 h h2 where
 keep:=fun c ob q n hc hx=>b.keep c ob (a.keep c ob q n hc hx) (a.free c ob q n hx) hc hx
 slot:=fun c ob q n hc hx=>by
  obtain ⟨sl,e1⟩:=a.slot c ob q n hc hx
  obtain ⟨sl',e2⟩:=b.slot c _ e1 (a.free c ob q n hx) hc hx
  exact ⟨sl',e2⟩
 free:=fun c ob q n hx=>by
  obtain ⟨o',e1⟩:=a.there c ob q hx
  exact b.free c o' e1 (a.free c ob q n hx) hx
 there:=fun c ob q hx=>by
  obtain ⟨o',e1⟩:=a.there c ob q hx
  exact b.there c o' e1 hx
 tups:=fun c xs q=>b.tups c xs (a.tups c xs q)
 frzs:=fun c ob xs q=>b.frzs c ob xs (a.frzs c ob xs q)
 tbls:=fun c ps q=>by
  obtain ⟨m1,e1⟩:=a.tbls c ps q
  obtain ⟨m2,e2⟩:=b.tbls c _ e1
  exact ⟨m1++m2,by rw [e2,Array.append_assoc]⟩
theorem Un.kept (k:∀ b u,h.get? b=some u→h'.get? b=some u):Un fs ex H H h h' :=
 ⟨fun b ob q _ _ _=>k b ob q,fun b ob q _ _ _=>⟨ob.slots,k b ob q⟩,fun _ _ _ n _=>n,fun b ob q _=>⟨ob,k b ob q⟩,fun _ _ q=>q,fun _ _ _ q=>q,fun _ ps q=>⟨#[],by rw [q]; simp⟩⟩
theorem Un.refl:Un fs ex H H h h:=Un.kept fun _ _ q=>q
theorem Un.laid (k:∀ b u,h.get? b=some u→h'.get? b=some u) (hp:h.objs.size≤a) (hn:H a=none):Un fs ex H (upd H a o) h h' where
 keep:=fun b u q _ _ _=>k b u q
 slot:=fun b u q _ _ _=>⟨u.slots,k b u q⟩
 free:=fun b u q n _=>by rw [upd_ne (Nat.ne_of_lt (Nat.lt_of_lt_of_le (Heap.lt_size q) hp))]; exact n
 there:=fun b u q _=>⟨u,k b u q⟩
 tups:=fun b xs q=>by rw [upd_ne (ne_of_none q hn)]; exact q
 frzs:=fun b u xs q=>by rw [upd_ne (ne_of_none q hn)]; exact q
 tbls:=fun b ps q=>⟨#[],by rw [upd_ne (ne_of_none q hn),q]; simp⟩
theorem Un.write (mu:Mut (H x)) (he:e=x∨H e=some (.own x)) (k:∀ b u,b≠e→h.get? b=some u→h'.get? b=some u) (heo:∃ u,h'.get? e=some u):Un fs ex H (upd H x o) h h':=by
 have hx:∀ b,H b=none→b≠x:=fun b n z=>by subst z; rw [n] at mu; exact mu
 have hb:∀ b,H b=none→b≠e:=fun b n z=>by
  subst z
  rcases he with r | r
  ·exact hx b n r
  ·rw [n] at r; cases r
 have hm:∀ b u,H b=some u→¬ Mut (some u)→b≠x:=fun b u q nm z=>by subst z; rw [q] at mu; exact nm mu
 refine ⟨fun b u q n _ _=>k b u (hb b n) q,fun b u q n _ _=>⟨u.slots,k b u (hb b n) q⟩,fun b u q n _=>by rw [upd_ne (hx b n)]; exact n,fun b u q _=>?_,
  fun b xs q=>by rw [upd_ne (hm b _ q fun z=>z)]; exact q,fun b u xs q=>by rw [upd_ne (hm b _ q fun z=>z)]; exact q,fun b ps q=>⟨#[],by rw [upd_ne (hm b _ q fun z=>z),q]; simp⟩⟩
 by_cases hbe:b=e
 ·subst hbe; exact heo
 ·exact ⟨u,k b u hbe q⟩
theorem Un.mono (u:Un fs ex H H1 h h1) (hs:∀ b∈fs,b∈fs') (hx:∀ b∈ex,b∈ex'):Un fs' ex' H H1 h h1 :=
 ⟨fun b ob q n hb he=>u.keep b ob q n (fun z=>hb (hs b z)) fun z=>he (hx b z),fun _ _ q n _ he=>u.any q n fun z=>he (hx _ z),fun b ob q n he=>u.free b ob q n fun z=>he (hx b z),fun b ob q he=>u.there b ob q fun z=>he (hx b z),u.tups,u.frzs,u.tbls⟩
end
def trk (h:Heap) (H:Hp):List Addr:=(List.range h.objs.size).filter fun a=>(H a).isSome
def hidT (h:Heap) (H:Hp):Heap:=PySem.W.hideAll h (trk h H)
theorem hidT_size (h:Heap) (H:Hp):(hidT h H).objs.size=h.objs.size:=PySem.W.hideAll_size _ _
theorem hidT_get {h:Heap} {H:Hp} {b:Addr} {o:Obj} (e:h.get? b=some o) (n:H b=none):(hidT h H).get? b=some o :=
 PySem.W.hideAll_get _ e fun hm=>by
  have q:(H b).isSome=true:=(List.mem_filter.mp hm).2
  rw [n] at q; simp at q
theorem of_hidT {h:Heap} {H:Hp} {b:Addr} {o:Obj} (e:(hidT h H).get? b=some o):h.get? b=some o∧H b=none:=by
 have e':h.get? b=some o:=PySem.W.of_hideAll (trk h H) e
 refine ⟨e',?_⟩
 cases q:H b with
 | none=>rfl
 | some x =>
  have hm:b∈trk h H:=List.mem_filter.mpr ⟨List.mem_range.mpr (Heap.lt_size e'),by simp [q]⟩
  have z:(hidT h H).get? b=none:=PySem.W.hideAll_none (trk h H) hm
  rw [z] at e; cases e
def allNews (g h:Heap) (L:Addr):List (Addr×Obj):=(List.range h.objs.size).filterMap fun a=>if a=L∨(g.get? a).isSome=true then none else (h.get? a).map fun o=>(a,o)
theorem mem_allNews {g h:Heap} {L a:Addr} {o:Obj} (h1:a≠L) (h2:g.get? a=none) (h3:h.get? a=some o):(a,o)∈allNews g h L :=
 List.mem_filterMap.mpr ⟨a,List.mem_range.mpr (Heap.lt_size h3),by simp [h1,h2,h3]⟩
theorem of_mem_allNews {g h:Heap} {L:Addr} {p:Addr×Obj} (hp:p∈allNews g h L):p.1≠L∧g.get? p.1=none∧h.get? p.1=some p.2:=by
 obtain ⟨b,_,e⟩:=List.mem_filterMap.mp hp
 split at e
 ·cases e
 ·rename_i hn
  cases q:h.get? b with
  | none=>rw [q] at e; simp at e
  | some u =>
   rw [q] at e
   simp only [Option.map_some,Option.some.injEq] at e
   subst e
   refine ⟨fun z=>hn (.inl z),?_,q⟩
   show g.get? b=none
   cases r:g.get? b with
   | none=>rfl
   | some v=>exact (hn (.inr (by simp [r]))).elim
def rest (g h:Heap) (L d:Addr):List (Addr×Obj):=(allNews g h L).filter fun p=>decide (p.1≠d)
theorem news_all {g h:Heap} {L:Addr}:News g L h (allNews g h L):=fun p hp=>let ⟨a,b,c⟩:=of_mem_allNews hp; ⟨c,a,b⟩
end L2
namespace L2
open PySem PySem.Spec PyProof.Rows
structure Mod (K:PySem.W.Frag) (mg:Str→Option Value) (base:Heap):Prop where
 kin:K.In base
 glob:base.Ns mainGlobals mg
 blt:∃ mb,base.Ns builtinsNs mb∧∀ x:Str,x≠"__name__"→mb x=bootBuiltins x
 nolimit:base.NoLimit
structure Cx where
 prog:Program
 w:World
 K:PySem.W.Frag
 mg:Str→Option Value
 base:Heap
 A:Around
 N:List Str
 s₀:Shared
 H₀:Hp
 env:Env
 outer:List Env
 stack:List Env
 ex:List Addr
 fn:Str→Bool
 calm:Bool
 pn:List (Addr×Obj)
 xe:Value→Shared→Prop
def frs (l:List Env):List Addr:=l.filterMap (·.frame)
abbrev Cx.fs (X:Cx):List Addr:=frs X.outer
def Vis (sc:Scope) (x:Str):Prop:=sc.names.lookup x=some .local∨sc.names.lookup x=some .cell∨sc.names.lookup x=some .free
def Loc (sc:Scope) (x:Str):Prop:=sc.names.lookup x=some .local∨sc.names.lookup x=some .cell
def Look (env:Env) (h:Heap) (m:Str→Option Value) (x:Str) (u:Value):Prop :=
 (env.kindOf x=some .local∧m x=some u)∨((env.kindOf x=some .cell∨env.kindOf x=some .free)∧∃ c,env.cells.lookup x=some c∧h.IsCell c (some u))
structure Cx.Ok (X:Cx):Prop where
 mod:Mod X.K X.mg X.base
 kind:X.env.scope.kind=.function
 glob:X.env.globals=mainGlobals
 blt:X.env.builtins=builtinsNs
 above:X.s₀.heap.objs.size≤X.env.locals
 inj:∀ x y c,X.env.cells.lookup x=some c→X.env.cells.lookup y=some c→x=y
 has:∀ x,(X.env.kindOf x=some .cell∨X.env.kindOf x=some .free)→∃ c,X.env.cells.lookup x=some c
 cab:∀ x c,X.fn x=true→X.env.cells.lookup x=some c→X.s₀.heap.objs.size≤c
 hd:X.calm=true→X.A.handled=none
 frames:X.A.frames=some X.stack
 stk:X.stack=X.outer∨(X.stack=X.env::X.outer∧X.env.frame=some X.env.locals)
 exf:∀ b∈X.ex,b≠X.env.locals∧∀ x c,X.env.cells.lookup x=some c→c≠b
 bs:∀ b o,X.base.get? b=some o→X.s₀.heap.get? b=some o∧X.H₀ b=none
 bsz:X.base.objs.size≤X.s₀.heap.objs.size
 noex:∀ b o,X.base.get? b=some o→b∉X.ex
 exfs:∀ b∈X.ex,b∉X.fs
 funs:X.s₀.heap.FunFrames X.base X.outer
 frf:∀ b∈X.fs,X.H₀ b=none
structure Inv (X:Cx) (pins:List (Addr×Obj)) (σ:List (Option V)) (H:Hp) (s:Shared):Prop where
 ok:X.Ok
 os:s.os=X.s₀.os
 bare:AllBare s.gens
 base:Un X.fs X.ex X.H₀ H X.s₀.heap s.heap
 loc:∃ m,s.heap.Ns X.env.locals m∧∀ (i:Nat) (x:Str) (v:V),X.N[i]?=some x→σ[i]?=some (some v)→Vis X.env.scope x→∃ u,RelV v u∧Look X.env s.heap m x u
 cell:∀ x c,X.env.cells.lookup x=some c→∃ v,s.heap.IsCell c v
 free:H X.env.locals=none
 freeC:∀ x c,X.env.cells.lookup x=some c→H c=none
 pin:∀ p∈X.pn++pins,s.heap.get? p.1=some p.2∧H p.1=none∧p.1≠X.env.locals∧p.1∉X.fs∧∀ v,p.2.data≠.cell v
 hok:HOk X.prog X.w H s.heap
 len:σ.length=X.N.length
section
variable {X:Cx} {pins:List (Addr×Obj)} {σ:List (Option V)} {H H':Hp} {s:Shared} {h':Heap}
theorem Cx.Ok.nofr (ok:X.Ok) {b:Addr} {o:Obj} (e:X.base.get? b=some o):b∉X.fs:=fun hb=>by
 have:=(ok.funs.mem hb).1
 rw [e] at this; cases this
theorem Inv.bs (I:Inv X pins σ H s):∀ b o,X.base.get? b=some o→s.heap.get? b=some o∧H b=none:=fun b o e =>
 ⟨I.base.keep b o (I.ok.bs b o e).1 (I.ok.bs b o e).2 (I.ok.nofr e) (I.ok.noex b o e),I.base.free b o (I.ok.bs b o e).1 (I.ok.bs b o e).2 (I.ok.noex b o e)⟩
theorem Inv.bk (I:Inv X pins σ H s):∀ b o,X.base.get? b=some o→s.heap.get? b=some o:=fun b o e=>(I.bs b o e).1
theorem Inv.mod (I:Inv X pins σ H s):Mod X.K X.mg X.base:=I.ok.mod
theorem Inv.kIn (I:Inv X pins σ H s):X.K.In s.heap:=I.ok.mod.kin.keeps I.bk
theorem Inv.nolimit (I:Inv X pins σ H s):s.heap.NoLimit:=I.ok.mod.nolimit.keeps I.bk
theorem Inv.fr (I:Inv X pins σ H s):∃ m,Fr X.base X.env.locals s.heap m :=
 let ⟨m,hn,_⟩:=I.loc
 ⟨m,hn,I.bk,Nat.le_trans I.ok.bsz I.ok.above⟩
theorem Inv.lt (I:Inv X pins σ H s):X.env.locals<s.heap.objs.size:=let ⟨_,hn,_⟩:=I.loc; hn.lt
theorem Inv.sz (I:Inv X pins σ H s):X.s₀.heap.objs.size≤s.heap.objs.size:=Nat.le_trans I.ok.above (Nat.le_of_lt I.lt)
theorem Inv.nofs (I:Inv X pins σ H s) {a:Addr} (h:s.heap.objs.size≤a):a∉X.fs:=fun hb=>by
 obtain ⟨_,o,ho,_⟩:=I.ok.funs.mem hb
 exact absurd (Nat.lt_of_lt_of_le (Heap.lt_size ho) (Nat.le_trans I.sz h)) (Nat.lt_irrefl _)
theorem Inv.cne (I:Inv X pins σ H s):∀ x c,X.env.cells.lookup x=some c→c≠X.env.locals:=fun x c e z=>by
 obtain ⟨v,o,ho,hd⟩:=I.cell x c e
 obtain ⟨m,⟨o',es,ep,ho',hd',_⟩,_⟩:=I.loc
 rw [z,ho'] at ho; cases ho; rw [hd'] at hd; cases hd
theorem Inv.funs (I:Inv X pins σ H s):s.heap.FunFrames X.base X.outer:=by
 have all:∀ (l:List Env),(∀ b∈frs l,b∈X.fs)→X.s₀.heap.FunFrames X.base l→s.heap.FunFrames X.base l:=by
  intro l
  induction l with
  | nil=>intro _ _; trivial
  | cons env r ih =>
   intro hs hl
   obtain ⟨hk,⟨L,o,hf,hn,ho,hd⟩,hr⟩:=hl
   have hL:L∈X.fs:=hs L (by unfold frs; rw [List.filterMap_cons,hf]; exact List.mem_cons_self)
   obtain ⟨sl,e⟩:=I.base.slot L o ho (I.ok.frf L hL) hL fun z=>I.ok.exfs L z hL
   exact ⟨hk,⟨L,_,hf,hn,e,hd⟩,ih (fun b hb=>hs b (by unfold frs; rw [List.filterMap_cons,hf]; exact List.mem_cons_of_mem _ hb)) hr⟩
 exact all X.outer (fun _ hb=>hb) I.ok.funs
theorem Inv.stack (I:Inv X pins σ H s):s.heap.FunFrames X.base X.stack:=by
 rcases I.ok.stk with e | ⟨e,hf⟩
 ·rw [e]; exact I.funs
 ·rw [e]
  obtain ⟨m,hn,_⟩:=I.loc
  refine .cons (by rw [I.ok.kind]; decide) hf hn ?_ I.funs
  exact Heap.get?_none_of_le (Nat.le_trans I.ok.bsz I.ok.above)
theorem Inv.stkSub (I:Inv X pins σ H s):∀ b∈frs X.stack,b∈X.env.locals::X.fs:=fun b hb=>by
 rcases I.ok.stk with e | ⟨e,hf⟩
 ·rw [e] at hb; exact List.mem_cons_of_mem _ hb
 ·rw [e] at hb
  unfold frs at hb
  rw [List.filterMap_cons,hf] at hb
  exact hb
theorem Inv.stkFree (I:Inv X pins σ H s):∀ b∈frs X.stack,H b=none:=fun b hb=>by
 rcases List.mem_cons.mp (I.stkSub b hb) with e | hb
 ·rw [e]; exact I.free
 ·obtain ⟨_,o,ho,_⟩:=I.ok.funs.mem hb
  exact I.base.free b o ho (I.ok.frf b hb) fun z=>I.ok.exfs b z hb
theorem Inv.step {g':Array GenState} {t':Nat} {d':Drawn} {ch:List Addr} (I:Inv X pins σ H s)
  (hch:∀ b∈ch,(b∈X.ex∨X.s₀.heap.objs.size≤b)∧b≠X.env.locals∧(∀ x c,X.env.cells.lookup x=some c→c≠b)∧∀ p∈X.pn++pins,p.1≠b)
  (keep:∀ b o,b≠X.env.locals→b∉X.fs→b∉ch→s.heap.get? b=some o→H b=none→h'.get? b=some o)
  (slot:∀ b o,b≠X.env.locals→b∈X.fs→b∉ch→s.heap.get? b=some o→H b=none→∃ sl,h'.get? b=some { o with slots:=sl }) (free:∀ b o,b∉ch→s.heap.get? b=some o→H b=none→H' b=none)
  (there:∀ b o,b∉ch→s.heap.get? b=some o→∃ o',h'.get? b=some o')
  (tups:∀ b xs,H b=some (.tup xs)→H' b=some (.tup xs)) (frzs:∀ b o u,H b=some (.frz o u)→H' b=some (.frz o u)) (tbls:∀ b ps,H b=some (.tbl ps)→∃ more,H' b=some (.tbl (ps++more)))
  (ns:∀ m,s.heap.Ns X.env.locals m→h'.Ns X.env.locals m) (hok:HOk X.prog X.w H' h') (hg:AllBare g') :
  Inv X pins σ H' { s with heap:=h',gens:=g',drawn:=d',toks:=t' }:=by
 have neL:∀ b o,X.s₀.heap.get? b=some o→b≠X.env.locals:=fun b o e=>Nat.ne_of_lt (Nat.lt_of_lt_of_le (Heap.lt_size e) I.ok.above)
 have neC:∀ b o,X.s₀.heap.get? b=some o→b∉X.ex→b∉ch:=fun b o e hx hb=>by
  rcases (hch b hb).1 with z | z
  ·exact hx z
  ·exact absurd (Nat.lt_of_lt_of_le (Heap.lt_size e) z) (Nat.lt_irrefl _)
 have cellK:∀ x c,X.env.cells.lookup x=some c→∀ v,s.heap.IsCell c v→h'.IsCell c v:=fun x c e v ⟨o,ho,hd⟩=>by
  have nch:c∉ch:=fun z=>(hch c z).2.2.1 x c e rfl
  by_cases hc:c∈X.fs
  ·obtain ⟨sl,q⟩:=slot c o (I.cne x c e) hc nch ho (I.freeC x c e)
   exact ⟨_,q,hd⟩
  ·exact ⟨o,keep c o (I.cne x c e) hc nch ho (I.freeC x c e),hd⟩
 refine ⟨I.ok,I.os,hg,⟨fun b o e n hb hx=>?_,fun b o e n hb hx=>?_,fun b o e n hx=>?_,fun b o e hx=>?_,fun b xs e=>tups b xs (I.base.tups b xs e),fun b o xs e=>frzs b o xs (I.base.frzs b o xs e),fun b ps e=>?_⟩,?_,fun x c e=>?_,?_,fun x c e=>?_,fun p hp=>?_,hok,I.len⟩
 ·exact keep b o (neL b o e) hb (neC b o e hx) (I.base.keep b o e n hb hx) (I.base.free b o e n hx)
 ·obtain ⟨sl,e1⟩:=I.base.slot b o e n hb hx
  obtain ⟨sl',e2⟩:=slot b _ (neL b o e) hb (neC b o e hx) e1 (I.base.free b o e n hx)
  exact ⟨sl',e2⟩
 ·obtain ⟨o',e1⟩:=I.base.there b o e hx
  exact free b o' (neC b o e hx) e1 (I.base.free b o e n hx)
 ·obtain ⟨o',e1⟩:=I.base.there b o e hx
  exact there b o' (neC b o e hx) e1
 ·obtain ⟨m1,e1⟩:=I.base.tbls b ps e
  obtain ⟨m2,e2⟩:=tbls b _ e1
  exact ⟨m1++m2,by rw [e2,Array.append_assoc]⟩
 ·obtain ⟨m,hn,hl⟩:=I.loc
  refine ⟨m,ns m hn,fun i x v e1 e2 e3=>?_⟩
  obtain ⟨u,r,l⟩:=hl i x v e1 e2 e3
  refine ⟨u,r,?_⟩
  rcases l with l | ⟨k,c,e,z⟩
  ·exact .inl l
  ·exact .inr ⟨k,c,e,cellK x c e _ z⟩
 ·obtain ⟨v,z⟩:=I.cell x c e
  exact ⟨v,cellK x c e v z⟩
 ·obtain ⟨m,⟨o,_,_,ho,_⟩,_⟩:=I.loc
  exact free _ o (fun z=>(hch _ z).2.1 rfl) ho I.free
 ·obtain ⟨v,o,ho,hd⟩:=I.cell x c e
  exact free c o (fun z=>(hch c z).2.2.1 x c e rfl) ho (I.freeC x c e)
 ·obtain ⟨e,n,ne,nf,d⟩:=I.pin p hp
  have nch:p.1∉ch:=fun z=>(hch p.1 z).2.2.2 p hp rfl
  exact ⟨keep p.1 p.2 ne nf nch e n,free p.1 p.2 nch e n,ne,nf,d⟩
theorem Inv.un {t':Nat} (I:Inv X pins σ H s) (u:Un X.fs [] H H' s.heap h') (hok:HOk X.prog X.w H' h'):Inv X pins σ H' { s with heap:=h',toks:=t' }:=by
 obtain ⟨m,⟨o,es,ep,ho,r⟩,_⟩:=id I.loc
 obtain ⟨sl,hL⟩:=u.any ho I.free (by simp)
 exact I.step (g':=s.gens) (d':=s.drawn) (ch:=[]) (fun _ z=>nomatch z) (fun b o _ hb _ e n=>u.keep b o e n hb (by simp)) (fun b o _ hb _ e n=>u.slot b o e n hb (by simp)) (fun b o _ e n=>u.free b o e n (by simp)) (fun b o _ e=>u.there b o e (by simp)) u.tups u.frzs u.tbls (fun m' hm=>by
  obtain ⟨o',es',ep',ho',r'⟩:=hm
  rw [ho] at ho'; cases ho'
  exact ⟨_,es',ep',hL,r'⟩) hok I.bare
theorem Inv.call {g':Array GenState} {t':Nat} {d':Drawn} {ch:List Addr} (I:Inv X pins σ H s) (u:Un (frs X.stack) ch H H' s.heap h') (hok:HOk X.prog X.w H' h') (hg:AllBare g')
  (hch:∀ b∈ch,(b∈X.ex∨X.s₀.heap.objs.size≤b)∧b≠X.env.locals∧(∀ x c,X.env.cells.lookup x=some c→c≠b)∧∀ p∈X.pn++pins,p.1≠b) :
  Inv X pins σ H' { s with heap:=h',gens:=g',drawn:=d',toks:=t' }:=by
 obtain ⟨m,⟨o,es,ep,ho,r⟩,_⟩:=id I.loc
 obtain ⟨sl,hL⟩:=u.any ho I.free fun z=>(hch _ z).2.1 rfl
 exact I.step (ch:=ch) hch (fun b o hL hb hc e n=>u.keep b o e n (fun z=>(List.mem_cons.mp (I.stkSub b z)).elim hL hb) hc) (fun b o _ _ hc e n=>u.any e n hc) (fun b o hc e n=>u.free b o e n hc) (fun b o hc e=>u.there b o e hc) u.tups u.frzs u.tbls (fun m' hm=>by
  obtain ⟨o',es',ep',ho',r'⟩:=hm
  rw [ho] at ho'; cases ho'
  exact ⟨_,es',ep',hL,r'⟩) hok hg
theorem Inv.turned {t':Nat} {it:Addr} (I:Inv X pins σ H s) (k:∀ b o,b≠it→s.heap.get? b=some o→h'.get? b=some o) (hn:H it=none) (hL:it≠X.env.locals)
  (h1:it∈X.ex∨X.s₀.heap.objs.size≤it) (h2:∀ x c,X.env.cells.lookup x=some c→c≠it) (h3:∀ p∈X.pn++pins,p.1≠it):Inv X pins σ H { s with heap:=h',toks:=t' }:=by
 have nit:∀ b u,H b=some u→b≠it:=fun b u e z=>by rw [z,hn] at e; cases e
 refine I.step (g':=s.gens) (d':=s.drawn) (ch:=[it]) (fun b hb=>?_) (fun b o _ _ hc e _=>k b o (fun z=>hc (by simp [z])) e) (fun b o _ _ hc e _=>⟨o.slots,k b o (fun z=>hc (by simp [z])) e⟩) (fun _ _ _ _ n=>n)
  (fun b o hc e=>⟨o,k b o (fun z=>hc (by simp [z])) e⟩) (fun _ _ e=>e) (fun _ _ _ e=>e) (fun b ps e=>⟨#[],by rw [e]; simp⟩) (fun m hm=>?_) (fun b u e=>?_) I.bare
 ·have e:b=it:=by simpa using hb
  subst e
  exact ⟨h1,hL,h2,h3⟩
 ·obtain ⟨o,es,ep,ho,r⟩:=hm
  exact ⟨o,es,ep,k _ o (Ne.symm hL) ho,r⟩
 ·refine (I.hok b u e).stay (fun c v hc q=>k c v ?_ q) (fun _ q=>q) fun _ _ q=>q
  rcases hc with z | z
  ·rw [z]; exact nit b u e
  ·exact nit c _ z
theorem Inv.tok (I:Inv X pins σ H s) (t:Nat):Inv X pins σ H { s with toks:=t }:=I.un (h':=s.heap) (t':=t) Un.refl I.hok
theorem Inv.kept {t':Nat} (I:Inv X pins σ H s) (k:∀ b u,s.heap.get? b=some u→h'.get? b=some u):Inv X pins σ H { s with heap:=h',toks:=t' }:=I.un (Un.kept k) (I.hok.kept k)
theorem Inv.laid {a:Addr} {o:HO} {t':Nat} (I:Inv X pins σ H s) (k:∀ b u,s.heap.get? b=some u→h'.get? b=some u) (hp:s.heap.objs.size≤a) (new:ObjOk X.prog X.w (upd H a o) h' a o) :
  Inv X pins σ (upd H a o) { s with heap:=h',toks:=t' }:=I.un (Un.laid k hp (I.hok.fresh hp)) (I.hok.laid k hp new)
theorem Inv.write {x e:Addr} {o:HO} {t':Nat} (I:Inv X pins σ H s) (mu:Mut (H x)) (he:e=x∨H e=some (.own x)) (k:∀ b u,b≠e→s.heap.get? b=some u→h'.get? b=some u) (heo:∃ u,h'.get? e=some u)
  (new:ObjOk X.prog X.w (upd H x o) h' x o):Inv X pins σ (upd H x o) { s with heap:=h',toks:=t' }:=I.un (Un.write mu he k heo) (I.hok.write mu he k heo new)
theorem Inv.pins_of {pins':List (Addr×Obj)} (I:Inv X pins σ H s) (h:∀ p∈pins',s.heap.get? p.1=some p.2∧H p.1=none∧p.1≠X.env.locals∧p.1∉X.fs∧∀ v,p.2.data≠.cell v):Inv X pins' σ H s :=
 ⟨I.ok,I.os,I.bare,I.base,I.loc,I.cell,I.free,I.freeC,fun p hp=>(List.mem_append.mp hp).elim (fun z=>I.pin p (List.mem_append_left _ z)) (h p),I.hok,I.len⟩
theorem nodup_ix {N:List Str} (hN:N.Nodup) {i j:Nat} {x:Str} (a:N[i]?=some x) (b:N[j]?=some x):i=j:=by
 obtain ⟨h1,e1⟩:=List.getElem?_eq_some_iff.mp a
 obtain ⟨h2,e2⟩:=List.getElem?_eq_some_iff.mp b
 exact (List.getElem_inj hN).mp (e1.trans e2.symm)
theorem store_ok2 {M:Model} {A:Around} {E:Value→Shared→Prop} {i:Nat} {x:Str} {v:V} {u:Value} {Q:Unit→Shared→Prop} (I:Inv X pins σ H s) (hN:X.N.Nodup) (hi:X.N[i]?=some x) (hx:Loc X.env.scope x) (r:RelV v u)
  (h:∀ s',Inv X pins (σ.set i (some v)) H s'→(∃ a,Heap.SameBut a s.heap s'.heap∧(a=X.env.locals∨X.env.cells.lookup x=some a))→Q () s') (hf:X.fn x=true∨X.env.scope.names.lookup x=some .local:=by first | exact .inl rfl | exact .inr rfl | assumption):wpAny M A (storeName X.env x u) Q E s:=by
 obtain ⟨m,hn,hl⟩:=id I.loc
 have hcls:(X.env.scope.kind == .class || (X.env.scope.kind == .module && X.env.locals != X.env.globals))=false:=by rw [I.ok.kind]; rfl
 have hiσ:i<σ.length:=by rw [I.len]; exact (List.getElem?_eq_some_iff.mp hi).1
 have cne:=I.cne
 have tracked:∀ {a:Addr} {h':Heap},(∃ o,s.heap.get? a=some o∧H a=none)→Heap.SameBut a s.heap h'→HOk X.prog X.w H h':=fun {a h'} ha hs b ob e=>by
  obtain ⟨_,_,hfree⟩:=ha
  refine (I.hok b ob e).stay (fun c w' hc q=>(hs.2 c ?_).trans q) (fun _ q=>q) fun _ _ q=>q
  rintro rfl
  rcases hc with rfl | hc
  ·rw [hfree] at e; cases e
  ·rw [hfree] at hc; cases hc
 rcases hx with hk | hk
 ·refine wpAny_storeName_local hk hn (fun h' hn' hs=>?_) hcls
  obtain ⟨oL,_,_,hoL,_⟩:=id hn
  refine h _ ⟨I.ok,I.os,I.bare,⟨fun b o e n hb hx=>?_,fun b o e n hb hx=>?_,I.base.free,fun b o e hx=>?_,I.base.tups,I.base.frzs,I.base.tbls⟩,⟨_,hn',fun j y v' e1 e2 e3=>?_⟩,fun y c e=>?_,I.free,I.freeC,fun p hp=>?_,tracked ⟨oL,hoL,I.free⟩ hs,by simpa using I.len⟩ ⟨_,hs,.inl rfl⟩
  ·exact (hs.2 b (Nat.ne_of_lt (Nat.lt_of_lt_of_le (Heap.lt_size e) I.ok.above))).trans (I.base.keep b o e n hb hx)
  ·obtain ⟨sl,e1⟩:=I.base.slot b o e n hb hx
   exact ⟨sl,(hs.2 b (Nat.ne_of_lt (Nat.lt_of_lt_of_le (Heap.lt_size e) I.ok.above))).trans e1⟩
  ·obtain ⟨o',e1⟩:=I.base.there b o e hx
   exact ⟨o',(hs.2 b (Nat.ne_of_lt (Nat.lt_of_lt_of_le (Heap.lt_size e) I.ok.above))).trans e1⟩
  ·by_cases hj:j=i
   ·subst hj
    rw [hi] at e1; cases e1
    rw [List.getElem?_set_self hiσ] at e2
    cases e2
    exact ⟨u,r,.inl ⟨hk,by simp⟩⟩
   ·rw [List.getElem?_set_ne (Ne.symm hj)] at e2
    obtain ⟨u',r',q⟩:=hl j y v' e1 e2 e3
    refine ⟨u',r',?_⟩
    rcases q with ⟨k,e⟩ | ⟨k,c,e,z⟩
    ·refine .inl ⟨k,?_⟩
     have:y≠x:=fun e=>hj (nodup_ix hN e1 (e ▸ hi))
     simp [this,e]
    ·exact .inr ⟨k,c,e,z.sameBut hs (cne y c e)⟩
  ·obtain ⟨w',z⟩:=I.cell y c e
   exact ⟨w',z.sameBut hs (cne y c e)⟩
  ·obtain ⟨e,n,ne,nf,d⟩:=I.pin p hp
   exact ⟨(hs.2 p.1 ne).trans e,n,ne,nf,d⟩
 ·have hfn:X.fn x=true:=by
   rcases hf with z | z
   ·exact z
   ·rw [z] at hk; cases hk
  obtain ⟨c,hc⟩:=I.ok.has x (.inl hk)
  obtain ⟨w',z⟩:=I.cell x c hc
  refine wpAny_storeName_cell I.ok.kind hk hc z (fun h' hc' hs=>?_)
  obtain ⟨oc,hoc,hocd⟩:=id z
  refine h { s with heap:=h' } ⟨I.ok,I.os,I.bare,⟨fun b o e n hb hx=>?_,fun b o e n hb hx=>?_,I.base.free,fun b o e hx=>?_,I.base.tups,I.base.frzs,I.base.tbls⟩,⟨m,hn.sameBut hs (Ne.symm (cne x c hc)),fun j y v' e1 e2 e3=>?_⟩,fun y c' e=>?_,I.free,I.freeC,fun p hp=>?_,tracked ⟨oc,hoc,I.freeC x c hc⟩ hs,by simpa using I.len⟩ ⟨c,hs,.inr hc⟩
  ·exact (hs.2 b (Nat.ne_of_lt (Nat.lt_of_lt_of_le (Heap.lt_size e) (I.ok.cab x c hfn hc)))).trans (I.base.keep b o e n hb hx)
  ·obtain ⟨sl,e1⟩:=I.base.slot b o e n hb hx
   exact ⟨sl,(hs.2 b (Nat.ne_of_lt (Nat.lt_of_lt_of_le (Heap.lt_size e) (I.ok.cab x c hfn hc)))).trans e1⟩
  ·obtain ⟨o',e1⟩:=I.base.there b o e hx
   exact ⟨o',(hs.2 b (Nat.ne_of_lt (Nat.lt_of_lt_of_le (Heap.lt_size e) (I.ok.cab x c hfn hc)))).trans e1⟩
  ·by_cases hj:j=i
   ·subst hj
    rw [hi] at e1; cases e1
    rw [List.getElem?_set_self hiσ] at e2
    cases e2
    exact ⟨u,r,.inr ⟨.inl hk,c,hc,hc'⟩⟩
   ·rw [List.getElem?_set_ne (Ne.symm hj)] at e2
    obtain ⟨u',r',q⟩:=hl j y v' e1 e2 e3
    refine ⟨u',r',?_⟩
    rcases q with q | ⟨k,c',e,z'⟩
    ·exact .inl q
    ·refine .inr ⟨k,c',e,z'.sameBut hs ?_⟩
     rintro rfl
     exact hj (nodup_ix hN e1 (I.ok.inj _ _ _ e hc ▸ hi))
  ·by_cases hcc:c'=c
   ·subst hcc; exact ⟨_,hc'⟩
   ·obtain ⟨w2,z2⟩:=I.cell y c' e
    exact ⟨w2,z2.sameBut hs hcc⟩
  ·obtain ⟨e,n,ne,nf,d⟩:=I.pin p hp
   refine ⟨(hs.2 p.1 ?_).trans e,n,ne,nf,d⟩
   intro q
   rw [q,hoc] at e
   have q':oc=p.2:=Option.some.inj e
   exact d w' (by rw [← q']; exact hocd)
theorem store_ok {M:Model} {A:Around} {E:Value→Shared→Prop} {i:Nat} {x:Str} {v:V} {u:Value} {Q:Unit→Shared→Prop} (I:Inv X pins σ H s) (hN:X.N.Nodup) (hi:X.N[i]?=some x) (hx:Loc X.env.scope x) (r:RelV v u)
  (h:∀ s',Inv X pins (σ.set i (some v)) H s'→Q () s') (hf:X.fn x=true∨X.env.scope.names.lookup x=some .local:=by first | exact .inl rfl | exact .inr rfl | assumption):wpAny M A (storeName X.env x u) Q E s :=
 store_ok2 I hN hi hx r (fun s' I' _=>h s' I') hf
theorem Inv.call' {s':Shared} {ch:List Addr} (I:Inv X pins σ H s) (ho:s'.os=s.os) (u:Un (frs X.stack) ch H H' s.heap s'.heap) (hok:HOk X.prog X.w H' s'.heap) (hg:AllBare s'.gens)
  (hch:∀ b∈ch,(b∈X.ex∨X.s₀.heap.objs.size≤b)∧b≠X.env.locals∧(∀ x c,X.env.cells.lookup x=some c→c≠b)∧∀ p∈X.pn++pins,p.1≠b):Inv X pins σ H' s':=by
 obtain ⟨h',g',d',t',o'⟩:=s'
 have e:o'=s.os:=ho
 subst e
 exact I.call (g':=g') (t':=t') (d':=d') u hok hg hch
end
abbrev XK:=Value→Option Addr→Hp→Prop
abbrev St:=List (Option V)
abbrev VK:=V→Hp→Prop
abbrev TE:=St→Hp→VK→Prop
abbrev TT:=St→Hp→(Bool→Hp→Prop)→Prop
abbrev TA:=St→Hp→(List V→Hp→Prop)→Prop
structure Ends where
 nx:St→Hp→Prop
 rt:VK
 bk:St→Hp→Prop:=fun _ _=>False
 ct:St→Hp→Prop:=fun _ _=>False
abbrev TS:=Ends→St→Hp→Prop
def EP (X:Cx) (pins:List (Addr×Obj)) (σ:St) (Q:VK) (u:Value) (s':Shared):Prop:=∃ v H',Inv X pins σ H' s'∧RelV v u∧Q v H'
def TP (X:Cx) (pins:List (Addr×Obj)) (σ:St) (Q:Bool→Hp→Prop) (b:Bool) (s':Shared):Prop:=∃ H',Inv X pins σ H' s'∧Q b H'
def AP (X:Cx) (pins:List (Addr×Obj)) (σ:St) (Q:List V→Hp→Prop) (us:List Value) (s':Shared):Prop:=∃ vs H',Inv X pins σ H' s'∧Vals vs us∧Q vs H'
def SP (X:Cx) (pins:List (Addr×Obj)) (D:Ends) (f:Flow) (s':Shared):Prop :=
 match f with
 | .next=>∃ σ' H',Inv X pins σ' H' s'∧D.nx σ' H'
 | .brk=>∃ σ' H',Inv X pins σ' H' s'∧D.bk σ' H'
 | .cont=>∃ σ' H',Inv X pins σ' H' s'∧D.ct σ' H'
 | .ret u=>∃ v σ' H',Inv X pins σ' H' s'∧RelV v u∧D.rt v H'
def PE (X:Cx) (e:Expr) (t:TE):Prop :=
 ∀ (pins:List (Addr×Obj)) (s:Shared) (σ:St) (H:Hp) (Q:VK),Inv X pins σ H s→t σ H Q→wpAny (model X.prog X.w) X.A (eval e X.env) (EP X pins σ Q) X.xe s
def PT (X:Cx) (e:Expr) (t:TT):Prop :=
 ∀ (pins:List (Addr×Obj)) (s:Shared) (σ:St) (H:Hp) (Q:Bool→Hp→Prop),Inv X pins σ H s→t σ H Q→wpAny (model X.prog X.w) X.A (isTrue e X.env (eval e X.env)) (TP X pins σ Q) X.xe s
def PW (X:Cx) (e:Expr) (t:TT):Prop :=
 ∀ (whole:Sem Value) (pins:List (Addr×Obj)) (s:Shared) (σ:St) (H:Hp) (Q:Bool→Hp→Prop),Inv X pins σ H s→t σ H Q→wpAny (model X.prog X.w) X.A (isTrue e X.env whole) (TP X pins σ Q) X.xe s
theorem PW.pt {X:Cx} {e:Expr} {t:TT} (h:PW X e t):PT X e t:=h _
def PA (X:Cx) (es:List Expr) (t:TA):Prop :=
 ∀ (pos:Pos) (pins:List (Addr×Obj)) (s:Shared) (σ:St) (H:Hp) (Q:List V→Hp→Prop),Inv X pins σ H s→t σ H Q→wpAny (model X.prog X.w) X.A (spliced (backTo pos (starEach es X.env))) (AP X pins σ Q) X.xe s
def PS (X:Cx) (st:Stmt) (t:TS):Prop :=
 ∀ (pins:List (Addr×Obj)) (s:Shared) (σ:St) (H:Hp) (D:Ends),Inv X pins σ H s→t D σ H→wpAny (model X.prog X.w) X.A (exec st X.env) (SP X pins D) X.xe s
def PSs (X:Cx) (st:List Stmt) (t:TS):Prop :=
 ∀ (pins:List (Addr×Obj)) (s:Shared) (σ:St) (H:Hp) (D:Ends),Inv X pins σ H s→t D σ H→wpAny (model X.prog X.w) X.A (execs st X.env) (SP X pins D) X.xe s
theorem thn {α:Type} {t:Sem α} {Q Q':α→Shared→Prop} {M:Model} {A:Around} {E:Value→Shared→Prop} {s:Shared} (h:wpAny M A t Q E s) (hQ:∀ a s,Q a s→Q' a s):wpAny M A t Q' E s:=wpAny_mono h hQ fun _ _ x=>x
end L2
namespace L2
open PySem PySem.Spec PyProof.Rows
section
variable {X:Cx}
def tVar (i:Nat):TE:=fun σ H Q=>∃ v,σ[i]?=some (some v)∧Q v H
def tC (v:V):TE:=fun _ H Q=>Q v H
theorem pe_var {i:Nat} {x:Str} {pos:Pos} (hN:X.N[i]?=some x) (hv:Vis X.env.scope x) (hd:(x == ("__debug__":Str))=false:=by decide) (hcd:(x == ("__classdict__":Str))=false:=by decide):PE X (.Name x pos) (tVar i):=by
 intro pins s σ H Q I h
 obtain ⟨v,e,h⟩:=h
 obtain ⟨m,hn,hl⟩:=I.loc
 obtain ⟨u,r,l⟩:=hl i x v hN e hv
 have fin:EP X pins σ Q u s:=⟨v,H,I,r,h⟩
 rcases l with ⟨hk,hm⟩ | ⟨hk,c,hc,hcell⟩
 ·exact wpAny_Name (wpAny_loadName_local I.ok.kind hk hn hm fin) hd
 ·rcases hk with hk | hk
  ·exact wpAny_Name (wpAny_loadName_cell I.ok.kind hk hc hcell fin) hd
  ·exact wpAny_Name (wpAny_loadName_free I.ok.kind hk hc hcell fin hcd) hd
theorem pe_int {i j pos}:PE X (.Constant (.int i) j pos) (tC (.int i)):=fun _ _ _ H _ I h=>wpAny_Constant_int ⟨.int i,H,I.tok _,⟨_,rfl⟩,h⟩
theorem pe_bl {b j pos}:PE X (.Constant (.bool b) j pos) (tC (.bl b)):=fun _ _ _ H _ I h=>Constant_bool ⟨.bl b,H,I,rfl,h⟩
theorem pe_non {j pos}:PE X (.Constant .none j pos) (tC .non):=fun _ _ _ H _ I h=>Constant_none ⟨.non,H,I,rfl,h⟩
def Gl (X:Cx) (x:Str):Prop:=X.env.kindOf x=some .globalImplicit
theorem ld_glob {E:Value→Shared→Prop} {pins:List (Addr×Obj)} {s:Shared} {σ:St} {H:Hp} {x:Str} {u:Value} {pos:Pos} {Q:Value→Shared→Prop} (I:Inv X pins σ H s) (hg:Gl X x) (hm:X.mg x=some u) (h:Q u s)
  (hd:(x == ("__debug__":Str))=false:=by decide):wpAny (model X.prog X.w) X.A (eval (.Name x pos) X.env) Q E s :=
 Calls.Name_function_global I.ok.kind hg (Calls.loadGlobal_global (by rw [I.ok.glob]; exact I.mod.glob.keeps I.bk) hm h) hd
theorem ld_blt {E:Value→Shared→Prop} {pins:List (Addr×Obj)} {s:Shared} {σ:St} {H:Hp} {x:Str} {u:Value} {pos:Pos} {Q:Value→Shared→Prop} (I:Inv X pins σ H s) (hg:Gl X x) (hm:X.mg x=none) (hv:bootBuiltins x=some u) (h:Q u s)
  (hn:x≠"__name__":=by decide) (hd:(x == ("__debug__":Str))=false:=by decide):wpAny (model X.prog X.w) X.A (eval (.Name x pos) X.env) Q E s:=by
 obtain ⟨mb,h1,h2⟩:=I.mod.blt
 exact Calls.Name_function_global I.ok.kind hg (Calls.loadGlobal_builtin (by rw [I.ok.glob]; exact I.mod.glob.keeps I.bk) hm (by rw [I.ok.blt]; exact h1.keeps I.bk) ((h2 x hn).trans hv) h) hd
theorem pe_bltn {x:Str} {v:V} {u:Value} {pos:Pos} (hg:Gl X x) (hm:X.mg x=none) (hv:bootBuiltins x=some u) (r:RelV v u) (hn:x≠"__name__":=by decide) (hd:(x == ("__debug__":Str))=false:=by decide):PE X (.Name x pos) (tC v) :=
 fun _ _ _ H _ I h=>ld_blt I hg hm hv ⟨v,H,I,r,h⟩ hn hd
variable {a b:Expr} {ta tb:TE} {pos:Pos}
def tB (t:TE):TT:=fun σ H Q=>t σ H fun x H1=>∃ c,x=.bl c∧Q c H1
theorem pt_val {e:Expr} {t:TE} (h:PE X e t) (he:∀ whole,isTrue e X.env whole=(do let v ← whole; standAt e.pos; holding [v] (truthy v)):=by intro _; rfl):PT X e (tB t):=by
 intro pins s σ H Q I hw
 refine isTrue_plain (thn (h pins s σ H _ I hw) fun v s1 ⟨x,H1,I1,r1,q1⟩=>?_) (he _)
 obtain ⟨d,rfl,q⟩:=q1
 cases r1
 exact wpAny_truthy_bool ⟨H1,I1,q⟩
variable {tA tB':TT} {rest:List Expr}
def tAnd (t u:TT):TT:=fun σ H Q=>t σ H fun c H1=>if c=true then u σ H1 Q else Q false H1
def tOr (t u:TT):TT:=fun σ H Q=>t σ H fun c H1=>if c=true then Q true H1 else u σ H1 Q
def tNot (t:TT):TT:=fun σ H Q=>t σ H fun c H1=>Q (!c) H1
theorem pw_and1 (ha:PT X a tA):PW X (.BoolOp .And [a] pos) tA:=by
 intro wh pins s σ H Q I h
 refine isTrue_and (thn (ha pins s σ H Q I h) fun c s1 e=>?_)
 cases c with
 | true=>exact isTrue_and_nil e
 | false=>exact e
theorem pw_or1 (ha:PT X a tA):PW X (.BoolOp .Or [a] pos) tA:=by
 intro wh pins s σ H Q I h
 refine isTrue_or (thn (ha pins s σ H Q I h) fun c s1 e=>?_)
 cases c with
 | false=>exact isTrue_or_nil e
 | true=>exact e
theorem pw_and (ha:PT X a tA) (hb:PW X (.BoolOp .And (b::rest) pos) tB'):PW X (.BoolOp .And (a::b::rest) pos) (tAnd tA tB'):=by
 intro wh pins s σ H Q I h
 refine isTrue_and (thn (ha pins s σ H _ I h) fun c s1 ⟨H1,I1,q1⟩=>?_)
 cases c with
 | true=>exact hb wh pins s1 σ H1 Q I1 q1
 | false=>exact ⟨H1,I1,q1⟩
theorem pw_or (ha:PT X a tA) (hb:PW X (.BoolOp .Or (b::rest) pos) tB'):PW X (.BoolOp .Or (a::b::rest) pos) (tOr tA tB'):=by
 intro wh pins s σ H Q I h
 refine isTrue_or (thn (ha pins s σ H _ I h) fun c s1 ⟨H1,I1,q1⟩=>?_)
 cases c with
 | true=>exact ⟨H1,I1,q1⟩
 | false=>exact hb wh pins s1 σ H1 Q I1 q1
theorem pt_not (ha:PT X a tA):PT X (.UnaryOp .Not a pos) (tNot tA):=by
 intro pins s σ H Q I h
 exact isTrue_not (ha pins s σ H (fun c H1=>Q (!c) H1) I h)
def tAndV (ta tb:TE):TE:=fun σ H Q=>ta σ H fun x H1=>∃ c,x=.bl c∧if c=true then tb σ H1 Q else Q (.bl false) H1
def tOrV (ta tb:TE):TE:=fun σ H Q=>ta σ H fun x H1=>∃ c,x=.bl c∧if c=true then Q (.bl true) H1 else tb σ H1 Q
theorem pe_one {op} {t:TE} (h:PE X a t):PE X (.BoolOp op [a] pos) t:=fun pins s σ H Q I hw=>BoolOp_one (h pins s σ H Q I hw)
theorem pe_and (ha:PE X a ta) (hb:PE X (.BoolOp .And (b::rest) pos) tb):PE X (.BoolOp .And (a::b::rest) pos) (tAndV ta tb):=by
 intro pins s σ H Q I h
 refine BoolOp_and (thn (ha pins s σ H _ I h) fun v s1 ⟨x,H1,I1,r1,q1⟩=>?_)
 obtain ⟨c,rfl,q1⟩:=q1
 cases r1
 refine wpAny_truthy_bool ?_
 cases c with
 | true=>exact hb pins s1 σ H1 Q I1 q1
 | false=>exact ⟨.bl false,H1,I1,rfl,q1⟩
theorem pe_or (ha:PE X a ta) (hb:PE X (.BoolOp .Or (b::rest) pos) tb):PE X (.BoolOp .Or (a::b::rest) pos) (tOrV ta tb):=by
 intro pins s σ H Q I h
 refine BoolOp_or (thn (ha pins s σ H _ I h) fun v s1 ⟨x,H1,I1,r1,q1⟩=>?_)
 obtain ⟨c,rfl,q1⟩:=q1
 cases r1
 refine wpAny_truthy_bool ?_
 cases c with
 | false=>exact hb pins s1 σ H1 Q I1 q1
 | true=>exact ⟨.bl true,H1,I1,rfl,q1⟩
def tIf (t:TT) (ta tb:TE):TE:=fun σ H Q=>t σ H fun c H1=>if c=true then ta σ H1 Q else tb σ H1 Q
theorem pe_ifExp {c:Expr} (hc:PT X c tA) (ha:PE X a ta) (hb:PE X b tb):PE X (.IfExp c a b pos) (tIf tA ta tb):=by
 intro pins s σ H Q I h
 refine wpAny_IfExp (thn (hc pins s σ H _ I h) fun d s1 ⟨H1,I1,q1⟩=>?_)
 cases d with
 | true=>exact ha pins s1 σ H1 Q I1 q1
 | false=>exact hb pins s1 σ H1 Q I1 q1
end
end L2
namespace L2
open PySem PySem.Spec PyProof.Rows
def SqL (K:PySem.W.Frag) (H:Hp) (a:Addr) (xs:List V):Prop :=
 Rd H a (.lst xs) ∨
  ∃ (o:Obj) (its:Array Value) (n:Nat),K.lookup a=some o∧o.cls=.type "list"∧o.dict=none∧o.data=.seq its n∧its.size≤sizeLine∧Vals xs its.toList
def SqT (K:PySem.W.Frag) (H:Hp) (a:Addr) (xs:List V):Prop :=
 Rd H a (.tup xs) ∨
  ∃ (o:Obj) (its:Array Value) (n:Nat),K.lookup a=some o∧o.cls=.type "tuple"∧o.data=.seq its n∧its.size≤sizeLine∧Vals xs its.toList
def absV:Value→Option V
 | .none=>some .non
 | .bool b=>some (.bl b)
 | .int i _=>some (.int i)
 | .str x _=>some (.str x)
 | .bytes b _=>some (.byt b)
 | .float b _=>some (.flt b)
 | .ref a=>some (.ref a)
 | .type n=>some (.ty n)
 | _=>none
theorem RelV.abs {x:V} {u:Value} (r:RelV x u):absV u=some x:=by
 cases x with
 | non=>cases r; rfl
 | bl _=>cases r; rfl
 | int _=>obtain ⟨t,rfl⟩:=r; rfl
 | str _=>obtain ⟨t,rfl⟩:=r; rfl
 | byt _=>obtain ⟨t,rfl⟩:=r; rfl
 | flt _=>obtain ⟨t,rfl⟩:=r; rfl
 | ref _=>cases r; rfl
 | ty _=>cases r; rfl
theorem RelV.inj {x y:V} {u:Value} (r:RelV x u) (q:RelV y u):x=y:=Option.some.inj (r.abs.symm.trans q.abs)
theorem Vals.inj:∀ {xs ys:List V} {us:List Value},Vals xs us→Vals ys us→xs=ys
 | _,_,_,.nil,.nil=>rfl
 | _,_,_,.cons r t,.cons r' t'=>by rw [r.inj r',Vals.inj t t']
section
variable {X:Cx} {pins:List (Addr×Obj)} {σ:St} {H:Hp} {s:Shared} {a:Addr} {xs ys:List V}
theorem SqL.of {K:PySem.W.Frag} (h:H a=some (.lst xs)):SqL K H a xs:=.inl (.inl h)
theorem SqT.of {K:PySem.W.Frag} (h:H a=some (.tup xs)):SqT K H a xs:=.inl (.inl h)
theorem Inv.list (I:Inv X pins σ H s) (h:SqL X.K H a xs):∃ its:List Value,Vals xs its∧PlainL s.heap a its.toArray∧xs.length≤sizeLine:=by
 rcases h with h | ⟨o,its,n,hk,hc,hd,hs,hz,r⟩
 ·obtain ⟨z,its,n,r,e⟩:=h.ok I.hok
  exact ⟨its,r,⟨_,n,e,rfl,rfl,rfl⟩,z⟩
 ·refine ⟨its.toList,r,⟨o,n,I.kIn a o hk,hc,hd,by simpa using hs⟩,?_⟩
  have e:=r.length
  simp only [Array.length_toList] at e
  omega
theorem Inv.tuple (I:Inv X pins σ H s) (h:SqT X.K H a xs):∃ its:List Value,Vals xs its∧IsTup s.heap a its.toArray∧xs.length≤sizeLine:=by
 rcases h with h | ⟨o,its,n,hk,hc,hs,hz,r⟩
 ·obtain ⟨z,its,r,p⟩:=h.ok I.hok
  exact ⟨its,r,p,z⟩
 ·refine ⟨its.toList,r,⟨o,I.kIn a o hk,hc,n,by simpa using hs⟩,?_⟩
  have e:=r.length
  simp only [Array.length_toList] at e
  omega
theorem Inv.list_inj (I:Inv X pins σ H s) (h:SqL X.K H a xs) (h':SqL X.K H a ys):xs=ys:=by
 obtain ⟨its,r,⟨o,n,e,_,_,d⟩,_⟩:=I.list h
 obtain ⟨its',r',⟨o',n',e',_,_,d'⟩,_⟩:=I.list h'
 rw [e] at e'; cases e'
 rw [d] at d'
 injection d' with d1 _
 have:its=its':=by simpa using congrArg Array.toList d1
 subst this
 exact r.inj r'
theorem Inv.tuple_inj (I:Inv X pins σ H s) (h:SqT X.K H a xs) (h':SqT X.K H a ys):xs=ys:=by
 obtain ⟨its,r,⟨o,e,_,n,d⟩,_⟩:=I.tuple h
 obtain ⟨its',r',⟨o',e',_,n',d'⟩,_⟩:=I.tuple h'
 rw [e] at e'; cases e'
 rw [d] at d'
 injection d' with d1 _
 have:its=its':=by simpa using congrArg Array.toList d1
 subst this
 exact r.inj r'
end
abbrev Cx.wish (X:Cx) (E:Value→Shared→Prop):Cx:={ X with xe:=E }
abbrev Cx.nox (X:Cx):Cx:=X.wish fun _ _=>False
theorem Cx.Ok.wish {X:Cx} (ok:X.Ok) (E:Value→Shared→Prop):(X.wish E).Ok :=
 ⟨ok.mod,ok.kind,ok.glob,ok.blt,ok.above,ok.inj,ok.has,ok.cab,ok.hd,ok.frames,ok.stk,ok.exf,ok.bs,ok.bsz,ok.noex,ok.exfs,ok.funs,ok.frf⟩
theorem Cx.Ok.unwish {X:Cx} {E:Value→Shared→Prop} (ok:(X.wish E).Ok):X.Ok :=
 ⟨ok.mod,ok.kind,ok.glob,ok.blt,ok.above,ok.inj,ok.has,ok.cab,ok.hd,ok.frames,ok.stk,ok.exf,ok.bs,ok.bsz,ok.noex,ok.exfs,ok.funs,ok.frf⟩
section
variable {X:Cx} {pins:List (Addr×Obj)} {σ:St} {H:Hp} {s:Shared} {E:Value→Shared→Prop}
theorem Inv.wish (I:Inv X pins σ H s) (E:Value→Shared→Prop):Inv (X.wish E) pins σ H s:=⟨I.ok.wish E,I.os,I.bare,I.base,I.loc,I.cell,I.free,I.freeC,I.pin,I.hok,I.len⟩
theorem Inv.unwish (I:Inv (X.wish E) pins σ H s):Inv X pins σ H s:=⟨I.ok.unwish,I.os,I.bare,I.base,I.loc,I.cell,I.free,I.freeC,I.pin,I.hok,I.len⟩
theorem SP.unwish {D:Ends} {f:Flow} {s':Shared} (h:SP (X.wish E) pins D f s'):SP X pins D f s':=by
 cases f with
 | next=>obtain ⟨σ',H',I,q⟩:=h; exact ⟨σ',H',I.unwish,q⟩
 | brk=>obtain ⟨σ',H',I,q⟩:=h; exact ⟨σ',H',I.unwish,q⟩
 | cont=>obtain ⟨σ',H',I,q⟩:=h; exact ⟨σ',H',I.unwish,q⟩
 | ret u=>obtain ⟨v,σ',H',I,r,q⟩:=h; exact ⟨v,σ',H',I.unwish,r,q⟩
theorem PE.nox {e:Expr} {t:TE} (h:PE X.nox e t):PE X e t:=fun pins s σ H Q I hw =>
 wpAny_mono (h pins s σ H Q (I.wish _) hw) (fun _ _ ⟨v,H',I',r,q⟩=>⟨v,H',I'.unwish,r,q⟩) fun _ _ z=>False.elim z
theorem PT.nox {e:Expr} {t:TT} (h:PT X.nox e t):PT X e t:=fun pins s σ H Q I hw =>
 wpAny_mono (h pins s σ H Q (I.wish _) hw) (fun _ _ ⟨H',I',q⟩=>⟨H',I'.unwish,q⟩) fun _ _ z=>False.elim z
theorem PSs.nox {st:List Stmt} {t:TS} (h:PSs X.nox st t):PSs X st t:=fun pins s σ H D I hw =>
 wpAny_mono (h pins s σ H D (I.wish _) hw) (fun _ _ q=>q.unwish) fun _ _ z=>False.elim z
end
section
variable {X:Cx} {st:Stmt} {rest:List Stmt} {t u:TS} {e:Expr} {te:TE} {pos:Pos}
def tNext:TS:=fun D σ H=>D.nx σ H
def tSeq (t u:TS):TS:=fun D σ H=>t { D with nx:=u D } σ H
theorem pss_nil:PSs X [] tNext:=fun _ _ σ H _ I h=>wpAny_execs_nil ⟨σ,H,I,h⟩
theorem pss_cons (h1:PS X st t) (h2:PSs X rest u):PSs X (st::rest) (tSeq t u):=by
 intro pins s σ H D I h
 refine wpAny_execs_cons (thn (h1 pins s σ H { D with nx:=u D } I h) fun f s1 q=>?_)
 cases f with
 | next =>
  obtain ⟨σ',H',I',q⟩:=q
  exact h2 pins s1 σ' H' D I' q
 | ret v=>exact q
 | brk=>exact q
 | cont=>exact q
theorem pss_one (h1:PS X st t):PSs X [st] t:=by
 intro pins s σ H D I h
 refine wpAny_execs_cons (thn (h1 pins s σ H D I h) fun f s1 q=>?_)
 cases f with
 | next=>exact wpAny_execs_nil q
 | ret v=>exact q
 | brk=>exact q
 | cont=>exact q
theorem Inv.quiet {pins:List (Addr×Obj)} {σ:St} {H:Hp} {s:Shared} (I:Inv X pins σ H s):interactive X.env=false:=by simp [interactive,I.ok.kind]
def tDrop (te:TE):TS:=fun D σ H=>te σ H fun _ H1=>D.nx σ H1
theorem ps_expr (he:PE X e te) (hs:swapsWith e none pos.line X.env=pure false:=by rfl):PS X (.Expr e pos) (tDrop te):=by
 intro pins s σ H D I h
 exact wpAny_Expr_any (thn (he pins s σ H _ I h) fun v s1 ⟨x,H1,I1,r1,q1⟩=>⟨σ,H1,I1,q1⟩) I.quiet hs
def tRet (te:TE):TS:=fun D σ H=>te σ H D.rt
theorem ps_ret (he:PE X e te):PS X (.Return (some e) pos) (tRet te):=by
 intro pins s σ H D I h
 exact wpAny_Return_some (thn (he pins s σ H _ I h) fun v s1 ⟨x,H1,I1,r1,q1⟩=>⟨x,σ,H1,I1,r1,q1⟩)
def tIfS (c:TT) (t u:TS):TS:=fun D σ H=>c σ H fun b H1=>if b=true then t D σ H1 else u D σ H1
theorem ps_if {c:Expr} {a b:List Stmt} {tc:TT} (hc:PT X c tc) (ha:PSs X a t) (hb:PSs X b u):PS X (.If c a b pos) (tIfS tc t u):=by
 intro pins s σ H D I h
 refine wpAny_If (thn (hc pins s σ H _ I h) fun d s1 ⟨H1,I1,q1⟩=>?_)
 cases d with
 | true=>exact ha pins s1 σ H1 D I1 q1
 | false=>exact hb pins s1 σ H1 D I1 q1
def tNever:TS:=fun _ _ _=>False
theorem pss_never {sts:List Stmt}:PSs X sts tNever:=fun _ _ _ _ _ _ h=>h.elim
end
abbrev TG:=V→St→Hp→(St→Hp→Prop)→Prop
abbrev TGs:=List V→St→Hp→(St→Hp→Prop)→Prop
def PG (X:Cx) (target:Expr) (t:TG):Prop :=
 ∀ (pins:List (Addr×Obj)) (s:Shared) (σ:St) (H:Hp) (v:V) (u:Value) (Q:St→Hp→Prop),Inv X pins σ H s→RelV v u→t v σ H Q →
  wpAny (model X.prog X.w) X.A (assign target X.env u) (fun _ s'=>∃ σ' H',Inv X pins σ' H' s'∧Q σ' H') X.xe s
def PGs (X:Cx) (ts:List Expr) (t:TGs):Prop :=
 ∀ (pins:List (Addr×Obj)) (s:Shared) (σ:St) (H:Hp) (vs:List V) (us:List Value) (Q:St→Hp→Prop),Inv X pins σ H s→Vals vs us→t vs σ H Q →
  wpAny (model X.prog X.w) X.A (assignInOrder ((assignEach ts X.env).map (·.2)) us) (fun _ s'=>∃ σ' H',Inv X pins σ' H' s'∧Q σ' H') X.xe s
abbrev TSet:=V→V→V→Hp→(Hp→Prop)→Prop
def PSet (X:Cx) (t:TSet):Prop :=
 ∀ (pins:List (Addr×Obj)) (s:Shared) (σ:St) (H:Hp) (o i v:V) (ov iv u:Value) (Q:Hp→Prop),Inv X pins σ H s→RelV o ov→RelV i iv→RelV v u→t o i v H Q →
  wpAny (model X.prog X.w) X.A (setItem ov iv u) (fun _ s'=>∃ H',Inv X pins σ H' s'∧Q H') X.xe s
section
variable {X:Cx} {pos:Pos}
def gName (i:Nat):TG:=fun v σ H Q=>Q (σ.set i (some v)) H
theorem pg_name {i:Nat} {x:Str} (hN:X.N.Nodup) (hi:X.N[i]?=some x) (hx:Loc X.env.scope x) (hf:X.fn x=true∨X.env.scope.names.lookup x=some .local:=by first | exact .inl rfl | exact .inr rfl | assumption):PG X (.Name x pos) (gName i):=by
 intro pins s σ H v u Q I r h
 exact wpAny_assign_Name (store_ok I hN hi hx r (fun s' I'=>⟨_,H,I',h⟩) hf)
def gNil:TGs:=fun vs σ H Q=>vs=[]∧Q σ H
def gCons (t:TG) (u:TGs):TGs:=fun vs σ H Q=>∃ v r,vs=v::r∧t v σ H fun σ' H'=>u r σ' H' Q
theorem pgs_nil:PGs X [] gNil:=by
 intro pins s σ H vs us Q I r h
 obtain ⟨e,h⟩:=h
 subst e
 cases r
 exact assignInOrder_nil ⟨σ,H,I,h⟩
theorem pgs_cons {e:Expr} {es:List Expr} {t:TG} {u:TGs} (h1:PG X e t) (h2:PGs X es u)
  (hs:(assignEach (e::es) X.env).map (·.2)=assign e X.env::(assignEach es X.env).map (·.2):=by rfl):PGs X (e::es) (gCons t u):=by
 intro pins s σ H vs us Q I r h
 obtain ⟨v,vr,e1,h⟩:=h
 subst e1
 cases r with
 | cons r rr =>
  rw [hs]
  refine assignInOrder_cons (thn (h1 pins s σ H _ _ _ I r h) fun _ s1 ⟨σ1,H1,I1,q1⟩=>?_)
  exact h2 pins s1 σ1 H1 _ _ Q I1 rr q1
def gTup (K:PySem.W.Frag) (n:Nat) (t:TGs):TG:=fun v σ H Q=>∃ a xs,v=.ref a∧SqT K H a xs∧xs.length=n∧t xs σ H Q
theorem pg_tup {es:List Expr} {k:Nat} {t:TGs} {n:Nat} (hc:X.calm=true) (h:PGs X es t)
  (hn:(assignEach es X.env).length=n:=by rfl) (hst:(assignEach es X.env).findIdx? (·.1)=none:=by rfl):PG X (.Tuple es k pos) (gTup X.K n t):=by
 intro pins s σ H v u Q I r hw
 obtain ⟨a,xs,e1,hq,hl,hw⟩:=hw
 subst e1
 cases r
 obtain ⟨its,rv,ht,hz⟩:=I.tuple hq
 refine assign_Tuple_tuple (I.ok.hd hc) ht (by simp [hn,← hl,rv.length]) hst fun h' hx=>?_
 have I1:Inv X pins σ H { s with heap:=h' }:=I.kept (t':=s.toks) fun b o e=>hx b o (Nat.ne_of_lt (Heap.lt_size e)) e
 exact h pins _ σ H xs _ Q I1 (by simpa using rv) hw
def gSub (to ti:TE) (t:TSet):TG:=fun v σ H Q=>to σ H fun o H1=>ti σ H1 fun i H2=>t o i v H2 fun H3=>Q σ H3
theorem pg_sub {o i:Expr} {to ti:TE} {t:TSet} (ho:PE X o to) (hi:PE X i ti) (hs:PSet X t)
  (ha:∀ v,assign (.Subscript o i pos) X.env v=(do
   let ov ← holding [v] (eval o X.env)
   let iv ← holding [v,ov] (eval i X.env)
   standAt pos
   holding [v,ov,iv] (setItem ov iv v)
   release [v,ov,iv] []):=by intro _; rfl):PG X (.Subscript o i pos) (gSub to ti t):=by
 intro pins s σ H v u Q I r h
 rw [ha]
 refine wpAny_bind (wpAny_holding (thn (ho pins s σ H _ I h) fun ov s1 ⟨x,H1,I1,r1,q1⟩=>?_))
 refine wpAny_bind (wpAny_holding (thn (hi pins s1 σ H1 _ I1 q1) fun iv s2 ⟨y,H2,I2,r2,q2⟩=>?_))
 refine wpAny_bind (wpAny_standAt (wpAny_bind (wpAny_holding (thn (hs pins s2 σ H2 x y v ov iv u _ I2 r1 r2 r q2) fun _ s3 ⟨H3,I3,q3⟩=>?_))))
 exact wpAny_release ⟨σ,H3,I3,q3⟩
def tAsg (te:TE) (g:TG):TS:=fun D σ H=>te σ H fun x H1=>g x σ H1 D.nx
theorem ps_asg {tg e:Expr} {te:TE} {g:TG} (he:PE X e te) (hg:PG X tg g) (hs:swapsWithSole [tg] e pos.line X.env=pure false:=by rfl) (hw:swappedStores [tg] e X.env=pure none:=by rfl)
  (h1:(assignEach [tg] X.env).map (·.2)=[assign tg X.env]:=by rfl):PS X (.Assign [tg] e pos) (tAsg te g):=by
 intro pins s σ H D I h
 refine wpAny_Assign_stores (thn (he pins s σ H _ I h) fun v s1 ⟨x,H1,I1,r1,q1⟩=>?_) hs hw
 rw [h1]
 exact thn (hg pins s1 σ H1 x v _ I1 r1 q1) fun _ s2 q=>q
theorem ps_set {i:Nat} {x:Str} {e:Expr} {te:TE} {pos':Pos} (hN:X.N.Nodup) (hi:X.N[i]?=some x) (hx:Loc X.env.scope x) (he:PE X e te) (hs:swapsWith e (some (.Name x pos')) pos.line X.env=pure false:=by rfl) (hf:X.fn x=true∨X.env.scope.names.lookup x=some .local:=by first | exact .inl rfl | exact .inr rfl | assumption) :
  PS X (.Assign [.Name x pos'] e pos) (tAsg te (gName i)):=by
 intro pins s σ H D I h
 refine wpAny_Assign_Name (thn (he pins s σ H _ I h) fun v s1 ⟨y,H1,I1,r1,q1⟩=>?_) hs
 exact store_ok I1 hN hi hx r1 (fun s2 I2=>⟨_,H1,I2,q1⟩) hf
end
section
variable {X:Cx} {pos:Pos}
def tWhile (c:TT) (tb:TS):TS:=fun D σ H=>∃ W:Nat→St→Hp→Prop,(∃ m,W m σ H)∧∀ m σ H,W m σ H →
 c σ H fun b H1=>if b=true then ∃ N:St→Hp→Prop,(∀ σ' H',N σ' H'→∃ m',m'<m∧W m' σ' H')∧tb { D with nx:=N,ct:=N,bk:=D.nx } σ H1 else D.nx σ H1
theorem ps_while {c:Expr} {body:List Stmt} {tc:TT} {tb:TS} (hp:PassesOwn (model X.prog X.w) X.A X.env X.xe) (hc:PT X c tc) (hb:PSs X body tb):PS X (.While c body [] pos) (tWhile tc tb):=by
 intro pins s σ H D I h
 obtain ⟨W,⟨m0,w0⟩,turn⟩:=h
 refine wpAny_While (codeAny_whileLoop (fun n s'=>∃ σ' H',Inv X pins σ' H' s'∧W n σ' H') ?_ m0 ⟨σ,H,I,w0⟩)
 rintro n s1 ⟨σ1,H1,I1,w1⟩
 refine wpAny_passesOwn hp (thn (hc pins s1 σ1 H1 _ I1 (turn n σ1 H1 w1)) fun b s2 ⟨H2,I2,q2⟩=>?_)
 cases b with
 | true =>
  obtain ⟨N,hN,q2⟩:=q2
  rw [if_pos rfl]
  refine wpAny_passesOwn hp (thn (hb pins s2 σ1 H2 _ I2 q2) fun f s3 q3=>?_)
  cases f with
  | next =>
   obtain ⟨σ3,H3,I3,n3⟩:=q3
   obtain ⟨m',hm,w3⟩:=hN σ3 H3 n3
   exact ⟨m',hm,σ3,H3,I3,w3⟩
  | cont =>
   obtain ⟨σ3,H3,I3,n3⟩:=q3
   obtain ⟨m',hm,w3⟩:=hN σ3 H3 n3
   exact ⟨m',hm,σ3,H3,I3,w3⟩
  | brk=>exact q3
  | ret v=>exact q3
 | false =>
  rw [if_neg Bool.false_ne_true]
  exact wpAny_execs_nil ⟨σ1,H2,I2,q2⟩
end
structure It where
 go:Nat→Hp→Prop
 yld:Nat→Hp→V→Hp→Prop
 stop:Nat→Hp→Prop
def FpOk (X:Cx) (pins:List (Addr×Obj)) (H:Hp) (b:Addr):Prop :=
 H b=none∧b≠X.env.locals∧b∉X.fs∧(b∈X.ex∨X.s₀.heap.objs.size≤b)∧(∀ x c,X.env.cells.lookup x=some c→c≠b)∧∀ p∈X.pn++pins,p.1≠b
theorem Inv.fpOk {X:Cx} {pins:List (Addr×Obj)} {σ:St} {H H':Hp} {s:Shared} {b:Addr} (I:Inv X pins σ H s) (hb:s.heap.objs.size≤b) (hn:H' b=none):FpOk X pins H' b:=by
 refine ⟨hn,Nat.ne_of_gt (Nat.lt_of_lt_of_le I.lt hb),I.nofs hb,.inr (Nat.le_trans I.sz hb),fun x c e z=>?_,fun p hp z=>?_⟩
 ·obtain ⟨v,q⟩:=I.cell x c e
  exact absurd (Nat.lt_of_lt_of_le q.lt (by rw [z]; exact hb)) (Nat.lt_irrefl _)
 ·exact absurd (Nat.lt_of_lt_of_le (Heap.lt_size (I.pin p hp).1) (by rw [z]; exact hb)) (Nat.lt_irrefl _)
structure Turn (P:Program) (w:World) (K:PySem.W.Frag) (tg:Expr) (J:It) (fp:List Addr) (it:Addr) (tn:Nat→Heap→Prop):Prop where
 mem:it∈fp
 obj:∀ i h,tn i h→∀ b∈fp,∃ o,h.get? b=some o∧∀ v,o.data≠.cell v
 keep:∀ i h h',tn i h→(∀ b∈fp,∀ o,h.get? b=some o→h'.get? b=some o)→tn i h'
 item:∀ (X:Cx),X.prog=P→X.w=w→X.K=K→X.calm=true→∀ (i:Nat) (pins:List (Addr×Obj)) (s:Shared) (σ:St) (H:Hp) (E:Value→Shared→Prop),Inv X pins σ H s→(∀ b∈fp,FpOk X pins H b)→tn i s.heap→J.go i H →
  wpAny (model P w) X.A (pyNext (.ref it)) (fun r s1=>∃ u,r=some u ∧
   wpAny (model P w) X.A (letOwnedTupleGo tg (.ref it) u) (fun _ s2=>∃ x H',Inv X pins σ H' s2∧RelV x u∧J.yld i H x H'∧tn (i+1) s2.heap∧∀ b∈fp,H' b=none) E s1) E s
 done:∀ (X:Cx),X.prog=P→X.w=w→X.K=K→X.calm=true→∀ (i:Nat) (pins:List (Addr×Obj)) (s:Shared) (σ:St) (H:Hp) (E:Value→Shared→Prop),Inv X pins σ H s→(∀ b∈fp,FpOk X pins H b)→tn i s.heap→J.stop i H →
  wpAny (model P w) X.A (pyNext (.ref it)) (fun r s1=>r=none∧Inv X pins σ H s1) E s
 self:∀ (A:Around) (i:Nat) (s:Shared) (Q:Value→Shared→Prop) (E:Value→Shared→Prop),tn i s.heap→Q (.ref it) s→wpAny (model P w) A (pyIter (.ref it)) Q E s
abbrev TI:=St→Hp→(It→Hp→Prop)→Prop
def PIE (X:Cx) (pins:List (Addr×Obj)) (σ:St) (tg:Expr) (R:It→Hp→Prop) (itv:Value) (s2:Shared):Prop :=
 ∃ (it:Addr) (fp:List Addr) (tn:Nat→Heap→Prop) (J:It) (H':Hp),itv=.ref it∧Inv X pins σ H' s2∧Turn X.prog X.w X.K tg J fp it tn∧tn 0 s2.heap∧(∀ b∈fp,FpOk X pins H' b)∧R J H'
def PI (X:Cx) (tg iter:Expr) (wi:TI):Prop :=
 ∀ (pins:List (Addr×Obj)) (s:Shared) (σ:St) (H:Hp) (R:It→Hp→Prop),Inv X pins σ H s→wi σ H R →
  wpAny (model X.prog X.w) X.A (eval iter X.env) (fun v s1=>wpAny (model X.prog X.w) X.A (pyIter v) (PIE X pins σ tg R) X.xe s1) X.xe s
theorem go_of {M : Model} {A : Around} {E : Value → Shared → Prop} {s : Shared} {tg : Expr} {it : Addr} {u : Value} {o : Obj} {n : String} {vs : Array Value} {Q : Unit → Shared → Prop} (ho : s.heap.get? it = some o) (hc : o.cls = .type n) (hd : o.data = .fields vs)
    (hn : ["enumerate", "zip", "dict_itemiterator", "dict_reverseitemiterator", "odict_iterator", "itertools.zip_longest", "itertools.pairwise"].contains n = false) (hQ : Q () s) : wpAny M A (letOwnedTupleGo tg (.ref it) u) Q E s := by
  unfold letOwnedTupleGo
  cases tg <;> first
    | exact wpAny_pure hQ
    | (cases u <;> first
        | exact wpAny_pure hQ
        | (refine wpAny_bind (wpAny_load ho ?_)
           rw [hc, hd]
           show wpAny M A (if (["enumerate", "zip", "dict_itemiterator", "dict_reverseitemiterator", "odict_iterator", "itertools.zip_longest", "itertools.pairwise"].contains n && vs[0]? == some (rawInt _)) = true then _ else _) Q E s
           rw [if_neg (by intro h; rw [hn, Bool.false_and] at h; cases h)]
           exact wpAny_pure hQ))
def Itl (K:PySem.W.Frag) (a:Addr):It :=
 ⟨fun i H=>∃ xs x,SqL K H a xs∧xs[i]?=some x,fun i H x H'=>H'=H∧∀ xs,SqL K H a xs→xs[i]?=some x,fun i H=>∃ xs,SqL K H a xs∧xs.length≤i⟩
def Itt (K:PySem.W.Frag) (a:Addr):It :=
 ⟨fun i H=>∃ xs x,SqT K H a xs∧xs[i]?=some x,fun i H x H'=>H'=H∧∀ xs,SqT K H a xs→xs[i]?=some x,fun i H=>∃ xs,SqT K H a xs∧xs.length≤i⟩
def Itr (lo:Int) (n:Nat):It:=⟨fun i _=>i<n,fun i H x H'=>H'=H∧x=.int (lo+i),fun i _=>n≤i⟩
theorem turn_list {P:Program} {w:World} {K:PySem.W.Frag} {tg:Expr} (a it:Addr):Turn P w K tg (Itl K a) [it] it (fun i h=>h.IsListIter it a i) where
 mem:=by simp
 obj:=fun i h st b hb=>by
  have e:b=it:=by simpa using hb
  subst e
  obtain ⟨o,e,c,d⟩:=st
  exact ⟨o,e,fun v z=>by rw [d] at z; cases z⟩
 keep:=fun i h h' st k=>st.at fun o e=>k it (by simp) o e
 item:=by
  intro X hP hw hK hc i pins s σ H E I hf st hg
  subst hP hw hK
  obtain ⟨xs,x,hq,hx⟩:=hg
  obtain ⟨its,rv,p,hz⟩:=I.list hq
  obtain ⟨u,hu,ru⟩:=rv.get hx
  obtain ⟨f0,f1,f2,f3,f4,f5⟩:=hf it (by simp)
  refine wpAny_pyNext_list_item st p.isList (x:=u) (by simpa using hu) fun h' st' sb=>?_
  have I1:Inv X pins σ H { s with heap:=h' }:=I.turned (t':=s.toks) (fun b o hb e=>(sb.2 b hb).trans e) f0 f1 f3 f4 f5
  obtain ⟨o,e,c,d⟩:=id st'
  exact ⟨u,rfl,go_of (s:={ s with heap:=h' }) e c d (by decide) ⟨x,H,I1,ru,⟨rfl,fun ys hy=>by rw [I.list_inj hy hq]; exact hx⟩,st',fun b hb=>(hf b hb).1⟩⟩
 done:=by
  intro X hP hw hK hc i pins s σ H E I hf st hg
  subst hP hw hK
  obtain ⟨xs,hq,hx⟩:=hg
  obtain ⟨its,rv,p,hz⟩:=I.list hq
  obtain ⟨f0,f1,f2,f3,f4,f5⟩:=hf it (by simp)
  have hl:=rv.length
  exact wpAny_pyNext_list_end (I.ok.hd hc) st p.isList (by simp; omega) fun h' eb=>⟨rfl,I.turned (t':=s.toks) (fun b o hb e=>eb b o hb e) f0 f1 f3 f4 f5⟩
 self:=fun _ _ _ _ _ st h=>wpAny_pyIter_listiter st h
theorem turn_tuple {P:Program} {w:World} {K:PySem.W.Frag} {tg:Expr} (a it:Addr):Turn P w K tg (Itt K a) [it] it (fun i h=>h.IsTupleIter it a i) where
 mem:=by simp
 obj:=fun i h st b hb=>by
  have e:b=it:=by simpa using hb
  subst e
  obtain ⟨o,e,c,d⟩:=st
  exact ⟨o,e,fun v z=>by rw [d] at z; cases z⟩
 keep:=fun i h h' st k=>st.at fun o e=>k it (by simp) o e
 item:=by
  intro X hP hw hK hc i pins s σ H E I hf st hg
  subst hP hw hK
  obtain ⟨xs,x,hq,hx⟩:=hg
  obtain ⟨its,rv,p,hz⟩:=I.tuple hq
  obtain ⟨u,hu,ru⟩:=rv.get hx
  obtain ⟨f0,f1,f2,f3,f4,f5⟩:=hf it (by simp)
  refine wpAny_pyNext_tuple_item st (show s.heap.IsTuple a its.toArray from p) (x:=u) (by simpa using hu) fun h' st' sb=>?_
  have I1:Inv X pins σ H { s with heap:=h' }:=I.turned (t':=s.toks) (fun b o hb e=>(sb.2 b hb).trans e) f0 f1 f3 f4 f5
  obtain ⟨o,e,c,d⟩:=id st'
  exact ⟨u,rfl,go_of (s:={ s with heap:=h' }) e c d (by decide) ⟨x,H,I1,ru,⟨rfl,fun ys hy=>by rw [I.tuple_inj hy hq]; exact hx⟩,st',fun b hb=>(hf b hb).1⟩⟩
 done:=by
  intro X hP hw hK hc i pins s σ H E I hf st hg
  subst hP hw hK
  obtain ⟨xs,hq,hx⟩:=hg
  obtain ⟨its,rv,p,hz⟩:=I.tuple hq
  obtain ⟨f0,f1,f2,f3,f4,f5⟩:=hf it (by simp)
  have hl:=rv.length
  exact wpAny_pyNext_tuple_end (I.ok.hd hc) st (show s.heap.IsTuple a its.toArray from p) (by simp; omega) fun h' eb=>⟨rfl,I.turned (t':=s.toks) (fun b o hb e=>eb b o hb e) f0 f1 f3 f4 f5⟩
 self:=fun _ _ _ _ _ st h=>wpAny_pyIter_tupleiter st h
theorem turn_range {P:Program} {w:World} {K:PySem.W.Frag} {tg:Expr} (it:Addr) (lo:Int) (n:Nat):Turn P w K tg (Itr lo n) [it] it (fun i h=>IsRangeIter h it (lo+(i:Nat) * 1) ((n:Int) - (i:Nat)) 1) where
 mem:=by simp
 obj:=fun i h st b hb=>by
  have e:b=it:=by simpa using hb
  subst e
  exact ⟨_,st,fun v z=>by
   have z':Data.fields _=Data.cell v:=z
   cases z'⟩
 keep:=fun i h h' st k=>k it (by simp) _ st
 item:=by
  intro X hP hw hK hc i pins s σ H E I hf st hg
  subst hP hw hK
  obtain ⟨f0,f1,f2,f3,f4,f5⟩:=hf it (by simp)
  have W:=Walks.range (prog:=X.prog) (w:=X.w) (I.ok.hd hc) it lo 1 n
  refine W.item i s _ _ hg st fun v h' tk hv st' kk=>?_
  obtain ⟨t,rfl⟩:=hv
  have I1:Inv X pins σ H { s with heap:=h',toks:=tk }:=I.turned (fun b o hb e=>kk b o (by simpa using hb) e) f0 f1 f3 f4 f5
  refine ⟨_,rfl,go_of (s:={ s with heap:=h',toks:=tk }) (n:="range_iterator") st' rfl rfl (by decide) ⟨.int (lo+i),H,I1,⟨t,?_⟩,⟨rfl,rfl⟩,st',fun b hb=>(hf b hb).1⟩⟩
  rw [Int.mul_one]
 done:=by
  intro X hP hw hK hc i pins s σ H E I hf st hg
  subst hP hw hK
  obtain ⟨f0,f1,f2,f3,f4,f5⟩:=hf it (by simp)
  exact wpAny_pyNext_range_end (I.ok.hd hc) st (by have:n≤i:=hg; omega) fun h' eb=>⟨rfl,I.turned (t':=s.toks) (fun b o hb e=>eb b o hb e) f0 f1 f3 f4 f5⟩
 self:=fun _ _ _ _ _ st h=>wpAny_pyIter_rangeiter st h
end L2
namespace L2
open PySem PySem.Spec PyProof.Rows
section
variable {X:Cx} {tg:Expr}
def iList (K:PySem.W.Frag) (tl:TE):TI:=fun σ H R=>tl σ H fun x H1=>∃ a,x=.ref a∧(∃ xs,SqL K H1 a xs)∧R (Itl K a) H1
def iTup (K:PySem.W.Frag) (tl:TE):TI:=fun σ H R=>tl σ H fun x H1=>∃ a,x=.ref a∧(∃ xs,SqT K H1 a xs)∧R (Itt K a) H1
theorem pi_list {l:Expr} {tl:TE} (hl:PE X l tl):PI X tg l (iList X.K tl):=by
 intro pins s σ H R I h
 refine thn (hl pins s σ H _ I h) fun v s1 ⟨x,H1,I1,r1,q1⟩=>?_
 obtain ⟨a,e,⟨xs,hq⟩,q⟩:=q1
 subst e
 cases r1
 obtain ⟨its,rv,p,hz⟩:=I1.list hq
 refine wpAny_pyIter_list p.isList ?_
 refine ⟨s1.heap.objs.size,[s1.heap.objs.size],_,_,H1,rfl,I1.kept (t':=s1.toks) fun b o e=>Heap.get?_push_of_some _ e,turn_list a _,⟨_,Heap.get?_push_size _ rfl,rfl,rfl⟩,fun b hb=>?_,q⟩
 have e:b=s1.heap.objs.size:=by simpa using hb
 subst e
 exact I1.fpOk (Nat.le_refl _) (I1.hok.fresh (Nat.le_refl _))
theorem pi_tup {l:Expr} {tl:TE} (hl:PE X l tl):PI X tg l (iTup X.K tl):=by
 intro pins s σ H R I h
 refine thn (hl pins s σ H _ I h) fun v s1 ⟨x,H1,I1,r1,q1⟩=>?_
 obtain ⟨a,e,⟨xs,hq⟩,q⟩:=q1
 subst e
 cases r1
 obtain ⟨its,rv,p,hz⟩:=I1.tuple hq
 refine wpAny_pyIter_tuple (show s1.heap.IsTuple a its.toArray from p) ?_
 refine ⟨s1.heap.objs.size,[s1.heap.objs.size],_,_,H1,rfl,I1.kept (t':=s1.toks) fun b o e=>Heap.get?_push_of_some _ e,turn_tuple a _,⟨_,Heap.get?_push_size _ rfl,rfl,rfl⟩,fun b hb=>?_,q⟩
 have e:b=s1.heap.objs.size:=by simpa using hb
 subst e
 exact I1.fpOk (Nat.le_refl _) (I1.hok.fresh (Nat.le_refl _))
theorem range_it {pins:List (Addr×Obj)} {σ:St} {H:Hp} {s:Shared} {R:It→Hp→Prop} {E:Value→Shared→Prop} {lo hi:Int} {t u v:Tok} {tk:Nat} (I:Inv X pins σ H s) (h1:-(2 ^ 62)≤lo) (h2:lo<2 ^ 62) (h3:-(2 ^ 62)≤hi) (h4:hi<2 ^ 62)
  (q:R (Itr lo (hi - lo).toNat) H):wpAny (model X.prog X.w) X.A (pyIter (.ref s.heap.objs.size)) (PIE X pins σ tg R) E { s with heap:=s.heap.push { cls:=.type "range",data:=.fields #[.int lo t,.int hi u,.int 1 v] },toks:=tk }:=by
 refine wpAny_pyIter_range (IsRange.new ..) (small_one h1 h2 h3 h4) ?_
 have I1:Inv X pins σ H { s with heap:=s.heap.push { cls:=.type "range",data:=.fields #[.int lo t,.int hi u,.int 1 v] },toks:=tk }:=I.kept fun b o e=>Heap.get?_push_of_some _ e
 refine ⟨(s.heap.push { cls:=.type "range",data:=.fields #[.int lo t,.int hi u,.int 1 v] }).objs.size,[(s.heap.push { cls:=.type "range",data:=.fields #[.int lo t,.int hi u,.int 1 v] }).objs.size],_,_,H,rfl,
  I1.kept (t':=tk) fun b o e=>Heap.get?_push_of_some _ e,turn_range _ lo (hi - lo).toNat,?_,fun b hb=>?_,q⟩
 ·have e1:lo+((0:Nat):Int) * 1=lo:=by simp
  have e2:(((hi - lo).toNat:Nat):Int) - ((0:Nat):Int)=Builtin.Range.rangeSize lo hi 1:=by rw [rangeSize_one]; split <;> omega
  show IsRangeIter _ _ (lo+((0:Nat):Int) * 1) ((((hi - lo).toNat:Nat):Int) - ((0:Nat):Int)) 1
  rw [e1,e2]
  exact Heap.get?_push_size _ rfl
 ·have e:b=(s.heap.push { cls:=.type "range",data:=.fields #[.int lo t,.int hi u,.int 1 v] }).objs.size:=by simpa using hb
  subst e
  exact I1.fpOk (Nat.le_refl _) (I1.hok.fresh (Nat.le_refl _))
def iRng1 (ta:TA):TI:=fun σ H R=>ta σ H fun vs H1=>∃ j:Int,vs=[.int j]∧-(2 ^ 62)≤j∧j<2 ^ 62∧R (Itr 0 j.toNat) H1
def iRng2 (ta:TA):TI:=fun σ H R=>ta σ H fun vs H1=>∃ i j:Int,vs=[.int i,.int j]∧(-(2 ^ 62)≤i∧i<2 ^ 62∧-(2 ^ 62)≤j∧j<2 ^ 62)∧R (Itr i (j - i).toNat) H1
theorem pi_range1 {a:Expr} {ta:TA} {p pos:Pos} (hg:Gl X "range") (hm:X.mg "range"=none) (ha:PA X [a] ta) (hs:starEach [a] X.env=[(false,eval a X.env)]:=by rfl):PI X tg (.Call (.Name "range" p) [a] [] pos) (iRng1 ta):=by
 intro pins s σ H R I h
 refine Call_ (ld_blt I hg hm boot_range (PyProof.Rows.callWith_type1 (thn (ha pos pins s σ H _ I h) fun us s1 ⟨vs,H1,I1,r1,q1⟩=>?_) hs rfl))
 obtain ⟨j,e,q1,q2,q⟩:=q1
 subst e
 cases r1 with
 | cons r rr =>
  cases rr
  obtain ⟨t,rfl⟩:=r
  exact call_range_1 (range_it I1 (by omega) (by omega) q1 q2 (by simpa using q))
theorem pi_range2 {a b:Expr} {ta:TA} {p pos:Pos} (hg:Gl X "range") (hm:X.mg "range"=none) (ha:PA X [a,b] ta) (hs:starEach [a,b] X.env=[(false,eval a X.env),(false,eval b X.env)]:=by rfl) (hs2:starEach [b] X.env=[(false,eval b X.env)]:=by rfl) :
  PI X tg (.Call (.Name "range" p) [a,b] [] pos) (iRng2 ta):=by
 intro pins s σ H R I h
 refine Call_ (ld_blt I hg hm boot_range (PyProof.Rows.callWith_type1 (thn (ha pos pins s σ H _ I h) fun us s1 ⟨vs,H1,I1,r1,q1⟩=>?_) (by rw [hs,hs2]) (by rw [hs2]; rfl)))
 obtain ⟨i,j,e,⟨q1,q2,q3,q4⟩,q⟩:=q1
 subst e
 cases r1 with
 | cons r rr =>
  cases rr with
  | cons r' rr =>
   cases rr
   obtain ⟨t,rfl⟩:=r
   obtain ⟨t',rfl⟩:=r'
   exact call_range_2 (range_it I1 q1 q2 q3 q4 q)
def tFor (wi:TI) (g:TG) (tb:TS):TS:=fun D σ H=>wi σ H fun J H1=>∃ W:Nat→Nat→St→Hp→Prop,(∃ m,W 0 m σ H1)∧∀ i m σ H,W i m σ H →
 (J.stop i H∧D.nx σ H)∨(J.go i H∧∃ N:St→Hp→Prop,(∀ σ' H',N σ' H'→∃ m',m'<m∧W (i+1) m' σ' H')∧∀ x H',J.yld i H x H'→g x σ H' fun σ2 H2=>tb { D with nx:=N,ct:=N,bk:=D.nx } σ2 H2)
def pinsAt (fp:List Addr) (h:Heap):List (Addr×Obj):=fp.filterMap fun b=>(h.get? b).map fun o=>(b,o)
theorem mem_pinsAt {fp:List Addr} {h:Heap} {b:Addr} {o:Obj} (hb:b∈fp) (e:h.get? b=some o):(b,o)∈pinsAt fp h:=List.mem_filterMap.mpr ⟨b,hb,by rw [e]; rfl⟩
theorem of_pinsAt {fp:List Addr} {h:Heap} {p:Addr×Obj} (hp:p∈pinsAt fp h):p.1∈fp∧h.get? p.1=some p.2:=by
 obtain ⟨b,hb,e⟩:=List.mem_filterMap.mp hp
 cases q:h.get? b with
 | none=>rw [q] at e; cases e
 | some o =>
  rw [q] at e
  have e':(b,o)=p:=Option.some.inj e
  subst e'
  exact ⟨hb,q⟩
theorem Inv.pinned {pins:List (Addr×Obj)} {σ:St} {H:Hp} {s:Shared} {fp:List Addr} (I:Inv X pins σ H s) (hf:∀ b∈fp,FpOk X pins H b) (ho:∀ b∈fp,∃ o,s.heap.get? b=some o∧∀ v,o.data≠.cell v):Inv X (pins++pinsAt fp s.heap) σ H s :=
 I.pins_of fun p hp=>(List.mem_append.mp hp).elim (fun z=>I.pin p (List.mem_append_right _ z)) fun z=>by
  obtain ⟨hb,e⟩:=of_pinsAt z
  obtain ⟨f0,f1,f2,_⟩:=hf p.1 hb
  obtain ⟨o,e',d⟩:=ho p.1 hb
  rw [e] at e'; cases e'
  exact ⟨e,f0,f1,f2,d⟩
theorem Inv.unpinned {pins pl:List (Addr×Obj)} {σ:St} {H:Hp} {s:Shared} (I:Inv X (pins++pl) σ H s):Inv X pins σ H s:=I.pins_of fun p hp=>I.pin p (List.mem_append_right _ (List.mem_append_left _ hp))
theorem ps_for {iter:Expr} {body:List Stmt} {wi:TI} {g:TG} {tb:TS} {pos:Pos} (hp:PassesOwn (model X.prog X.w) X.A X.env X.xe) (hc:X.calm=true) (hi:PI X tg iter wi) (hg:PG X tg g) (hb:PSs X body tb)
  (hs:∀ x,foldedSetIterable iter X.env x=pure x:=by intro _; rfl):PS X (.For tg iter body [] pos) (tFor wi g tb):=by
 intro pins s σ H D I h
 refine wpAny_For (thn (hi pins s σ H _ I h) fun v s1 h1=>thn h1 fun itv s2 h2=>?_) hs
 obtain ⟨it,fp,tn,J,H2,e,I2,T,st2,f2,W,⟨m0,w0⟩,turn⟩:=h2
 subst e
 have stat:∀ {H':Hp},(∀ b∈fp,H' b=none)→∀ b∈fp,FpOk X pins H' b:=fun hn b hb=>⟨hn b hb,(f2 b hb).2⟩
 refine codeAny_forLoop_any (fun n s'=>∃ i σ' H',Inv X pins σ' H' s'∧tn i s'.heap∧(∀ b∈fp,H' b=none)∧W i n σ' H') ?_ m0 ⟨0,σ,H2,I2,st2,fun b hb=>(f2 b hb).1,w0⟩
 rintro n s3 ⟨i,σ3,H3,I3,st3,fr3,w3⟩
 rcases turn i n σ3 H3 w3 with ⟨stop,qn⟩ | ⟨go,N,hN,step⟩
 ·refine wpAny_passesOwn hp (thn (T.done X rfl rfl rfl hc i pins s3 σ3 H3 X.xe I3 (stat fr3) st3 stop) fun r s4 ⟨hr,I4⟩=>?_)
  subst hr
  exact wpAny_execs_nil ⟨σ3,H3,I4,qn⟩
 ·refine wpAny_passesOwn hp (thn (T.item X rfl rfl rfl hc i pins s3 σ3 H3 X.xe I3 (stat fr3) st3 go) fun r s4 ⟨u,hr,h4⟩=>?_)
  subst hr
  refine wpAny_passesOwn hp (thn h4 fun _ s5 ⟨x,H5,I5,r5,y5,st5,fr5⟩=>?_)
  have I5':=I5.pinned (stat fr5) (T.obj _ _ st5)
  refine wpAny_passesOwn hp (thn (hg _ s5 σ3 H5 x u _ I5' r5 (step x H5 y5)) fun _ s6 ⟨σ6,H6,I6,q6⟩=>?_)
  refine wpAny_passesOwn hp (thn (hb _ s6 σ6 H6 _ I6 q6) fun f s7 q7=>?_)
  have again:∀ {σ7:St} {H7:Hp},Inv X (pins++pinsAt fp s5.heap) σ7 H7 s7→N σ7 H7→∃ m,m<n∧∃ i σ' H',Inv X pins σ' H' s7∧tn i s7.heap∧(∀ b∈fp,H' b=none)∧W i m σ' H':=fun {σ7 H7} I7 n7=>by
   obtain ⟨m',hm,w7⟩:=hN σ7 H7 n7
   refine ⟨m',hm,i+1,σ7,H7,I7.unpinned,T.keep _ _ _ st5 fun b hb o e=>(I7.pin (b,o) (List.mem_append_right _ (List.mem_append_right _ (mem_pinsAt hb e)))).1,fun b hb=>?_,w7⟩
   obtain ⟨o,e,d⟩:=T.obj _ _ st5 b hb
   exact (I7.pin (b,o) (List.mem_append_right _ (List.mem_append_right _ (mem_pinsAt hb e)))).2.1
  cases f with
  | next=>obtain ⟨σ7,H7,I7,n7⟩:=q7; exact again I7 n7
  | cont=>obtain ⟨σ7,H7,I7,n7⟩:=q7; exact again I7 n7
  | brk=>obtain ⟨σ7,H7,I7,q7⟩:=q7; exact ⟨σ7,H7,I7.unpinned,q7⟩
  | ret v=>obtain ⟨x7,σ7,H7,I7,r7,q7⟩:=q7; exact ⟨x7,σ7,H7,I7.unpinned,r7,q7⟩
end
theorem for_list {K:PySem.W.Frag} {a:Addr} {xs:List V} {g:TG} {tb:TS} {D:Ends} {σ:St} {H:Hp} (Pv:Nat→St→Hp→Prop) (h0:Pv 0 σ H) (hl:∀ i σ H,i≤xs.length→Pv i σ H→SqL K H a xs)
  (hs:∀ i x σ H,xs[i]?=some x→Pv i σ H→g x σ H fun σ2 H2=>tb { D with nx:=Pv (i+1),ct:=Pv (i+1),bk:=D.nx } σ2 H2) (hd:∀ σ H,Pv xs.length σ H→D.nx σ H) :
  ∃ W:Nat→Nat→St→Hp→Prop,(∃ m,W 0 m σ H)∧∀ i m σ H,W i m σ H →
   ((Itl K a).stop i H∧D.nx σ H)∨((Itl K a).go i H∧∃ N:St→Hp→Prop,(∀ σ' H',N σ' H'→∃ m',m'<m∧W (i+1) m' σ' H')∧∀ x H',(Itl K a).yld i H x H'→g x σ H' fun σ2 H2=>tb { D with nx:=N,ct:=N,bk:=D.nx } σ2 H2):=by
 refine ⟨fun i m σ H=>m=xs.length - i∧i≤xs.length∧Pv i σ H,⟨xs.length,by simp,Nat.zero_le _,h0⟩,?_⟩
 rintro i m σ H ⟨rfl,hi,p⟩
 have q:=hl i σ H hi p
 by_cases hlt:i<xs.length
 ·refine .inr ⟨⟨xs,xs[i],q,by simp [hlt]⟩,Pv (i+1),fun σ' H' p'=>⟨xs.length - (i+1),by omega,rfl,hlt,p'⟩,fun x H' y=>?_⟩
  obtain ⟨e,y⟩:=y
  subst e
  exact hs i x σ _ (y xs q) p
 ·have e:i=xs.length:=by omega
  subst e
  exact .inl ⟨⟨xs,q,Nat.le_refl _⟩,hd σ H p⟩
theorem for_tup {K:PySem.W.Frag} {a:Addr} {xs:List V} {g:TG} {tb:TS} {D:Ends} {σ:St} {H:Hp} (Pv:Nat→St→Hp→Prop) (h0:Pv 0 σ H) (hl:∀ i σ H,i≤xs.length→Pv i σ H→SqT K H a xs)
  (hs:∀ i x σ H,xs[i]?=some x→Pv i σ H→g x σ H fun σ2 H2=>tb { D with nx:=Pv (i+1),ct:=Pv (i+1),bk:=D.nx } σ2 H2) (hd:∀ σ H,Pv xs.length σ H→D.nx σ H) :
  ∃ W:Nat→Nat→St→Hp→Prop,(∃ m,W 0 m σ H)∧∀ i m σ H,W i m σ H →
   ((Itt K a).stop i H∧D.nx σ H)∨((Itt K a).go i H∧∃ N:St→Hp→Prop,(∀ σ' H',N σ' H'→∃ m',m'<m∧W (i+1) m' σ' H')∧∀ x H',(Itt K a).yld i H x H'→g x σ H' fun σ2 H2=>tb { D with nx:=N,ct:=N,bk:=D.nx } σ2 H2):=by
 refine ⟨fun i m σ H=>m=xs.length - i∧i≤xs.length∧Pv i σ H,⟨xs.length,by simp,Nat.zero_le _,h0⟩,?_⟩
 rintro i m σ H ⟨rfl,hi,p⟩
 have q:=hl i σ H hi p
 by_cases hlt:i<xs.length
 ·refine .inr ⟨⟨xs,xs[i],q,by simp [hlt]⟩,Pv (i+1),fun σ' H' p'=>⟨xs.length - (i+1),by omega,rfl,hlt,p'⟩,fun x H' y=>?_⟩
  obtain ⟨e,y⟩:=y
  subst e
  exact hs i x σ _ (y xs q) p
 ·have e:i=xs.length:=by omega
  subst e
  exact .inl ⟨⟨xs,q,Nat.le_refl _⟩,hd σ H p⟩
theorem for_range {lo:Int} {n:Nat} {g:TG} {tb:TS} {D:Ends} {σ:St} {H:Hp} (Pv:Nat→St→Hp→Prop) (h0:Pv 0 σ H)
  (hs:∀ i σ H,i<n→Pv i σ H→g (.int (lo+i)) σ H fun σ2 H2=>tb { D with nx:=Pv (i+1),ct:=Pv (i+1),bk:=D.nx } σ2 H2) (hd:∀ σ H,Pv n σ H→D.nx σ H) :
  ∃ W:Nat→Nat→St→Hp→Prop,(∃ m,W 0 m σ H)∧∀ i m σ H,W i m σ H →
   ((Itr lo n).stop i H∧D.nx σ H)∨((Itr lo n).go i H∧∃ N:St→Hp→Prop,(∀ σ' H',N σ' H'→∃ m',m'<m∧W (i+1) m' σ' H')∧∀ x H',(Itr lo n).yld i H x H'→g x σ H' fun σ2 H2=>tb { D with nx:=N,ct:=N,bk:=D.nx } σ2 H2):=by
 refine ⟨fun i m σ H=>m=n - i∧i≤n∧Pv i σ H,⟨n,by simp,Nat.zero_le _,h0⟩,?_⟩
 rintro i m σ H ⟨rfl,hi,p⟩
 by_cases hlt:i<n
 ·refine .inr ⟨hlt,Pv (i+1),fun σ' H' p'=>⟨n - (i+1),by omega,rfl,hlt,p'⟩,fun x H' y=>?_⟩
  obtain ⟨e,y⟩:=y
  subst e y
  exact hs i σ _ hlt p
 ·have e:i=n:=by omega
  subst e
  exact .inl ⟨Nat.le_refl _,hd σ H p⟩
theorem while_by {c:TT} {tb:TS} {D:Ends} {σ:St} {H:Hp} (Pv:St→Hp→Prop) (μ:St→Hp→Nat) (h0:Pv σ H)
  (hs:∀ σ H,Pv σ H→c σ H fun b H1=>if b=true then tb { D with nx:=fun σ' H'=>Pv σ' H'∧μ σ' H'<μ σ H,ct:=fun σ' H'=>Pv σ' H'∧μ σ' H'<μ σ H,bk:=D.nx } σ H1 else D.nx σ H1)
  (mono:∀ σ H Q Q',(∀ b H1,Q b H1→Q' b H1)→c σ H Q→c σ H Q'):tWhile c tb D σ H:=by
 refine ⟨fun m σ H=>m=μ σ H∧Pv σ H,⟨_,rfl,h0⟩,?_⟩
 rintro m σ H ⟨rfl,p⟩
 refine mono σ H _ _ (fun b H1 q=>?_) (hs σ H p)
 cases b with
 | true=>exact ⟨_,fun σ' H' ⟨p',l⟩=>⟨_,l,rfl,p'⟩,q⟩
 | false=>exact q
end L2
namespace L2
open PySem PySem.Spec PyProof.Rows
abbrev R2:=V→V→Hp→VK→Prop
def OpR (X:Cx) (f:Value→Value→Sem Value) (r:R2):Prop :=
 ∀ (pins:List (Addr×Obj)) (s:Shared) (σ:St) (H:Hp) (x y:V) (v u:Value) (Q:VK),Inv X pins σ H s→RelV x v→RelV y u→r x y H Q →
  wpAny (model X.prog X.w) X.A (f v u) (EP X pins σ Q) X.xe s
def UnR (X:Cx) (f:Value→Sem Value) (r:V→Hp→VK→Prop):Prop :=
 ∀ (pins:List (Addr×Obj)) (s:Shared) (σ:St) (H:Hp) (x:V) (v:Value) (Q:VK),Inv X pins σ H s→RelV x v→r x H Q →
  wpAny (model X.prog X.w) X.A (f v) (EP X pins σ Q) X.xe s
def CallR (X:Cx) (f:Value) (r:List V→Hp→VK→Prop):Prop :=
 ∀ (pins:List (Addr×Obj)) (s:Shared) (σ:St) (H:Hp) (xs:List V) (us:List Value) (Q:VK),Inv X pins σ H s→Vals xs us→r xs H Q →
  wpAny (model X.prog X.w) X.A (call f us) (EP X pins σ Q) X.xe s
def tOp (r:R2) (ta tb:TE):TE:=fun σ H Q=>ta σ H fun x H1=>tb σ H1 fun y H2=>r x y H2 Q
def tUn (r:V→Hp→VK→Prop) (ta:TE):TE:=fun σ H Q=>ta σ H fun x H1=>r x H1 Q
def rI (C:Int→Int→Prop) (g:Int→Int→V):R2:=fun x y H Q=>∃ i j,x=.int i∧y=.int j∧C i j∧Q (g i j) H
def rI0 (g:Int→Int→V):R2:=fun x y H Q=>∃ i j,x=.int i∧y=.int j∧Q (g i j) H
def rU (g:Int→V):V→Hp→VK→Prop:=fun x H Q=>∃ i,x=.int i∧Q (g i) H
section
variable {X:Cx} {a b c:Expr} {ta tb tc:TE} {pos:Pos}
theorem binT (ha:PE X a ta) (hb:PE X b tb) {pins:List (Addr×Obj)} {s:Shared} {σ:St} {H:Hp} {R:V→V→Hp→Prop} (I:Inv X pins σ H s)
  (h:ta σ H fun x H1=>tb σ H1 fun y H2=>R x y H2) {Q:Value→Shared→Prop} {f:Value→Value→Sem Value}
  (hf:∀ v u s2 x y H2,Inv X pins σ H2 s2→RelV x v→RelV y u→R x y H2→wpAny (model X.prog X.w) X.A (f v u) Q X.xe s2) :
  wpAny (model X.prog X.w) X.A (eval a X.env) (fun v s₁=>wpAny (model X.prog X.w) X.A (eval b X.env) (fun u s₂=>wpAny (model X.prog X.w) X.A (f v u) Q X.xe s₂) X.xe s₁) X.xe s:=by
 refine thn (ha pins s σ H _ I h) fun v s1 ⟨x,H1,I1,r1,q1⟩=>?_
 refine thn (hb pins s1 σ H1 _ I1 q1) fun u s2 ⟨y,H2,I2,r2,q2⟩=>?_
 exact hf v u s2 x y H2 I2 r1 r2 q2
theorem pe_op {op:Operator} {r:R2} (ho:OpR X (binaryOp op) r) (ha:PE X a ta) (hb:PE X b tb):PE X (.BinOp a op b pos) (tOp r ta tb):=by
 intro pins s σ H Q I h
 exact wpAny_BinOp (binT ha hb I h fun v u s2 x y H2 I2 rx ry q=>ho pins s2 σ H2 x y v u Q I2 rx ry q)
theorem pe_un {op:UnaryOp} {r:V→Hp→VK→Prop} (ho:UnR X (unaryOp op) r) (ha:PE X a ta):PE X (.UnaryOp op a pos) (tUn r ta):=by
 intro pins s σ H Q I h
 exact UnaryOp_ (thn (ha pins s σ H _ I h) fun v s1 ⟨x,H1,I1,r1,q1⟩=>ho pins s1 σ H1 x v Q I1 r1 q1)
theorem opI {f:Value→Value→Sem Value} {C:Int→Int→Prop} {g:Int→Int→Int}
  (rule:∀ (i j:Int) (t u:Tok) (s:Shared) (Q:Value→Shared→Prop) (E:Value→Shared→Prop),C i j→Q (.int (g i j) s.toks) { s with toks:=s.toks+1 }→wpAny (model X.prog X.w) X.A (f (.int i t) (.int j u)) Q E s) :
  OpR X f (rI C fun i j=>.int (g i j)):=by
 intro pins s σ H x y v u Q I rx ry h
 obtain ⟨i,j,rfl,rfl,hc,q⟩:=h
 obtain ⟨t,rfl⟩:=rx
 obtain ⟨t',rfl⟩:=ry
 exact rule i j t t' s _ _ hc ⟨.int (g i j),H,I.tok _,⟨_,rfl⟩,q⟩
theorem opI0 {f:Value→Value→Sem Value} {g:Int→Int→Int}
  (rule:∀ (i j:Int) (t u:Tok) (s:Shared) (Q:Value→Shared→Prop) (E:Value→Shared→Prop),Q (.int (g i j) s.toks) { s with toks:=s.toks+1 }→wpAny (model X.prog X.w) X.A (f (.int i t) (.int j u)) Q E s) :
  OpR X f (rI0 fun i j=>.int (g i j)):=by
 intro pins s σ H x y v u Q I rx ry h
 obtain ⟨i,j,rfl,rfl,q⟩:=h
 obtain ⟨t,rfl⟩:=rx
 obtain ⟨t',rfl⟩:=ry
 exact rule i j t t' s _ _ ⟨.int (g i j),H,I.tok _,⟨_,rfl⟩,q⟩
theorem opB0 {f:Value→Value→Sem Value} {g:Int→Int→Bool}
  (rule:∀ (i j:Int) (t u:Tok) (s:Shared) (Q:Value→Shared→Prop) (E:Value→Shared→Prop),Q (.bool (g i j)) s→wpAny (model X.prog X.w) X.A (f (.int i t) (.int j u)) Q E s) :
  OpR X f (rI0 fun i j=>.bl (g i j)):=by
 intro pins s σ H x y v u Q I rx ry h
 obtain ⟨i,j,rfl,rfl,q⟩:=h
 obtain ⟨t,rfl⟩:=rx
 obtain ⟨t',rfl⟩:=ry
 exact rule i j t t' s _ _ ⟨.bl (g i j),H,I,rfl,q⟩
def CDiv (i j:Int):Prop:=0<j∧j<1073741824
def CMul (i j:Int):Prop:=(-(2 ^ 64)<i∧i<2 ^ 64)∨(-(2 ^ 64)<j∧j<2 ^ 64)
theorem CMul.ok {i j:Int} (h:CMul i j):IntMulOk i j:=by
 rcases h with ⟨h1,h2⟩ | ⟨h1,h2⟩
 ·exact .of_left (intBits_le_64 h1 h2)
 ·exact .of_right (intBits_le_64 h1 h2)
theorem op_add:OpR X (binaryOp .Add) (rI0 fun i j=>.int (i+j)):=opI0 fun _ _ _ _ _ _ _ q=>add_int q
theorem op_sub:OpR X (binaryOp .Sub) (rI0 fun i j=>.int (i - j)):=opI0 fun _ _ _ _ _ _ _ q=>sub_int q
theorem op_mul:OpR X (binaryOp .Mult) (rI CMul fun i j=>.int (i * j)):=opI fun _ _ _ _ _ _ _ hc q=>mul_int q hc.ok
theorem op_fdiv:OpR X (binaryOp .FloorDiv) (rI CDiv fun i j=>.int (i / j)):=opI fun i j _ _ _ _ _ hc q=>by
 have h1:(0:Int)<j:=hc.1
 have h2:j<1073741824:=hc.2
 exact floordiv_int (by omega) (by rw [Int.fdiv_eq_ediv_of_nonneg i (by omega)]; exact q) (.inl (PyProof.noPylong_small (by omega)))
theorem op_mod:OpR X (binaryOp .Mod) (rI (fun _ j=>0<j) fun i j=>.int (i % j)):=opI fun i j _ _ _ _ _ hc q=>by
 have h1:(0:Int)<j:=hc
 exact mod_int' (by omega) (by rw [Int.fmod_eq_emod_of_nonneg i (by omega)]; exact q)
theorem unI {f:Value→Sem Value} {g:Int→Int}
  (rule:∀ (i:Int) (t:Tok) (s:Shared) (Q:Value→Shared→Prop) (E:Value→Shared→Prop),Q (.int (g i) s.toks) { s with toks:=s.toks+1 }→wpAny (model X.prog X.w) X.A (f (.int i t)) Q E s) :
  UnR X f (rU fun i=>.int (g i)):=by
 intro pins s σ H x v Q I rx h
 obtain ⟨i,rfl,q⟩:=h
 obtain ⟨t,rfl⟩:=rx
 exact rule i t s _ _ ⟨.int (g i),H,I.tok _,⟨_,rfl⟩,q⟩
theorem un_neg:UnR X (unaryOp .USub) (rU fun i=>.int (-i)):=unI fun _ _ _ _ _ q=>neg_int q
end
def scal:V→V→Bool
 | .non,.non=>true | .non,.int _=>true | .int _,.non=>true | .non,.bl _=>true | .bl _,.non=>true | .non,.str _=>true | .str _,.non=>true
 | .int _,.int _=>true | .bl _,.bl _=>true | .str _,.str _=>true | .byt _,.byt _=>true
 | .int _,.str _=>true | .str _,.int _=>true | .bl _,.str _=>true | .str _,.bl _=>true
 | _,_=>false
def rEq:R2:=fun x y H Q=>scal x y=true∧Q (.bl (decide (x=y))) H
def rNe:R2:=fun x y H Q=>scal x y=true∧Q (.bl (!decide (x=y))) H
theorem dec_int {i j:Int}:decide (V.int i=V.int j)=(i == j):=by
 rw [Bool.eq_iff_iff]
 simp
theorem dec_bl {i j:Bool}:decide (V.bl i=V.bl j)=(i == j):=by
 rw [Bool.eq_iff_iff]
 simp
theorem dec_str {i j:Str}:decide (V.str i=V.str j)=(i == j):=by
 rw [Bool.eq_iff_iff]
 simp
theorem dec_byt {i j:Array UInt8}:decide (V.byt i=V.byt j)=(i.toList == j.toList):=by
 rw [Bool.eq_iff_iff]
 cases i
 cases j
 simp
section
variable {X:Cx} {a b c:Expr} {ta tb tc:TE} {pos:Pos}
theorem fin_bl {pins:List (Addr×Obj)} {σ:St} {H:Hp} {s:Shared} {Q:VK} {k k':Bool} (I:Inv X pins σ H s) (q:Q (.bl k) H) (e:k=k'):EP X pins σ Q (.bool k') s:=by
 subst e
 exact ⟨.bl k,H,I,rfl,q⟩
theorem op_eq:OpR X (compareOp .Eq) rEq:=by
 intro pins s σ H x y v u Q I rx ry h
 obtain ⟨hs,q⟩:=h
 cases x with
 | non =>
  cases rx
  cases y with
  | non=>cases ry; exact PySem.EqNone.eq_none_none (fin_bl I q (by simp))
  | bl j=>cases ry; exact PySem.EqNone.eq_none_bool (fin_bl I q (by simp))
  | int j=>obtain ⟨t',rfl⟩:=ry; exact PySem.EqNone.eq_none_int (fin_bl I q (by simp))
  | str j=>obtain ⟨t',rfl⟩:=ry; exact PySem.EqNone.eq_none_str (fin_bl I q (by simp))
  | _=>exact absurd (show false=true from hs) Bool.false_ne_true
 | bl i =>
  cases rx
  cases y with
  | non=>cases ry; exact PySem.EqNone.eq_bool_none (fin_bl I q (by simp))
  | bl j=>cases ry; exact eq_bool (fin_bl I q dec_bl)
  | str j=>obtain ⟨t',rfl⟩:=ry; exact PySem.EqMixed.eq_bool_str (fin_bl I q (by simp))
  | _=>exact absurd (show false=true from hs) Bool.false_ne_true
 | int i =>
  obtain ⟨t,rfl⟩:=rx
  cases y with
  | non=>cases ry; exact PySem.EqNone.eq_int_none (fin_bl I q (by simp))
  | int j=>obtain ⟨t',rfl⟩:=ry; exact eq_int (fin_bl I q dec_int)
  | str j=>obtain ⟨t',rfl⟩:=ry; exact PySem.EqMixed.eq_int_str (fin_bl I q (by simp))
  | _=>exact absurd (show false=true from hs) Bool.false_ne_true
 | str i =>
  obtain ⟨t,rfl⟩:=rx
  cases y with
  | non=>cases ry; exact PySem.EqNone.eq_str_none (fin_bl I q (by simp))
  | bl j=>cases ry; exact PySem.EqMixed.eq_str_bool (fin_bl I q (by simp))
  | int j=>obtain ⟨t',rfl⟩:=ry; exact PySem.EqMixed.eq_str_int (fin_bl I q (by simp))
  | str j=>obtain ⟨t',rfl⟩:=ry; exact eq_str (fin_bl I q dec_str)
  | _=>exact absurd (show false=true from hs) Bool.false_ne_true
 | byt i =>
  obtain ⟨t,rfl⟩:=rx
  cases y with
  | byt j=>obtain ⟨t',rfl⟩:=ry; exact PySem.W.eq_bytes (fin_bl I q dec_byt)
  | _=>exact absurd (show false=true from hs) Bool.false_ne_true
 | _=>cases y <;> exact absurd (show false=true from hs) Bool.false_ne_true
theorem op_ne:OpR X (compareOp .NotEq) rNe:=by
 intro pins s σ H x y v u Q I rx ry h
 obtain ⟨hs,q⟩:=h
 cases x with
 | non =>
  cases rx
  cases y with
  | non=>cases ry; exact PySem.EqNone.ne_none_none (fin_bl I q (by simp))
  | bl j=>cases ry; exact PySem.EqNone.ne_none_bool (fin_bl I q (by simp))
  | int j=>obtain ⟨t',rfl⟩:=ry; exact PySem.EqNone.ne_none_int (fin_bl I q (by simp))
  | str j=>obtain ⟨t',rfl⟩:=ry; exact PySem.EqNone.ne_none_str (fin_bl I q (by simp))
  | _=>exact absurd (show false=true from hs) Bool.false_ne_true
 | bl i =>
  cases rx
  cases y with
  | non=>cases ry; exact PySem.EqNone.ne_bool_none (fin_bl I q (by simp))
  | bl j=>cases ry; exact ne_bool (fin_bl I q (congrArg not dec_bl))
  | str j=>obtain ⟨t',rfl⟩:=ry; exact PySem.EqMixed.ne_bool_str (fin_bl I q (by simp))
  | _=>exact absurd (show false=true from hs) Bool.false_ne_true
 | int i =>
  obtain ⟨t,rfl⟩:=rx
  cases y with
  | non=>cases ry; exact PySem.EqNone.ne_int_none (fin_bl I q (by simp))
  | int j=>obtain ⟨t',rfl⟩:=ry; exact ne_int (fin_bl I q (congrArg not dec_int))
  | str j=>obtain ⟨t',rfl⟩:=ry; exact PySem.EqMixed.ne_int_str (fin_bl I q (by simp))
  | _=>exact absurd (show false=true from hs) Bool.false_ne_true
 | str i =>
  obtain ⟨t,rfl⟩:=rx
  cases y with
  | non=>cases ry; exact PySem.EqNone.ne_str_none (fin_bl I q (by simp))
  | bl j=>cases ry; exact PySem.EqMixed.ne_str_bool (fin_bl I q (by simp))
  | int j=>obtain ⟨t',rfl⟩:=ry; exact PySem.EqMixed.ne_str_int (fin_bl I q (by simp))
  | str j=>obtain ⟨t',rfl⟩:=ry; exact ne_str (fin_bl I q (congrArg not dec_str))
  | _=>exact absurd (show false=true from hs) Bool.false_ne_true
 | byt i =>
  obtain ⟨t,rfl⟩:=rx
  cases y with
  | byt j=>obtain ⟨t',rfl⟩:=ry; exact PySem.W.ne_bytes (fin_bl I q (congrArg not dec_byt))
  | _=>exact absurd (show false=true from hs) Bool.false_ne_true
 | _=>cases y <;> exact absurd (show false=true from hs) Bool.false_ne_true
theorem op_lt:OpR X (compareOp .Lt) (rI0 fun i j=>.bl (decide (i<j))):=opB0 fun _ _ _ _ _ _ _ q=>lt_int q
theorem op_le:OpR X (compareOp .LtE) (rI0 fun i j=>.bl (decide (i≤j))):=opB0 fun _ _ _ _ _ _ _ q=>le_int q
theorem op_gt:OpR X (compareOp .Gt) (rI0 fun i j=>.bl (decide (j<i))):=opB0 fun _ _ _ _ _ _ _ q=>gt_int q
theorem op_notN:OpR X (compareOp .IsNot) (fun x y H Q=>y=.non∧Q (.bl (!decide (x=.non))) H):=by
 intro pins s σ H x y v u Q I rx ry h
 obtain ⟨rfl,q⟩:=h
 cases ry
 refine isnot_none_gen (fin_bl I q ?_)
 cases x <;> first
  | (cases rx; rfl)
  | (obtain ⟨t,rfl⟩:=rx; rfl)
theorem OpR.or {f:Value→Value→Sem Value} {r r':R2} (h:OpR X f r) (h':OpR X f r'):OpR X f (fun x y H Q=>r x y H Q∨r' x y H Q):=by
 intro pins s σ H x y v u Q I rx ry q
 rcases q with q | q
 ·exact h pins s σ H x y v u Q I rx ry q
 ·exact h' pins s σ H x y v u Q I rx ry q
theorem nomark (b:Expr) {op:CmpOp} (h:op≠.In:=by decide) (h2:op≠.NotIn:=by decide):behindInMarks op b=false:=by
 have e1:(op == CmpOp.In)=false:=by cases op <;> first | rfl | exact absurd rfl h
 have e2:(op == CmpOp.NotIn)=false:=by cases op <;> first | rfl | exact absurd rfl h2
 cases b <;> simp [behindInMarks,e1,e2]
theorem pe_cmpR {op:CmpOp} {r:R2} (ho:OpR X (compareOp op) r) (ha:PE X a ta) (hb:PE X b tb) (hm:behindInMarks op b=false):PE X (.Compare a [op] [b] pos) (tOp r ta tb):=by
 intro pins s σ H Q I h
 exact wpAny_Compare1 (binT ha hb I h fun v u s2 x y H2 I2 rx ry q=>ho pins s2 σ H2 x y v u Q I2 rx ry q) hm
def tTest (t:TE):TT:=fun σ H Q=>t σ H fun x H'=>∃ k,x=.bl k∧Q k H'
theorem pt_cmpR {op:CmpOp} {r:R2} (ho:OpR X (compareOp op) r) (ha:PE X a ta) (hb:PE X b tb) (hm:behindInMarks op b=false):PT X (.Compare a [op] [b] pos) (tTest (tOp r ta tb)):=by
 intro pins s σ H Q I h
 refine wpAny_isTrue_Compare1 (thn (ha pins s σ H _ I h) fun v s1 ⟨x,H1,I1,r1,q1⟩=>thn (hb pins s1 σ H1 _ I1 q1) fun u s2 ⟨y,H2,I2,r2,q2⟩ =>
  thn (ho pins s2 σ H2 x y v u _ I2 r1 r2 q2) fun c s3 ⟨z,H3,I3,r3,k,e,q3⟩=>?_) hm
 subst e
 cases r3
 exact wpAny_truthy_bool ⟨H3,I3,q3⟩
theorem line63:(sizeLine:Nat)<2 ^ 63:=by rw [sizeLine_eq]; decide
theorem vals1 {x:V} {us:List Value} (r:Vals [x] us):∃ u,us=[u]∧RelV x u:=by
 cases r with
 | cons r1 r2=>cases r2; exact ⟨_,rfl,r1⟩
theorem vals2 {x y:V} {us:List Value} (r:Vals [x,y] us):∃ u w',us=[u,w']∧RelV x u∧RelV y w':=by
 cases r with
 | cons r1 r2 =>
  cases r2 with
  | cons r3 r4=>cases r4; exact ⟨_,_,rfl,r1,r3⟩
theorem call_max2 (hc:X.calm=true):CallR X (.builtin "max") (fun xs H Q=>∃ i j,xs=[.int i,.int j]∧Q (.int (if j>i then j else i)) H):=by
 intro pins s σ H xs us Q I r h
 obtain ⟨i,j,rfl,q⟩:=h
 obtain ⟨u,w',rfl,⟨t,rfl⟩,⟨t',rfl⟩⟩:=vals2 r
 refine max_two_ints (I.ok.hd hc) fun h' tk k=>⟨_,H,I.kept k,?_,q⟩
 by_cases hj:j>i
 ·rw [if_pos hj,if_pos hj]; exact ⟨_,rfl⟩
 ·rw [if_neg hj,if_neg hj]; exact ⟨_,rfl⟩
theorem call_min2 (hc:X.calm=true):CallR X (.builtin "min") (fun xs H Q=>∃ i j,xs=[.int i,.int j]∧Q (.int (if j<i then j else i)) H):=by
 intro pins s σ H xs us Q I r h
 obtain ⟨i,j,rfl,q⟩:=h
 obtain ⟨u,w',rfl,⟨t,rfl⟩,⟨t',rfl⟩⟩:=vals2 r
 refine min_two_ints (I.ok.hd hc) fun h' tk k=>⟨_,H,I.kept k,?_,q⟩
 by_cases hj:j<i
 ·rw [if_pos hj,if_pos hj]; exact ⟨_,rfl⟩
 ·rw [if_neg hj,if_neg hj]; exact ⟨_,rfl⟩
end
end L2
namespace L2
open PySem PySem.Spec PyProof.Rows
structure ObjM (h:Heap) (x dx C:Addr) (mA:Str→Option Value):Prop where
 obj:h.get? x=some (PySem.W.instObj C dx)
 ns:h.Ns1 dx mA
 ne:dx≠x
theorem lookIn_ns {h:Heap} {dx:Addr} {mA:Str→Option Value} (n:h.Ns1 dx mA):∃ od,h.get? dx=some od∧∀ name,PySem.W.lookIn name od=some (mA name):=by
 obtain ⟨o,es,ep,ho,hd,hk,_,hm⟩:=n
 refine ⟨o,ho,fun name=>?_⟩
 have e:=hm name
 unfold nsFind findBy at e
 rw [← Array.find?_toList] at e
 unfold PySem.W.lookIn
 rw [hd]
 dsimp only
 split
 ·rename_i y q
  rw [q] at e
  exact congrArg some e
 ·rename_i q
  rw [q] at e
  have a:es.toList.any (·.refKey)=false:=by
   rw [List.any_eq_false]
   intro y hy
   obtain ⟨z,t,hkey⟩:=hk y (Array.mem_toList_iff.mp hy)
   simp [DictEntry.refKey,hkey]
  have a':¬ es.toList.any (·.refKey)=true:=by rw [a]; exact Bool.false_ne_true
  rw [if_neg a']
  exact congrArg some e
theorem ObjM.look {h:Heap} {x dx C:Addr} {mA:Str→Option Value} (I:ObjM h x dx C mA):∃ od,PySem.W.InstAt h x (PySem.W.instObj C dx) C (some od)∧∀ name,PySem.W.lookIn name od=some (mA name) :=
 let ⟨od,ho,hl⟩:=lookIn_ns I.ns
 ⟨od,⟨I.obj,rfl,rfl,ho⟩,hl⟩
section
variable {prog:Program} {w:World} {A:Around} {E:Value→Shared→Prop} {s:Shared} {K:PySem.W.Frag} {x dx C f:Addr} {mA:Str→Option Value} {name:Str} {v:Value}
theorem get_map {expr:Bool} {Q:Value→Shared→Prop} (X:K.In s.heap) (I:ObjM s.heap x dx C mA) (hg:PySem.W.plainGet K C name=true) (hh:PySem.W.hasDictIn K C=true)
  (ha:PySem.W.findIn K (.ref C) name=some none) (hv:mA name=some v) (hv':PySem.W.handedIn v=true) (h:Q v { s with toks:=s.toks+1 }) :
  wpAny (model prog w) A (getAttr (.ref x) name expr) Q E s:=by
 obtain ⟨od,J,hl⟩:=I.look
 exact PySem.W.get_value X J (PySem.W.plainGet_of hg).1 (PySem.W.findObj_own hh ha rfl (by rw [hl,hv])) hv' h
theorem get_meth {pl:Sem Bool} {Q:Value×List Value→Shared→Prop} (X:K.In s.heap) (I:ObjM s.heap x dx C mA) (hg:PySem.W.plainGet K C name=true)
  (hf:PySem.W.findIn K (.ref C) name=some (some (.ref f))) (ht:PySem.W.isFn K (.ref f)=true) (hv:mA name=none) (h:Q (.ref f,[.ref x]) s) :
  wpAny (model prog w) A (getMethod (.ref x) name pl) Q E s:=by
 obtain ⟨od,J,hl⟩:=I.look
 exact PySem.W.method_fn X J (PySem.W.plainGet_of hg).1 (PySem.W.plainGet_of hg).2 hf (beq_iff_eq.mp ht) (by show (PySem.W.lookIn name od).map (·.isSome)=some false; rw [hl,hv]; rfl) h
theorem set_map {ns:List Str} {Q:Unit→Shared→Prop} (X:K.In s.heap) (I:ObjM s.heap x dx C mA)
  (hs:PySem.W.findIn K (.ref C) "__setattr__"=some (some (.builtin "object.__setattr__"))) (hp:PySem.W.plainOver K C=true) (ht:PySem.W.takerIn K C name=some none) (hh:PySem.W.hasDictIn K C=true)
  (hw:PySem.Within mA ns) (hsz:ns.length≤sizeLine)
  (h:∀ h',ObjM h' x dx C (fun y=>if y=name then some v else mA y)→Heap.SameBut dx s.heap h'→Q () { s with heap:=h',toks:=s.toks+2 }) :
  wpAny (model prog w) A (setAttr (.ref x) name v) Q E s:=by
 obtain ⟨od,J,hl⟩:=I.look
 refine PySem.W.set_plain X J hs (PySem.W.osa_open (s:={ s with toks:=s.toks+1 }) (r:=none) X J hp ht fun b=>?_)
 obtain ⟨cd,hc,hd'⟩:=PySem.W.any_some hh
 have hx:s.heap.get? x=some ⟨.ref C,some dx,.plain,#[]⟩:=I.obj
 refine wpAny_bind (wpAny_pure (wpAny_bind (wpAny_bind (wpAny_loadPart hx (wpAny_bind (PySem.W.Looks.here (s:={ s with toks:=s.toks+1 }) (PySem.W.looks_clsIn X hc) ?_))))))
 rw [hd']
 refine wpAny_pure (a:=some dx) (wpAny_bind (wpAny_pure (wpAny_bind ?_)))
 refine wpAny_nsSet1 (s:={ s with toks:=s.toks+1 }) I.ns fun h' hn2 hs2=>?_
 obtain ⟨oD,esD,epD,hoD,hdD,hcD⟩:=hn2.count (PySem.Within.cons name v hw)
 refine wpAny_bind (wpAny_lookBehind hoD (by rw [hdD]; exact pastItsLine_dict (Nat.le_trans hcD (by rw [List.length_cons]; omega))) ?_)
 exact wpAny_pure (h _ ⟨(hs2.2 _ (Ne.symm I.ne)).trans I.obj,hn2,I.ne⟩ hs2)
theorem make_map {R:Result→Shared→Prop} {vs:List Value} {kw:List (Str×Value)} (X:K.In s.heap) (hm:PySem.W.makesIn K C=true)
  (hi:PySem.W.findIn K (.ref C) "__init__"=some (some (.ref f))) (hf:PySem.W.typeIn K (.ref f)=some (.type "function"))
  (h:codeAny (model prog w) (A.under (.builtin "type.__call__" ⟨.ref C::vs,kw⟩)) (.call (.ref f) ⟨.ref (s.heap.objs.size+1)::vs,kw⟩) (PySem.W.InitBack (s.heap.objs.size+1) R)
   { s with heap:=(s.heap.push PySem.W.emptyDict).push (PySem.W.instObj C s.heap.objs.size) }) :
  codeAny (model prog w) A (.call (.ref C) ⟨vs,kw⟩) R s:=by
 obtain ⟨hh,g,d,t,os⟩:=s
 exact PySem.W.make_core (PySem.W.makes_of X hm) (PySem.W.looks_findIn X hi) (fun self=>PySem.W.bind_fn X self hf) (.inl rfl) h
end
def putF (f:Str) (v:V):List (Str×V)→List (Str×V)
 | []=>[(f,v)]
 | (g,x)::r=>if g=f then (g,v)::r else (g,x)::putF f v r
theorem lookup_putF (f g:Str) (v:V):∀ fs:List (Str×V),(putF f v fs).lookup g=if g=f then some v else fs.lookup g
 | []=>by
  show List.lookup g [(f,v)]=_
  by_cases h:g=f
  ·have hb:(g == f)=true:=beq_iff_eq.mpr h
   simp only [List.lookup,hb,if_pos h]
  ·have hb:(g == f)=false:=beq_eq_false_iff_ne.mpr h
   simp only [List.lookup,hb,if_neg h]
 | (k,x)::r=>by
  have ih:=lookup_putF f g v r
  rw [show putF f v ((k,x)::r)=(if k=f then (k,v)::r else (k,x)::putF f v r) from rfl]
  by_cases hk:k=f
  ·rw [if_pos hk]
   by_cases h:g=k
   ·have hb:(g == k)=true:=beq_iff_eq.mpr h
    simp only [List.lookup,hb,if_pos (h.trans hk)]
   ·have hb:(g == k)=false:=beq_eq_false_iff_ne.mpr h
    simp only [List.lookup,hb,if_neg (fun e:g=f=>h (e.trans hk.symm))]
  ·rw [if_neg hk]
   by_cases h:g=k
   ·have hb:(g == k)=true:=beq_iff_eq.mpr h
    simp only [List.lookup,hb,if_neg (fun e:g=f=>hk (h.symm.trans e))]
   ·have hb:(g == k)=false:=beq_eq_false_iff_ne.mpr h
    simp only [List.lookup,hb]
    exact ih
theorem keys_putF (f:Str) (v:V):∀ fs:List (Str×V),f∈(putF f v fs).map (·.1)∧∀ g,g∈fs.map (·.1)→g∈(putF f v fs).map (·.1)
 | []=>⟨by simp [putF],fun g h=>by simp at h⟩
 | (k,x)::r=>by
  obtain ⟨i1,i2⟩:=keys_putF f v r
  rw [show putF f v ((k,x)::r)=(if k=f then (k,v)::r else (k,x)::putF f v r) from rfl]
  by_cases hk:k=f
  ·rw [if_pos hk]
   subst hk
   exact ⟨by simp,fun g h=>by simpa using h⟩
  ·rw [if_neg hk]
   refine ⟨?_,fun g h=>?_⟩
   ·rw [List.map_cons]
    exact List.mem_cons_of_mem _ i1
   ·rw [List.map_cons] at h ⊢
    rcases List.mem_cons.mp h with e | e
    ·exact List.mem_cons.mpr (.inl e)
    ·exact List.mem_cons_of_mem _ (i2 g e)
theorem length_putF (f:Str) (v:V):∀ fs:List (Str×V),(putF f v fs).length≤fs.length+1
 | []=>by simp [putF]
 | (k,x)::r=>by
  have ih:=length_putF f v r
  rw [show putF f v ((k,x)::r)=(if k=f then (k,v)::r else (k,x)::putF f v r) from rfl]
  by_cases hk:k=f
  ·rw [if_pos hk,List.length_cons,List.length_cons]; omega
  ·rw [if_neg hk,List.length_cons,List.length_cons]; omega
theorem RelO.some_of {v:V} {o:Option Value} (r:RelO (some v) o):∃ u,o=some u∧RelV v u:=by
 cases o with
 | none=>exact (show False from r).elim
 | some u=>exact ⟨u,rfl,r⟩
theorem RelO.none_of {o:Option Value} (r:RelO none o):o=none:=by
 cases o with
 | none=>rfl
 | some u=>exact (show False from r).elim
theorem handed_of {v:V} {u:Value} (r:RelV v u):PySem.W.handedIn u=true:=by
 cases v with
 | non=>cases (show u=Value.none from r); rfl
 | bl b=>cases (show u=Value.bool b from r); rfl
 | int i=>obtain ⟨t,e⟩:=(show ∃ t,u=Value.int i t from r); cases e; rfl
 | str x=>obtain ⟨t,e⟩:=(show ∃ t,u=Value.str x t from r); cases e; rfl
 | byt b=>obtain ⟨t,e⟩:=(show ∃ t,u=Value.bytes b t from r); cases e; rfl
 | flt b=>obtain ⟨t,e⟩:=(show ∃ t,u=Value.float b t from r); cases e; rfl
 | ref a=>cases (show u=Value.ref a from r); rfl
 | ty n=>cases (show u=Value.type n from r); rfl
section
variable {P:Program} {w:World} {H H':Hp} {h h':Heap} {a C dx:Addr} {fs fs':List (Str×V)}
theorem ins_get (hok:HOk P w H h) (e:H a=some (.ins C dx fs)):∃ mA,ObjM h a dx C mA∧(∀ f,RelO (fs.lookup f) (mA f))∧PySem.Within mA (fs.map (·.1))∧fs.length≤1000∧H dx=some (.own a):=by
 obtain ⟨d,z,ne,ob,mA,n,r,q⟩:=(show ObjOk P w H h a (.ins C dx fs) from hok a _ e)
 exact ⟨mA,⟨ob,n,ne⟩,r,q,z,d⟩
end
structure Cls (K:PySem.W.Frag) (C:Addr):Prop where
 pg:PySem.W.plainGet K C Str.empty=true
 hd:PySem.W.hasDictIn K C=true
 po:PySem.W.plainOver K C=true
 sa:PySem.W.findIn K (.ref C) "__setattr__"=some (some (.builtin "object.__setattr__"))
theorem Cls.get {K:PySem.W.Frag} {C:Addr} (c:Cls K C) (f:Str):PySem.W.plainGet K C f=true:=c.pg
def NoAttr (K:PySem.W.Frag) (C:Addr) (f:Str):Prop:=PySem.W.findIn K (.ref C) f=some none
theorem NoAttr.taker {K:PySem.W.Frag} {C:Addr} {f:Str} (n:NoAttr K C f):PySem.W.takerIn K C f=some none:=by
 unfold PySem.W.takerIn
 rw [show PySem.W.findIn K (.ref C) f=some none from n]
 rfl
structure Con (K:PySem.W.Frag) (C:Addr) (f:Str) (v:V) (u:Value):Prop where
 at_:PySem.W.findIn K (.ref C) f=some (some u)
 rel:RelV v u
 get:PySem.W.specialIn K u "__get__"=some none
 cp:PySem.W.copiedNames.contains f=false
structure Meth (K:PySem.W.Frag) (C:Addr) (m:Str) (f:Addr):Prop where
 at_:PySem.W.findIn K (.ref C) m=some (some (.ref f))
 fn:PySem.W.isFn K (.ref f)=true
 kp:PySem.W.keepIn K (.ref f)=true
section
variable {X:Cx} {pins:List (Addr×Obj)} {σ:St} {H:Hp} {s:Shared} {a C dx:Addr} {fs:List (Str×V)} {f:Str} {v:V} {A:Around} {E:Value→Shared→Prop}
theorem getattr_ok {b:Bool} {Q:Value→Shared→Prop} (I:Inv X pins σ H s) (e:H a=some (.ins C dx fs)) (c:Cls X.K C) (n:NoAttr X.K C f) (l:fs.lookup f=some v)
  (h:∀ u s',Inv X pins σ H s'→RelV v u→Q u s'):wpAny (model X.prog X.w) A (getAttr (.ref a) f b) Q E s:=by
 obtain ⟨mA,O,r,_,_,_⟩:=ins_get I.hok e
 obtain ⟨u,hu,ru⟩:=RelO.some_of (v:=v) (o:=mA f) (by rw [← l]; exact r f)
 exact get_map I.kIn O (c.get f) c.hd n hu (handed_of ru) (h u _ (I.tok _) ru)
theorem getmeth_ok {m:Str} {g:Addr} {pl:Sem Bool} {Q:Value×List Value→Shared→Prop} (I:Inv X pins σ H s) (e:H a=some (.ins C dx fs)) (c:Cls X.K C) (k:Meth X.K C m g) (l:fs.lookup m=none)
  (h:Q (.ref g,[.ref a]) s):wpAny (model X.prog X.w) A (getMethod (.ref a) m pl) Q E s:=by
 obtain ⟨mA,O,r,_,_,_⟩:=ins_get I.hok e
 have hn:mA m=none:=RelO.none_of (by rw [← l]; exact r m)
 exact get_meth I.kIn O (c.get m) k.at_ k.fn hn h
theorem setattr_ok {y:V} {u:Value} {Q:Unit→Shared→Prop} (I:Inv X pins σ H s) (e:H a=some (.ins C dx fs)) (c:Cls X.K C) (n:NoAttr X.K C f) (hl:fs.length<1000) (ry:RelV y u)
  (h:∀ s',Inv X pins σ (upd H a (.ins C dx (putF f y fs))) s'→Q () s'):wpAny (model X.prog X.w) A (setAttr (.ref a) f u) Q E s:=by
 obtain ⟨mA,O,r,wi,_,ho⟩:=ins_get I.hok e
 have hz:(fs.map (·.1)).length≤sizeLine:=by rw [List.length_map,sizeLine_eq]; omega
 refine set_map I.kIn O c.sa c.po n.taker c.hd wi hz fun h' O' sb=>h _ ?_
 have hd:∃ o,h'.get? dx=some o:=let ⟨o,_,_,e',_⟩:=O'.ns; ⟨o,e'⟩
 refine I.write (x:=a) (e:=dx) (by rw [e]; exact True.intro) (.inr ho) (fun b q hb z=>(sb.2 b hb).trans z) hd ?_
 refine ⟨by rw [upd_ne O.ne]; exact ho,?_,O.ne,O'.obj,_,O'.ns,fun g=>?_,fun g hg=>?_⟩
 ·have:=length_putF f y fs; omega
 ·show RelO ((putF f y fs).lookup g) (if g=f then some u else mA g)
  rw [lookup_putF]
  by_cases q:g=f
  ·rw [if_pos q,if_pos q]; exact ry
  ·rw [if_neg q,if_neg q]; exact r g
 ·by_cases q:g=f
  ·rw [q]; exact (keys_putF f y fs).1
  ·refine (keys_putF f y fs).2 g (wi g fun z=>hg ?_)
   show (if g=f then some u else mA g)=none
   rw [if_neg q]; exact z
theorem Inv.made (I:Inv X pins σ H s):Inv X pins σ (upd (upd H s.heap.objs.size (.own (s.heap.objs.size+1))) (s.heap.objs.size+1) (.ins C s.heap.objs.size []))
  { s with heap:=(s.heap.push PySem.W.emptyDict).push (PySem.W.instObj C s.heap.objs.size) }:=by
 have e1:(s.heap.push PySem.W.emptyDict).get? s.heap.objs.size=some PySem.W.emptyDict:=Heap.get?_push_size s.heap rfl
 have e2:((s.heap.push PySem.W.emptyDict).push (PySem.W.instObj C s.heap.objs.size)).get? (s.heap.objs.size+1)=some (PySem.W.instObj C s.heap.objs.size):=by
  have:=Heap.get?_push_size (s.heap.push PySem.W.emptyDict) (o:=PySem.W.instObj C s.heap.objs.size) rfl
  rwa [Heap.size_push] at this
 have e3:(s.heap.push PySem.W.emptyDict).Ns s.heap.objs.size (fun _=>none):=⟨PySem.W.emptyDict,#[],_,e1,rfl,(fun e he=>absurd he (by simp)),fun _=>rfl⟩
 have I1:=I.laid (a:=s.heap.objs.size) (o:=.own (s.heap.objs.size+1)) (h':=s.heap.push PySem.W.emptyDict) (t':=s.toks) (fun b u q=>Heap.get?_push_of_some _ q) (Nat.le_refl _) ⟨_,e1⟩
 refine I1.laid (a:=s.heap.objs.size+1) (o:=.ins C s.heap.objs.size []) (t':=s.toks) (fun b u q=>Heap.get?_push_of_some _ q) (Nat.le_of_eq (Heap.size_push _ _)) ?_
 have ne:s.heap.objs.size≠s.heap.objs.size+1:=Nat.ne_of_lt (Nat.lt_succ_self _)
 refine ⟨by rw [upd_ne ne,upd_same],Nat.zero_le _,ne,e2,fun _=>none,(Heap.Ns1.of_empty e3).at fun o q=>Heap.get?_push_of_some _ q,fun _=>True.intro,fun y hy=>absurd rfl hy⟩
theorem attr_of {prog:Program} {w:World} {env:Env} {e:Expr} {f:Str} {pos:Pos} {s:Shared} {Q:Value→Shared→Prop} (hb:attributeBase e f env (eval e env)=eval e env)
  (h:wpAny (model prog w) A (eval e env) (fun o s₁=>wpAny (model prog w) A (getAttr o f true) Q E s₁) E s):wpAny (model prog w) A (eval (.Attribute e f pos) env) Q E s :=
 Attribute_any_ h (by rw [arm_eval_Attribute,hb])
end
def tFld (K:PySem.W.Frag) (ta:TE) (f:Str):TE:=fun σ H Q=>ta σ H fun x H1=>∃ a C dx fs v,x=.ref a∧H1 a=some (.ins C dx fs)∧Cls K C∧NoAttr K C f∧fs.lookup f=some v∧Q v H1
def sFld (K:PySem.W.Frag) (ta tv:TE) (f:Str):TS:=fun D σ H=>tv σ H fun y H1=>ta σ H1 fun x H2=>∃ a C dx fs,x=.ref a∧H2 a=some (.ins C dx fs)∧Cls K C∧NoAttr K C f∧fs.length<1000 ∧
 D.nx σ (upd H2 a (.ins C dx (putF f y fs)))
section
variable {X:Cx} {o e value:Expr} {f:Str} {pos pos' tpos:Pos} {ta tv:TE}
theorem pe_fld (he:PE X e ta) (hb:attributeBase e f X.env (eval e X.env)=eval e X.env):PE X (.Attribute e f pos) (tFld X.K ta f):=by
 intro pins s σ H Q I h
 refine attr_of hb (thn (he pins s σ H _ I h) fun u s1 ⟨x,H1,I1,rx,a,C,dx,fs,v,ex,ea,c,n,l,q⟩=>?_)
 subst ex
 obtain rfl:u=Value.ref a:=rx
 exact getattr_ok I1 ea c n l fun u' s2 I2 ru=>⟨v,H1,I2,ru,q⟩
theorem ps_fld (ha:PE X o ta) (hv:PE X value tv) (hs:swapsWith value (some (.Attribute o f pos')) pos.line X.env=pure false):PS X (.Assign [.Attribute o f pos'] value pos) (sFld X.K ta tv f):=by
 intro pins s σ H D I h
 refine plainObj_wpAny_Assign_Attribute (thn (hv pins s σ H _ I h) fun u s1 ⟨y,H1,I1,ry,q⟩=>thn (ha pins s1 σ H1 _ I1 q) fun ov s2 ⟨x,H2,I2,rx,a,C,dx,fs,ex,ea,c,n,l,q2⟩=>?_) hs
 subst ex
 obtain rfl:ov=Value.ref a:=rx
 exact setattr_ok I2 ea c n l ry fun s3 I3=>⟨σ,_,I3,q2⟩
end
section
variable {X:Cx} {pins:List (Addr×Obj)} {σ:St} {H:Hp} {s:Shared} {A:Around} {E:Value→Shared→Prop} {Q:Value→Shared→Prop} {c:Value} {b:Bool}
inductive TyOf (K:PySem.W.Frag) (H:Hp):V→Value→Prop where
 | non:TyOf K H .non (.type "NoneType")
 | bl (x:Bool):TyOf K H (.bl x) (.type "bool")
 | int (i:Int):TyOf K H (.int i) (.type "int")
 | str (x:Str):TyOf K H (.str x) (.type "str")
 | flt (x:UInt64):TyOf K H (.flt x) (.type "float")
 | lst {a:Addr} {xs:List V} (e:H a=some (.lst xs)):TyOf K H (.ref a) (.type "list")
 | frz {a:Addr} {o:Obj} {xs:List V} (e:H a=some (.frz o (.lst xs))):TyOf K H (.ref a) (.type "list")
 | tup {a:Addr} {xs:List V} (e:H a=some (.tup xs)):TyOf K H (.ref a) (.type "tuple")
 | dK {a:Addr} {kvs:List (Key×V)} (e:H a=some (.dK kvs)):TyOf K H (.ref a) (.type "dict")
 | dT {a:Addr} {kvs:List (List Key×V)} (e:H a=some (.dT kvs)):TyOf K H (.ref a) (.type "dict")
 | ins {a C dx:Addr} {fs:List (Str×V)} (e:H a=some (.ins C dx fs)) (cl:Cls K C) (ha:PySem.W.findIn K (.ref C) "__class__"=some (some (.builtin "object.__class__")))
   (hn:PySem.W.specialIn K (.builtin "object.__class__") "__get__"=some (some (.builtin "getset_descriptor.__get__"))) (htk:PySem.W.takesIn K (.builtin "object.__class__")=some true)
   (hm:PySem.W.mroIn K C (.type "object")=some true):TyOf K H (.ref a) (.ref C)
theorem isinst_ok {x:V} {u t:Value} (I:Inv X pins σ H s) (rx:RelV x u) (ty:TyOf X.K H x t) (e:PySem.W.kitOne X.K t c=some b) (h:∀ tk,Q (.bool b) { s with toks:=tk }) :
  wpAny (model X.prog X.w) A (call (.builtin "isinstance") [u,c]) Q E s:=by
 cases ty with
 | non=>cases (show u=Value.none from rx); exact PySem.W.kia_one PySem.W.kitx_none I.kIn True.intro e (fun z=>nomatch z) h
 | bl y=>cases (show u=Value.bool y from rx); exact PySem.W.kia_one PySem.W.kitx_bool I.kIn True.intro e (fun z=>nomatch z) h
 | int i=>obtain ⟨t,q⟩:=(show ∃ t,u=Value.int i t from rx); cases q; exact PySem.W.kia_one PySem.W.kitx_int I.kIn True.intro e (fun z=>nomatch z) h
 | str y=>obtain ⟨t,q⟩:=(show ∃ t,u=Value.str y t from rx); cases q; exact PySem.W.kia_one PySem.W.kitx_str I.kIn True.intro e (fun z=>nomatch z) h
 | flt y=>obtain ⟨t,q⟩:=(show ∃ t,u=Value.float y t from rx); cases q; exact PySem.W.kia_one PySem.W.kitx_float I.kIn True.intro e (fun z=>nomatch z) h
 | @lst a xs ea =>
  cases (show u=Value.ref a from rx)
  obtain ⟨_,_,n,_,h1⟩:=(show ObjOk X.prog X.w H s.heap a (.lst xs) from I.hok a _ ea)
  exact PySem.W.kia_one PySem.W.kitx_list I.kIn ⟨_,h1,rfl⟩ e (fun z=>nomatch z) h
 | @frz a ob xs ea =>
  cases (show u=Value.ref a from rx)
  obtain ⟨_,_,_,n,_,h1⟩:=(show ObjOk X.prog X.w H s.heap a (.frz ob (.lst xs)) from I.hok a _ ea)
  exact PySem.W.kia_one PySem.W.kitx_list I.kIn ⟨_,h1,rfl⟩ e (fun z=>nomatch z) h
 | @tup a xs ea =>
  cases (show u=Value.ref a from rx)
  obtain ⟨_,_,_,p⟩:=(show ObjOk X.prog X.w H s.heap a (.tup xs) from I.hok a _ ea)
  obtain ⟨o,h1,h2,_⟩:=p
  exact PySem.W.kia_one PySem.W.kitx_tuple I.kIn ⟨o,h1,h2⟩ e (fun z=>nomatch z) h
 | @dK a kvs ea =>
  cases (show u=Value.ref a from rx)
  obtain ⟨_,_,vs,_,p⟩:=(show ObjOk X.prog X.w H s.heap a (.dK kvs) from I.hok a _ ea)
  obtain ⟨o,es,ep,h1,h2,_⟩:=p
  exact PySem.W.kia_one PySem.W.kitx_dict I.kIn ⟨o,h1,h2.1⟩ e (fun z=>nomatch z) h
 | @dT a kvs ea =>
  cases (show u=Value.ref a from rx)
  obtain ⟨_,_,xs,_,o,es,ep,h1,h2,_⟩:=(show ObjOk X.prog X.w H s.heap a (.dT kvs) from I.hok a _ ea)
  exact PySem.W.kia_one PySem.W.kitx_dict I.kIn ⟨o,h1,h2.1⟩ e (fun z=>nomatch z) h
 | @ins a C dx fs ea cl ha hn htk hm =>
  cases (show u=Value.ref a from rx)
  obtain ⟨mA,O,_⟩:=ins_get I.hok ea
  obtain ⟨od,J,_⟩:=O.look
  exact PySem.W.kia_one (PySem.W.kitx_own (cl.get _) cl.hd ha hn htk hm) I.kIn J e (fun z=>nomatch z) h
end
end L2
namespace L2
open PySem PySem.Spec PyProof.Rows
structure Room (k:Nat) (A:Around):Prop where
 hd:A.handled=none
 dp:A.depth+3 * k+5<recursionLimit
 un:A.units+16 * k+200<cLine
theorem Room.mono {j k:Nat} {A:Around} (r:Room k A) (h:j≤k):Room j A:=⟨r.hd,by have:=r.dp; omega,by have:=r.un; omega⟩
theorem Room.deeper {k:Nat} {A:Around} (r:Room (k+1) A) (env:Env):Room k (A.deeper env) :=
 ⟨r.hd,by have:=r.dp; show A.depth+1+3 * k+5<_; omega,by have:=r.un; show A.units+3+16 * k+200<_; omega⟩
theorem Room.in1 {k:Nat} {A:Around} (r:Room (k+1) A):Room k A.in1 :=
 ⟨r.hd,by have:=r.dp; show A.depth+3 * k+5<_; omega,by have:=r.un; show A.units+1+16 * k+200<_; omega⟩
theorem make_depth {A:Around} {C:Addr} {us:List Value} {kw:List (Str×Value)}:(A.under (.builtin "type.__call__" ⟨.ref C::us,kw⟩)).depth=A.depth+1:=by
 first | rfl | simp [Around.under,Code.weight,Code.isCreation,Code.isGuard,Code.isCaller,Code.frames,Code.isFrame,guardIds]
theorem make_units {A:Around} {C:Addr} {us:List Value} {kw:List (Str×Value)}:(A.under (.builtin "type.__call__" ⟨.ref C::us,kw⟩)).units=A.units+1:=by
 first | rfl | simp [Around.under,Code.cUnits,Code.frames,Code.isFrame]
theorem Room.make {k:Nat} {A:Around} (r:Room (k+1) A) (C:Addr) (us:List Value) (kw:List (Str×Value)):Room k (A.under (.builtin "type.__call__" ⟨.ref C::us,kw⟩)) :=
 ⟨r.hd,by have:=r.dp; rw [make_depth]; omega,by have:=r.un; rw [make_units]; omega⟩
theorem Room.depth {k:Nat} {A:Around} (r:Room k A):A.depth<recursionLimit:=by have:=r.dp; omega
theorem Room.units {k:Nat} {A:Around} (r:Room k A):A.units+64<cLine:=by have:=r.un; omega
theorem Room.units0 {k:Nat} {A:Around} (r:Room k A):A.units<cLine:=by have:=r.un; omega
def tNil:TA:=fun _ H Q=>Q [] H
def tCons (ta:TE) (tr:TA):TA:=fun σ H Q=>ta σ H fun x H1=>tr σ H1 fun xs H2=>Q (x::xs) H2
section
variable {X:Cx} {e:Expr} {es:List Expr} {te:TE} {t:TA} {pos:Pos}
theorem pa_nil:PA X [] tNil:=fun _ _ _ _ H Q I h=>Calls.spliced_nil ⟨[],H,I,.nil,h⟩
theorem pa_cons (ha:PE X e te) (hr:PA X es t) (hs:starEach (e::es) X.env=(false,eval e X.env)::starEach es X.env:=by rfl):PA X (e::es) (tCons te t):=by
 intro pos pins s σ H Q I h
 rw [hs]
 show wpAny _ _ (spliced ((false,eval e X.env)::backTo pos (starEach es X.env))) _ _ s
 refine Calls.spliced_cons (thn (ha pins s σ H _ I h) fun u s1 ⟨x,H1,I1,r1,q1⟩=>?_)
 exact thn (hr pos pins s1 σ H1 _ I1 q1) fun us s2 ⟨xs,H2,I2,r2,q2⟩=>⟨x::xs,H2,I2,.cons r1 r2,q2⟩
def tTup (t:TA):TE:=fun σ H Q=>t σ H fun xs H1=>xs.length≤sizeLine∧∀ p,H1 p=none→Q (.ref p) (upd H1 p (.tup xs))
def tLst (t:TA):TE:=fun σ H Q=>t σ H fun xs H1=>xs.length≤sizeLine∧∀ p,H1 p=none→Q (.ref p) (upd H1 p (.lst xs))
theorem pe_tup {x1} (h:PA X es t):PE X (.Tuple es x1 pos) (tTup t):=by
 intro pins s σ H Q I hq
 refine wpAny_Tuple_spliced (thn (h pos pins s σ H _ I hq) fun us s1 ⟨xs,H1,I1,r,z,q⟩=>⟨by rw [← r.length]; exact z,?_⟩)
 have hf:H1 s1.heap.objs.size=none:=I1.hok.fresh (Nat.le_refl _)
 refine ⟨.ref s1.heap.objs.size,upd H1 s1.heap.objs.size (.tup xs),I1.laid (t':=s1.toks) (fun b u e=>Heap.get?_push_of_some _ e) (Nat.le_refl _) ?_,rfl,q _ hf⟩
 exact ⟨z,us,r,⟨_,Heap.get?_push_size _ rfl,rfl,_,rfl⟩⟩
theorem pe_lst (h:PA X es t):PE X (.List es pos) (tLst t):=by
 intro pins s σ H Q I hq
 refine wpAny_List_spliced (thn (h pos pins s σ H _ I hq) fun us s1 ⟨xs,H1,I1,r,z,q⟩=>⟨by rw [← r.length]; exact z,?_⟩)
 have hf:H1 s1.heap.objs.size=none:=I1.hok.fresh (Nat.le_refl _)
 refine ⟨.ref s1.heap.objs.size,upd H1 s1.heap.objs.size (.lst xs),I1.laid (t':=s1.toks) (fun b u e=>Heap.get?_push_of_some _ e) (Nat.le_refl _) ?_,rfl,q _ hf⟩
 exact ⟨z,us,0,r,Heap.get?_push_size _ rfl⟩
end
abbrev Sp:=List V→Hp→VK→XK→Prop
abbrev CXT:=List Env→Hp→Shared→XK→Value→Shared→Prop
structure Env0 (P:Program) (w:World) (K:PySem.W.Frag) (mg:Str→Option Value) (base:Heap) (A:Around) (outer:List Env) (s:Shared) (H:Hp):Prop where
 frames:A.frames=some outer
 mod:Mod K mg base
 bs:∀ b o,base.get? b=some o→s.heap.get? b=some o∧H b=none
 bsz:base.objs.size≤s.heap.objs.size
 funs:s.heap.FunFrames base outer
 frf:∀ b∈frs outer,H b=none
 hok:HOk P w H s.heap
 bare:AllBare s.gens
def CE (outer:List Env) (P:Program) (w:World) (H:Hp) (s:Shared) (Q:VK) (u:Value) (s':Shared):Prop :=
 ∃ v H',s'.os=s.os∧AllBare s'.gens∧Un (frs outer) [] H H' s.heap s'.heap∧HOk P w H' s'.heap∧RelV v u∧Q v H'
def CR (CX:CXT) (outer:List Env) (P:Program) (w:World) (H:Hp) (s:Shared) (Q:VK) (E:XK) (r:Result) (s':Shared):Prop :=
 match r with
 | .ok (.ret u)=>CE outer P w H s Q u s'
 | .ok _=>False
 | .error e=>CX outer H s E e s'
structure FnOk (P:Program) (w:World) (K:PySem.W.Frag) (mg:Str→Option Value) (base:Heap) (CX:CXT) (k:Nat) (f:Addr) (fd:FuncData) (ps:List Str) (sp:Sp):Prop where
 len:∀ vs H Q E,sp vs H Q E→vs.length=ps.length
 run:∀ (A:Around) (outer:List Env) (s:Shared) (H:Hp) (args:Args) (us:List Value) (vs:List V) (Q:VK) (E:XK),Room k A→Env0 P w K mg base A outer s H→BindsTo s fd args (ps.zip us)→Vals vs us→sp vs H Q E →
  codeAny (model P w) A (.call (.ref f) args) (CR CX outer P w H s Q E) s
theorem FnOk.mono {P:Program} {w:World} {K:PySem.W.Frag} {mg:Str→Option Value} {base:Heap} {CX:CXT} {j k:Nat} {f:Addr} {fd:FuncData} {ps:List Str} {sp:Sp} (F:FnOk P w K mg base CX j f fd ps sp) (h:j≤k) :
  FnOk P w K mg base CX k f fd ps sp:=⟨F.len,fun A outer s H args us vs Q E hr=>F.run A outer s H args us vs Q E (hr.mono h)⟩
theorem FnOk.imp {P:Program} {w:World} {K:PySem.W.Frag} {mg:Str→Option Value} {base:Heap} {CX:CXT} {k:Nat} {f:Addr} {fd:FuncData} {ps:List Str} {sp sp':Sp} (F:FnOk P w K mg base CX k f fd ps sp)
  (h:∀ vs H Q E,sp' vs H Q E→sp vs H Q E):FnOk P w K mg base CX k f fd ps sp' :=
 ⟨fun vs H Q E q=>F.len vs H Q E (h _ _ _ _ q),fun A outer s H args us vs Q E hr he hb hv hs=>F.run A outer s H args us vs Q E hr he hb hv (h _ _ _ _ hs)⟩
theorem Env0.make {P:Program} {w:World} {K:PySem.W.Frag} {mg:Str→Option Value} {base:Heap} {A:Around} {outer:List Env} {s:Shared} {H:Hp} (e:Env0 P w K mg base A outer s H) (C:Addr) (us:List Value) (kw:List (Str×Value)) :
  Env0 P w K mg base (A.under (.builtin "type.__call__" ⟨.ref C::us,kw⟩)) outer s H:=⟨by first | exact e.frames | (simpa [Around.under,Code.envs,Code.isFrame,pushEnvs] using e.frames),e.mod,e.bs,e.bsz,e.funs,e.frf,e.hok,e.bare⟩
theorem Env0.in1 {P:Program} {w:World} {K:PySem.W.Frag} {mg:Str→Option Value} {base:Heap} {A:Around} {outer:List Env} {s:Shared} {H:Hp} (e:Env0 P w K mg base A outer s H) :
  Env0 P w K mg base A.in1 outer s H:=⟨e.frames,e.mod,e.bs,e.bsz,e.funs,e.frf,e.hok,e.bare⟩
section
variable {X:Cx} {pins:List (Addr×Obj)} {σ:St} {H:Hp} {s s':Shared}
theorem Inv.env0 (I:Inv X pins σ H s):Env0 X.prog X.w X.K X.mg X.base X.A X.stack s H :=
 ⟨I.ok.frames,I.ok.mod,I.bs,Nat.le_trans I.ok.bsz I.sz,I.stack,I.stkFree,I.hok,I.bare⟩
theorem Inv.after {Q:VK} {u:Value} (I:Inv X pins σ H s) (h:CE X.stack X.prog X.w H s Q u s'):EP X pins σ Q u s':=by
 obtain ⟨v,H',os,bare,un,hok,r,q⟩:=h
 obtain ⟨hh,g,d,t,os'⟩:=s'
 obtain rfl:os'=s.os:=os
 exact ⟨v,H',I.call (h':=hh) (g':=g) (d':=d) (t':=t) (ch:=[]) un hok bare (fun b z=>absurd z (by simp)),r,q⟩
end
def tCall (sp:Sp) (dvs:List V) (E:XK) (t:TA):TE:=fun σ H Q=>t σ H fun vs H1=>sp (vs++dvs) H1 Q E
def tMeth (C:Addr) (m:Str) (sp:Sp) (dvs:List V) (E:XK) (ta:TE) (t:TA):TE:=fun σ H Q=>ta σ H fun x H1=>∃ a dx fs,x=.ref a∧H1 a=some (.ins C dx fs)∧fs.lookup m=none ∧
 t σ H1 fun vs H2=>sp (x::(vs++dvs)) H2 Q E
def tMake (C:Addr) (sp:Sp) (dvs:List V) (E:XK) (t:TA):TE:=fun σ H Q=>t σ H fun vs H1=>∀ x dx,H1 x=none→H1 dx=none→dx≠x →
 sp (.ref x::(vs++dvs)) (upd (upd H1 dx (.own x)) x (.ins C dx [])) (fun v H2=>v=.non∧Q (.ref x) H2) E
def Binds (K:PySem.W.Frag) (fd:FuncData) (ps:List Str) (ds:List Value):Prop :=
 ∀ (s:Shared) (us:List Value),K.In s.heap→(us++ds).length=ps.length→BindsTo s fd ⟨us,[]⟩ (ps.zip (us++ds))
theorem Binds.all {K:PySem.W.Frag} {fd:FuncData} {ps:List Str} (h:∀ us:List Value,us.length=ps.length→bindArgs fd ⟨us,[]⟩=pure (ps.zip us)):Binds K fd ps []:=fun s us _ hl=>by
 rw [List.append_nil] at hl ⊢
 exact .of_eq (h us hl)
def Passes (CX:CXT) (X:Cx) (E:XK):Prop:=∀ (pins:List (Addr×Obj)) (σ:St) (H:Hp) (s:Shared) (e:Value) (s':Shared),Inv X pins σ H s→CX X.stack H s E e s'→X.xe e s'
section
variable {X:Cx} {CX:CXT} {k:Nat} {f C:Addr} {fd:FuncData} {ps:List Str} {sp:Sp} {dvs:List V} {ds:List Value} {E:XK} {x m:Str} {p pos apos:Pos} {e o:Expr} {es:List Expr} {ta:TE} {t:TA}
theorem run_fn {pins:List (Addr×Obj)} {σ:St} {H:Hp} {s:Shared} {Q:VK} {us:List Value} {vs:List V} (F:FnOk X.prog X.w X.K X.mg X.base CX k f fd ps sp) (hr:Room k X.A) (hb:Binds X.K fd ps ds) (hd:Vals dvs ds) (hx:Passes CX X E)
  (I:Inv X pins σ H s) (r:Vals vs us) (h:sp (vs++dvs) H Q E):wpAny (model X.prog X.w) X.A (call (.ref f) us) (EP X pins σ Q) X.xe s:=by
 have r2:Vals (vs++dvs) (us++ds):=r.append hd
 have hl:(us++ds).length=ps.length:=by rw [← r2.length]; exact F.len _ _ _ _ h
 refine wpAny_call (codeAny_mono (F.run X.A X.stack s H ⟨us,[]⟩ (us++ds) (vs++dvs) Q E hr I.env0 (hb s us I.kIn hl) r2 h) fun r s' hq=>?_)
 cases r with
 | error e=>exact hx pins σ H s e s' I hq
 | ok fl =>
  cases fl with
  | ret u=>exact I.after hq
  | next=>exact False.elim hq
  | brk=>exact False.elim hq
  | cont=>exact False.elim hq
theorem pe_call (F:FnOk X.prog X.w X.K X.mg X.base CX k f fd ps sp) (hr:Room k X.A) (hg:Gl X x) (hm:X.mg x=some (.ref f)) (hk:PySem.W.keepIn X.K (.ref f)=true) (hb:Binds X.K fd ps ds) (hd:Vals dvs ds) (hx:Passes CX X E)
  (ha:PA X (e::es) t) (hdb:(x == ("__debug__":Str))=false:=by decide) (he:starEach (e::es) X.env=(false,eval e X.env)::starEach es X.env:=by rfl) (hpl:(backTo pos (starEach es X.env)).any (·.1)=false:=by rfl) :
  PE X (.Call (.Name x p) (e::es) [] pos) (tCall sp dvs E t):=by
 intro pins s σ H Q I h
 refine wpAny_Call_Name_kw (ld_glob I hg hm ?_ hdb)
 refine PySem.W.callWith_K (h₀:=X.base) I.ok.mod.kin hk (thn (ha pos pins s σ H _ I h) fun us s1 ⟨vs,H1,I1,r,q⟩=>⟨I1.kIn,?_⟩) he hpl
 exact run_fn F hr hb hd hx I1 r q
theorem pe_meth {pl:Sem Bool} (he:PE X o ta) (c:Cls X.K C) (hm:Meth X.K C m f) (F:FnOk X.prog X.w X.K X.mg X.base CX k f fd ps sp) (hr:Room k X.A) (hb:Binds X.K fd ps ds) (hd:Vals dvs ds) (hx:Passes CX X E) (ha:PA X (e::es) t)
  (hst:starEach (e::es) X.env=(false,eval e X.env)::starEach es X.env:=by rfl) (hpl:(backTo pos (starEach es X.env)).any (·.1)=false:=by rfl)
  (ht:eval (.Call (.Attribute o m apos) (e::es) [] pos) X.env=(do
   let ov ← eval o X.env
   standAt apos.atName
   let (f,first) ← holding [ov] (getMethod ov m pl)
   callWith pos f first (backTo pos (starEach (e::es) X.env)) (backToKw pos (keywordEach [] X.env))):=by rfl) :
  PE X (.Call (.Attribute o m apos) (e::es) [] pos) (tMeth C m sp dvs E ta t):=by
 intro pins s σ H Q I h
 refine PySem.W.methodCall_KW (pl:=pl) (thn (he pins s σ H _ I h) fun u s1 ⟨x,H1,I1,rx,a,dx,fs,ex,ea,l,q⟩=>?_) ht
 subst ex
 obtain rfl:u=Value.ref a:=rx
 refine getmeth_ok I1 ea c hm l ?_
 refine PySem.W.callWith_K (first:=[.ref a]) (h₀:=X.base) I.ok.mod.kin hm.kp (thn (ha pos pins s1 σ H1 _ I1 q) fun us s2 ⟨vs,H2,I2,r,q2⟩=>⟨I2.kIn,?_⟩) hst hpl
 exact run_fn (us:=.ref a::us) (vs:=.ref a::vs) F hr hb hd hx I2 (.cons rfl r) q2
theorem pe_meth0 {pl:Sem Bool} (he:PE X o ta) (c:Cls X.K C) (hm:Meth X.K C m f) (F:FnOk X.prog X.w X.K X.mg X.base CX k f fd ps sp) (hr:Room k X.A) (hb:Binds X.K fd ps ds) (hd:Vals dvs ds) (hx:Passes CX X E)
  (ht:eval (.Call (.Attribute o m apos) [] [] pos) X.env=(do
   let ov ← eval o X.env
   standAt apos.atName
   let (f,first) ← holding [ov] (getMethod ov m pl)
   callWith pos f first (backTo pos (starEach [] X.env)) (backToKw pos (keywordEach [] X.env))):=by rfl) :
  PE X (.Call (.Attribute o m apos) [] [] pos) (tMeth C m sp dvs E ta tNil):=by
 intro pins s σ H Q I h
 refine PySem.W.methodCall_KW (pl:=pl) (thn (he pins s σ H _ I h) fun u s1 ⟨x,H1,I1,rx,a,dx,fs,ex,ea,l,q⟩=>?_) ht
 subst ex
 obtain rfl:u=Value.ref a:=rx
 refine getmeth_ok I1 ea c hm l ?_
 exact PySem.W.callWith_K0 (first:=[.ref a]) I1.kIn hm.kp (run_fn (us:=[.ref a]) (vs:=[.ref a]) F hr hb hd hx I1 (.cons rfl .nil) q)
structure Mk (K:PySem.W.Frag) (C f:Addr):Prop where
 makes:PySem.W.makesIn K C=true
 init:PySem.W.findIn K (.ref C) "__init__"=some (some (.ref f))
 fn:PySem.W.isFn K (.ref f)=true
 kp:PySem.W.keepIn K (.ref C)=true
theorem run_make {pins:List (Addr×Obj)} {σ:St} {H:Hp} {s:Shared} {Q:VK} {us:List Value} {vs:List V} (M:Mk X.K C f) (F:FnOk X.prog X.w X.K X.mg X.base CX k f fd ps sp) (hr:Room (k+1) X.A) (hb:Binds X.K fd ps ds) (hd:Vals dvs ds)
  (hx:Passes CX X E) (I:Inv X pins σ H s) (r:Vals vs us)
  (h:∀ x dx,H x=none→H dx=none→dx≠x→sp (.ref x::(vs++dvs)) (upd (upd H dx (.own x)) x (.ins C dx [])) (fun v H2=>v=.non∧Q (.ref x) H2) E) :
  wpAny (model X.prog X.w) X.A (call (.ref C) us) (EP X pins σ Q) X.xe s:=by
 have hq:=h (s.heap.objs.size+1) s.heap.objs.size (I.hok.fresh (Nat.le_succ _)) (I.hok.fresh (Nat.le_refl _)) (Nat.ne_of_lt (Nat.lt_succ_self _))
 have I2:=Inv.made (C:=C) I
 have r2:Vals (V.ref (s.heap.objs.size+1)::(vs++dvs)) (Value.ref (s.heap.objs.size+1)::(us++ds)):=.cons rfl (r.append hd)
 have hl:(Value.ref (s.heap.objs.size+1)::us++ds).length=ps.length:=by
  have e:=r2.length
  rw [F.len _ _ _ _ hq] at e
  exact e.symm
 refine wpAny_call (make_map (f:=f) I.kIn M.makes M.init (beq_iff_eq.mp M.fn) (codeAny_mono (F.run _ X.stack _ _ ⟨Value.ref (s.heap.objs.size+1)::us,[]⟩ (Value.ref (s.heap.objs.size+1)::(us++ds)) _ _ E (hr.make C us [])
  (I2.env0.make C us []) (hb _ (Value.ref (s.heap.objs.size+1)::us) I2.kIn hl) r2 hq) fun r s' hq'=>?_))
 cases r with
 | error e=>exact hx pins σ _ _ e s' I2 hq'
 | ok fl =>
  cases fl with
  | ret u =>
   obtain ⟨v,H',I3,rv,ev,q3⟩:=I2.after hq'
   subst ev
   exact ⟨rv,⟨V.ref (s.heap.objs.size+1),H',I3,rfl,q3⟩⟩
  | next=>exact False.elim hq'
  | brk=>exact False.elim hq'
  | cont=>exact False.elim hq'
theorem pe_make (M:Mk X.K C f) (F:FnOk X.prog X.w X.K X.mg X.base CX k f fd ps sp) (hr:Room (k+1) X.A) (hg:Gl X x) (hm:X.mg x=some (.ref C)) (hb:Binds X.K fd ps ds) (hd:Vals dvs ds) (hx:Passes CX X E)
  (ha:PA X (e::es) t) (hdb:(x == ("__debug__":Str))=false:=by decide) (he:starEach (e::es) X.env=(false,eval e X.env)::starEach es X.env:=by rfl) (hpl:(backTo pos (starEach es X.env)).any (·.1)=false:=by rfl) :
  PE X (.Call (.Name x p) (e::es) [] pos) (tMake C sp dvs E t):=by
 intro pins s σ H Q I h
 refine wpAny_Call_Name_kw (ld_glob I hg hm ?_ hdb)
 refine PySem.W.callWith_K (h₀:=X.base) I.ok.mod.kin M.kp (thn (ha pos pins s σ H _ I h) fun us s1 ⟨vs,H1,I1,r,q⟩=>⟨I1.kIn,?_⟩) he hpl
 exact run_make M F hr hb hd hx I1 r q
end
def PK (X:Cx) (kws:List Keyword) (t:TA):Prop :=
 ∀ (pos:Pos) (pins:List (Addr×Obj)) (s:Shared) (σ:St) (H:Hp) (Q:List V→Hp→Prop),Inv X pins σ H s→t σ H Q→wpAny (model X.prog X.w) X.A (evalAll ((backToKw pos (keywordEach kws X.env)).map (·.2))) (AP X pins σ Q) X.xe s
section
variable {X:Cx} {CX:CXT} {k:Nat} {f C:Addr} {fd:FuncData} {ps ks:List Str} {sp:Sp} {E:XK} {x m:Str} {p pos apos kpos:Pos} {e o:Expr} {es:List Expr} {kws:List Keyword} {te ta:TE} {t tk:TA} {nm:Option Str}
theorem pk_nil:PK X [] tNil:=fun _ _ _ _ H Q I h=>wpAny_evalAll_nil ⟨[],H,I,.nil,h⟩
theorem pk_cons (ha:PE X e te) (hr:PK X kws t):PK X (⟨nm,e,kpos⟩::kws) (tCons te t):=by
 intro pos pins s σ H Q I h
 show wpAny _ _ (evalAll ((do let v ← eval e X.env; standAt pos; pure v)::(backToKw pos (keywordEach kws X.env)).map (·.2))) _ _ s
 refine wpAny_evalAll_cons (wpAny_bind (thn (ha pins s σ H _ I h) fun u s1 ⟨x,H1,I1,r1,q1⟩=>wpAny_bind (wpAny_standAt (wpAny_pure ?_))))
 exact thn (hr pos pins s1 σ H1 _ I1 q1) fun us s2 ⟨xs,H2,I2,r2,q2⟩=>⟨x::xs,H2,I2,.cons r1 r2,q2⟩
structure KBinds (K:PySem.W.Frag) (fd:FuncData) (ps ks:List Str) (g:List Value→List Value→List Value) (gV:List V→List V→List V):Prop where
 to:∀ (s:Shared) (us ws:List Value),K.In s.heap→(g us ws).length=ps.length→BindsTo s fd ⟨us,ks.zip ws⟩ (ps.zip (g us ws))
 rel:∀ {vs:List V} {us:List Value} {zs:List V} {ws:List Value},Vals vs us→Vals zs ws→Vals (gV vs zs) (g us ws)
variable {g:List Value→List Value→List Value} {gV:List V→List V→List V}
end
structure FnScope (N P:List Str) (sc:Scope):Prop where
 kind:sc.kind=.function
 co:sc.isCoroutine=false
 gen:sc.isGenerator=false
 nd:N.Nodup
 pre:N.take P.length=P
 par:∀ x∈P,sc.names.lookup x=some .local∨sc.names.lookup x=some .cell
 nofree:∀ y∈sc.names,y.2≠.free
theorem bindL_out {kindOf:Str→Option NameKind} {x:Str}:∀ {binds:List (Str×Value)} {m:Str→Option Value},(∀ v,(x,v)∉binds)→bindL kindOf binds m x=m x
 | [],_,_=>rfl
 | (n,v)::r,m,h=>by
  unfold bindL
  rw [bindL_out fun w hw=>h w (List.mem_cons_of_mem _ hw)]
  split
  ·have:x≠n:=by rintro rfl; exact h v List.mem_cons_self
   simp [this]
  ·rfl
theorem bindC_out {kindOf:Str→Option NameKind} {x:Str}:∀ {binds:List (Str×Value)} {m:Str→Option Value},(∀ v,(x,v)∉binds)→bindC kindOf binds m x=m x
 | [],_,_=>rfl
 | (n,v)::r,m,h=>by
  unfold bindC
  rw [bindC_out fun w hw=>h w (List.mem_cons_of_mem _ hw)]
  split
  ·rfl
  ·have:x≠n:=by rintro rfl; exact h v List.mem_cons_self
   simp [this]
theorem bindL_get {kindOf:Str→Option NameKind} {x:Str} {v:Value}:∀ {P:List Str} {vs:List Value} {i:Nat} {m:Str→Option Value},P.Nodup→P[i]?=some x→vs[i]?=some v→kindOf x=some .local →
  bindL kindOf (P.zip vs) m x=some v
 | [],_,_,_,_,h,_,_=>by simp at h
 | _::_,[],_,_,_,_,h,_=>by simp at h
 | p::P,w::vs,0,m,nd,h1,h2,hk=>by
  simp at h1 h2; subst h1; subst h2
  show bindL kindOf ((p,w)::P.zip vs) m p=_
  unfold bindL
  rw [bindL_out fun v hv=>(List.nodup_cons.mp nd).1 (List.of_mem_zip hv).1,if_pos hk]
  simp
 | p::P,w::vs,i+1,m,nd,h1,h2,hk=>by
  show bindL kindOf ((p,w)::P.zip vs) m x=_
  unfold bindL
  exact bindL_get (i:=i) (List.nodup_cons.mp nd).2 (by simpa using h1) (by simpa using h2) hk
theorem bindC_get {kindOf:Str→Option NameKind} {x:Str} {v:Value}:∀ {P:List Str} {vs:List Value} {i:Nat} {m:Str→Option Value},P.Nodup→P[i]?=some x→vs[i]?=some v→kindOf x≠some .local →
  bindC kindOf (P.zip vs) m x=some v
 | [],_,_,_,_,h,_,_=>by simp at h
 | _::_,[],_,_,_,_,h,_=>by simp at h
 | p::P,w::vs,0,m,nd,h1,h2,hk=>by
  simp at h1 h2; subst h1; subst h2
  show bindC kindOf ((p,w)::P.zip vs) m p=_
  unfold bindC
  rw [bindC_out fun v hv=>(List.nodup_cons.mp nd).1 (List.of_mem_zip hv).1,if_neg hk]
  simp
 | p::P,w::vs,i+1,m,nd,h1,h2,hk=>by
  show bindC kindOf ((p,w)::P.zip vs) m x=_
  unfold bindC
  exact bindC_get (i:=i) (List.nodup_cons.mp nd).2 (by simpa using h1) (by simpa using h2) hk
def start (N:List Str) (vs:List V):St:=vs.map some++List.replicate (N.length - vs.length) none
def cxOf (CX:CXT) (P:Program) (w:World) (K:PySem.W.Frag) (mg:Str→Option Value) (base:Heap) (N:List Str) (qual:Str) (scope:Scope) (f:Addr) (cd:Value) (A:Around) (outer:List Env) (s:Shared) (H:Hp) (E:XK):Cx where
 prog:=P
 w:=w
 K:=K
 mg:=mg
 base:=base
 A:=A.deeper (envOfC qual scope s.heap.objs.size f cd)
 N:=N
 s₀:=s
 H₀:=H
 env:=envOfC qual scope s.heap.objs.size f cd
 outer:=outer
 stack:=envOfC qual scope s.heap.objs.size f cd::outer
 ex:=[]
 calm:=true
 fn:=fun _=>true
 pn:=[]
 xe:=fun e s'=>wpAny (model P w) (A.deeper (envOfC qual scope s.heap.objs.size f cd)) (leaving (envOfC qual scope s.heap.objs.size f cd) e) (fun _ s''=>CX outer H s E e s'') (fun e' s''=>CX outer H s E e' s'') s'
theorem cell_has {sc:Scope} {n:Nat} {x:Str} (h:sc.names.lookup x=some .cell):∃ c,(cellsFrom n sc.names []).lookup x=some c:=by
 have q:=PySem.W.cellsFrom_some sc.names n [] (.inl h)
 exact Option.isSome_iff_exists.mp q
theorem inv_start {CX:CXT} {P:Program} {w:World} {K:PySem.W.Frag} {mg:Str→Option Value} {base:Heap} {N ps:List Str} {qual:Str} {scope:Scope} {f:Addr} {cd:Value} {A:Around} {outer:List Env} {s s1:Shared} {H:Hp} {E:XK} {us:List Value} {vs:List V}
  (S:FnScope N ps scope) (hd:A.handled=none) (e0:Env0 P w K mg base A outer s H) (hl:vs.length=ps.length) (r:Vals vs us)
  (x:InCallC s s.heap.objs.size (bindL (envOfC qual scope s.heap.objs.size f cd).kindOf (ps.zip us) fun _=>none) (cellsFrom (s.heap.objs.size+1) scope.names []) (bindC (envOfC qual scope s.heap.objs.size f cd).kindOf (ps.zip us) fun _=>none) s1) :
  Inv (cxOf CX P w K mg base N qual scope f cd A outer s H E) [] (start N vs) H s1:=by
 have hpl:ps.length≤N.length:=by have:=congrArg List.length S.pre; rw [List.length_take] at this; omega
 obtain ⟨h1,tk,rfl,hk⟩:=x.done
 have noA:∀ b:Addr,b∉(cxOf CX P w K mg base N qual scope f cd A outer s H E).ex:=fun b z=>absurd (show b∈([]:List Addr) from z) (by simp)
 refine ⟨⟨e0.mod,S.kind,rfl,rfl,Nat.le_refl _,fun y z c h1 h2=>?_,fun y hy=>?_,fun y c _ h=>?_,fun _=>hd,Around.frames_deeper e0.frames,.inr ⟨rfl,rfl⟩,fun b z=>absurd z (noA b),e0.bs,e0.bsz,fun b _ _=>noA b,fun b z=>absurd z (noA b),e0.funs,e0.frf⟩,
  rfl,e0.bare,Un.kept hk,⟨_,x.toInCall.ns,fun i y v h1 h2 h3=>?_⟩,fun y c h=>⟨_,x.cell y c h⟩,e0.hok.fresh (Nat.le_refl _),fun y c h=>?_,fun p hp=>absurd (show p∈([]:List (Addr×Obj)) from hp) (by simp),e0.hok.kept hk,?_⟩
 ·exact name_of_addr x.apart (PySem.mem_of_lookup h1) (PySem.mem_of_lookup h2)
 ·have hy:scope.names.lookup y=some .cell∨scope.names.lookup y=some .free:=hy
  rcases hy with hy | hy
  ·exact cell_has hy
  ·exact absurd rfl (S.nofree _ (PySem.mem_of_lookup hy))
 ·exact Nat.le_of_lt (x.above y c (PySem.mem_of_lookup h))
 ·have hi:i<vs.length:=by
   unfold start at h2
   by_cases hi:i<vs.length
   ·exact hi
   ·rw [List.getElem?_append_right (by simpa using hi)] at h2
    rw [List.getElem?_replicate] at h2
    split at h2 <;> cases h2
  have ha:vs[i]?=some v:=by
   unfold start at h2
   rw [List.getElem?_append_left (by simpa using hi),List.getElem?_map] at h2
   cases e:vs[i]? with
   | none=>rw [e] at h2; cases h2
   | some a=>rw [e] at h2; cases h2; rfl
  obtain ⟨u,hu,rv⟩:=r.get ha
  have hp:ps[i]?=some y:=by
   rw [← S.pre,List.getElem?_take_of_lt (by omega)]; exact h1
  have ndP:ps.Nodup:=by rw [← S.pre]; exact S.nd.sublist (List.take_sublist _ _)
  refine ⟨u,rv,?_⟩
  rcases S.par y (List.mem_of_getElem? hp) with k | k
  ·exact .inl ⟨k,bindL_get ndP hp hu k⟩
  ·obtain ⟨c,e⟩:=cell_has (n:=s.heap.objs.size+1) k
   refine .inr ⟨.inl k,c,e,?_⟩
   have q:=x.cell y c e
   rw [bindC_get ndP hp hu (by show scope.names.lookup y≠_; rw [k]; decide)] at q
   exact q
 ·exact e0.hok.fresh (Nat.le_of_lt (x.above y c (PySem.mem_of_lookup h)))
 ·unfold start
  show _=N.length
  rw [List.length_append,List.length_map,List.length_replicate]
  omega
theorem fn_of {CX:CXT} {P:Program} {w:World} {K:PySem.W.Frag} {mg:Str→Option Value} {base:Heap} {k:Nat} {f:Addr} {name qual:Str} {params:Arguments} {body:List Stmt} {scope:Scope} {dV kV doc pm cdv ct oc:Value} {an od:Option Addr}
  {osl:Array (Option Value)} {N ps:List Str} {sp:Sp} (lk:K.lookup f=some ⟨oc,od,.func (PySem.W.fnOf name qual params body scope dV kV doc pm an cdv ct),osl⟩) (hcd:PySem.W.codeIn K cdv qual=true) (S:FnScope N ps scope)
  (len:∀ vs H Q E,sp vs H Q E→vs.length=ps.length)
  (hbody:∀ (A:Around) (outer:List Env) (s:Shared) (H:Hp) (vs:List V) (Q:VK) (E:XK),Room k (A.deeper (envOfC qual scope s.heap.objs.size f cdv))→sp vs H Q E →
   ∃ t,PSs (cxOf CX P w K mg base N qual scope f cdv A outer s H E) body t∧t { nx:=fun _ H'=>Q .non H',rt:=Q } (start N vs) H) :
  FnOk P w K mg base CX (k+1) f (PySem.W.fnOf name qual params body scope dV kV doc pm an cdv ct) ps sp:=by
 refine ⟨len,fun A outer s H args us vs Q E hr e0 hb r hsp=>?_⟩
 have hl:=len _ _ _ _ hsp
 have KX:K.In s.heap:=e0.mod.kin.keeps fun b o e=>(e0.bs b o e).1
 have lim:s.heap.NoLimit:=e0.mod.nolimit.keeps fun b o e=>(e0.bs b o e).1
 have hkind:∀ y∈ps.zip us,scope.names.lookup y.1=some .local∨(scope.names.lookup y.1=some .cell∧((cellsFrom (s.heap.objs.size+1) scope.names []).lookup y.1).isSome=true):=fun ⟨n,v⟩ hy=>by
  rcases S.par n (List.of_mem_zip hy).1 with q | q
  ·exact .inl q
  ·exact .inr ⟨q,PySem.W.cellsFrom_some _ _ _ (.inl q)⟩
 refine codeAny_call_function hr.depth (KX _ _ lk) rfl S.co S.gen rfl (PySem.W.codeRec_of KX hcd) (hb _ _ _ _ ?_)
 refine wpAny_newFunctionEnv_cells S.kind hkind fun env he s1 x=>?_
 subst he
 refine ⟨lim.keeps x.toInCall.keep,codeAny_func ?_⟩
 obtain ⟨t,ht,hq⟩:=hbody A outer s H vs Q E (hr.deeper _) hsp
 have I:Inv (cxOf CX P w K mg base N qual scope f cdv A outer s H E) [] (start N vs) H s1:=inv_start S hr.hd e0 hl r x
 refine wpAny_mono (ht [] s1 (start N vs) H _ I hq) (fun fl s' hs=>?_) fun e s' hs=>hs
 have fin:∀ {σ':St} {H':Hp} {v:V} {u:Value},Inv (cxOf CX P w K mg base N qual scope f cdv A outer s H E) [] σ' H' s'→RelV v u→Q v H'→CE outer P w H s Q u s' :=
  fun {σ' H' v u} J rv q=>⟨v,H',J.os,J.bare,J.base,J.hok,rv,q⟩
 cases fl with
 | ret u =>
  obtain ⟨v,σ',H',J,rv,q⟩:=hs
  exact fin J rv q
 | next =>
  obtain ⟨σ',H',J,q⟩:=hs
  exact fin (v:=V.non) (u:=Value.none) J rfl q
 | brk =>
  obtain ⟨_,_,_,q⟩:=hs
  exact False.elim q
 | cont =>
  obtain ⟨_,_,_,q⟩:=hs
  exact False.elim q
end L2
namespace L2
open PySem PySem.Spec PyProof.Rows
section
variable {X:Cx} {x:Str} {p pos:Pos} {e:Expr} {es:List Expr} {t:TA} {id T:String} {r:List V→Hp→VK→Prop}
def tCB (r:List V→Hp→VK→Prop) (t:TA):TE:=fun σ H Q=>t σ H fun vs H1=>r vs H1 Q
theorem pe_callB (hc:CallR X (.builtin id) r) (hg:Gl X x) (hm:X.mg x=none) (hv:bootBuiltins x=some (.builtin id)) (ha:PA X (e::es) t) (hn:x≠"__name__":=by decide) (hdb:(x == ("__debug__":Str))=false:=by decide)
  (he:starEach (e::es) X.env=(false,eval e X.env)::starEach es X.env:=by rfl) (hpl:(backTo pos (starEach es X.env)).any (·.1)=false:=by rfl):PE X (.Call (.Name x p) (e::es) [] pos) (tCB r t):=by
 intro pins s σ H Q I h
 refine wpAny_Call_Name_kw (ld_blt I hg hm hv ?_ hn hdb)
 exact PyProof.Rows.callWith_builtin1 (thn (ha pos pins s σ H _ I h) fun us s1 ⟨vs,H1,I1,r1,q1⟩=>hc pins s1 σ H1 vs us Q I1 r1 q1) he hpl
theorem pe_callTy (hc:CallR X (.type T) r) (hg:Gl X x) (hm:X.mg x=none) (hv:bootBuiltins x=some (.type T)) (ha:PA X (e::es) t) (hn:x≠"__name__":=by decide) (hdb:(x == ("__debug__":Str))=false:=by decide)
  (he:starEach (e::es) X.env=(false,eval e X.env)::starEach es X.env:=by rfl) (hpl:(backTo pos (starEach es X.env)).any (·.1)=false:=by rfl):PE X (.Call (.Name x p) (e::es) [] pos) (tCB r t):=by
 intro pins s σ H Q I h
 refine wpAny_Call_Name_kw (ld_blt I hg hm hv ?_ hn hdb)
 exact PyProof.Rows.callWith_type1 (thn (ha pos pins s σ H _ I h) fun us s1 ⟨vs,H1,I1,r1,q1⟩=>hc pins s1 σ H1 vs us Q I1 r1 q1) he hpl
end
end L2
namespace HT
open PySem PyProof.Rows
section
open PySem.SeqAt
open PySem.AutoSeq1 (wpAny_loadPart')
open PySem.MeetsSeq PySem.MeetsSeq2 PySem.MeetsSeq3
end
section
variable {prog:Program} {w:World} {A:Around} {E:Value→Shared→Prop} {s:Shared}
def sIx (n d:Nat):Option Int→Nat
 | none=>d
 | some v=>if v<0 then (v+(n:Int)).toNat else min v.toNat n
theorem sIx_none (n d:Nat):sIx n d none=d:=rfl
theorem sIx_nat (n d k:Nat):sIx n d (some (k:Int))=min k n:=by
 show (if (k:Int)<0 then ((k:Int)+(n:Int)).toNat else min (k:Int).toNat n)=min k n
 rw [if_neg (by omega),Int.toNat_natCast]
end
end HT
namespace L2
open PySem PySem.Spec PyProof.Rows
abbrev TO:=St→Hp→(Option Int→Hp→Prop)→Prop
def PO (X:Cx) (e:Option Expr) (t:TO):Prop :=
 ∀ (pins:List (Addr×Obj)) (s:Shared) (σ:St) (H:Hp) (Q:Option Int→Hp→Prop),Inv X pins σ H s→t σ H Q →
  wpAny (model X.prog X.w) X.A (evalPart e X.env) (fun u s'=>∃ o H',Inv X pins σ H' s'∧IsPart u o∧Q o H') X.xe s
def tNoPart:TO:=fun _ H Q=>Q none H
def tPart (t:TE):TO:=fun σ H Q=>t σ H fun x H1=>∃ i,x=.int i∧Q (some i) H1
theorem intsAre_of {ns:List Int}:∀ {us:List Value},Vals (ns.map V.int) us→IntsAre us ns:=by
 induction ns with
 | nil=>intro us r; rw [List.map_nil] at r; cases r; exact .nil
 | cons n ns ih =>
  intro us r
  rw [List.map_cons] at r
  cases r with
  | cons r1 r2 =>
   obtain ⟨t,e⟩:=r1
   subst e
   exact .cons n t (ih r2)
section
variable {X:Cx} {e:Expr} {te:TE} {lo hi:Option Expr} {tl th:TO} {pos p2:Pos}
theorem po_none:PO X none tNoPart:=by
 intro pins s σ H Q I h
 rw [evalPart_none]
 exact wpAny_pure ⟨none,H,I,.none,h⟩
theorem po_some (h:PE X e te):PO X (some e) (tPart te):=by
 intro pins s σ H Q I hw
 rw [evalPart_some]
 refine thn (h pins s σ H _ I hw) fun u s1 ⟨x,H1,I1,r1,q1⟩=>?_
 obtain ⟨i,rfl,q⟩:=q1
 obtain ⟨t,rfl⟩:=r1
 exact ⟨some i,H1,I1,.int i t,q⟩
def SlR (X:Cx) (r:V→Option Int→Option Int→Hp→VK→Prop):Prop :=
 ∀ (pins:List (Addr×Obj)) (s:Shared) (σ:St) (H:Hp) (x:V) (v vl vu:Value) (lo hi:Option Int) (sl:Addr) (Q:VK),Inv X pins σ H s→RelV x v→s.heap.IsSliceOf sl vl vu .none→IsPart vl lo→IsPart vu hi→r x lo hi H Q →
  ∃ T id,typeLookup (.type T) "__getitem__"=pure (some (.builtin id))∧s.TypeIs v T∧wpAny (model X.prog X.w) X.A (getItem v (.ref sl)) (EP X pins σ Q) X.xe s
theorem SlR.or {r r':V→Option Int→Option Int→Hp→VK→Prop} (h:SlR X r) (h':SlR X r'):SlR X (fun x lo hi H Q=>r x lo hi H Q∨r' x lo hi H Q):=by
 intro pins s σ H x v vl vu lo hi sl Q I rx hs pl pu q
 rcases q with q | q
 ·exact h pins s σ H x v vl vu lo hi sl Q I rx hs pl pu q
 ·exact h' pins s σ H x v vl vu lo hi sl Q I rx hs pl pu q
def tSl (r:V→Option Int→Option Int→Hp→VK→Prop) (te:TE) (tl th:TO):TE:=fun σ H Q=>te σ H fun x H1=>tl σ H1 fun l H2=>th σ H2 fun u H3=>r x l u H3 Q
theorem pe_slice {r:V→Option Int→Option Int→Hp→VK→Prop} (hr:SlR X r) (he:PE X e te) (hl:PO X lo tl) (hu:PO X hi th):PE X (.Subscript e (.Slice lo hi none p2) pos) (tSl r te tl th):=by
 intro pins s σ H Q I h
 refine Subscript_ (thn (he pins s σ H _ I h) fun v s1 ⟨x,H1,I1,r1,q1⟩=>?_)
 refine wpAny_Slice (thn (hl pins s1 σ H1 _ I1 q1) fun vl s2 ⟨l,H2,I2,pl,q2⟩=>thn (hu pins s2 σ H2 _ I2 q2) fun vu s3 ⟨u,H3,I3,pu,q3⟩=>?_)
 rw [evalPart_none]
 refine wpAny_pure ?_
 have I4:Inv X pins σ H3 { s3 with heap:=s3.heap.push { cls:=.type "slice",data:=.fields #[vl,vu,.none] } }:=I3.kept (t':=s3.toks) fun b ob q=>Heap.get?_push_of_some _ q
 obtain ⟨T,id,hT,ht,hg⟩:=hr pins { s3 with heap:=s3.heap.push { cls:=.type "slice",data:=.fields #[vl,vu,.none] } } σ H3 x v vl vu l u s3.heap.objs.size Q I4 r1 (Heap.IsSliceOf.new ..) pl pu q3
 show wpAny (model X.prog X.w) X.A (subscriptTail e (.Slice lo hi none p2) v (.ref s3.heap.objs.size)) (EP X pins σ Q) X.xe { s3 with heap:=s3.heap.push { cls:=.type "slice",data:=.fields #[vl,vu,.none] } }
 exact tail_any (ops:=[.ref s3.heap.objs.size,v]) ht hT hg (by with_unfolding_all rfl)
def cutV (xs:List V) (lo hi:Option Int):List V:=(xs.drop (HT.sIx xs.length 0 lo)).take (HT.sIx xs.length xs.length hi - HT.sIx xs.length 0 lo)
theorem cutV_length (xs:List V) (lo hi:Option Int):(cutV xs lo hi).length≤xs.length:=by
 unfold cutV
 rw [List.length_take,List.length_drop]
 omega
end
end L2
namespace L2
open PySem PySem.Spec PyProof.Rows
def ixN (n:Nat) (i:Int):Option Nat:=if 0≤i then (if i<n then some i.toNat else none) else if -(n:Int)≤i then some (i+n).toNat else none
def atI {α:Type} (xs:List α) (i:Int):Option α:=(ixN xs.length i).bind fun j=>xs[j]?
theorem ixN_seq {n:Nat} {i:Int} {j:Nat} (h:ixN n i=some j):seqIndex? i n=some j∧j<n∧-(n:Int)≤i∧i<n:=by
 unfold ixN at h
 by_cases h0:0≤i
 ·rw [if_pos h0] at h
  by_cases h1:i<n
  ·rw [if_pos h1] at h
   have e:i.toNat=j:=Option.some.inj h
   exact ⟨by rw [seqIndex_of h0 h1,e],by omega,by omega,h1⟩
  ·rw [if_neg h1] at h; cases h
 ·rw [if_neg h0] at h
  by_cases h1:-(n:Int)≤i
  ·rw [if_pos h1] at h
   have e:(i+n).toNat=j:=Option.some.inj h
   exact ⟨by rw [seqIndex_neg (by omega) h1,e],by omega,h1,by omega⟩
  ·rw [if_neg h1] at h; cases h
theorem atI_get {α:Type} {xs:List α} {i:Int} {v:α} (h:atI xs i=some v):∃ j,seqIndex? i xs.length=some j∧xs[j]?=some v∧j<xs.length∧-(xs.length:Int)≤i∧i<xs.length:=by
 unfold atI at h
 cases e:ixN xs.length i with
 | none=>rw [e] at h; cases h
 | some j =>
  rw [e] at h
  obtain ⟨h1,h2,h3,h4⟩:=ixN_seq e
  exact ⟨j,h1,h,h2,h3,h4⟩
theorem atI_nat {α:Type} {xs:List α} {j:Nat} {v:α} (h:xs[j]?=some v):atI xs (j:Int)=some v:=by
 have hj:j<xs.length:=(List.getElem?_eq_some_iff.mp h).1
 have e:ixN xs.length (j:Int)=some j:=by
  unfold ixN
  rw [if_pos (by omega),if_pos (by omega)]; simp
 unfold atI; rw [e]; exact h
def PlainIx (b:Expr):Prop:=∀ o i,subscripted b false o i=operate [o,i] (getItem o i)
def IxR (X:Cx) (r:R2):Prop :=
 ∀ (value slice:Expr) (pins:List (Addr×Obj)) (s:Shared) (σ:St) (H:Hp) (x y:V) (v u:Value) (Q:VK),Inv X pins σ H s→RelV x v→RelV y u→r x y H Q →
  subscripted slice false v u=operate [v,u] (getItem v u)→wpAny (model X.prog X.w) X.A (subscriptTail value slice v u) (EP X pins σ Q) X.xe s
def MtR (X:Cx) (id:String) (r:V→List V→Hp→VK→Prop):Prop :=
 ∀ (pins:List (Addr×Obj)) (s:Shared) (σ:St) (H:Hp) (x:V) (xs:List V) (v:Value) (us:List Value) (Q:VK),Inv X pins σ H s→RelV x v→Vals xs us→r x xs H Q →
  wpAny (model X.prog X.w) X.A (call (.builtin id) (v::us)) (EP X pins σ Q) X.xe s
section
variable {X:Cx} {a b:Expr} {ta tb:TE} {pos:Pos}
theorem IxR.or {r r':R2} (h:IxR X r) (h':IxR X r'):IxR X (fun x y H Q=>r x y H Q∨r' x y H Q):=by
 intro value slice pins s σ H x y v u Q I rx ry q hs
 rcases q with q | q
 ·exact h value slice pins s σ H x y v u Q I rx ry q hs
 ·exact h' value slice pins s σ H x y v u Q I rx ry q hs
theorem MtR.or {id:String} {r r':V→List V→Hp→VK→Prop} (h:MtR X id r) (h':MtR X id r'):MtR X id (fun x xs H Q=>r x xs H Q∨r' x xs H Q):=by
 intro pins s σ H x xs v us Q I rx rs q
 rcases q with q | q
 ·exact h pins s σ H x xs v us Q I rx rs q
 ·exact h' pins s σ H x xs v us Q I rx rs q
theorem pe_ix {r:R2} (hr:IxR X r) (ha:PE X a ta) (hb:PE X b tb) (hs:PlainIx b):PE X (.Subscript a b pos) (tOp r ta tb):=by
 intro pins s σ H Q I h
 exact Subscript_ (binT ha hb I h fun v u s2 x y H2 I2 rx ry q=>hr a b pins s2 σ H2 x y v u Q I2 rx ry q (hs _ _))
def rIxL (K:PySem.W.Frag):R2:=fun x y H Q=>∃ p xs i v,x=.ref p∧y=.int i∧SqL K H p xs∧atI xs i=some v∧Q v H
def rIxT (K:PySem.W.Frag):R2:=fun x y H Q=>∃ p xs i v,x=.ref p∧y=.int i∧SqT K H p xs∧atI xs i=some v∧Q v H
theorem ix_list:IxR X (rIxL X.K):=by
 intro value slice pins s σ H x y v u Q I rx ry h hs
 obtain ⟨p,xs,i,z,rfl,rfl,hq,he,q⟩:=h
 cases rx
 obtain ⟨t,rfl⟩:=ry
 obtain ⟨its,r,pl,hz⟩:=I.list hq
 obtain ⟨j,h1,h2,h3,h4,h5⟩:=atI_get he
 obtain ⟨w,ew,rw'⟩:=r.get h2
 have hl:=r.length
 have hn:=line63
 have fin:EP X pins σ Q w s:=⟨z,H,I,rw',q⟩
 by_cases h0:0≤i
 ·have hj:i.toNat=j:=by
   rw [seqIndex_of h0 h5] at h1
   exact Option.some.inj h1
  exact item_listR pl.isList h0 (by omega) (by rw [hj]; simpa using ew) fin hs
 ·have hj:(i+(its.toArray.size:Int)).toNat=j:=by
   rw [seqIndex_neg (by omega) h4] at h1
   rw [List.size_toArray,← hl]
   exact Option.some.inj h1
  exact subscriptTail_builtinR (x:=w) pl.isList.typeIs slot_list_getitem.lookup
   (wpAny_getItem_list_neg (Q:=fun r s'=>r=w∧EP X pins σ Q r s') pl.isList (by omega) (by rw [List.size_toArray] <;> omega) (by omega) (by rw [hj]; simpa using ew) ⟨rfl,fin⟩) hs
theorem ix_tup:IxR X (rIxT X.K):=by
 intro value slice pins s σ H x y v u Q I rx ry h hs
 obtain ⟨p,xs,i,z,rfl,rfl,hq,he,q⟩:=h
 cases rx
 obtain ⟨t,rfl⟩:=ry
 obtain ⟨its,r,pl,hz⟩:=I.tuple hq
 obtain ⟨j,h1,h2,h3,h4,h5⟩:=atI_get he
 obtain ⟨w,ew,rw'⟩:=r.get h2
 have hl:=r.length
 have hn:=line63
 have fin:EP X pins σ Q w s:=⟨z,H,I,rw',q⟩
 exact subscriptTail_builtinR (x:=w) pl.typeIs slot_tuple_getitem.lookup
  (getItem_tuple (j:=j) (Q:=fun r s'=>r=w∧EP X pins σ Q r s') pl (by omega) (by omega) (by rw [List.size_toArray,← hl]; exact h1) (by simpa using ew) ⟨rfl,fin⟩) hs
theorem mapSeq_set (its:List Value) (n j:Nat) (u:Value):Obj.mapSeq (·.setIfInBounds j u) { cls:=.type "list",data:=.seq its.toArray n }={ cls:=.type "list",data:=.seq (its.set j u).toArray n }:=by
 simp [Obj.mapSeq]
theorem Inv.lst {pins:List (Addr×Obj)} {σ:St} {H:Hp} {s:Shared} {p:Addr} {xs:List V} (I:Inv X pins σ H s) (h:H p=some (.lst xs)) :
  ∃ (its:List Value) (n:Nat),Vals xs its∧s.heap.get? p=some { cls:=.type "list",data:=.seq its.toArray n }∧xs.length≤sizeLine:=by
 obtain ⟨z,its,n,r,e⟩:=I.hok p _ h
 exact ⟨its,n,r,e,z⟩
theorem Inv.lstUpd {pins:List (Addr×Obj)} {σ:St} {H:Hp} {s:Shared} {p:Addr} {xs ys:List V} {its its':List Value} {n n':Nat} {f:Obj→Obj} (I:Inv X pins σ H s) (h:H p=some (.lst xs))
  (ho:s.heap.get? p=some { cls:=.type "list",data:=.seq its.toArray n }) (hf:f { cls:=.type "list",data:=.seq its.toArray n }={ cls:=.type "list",data:=.seq its'.toArray n' }) (r:Vals ys its') (hz:ys.length≤sizeLine) (t:Nat) :
  Inv X pins σ (upd H p (.lst ys)) { s with heap:=s.heap.update p f,toks:=t }:=by
 have e:(s.heap.update p f).get? p=some { cls:=.type "list",data:=.seq its'.toArray n' }:=by
  rw [Heap.get?_update_self f ho (by rw [hf] <;> rfl),hf]
 refine I.write (x:=p) (e:=p) (by rw [h]; trivial) (.inl rfl) (fun b u hb q=>(Heap.get?_update_other _ _ (Ne.symm hb)).trans q) ⟨_,e⟩ ?_
 exact ⟨hz,its',n',r,e⟩
def rSetL:V→V→V→Hp→(Hp→Prop)→Prop:=fun o i v H Q=>∃ p xs k j,o=.ref p∧i=.int k∧H p=some (.lst xs)∧ixN xs.length k=some j∧Q (upd H p (.lst (xs.set j v)))
theorem set_list:PSet X rSetL:=by
 intro pins s σ H o i v ov iv u Q I ro ri rv h
 obtain ⟨p,xs,k,j,rfl,rfl,hp,hj,q⟩:=h
 cases ro
 obtain ⟨t,rfl⟩:=ri
 obtain ⟨its,n,r,ho,hz⟩:=I.lst hp
 obtain ⟨h1,h2,h3,h4⟩:=ixN_seq hj
 have hl:=r.length
 have hn:=line63
 have I':Inv X pins σ (upd H p (.lst (xs.set j v))) { s with heap:=s.heap.update p (Obj.mapSeq (·.setIfInBounds j u)) } :=
  I.lstUpd hp ho (mapSeq_set its n j u) (r.set rv j) (by rw [List.length_set]; exact hz) s.toks
 by_cases h0:0≤k
 ·have hk:k.toNat=j:=by
   rw [seqIndex_of h0 h4] at h1
   exact Option.some.inj h1
  exact PySem.W.ki_setAt ho h0 (by omega) (by rw [List.size_toArray,← hl]; exact h4) (by rw [hk]; exact ⟨_,I',q⟩)
 ·have hk:(k+(its.toArray.size:Int)).toNat=j:=by
   rw [seqIndex_neg (by omega) h3] at h1
   rw [List.size_toArray,← hl]
   exact Option.some.inj h1
  exact PySem.W.ki_setBack ho (by omega) (by rw [List.size_toArray,← hl]; exact h3) (by omega) (by rw [hk]; exact ⟨_,I',q⟩)
theorem slice_bounds (lo hi:Option Int) (n:Nat):(sliceBounds lo hi none n).1=((HT.sIx n 0 lo:Nat):Int)∧(sliceBounds lo hi none n).2.1=((HT.sIx n n hi:Nat):Int)∧(sliceBounds lo hi none n).2.2=1:=by
 refine ⟨?_,?_,rfl⟩
 ·cases lo with
  | none=>simp [sliceBounds,HT.sIx]
  | some i =>
   simp only [sliceBounds,HT.sIx,Option.getD_none,show (1:Int)>0 by decide,if_true]
   by_cases h:i<0
   ·simp only [h,if_true] <;> omega
   ·simp only [h,if_false] <;> omega
 ·cases hi with
  | none=>simp [sliceBounds,HT.sIx]
  | some i =>
   simp only [sliceBounds,HT.sIx,Option.getD_none,show (1:Int)>0 by decide,if_true]
   by_cases h:i<0
   ·simp only [h,if_true] <;> omega
   ·simp only [h,if_false] <;> omega
theorem slicePick_cut (its:List Value) (lo hi:Option Int):slicePick its.toArray lo hi none=((its.drop (HT.sIx its.length 0 lo)).take (HT.sIx its.length its.length hi - HT.sIx its.length 0 lo)).toArray:=by
 obtain ⟨h1,h2,h3⟩:=slice_bounds lo hi its.toArray.size
 unfold slicePick
 rw [h1,h2,h3]
 simp only [sliceRange_one,pick_run,List.size_toArray] <;> rfl
def rSlL (K:PySem.W.Frag):V→Option Int→Option Int→Hp→VK→Prop:=fun x lo hi H Q=>∃ a xs,x=.ref a∧SqL K H a xs∧∀ p,H p=none→Q (.ref p) (upd H p (.lst (cutV xs lo hi)))
theorem sl_list:SlR X (rSlL X.K):=by
 intro pins s σ H x v vl vu lo hi sl Q I rx hs pl pu h
 obtain ⟨a,xs,rfl,hx,q⟩:=h
 cases rx
 obtain ⟨its,r,ht,hz⟩:=I.list hx
 have hlen:=r.length
 refine ⟨"list",_,slot_list_getitem.lookup,ht.isList.typeIs,?_⟩
 refine wpAny_getItem_list_slice ht.isList hs pl pu .none (by simp) ?_ (by rw [List.size_toArray] <;> omega)
 rw [slicePick_cut,← hlen]
 refine ⟨.ref s.heap.objs.size,_,I.laid (t':=s.toks) (o:=.lst (cutV xs lo hi)) (fun b ob q=>Heap.get?_push_of_some _ q) (Nat.le_refl _) ?_,rfl,q _ (I.hok.fresh (Nat.le_refl _))⟩
 exact ⟨Nat.le_trans (cutV_length xs lo hi) hz,_,0,(r.drop (HT.sIx xs.length 0 lo)).take (HT.sIx xs.length xs.length hi - HT.sIx xs.length 0 lo),Heap.get?_push_size _ rfl⟩
def flatV:V→Bool
 | .non=>true
 | .bl _=>true
 | .int _=>true
 | .str _=>true
 | _=>false
def eqV:V→V→Bool
 | .non,.non=>true
 | .bl a,.bl b=>a == b
 | .bl a,.int b=>(if a then 1 else 0) == b
 | .int a,.bl b=>a == (if b then 1 else 0)
 | .int a,.int b=>a == b
 | .str a,.str b=>a == b
 | _,_=>false
theorem eqAt_V {A:Around} {s:Shared} {y x:V} {u v:Value} (ry:RelV y u) (rx:RelV x v) (fy:flatV y=true) (fx:flatV x=true):SeqAt.EqAt A s u v (eqV y x):=by
 cases y with
 | non =>
  cases ry
  cases x with
  | non=>cases rx; exact SeqAt.EqAt.same _
  | bl b=>cases rx; exact SeqAt.EqAt.none_bool b
  | int b=>obtain ⟨t,rfl⟩:=rx; exact SeqAt.EqAt.none_int b t
  | str b=>obtain ⟨t,rfl⟩:=rx; exact SeqAt.EqAt.none_str b t
  | _=>exact absurd (show false=true from fx) Bool.false_ne_true
 | bl a =>
  cases ry
  cases x with
  | non=>cases rx; exact SeqAt.EqAt.bool_none a
  | bl b=>cases rx; exact SeqAt.EqAt.bool_bool a b
  | int b=>obtain ⟨t,rfl⟩:=rx; exact SeqAt.EqAt.bool_int a b t
  | str b=>obtain ⟨t,rfl⟩:=rx; exact SeqAt.EqAt.bool_str a b t
  | _=>exact absurd (show false=true from fx) Bool.false_ne_true
 | int a =>
  obtain ⟨t',rfl⟩:=ry
  cases x with
  | non=>cases rx; exact SeqAt.EqAt.int_none a t'
  | bl b=>cases rx; exact SeqAt.EqAt.int_bool a t' b
  | int b=>obtain ⟨t,rfl⟩:=rx; exact SeqAt.EqAt.int_int a t' b t
  | str b=>obtain ⟨t,rfl⟩:=rx; exact SeqAt.EqAt.int_str a t' b t
  | _=>exact absurd (show false=true from fx) Bool.false_ne_true
 | str a =>
  obtain ⟨t',rfl⟩:=ry
  cases x with
  | non=>cases rx; exact SeqAt.EqAt.str_none a t'
  | bl b=>cases rx; exact SeqAt.EqAt.str_bool a t' b
  | int b=>obtain ⟨t,rfl⟩:=rx; exact SeqAt.EqAt.str_int a t' b t
  | str b=>obtain ⟨t,rfl⟩:=rx; exact SeqAt.EqAt.str_str a t' b t
  | _=>exact absurd (show false=true from fx) Bool.false_ne_true
 | _=>exact absurd (show false=true from fy) Bool.false_ne_true
def eqU (x:V) (u:Value):Bool:=match u with
 | .none=>eqV .non x
 | .bool b=>eqV (.bl b) x
 | .int i _=>eqV (.int i) x
 | .str z _=>eqV (.str z) x
 | _=>false
theorem eqU_of {x y:V} {u:Value} (r:RelV y u) (f:flatV y=true):eqU x u=eqV y x:=by
 cases y with
 | non=>cases r; rfl
 | bl b=>cases r; rfl
 | int i=>obtain ⟨t,rfl⟩:=r; rfl
 | str z=>obtain ⟨t,rfl⟩:=r; rfl
 | _=>exact absurd (show false=true from f) Bool.false_ne_true
theorem any_eqU {x:V}:∀ {xs:List V} {us:List Value},Vals xs us→xs.all flatV=true→us.any (eqU x)=xs.any fun y=>eqV y x
 | _,_,.nil,_=>rfl
 | y::xs,u::us,.cons r t,f=>by
  rw [List.all_cons,Bool.and_eq_true] at f
  rw [List.any_cons,List.any_cons,eqU_of r f.1,any_eqU t f.2]
theorem mem_eqAt {A:Around} {s:Shared} {x:V} {v:Value} (rx:RelV x v) (fx:flatV x=true):∀ {xs:List V} {us:List Value},Vals xs us→xs.all flatV=true→∀ u∈us,SeqAt.EqAt A s u v (eqU x u)
 | _,_,.nil,_=>fun u hu=>by cases hu
 | y::xs,u::us,.cons r t,f=>fun u' hu=>by
  rw [List.all_cons,Bool.and_eq_true] at f
  rcases List.mem_cons.mp hu with rfl | hu
  ·rw [eqU_of r f.1]; exact eqAt_V r rx f.1 fx
  ·exact mem_eqAt rx fx t f.2 u' hu
def inV (x:V) (xs:List V):Bool:=xs.any fun y=>eqV y x
def rIn (K:PySem.W.Frag) (neg:Bool):R2:=fun x y H Q=>∃ p xs,y=.ref p∧(SqL K H p xs∨SqT K H p xs)∧flatV x=true∧xs.all flatV=true∧Q (.bl (if neg then !inV x xs else inV x xs)) H
theorem op_in_seq:OpR X (compareOp .In) (rIn X.K false):=by
 intro pins s σ H x y v u Q I rx ry h
 obtain ⟨p,xs,rfl,hq,fx,fs,q⟩:=h
 cases ry
 rcases hq with hq | hq
 ·obtain ⟨its,r,pl,hz⟩:=I.list hq
  refine SeqAt.in_listAt (eqU x) pl.isList (fun w hw=>mem_eqAt rx fx r fs w (by simpa using hw)) ⟨.bl _,H,I,rfl,?_⟩
  rw [show its.toArray.any (eqU x)=its.any (eqU x) by simp,any_eqU r fs]
  exact q
 ·obtain ⟨its,r,pl,hz⟩:=I.tuple hq
  refine SeqAt.in_tupleAt (eqU x) pl (fun w hw=>mem_eqAt rx fx r fs w (by simpa using hw)) ⟨.bl _,H,I,rfl,?_⟩
  rw [show its.toArray.any (eqU x)=its.any (eqU x) by simp,any_eqU r fs]
  exact q
theorem op_notIn_seq:OpR X (compareOp .NotIn) (rIn X.K true):=by
 intro pins s σ H x y v u Q I rx ry h
 obtain ⟨p,xs,rfl,hq,fx,fs,q⟩:=h
 cases ry
 rcases hq with hq | hq
 ·obtain ⟨its,r,pl,hz⟩:=I.list hq
  refine SeqAt.notIn_listAt (eqU x) pl.isList (fun w hw=>mem_eqAt rx fx r fs w (by simpa using hw)) ⟨.bl _,H,I,rfl,?_⟩
  rw [show its.toArray.any (eqU x)=its.any (eqU x) by simp,any_eqU r fs]
  exact q
 ·obtain ⟨its,r,pl,hz⟩:=I.tuple hq
  refine SeqAt.notIn_tupleAt (eqU x) pl (fun w hw=>mem_eqAt rx fx r fs w (by simpa using hw)) ⟨.bl _,H,I,rfl,?_⟩
  rw [show its.toArray.any (eqU x)=its.any (eqU x) by simp,any_eqU r fs]
  exact q
theorem call_len_seq:CallR X (.builtin "len") (fun xs H Q=>∃ p ys,xs=[.ref p]∧(SqL X.K H p ys∨SqT X.K H p ys)∧Q (.int ys.length) H):=by
 intro pins s σ H xs us Q I r h
 obtain ⟨p,ys,rfl,hq,q⟩:=h
 obtain ⟨u,rfl,rx⟩:=vals1 r
 cases rx
 have hn:=line63
 rcases hq with hq | hq
 ·obtain ⟨its,r',pl,hz⟩:=I.list hq
  have hlen:=r'.length
  exact Calls.call_len_list pl.isList (by simp only [List.size_toArray] <;> omega) ⟨.int ys.length,H,I.tok _,⟨s.toks+1,by rw [List.size_toArray,hlen]⟩,q⟩
 ·obtain ⟨its,r',pl,hz⟩:=I.tuple hq
  have hlen:=r'.length
  exact len_tuple pl (by simp only [List.size_toArray] <;> omega) ⟨.int ys.length,H,I.tok _,⟨s.toks+1,by rw [List.size_toArray,hlen]⟩,q⟩
theorem CallR.or {f:Value} {r r':List V→Hp→VK→Prop} (h:CallR X f r) (h':CallR X f r'):CallR X f (fun xs H Q=>r xs H Q∨r' xs H Q):=by
 intro pins s σ H xs us Q I rs q
 rcases q with q | q
 ·exact h pins s σ H xs us Q I rs q
 ·exact h' pins s σ H xs us Q I rs q
theorem call_list_of:CallR X (.type "list") (fun xs H Q=>∃ p ys,xs=[.ref p]∧(SqL X.K H p ys∨SqT X.K H p ys)∧∀ l,H l=none→Q (.ref l) (upd H l (.lst ys))):=by
 intro pins s σ H xs us Q I r h
 obtain ⟨p,ys,rfl,hq,q⟩:=h
 obtain ⟨u,rfl,rx⟩:=vals1 r
 cases rx
 have fin:∀ (its:List Value),Vals ys its→ys.length≤sizeLine→∀ (h':Heap) (c':Nat),(∀ b o',s.heap.get? b=some o'→h'.get? b=some o') →
   h'.get? s.heap.objs.size=some { cls:=.type "list",dict:=none,data:=.seq its.toArray c',slots:=#[] }→EP X pins σ Q (.ref s.heap.objs.size) { s with heap:=h' }:=fun its r' hz h' c' kp e =>
  ⟨.ref s.heap.objs.size,_,I.laid (t':=s.toks) kp (Nat.le_refl _) (show ObjOk X.prog X.w _ h' _ (.lst ys) from ⟨hz,its,c',r',e⟩),rfl,q _ (I.hok.fresh (Nat.le_refl _))⟩
 rcases hq with hq | hq
 ·obtain ⟨its,r',pl,hz⟩:=I.list hq
  have hlen:=r'.length
  obtain ⟨o,ho,hc,n,hd⟩:=pl.isList
  exact call_list_seq p (.inl rfl) ho hc hd (fun h' c' kp e=>fin its r' hz h' c' kp e) (by simp only [List.size_toArray] <;> omega)
 ·obtain ⟨its,r',pl,hz⟩:=I.tuple hq
  have hlen:=r'.length
  obtain ⟨o,ho,hc,n,hd⟩:=pl
  exact call_list_seq p (.inr rfl) ho hc hd (fun h' c' kp e=>fin its r' hz h' c' kp e) (by simp only [List.size_toArray] <;> omega)
def tyV (K:PySem.W.Frag) (T:String) (x:V) (H:Hp):Prop:=match x with
 | .str _=>T="str"
 | .int _=>T="int"
 | .ref p=>(T="list"∧∃ xs,SqL K H p xs)∨(T="tuple"∧∃ o,K.lookup p=some o∧o.cls=.type "tuple"∧o.dict=none) ∨
   (T="dict"∧((∃ kvs,H p=some (.dK kvs))∨∃ kvs,H p=some (.dT kvs)))∨(T="set"∧∃ S n,H p=some (.set S n))
 | _=>False
theorem tyV_is {pins:List (Addr×Obj)} {σ:St} {H:Hp} {s:Shared} {T:String} {x:V} {v:Value} (I:Inv X pins σ H s) (r:RelV x v) (ty:tyV X.K T x H) :
  s.TypeIs v T∧∀ a,v=.ref a→∃ ob,s.heap.get? a=some ob∧ob.dict=none:=by
 cases x with
 | str z =>
  obtain ⟨t,rfl⟩:=r
  cases (show T="str" from ty)
  exact ⟨typeIs_str s z t,fun _ e=>nomatch e⟩
 | int i =>
  obtain ⟨t,rfl⟩:=r
  cases (show T="int" from ty)
  exact ⟨typeIs_int s i t,fun _ e=>nomatch e⟩
 | ref p =>
  cases r
  rcases ty with ⟨rfl,xs,hq⟩ | ⟨rfl,o,hk,hc,hd⟩ | ⟨rfl,hk⟩ | ⟨rfl,S,n,hk⟩
  ·obtain ⟨its,_,pl,_⟩:=I.list hq
   refine ⟨pl.isList.typeIs,fun a e=>?_⟩
   cases e
   obtain ⟨o,n,e,c,hd,_⟩:=pl
   exact ⟨o,e,hd⟩
  ·refine ⟨⟨o,I.kIn p o hk,hc⟩,fun a e=>?_⟩
   cases e
   exact ⟨o,I.kIn _ o hk,hd⟩
  ·have z:∃ o,s.heap.get? p=some o∧o.ExactDict:=by
    rcases hk with ⟨kvs,hk⟩ | ⟨kvs,hk⟩
    ·obtain ⟨_,_,_,_,o,_,_,e,ex,_⟩:=I.hok p _ hk
     exact ⟨o,e,ex⟩
    ·obtain ⟨_,_,_,_,o,_,_,e,ex,_⟩:=I.hok p _ hk
     exact ⟨o,e,ex⟩
   obtain ⟨o,e,ex⟩:=z
   refine ⟨⟨o,e,ex.1⟩,fun a e2=>?_⟩
   cases e2
   exact ⟨o,e,ex.2.1⟩
  ·obtain ⟨o,_,_,_,e,ex,_⟩:=I.hok p _ hk
   refine ⟨⟨o,e,ex.1⟩,fun a e2=>?_⟩
   cases e2
   exact ⟨o,e,ex.2.1⟩
 | _=>exact False.elim ty
def tBM (K:PySem.W.Frag) (T:String) (r:V→List V→Hp→VK→Prop) (to:TE) (t:TA):TE:=fun σ H Q=>to σ H fun x H1=>tyV K T x H1∧t σ H1 fun xs H2=>r x xs H2 Q
variable {o e:Expr} {es:List Expr} {to:TE} {t:TA} {name:Str} {apos cpos:Pos} {T id:String} {r:V→List V→Hp→VK→Prop}
theorem pe_bm (pa:PlainAttrs T) (slot:Slot T name id) (hty:typeOf (.builtin id)=pure (.type "method_descriptor")) (hm:MtR X id r) (ho:PE X o to) (ha:PA X (e::es) t)
  (hbase:attributeBase o name X.env (eval o X.env)=eval o X.env:=by rfl)
  (hfew:((backTo cpos (starEach (e::es) X.env)).all (fun x=>!x.1) && (backToKw cpos (keywordEach [] X.env)).all (fun x=>x.1.isSome)
   && decide ((e::es).length+([]:List Keyword).length+(if ([]:List Keyword).isEmpty then 0 else 1)<30))=true:=by rfl)
  (hline:(apos.endLine == cpos.line)=true:=by rfl) (hs:starEach (e::es) X.env=(false,eval e X.env)::starEach es X.env:=by rfl) (hplain:(backTo cpos (starEach es X.env)).any (·.1)=false:=by rfl) :
  PE X (.Call (.Attribute o name apos) (e::es) [] cpos) (tBM X.K T r to t):=by
 intro pins s σ H Q I h
 refine wpAny_Call_method_late hbase hfew hline rfl (thn (ho pins s σ H _ I h) fun v s1 ⟨x,H1,I1,r1,ty,q1⟩=>?_)
 obtain ⟨h1,h2⟩:=tyV_is I1 r1 ty
 refine ⟨T,id,pa,slot,hty,h1,h2,?_⟩
 have hA:=ha cpos pins s1 σ H1 _ I1 q1
 rw [hs] at hA ⊢
 refine Calls.callWith_builtin (by show (false || (backTo cpos (starEach es X.env)).any (·.1))=false; rw [hplain] <;> rfl) (Calls.evalArgs_plain ?_)
 exact thn hA fun us s2 ⟨vs,H2,I2,r2,q2⟩=>hm pins s2 σ H2 x vs v us Q I2 r1 r2 q2
end
end L2
namespace L2
open PySem PySem.Spec PyProof.Rows
def MtM (X:Cx) (id:String) (r:V→List V→Hp→VK→Prop):Prop :=
 ∀ (pins:List (Addr×Obj)) (s:Shared) (σ:St) (H:Hp) (x:V) (xs:List V) (v:Value) (us:List Value) (Q:VK),Inv X pins σ H s→RelV x v→Vals xs us→r x xs H Q →
  wpAny (model X.prog X.w) X.A (call (.builtin id) (v::us)) (EP X pins σ Q) X.xe s
theorem Vals.one:∀ {x:V} {us:List Value},Vals [x] us→∃ u,us=[u]∧RelV x u
 | _,_,.cons r .nil=>⟨_,rfl,r⟩
theorem Vals.two:∀ {x y:V} {us:List Value},Vals [x,y] us→∃ u v,us=[u,v]∧RelV x u∧RelV y v
 | _,_,_,.cons r (.cons q .nil)=>⟨_,_,rfl,r,q⟩
theorem Vals.zero:∀ {us:List Value},Vals [] us→us=[]
 | _,.nil=>rfl
theorem Vals.reverse {xs:List V} {us:List Value} (h:Vals xs us):Vals xs.reverse us.reverse:=by
 induction h with
 | nil=>exact .nil
 | cons r t ih=>rw [List.reverse_cons,List.reverse_cons]; exact Vals.append ih (.cons r .nil)
theorem Vals.rep {xs:List V} {us:List Value} (h:Vals xs us):∀ k:Nat,Vals (List.replicate k xs).flatten (List.replicate k us).flatten
 | 0=>.nil
 | k+1=>by
  rw [List.replicate_succ,List.replicate_succ,List.flatten_cons,List.flatten_cons]
  exact Vals.append h (Vals.rep h k)
theorem foldl_rep (its:List Value):∀ (k:Nat) (acc:List Value),
  List.foldl (fun x1 x2=>x1++x2) acc.toArray (List.replicate k its.toArray)=(acc++(List.replicate k its).flatten).toArray
 | 0,acc=>by simp
 | k+1,acc=>by
  have e:acc.toArray++its.toArray=(acc++its).toArray:=by simp
  have e2:(acc++its)++(List.replicate k its).flatten=acc++(List.replicate (k+1) its).flatten:=by
   rw [List.replicate_succ,List.flatten_cons,List.append_assoc]
  rw [← e2,← foldl_rep its k (acc++its),← e,List.replicate_succ,List.foldl_cons]
section
variable {X:Cx} {pins:List (Addr×Obj)} {σ:St} {H:Hp} {s:Shared} {l b:Addr} {xs ys zs:List V}
theorem Inv.lset {its its':List Value} {n:Nat} {f:Array Value→Array Value} {t':Nat} (I:Inv X pins σ H s) (hH:H l=some (.lst xs))
  (e:s.heap.get? l=some { cls:=.type "list",data:=.seq its.toArray n }) (hf:f its.toArray=its'.toArray) (hv:Vals ys its') (hz:ys.length≤sizeLine) :
  Inv X pins σ (upd H l (.lst ys)) { s with heap:=s.heap.update l (Obj.mapSeq f),toks:=t' }:=by
 have q:=PySem.IsL.update e f
 rw [hf] at q
 refine I.write (x:=l) (e:=l) (by rw [hH]; exact trivial) (.inl rfl) (fun b' u hb hu=>(Heap.get?_update_other s.heap (Obj.mapSeq f) (Ne.symm hb)).trans hu) ⟨_,q⟩ ?_
 exact ⟨hz,its',_,hv,q⟩
theorem Inv.lnew {its:List Value} {t':Nat} (I:Inv X pins σ H s) (hv:Vals ys its) (hz:ys.length≤sizeLine) :
  Inv X pins σ (upd H s.heap.objs.size (.lst ys)) { s with heap:=s.heap.push { cls:=.type "list",data:=.seq its.toArray },toks:=t' } :=
 I.laid (fun _ _ q=>Heap.get?_push_of_some _ q) (Nat.le_refl _) ⟨hz,its,0,hv,Heap.get?_push_size _ rfl⟩
theorem Inv.fresh (I:Inv X pins σ H s):H s.heap.objs.size=none:=I.hok.fresh (Nat.le_refl _)
theorem Inv.lstM (I:Inv X pins σ H s) (hH:H l=some (.lst xs)):xs.length≤sizeLine∧∃ (its:List Value) (n:Nat),Vals xs its∧xs.length=its.length∧s.heap.get? l=some { cls:=.type "list",data:=.seq its.toArray n }:=by
 obtain ⟨z,its,n,r,e⟩:=I.hok l _ hH
 exact ⟨z,its,n,r,r.length,e⟩
theorem notLongL {n:Nat} (h:n≤sizeLine):Builtin.List.listTooLong n=false:=by
 unfold Builtin.List.listTooLong
 exact decide_eq_false (by omega)
end
section
variable {X:Cx}
def rAppend:V→List V→Hp→VK→Prop:=fun x vs H Q=>∃ l xs y,x=.ref l∧vs=[y]∧H l=some (.lst xs)∧xs.length<sizeLine∧Q .non (upd H l (.lst (xs++[y])))
theorem mt_append:MtM X "list.append" rAppend:=by
 intro pins s σ H x vs v us Q I rx rv h
 obtain ⟨l,xs,y,rfl,rfl,hH,hz,q⟩:=h
 cases rx
 obtain ⟨u,rfl,ru⟩:=rv.one
 obtain ⟨z,its,n,r,hl,e⟩:=I.lstM hH
 refine call_meets F.slot_list_append ⟨_,e,rfl⟩ F.entry_list_append (F.args_list_append_2 _ _) (PySem.list_append l its.toArray n u (by rw [List.size_toArray]; omega)) ⟨e,?_⟩
 refine ⟨.non,_,I.lset (its':=its++[u]) hH e (by simp) (r.append (.cons ru .nil)) ?_,rfl,q⟩
 rw [List.length_append,List.length_singleton]
 omega
def rCat:R2:=fun x y H Q=>∃ l b xs zs,x=.ref l∧y=.ref b∧H l=some (.lst xs)∧H b=some (.lst zs)∧xs.length+zs.length≤sizeLine∧∀ p,H p=none→Q (.ref p) (upd H p (.lst (xs++zs)))
theorem op_cat:OpR X (binaryOp .Add) rCat:=by
 intro pins s σ H x y v u Q I rx ry h
 obtain ⟨l,b,xs,zs,rfl,rfl,hH,hB,hz,q⟩:=h
 cases rx
 cases ry
 obtain ⟨z,its,n,r,hl,e⟩:=I.lstM hH
 obtain ⟨z2,its2,n2,r2,hl2,e2⟩:=I.lstM hB
 refine PySem.P.add_list e e2 ?_ (by rw [List.size_toArray,List.size_toArray]; omega)
 have ea:its.toArray++its2.toArray=(its++its2).toArray:=by simp
 rw [ea]
 exact ⟨.ref _,_,I.lnew (t':=s.toks) (r.append r2) (by rw [List.length_append]; omega),rfl,q _ I.fresh⟩
def rRep:R2:=fun x y H Q=>∃ l k xs,x=.ref l∧y=.int k∧H l=some (.lst xs)∧-(2 ^ 63)≤k∧k<2 ^ 63∧xs.length * k.toNat≤sizeLine ∧
 ∀ p,H p=none→Q (.ref p) (upd H p (.lst (List.replicate k.toNat xs).flatten))
theorem len_rep {α:Type} (xs:List α) (k:Nat):(List.replicate k xs).flatten.length=k * xs.length:=by
 induction k with
 | zero=>simp
 | succ k ih=>rw [List.replicate_succ,List.flatten_cons,List.length_append,ih,Nat.succ_mul,Nat.add_comm]
theorem op_rep:OpR X (binaryOp .Mult) rRep:=by
 intro pins s σ H x y v u Q I rx ry h
 obtain ⟨l,k,xs,rfl,rfl,hH,h1,h2,hz,q⟩:=h
 cases rx
 obtain ⟨t,rfl⟩:=ry
 obtain ⟨z,its,n,r,hl,e⟩:=I.lstM hH
 have hlen:its.toArray.size * k.toNat≤sizeLine:=by rw [List.size_toArray,← hl]; exact hz
 have hcap:¬ its.toArray.size * k.toNat>(2 ^ 63 - 1) / 8:=by
  have:(sizeLine:Nat)≤(2 ^ 63 - 1) / 8:=by decide
  omega
 have hfit:¬ (!Builtin.List.listFitsIndex k)=true:=by
  rw [fitsIndex_both h1 h2]
  exact Bool.false_ne_true
 have hlong:¬ Builtin.List.listTooLong (its.toArray.size * k.toNat)=true:=by
  rw [notLongL hlen]
  exact Bool.false_ne_true
 have hnew:List.foldl (fun x1 x2=>x1++x2) #[] (List.replicate (if its.toArray.isEmpty=true then 0 else k.toNat) its.toArray)=(List.replicate k.toNat its).flatten.toArray:=by
  have f0:∀ m:Nat,List.foldl (fun x1 x2=>x1++x2) #[] (List.replicate m its.toArray)=(List.replicate m its).flatten.toArray:=fun m=>by
   have:=foldl_rep its m []
   rw [List.nil_append] at this
   exact this
  rw [f0]
  cases its with
  | nil=>simp
  | cons a r'=>rw [if_neg (by simp)]
 refine wpAny_binaryOp_repeat_ref (T:="list") (U:="int") (by decide) ⟨_,e,rfl⟩ (fun s'=>typeIs_int s' k t) noFill_list_mul F.fills_int_mul F.slot_int_rmul repeat_list F.slot_int_index.lookup
  (call_meets F.slot_int_rmul (typeIs_int s k t) F.entry_int_rmul (F.args_int_rmul_2 _ _) (int___rmul___int_list k t l its.toArray n)
   ⟨e,rfl,⟨_,e,rfl⟩,call_meets F.slot_list_mul ⟨_,e,rfl⟩ F.entry_list_mul (F.args_list_mul_2 _ _) (AutoListH.list___mul___list_int_3 l its.toArray n k t hfit hcap hlong) ⟨e,?_⟩⟩)
 rw [hnew]
 exact ⟨.ref _,_,I.lnew (t':=s.toks) (r.rep k.toNat) (by rw [len_rep,Nat.mul_comm]; exact hz),rfl,q _ I.fresh⟩
end
section
variable {prog:Program} {w:World} {A:Around} {E:Value→Shared→Prop} {s:Shared}
end
section
variable {X:Cx}
end
end L2
namespace Att
open PySem PySem.W PySem.Calls PyProof.Rows
theorem ints_of_wellAll {P:Params} {h:Heap}:∀ (ns:List Int) (vs:List Value),WellAll P h vs (ns.map WData.int)→IntsAre vs ns:=by
 intro ns
 induction ns with
 | nil =>
  intro vs w
  rw [List.map_nil] at w
  cases w
  exact .nil
 | cons n ns ih =>
  intro vs w
  rw [List.map_cons] at w
  cases w with
  | cons a b =>
   cases a
   exact .cons _ _ (ih _ b)
theorem script_of {l:OpenLaw} {n:Nat} (hn:l.most=some n) {P:Params} {h:Heap} {args:List WData} {vals:List Value}
  (hpre:l.row.toRowW.claim.pre args=true) (hwl:WellAll P h vals args) :
  ∃ a vs ns,vals=[Value.ref a]∧args=[WData.list (ns.map WData.int)]∧h.get? a=some { cls:=.type "list",data:=.seq vs.toArray }∧IntsAre vs ns∧ns.length≤n:=by
 have hsh:WShape.hasAll [] args [.list .int]=true:=(pre_splitW hpre).1
 have hc:l.pre.holds [] { args:=args }=true:=(pre_splitW hpre).2
 obtain ⟨d,r,rfl,h1,h2⟩:=hasAllW_cons hsh
 obtain rfl:=hasAllW_nil h2
 obtain ⟨xs,rfl,h3⟩:=hasW_list h1
 obtain ⟨ns,rfl⟩:=items_int h3
 have hlen:ns.length≤n:=by
  unfold OpenLaw.pre at hc
  have h4:(WTm.not (.lt (.lit (.int (n:Int))) (.len (.arg 0)))).holds [] { args:=[.list (ns.map .int)] }=true:=by
   have h4:=(holds_andW hc).1
   rw [hn] at h4
   exact h4
  have h5:=condW_of h4 (w_not (w_lt w_lit (w_len_list (w_arg rfl))))
  rw [List.length_map] at h5
  refine Nat.le_of_not_lt fun q=>?_
  have q':(n:Int)<((ns.length:Nat):Int):=by omega
  first
   | (rw [decide_eq_true q'] at h5; exact absurd h5 (by decide))
   | (simp at h5; omega)
 cases hwl with
 | cons w1 w2 =>
  cases w2
  cases w1 with
  | list ho hall=>exact ⟨_,_,ns,rfl,rfl,ho,ints_of_wellAll ns _ hall,hlen⟩
theorem post_true (l:OpenLaw) (args:List WData):l.row.toRowW.claim.post args (.bool true) args=true :=
 postW_of (r:=l.row.toRowW) (X:=(true == true))
  (show WShape.has [] (.bool true) .bool=true by first | rfl | decide | simp [WShape.has,WShape.arms,WShape.armsAll])
  (show (WTm.eq .res (.lit (.bool true))).value [] { args:=args,res:=some (.bool true),after:=args }=some (.bool (true == true)) from w_eq_bool (w_res rfl) w_lit) rfl
theorem attach_call {l:OpenLaw} {n:Nat} {q:Program} {loose:List Str} {XP:(Str→Option Value)→Heap→Prop} {YP:World→Heap→Prop} {d:DefRec}
  (hn:l.most=some n) (hdf:d.params.defaults=[])
  (call:∀ (w:World) (s₀ s₁:Shared) (mg mb:Str→Option Value) (fa:Addr) (o:Obj) (pm cd doc:Value) (a:Addr) (vs:List Value) (ns:List Int),
   Ground q loose [] XP w s₀ mg mb s₁.heap→YP w s₁.heap →
   s₁.heap.get? fa=some o→o.data=.func (docDef d.name d.params d.body d.scope pm cd doc)→s₁.heap.CodeRec cd d.name→mg d.name=some (.ref fa) →
   s₁.heap.get? a=some { cls:=.type "list",data:=.seq vs.toArray }→IntsAre vs ns→ns.length≤n→s₁.gens=#[] →
   codeAny (model l.prog w) callerA (.call (.ref fa) ⟨[.ref a],[]⟩) (fun r s'=>r=.ok (.ret (.bool true))∧OldK s₁.heap s'.heap∧s'.os=s₁.os∧AllBare s'.gens) s₁) :
  WalkO q loose XP YP l.row.toRowW d [] (fun f vs=>PySem.call f vs):=by
 intro w s₀ s₁ mg mb G Y fa o pm cd doc dV kV ho hd hcd hD hmg hg args vals as hpre hlay hrd hwl hlo
 obtain rfl:dV=.none:=Dflts.none hD hdf
 obtain rfl:kV=.none:=Dflts.noKw hD
 obtain ⟨a,vs,ns,rfl,rfl,hobj,hints,hlen⟩:=script_of hn hpre hwl
 refine enter_call (codeAny_mono (call w s₀ s₁ mg mb fa o pm cd doc a vs ns G Y ho (fd_plain hd) hcd hmg hobj hints hlen hg) fun r s' hq=>?_)
 obtain ⟨rfl,h2,h3,h4⟩:=hq
 exact ⟨.inl ⟨.bool true,.bool true,[],rfl,fun _=>rfl,.bool true,post_true l _,fun _=>⟨List.Pairwise.nil,fun _ hm=>(nomatch hm)⟩⟩,h2,h3,h4⟩
section
variable {prog:Program} {w:World} {A:Around} {E:Value→Shared→Prop} {s:Shared} {K:Frag}
def ledger (h:Heap) (L d:Addr):List (Addr×Obj):=(List.range h.objs.size).filterMap fun a=>if a=L∨a=d then none else (h.get? a).map fun o=>(a,o)
end
end Att
namespace L2
open PySem PySem.Spec PyProof.Rows
theorem vals_ints:∀ {vs:List Value} {ns:List Int},IntsAre vs ns→Vals (ns.map V.int) vs
 | _,_,.nil=>.nil
 | _,_,.cons n t h=>.cons ⟨t,rfl⟩ (vals_ints h)
def Only (H:Hp):Prop:=∀ b,H b=none∨∃ o xs,H b=some (.frz o (.lst xs))
theorem law_call {P:Program} {w:World} {K:PySem.W.Frag} {mg mb:Str→Option Value} {CX:CXT} {k:Nat} {fa a:Addr} {fd:FuncData} {x:Str} {sp:Sp} {s₁:Shared} {vs:List Value} {ns:List Int}
  (KX:K.In s₁.heap) (hns:s₁.heap.Ns mainGlobals mg) (hb:s₁.heap.Ns builtinsNs mb) (hbb:∀ x:Str,x≠"__name__"→mb x=bootBuiltins x) (hlim:s₁.heap.NoLimit) (hg:s₁.gens=#[])
  (ha:s₁.heap.get? a=some { cls:=.type "list",data:=.seq vs.toArray }) (hi:IntsAre vs ns) (hl:ns.length≤sizeLine) (hr:Room k callerA)
  (F:∀ base:Heap,K.In base→base.Ns mainGlobals mg→FnOk P w K mg base CX k fa fd [x] sp) (hbind:∀ (s:Shared) (u:Value),BindsTo s fd ⟨[u],[]⟩ [(x,u)])
  (hsp:∀ H:Hp,Only H→SqL K H a (ns.map V.int)→sp [.ref a] H (fun v _=>v=.bl true) fun _ _ _=>False)
  (hCX:∀ H e s',CX [] H s₁ (fun _ _ _=>False) e s'→False) :
  codeAny (model P w) callerA (.call (.ref fa) ⟨[.ref a],[]⟩) (fun r s'=>r=.ok (.ret (.bool true))∧OldK s₁.heap s'.heap∧s'.os=s₁.os∧AllBare s'.gens) s₁:=by
 have rv:=vals_ints hi
 have lenV:=hi.length
 have core:∀ H:Hp,Only H→SqL K H a (ns.map V.int)→HOk P w H s₁.heap→(∀ b,H b≠none→b=a)→(H a≠none→K.lookup a=none) →
   codeAny (model P w) callerA (.call (.ref fa) ⟨[.ref a],[]⟩) (fun r s'=>r=.ok (.ret (.bool true))∧OldK s₁.heap s'.heap∧s'.os=s₁.os∧AllBare s'.gens) s₁:=by
  intro H hO hS hok hA hK
  have base_of:∀ {b:Addr} {o:Obj},s₁.heap.get? b=some o→H b=none→(hidT s₁.heap H).get? b=some o:=fun e n=>hidT_get e n
  have noA:∀ {b:Addr} {o:Obj} {es:Array DictEntry} {ep:Nat},s₁.heap.get? b=some o→o.data=.dict es ep→H b=none:=fun {b o es ep} e d=>by
   cases q:H b with
   | none=>rfl
   | some u =>
    have e':b=a:=hA b (by rw [q]; simp)
    subst e'
    rw [ha] at e; cases e
    have d':Data.seq vs.toArray _=Data.dict es ep:=d
    cases d'
  have nsK:∀ {b:Addr} {m:Str→Option Value},s₁.heap.Ns b m→(hidT s₁.heap H).Ns b m:=fun {b m} ⟨o,es,ep,e,d,r⟩=>⟨o,es,ep,base_of e (noA e d),d,r⟩
  have hKb:K.In (hidT s₁.heap H):=fun b o e=>base_of (KX b o e) (by
   cases q:H b with
   | none=>rfl
   | some u =>
    have e':b=a:=hA b (by rw [q]; simp)
    subst e'
    rw [hK (by rw [q]; simp)] at e; cases e)
  have hM:Mod K mg (hidT s₁.heap H):=⟨hKb,nsK hns,⟨mb,nsK hb,hbb⟩,let ⟨mc,h1,h2⟩:=hlim; ⟨mc,nsK h1,h2⟩⟩
  have e0:Env0 P w K mg (hidT s₁.heap H) callerA [] s₁ H:=⟨rfl,hM,fun b o e=>of_hidT e,Nat.le_of_eq (hidT_size _ _),trivial,fun b hb=>absurd (show b∈([]:List Addr) from hb) (by simp),hok,.of_eq hg⟩
  refine codeAny_mono ((F _ hKb (nsK hns)).run callerA [] s₁ H ⟨[.ref a],[]⟩ [.ref a] [.ref a] _ _ hr e0 (hbind s₁ (.ref a)) (.cons rfl .nil) (hsp H hO hS)) fun r s' h=>?_
  cases r with
  | error e=>exact (hCX H e s' h).elim
  | ok fl =>
   cases fl with
   | next=>exact False.elim h
   | brk=>exact False.elim h
   | cont=>exact False.elim h
   | ret u =>
    obtain ⟨v,H',os,bare,un,hok',r',q⟩:=h
    have q':v=.bl true:=q
    subst q'
    obtain rfl:u=Value.bool true:=r'
    refine ⟨rfl,OldK.of_keep fun b o e=>?_,os,bare⟩
    cases q:H b with
    | none=>exact un.keep b o e q (by intro z; exact absurd (show b∈([]:List Addr) from z) (by simp)) (by simp)
    | some u =>
     rcases hO b with z | ⟨ob,xs,z⟩
     ·rw [q] at z; cases z
     ·have z2:=un.frzs b ob _ z
      obtain ⟨e1,_⟩:=hok b _ z
      obtain ⟨e2,_⟩:=hok' b _ z2
      rw [e] at e1; cases e1
      exact e2
 cases hk:K.lookup a with
 | some o =>
  have e:=KX a o hk
  rw [ha] at e
  cases e
  refine core (fun _=>none) (fun _=>.inl rfl) (.inr ⟨_,vs.toArray,_,hk,rfl,rfl,rfl,by rw [List.size_toArray,lenV]; exact hl,by simpa using rv⟩) (fun b u z=>by have z':(none:Option HO)=some u:=z; cases z') (fun b z=>absurd rfl z) fun z=>absurd rfl z
 | none =>
  refine core (fun b=>if b=a then some (.frz { cls:=.type "list",data:=.seq vs.toArray } (.lst (ns.map V.int))) else none) (fun b=>?_) (.inl (.inr ⟨{ cls:=.type "list",data:=.seq vs.toArray },if_pos rfl⟩)) (fun b u z=>?_) (fun b z=>?_) fun _=>hk
  ·by_cases hb:b=a
   ·exact .inr ⟨_,_,if_pos hb⟩
   ·exact .inl (if_neg hb)
  ·by_cases hb:b=a
   ·have z':=(if_pos hb).symm.trans z
    cases z'
    subst hb
    exact ⟨ha,by rw [List.length_map]; exact hl,vs,_,rv,ha⟩
   ·have z':=(if_neg hb).symm.trans z
    cases z'
  ·by_cases hb:b=a
   ·exact hb
   ·exact absurd (if_neg hb) z
end L2
namespace L2
open PySem PySem.Spec PyProof.Rows
abbrev KOf {K:PySem.W.Frag} {h:Heap} (_:K.In h):PySem.W.Frag:=K
theorem walk_of {l:PySem.W.OpenLaw} {n k:Nat} {q:Program} {loose:List Str} {XP:(Str→Option Value)→Heap→Prop} {YP:World→Heap→Prop} {d:DefRec} {K:Params→PySem.W.Frag} {CX:World→CXT} {sp:World→Sp} {x:Str}
  (hn:l.most=some n) (hn2:n≤sizeLine) (hdf:d.params.defaults=[]) (hr:Room k callerA)
  (hY:∀ (w:World) (h:Heap),YP w h→(K w.params).In h)
  (F:∀ (w:World) (mg:Str→Option Value) (fa:Addr) (h:Heap),(K w.params).In h→h.Ns mainGlobals mg→mg d.name=some (.ref fa) →
   ∃ fd:FuncData,(∀ (s:Shared) (u:Value),BindsTo s fd ⟨[u],[]⟩ [(x,u)]) ∧
    ∀ base:Heap,(K w.params).In base→base.Ns mainGlobals mg→FnOk l.prog w (K w.params) mg base (CX w) k fa fd [x] (sp w))
  (hsp:∀ (w:World) (H:Hp) (a:Addr) (ns:List Int),ns.length≤n→Only H→SqL (K w.params) H a (ns.map V.int)→sp w [.ref a] H (fun v _=>v=.bl true) fun _ _ _=>False)
  (hCX:∀ (w:World) (H:Hp) (s:Shared) (e:Value) (s':Shared),CX w [] H s (fun _ _ _=>False) e s'→False) :
  PySem.W.WalkO q loose XP YP l.row.toRowW d [] (fun f vs=>PySem.call f vs):=by
 refine Att.attach_call hn hdf fun w s₀ s₁ mg mb fa o pm cd doc a vs ns G Y ho hd hcd hmg hobj hints hlen hg=>?_
 have KX:=hY w _ Y
 obtain ⟨fd,hb,hF⟩:=F w mg fa _ KX G.T.g hmg
 exact law_call KX G.T.g G.T.b G.T.builtins G.T.nolimit hg hobj hints (Nat.le_trans hlen hn2) hr hF hb (fun H hO hS=>hsp w H a ns hlen hO hS) fun H e s'=>hCX w H s₁ e s'
end L2
namespace L2
open PySem PySem.Spec PyProof.Rows
def inClass (s:Stmt) (j:Nat):Stmt:=match s with
 | .ClassDef _ _ _ body _ _ _ _ _ _ _=>body.getD j (.Pass ⟨0,0,0,0⟩)
 | _=>.Pass ⟨0,0,0,0⟩
def defArgs (s:Stmt):Arguments:=match s with
 | .FunctionDef _ a _ _ _ _ _ _ _ _=>a
 | _=>{ posonlyargs:=[],args:=[],vararg:=none,kwonlyargs:=[],kw_defaults:=[],kwarg:=none,defaults:=[] }
def defBody (s:Stmt):List Stmt:=match s with
 | .FunctionDef _ _ b _ _ _ _ _ _ _=>b
 | _=>[]
def defScope (s:Stmt):Scope:=match s with
 | .FunctionDef _ _ _ _ _ _ sc _ _ _=>sc
 | _=>{ kind:=.function,names:=[],isGenerator:=false,isCoroutine:=false }
abbrev CX0:CXT:=fun _ _ _ _ _ _=>False
abbrev E0:XK:=fun _ _ _=>False
theorem pass0 {X:Cx}:Passes CX0 X E0:=fun _ _ _ _ _ _ _ h=>h.elim
structure Fun (K:PySem.W.Frag) (x qual:Str) (st:Stmt) (f:Addr) (fd:FuncData):Prop where
 ex:∃ (oc:Value) (od:Option Addr) (kV doc pm:Value) (an:Option Addr) (cdv ct:Value) (osl:Array (Option Value)),
  fd=PySem.W.fnOf x qual (defArgs st) (defBody st) (defScope st) .none kV doc pm an cdv ct∧K.lookup f=some ⟨oc,od,.func fd,osl⟩∧PySem.W.codeIn K cdv qual=true
 kp:PySem.W.keepIn K (.ref f)=true
section
variable {P:Program} {w:World} {K:PySem.W.Frag} {mg:Str→Option Value} {base:Heap}
theorem Fun.ok {x qual:Str} {st:Stmt} {f:Addr} {fd:FuncData} {N ps:List Str} {k:Nat} {sp:Sp} (F:Fun K x qual st f fd) (S:FnScope N ps (defScope st)) (len:∀ vs H Q E,sp vs H Q E→vs.length=ps.length)
  (hbody:∀ (cdv:Value) (A:Around) (outer:List Env) (s:Shared) (H:Hp) (vs:List V) (Q:VK) (E:XK),Room k (A.deeper (envOfC qual (defScope st) s.heap.objs.size f cdv))→sp vs H Q E →
   ∃ t,PSs (cxOf CX0 P w K mg base N qual (defScope st) f cdv A outer s H E).nox (defBody st) t∧t { nx:=fun _ H'=>Q .non H',rt:=Q } (start N vs) H):FnOk P w K mg base CX0 (k+1) f fd ps sp:=by
 obtain ⟨oc,od,kV,doc,pm,an,cdv,ct,osl,rfl,lk,hcd⟩:=F.ex
 refine fn_of lk hcd S len fun A outer s H vs Q E hr hsp=>?_
 obtain ⟨t,h,q⟩:=hbody cdv A outer s H vs Q E hr hsp
 exact ⟨t,h.nox,q⟩
theorem Fun.binds {x qual:Str} {st:Stmt} {f:Addr} {fd:FuncData} {ps:List Str} (F:Fun K x qual st f fd)
  (h:∀ (kV doc pm:Value) (an:Option Addr) (cdv ct:Value) (us:List Value),us.length=ps.length→bindArgs (PySem.W.fnOf x qual (defArgs st) (defBody st) (defScope st) .none kV doc pm an cdv ct) ⟨us,[]⟩=pure (ps.zip us)):Binds K fd ps []:=by
 obtain ⟨oc,od,kV,doc,pm,an,cdv,ct,osl,rfl,lk,hcd⟩:=F.ex
 exact .all (h kV doc pm an cdv ct)
theorem fun_mk {x qual:Str} {st:Stmt} {f:Addr} {oc:Value} {od an:Option Addr} {osl:Array (Option Value)} {kV doc pm cdv ct:Value} (l:K.lookup f=some ⟨oc,od,.func (PySem.W.fnOf x qual (defArgs st) (defBody st) (defScope st) .none kV doc pm an cdv ct),osl⟩)
  (c:PySem.W.codeIn K cdv qual=true) (k:PySem.W.keepIn K (.ref f)=true):Fun K x qual st f (PySem.W.fnOf x qual (defArgs st) (defBody st) (defScope st) .none kV doc pm an cdv ct):=⟨⟨oc,od,kV,doc,pm,an,cdv,ct,osl,rfl,l,c⟩,k⟩
end
theorem small1000 {n:Nat} (h:n≤1000):n<sizeLine:=Nat.lt_of_le_of_lt h (by decide)
section
variable {X:Cx}
theorem pv (i:Nat) {x:Str} {pos:Pos} (hN:X.N[i]?=some x:=by rfl) (hv:Vis X.env.scope x:=by first | exact Or.inl rfl | exact Or.inr (Or.inl rfl) | exact Or.inr (Or.inr rfl)) (hd:(x == ("__debug__":Str))=false:=by decide)
  (hcd:(x == ("__classdict__":Str))=false:=by decide):PE X (.Name x pos) (tVar i):=pe_var hN hv hd hcd
end
theorem iteF {A B:Prop} (h:B):if false=true then A else B:=by
 rw [if_neg Bool.false_ne_true]
 exact h
theorem iteT {A B:Prop} (h:A):if true=true then A else B:=by
 rw [if_pos rfl]
 exact h
theorem ite2 {c A B:Prop} [Decidable c] (h1:c→A) (h2:¬ c→B):if c then A else B:=by
 by_cases h:c
 ·rw [if_pos h]
  exact h1 h
 ·rw [if_neg h]
  exact h2 h
theorem iteNS {c A B:Prop} [Decidable c] (hc:c) (h:B):if (!decide c)=true then A else B:=by
 rw [decide_eq_true hc]
 exact iteF h
def Same (H H':Hp):Prop:=∀ b o,H b=some o→H' b=some o
theorem Same.refl (H:Hp):Same H H:=fun _ _ h=>h
theorem Same.trans {H H1 H2:Hp} (a:Same H H1) (b:Same H1 H2):Same H H2:=fun c o h=>b c o (a c o h)
theorem Same.free {H H':Hp} (e:Same H H') {l:Addr} (h:H' l=Option.none):H l=Option.none:=by
 cases q:H l with
 | none=>rfl
 | some o =>
  rw [e l o q] at h
  cases h
theorem Same.seq {K:PySem.W.Frag} {H H':Hp} {a:Addr} {xs:List V} (e:Same H H') (h:SqL K H a xs):SqL K H' a xs:=by
 rcases h with (h | ⟨o,h⟩) | h
 ·exact .inl (.inl (e _ _ h))
 ·exact .inl (.inr ⟨o,e _ _ h⟩)
 ·exact .inr h
end L2
namespace L2
open PySem PySem.Spec PyProof.Rows
def iota (n:Nat):List Int:=(List.range n).map fun k=>((k:Nat):Int)
theorem iota_length (n:Nat):(iota n).length=n:=by simp [iota]
theorem iota_succ (n:Nat):iota (n+1)=iota n++[(n:Int)]:=by simp [iota,List.range_succ]
theorem mem_iota {n:Nat} {x:Int}:x∈iota n↔0≤x∧x<n:=by
 unfold iota
 rw [List.mem_map]
 constructor
 ·rintro ⟨k,hk,rfl⟩
  rw [List.mem_range] at hk
  omega
 ·rintro ⟨h1,h2⟩
  exact ⟨x.toNat,List.mem_range.mpr (by omega),by omega⟩
theorem iota_nodup (n:Nat):(iota n).Nodup:=by
 unfold iota
 exact List.Pairwise.map _ (fun a b h z=>h (by omega)) List.nodup_range
theorem iota_sorted (n:Nat):(iota n).Pairwise (·≤·):=by
 induction n with
 | zero=>exact .nil
 | succ n ih =>
  rw [iota_succ,List.pairwise_append]
  refine ⟨ih,List.pairwise_singleton _ _,fun a ha b hb=>?_⟩
  have h1:=mem_iota.mp ha
  have h2:b=(n:Int):=by simpa using hb
  omega
section
variable {X:Cx}
theorem line20:(1048576:Nat)≤sizeLine:=by rw [sizeLine_eq]; decide
def rSorted (K:PySem.W.Frag):List V→Hp→VK→Prop:=fun xs H Q=>∃ (p:Addr) (ns:List Int),xs=[.ref p]∧SqL K H p (ns.map V.int)∧ns.length<64∧∀ (l:Addr) (ms:List Int),H l=none→ms.Perm ns→ms.Pairwise (·≤·)→Q (.ref l) (upd H l (.lst (ms.map V.int)))
theorem call_sorted:CallR X (.builtin "sorted") (rSorted X.K):=by
 intro pins s σ H xs us Q I r h
 obtain ⟨p,ns,rfl,hq,hl,q⟩:=h
 obtain ⟨u,rfl,rx⟩:=vals1 r
 cases rx
 obtain ⟨its,rv,pl,hz⟩:=I.list hq
 have hi:IntsAre its ns:=intsAre_of rv
 have hlen:=rv.length
 rw [List.length_map] at hlen hz
 refine PyProof.Rows.sorted_ints pl.isList hi (by omega) fun out ms a1 a2 a3=>?_
 obtain ⟨e,he⟩:=sortedAll_at s.heap its out
 have hfr:H (s.heap.objs.size+1)=none:=I.hok.fresh (Nat.le_succ _)
 refine ⟨.ref (s.heap.objs.size+1),_,I.laid (t':=s.toks) (o:=.lst (ms.map V.int)) (fun b u q=>sortedAll_old q) (Nat.le_succ _) ⟨?_,out.toList,e,vals_ints a1,?_⟩,rfl,q _ ms hfr a2 a3⟩
 ·rw [List.length_map,a2.length_eq]; exact hz
 ·simpa using he
def rRange1:List V→Hp→VK→Prop:=fun xs H Q=>∃ j,xs=[.int j]∧∀ r,H r=none→Q (.ref r) (upd H r (.rng 0 j))
theorem call_range1:CallR X (.type "range") rRange1:=by
 intro pins s σ H xs us Q I r h
 obtain ⟨j,rfl,q⟩:=h
 obtain ⟨u,rfl,t,rfl⟩:=vals1 r
 refine call_range_1 ⟨.ref s.heap.objs.size,_,I.laid (o:=.rng 0 j) (fun b u q=>Heap.get?_push_of_some _ q) (Nat.le_refl _) ⟨_,_,_,Heap.get?_push_size _ rfl⟩,rfl,q _ (I.hok.fresh (Nat.le_refl _))⟩
def rngV (lo:Int) (n:Nat):List V:=(List.range n).map fun k=>V.int (lo+(k:Nat))
theorem rngV_iota (n:Nat):rngV 0 n=(iota n).map V.int:=by simp [rngV,iota]
theorem vals_items:∀ {n:Nat} {its:List Value} {lo:Int},its.length=n→(∀ (j:Nat) v,its[j]?=some v→∃ t,v=.int (lo+(j:Nat) * 1) t)→Vals (rngV lo n) its
 | 0,[],_,_,_=>.nil
 | n+1,v::its,lo,hl,h=>by
  have e:rngV lo (n+1)=V.int lo::rngV (lo+1) n:=by
   unfold rngV
   rw [List.range_succ_eq_map,List.map_cons,List.map_map]
   congr 1
   ·simp
   ·refine List.map_congr_left fun k _=>?_
    show V.int (lo+((k+1:Nat):Int))=V.int (lo+1+(k:Nat))
    congr 1
    omega
  rw [e]
  obtain ⟨t,ht⟩:=h 0 v rfl
  refine .cons ⟨t,by rw [ht]; simp⟩ (vals_items (by simpa using hl) fun j w hw=>?_)
  obtain ⟨t',ht'⟩:=h (j+1) w (by simpa using hw)
  refine ⟨t',?_⟩
  rw [ht']
  congr 1
  push_cast
  omega
def rListRng:List V→Hp→VK→Prop:=fun xs H Q=>∃ r lo hi,xs=[.ref r]∧H r=some (.rng lo hi)∧-1048576≤lo∧lo≤1048576∧-1048576≤hi∧hi≤1048576∧(hi - lo).toNat≤1048576 ∧
 ∀ l,H l=none→Q (.ref l) (upd H l (.lst (rngV lo (hi - lo).toNat)))
theorem call_list_rng (hc:X.calm=true):CallR X (.type "list") rListRng:=by
 intro pins s σ H xs us Q I r h
 obtain ⟨a,lo,hi,rfl,hr,h1,h2,h3,h4,h5,q⟩:=h
 obtain ⟨u,rfl,rx⟩:=vals1 r
 cases rx
 obtain ⟨t,u,v,e⟩:∃ t u v,s.heap.get? a=some { cls:=.type "range",data:=.fields #[.int lo t,.int hi u,.int 1 v] }:=I.hok a _ hr
 have hn:Builtin.Range.rangeSize lo hi 1=((hi - lo).toNat:Int):=by rw [rangeSize_one]; split <;> omega
 refine call_list_range (n:=(hi - lo).toNat) (I.ok.hd hc) e (small_one (by omega) (by omega) (by omega) (by omega)) hn (by omega) fun h' tk acc c' kp e' items=>?_
 refine ⟨.ref s.heap.objs.size,_,I.laid (o:=.lst (rngV lo (hi - lo).toNat)) kp (Nat.le_refl _) ⟨?_,acc.toList,c',vals_items (by simpa using items.1) fun j w hw=>items.2 j w (by simpa using hw),by simpa using e'⟩,rfl,q _ (I.hok.fresh (Nat.le_refl _))⟩
 have:=line20
 simp [rngV]
 omega
def eqVs:List V→List V→Bool
 | [],[]=>true
 | x::xs,y::ys=>eqV x y && eqVs xs ys
 | _,_=>false
theorem eqVs_len:∀ {xs ys:List V},xs.length≠ys.length→eqVs xs ys=false
 | [],[],h=>absurd rfl h
 | [],_::_,_=>rfl
 | _::_,[],_=>rfl
 | x::xs,y::ys,h=>by
  unfold eqVs
  rw [eqVs_len (xs:=xs) (ys:=ys) (by simpa using h),Bool.and_false]
theorem eqVs_all:∀ {xs ys:List V},xs.length=ys.length→(List.range xs.length).all (fun j=>eqV (xs.getD j .non) (ys.getD j .non))=eqVs xs ys
 | [],[],_=>rfl
 | [],_::_,h=>by cases h
 | _::_,[],h=>by cases h
 | x::xs,y::ys,h=>by
  rw [List.length_cons,List.range_succ_eq_map,List.all_cons,List.all_map]
  unfold eqVs
  rw [← eqVs_all (xs:=xs) (ys:=ys) (by simpa using h)]
  rfl
theorem eqVs_ints:∀ {ns ms:List Int},eqVs (ns.map V.int) (ms.map V.int)=decide (ns=ms)
 | [],[]=>rfl
 | [],_::_=>by simp [eqVs]
 | _::_,[]=>by simp [eqVs]
 | n::ns,m::ms=>by
  show (n == m && eqVs (ns.map V.int) (ms.map V.int))=_
  rw [eqVs_ints]
  by_cases h1:n=m <;> by_cases h2:ns=ms <;> simp [h1,h2]
theorem flat_ints (ns:List Int):(ns.map V.int).all flatV=true:=by
 rw [List.all_map,List.all_eq_true]
 intro _ _
 rfl
def rEqL (K:PySem.W.Frag) (neg:Bool):R2:=fun x y H Q=>∃ p q xs ys,x=.ref p∧y=.ref q∧SqL K H p xs∧SqL K H q ys∧xs.all flatV=true∧ys.all flatV=true∧Q (.bl (if neg then !eqVs xs ys else eqVs xs ys)) H
theorem eqAt_items {A:Around} {s:Shared} {xs ys:List V} {us ws:List Value} (rx:Vals xs us) (ry:Vals ys ws) (fx:xs.all flatV=true) (fy:ys.all flatV=true) (j:Nat) (h1:j<us.toArray.size) (h2:j<ws.toArray.size) :
  SeqAt.EqAt A s us.toArray[j] ws.toArray[j] (eqV (xs.getD j .non) (ys.getD j .non)):=by
 have l1:=rx.length
 have l2:=ry.length
 rw [List.size_toArray] at h1 h2
 have g1:xs[j]?=some (xs.getD j .non):=by simp [List.getD,show j<xs.length by omega]
 have g2:ys[j]?=some (ys.getD j .non):=by simp [List.getD,show j<ys.length by omega]
 obtain ⟨u,e1,r1⟩:=rx.get g1
 obtain ⟨w,e2,r2⟩:=ry.get g2
 have q1:us.toArray[j]=u:=by
  rw [List.getElem?_eq_getElem h1] at e1
  simpa using e1
 have q2:ws.toArray[j]=w:=by
  rw [List.getElem?_eq_getElem h2] at e2
  simpa using e2
 rw [q1,q2]
 exact eqAt_V r1 r2 (List.all_eq_true.mp fx _ (List.mem_of_getElem? g1)) (List.all_eq_true.mp fy _ (List.mem_of_getElem? g2))
theorem op_eq_lst (hu:X.A.units<cLine):OpR X (compareOp .Eq) (rEqL X.K false):=by
 intro pins s σ H x y v u Q I rx ry h
 obtain ⟨p,q,xs,ys,rfl,rfl,hp,hq,fx,fy,k⟩:=h
 cases rx
 cases ry
 obtain ⟨us,r1,p1,_⟩:=I.list hp
 obtain ⟨ws,r2,p2,_⟩:=I.list hq
 have l1:=r1.length
 have l2:=r2.length
 by_cases e:xs.length=ys.length
 ·refine SeqAt.eq_listAt (e:=fun j=>eqV (xs.getD j .non) (ys.getD j .non)) p1.isList p2.isList (by rw [List.size_toArray,List.size_toArray]; omega) hu (fun j h1 h2=>eqAt_items r1 r2 fx fy j h1 h2) (fin_bl I k ?_)
  rw [List.size_toArray,← l1,eqVs_all e]
  rfl
 ·refine SeqAt.eq_list_lengthsAt p1.isList p2.isList (by rw [List.size_toArray,List.size_toArray]; simp; omega) hu (fin_bl I k ?_)
  rw [eqVs_len e]
  rfl
theorem op_ne_lst (hu:X.A.units<cLine):OpR X (compareOp .NotEq) (rEqL X.K true):=by
 intro pins s σ H x y v u Q I rx ry h
 obtain ⟨p,q,xs,ys,rfl,rfl,hp,hq,fx,fy,k⟩:=h
 cases rx
 cases ry
 obtain ⟨us,r1,p1,_⟩:=I.list hp
 obtain ⟨ws,r2,p2,_⟩:=I.list hq
 have l1:=r1.length
 have l2:=r2.length
 by_cases e:xs.length=ys.length
 ·refine SeqAt.RcNeAt.lists (e:=fun j=>eqV (xs.getD j .non) (ys.getD j .non)) p1.isList p2.isList (by rw [List.size_toArray,List.size_toArray]; omega) hu (fun j h1 h2=>eqAt_items r1 r2 fx fy j h1 h2) _ _ _ _ (fin_bl I k ?_)
  rw [List.size_toArray,← l1,eqVs_all e]
  rfl
 ·refine SeqAt.RcNeAt.lists_lengths p1.isList p2.isList (by rw [List.size_toArray,List.size_toArray]; simp; omega) hu _ _ _ _ (fin_bl I k ?_)
  rw [eqVs_len e]
  rfl
def rIsI (K:PySem.W.Frag):List V→Hp→VK→Prop:=fun xs H Q=>∃ x T t b,xs=[x,.ty T]∧TyOf K H x t∧PySem.W.kitOne K t (.type T)=some b∧Q (.bl b) H
theorem call_isinst:CallR X (.builtin "isinstance") (rIsI X.K):=by
 intro pins s σ H xs us Q I r h
 obtain ⟨x,T,t,b,rfl,ty,e,q⟩:=h
 obtain ⟨u,w,rfl,rx,rT⟩:=Vals.two r
 cases (show w=Value.type T from rT)
 exact isinst_ok I rx ty e fun tk=>⟨.bl b,H,I.tok tk,rfl,q⟩
end
end L2
namespace L2
open PySem PySem.Spec PyProof.Rows
section
variable {X:Cx}
def rNotB:R2:=fun x y H Q=>∃ b,y=.bl b∧((∃ i,x=.int i∧Q (.bl true) H)∨(∃ c,x=.bl c∧Q (.bl (c != b)) H))
theorem op_notB:OpR X (compareOp .IsNot) rNotB:=by
 intro pins s σ H x y v u Q I rx ry h
 obtain ⟨b,rfl,h⟩:=h
 cases (show u=Value.bool b from ry)
 rcases h with ⟨i,rfl,q⟩ | ⟨c,rfl,q⟩
 ·obtain ⟨t,rfl⟩:=rx
  exact wpAny_pure ⟨.bl true,H,I,rfl,q⟩
 ·cases (show v=Value.bool c from rx)
  exact isnot_bool ⟨.bl (c != b),H,I,rfl,q⟩
def Ite (K:PySem.W.Frag) (a:Addr):It :=
 ⟨fun i H=>∃ xs x,SqL K H a xs∧xs[i]?=some x,fun i H x H'=>∃ t y,H t=none∧x=.ref t∧H'=upd H t (.tup [.int i,y])∧∀ xs,SqL K H a xs→xs[i]?=some y,fun i H=>∃ xs,SqL K H a xs∧xs.length≤i⟩
theorem turn_enum {P:Program} {w:World} {K:PySem.W.Frag} {elts:List Expr} {k1:Nat} {tp:Pos} (a e it:Addr) (hne:e≠it) :
  Turn P w K (.Tuple elts k1 tp) (Ite K a) [e,it] e (fun i h=>(∃ old,IsEnum h e it ((i:Nat):Int) old)∧h.IsListIter it a i) where
 mem:=by simp
 obj:=fun i h st b hb=>by
  obtain ⟨⟨old,h1⟩,o,h2,_,h3⟩:=st
  rcases List.mem_cons.mp hb with rfl | hb
  ·exact ⟨_,h1,fun v z=>by cases z⟩
  ·have e2:b=it:=by simpa using hb
   subst e2
   exact ⟨o,h2,fun v z=>by rw [h3] at z; cases z⟩
 keep:=fun i h h' st k=>by
  obtain ⟨⟨old,h1⟩,h2⟩:=st
  exact ⟨⟨old,k e (by simp) _ h1⟩,h2.at fun o q=>k it (by simp) o q⟩
 item:=by
  intro X hP hw hK hc i pins s σ H E I hf st hg
  subst hP hw hK
  obtain ⟨⟨old,he⟩,hit⟩:=st
  obtain ⟨xs,x,hq,hx⟩:=hg
  obtain ⟨its,rv,p,hz⟩:=I.list hq
  obtain ⟨u,hu,ru⟩:=rv.get hx
  have fe:=hf e (by simp)
  have fi:=hf it (by simp)
  refine wpAny_pyNext_enum_item he hit p.isList (x:=u) (by simpa using hu) hne fun h1 eo hit1 tup hs1 kp=>⟨_,rfl,?_⟩
  refine wpAny_letOwnedTupleGo_enum eo fun h2 he2 sb=>?_
  have lte:=Heap.lt_size he
  have ne2:s.heap.objs.size≠e:=Nat.ne_of_gt lte
  have tup2:h2.get? s.heap.objs.size=some { cls:=.type "tuple",data:=.seq #[.int i s.toks,u] }:=sb.extBut _ _ ne2 tup
  have kp2:∀ b o,b≠e→b≠it→s.heap.get? b=some o→h2.get? b=some o:=fun b o z1 z2 q=>sb.extBut b o z1 (kp b o z1 z2 q)
  have hfr:H s.heap.objs.size=none:=I.hok.fresh (Nat.le_refl _)
  have nt:∀ b o,H b=some o→b≠e∧b≠it:=fun b o q=>⟨fun z=>(by rw [z,fe.1] at q; cases q),fun z=>(by rw [z,fi.1] at q; cases q)⟩
  have hok2:HOk X.prog X.w (upd H s.heap.objs.size (.tup [.int i,x])) h2:=fun b o q=>by
   by_cases hb:b=s.heap.objs.size
   ·subst hb
    rw [upd_same] at q
    cases q
    have l2:(2:Nat)≤sizeLine:=by rw [sizeLine_eq]; decide
    exact ⟨l2,[.int i s.toks,u],.cons ⟨_,rfl⟩ (.cons ru .nil),⟨_,tup2,rfl,_,rfl⟩⟩
   ·rw [upd_ne hb] at q
    refine (I.hok b o q).stay (fun c v hc z=>?_) (fun c z=>by rw [upd_ne (ne_of_none z hfr)]; exact z) fun c ys z=>by rw [upd_ne (ne_of_none z hfr)]; exact z
    rcases hc with hc | hc
    ·subst hc
     exact kp2 c v (nt c _ q).1 (nt c _ q).2 z
    ·exact kp2 c v (nt c _ hc).1 (nt c _ hc).2 z
  have I2:Inv X pins σ (upd H s.heap.objs.size (.tup [.int i,x])) { s with heap:=h2,toks:=s.toks+1 }:=by
   refine I.step (g':=s.gens) (d':=s.drawn) (t':=s.toks+1) (ch:=[e,it]) (fun b hb=>?_) (fun b o _ _ hc q _=>kp2 b o (fun z=>hc (by simp [z])) (fun z=>hc (by simp [z])) q)
    (fun b o _ _ hc q _=>⟨o.slots,kp2 b o (fun z=>hc (by simp [z])) (fun z=>hc (by simp [z])) q⟩) (fun b o _ q n=>by rw [upd_ne (Nat.ne_of_lt (Heap.lt_size q))]; exact n)
    (fun b o hc q=>⟨o,kp2 b o (fun z=>hc (by simp [z])) (fun z=>hc (by simp [z])) q⟩) (fun b ys q=>by rw [upd_ne (ne_of_none q hfr)]; exact q) (fun b o u q=>by rw [upd_ne (ne_of_none q hfr)]; exact q)
    (fun b ps q=>⟨#[],by rw [upd_ne (ne_of_none q hfr),q]; simp⟩) (fun m hm=>?_) hok2 I.bare
   ·rcases List.mem_cons.mp hb with rfl | hb
    ·exact ⟨fe.2.2.2.1,fe.2.1,fe.2.2.2.2.1,fe.2.2.2.2.2⟩
    ·have e2:b=it:=by simpa using hb
     subst e2
     exact ⟨fi.2.2.2.1,fi.2.1,fi.2.2.2.2.1,fi.2.2.2.2.2⟩
   ·obtain ⟨o,es,ep,ho,r⟩:=hm
    exact ⟨o,es,ep,kp2 _ o (Ne.symm fe.2.1) (Ne.symm fi.2.1) ho,r⟩
  refine ⟨.ref s.heap.objs.size,_,I2,rfl,⟨_,x,hfr,rfl,rfl,fun ys hy=>by rw [I.list_inj hy hq]; exact hx⟩,⟨⟨u,?_⟩,?_⟩,fun b hb=>?_⟩
  ·have:=he2
   rw [show ((i:Nat):Int)+1=((i+1:Nat):Int) by omega] at this
   exact this
  ·obtain ⟨o,h1,h2'⟩:=hit1
   exact ⟨o,sb.extBut _ _ (Ne.symm hne) h1,h2'⟩
  ·have hb0:=(hf b hb).1
   have:b≠s.heap.objs.size:=by
    rcases List.mem_cons.mp hb with rfl | hb
    ·exact Ne.symm ne2
    ·have e2:b=it:=by simpa using hb
     subst e2
     obtain ⟨o,h1,_⟩:=hit
     exact Nat.ne_of_lt (Heap.lt_size h1)
   rw [upd_ne this]
   exact hb0
 done:=by
  intro X hP hw hK hc i pins s σ H E I hf st hg
  subst hP hw hK
  obtain ⟨⟨old,he⟩,hit⟩:=st
  obtain ⟨xs,hq,hx⟩:=hg
  obtain ⟨its,rv,p,hz⟩:=I.list hq
  obtain ⟨f0,f1,f2,f3,f4,f5⟩:=hf it (by simp)
  have hl:=rv.length
  exact wpAny_pyNext_enum_end (I.ok.hd hc) he hit p.isList (by simp; omega) fun h' eb=>⟨rfl,I.turned (t':=s.toks) (fun b o hb e=>eb b o hb e) f0 f1 f3 f4 f5⟩
 self:=fun A i s Q E st h=>by
  obtain ⟨⟨old,he⟩,_⟩:=st
  exact wpAny_pyIter_enum he h
def iEnum (K:PySem.W.Frag) (ta:TA):TI:=fun σ H R=>ta σ H fun vs H1=>∃ a,vs=[.ref a]∧(∃ xs,SqL K H1 a xs)∧R (Ite K a) H1
theorem pi_enum {elts:List Expr} {k1:Nat} {tp:Pos} {l:Expr} {ta:TA} {p pos:Pos} (hg:Gl X "enumerate") (hm:X.mg "enumerate"=none) (ha:PA X [l] ta) (hs:starEach [l] X.env=[(false,eval l X.env)]:=by rfl) :
  PI X (.Tuple elts k1 tp) (.Call (.Name "enumerate" p) [l] [] pos) (iEnum X.K ta):=by
 intro pins s σ H R I h
 refine Call_ (ld_blt I hg hm boot_enumerate (PyProof.Rows.callWith_type1 (thn (ha pos pins s σ H _ I h) fun us s1 ⟨vs,H1,I1,r1,q1⟩=>?_) hs rfl))
 obtain ⟨a,e,⟨xs,hq⟩,q⟩:=q1
 subst e
 obtain ⟨u,rfl,rl⟩:=Vals.one r1
 cases rl
 obtain ⟨its,rv,pl,hz⟩:=I1.list hq
 refine call_enumerate_list pl.isList fun h' he hit hsz kp=>?_
 refine wpAny_pyIter_enum he ?_
 have I2:Inv X pins σ H1 { s1 with heap:=h' }:=I1.kept (t':=s1.toks) kp
 refine ⟨s1.heap.objs.size+1,[s1.heap.objs.size+1,s1.heap.objs.size],_,_,H1,rfl,I2,turn_enum a _ _ (Nat.succ_ne_self _),⟨⟨_,he⟩,hit⟩,fun b hb=>?_,q⟩
 rcases List.mem_cons.mp hb with rfl | hb
 ·exact I1.fpOk (Nat.le_succ _) (I1.hok.fresh (Nat.le_succ _))
 ·have e2:b=s1.heap.objs.size:=by simpa using hb
  subst e2
  exact I1.fpOk (Nat.le_refl _) (I1.hok.fresh (Nat.le_refl _))
theorem for_enum {K:PySem.W.Frag} {a:Addr} {xs:List V} {g:TG} {tb:TS} {D:Ends} {σ:St} {H:Hp} (Pv:Nat→St→Hp→Prop) (h0:Pv 0 σ H) (hl:∀ i σ H,i≤xs.length→Pv i σ H→SqL K H a xs)
  (hs:∀ i x t σ H,xs[i]?=some x→H t=none→Pv i σ H→g (.ref t) σ (upd H t (.tup [.int (i:Nat),x])) fun σ2 H2=>tb { D with nx:=Pv (i+1),ct:=Pv (i+1),bk:=D.nx } σ2 H2) (hd:∀ σ H,Pv xs.length σ H→D.nx σ H) :
  ∃ W:Nat→Nat→St→Hp→Prop,(∃ m,W 0 m σ H)∧∀ i m σ H,W i m σ H →
   ((Ite K a).stop i H∧D.nx σ H)∨((Ite K a).go i H∧∃ N:St→Hp→Prop,(∀ σ' H',N σ' H'→∃ m',m'<m∧W (i+1) m' σ' H')∧∀ x H',(Ite K a).yld i H x H'→g x σ H' fun σ2 H2=>tb { D with nx:=N,ct:=N,bk:=D.nx } σ2 H2):=by
 refine ⟨fun i m σ H=>m=xs.length - i∧i≤xs.length∧Pv i σ H,⟨xs.length,by simp,Nat.zero_le _,h0⟩,?_⟩
 rintro i m σ H ⟨rfl,hi,p⟩
 have q:=hl i σ H hi p
 by_cases hlt:i<xs.length
 ·refine .inr ⟨⟨xs,xs[i],q,by simp [hlt]⟩,Pv (i+1),fun σ' H' p'=>⟨xs.length - (i+1),by omega,rfl,hlt,p'⟩,fun x H' y=>?_⟩
  obtain ⟨t,z,ht,rfl,rfl,y⟩:=y
  exact hs i z t σ _ (y xs q) ht p
 ·have e:i=xs.length:=by omega
  subst e
  exact .inl ⟨⟨xs,q,Nat.le_refl _⟩,hd σ H p⟩
def Its (lo c:Int) (n:Nat):It:=⟨fun i _=>i<n,fun i H x H'=>H'=H∧x=.int (lo+(i:Nat) * c),fun i _=>n≤i⟩
theorem turn_step {P:Program} {w:World} {K:PySem.W.Frag} {tg:Expr} (it:Addr) (lo c:Int) (n:Nat):Turn P w K tg (Its lo c n) [it] it (fun i h=>IsRangeIter h it (lo+(i:Nat) * c) ((n:Int) - (i:Nat)) c) where
 mem:=by simp
 obj:=fun i h st b hb=>by
  have e:b=it:=by simpa using hb
  subst e
  exact ⟨_,st,fun v z=>by cases z⟩
 keep:=fun i h h' st k=>k it (by simp) _ st
 item:=by
  intro X hP hw hK hc i pins s σ H E I hf st hg
  subst hP hw hK
  obtain ⟨f0,f1,f2,f3,f4,f5⟩:=hf it (by simp)
  have W:=Walks.range (prog:=X.prog) (w:=X.w) (I.ok.hd hc) it lo c n
  refine W.item i s _ _ hg st fun v h' tk hv st' kk=>?_
  obtain ⟨t,rfl⟩:=hv
  have I1:Inv X pins σ H { s with heap:=h',toks:=tk }:=I.turned (fun b o hb e=>kk b o (by simpa using hb) e) f0 f1 f3 f4 f5
  exact ⟨_,rfl,go_of (s:={ s with heap:=h',toks:=tk }) (n:="range_iterator") st' rfl rfl (by decide) ⟨.int (lo+(i:Nat) * c),H,I1,⟨t,rfl⟩,⟨rfl,rfl⟩,st',fun b hb=>(hf b hb).1⟩⟩
 done:=by
  intro X hP hw hK hc i pins s σ H E I hf st hg
  subst hP hw hK
  obtain ⟨f0,f1,f2,f3,f4,f5⟩:=hf it (by simp)
  exact wpAny_pyNext_range_end (I.ok.hd hc) st (by have:n≤i:=hg; omega) fun h' eb=>⟨rfl,I.turned (t':=s.toks) (fun b o hb e=>eb b o hb e) f0 f1 f3 f4 f5⟩
 self:=fun _ _ _ _ _ st h=>wpAny_pyIter_rangeiter st h
def half2 (a b:Int):Nat:=((b - a+1) / 2).toNat
theorem size_two (a b:Int):Builtin.Range.rangeSize a b 2=(half2 a b:Int):=by
 unfold Builtin.Range.rangeSize half2
 simp only [show (2:Int)>0 by decide,if_true]
 split <;> omega
theorem small_two {a b:Int} (h1:-1048576≤a) (h2:a≤1048576) (h3:-1048576≤b) (h4:b≤1048576):Builtin.Range.small a b 2=true:=by
 unfold Builtin.Range.small
 rw [size_two]
 unfold half2
 simp only [Builtin.Range.rangeFitsLong,Bool.and_eq_true,Bool.or_eq_true,decide_eq_true_eq,beq_iff_eq,show (2:Int)>0 by decide,if_true]
 omega
def iRng3 (ta:TA):TI:=fun σ H R=>ta σ H fun vs H1=>∃ i j:Int,vs=[.int i,.int j,.int 2]∧(-1048576≤i∧i≤1048576∧-1048576≤j∧j≤1048576)∧R (Its i 2 (half2 i j)) H1
theorem pi_range3 {tg a b c:Expr} {ta:TA} {p pos:Pos} (hg:Gl X "range") (hm:X.mg "range"=none) (ha:PA X [a,b,c] ta) (hs:starEach [a,b,c] X.env=[(false,eval a X.env),(false,eval b X.env),(false,eval c X.env)]:=by rfl)
  (hs2:starEach [b,c] X.env=[(false,eval b X.env),(false,eval c X.env)]:=by rfl):PI X tg (.Call (.Name "range" p) [a,b,c] [] pos) (iRng3 ta):=by
 intro pins s σ H R I h
 refine Call_ (ld_blt I hg hm boot_range (PyProof.Rows.callWith_type1 (thn (ha pos pins s σ H _ I h) fun us s1 ⟨vs,H1,I1,r1,q1⟩=>?_) (by rw [hs,hs2]) (by rw [hs2]; rfl)))
 obtain ⟨i,j,e,⟨q1,q2,q3,q4⟩,q⟩:=q1
 subst e
 cases r1 with
 | cons r rr =>
  cases rr with
  | cons r' rr =>
   cases rr with
   | cons r'' rr =>
    cases rr
    obtain ⟨t,rfl⟩:=r
    obtain ⟨t',rfl⟩:=r'
    obtain ⟨t'',rfl⟩:=r''
    refine call_range_3 (by decide) ?_ (Or.inl (PyProof.noPylong_small (by decide)))
    refine wpAny_pyIter_range (IsRange.new ..) (small_two q1 q2 q3 q4) ?_
    have I2:Inv X pins σ H1 { s1 with heap:=s1.heap.push { cls:=.type "range",data:=.fields #[.int i t,.int j t',.int 2 t''] } }:=I1.kept (t':=s1.toks) fun b o e=>Heap.get?_push_of_some _ e
    refine ⟨(s1.heap.push { cls:=.type "range",data:=.fields #[.int i t,.int j t',.int 2 t''] }).objs.size,[(s1.heap.push { cls:=.type "range",data:=.fields #[.int i t,.int j t',.int 2 t''] }).objs.size],_,_,H1,rfl,
     I2.kept (t':=s1.toks) fun b o e=>Heap.get?_push_of_some _ e,turn_step _ i 2 (half2 i j),?_,fun b hb=>?_,q⟩
    ·have e1:i+((0:Nat):Int) * 2=i:=by simp
     have e2:((half2 i j:Nat):Int) - ((0:Nat):Int)=Builtin.Range.rangeSize i j 2:=by rw [size_two]; simp
     show IsRangeIter _ _ (i+((0:Nat):Int) * 2) (((half2 i j:Nat):Int) - ((0:Nat):Int)) 2
     rw [e1,e2]
     exact Heap.get?_push_size _ rfl
    ·have e:b=(s1.heap.push { cls:=.type "range",data:=.fields #[.int i t,.int j t',.int 2 t''] }).objs.size:=by simpa using hb
     subst e
     exact I2.fpOk (Nat.le_refl _) (I2.hok.fresh (Nat.le_refl _))
theorem for_step {lo c:Int} {n:Nat} {g:TG} {tb:TS} {D:Ends} {σ:St} {H:Hp} (Pv:Nat→St→Hp→Prop) (h0:Pv 0 σ H)
  (hs:∀ (i:Nat) σ H,i<n→Pv i σ H→g (.int (lo+(i:Nat) * c)) σ H fun σ2 H2=>tb { D with nx:=Pv (i+1),ct:=Pv (i+1),bk:=D.nx } σ2 H2) (hd:∀ σ H,Pv n σ H→D.nx σ H) :
  ∃ W:Nat→Nat→St→Hp→Prop,(∃ m,W 0 m σ H)∧∀ i m σ H,W i m σ H →
   ((Its lo c n).stop i H∧D.nx σ H)∨((Its lo c n).go i H∧∃ N:St→Hp→Prop,(∀ σ' H',N σ' H'→∃ m',m'<m∧W (i+1) m' σ' H')∧∀ x H',(Its lo c n).yld i H x H'→g x σ H' fun σ2 H2=>tb { D with nx:=N,ct:=N,bk:=D.nx } σ2 H2):=by
 refine ⟨fun i m σ H=>m=n - i∧i≤n∧Pv i σ H,⟨n,by simp,Nat.zero_le _,h0⟩,?_⟩
 rintro i m σ H ⟨rfl,hi,p⟩
 by_cases hlt:i<n
 ·refine .inr ⟨hlt,Pv (i+1),fun σ' H' p'=>⟨n - (i+1),by omega,rfl,hlt,p'⟩,fun x H' y=>?_⟩
  obtain ⟨e,y⟩:=y
  subst e y
  exact hs i σ _ hlt p
 ·have e:i=n:=by omega
  subst e
  exact .inl ⟨Nat.le_refl _,hd σ H p⟩
end
end L2
namespace L2
open PySem PySem.Spec PyProof.Rows
theorem clos_go (env:Env):∀ (names:List (Str×NameKind)) (acc:List (Str×Addr)),(∀ y∈names,y.2=.free→∃ c,env.cells.lookup y.1=some c)→(∀ y c,acc.lookup y=some c→env.cells.lookup y=some c) →
  ∃ cl:List (Str×Addr),(forIn names acc fun (x:Str×NameKind) cs=>if (x.2 == NameKind.free)=true then do
    let c ← cellOf env x.1
    pure (ForInStep.yield ((x.1,c)::cs))
   else pure (ForInStep.yield cs):Sem (List (Str×Addr)))=pure cl∧(∀ y c,cl.lookup y=some c→env.cells.lookup y=some c)∧(∀ y,(acc.lookup y).isSome=true→(cl.lookup y).isSome=true)∧∀ y,(y,NameKind.free)∈names→(cl.lookup y).isSome=true
 | [],acc,_,ha=>⟨acc,rfl,ha,fun _ h=>h,fun _ h=>absurd h (by simp)⟩
 | (n,k)::r,acc,hf,ha=>by
  rw [List.forIn_cons]
  by_cases hk:(k == NameKind.free)=true
  ·have hk':k=.free:=by simpa using hk
   subst hk'
   obtain ⟨c,hc⟩:=hf (n,.free) List.mem_cons_self rfl
   have ha':∀ y d,((n,c)::acc).lookup y=some d→env.cells.lookup y=some d:=fun y d h=>by
    rw [List.lookup_cons] at h
    cases e:y == n with
    | true =>
     simp only [e] at h
     have e':y=n:=by simpa using e
     cases h
     rw [e']
     exact hc
    | false =>
     simp only [e] at h
     exact ha y d h
   obtain ⟨cl,h1,h2,h3,h4⟩:=clos_go env r ((n,c)::acc) (fun y hy=>hf y (List.mem_cons_of_mem _ hy)) ha'
   have hin:(((n,c)::acc).lookup n).isSome=true:=by rw [List.lookup_cons]; simp
   refine ⟨cl,?_,h2,fun y hy=>h3 y ?_,fun y hy=>?_⟩
   ·have e:cellOf env n=pure c:=by unfold cellOf; rw [hc]
    simp only [hk,if_true,e,pure_bind]
    exact h1
   ·rw [List.lookup_cons]
    cases e:y == n with
    | true=>rfl
    | false=>exact hy
   ·rcases List.mem_cons.mp hy with e | hy
    ·cases e
     exact h3 _ hin
    ·exact h4 y hy
  ·obtain ⟨cl,h1,h2,h3,h4⟩:=clos_go env r acc (fun y hy=>hf y (List.mem_cons_of_mem _ hy)) ha
   refine ⟨cl,?_,h2,h3,fun y hy=>?_⟩
   ·simp only [hk,if_false,pure_bind,Bool.false_eq_true]
    exact h1
   ·rcases List.mem_cons.mp hy with e | hy
    ·cases e
     exact absurd rfl hk
    ·exact h4 y hy
theorem clos_of {scope:Scope} {env:Env} (hf:∀ y∈scope.names,y.2=.free→∃ c,env.cells.lookup y.1=some c) :
  ∃ cl,closureFor scope env=pure cl∧(∀ y c,cl.lookup y=some c→env.cells.lookup y=some c)∧∀ y,(y,NameKind.free)∈scope.names→∃ c,cl.lookup y=some c:=by
 obtain ⟨cl,h1,h2,_,h4⟩:=clos_go env scope.names [] hf fun y c h=>by cases h
 refine ⟨cl,?_,h2,fun y hy=>Option.isSome_iff_exists.mp (h4 y hy)⟩
 show ((forIn scope.names [] fun (x:Str×NameKind) cs=>if (x.2 == NameKind.free)=true then do
    let c ← cellOf env x.1
    pure (ForInStep.yield ((x.1,c)::cs))
   else pure (ForInStep.yield cs):Sem (List (Str×Addr))) >>= fun cs=>pure cs)=pure cl
 rw [h1]
 rfl
def Cx.comp (X:Cx) (scope:Scope) (cl:List (Str×Addr)) (N':List Str) (s₃:Shared) (H₃:Hp) (fp:List Addr):Cx :=
 { X with N:=N',s₀:=s₃,H₀:=H₃,env:=compEnvC scope cl s₃.heap.objs.size X.env,outer:=X.stack,ex:=fp,fn:=fun _=>false,pn:=[],xe:=fun _ _=>False }
def PIfs (X:Cx) (ifs:List Expr) (t:TT):Prop :=
 ∀ (pins:List (Addr×Obj)) (s:Shared) (σ:St) (H:Hp) (Q:Bool→Hp→Prop),Inv X pins σ H s→t σ H Q →
  wpAny (model X.prog X.w) X.A (forIn ifs true fun c r=>if r=true then do let ok ← isTrue c X.env (eval c X.env); pure (ForInStep.yield ok) else pure (ForInStep.yield r)) (TP X pins σ Q) X.xe s
def tAlw:TT:=fun _ H Q=>Q true H
theorem pifs_nil {X:Cx}:PIfs X [] tAlw:=fun _ _ _ H _ I h=>wpAny_pure ⟨H,I,h⟩
theorem pifs_one {X:Cx} {c:Expr} {t:TT} (h:PT X c t):PIfs X [c] t:=fun pins s σ H Q I hq=>wpAny_tests_one (h pins s σ H Q I hq)
def capV (σ:St) (cap:List Nat):St:=cap.map fun k=>(σ[k]?).join
def LCG (J:It) (l:Addr) (σ':St) (tt:TT) (te:TE) (Q:VK) (H1:Hp):Prop:=∃ W:Nat→Nat→Hp→Prop,(∃ m,W 0 m (upd H1 l (.lst [])))∧∀ i m H2,W i m H2 →
 (J.stop i H2∧Q (.ref l) H2)∨(J.go i H2∧∀ x H3,J.yld i H2 x H3→tt (some x::σ') H3 fun b H4=>if b=true then te (some x::σ') H4 fun y H5=>∃ ys m',H5 l=some (.lst ys)∧ys.length<sizeLine∧m'<m∧W (i+1) m' (upd H5 l (.lst (ys++[y])))
  else ∃ m',m'<m∧W (i+1) m' H4)
def tLC (cap:List Nat) (wi:TI) (tt:TT) (te:TE):TE:=fun σ H Q=>wi σ H fun J H1=>∀ l,H1 l=none→LCG J l (capV σ cap) tt te Q H1
section
variable {X:Cx}
theorem relabel_free {scope:Scope} {env:Env} (hcell:∀ y∈scope.names,y.2≠.cell) {y:Str} (h:(relabel scope env).names.lookup y=some .cell∨(relabel scope env).names.lookup y=some .free):(y,NameKind.free)∈scope.names:=by
 have key:∀ k,(relabel scope env).names.lookup y=some k→k≠.local→(k=.cell∨k=.free)→(y,NameKind.free)∈scope.names:=fun k hk _ ho=>by
  have hm:=PySem.mem_of_lookup hk
  unfold relabel at hm
  obtain ⟨⟨n,k'⟩,hn,e⟩:=List.mem_map.mp hm
  dsimp only at e
  split at e
  ·rename_i hc
   cases e
   simp only [Bool.and_eq_true,beq_iff_eq] at hc
   rw [hc.1.1] at hn
   exact hn
  ·cases e
   rcases ho with rfl | rfl
   ·exact absurd rfl (hcell _ hn)
   ·exact hn
 rcases h with h | h
 ·exact key _ h (by decide) (.inl rfl)
 ·exact key _ h (by decide) (.inr rfl)
theorem comp_ok {pins:List (Addr×Obj)} {σ:St} {H:Hp} {s:Shared} {scope:Scope} {cl:List (Str×Addr)} {N':List Str} {fp:List Addr} (I:Inv X pins σ H s) (hf:∀ b∈fp,FpOk X pins H b) (hlt:∀ b∈fp,b<s.heap.objs.size)
  (hkind:scope.kind=.function) (hcell:∀ y∈scope.names,y.2≠.cell) (ca:∀ y c,cl.lookup y=some c→X.env.cells.lookup y=some c) (cb:∀ y,(y,NameKind.free)∈scope.names→∃ c,cl.lookup y=some c) :
  (X.comp scope cl N' s H fp).Ok where
 mod:=I.mod
 kind:=hkind
 glob:=I.ok.glob
 blt:=I.ok.blt
 above:=Nat.le_refl _
 inj:=fun x y c h1 h2=>I.ok.inj x y c (ca x c h1) (ca y c h2)
 has:=fun x hx=>cb x (relabel_free hcell hx)
 cab:=fun x c h=>by cases h
 hd:=I.ok.hd
 frames:=I.ok.frames
 stk:=.inl rfl
 exf:=fun b hb=>⟨Nat.ne_of_lt (hlt b hb),fun x c h=>(hf b hb).2.2.2.2.1 x c (ca x c h)⟩
 bs:=I.bs
 bsz:=Nat.le_trans I.ok.bsz I.sz
 noex:=fun b o e hb=>by
  rcases (hf b hb).2.2.2.1 with z | z
  ·exact I.ok.noex b o e z
  ·exact absurd (Nat.lt_of_lt_of_le (Heap.lt_size e) (Nat.le_trans I.ok.bsz z)) (Nat.lt_irrefl _)
 exfs:=fun b hb hs=>by
  rcases List.mem_cons.mp (I.stkSub b hs) with z | z
  ·exact (hf b hb).2.1 z
  ·exact (hf b hb).2.2.1 z
 funs:=I.stack
 frf:=I.stkFree
theorem inv_comp {pins:List (Addr×Obj)} {σ:St} {H:Hp} {s:Shared} {scope:Scope} {cl:List (Str×Addr)} {x:Str} {cap:List Nat} {caps:List Str} {fp:List Addr} {h':Heap} {t':Nat} (I:Inv X pins σ H s) (ok:(X.comp scope cl (x::caps) s H fp).Ok)
  (ca:∀ y c,cl.lookup y=some c→X.env.cells.lookup y=some c) (cb:∀ y,(y,NameKind.free)∈scope.names→∃ c,cl.lookup y=some c) (hcell:∀ y∈scope.names,y.2≠.cell)
  (hcap:cap.map (fun k=>X.N[k]?)=caps.map some) (hvis:∀ y∈caps,((relabel scope X.env).names.lookup y=some .cell∨(relabel scope X.env).names.lookup y=some .free)∧(X.env.kindOf y=some .cell∨X.env.kindOf y=some .free))
  (hn:h'.Ns s.heap.objs.size fun _=>none) (kp:∀ b o,s.heap.get? b=some o→h'.get? b=some o):Inv (X.comp scope cl (x::caps) s H fp) [] (none::capV σ cap) H { s with heap:=h',toks:=t' }:=by
 have hlen:cap.length=caps.length:=by
  have:=congrArg List.length hcap
  simpa using this
 refine ⟨ok,rfl,I.bare,Un.kept kp,⟨_,hn,fun i y v h1 h2 h3=>?_⟩,fun y c h=>?_,I.hok.fresh (Nat.le_refl _),fun y c h=>I.freeC y c (ca y c h),fun p hp=>absurd (show p∈([]:List (Addr×Obj)) from hp) (by simp),I.hok.kept kp,?_⟩
 ·cases i with
  | zero=>exact absurd h2 (by simp)
  | succ j =>
   have h1':caps[j]?=some y:=h1
   have h2':(capV σ cap)[j]?=some (some v):=h2
   unfold capV at h2'
   rw [List.getElem?_map] at h2'
   cases hk:cap[j]? with
   | none=>rw [hk] at h2'; cases h2'
   | some k =>
    rw [hk] at h2'
    have h2'':(σ[k]?).join=some v:=by simpa using h2'
    have hN:X.N[k]?=some y:=by
     have:=congrArg (fun l=>l[j]?) hcap
     simp only [List.getElem?_map,hk,h1',Option.map_some] at this
     exact Option.some.inj this
    have hσ:σ[k]?=some (some v):=by
     cases e:σ[k]? with
     | none=>rw [e] at h2''; cases h2''
     | some o=>rw [e] at h2''; exact congrArg some h2''
    obtain ⟨hv1,hv2⟩:=hvis y (List.mem_of_getElem? h1')
    obtain ⟨m,_,hl⟩:=I.loc
    obtain ⟨u,r,l⟩:=hl k y v hN hσ (by
     rcases hv2 with z | z
     ·exact .inr (.inl z)
     ·exact .inr (.inr z))
    refine ⟨u,r,?_⟩
    obtain ⟨c,hc⟩:=cb y (relabel_free hcell hv1)
    rcases l with ⟨z,_⟩ | ⟨_,c',hc',hcl⟩
    ·rcases hv2 with q | q <;> (rw [z] at q; cases q)
    ·have e:=ca y c hc
     rw [hc'] at e
     have e2:c'=c:=Option.some.inj e
     rw [e2] at hcl
     obtain ⟨o,ho,hd⟩:=hcl
     exact .inr ⟨hv1,c,hc,o,kp _ _ ho,hd⟩
 ·obtain ⟨v,o,ho,hd⟩:=I.cell y c (ca y c h)
  exact ⟨v,o,kp _ _ ho,hd⟩
 ·show (none::capV σ cap).length=(x::caps).length
  simp [capV,hlen]
theorem pe_lcomp {elt iter:Expr} {x:Str} {px:Pos} {ifs:List Expr} {scope:Scope} {pos:Pos} {cap:List Nat} {caps:List Str} {wi:TI} {tt:TT} {te:TE} (hc:X.calm=true) (hi:PI X (.Name x px) iter wi) (hkind:scope.kind=.function)
  (hnames:∀ y∈scope.names,y.2=.local→scope.names.lookup y.1=some .local) (hcell:∀ y∈scope.names,y.2≠.cell) (hx:scope.names.lookup x=some .local)
  (hfree:∀ y∈scope.names,y.2=.free→X.env.kindOf y.1=some .cell∨X.env.kindOf y.1=some .free) (hcap:cap.map (fun k=>X.N[k]?)=caps.map some)
  (hvis:∀ y∈caps,((relabel scope X.env).names.lookup y=some .cell∨(relabel scope X.env).names.lookup y=some .free)∧(X.env.kindOf y=some .cell∨X.env.kindOf y=some .free)) (nd:(x::caps).Nodup)
  (body:∀ cl s₃ H₃ fp,PIfs (X.comp scope cl (x::caps) s₃ H₃ fp) ifs tt∧PE (X.comp scope cl (x::caps) s₃ H₃ fp) elt te) (hs:∀ v,foldedSetIterable iter X.env v=pure v:=by intro _; rfl) :
  PE X (.ListComp elt [⟨.Name x px,iter,ifs,0⟩] scope pos) (tLC cap wi tt te):=by
 intro pins s σ H Q I h
 rw [eval_ListComp]
 obtain ⟨cl,hcl,ca,cb⟩:=clos_of (scope:=scope) (env:=X.env) fun y hy hf=>I.ok.has y.1 (hfree y hy hf)
 refine wpAny_comprehension_free (use:=none) rfl hs hcl hkind hnames (thn (hi pins s σ H _ I h) fun v s1 h1=>thn h1 fun itv s2 h2=>?_)
 obtain ⟨it,fp,tn,J,H2,e,I2,T,st2,f2,rest⟩:=h2
 subst e
 have hfr:H2 s2.heap.objs.size=none:=I2.hok.fresh (Nat.le_refl _)
 obtain ⟨W,⟨m0,w0⟩,turn⟩:=rest s2.heap.objs.size hfr
 refine wpAny_newObj_type (wpAny_newFunctionEnv hcell (by intro y hy; simp at hy) (fun h4 hn4 hs4=>?_) hkind)
 dsimp only at hn4 hs4 ⊢
 have I3:Inv X pins σ (upd H2 s2.heap.objs.size (.lst [])) { s2 with heap:=s2.heap.push { cls:=.type "list",dict:=none,data:=.seq ([]:List Value).toArray } } :=
  I2.laid (t':=s2.toks) (o:=.lst []) (fun b o e=>Heap.get?_push_of_some _ e) (Nat.le_refl _) ⟨Nat.zero_le _,[],0,.nil,Heap.get?_push_size _ rfl⟩
 generalize hs3:({ s2 with heap:=s2.heap.push { cls:=.type "list",dict:=none,data:=.seq ([]:List Value).toArray } }:Shared)=s3 at I3
 have hz3:s3.heap=s2.heap.push { cls:=.type "list",dict:=none,data:=.seq ([]:List Value).toArray }:=by rw [← hs3]
 rw [← hz3] at hn4 hs4 ⊢
 have kp3:∀ b o,s3.heap.get? b=some o→h4.get? b=some o:=fun b o e=>hs4.extBut b o (Nat.ne_of_lt (Heap.lt_size e)) (Heap.get?_push_of_some _ e)
 have lt2:∀ b∈fp,b<s2.heap.objs.size:=fun b hb=>let ⟨o,e,_⟩:=T.obj 0 _ st2 b hb; Heap.lt_size e
 have hz:s3.heap.objs.size=s2.heap.objs.size+1:=by rw [hz3,Heap.size_push]
 have lt3:∀ b∈fp,b<s3.heap.objs.size:=fun b hb=>by rw [hz]; exact Nat.lt_succ_of_lt (lt2 b hb)
 have f3:∀ b∈fp,FpOk X pins (upd H2 s2.heap.objs.size (.lst [])) b:=fun b hb=>⟨by rw [upd_ne (Nat.ne_of_lt (lt2 b hb))]; exact (f2 b hb).1,(f2 b hb).2⟩
 have ok':(X.comp scope cl (x::caps) s3 (upd H2 s2.heap.objs.size (.lst [])) fp).Ok:=comp_ok I3 f3 lt3 hkind hcell ca cb
 have I4:Inv (X.comp scope cl (x::caps) s3 (upd H2 s2.heap.objs.size (.lst [])) fp) [] (none::capV σ cap) (upd H2 s2.heap.objs.size (.lst [])) { s3 with heap:=h4,toks:=s2.toks+([]:List (Str×Value)).length } :=
  inv_comp I3 ok' ca cb hcell hcap hvis hn4 kp3
 have st4:tn 0 h4:=T.keep _ _ _ st2 fun b hb o e=>kp3 b o (by rw [hz3]; exact Heap.get?_push_of_some _ e)
 obtain ⟨bI,bE⟩:=body cl s3 (upd H2 s2.heap.objs.size (.lst [])) fp
 have stat:∀ {H':Hp},(∀ b∈fp,H' b=none)→∀ b∈fp,FpOk (X.comp scope cl (x::caps) s3 (upd H2 s2.heap.objs.size (.lst [])) fp) [] H' b:=fun {H'} hn b hb =>
  ⟨hn b hb,Nat.ne_of_lt (lt3 b hb),ok'.exfs b hb,.inl hb,fun y c hy=>(f2 b hb).2.2.2.2.1 y c (ca y c hy),fun p hp=>absurd (show p∈([]:List (Addr×Obj)) from hp) (by simp)⟩
 have es:({ s2 with heap:=h4,toks:=s2.toks+([]:List (Str×Value)).length }:Shared)={ s3 with heap:=h4,toks:=s2.toks+([]:List (Str×Value)).length }:=by rw [← hs3]
 rw [es]
 have fin:∀ {σ':St} {H':Hp} {s':Shared},Inv (X.comp scope cl (x::caps) s3 (upd H2 s2.heap.objs.size (.lst [])) fp) [] σ' H' s'→Q (.ref s2.heap.objs.size) H' →
   compPost (model X.prog X.w) X.A X.xe none (EP X pins σ Q) (.ref s2.heap.objs.size) s3.heap.objs.size (.ok .next) s':=fun {σ' H' s'} J' q=>by
  obtain ⟨m,hn,_⟩:=J'.loc
  refine ⟨m,hn,fun h' sb=>?_⟩
  have IX:Inv X pins σ H' s':=I3.call' J'.os J'.base J'.hok J'.bare fun b hb=>⟨(f3 b hb).2.2.2.1,(f3 b hb).2.1,(f3 b hb).2.2.2.2.1,(f3 b hb).2.2.2.2.2⟩
  have fc:=I3.fpOk (Nat.le_refl _) (I3.hok.fresh (Nat.le_refl _))
  exact ⟨.ref s2.heap.objs.size,H',IX.turned (t':=s'.toks) (fun b o hb e=>sb.extBut b o hb e) J'.free fc.2.1 fc.2.2.2.1 fc.2.2.2.2.1 fc.2.2.2.2.2,rfl,q⟩
 have loop:codeAny (model X.prog X.w) X.A (.compLoop (.ListComp elt [⟨.Name x px,iter,ifs,0⟩] scope pos) 0 (.ref it) (.ref s2.heap.objs.size) (compEnvC scope cl s3.heap.objs.size X.env))
   (compPost (model X.prog X.w) X.A X.xe none (EP X pins σ Q) (.ref s2.heap.objs.size) s3.heap.objs.size) { s3 with heap:=h4,toks:=s2.toks+([]:List (Str×Value)).length }:=by
  refine codeAny_compLoop_tests (fun n s'=>∃ i o H',Inv (X.comp scope cl (x::caps) s3 (upd H2 s2.heap.objs.size (.lst [])) fp) [] (o::capV σ cap) H' s'∧tn i s'.heap∧(∀ b∈fp,H' b=none)∧W i n H') ?_ m0
   ⟨0,none,_,I4,st4,fun b hb=>(f3 b hb).1,w0⟩
  rintro n s5 ⟨i,o,H5,I5,st5,fr5,w5⟩
  rcases turn i n H5 w5 with ⟨stop,qn⟩ | ⟨go,step⟩
  ·refine thn (T.done (X.comp scope cl (x::caps) s3 (upd H2 s2.heap.objs.size (.lst [])) fp) rfl rfl rfl hc i [] s5 _ H5 _ I5 (stat fr5) st5 stop) fun r s6 ⟨hr,I6⟩=>?_
   subst hr
   exact fin I6 qn
  ·refine thn (T.item (X.comp scope cl (x::caps) s3 (upd H2 s2.heap.objs.size (.lst [])) fp) rfl rfl rfl hc i [] s5 _ H5 _ I5 (stat fr5) st5 go) fun r s6 ⟨u,hr,h6⟩=>?_
   subst hr
   dsimp only
   show wpAny (model X.prog X.w) X.A ((pure ():Sem Unit) >>= fun _=>assign (.Name x px) (compEnvC scope cl s3.heap.objs.size X.env) u) _ _ s6
   refine wpAny_bind (thn h6 fun _ s7 ⟨y,H7,I7,r7,y7,st7,fr7⟩=>?_)
   have I7':=I7.pinned (stat fr7) (T.obj _ _ st7)
   have pg:=pg_name (X:=X.comp scope cl (x::caps) s3 (upd H2 s2.heap.objs.size (.lst [])) fp) (i:=0) (x:=x) (pos:=px) nd rfl (.inl (lookup_relabel_local hx)) (.inr (lookup_relabel_local hx))
   refine wpAny_mono (pg _ s7 _ H7 y u (fun σ' H'=>σ'=some y::capV σ cap∧H'=H7) I7' r7 ⟨rfl,rfl⟩) (fun _ s8 ⟨σ8,H8,I8,e8,e8'⟩=>?_) fun _ _ f=>f.elim
   subst e8 e8'
   have again:∀ {H9:Hp} {s9:Shared} {m':Nat},Inv (X.comp scope cl (x::caps) s3 (upd H2 s2.heap.objs.size (.lst [])) fp) ([]++pinsAt fp s7.heap) (some y::capV σ cap) H9 s9→m'<n→W (i+1) m' H9 →
     ∃ m,m<n∧∃ i o H',Inv (X.comp scope cl (x::caps) s3 (upd H2 s2.heap.objs.size (.lst [])) fp) [] (o::capV σ cap) H' s9∧tn i s9.heap∧(∀ b∈fp,H' b=none)∧W i m H':=fun {H9 s9 m'} I9 hm w9=>by
    have pin9:=fun b hb o e=>I9.pin (b,o) (List.mem_append_right _ (List.mem_append_right _ (mem_pinsAt hb e)))
    refine ⟨m',hm,i+1,some y,H9,I9.unpinned,T.keep _ _ _ st7 fun b hb o e=>(pin9 b hb o e).1,fun b hb=>?_,w9⟩
    obtain ⟨o,e,d⟩:=T.obj _ _ st7 b hb
    exact (pin9 b hb o e).2.1
   refine wpAny_mono (bI _ s8 _ H8 _ I8 (step y H8 y7)) (fun ok s9 ⟨H9,I9,q9⟩=>?_) fun _ _ f=>f.elim
   cases ok with
   | false =>
    rw [if_neg Bool.false_ne_true] at q9 ⊢
    obtain ⟨m',hm,w9⟩:=q9
    exact again I9 hm w9
   | true =>
    rw [if_pos rfl] at q9 ⊢
    refine wpAny_mono (bE _ s9 _ H9 _ I9 q9) (fun z s10 ⟨v10,H10,I10,r10,ys,m',hl,hsz,hm,w10⟩=>?_) fun _ _ f=>f.elim
    refine wpAny_mono (mt_append (X:=X.comp scope cl (x::caps) s3 (upd H2 s2.heap.objs.size (.lst [])) fp) _ s10 _ H10 (.ref s2.heap.objs.size) [v10] (.ref s2.heap.objs.size) [z] (fun _ H'=>H'=upd H10 s2.heap.objs.size (.lst (ys++[v10]))) I10 rfl (.cons r10 .nil) ⟨_,ys,v10,rfl,rfl,hl,hsz,rfl⟩) (fun _ s11 ⟨_,H11,I11,_,e11⟩=>?_) fun _ _ f=>f.elim
    subst e11
    exact again I11 hm w10
 refine codeAny_compStart_list loop (T.self _ 0 _ _ _ st4 loop)
end
end L2
namespace L2
open PySem PySem.Spec PyProof.Rows
end L2
namespace L2
open PySem PySem.Spec PyProof.Rows
theorem lc_range_if {lo:Int} {n:Nat} {l:Addr} {H1:Hp} {tt:TT} {te:TE} {σ':St} {Q:VK} (p:Nat→Bool) (f:Nat→V) (hn:n≤1000) (hl:H1 l=none)
  (ht:∀ (i:Nat) H2 (R:Bool→Hp→Prop),i<n→Same H1 H2→(∀ H3,Same H2 H3→R (p i) H3)→tt (some (.int (lo+(i:Nat)))::σ') H2 R)
  (he:∀ (i:Nat) H2 (R:VK),i<n→p i=true→Same H1 H2→(∀ H3,Same H2 H3→R (f i) H3)→te (some (.int (lo+(i:Nat)))::σ') H2 R)
  (hq:∀ H2,Same H1 H2→H2 l=some (.lst (((List.range n).filter p).map f))→Q (.ref l) H2) :
  LCG (Itr lo n) l σ' tt te Q H1:=by
 refine ⟨fun i m H2=>m=n - i∧i≤n∧Same H1 H2∧H2 l=some (.lst (((List.range i).filter p).map f)),⟨n,by simp,Nat.zero_le _,fun b o e=>by rw [upd_ne (ne_of_none e hl)]; exact e,upd_same⟩,?_⟩
 rintro i m H2 ⟨rfl,hi,s2,h2⟩
 by_cases hlt:i<n
 ·refine .inr ⟨hlt,fun x H3 y=>?_⟩
  obtain ⟨e,y⟩:=y
  subst e y
  refine ht i _ _ hlt s2 fun H4 s4=>?_
  have s14:Same H1 H4:=s2.trans s4
  cases q:p i with
  | false =>
   rw [if_neg Bool.false_ne_true]
   refine ⟨n - (i+1),by omega,rfl,hlt,s14,?_⟩
   rw [List.range_succ,List.filter_append,List.filter_cons,q,List.filter_nil]
   simp only [Bool.false_eq_true,if_false,List.append_nil]
   exact s4 _ _ h2
  | true =>
   rw [if_pos rfl]
   refine he i _ _ hlt q s14 fun H5 s5=>⟨_,n - (i+1),s5 _ _ (s4 _ _ h2),?_,by omega,rfl,hlt,fun b o e=>?_,?_⟩
   ·rw [List.length_map]
    refine small1000 (Nat.le_trans (List.length_filter_le _ _) ?_)
    rw [List.length_range]
    omega
   ·rw [upd_ne (ne_of_none e hl)]
    exact s5 _ _ (s14 _ _ e)
   ·rw [upd_same,List.range_succ,List.filter_append,List.filter_cons,q,List.filter_nil,List.map_append]
    rfl
 ·have e:i=n:=by omega
  subst e
  exact .inl ⟨Nat.le_refl _,hq H2 s2 h2⟩
theorem lc_list_if {K:PySem.W.Frag} {a:Addr} {xs:List V} {l:Addr} {H1:Hp} {tt:TT} {te:TE} {σ':St} {Q:VK} (p:V→Bool) (f:V→V) (hn:xs.length≤1000) (hl:H1 l=none) (hx:SqL K H1 a xs)
  (ht:∀ x H2 (R:Bool→Hp→Prop),x∈xs→Same H1 H2→(∀ H3,Same H2 H3→R (p x) H3)→tt (some x::σ') H2 R)
  (he:∀ x H2 (R:VK),x∈xs→p x=true→Same H1 H2→(∀ H3,Same H2 H3→R (f x) H3)→te (some x::σ') H2 R)
  (hq:∀ H2,Same H1 H2→H2 l=some (.lst ((xs.filter p).map f))→Q (.ref l) H2) :
  LCG (Itl K a) l σ' tt te Q H1:=by
 refine ⟨fun i m H2=>m=xs.length - i∧i≤xs.length∧Same H1 H2∧H2 l=some (.lst (((xs.take i).filter p).map f)),⟨xs.length,by simp,Nat.zero_le _,fun b o e=>by rw [upd_ne (ne_of_none e hl)]; exact e,by rw [upd_same]; rfl⟩,?_⟩
 rintro i m H2 ⟨rfl,hi,s2,h2⟩
 by_cases hlt:i<xs.length
 ·refine .inr ⟨⟨xs,xs[i],s2.seq hx,by simp [hlt]⟩,fun x H3 y=>?_⟩
  obtain ⟨e,y⟩:=y
  subst e
  have hxi:=y xs (s2.seq hx)
  have hm:=List.mem_of_getElem? hxi
  have tk:xs.take (i+1)=xs.take i++[x]:=by
   rw [List.take_succ,hxi]
   rfl
  refine ht x _ _ hm s2 fun H4 s4=>?_
  have s14:Same H1 H4:=s2.trans s4
  cases q:p x with
  | false =>
   rw [if_neg Bool.false_ne_true]
   refine ⟨xs.length - (i+1),by omega,rfl,hlt,s14,?_⟩
   rw [tk,List.filter_append,List.filter_cons,q,List.filter_nil]
   simp only [Bool.false_eq_true,if_false,List.append_nil]
   exact s4 _ _ h2
  | true =>
   rw [if_pos rfl]
   refine he x _ _ hm q s14 fun H5 s5=>⟨_,xs.length - (i+1),s5 _ _ (s4 _ _ h2),?_,by omega,rfl,hlt,fun b o e=>?_,?_⟩
   ·rw [List.length_map]
    refine small1000 (Nat.le_trans (List.length_filter_le _ _) ?_)
    rw [List.length_take]
    omega
   ·rw [upd_ne (ne_of_none e hl)]
    exact s5 _ _ (s14 _ _ e)
   ·rw [upd_same,tk,List.filter_append,List.filter_cons,q,List.filter_nil,List.map_append]
    rfl
 ·have e:i=xs.length:=by omega
  subst e
  rw [List.take_length] at h2
  exact .inl ⟨⟨xs,s2.seq hx,Nat.le_refl _⟩,hq H2 s2 h2⟩
end L2
set_option maxHeartbeats 4000000
namespace L2
open PySem PySem.Spec PyProof.Rows
section
variable {X:Cx}
theorem met_all (val:Nat→Int):∀ n,(firstMet val n).length=n↔((List.range n).map val).Nodup
 | 0=>by simp [firstMet_zero]
 | n+1=>by
  have le:=firstMet_length_le val n
  have ih:=met_all val n
  have an:=firstMet_any val n (val n)
  rw [firstMet_succ]
  unfold step_dedup
  rw [List.range_succ,List.map_append,List.nodup_append,← ih]
  by_cases h:(firstMet val n).any (· == val n)=true
  ·rw [if_pos h]
   constructor
   ·intro z; omega
   ·rintro ⟨_,_,d⟩
    rw [an,List.any_eq_true] at h
    obtain ⟨y,hy,e⟩:=h
    exact absurd (by simpa using e) (d y hy (val n) (by simp))
  ·rw [if_neg h,List.length_append,List.length_singleton]
   constructor
   ·intro z
    refine ⟨by omega,by simp,fun a ha b hb e=>h ?_⟩
    rw [an,List.any_eq_true]
    have eb:b=val n:=by simpa using hb
    exact ⟨a,ha,by rw [e,eb]; simp⟩
   ·rintro ⟨z,_⟩
    omega
theorem getD_map (ns:List Int):(List.range ns.length).map (fun i=>ns.getD i 0)=ns:=by
 refine List.ext_getElem? fun i=>?_
 by_cases h:i<ns.length
 ·rw [List.getElem?_map,List.getElem?_range h,List.getElem?_eq_getElem h]
  simp [List.getD,h]
 ·rw [List.getElem?_eq_none (by simp; omega),List.getElem?_eq_none (by omega)]
def rSet (K:PySem.W.Frag):List V→Hp→VK→Prop:=fun xs H Q=>∃ (p:Addr) (ns:List Int),xs=[.ref p]∧SqL K H p (ns.map V.int)∧ns.length<1000∧∀ (l:Addr) (S:Int→Bool) (n:Nat),H l=none→n≤ns.length→(n=ns.length↔ns.Nodup)→Q (.ref l) (upd H l (.set S n))
theorem call_set (hc:X.calm=true):CallR X (.type "set") (rSet X.K):=by
 intro pins s σ H xs us Q I r h
 obtain ⟨p,ns,rfl,hq,hl,q⟩:=h
 obtain ⟨u,rfl,rx⟩:=vals1 r
 cases rx
 obtain ⟨its,rv,pl,hz⟩:=I.list hq
 have hi:IntsAre its ns:=intsAre_of rv
 have hlen:=rv.length
 rw [List.length_map] at hlen hz
 refine call_set_list (I.ok.hd hc) pl.isList (by simpa using hi) (by rw [List.size_toArray]; unfold scanBound; omega) fun h' tk hS hk=>?_
 have hsz:its.toArray.size=ns.length:=by rw [List.size_toArray,hlen]
 rw [hsz] at hS
 have hm:=met_all (fun i=>ns.getD i 0) ns.length
 rw [getD_map] at hm
 exact ⟨.ref s.heap.objs.size,_,I.laid (t':=tk) (o:=.set _ _) (fun b u q=>hk b u (Heap.lt_size q) q) (Nat.le_refl _) hS,rfl,q _ _ _ (I.hok.fresh (Nat.le_refl _)) (firstMet_length_le _ _) hm⟩
def rLenSet:List V→Hp→VK→Prop:=fun xs H Q=>∃ (p:Addr) (S:Int→Bool) (n:Nat),xs=[.ref p]∧H p=some (.set S n)∧Q (.int n) H
theorem call_lenSet:CallR X (.builtin "len") rLenSet:=by
 intro pins s σ H xs us Q I r h
 obtain ⟨p,S,n,rfl,hq,q⟩:=h
 obtain ⟨u,rfl,rx⟩:=vals1 r
 cases rx
 obtain ⟨o,es,ep,t,ho,hex,hd,_,_,hsc,hf,e⟩:s.heap.SetOf (intKind X.prog X.w) p S n:=I.hok p _ hq
 subst e
 refine call_len_set ho hex hd hf ?_ ⟨.int es.size,H,I.tok _,⟨_,rfl⟩,q⟩
 unfold scanBound at hsc
 omega
end
end L2
set_option maxHeartbeats 4000000
namespace Rv
open PySem PyProof.Rows
theorem nolen_lr:typeLookup (.type "list_reverseiterator") "__len__"=pure none:=by rw [typeLookup_type,builtinLookup_eq_fast]; kernel_rfl
theorem hint_lr:typeLookup (.type "list_reverseiterator") "__length_hint__"=pure (some (.builtin "list_reverseiterator.__length_hint__")):=by rw [typeLookup_type,builtinLookup_eq_fast]; kernel_rfl
section
variable {prog:Program} {w:World} {A:Around} {E:Value→Shared→Prop} {s:Shared}
theorem hint {it:Addr} {Q:Bool→Shared→Prop} (hT:s.TypeIs (.ref it) "list_reverseiterator") (h:Q false s):wpAny (model prog w) A (Builtin.List.listLengthHint (.ref it)) Q E s:=by
 unfold Builtin.List.listLengthHint
 refine wpAny_bind (wpAny_specialOf hT nolen_lr ?_)
 show wpAny _ A (specialOf (Value.ref it) (Str.ofString "__length_hint__") >>= _) _ _ _
 refine wpAny_bind (wpAny_specialOf hT hint_lr ?_)
 (generalize hid:("list_reverseiterator.__length_hint__":String)=id0; (fail_if_success (clear hid id0)); wp_delta; rw [show splitId id0=some ("list_reverseiterator","__length_hint__") from by subst hid; decide +kernel]; subst hid)
 refine wpAny_bind (wpAny_isInstance (b:=true) hT (by rw [isSubtype_type]; kernel_rfl) ?_)
 exact wpAny_pure h
theorem extend {R:Result→Shared→Prop} {it l:Addr} {items:Array Value} (hh:A.handled=none) (hit:s.heap.IsRevIter it l ((items.size:Int) - 1)) (hl:s.heap.IsList l items) (hne:l≠it) (S:Addr) (hSi:S≠it) (hSl:S≠l) (res:Value) (c₀:Nat)
  (hS:s.heap.get? S=some { cls:=.type "list",data:=.seq #[] c₀ })
  (hR:∀ h' tk acc' c',(∀ b o,b≠S→b≠it→s.heap.get? b=some o→h'.get? b=some o)→h'.get? S=some { cls:=.type "list",dict:=none,data:=.seq acc' c',slots:=#[] }→ItemsOf (fun i v=>items[items.size - 1 - i]?=some v) acc' items.size→R (.ok (.ret res)) { s with heap:=h',toks:=tk })
  (hn:items.size≤sizeLine) :
  wpAny (model prog w) A.in1 (Builtin.List.listExtendWith (.ref S) (.ref it) res)
   (fun fin s'=>match fin with | .done f=>R (.ok f) s' | .again c'=>c'.quiet=true∧codeAny (model prog w) A c' R s') (fun e s'=>R (.error e) s') s:=by
 have hSf:S∉[it,l]:=by simp only [List.mem_cons,List.not_mem_nil,or_false,not_or]; exact ⟨hSi,hSl⟩
 have W:=Walks.listRev (prog:=prog) (w:=w) (A:=A.in1) hh it l hne items
 have st:(0:Nat)≤items.size∧s.heap.IsRevIter it l ((items.size:Int) - 1 - ((0:Nat):Int))∧s.heap.IsList l items:=⟨Nat.zero_le _,by simpa using hit,hl⟩
 unfold Builtin.List.listExtendWith
 refine wpAny_bind (wpAny_typeOf (T:="list_reverseiterator") hit.typeIs ?_)
 have h1:Builtin.List.listSameRef (.ref S) (.ref it)=false:=by simp [Builtin.List.listSameRef,hSi]
 have h2:(Value.type "list_reverseiterator" == Value.type "list")=false:=by decide
 have h3:(Value.type "list_reverseiterator" == Value.type "tuple")=false:=by decide
 simp only [h1,h2,h3,Bool.or_false,Bool.false_eq_true,if_false]
 refine wpAny_bind (wpAny_pyIter_revIter hit ?_)
 refine wpAny_bind (wpAny_holding (hint hit.typeIs ?_))
 refine wpAny_ite_split (fun z=>by cases z) (fun _=>?_)
 refine wpAny_pure ⟨plainId_quiet PySem.F.plain_extend_loop _,codeAny_extend_loopS W.toS hn S hSf res items.size 0 _ #[] c₀ rfl (Nat.zero_le _) st hS (ItemsOf.nil _) fun s' acc' c' hm hS' hacc=>?_⟩
 rw [Moved.eq_with hm]
 refine hR s'.heap s'.toks acc' c' (fun b o hb hbi e=>hm.heap b o (fun hmem=>?_) e) hS' hacc
 rcases List.mem_cons.mp hmem with e' | hmem
 ·exact hb e'
 ·exact hbi (List.mem_singleton.mp hmem)
theorem init {R:Result→Shared→Prop} {it l:Addr} {items:Array Value} (hh:A.handled=none) (hit:s.heap.IsRevIter it l ((items.size:Int) - 1)) (hl:s.heap.IsList l items) (hne:l≠it) (S:Addr) (hSi:S≠it) (hSl:S≠l)
  (hS:s.heap.get? S=some { cls:=.type "list",data:=.seq #[] })
  (hR:∀ h' tk acc' c',(∀ b o,b≠S→b≠it→s.heap.get? b=some o→h'.get? b=some o)→h'.get? S=some { cls:=.type "list",dict:=none,data:=.seq acc' c',slots:=#[] }→ItemsOf (fun i v=>items[items.size - 1 - i]?=some v) acc' items.size→R (.ok (.ret .none)) { s with heap:=h',toks:=tk })
  (hn:items.size≤sizeLine) :
  wpAny (model prog w) A.in1 (Builtin.«list.__init__» ⟨[.ref S,.ref it],[]⟩)
   (fun fin s'=>match fin with | .done f=>R (.ok f) s' | .again c'=>c'.quiet=true∧codeAny (model prog w) A c' R s') (fun e s'=>R (.error e) s') s:=by
 show wpAny _ _ (do let old ← Builtin.List.listItems (.ref S); Builtin.List.listUpdate (.ref S) (fun _=>#[]); letGo old.toList.reverse; Builtin.List.listExtendWith (.ref S) (.ref it) .none) _ _ s
 refine wpAny_bind ?_
 unfold Builtin.List.listItems
 refine wpAny_bind (wpAny_seqItems hS rfl (wpAny_pure ?_))
 show wpAny _ _ (updateSeq S (fun _=>#[]) >>= fun _=>letGo (#[]:Array Value).toList.reverse >>= fun _=>Builtin.List.listExtendWith (.ref S) (.ref it) .none) _ _ s
 refine wpAny_bind (wpAny_updateSeq hS rfl ?_)
 have hS₂:=Heap.get?_update_self (Obj.mapSeq (fun _=>(#[]:Array Value))) hS rfl
 have oth:∀ b o,b≠S→s.heap.get? b=some o→(s.heap.update S (Obj.mapSeq (fun _=>(#[]:Array Value)))).get? b=some o :=
  fun b o hb e=>(Heap.get?_update_other _ _ (Ne.symm hb)).trans e
 refine wpAny_bind (wpAny_letGo ?_)
 refine extend hh (hit.at fun o e=>oth it o hSi.symm e) (hl.at fun o e=>oth l o hSl.symm e) hne S hSi hSl .none _ hS₂ (fun h' tk acc' c' hk hS' hacc=>?_) hn
 exact hR h' tk acc' c' (fun b o hb hbi e=>hk b o hb hbi (oth b o hb e)) hS' hacc
end
end Rv
namespace L2
open PySem PySem.Spec PyProof.Rows
section
variable {X:Cx}
theorem boot_reversed:bootBuiltins "reversed"=some (.type "reversed"):=by decide +kernel
def Itv (K:PySem.W.Frag) (a:Addr) (n:Nat):It :=
 ⟨fun i H=>i<n∧∃ xs,SqL K H a xs∧xs.length=n,fun i H x H'=>H'=H∧∀ xs,SqL K H a xs→xs[n - 1 - i]?=some x,fun i _=>i=n⟩
theorem turn_rev {P:Program} {w:World} {K:PySem.W.Frag} {tg:Expr} (a it:Addr) (n:Nat):Turn P w K tg (Itv K a n) [it] it (fun i h=>i≤n∧h.IsRevIter it a ((n:Int) - 1 - (i:Nat))) where
 mem:=by simp
 obj:=fun i h st b hb=>by
  have e:b=it:=by simpa using hb
  subst e
  obtain ⟨_,o,e,c,d⟩:=st
  exact ⟨o,e,fun v z=>by rw [d] at z; cases z⟩
 keep:=fun i h h' st k=>⟨st.1,st.2.at fun o e=>k it (by simp) o e⟩
 item:=by
  intro X hP hw hK hc i pins s σ H E I hf st hg
  subst hP hw hK
  obtain ⟨hin,xs,hq,hx⟩:=hg
  obtain ⟨its,rv,p,hz⟩:=I.list hq
  have hlen:=rv.length
  have hx':xs[n - 1 - i]?=some (xs[n - 1 - i]'(by omega)):=List.getElem?_eq_getElem _
  obtain ⟨u,hu,ru⟩:=rv.get hx'
  obtain ⟨f0,f1,f2,f3,f4,f5⟩:=hf it (by simp)
  have hit:=st.2
  have e1:(n:Int) - 1 - (i:Nat)=((n - 1 - i:Nat):Int):=by omega
  rw [e1] at hit
  refine wpAny_pyNext_rev_item hit p.isList (x:=u) (by simpa using hu) fun h' st' sb=>?_
  have e2:((n - 1 - i:Nat):Int) - 1=(n:Int) - 1 - ((i+1:Nat):Int):=by omega
  rw [e2] at st'
  have I1:Inv X pins σ H { s with heap:=h' }:=I.turned (t':=s.toks) (fun b o hb e=>(sb.2 b hb).trans e) f0 f1 f3 f4 f5
  obtain ⟨o,e,c,d⟩:=id st'
  exact ⟨u,rfl,go_of (s:={ s with heap:=h' }) e c d (by decide) ⟨_,H,I1,ru,⟨rfl,fun ys hy=>by rw [I.list_inj hy hq]; exact hx'⟩,⟨hin,st'⟩,fun b hb=>(hf b hb).1⟩⟩
 done:=by
  intro X hP hw hK hc i pins s σ H E I hf st hg
  subst hP hw hK
  have hi:i=n:=hg
  subst hi
  obtain ⟨f0,f1,f2,f3,f4,f5⟩:=hf it (by simp)
  have hit:=st.2
  rw [show (i:Int) - 1 - (i:Nat)=-1 by omega] at hit
  exact wpAny_pyNext_rev_end (I.ok.hd hc) hit fun h' eb=>⟨rfl,I.turned (t':=s.toks) (fun b o hb e=>eb b o hb e) f0 f1 f3 f4 f5⟩
 self:=fun _ _ _ _ _ st h=>wpAny_pyIter_revIter st.2 h
def iRev (K:PySem.W.Frag) (ta:TA):TI:=fun σ H R=>ta σ H fun vs H1=>∃ a xs,vs=[.ref a]∧SqL K H1 a xs∧R (Itv K a xs.length) H1
theorem pi_rev {tg l:Expr} {ta:TA} {p pos:Pos} (hg:Gl X "reversed") (hm:X.mg "reversed"=none) (ha:PA X [l] ta) (hs:starEach [l] X.env=[(false,eval l X.env)]:=by rfl) :
  PI X tg (.Call (.Name "reversed" p) [l] [] pos) (iRev X.K ta):=by
 intro pins s σ H R I h
 refine Call_ (ld_blt I hg hm boot_reversed (PyProof.Rows.callWith_type1 (thn (ha pos pins s σ H _ I h) fun us s1 ⟨vs,H1,I1,r1,q1⟩=>?_) hs rfl))
 obtain ⟨a,xs,e,hq,q⟩:=q1
 subst e
 obtain ⟨u,rfl,rl⟩:=Vals.one r1
 cases rl
 obtain ⟨its,rv,pl,hz⟩:=I1.list hq
 have hlen:=rv.length
 refine call_reversed_list pl.isList ?_
 have e:((its.toArray.size:Nat):Int) - 1=(xs.length:Int) - 1 - ((0:Nat):Int):=by rw [List.size_toArray]; omega
 rw [e]
 have hit:(s1.heap.push (revObj a ((xs.length:Int) - 1 - ((0:Nat):Int)))).IsRevIter s1.heap.objs.size a ((xs.length:Int) - 1 - ((0:Nat):Int)):=⟨_,Heap.get?_push_size _ rfl,rfl,rfl⟩
 refine wpAny_pyIter_revIter hit ?_
 refine ⟨s1.heap.objs.size,[s1.heap.objs.size],_,_,H1,rfl,I1.kept (t':=s1.toks) fun b o e=>Heap.get?_push_of_some _ e,turn_rev a _ xs.length,⟨Nat.zero_le _,hit⟩,fun b hb=>?_,q⟩
 have e:b=s1.heap.objs.size:=by simpa using hb
 subst e
 exact I1.fpOk (Nat.le_refl _) (I1.hok.fresh (Nat.le_refl _))
theorem for_rev {K:PySem.W.Frag} {a:Addr} {xs:List V} {g:TG} {tb:TS} {D:Ends} {σ:St} {H:Hp} (Pv:Nat→St→Hp→Prop) (h0:Pv 0 σ H) (hl:∀ i σ H,i≤xs.length→Pv i σ H→SqL K H a xs)
  (hs:∀ i x σ H,i<xs.length→xs[xs.length - 1 - i]?=some x→Pv i σ H→g x σ H fun σ2 H2=>tb { D with nx:=Pv (i+1),ct:=Pv (i+1),bk:=D.nx } σ2 H2) (hd:∀ σ H,Pv xs.length σ H→D.nx σ H) :
  ∃ W:Nat→Nat→St→Hp→Prop,(∃ m,W 0 m σ H)∧∀ i m σ H,W i m σ H →
   ((Itv K a xs.length).stop i H∧D.nx σ H)∨((Itv K a xs.length).go i H∧∃ N:St→Hp→Prop,(∀ σ' H',N σ' H'→∃ m',m'<m∧W (i+1) m' σ' H')∧∀ x H',(Itv K a xs.length).yld i H x H'→g x σ H' fun σ2 H2=>tb { D with nx:=N,ct:=N,bk:=D.nx } σ2 H2):=by
 refine ⟨fun i m σ H=>m=xs.length - i∧i≤xs.length∧Pv i σ H,⟨xs.length,by simp,Nat.zero_le _,h0⟩,?_⟩
 rintro i m σ H ⟨rfl,hi,p⟩
 have q:=hl i σ H hi p
 by_cases hlt:i<xs.length
 ·refine .inr ⟨⟨hlt,xs,q,rfl⟩,Pv (i+1),fun σ' H' p'=>⟨xs.length - (i+1),by omega,rfl,hlt,p'⟩,fun x H' y=>?_⟩
  obtain ⟨e,y⟩:=y
  subst e
  exact hs i x σ _ hlt (y xs q) p
 ·have e:i=xs.length:=by omega
  subst e
  exact .inl ⟨rfl,hd σ H p⟩
end
end L2
set_option maxHeartbeats 4000000
namespace L2
open PySem PySem.Spec PyProof.Rows
section
variable {X:Cx}
theorem op_in_seqK {K:PySem.W.Frag} (h:X.K=K):OpR X (compareOp .In) (rIn K false):=h ▸ op_in_seq
theorem op_notIn_seqK {K:PySem.W.Frag} (h:X.K=K):OpR X (compareOp .NotIn) (rIn K true):=h ▸ op_notIn_seq
theorem ps_lcomp {y:Str} {py spos:Pos} {i₀:Nat} {elt iter:Expr} {x:Str} {px:Pos} {ifs:List Expr} {scope:Scope} {pos:Pos} {cap:List Nat} {caps:List Str} {wi:TI} {tt:TT} {te:TE} (hN:X.N.Nodup) (hi₀:X.N[i₀]?=some y) (hy:Loc X.env.scope y) (hsw:swapsWith (.ListComp elt [⟨.Name x px,iter,ifs,0⟩] scope pos) (some (.Name y py)) spos.line X.env=pure true) (hc:X.calm=true) (hi:PI X (.Name x px) iter wi) (hkind:scope.kind=.function)
  (hnames:∀ y∈scope.names,y.2=.local→scope.names.lookup y.1=some .local) (hcell:∀ y∈scope.names,y.2≠.cell) (hx:scope.names.lookup x=some .local)
  (hfree:∀ y∈scope.names,y.2=.free→X.env.kindOf y.1=some .cell∨X.env.kindOf y.1=some .free) (hcap:cap.map (fun k=>X.N[k]?)=caps.map some)
  (hvis:∀ y∈caps,((relabel scope X.env).names.lookup y=some .cell∨(relabel scope X.env).names.lookup y=some .free)∧(X.env.kindOf y=some .cell∨X.env.kindOf y=some .free)) (nd:(x::caps).Nodup)
  (body:∀ cl s₃ H₃ fp,PIfs (X.comp scope cl (x::caps) s₃ H₃ fp) ifs tt∧PE (X.comp scope cl (x::caps) s₃ H₃ fp) elt te) (hs:∀ v,foldedSetIterable iter X.env v=pure v:=by intro _; rfl)
  (hfn:X.fn y=true∨X.env.scope.names.lookup y=some .local:=by first | exact .inl rfl | exact .inr rfl | assumption) :
  PS X (.Assign [.Name y py] (.ListComp elt [⟨.Name x px,iter,ifs,0⟩] scope pos) spos) (tAsg (tLC cap wi tt te) (gName i₀)):=by
 intro pins s σ H D I h
 have h:tLC cap wi tt te σ H (fun v H1=>D.nx (σ.set i₀ (some v)) H1):=h
 generalize hQ:(fun v H1=>D.nx (σ.set i₀ (some v)) H1:VK)=Q at h
 rw [exec_Assign_Name_used _ _ _ _ hsw]
 refine wpAny_bind (wpAny_standAt (wpAny_bind ?_))
 show wpAny _ X.A (do let _ ← comprehension (.ListComp elt [⟨.Name x px,iter,ifs,0⟩] scope pos) scope X.env _ (newList []) false (eval iter X.env) (some (assign (.Name y py) X.env))) _ _ s
 refine wpAny_bind (wpAny_mono ?_ (fun _ s' hq=>wpAny_pure (wpAny_pure hq)) fun _ _ e=>e)
 obtain ⟨cl,hcl,ca,cb⟩:=clos_of (scope:=scope) (env:=X.env) fun y hy hf=>I.ok.has y.1 (hfree y hy hf)
 refine wpAny_comprehension_free (use:=some (assign (.Name y py) X.env)) (Q:=fun _ s'=>SP X pins D .next s') rfl hs hcl hkind hnames (thn (hi pins s σ H _ I h) fun v s1 h1=>thn h1 fun itv s2 h2=>?_)
 obtain ⟨it,fp,tn,J,H2,e,I2,T,st2,f2,rest⟩:=h2
 subst e
 have hfr:H2 s2.heap.objs.size=none:=I2.hok.fresh (Nat.le_refl _)
 obtain ⟨W,⟨m0,w0⟩,turn⟩:=rest s2.heap.objs.size hfr
 refine wpAny_newObj_type (wpAny_newFunctionEnv hcell (by intro y hy; simp at hy) (fun h4 hn4 hs4=>?_) hkind)
 dsimp only at hn4 hs4 ⊢
 have I3:Inv X pins σ (upd H2 s2.heap.objs.size (.lst [])) { s2 with heap:=s2.heap.push { cls:=.type "list",dict:=none,data:=.seq ([]:List Value).toArray } } :=
  I2.laid (t':=s2.toks) (o:=.lst []) (fun b o e=>Heap.get?_push_of_some _ e) (Nat.le_refl _) ⟨Nat.zero_le _,[],0,.nil,Heap.get?_push_size _ rfl⟩
 generalize hs3:({ s2 with heap:=s2.heap.push { cls:=.type "list",dict:=none,data:=.seq ([]:List Value).toArray } }:Shared)=s3 at I3
 have hz3:s3.heap=s2.heap.push { cls:=.type "list",dict:=none,data:=.seq ([]:List Value).toArray }:=by rw [← hs3]
 rw [← hz3] at hn4 hs4 ⊢
 have kp3:∀ b o,s3.heap.get? b=some o→h4.get? b=some o:=fun b o e=>hs4.extBut b o (Nat.ne_of_lt (Heap.lt_size e)) (Heap.get?_push_of_some _ e)
 have lt2:∀ b∈fp,b<s2.heap.objs.size:=fun b hb=>let ⟨o,e,_⟩:=T.obj 0 _ st2 b hb; Heap.lt_size e
 have hz:s3.heap.objs.size=s2.heap.objs.size+1:=by rw [hz3,Heap.size_push]
 have lt3:∀ b∈fp,b<s3.heap.objs.size:=fun b hb=>by rw [hz]; exact Nat.lt_succ_of_lt (lt2 b hb)
 have f3:∀ b∈fp,FpOk X pins (upd H2 s2.heap.objs.size (.lst [])) b:=fun b hb=>⟨by rw [upd_ne (Nat.ne_of_lt (lt2 b hb))]; exact (f2 b hb).1,(f2 b hb).2⟩
 have ok':(X.comp scope cl (x::caps) s3 (upd H2 s2.heap.objs.size (.lst [])) fp).Ok:=comp_ok I3 f3 lt3 hkind hcell ca cb
 have I4:Inv (X.comp scope cl (x::caps) s3 (upd H2 s2.heap.objs.size (.lst [])) fp) [] (none::capV σ cap) (upd H2 s2.heap.objs.size (.lst [])) { s3 with heap:=h4,toks:=s2.toks+([]:List (Str×Value)).length } :=
  inv_comp I3 ok' ca cb hcell hcap hvis hn4 kp3
 have st4:tn 0 h4:=T.keep _ _ _ st2 fun b hb o e=>kp3 b o (by rw [hz3]; exact Heap.get?_push_of_some _ e)
 obtain ⟨bI,bE⟩:=body cl s3 (upd H2 s2.heap.objs.size (.lst [])) fp
 have stat:∀ {H':Hp},(∀ b∈fp,H' b=none)→∀ b∈fp,FpOk (X.comp scope cl (x::caps) s3 (upd H2 s2.heap.objs.size (.lst [])) fp) [] H' b:=fun {H'} hn b hb =>
  ⟨hn b hb,Nat.ne_of_lt (lt3 b hb),ok'.exfs b hb,.inl hb,fun y c hy=>(f2 b hb).2.2.2.2.1 y c (ca y c hy),fun p hp=>absurd (show p∈([]:List (Addr×Obj)) from hp) (by simp)⟩
 have es:({ s2 with heap:=h4,toks:=s2.toks+([]:List (Str×Value)).length }:Shared)={ s3 with heap:=h4,toks:=s2.toks+([]:List (Str×Value)).length }:=by rw [← hs3]
 rw [es]
 have fin:∀ {σ':St} {H':Hp} {s':Shared},Inv (X.comp scope cl (x::caps) s3 (upd H2 s2.heap.objs.size (.lst [])) fp) [] σ' H' s'→Q (.ref s2.heap.objs.size) H' →
   compPost (model X.prog X.w) X.A X.xe (some (assign (.Name y py) X.env)) (fun _ s'=>SP X pins D .next s') (.ref s2.heap.objs.size) s3.heap.objs.size (.ok .next) s':=fun {σ' H' s'} J' q=>by
  obtain ⟨m,hn,_⟩:=J'.loc
  have IX:Inv X pins σ H' s':=I3.call' J'.os J'.base J'.hok J'.bare fun b hb=>⟨(f3 b hb).2.2.2.1,(f3 b hb).2.1,(f3 b hb).2.2.2.2.1,(f3 b hb).2.2.2.2.2⟩
  have fc:=I3.fpOk (Nat.le_refl _) (I3.hok.fresh (Nat.le_refl _))
  have hfree:H' s3.heap.objs.size=none:=J'.free
  obtain ⟨oC,es,ep,hoC,hdC,rC⟩:=id hn
  have hnc:∀ v,oC.data≠.cell v:=fun v z=>by rw [hdC] at z; cases z
  have IXp:=IX.pinned (fp:=[s3.heap.objs.size]) (fun b hb=>by rw [List.mem_singleton.mp hb]; exact ⟨hfree,fc.2⟩) (fun b hb=>by rw [List.mem_singleton.mp hb]; exact ⟨oC,hoC,hnc⟩)
  subst hQ
  have pg:=pg_name (X:=X) (i:=i₀) (x:=y) (pos:=py) hN hi₀ hy hfn
  refine wpAny_mono (pg _ s' σ H' (.ref s2.heap.objs.size) (.ref s2.heap.objs.size) D.nx IXp rfl q) (fun _ s8 ⟨σ8,H8,I8,q8⟩=>?_) fun _ _ f=>f
  have pC:=I8.pin (s3.heap.objs.size,oC) (List.mem_append_right _ (List.mem_append_right _ (mem_pinsAt (List.mem_singleton.mpr rfl) hoC)))
  refine ⟨m,⟨oC,es,ep,pC.1,hdC,rC⟩,fun h' sb=>?_⟩
  exact ⟨σ8,H8,I8.unpinned.turned (t':=s8.toks) (fun b o hb e=>sb.extBut b o hb e) pC.2.1 fc.2.1 fc.2.2.2.1 fc.2.2.2.2.1 fc.2.2.2.2.2,q8⟩
 have loop:codeAny (model X.prog X.w) X.A (.compLoop (.ListComp elt [⟨.Name x px,iter,ifs,0⟩] scope pos) 0 (.ref it) (.ref s2.heap.objs.size) (compEnvC scope cl s3.heap.objs.size X.env))
   (compPost (model X.prog X.w) X.A X.xe (some (assign (.Name y py) X.env)) (fun _ s'=>SP X pins D .next s') (.ref s2.heap.objs.size) s3.heap.objs.size) { s3 with heap:=h4,toks:=s2.toks+([]:List (Str×Value)).length }:=by
  refine codeAny_compLoop_tests (fun n s'=>∃ i o H',Inv (X.comp scope cl (x::caps) s3 (upd H2 s2.heap.objs.size (.lst [])) fp) [] (o::capV σ cap) H' s'∧tn i s'.heap∧(∀ b∈fp,H' b=none)∧W i n H') ?_ m0
   ⟨0,none,_,I4,st4,fun b hb=>(f3 b hb).1,w0⟩
  rintro n s5 ⟨i,o,H5,I5,st5,fr5,w5⟩
  rcases turn i n H5 w5 with ⟨stop,qn⟩ | ⟨go,step⟩
  ·refine thn (T.done (X.comp scope cl (x::caps) s3 (upd H2 s2.heap.objs.size (.lst [])) fp) rfl rfl rfl hc i [] s5 _ H5 _ I5 (stat fr5) st5 stop) fun r s6 ⟨hr,I6⟩=>?_
   subst hr
   exact fin I6 qn
  ·refine thn (T.item (X.comp scope cl (x::caps) s3 (upd H2 s2.heap.objs.size (.lst [])) fp) rfl rfl rfl hc i [] s5 _ H5 _ I5 (stat fr5) st5 go) fun r s6 ⟨u,hr,h6⟩=>?_
   subst hr
   dsimp only
   show wpAny (model X.prog X.w) X.A ((pure ():Sem Unit) >>= fun _=>assign (.Name x px) (compEnvC scope cl s3.heap.objs.size X.env) u) _ _ s6
   refine wpAny_bind (thn h6 fun _ s7 ⟨y,H7,I7,r7,y7,st7,fr7⟩=>?_)
   have I7':=I7.pinned (stat fr7) (T.obj _ _ st7)
   have pg:=pg_name (X:=X.comp scope cl (x::caps) s3 (upd H2 s2.heap.objs.size (.lst [])) fp) (i:=0) (x:=x) (pos:=px) nd rfl (.inl (lookup_relabel_local hx)) (.inr (lookup_relabel_local hx))
   refine wpAny_mono (pg _ s7 _ H7 y u (fun σ' H'=>σ'=some y::capV σ cap∧H'=H7) I7' r7 ⟨rfl,rfl⟩) (fun _ s8 ⟨σ8,H8,I8,e8,e8'⟩=>?_) fun _ _ f=>f.elim
   subst e8 e8'
   have again:∀ {H9:Hp} {s9:Shared} {m':Nat},Inv (X.comp scope cl (x::caps) s3 (upd H2 s2.heap.objs.size (.lst [])) fp) ([]++pinsAt fp s7.heap) (some y::capV σ cap) H9 s9→m'<n→W (i+1) m' H9 →
     ∃ m,m<n∧∃ i o H',Inv (X.comp scope cl (x::caps) s3 (upd H2 s2.heap.objs.size (.lst [])) fp) [] (o::capV σ cap) H' s9∧tn i s9.heap∧(∀ b∈fp,H' b=none)∧W i m H':=fun {H9 s9 m'} I9 hm w9=>by
    have pin9:=fun b hb o e=>I9.pin (b,o) (List.mem_append_right _ (List.mem_append_right _ (mem_pinsAt hb e)))
    refine ⟨m',hm,i+1,some y,H9,I9.unpinned,T.keep _ _ _ st7 fun b hb o e=>(pin9 b hb o e).1,fun b hb=>?_,w9⟩
    obtain ⟨o,e,d⟩:=T.obj _ _ st7 b hb
    exact (pin9 b hb o e).2.1
   refine wpAny_mono (bI _ s8 _ H8 _ I8 (step y H8 y7)) (fun ok s9 ⟨H9,I9,q9⟩=>?_) fun _ _ f=>f.elim
   cases ok with
   | false =>
    rw [if_neg Bool.false_ne_true] at q9 ⊢
    obtain ⟨m',hm,w9⟩:=q9
    exact again I9 hm w9
   | true =>
    rw [if_pos rfl] at q9 ⊢
    refine wpAny_mono (bE _ s9 _ H9 _ I9 q9) (fun z s10 ⟨v10,H10,I10,r10,ys,m',hl,hsz,hm,w10⟩=>?_) fun _ _ f=>f.elim
    refine wpAny_mono (mt_append (X:=X.comp scope cl (x::caps) s3 (upd H2 s2.heap.objs.size (.lst [])) fp) _ s10 _ H10 (.ref s2.heap.objs.size) [v10] (.ref s2.heap.objs.size) [z] (fun _ H'=>H'=upd H10 s2.heap.objs.size (.lst (ys++[v10]))) I10 rfl (.cons r10 .nil) ⟨_,ys,v10,rfl,rfl,hl,hsz,rfl⟩) (fun _ s11 ⟨_,H11,I11,_,e11⟩=>?_) fun _ _ f=>f.elim
    subst e11
    exact again I11 hm w10
 refine codeAny_compStart_list loop (T.self _ 0 _ _ _ st4 loop)
end
end L2
namespace L2
open PySem PySem.Spec PyProof.Rows
section
variable {κ:Type} [DecidableEq κ]
def valV (kvs:List (κ×V)) (k:κ):Option V:=(kvs.find? fun kv=>decide (kv.1=k)).map (·.2)
def putK (kvs:List (κ×V)) (k:κ) (v:V):List (κ×V) :=
 if (kvs.any fun kv=>decide (kv.1=k))=true then kvs.map (fun kv=>if kv.1=k then (kv.1,v) else kv) else kvs++[(k,v)]
def dropK (kvs:List (κ×V)) (k:κ):List (κ×V):=kvs.filter fun kv=>decide (kv.1≠k)
theorem valV_pos {p:κ×V} {r:List (κ×V)} {k:κ} (e:p.1=k):valV (p::r) k=some p.2:=by simp [valV,List.find?_cons,e]
theorem valV_neg {p:κ×V} {r:List (κ×V)} {k:κ} (e:¬ p.1=k):valV (p::r) k=valV r k:=by simp [valV,List.find?_cons,e]
theorem RelO.getD {o:Option V} {u:Option Value} {d:V} {d':Value} (r:RelO o u) (rd:RelV d d'):RelV (o.getD d) (u.getD d'):=by
 cases o with
 | none=>cases u with
  | none=>exact rd
  | some _=>exact (show False from r).elim
 | some _=>cases u with
  | none=>exact (show False from r).elim
  | some _=>exact r
theorem KV.val {kvs:List (κ×V)} {vs:List (κ×Value)} (r:KV kvs vs) (k:κ):RelO (valV kvs k) (valueAt vs k):=by
 unfold KV at r
 induction r with
 | nil=>exact True.intro
 | @cons p q ps qs h t ih =>
  obtain ⟨h1,h2⟩:=h
  by_cases e:p.1=k
  ·have e':q.1=k:=h1.symm.trans e
   have b:valueAt (q::qs) k=some q.2:=by simp [valueAt,List.find?_cons,e']
   rw [valV_pos e,b]; exact h2
  ·have e':¬ q.1=k:=fun z=>e (h1.trans z)
   have b:valueAt (q::qs) k=valueAt qs k:=by simp [valueAt,List.find?_cons,e']
   rw [valV_neg e,b]; exact ih
theorem KV.any {kvs:List (κ×V)} {vs:List (κ×Value)} (r:KV kvs vs) (k:κ):(kvs.any fun kv=>decide (kv.1=k))=vs.any fun kv=>decide (kv.1=k):=by
 unfold KV at r
 induction r with
 | nil=>rfl
 | cons h t ih=>rw [List.any_cons,List.any_cons,ih,h.1]
theorem KV.drop {kvs:List (κ×V)} {vs:List (κ×Value)} (r:KV kvs vs) (k:κ):KV (dropK kvs k) (without vs k):=by
 unfold KV at r ⊢
 unfold dropK without
 induction r with
 | nil=>exact .nil
 | @cons p q ps qs h t ih =>
  obtain ⟨h1,h2⟩:=h
  rw [List.filter_cons,List.filter_cons]
  by_cases e:p.1=k
  ·have a:¬ decide (p.1≠k)=true:=by simp [e]
   have b:¬ decide (q.1≠k)=true:=by simp [h1.symm.trans e]
   rw [if_neg a,if_neg b]; exact ih
  ·have e':¬ q.1=k:=fun z=>e (h1.trans z)
   have a:decide (p.1≠k)=true:=by simp [e]
   have b:decide (q.1≠k)=true:=by simp [e']
   rw [if_pos a,if_pos b]; exact .cons ⟨h1,h2⟩ ih
theorem KV.keys {kvs:List (κ×V)} {vs:List (κ×Value)} (r:KV kvs vs):kvs.map (·.1)=vs.map (·.1):=by
 unfold KV at r
 induction r with
 | nil=>rfl
 | cons h t ih=>rw [List.map_cons,List.map_cons,ih,h.1]
theorem KV.length {kvs:List (κ×V)} {vs:List (κ×Value)} (r:KV kvs vs):kvs.length=vs.length:=Paired.length r
end
abbrev KT (H:Hp):List (List Key×V)→List (List Key×Addr×Value)→Prop:=Paired fun p q=>p.1=q.1∧H q.2.1=some (.tup (p.1.map kV))∧RelV p.2 q.2.2
theorem KT.val {H:Hp} {kvs:List (List Key×V)} {xs:List (List Key×Addr×Value)} (r:KT H kvs xs) (k:List Key):RelO (valV kvs k) ((atKey xs k).map (·.2)):=by
 induction r with
 | nil=>exact True.intro
 | @cons p q ps qs h t ih =>
  obtain ⟨h1,_,h2⟩:=h
  by_cases e:p.1=k
  ·have e':q.1=k:=h1.symm.trans e
   have b:atKey (q::qs) k=some q.2:=by simp [atKey,List.find?_cons,e']
   rw [valV_pos e,b]; exact h2
  ·have e':¬ q.1=k:=fun z=>e (h1.trans z)
   have b:atKey (q::qs) k=atKey qs k:=by simp [atKey,List.find?_cons,e']
   rw [valV_neg e,b]; exact ih
theorem KT.keeps {H H':Hp} {kvs:List (List Key×V)} {xs:List (List Key×Addr×Value)} (r:KT H kvs xs) (ht:∀ b ys,H b=some (.tup ys)→H' b=some (.tup ys)):KT H' kvs xs :=
 Paired.mapP r fun _ _ z=>⟨z.1,ht _ _ z.2.1,z.2.2⟩
section
variable {P:Program} {w:World} {H:Hp} {h:Heap} {a:Addr}
end
def DGet (H:Hp) (a:Addr) (y:V) (r:Option V):Prop :=
 (∃ kvs k,Rd H a (.dK kvs)∧y=kV k∧r=valV kvs k)∨∃ kvs k b,Rd H a (.dT kvs)∧y=.ref b∧H b=some (.tup (k.map kV))∧r=valV kvs k
def DPut (H:Hp) (a:Addr) (y v:V) (H':Hp):Prop :=
 (∃ kvs k,H a=some (.dK kvs)∧y=kV k∧kvs.length<sizeLine∧H'=upd H a (.dK (putK kvs k v))) ∨
 ∃ kvs k b,H a=some (.dT kvs)∧y=.ref b∧H b=some (.tup (k.map kV))∧kvs.length<sizeLine∧H'=upd H a (.dT (putK kvs k v))
theorem DGet.k {H:Hp} {a:Addr} {kvs:List (Key×V)} {k:Key} (e:H a=some (.dK kvs)):DGet H a (kV k) (valV kvs k):=.inl ⟨kvs,k,.inl e,rfl,rfl⟩
theorem DGet.t {H:Hp} {a b:Addr} {kvs:List (List Key×V)} {k:List Key} (e:H a=some (.dT kvs)) (eb:H b=some (.tup (k.map kV))):DGet H a (.ref b) (valV kvs k):=.inr ⟨kvs,k,b,.inl e,rfl,eb,rfl⟩
theorem DPut.k {H:Hp} {a:Addr} {kvs:List (Key×V)} {k:Key} {v:V} (e:H a=some (.dK kvs)) (hl:kvs.length<sizeLine):DPut H a (kV k) v (upd H a (.dK (putK kvs k v))):=.inl ⟨kvs,k,e,rfl,hl,rfl⟩
theorem DPut.t {H:Hp} {a b:Addr} {kvs:List (List Key×V)} {k:List Key} {v:V} (e:H a=some (.dT kvs)) (eb:H b=some (.tup (k.map kV))) (hl:kvs.length<sizeLine) :
  DPut H a (.ref b) v (upd H a (.dT (putK kvs k v))):=.inr ⟨kvs,k,b,e,rfl,eb,hl,rfl⟩
section
variable {X:Cx} {pins:List (Addr×Obj)} {σ:St} {H:Hp} {s:Shared} {a:Addr} {y v:V} {u r:Value} {o:Option V} {A:Around} {E:Value→Shared→Prop}
end
section
variable {X:Cx} {pins:List (Addr×Obj)} {σ:St} {H:Hp} {s:Shared} {a:Addr} {kvs:List (Key×V)} {k:Key} {u:Value} {A:Around} {E:Value→Shared→Prop}
end
section
variable {X:Cx} {o i e value:Expr} {pos pos' tpos:Pos} {td ty tv:TE}
end
section
variable {X:Cx} {pos:Pos}
end
structure M1 (X:Cx) (o:Expr) (m:Str) (apos:Pos) (e:Expr) (cpos:Pos):Prop where
 base:attributeBase o m X.env (eval o X.env)=eval o X.env
 few:((backTo cpos (starEach [e] X.env)).all (fun x=>!x.1) && (backToKw cpos (keywordEach [] X.env)).all (fun x=>x.1.isSome)
  && decide (([e]:List Expr).length+([]:List Keyword).length+(if ([]:List Keyword).isEmpty then 0 else 1)<30))=true
 line:(apos.endLine == cpos.line)=true
 trees:backTo cpos (starEach [e] X.env)=[(false,eval e X.env)]
structure M2 (X:Cx) (o:Expr) (m:Str) (apos:Pos) (e f:Expr) (cpos:Pos):Prop where
 base:attributeBase o m X.env (eval o X.env)=eval o X.env
 few:((backTo cpos (starEach [e,f] X.env)).all (fun x=>!x.1) && (backToKw cpos (keywordEach [] X.env)).all (fun x=>x.1.isSome)
  && decide (([e,f]:List Expr).length+([]:List Keyword).length+(if ([]:List Keyword).isEmpty then 0 else 1)<30))=true
 line:(apos.endLine == cpos.line)=true
 trees:backTo cpos (starEach [e,f] X.env)=[(false,eval e X.env),(false,eval f X.env)]
section
variable {X:Cx} {pins:List (Addr×Obj)} {σ:St} {H:Hp} {s:Shared} {a:Addr} {y d:V} {u r:Value} {o:Option V} {A:Around} {E:Value→Shared→Prop}
end
section
variable {X:Cx} {o e f:Expr} {apos cpos:Pos} {td ty tx:TE}
end
section
variable {X:Cx} {pins:List (Addr×Obj)} {σ:St} {H:Hp} {s:Shared} {a:Addr} {kvs:List (Key×V)} {A:Around} {E:Value→Shared→Prop}
end
section
variable {X:Cx} {pins:List (Addr×Obj)} {σ:St} {H:Hp} {s:Shared} {a:Addr} {y:V} {u:Value} {A:Around} {E:Value→Shared→Prop}
end
end L2
set_option maxHeartbeats 4000000
namespace L2
open PySem PySem.Spec PyProof.Rows
structure LL (H:Hp) (l:Addr) (as:List Addr) (pss:List (List Int)):Prop where
 lst:H l=some (.lst (as.map V.ref))
 len:as.length=pss.length
 at_:∀ (i:Nat) (a:Addr) (p:List Int),as[i]?=some a→pss[i]?=some p→H a=some (.lst (p.map V.int))
theorem LL.same {H H':Hp} {l:Addr} {as:List Addr} {pss:List (List Int)} (x:LL H l as pss) (s:Same H H'):LL H' l as pss:=⟨s _ _ x.lst,x.len,fun i a p h1 h2=>s _ _ (x.at_ i a p h1 h2)⟩
section
variable {X:Cx}
end
end L2
set_option maxHeartbeats 4000000
namespace L2
open PySem PySem.Spec PyProof.Rows
section
variable {X:Cx}
end
end L2
set_option maxHeartbeats 4000000
namespace Ts
open PySem PyProof.Rows
section
variable {P:Program} {w:World} {A:Around} {E:Value→Shared→Prop} {s:Shared}
theorem gather_tup {t:Addr} {vs:List Value} {Q:List Value→Shared→Prop} (ht:s.heap.IsTuple t vs.toArray) (hz:vs.length≤sizeLine)
  (k:Q vs { s with heap:=(s.heap.push (seqObj "list" #[] 0)).update s.heap.objs.size (Obj.mapSeq (·++vs.toArray)) }):wpAny (model P w) A (collect (.ref t)) Q E s:=by
 obtain ⟨ob,hob,hcl,m,hdt⟩:=id ht
 unfold collect
 refine wpAny_bind (wpAny_runValue (codeAny_builtin entry_proto_collect' ?_))
 show wpAny _ _ (do again (.builtin "list.__iadd__" ⟨[← newList [],.ref t],[]⟩)) _ _ s
 refine wpAny_bind (wpAny_newList (wpAny_pure ⟨Code.quiet_builtin _ (by decide +kernel),codeAny_builtin entry_list_iadd' ?_⟩))
 show wpAny _ _ (Builtin.List.listExtendWith (.ref s.heap.objs.size) (.ref t) (.ref s.heap.objs.size)) _ _ { s with heap:=s.heap.push (seqObj "list" #[] 0) }
 unfold Builtin.List.listExtendWith
 have hob':(s.heap.push (seqObj "list" #[] 0)).get? t=some ob:=Heap.get?_push_of_some _ hob
 refine wpAny_bind (wpAny_typeOf (T:="tuple") ⟨ob,hob',hcl⟩ ?_)
 have et:(Value.type "tuple" == Value.type "tuple")=true:=by rfl
 rw [if_pos (by rw [et]; simp)]
 refine wpAny_bind (listItems_at hob' hdt (wpAny_bind (listItems_at (xs:=#[]) (n:=0) (Heap.get?_push_size _ rfl) rfl ?_)))
 rw [if_neg (by simp)]
 refine wpAny_bind (listUpdate_at (xs:=#[]) (n:=0) (Heap.get?_push_size _ rfl) rfl (wpAny_pure ?_) (Nat.zero_le _) (by show (#[]++vs.toArray).size≤sizeLine+1; rw [Array.size_append,List.size_toArray]; simp; omega))
 show wpAny (model P w) A (do { let o ← load s.heap.objs.size; match o.data with | .seq xs _=>pure xs.toList | _=>unsupported "internal:collect" }) Q E { s with heap:=(s.heap.push (seqObj "list" #[] 0)).update s.heap.objs.size (Obj.mapSeq (·++vs.toArray)) }
 refine wpAny_bind (wpAny_load (get?_update_seq (Heap.get?_push_size _ rfl) _) ?_)
 have ev:((#[]:Array Value)++vs.toArray).toList=vs:=by simp
 show wpAny _ _ (pure ((#[]:Array Value)++vs.toArray).toList) Q E _
 rw [ev]
 exact wpAny_pure k
theorem sorted_tup {t:Addr} {vs:List Value} {ns:List Int} {Q:Value→Shared→Prop} (ht:s.heap.IsTuple t vs.toArray) (hI:IntsAre vs ns) (h2:vs.length<64)
  (h:∀ (out:Array Value) (ms:List Int),IntsAre out.toList ms→ms.Perm ns→ms.Pairwise (·≤·)→Q (.ref (s.heap.objs.size+1)) { s with heap:=sortedAll s.heap vs out }) :
  wpAny (model P w) A (call (.builtin "sorted") [.ref t]) Q E s:=by
 refine Calls.call_function_entry kind_sorted plain_sorted entry_sorted (args_sorted1 _) ?_
 unfold Builtin.«sorted»
 have hsz:((s.heap.push (seqObj "list" #[] 0)).update s.heap.objs.size (Obj.mapSeq (·++vs.toArray))).objs.size=s.heap.objs.size+1:=by rw [Heap.size_update,size_push']
 have hL:(((s.heap.push (seqObj "list" #[] 0)).update s.heap.objs.size (Obj.mapSeq (·++vs.toArray))).push (seqObj "list" vs.toArray 0)).get? (s.heap.objs.size+1)=some (seqObj "list" vs.toArray 0):=by
  rw [← hsz]; exact Heap.get?_push_size _ rfl
 refine wpAny_bind (m:=checkCount "sorted" 1 1 _) (wpAny_pure (wpAny_bind (gather_tup ht (by rw [sizeLine_eq]; omega) (wpAny_bind (wpAny_newList ?_)))))
 show wpAny _ _ _ _ _ { s with heap:=((s.heap.push (seqObj "list" #[] 0)).update s.heap.objs.size (Obj.mapSeq (·++vs.toArray))).push (seqObj "list" vs.toArray 0) }
 rw [hsz]
 exact wpAny_bind (wpAny_holding (wpAny_call_entry slot_list_sort ⟨_,hL,rfl⟩ entry_list_sort (list_sort_tree hL hI h2 fun out ms q1 q2 q3=>⟨_,rfl,wpAny_pure ⟨_,rfl,h out ms q1 q2 q3⟩⟩) (args_list_sort _)))
end
end Ts
namespace L2
open PySem PySem.Spec PyProof.Rows
theorem any_range (bs:List Bool):((List.range bs.length).any fun i=>(bs[i]?).getD false)=bs.any id:=by
 refine Bool.eq_iff_iff.mpr ?_
 rw [List.any_eq_true,List.any_eq_true]
 constructor
 ·rintro ⟨i,hi,e⟩
  have hl:=List.mem_range.mp hi
  rw [List.getElem?_eq_getElem hl,Option.getD_some] at e
  exact ⟨bs[i],List.getElem_mem hl,e⟩
 ·rintro ⟨b,hb,e⟩
  obtain ⟨i,hi⟩:=List.getElem?_of_mem hb
  refine ⟨i,List.mem_range.mpr (List.getElem?_eq_some_iff.mp hi).1,?_⟩
  rw [hi,Option.getD_some]
  exact e
theorem all_range (bs:List Bool):((List.range bs.length).all fun i=>(bs[i]?).getD true)=bs.all id:=by
 refine Bool.eq_iff_iff.mpr ?_
 rw [List.all_eq_true,List.all_eq_true]
 constructor
 ·intro h b hb
  obtain ⟨i,hi⟩:=List.getElem?_of_mem hb
  have:=h i (List.mem_range.mpr (List.getElem?_eq_some_iff.mp hi).1)
  rw [hi,Option.getD_some] at this
  exact this
 ·intro h i hi
  have hl:=List.mem_range.mp hi
  rw [List.getElem?_eq_getElem hl,Option.getD_some]
  exact h _ (List.getElem_mem hl)
theorem bools_of:∀ {bs:List Bool} {us:List Value},Vals (bs.map V.bl) us→us=bs.map Value.bool
 | [],_,r=>by cases r; rfl
 | b::bs,_,r=>by
  cases r with
  | cons r t =>
   cases (show _=Value.bool b from r)
   rw [bools_of t]
   rfl
section
variable {X:Cx}
def rAny (K:PySem.W.Frag):List V→Hp→VK→Prop:=fun xs H Q=>∃ (p:Addr) (bs:List Bool),xs=[.ref p]∧SqL K H p (bs.map V.bl)∧Q (.bl (bs.any id)) H
def rAll (K:PySem.W.Frag):List V→Hp→VK→Prop:=fun xs H Q=>∃ (p:Addr) (bs:List Bool),xs=[.ref p]∧SqL K H p (bs.map V.bl)∧Q (.bl (bs.all id)) H
theorem walked {h h':Heap} {o:Obj} (hk:∀ b x,b∉[h.objs.size]→(h.push o).get? b=some x→h'.get? b=some x):∀ b x,h.get? b=some x→h'.get? b=some x:=fun b x e=>by
 refine hk b x (fun z=>?_) (Heap.get?_push_of_some _ e)
 have lt:=Heap.lt_size e
 rw [List.mem_singleton.mp z] at lt
 exact Nat.lt_irrefl _ lt
theorem call_anyL (hc:X.calm=true):CallR X (.builtin "any") (rAny X.K):=by
 intro pins s σ H xs us Q I r h
 obtain ⟨p,bs,rfl,hq,q⟩:=h
 obtain ⟨u,rfl,rx⟩:=vals1 r
 cases rx
 obtain ⟨its,rv,pl,hz⟩:=I.list hq
 obtain rfl:=bools_of rv
 have lp:p<s.heap.objs.size:=by obtain ⟨_,e,_⟩:=pl.isList; exact Heap.lt_size e
 refine call_any_walk (wpAny_pyIter_list pl.isList ?_)
 refine ⟨s.heap.objs.size,[s.heap.objs.size,p],[s.heap.objs.size],(bs.map Value.bool).toArray.size,_,_,fun i=>(bs[i]?).getD false,rfl,Walks.list (A:=X.A.in1) (I.ok.hd hc) _ p (Nat.ne_of_lt lp) _,
  ⟨⟨_,Heap.get?_push_size _ rfl,rfl,rfl⟩,pl.isList.push _⟩,fun i v s' Q' E' hP hQ=>?_,fun h' tk hk=>?_⟩
 ·have hP2:(bs.map Value.bool)[i]?=some v:=by simpa using hP
  rw [List.getElem?_map] at hP2
  cases e:bs[i]? with
  | none=>rw [e] at hP2; cases hP2
  | some b =>
   dsimp only at hQ
   rw [e] at hP2 hQ
   have:Value.bool b=v:=by simpa using hP2
   rw [← this]
   exact wpAny_truthy_bool hQ
 ·rw [List.size_toArray,List.length_map,any_range]
  exact ⟨.bl (bs.any id),H,I.kept (t':=tk) (walked hk),rfl,q⟩
theorem call_allL (hc:X.calm=true):CallR X (.builtin "all") (rAll X.K):=by
 intro pins s σ H xs us Q I r h
 obtain ⟨p,bs,rfl,hq,q⟩:=h
 obtain ⟨u,rfl,rx⟩:=vals1 r
 cases rx
 obtain ⟨its,rv,pl,hz⟩:=I.list hq
 obtain rfl:=bools_of rv
 have lp:p<s.heap.objs.size:=by obtain ⟨_,e,_⟩:=pl.isList; exact Heap.lt_size e
 refine call_all_walk (wpAny_pyIter_list pl.isList ?_)
 refine ⟨s.heap.objs.size,[s.heap.objs.size,p],[s.heap.objs.size],(bs.map Value.bool).toArray.size,_,_,fun i=>(bs[i]?).getD true,rfl,Walks.list (A:=X.A.in1) (I.ok.hd hc) _ p (Nat.ne_of_lt lp) _,
  ⟨⟨_,Heap.get?_push_size _ rfl,rfl,rfl⟩,pl.isList.push _⟩,fun i v s' Q' E' hP hQ=>?_,fun h' tk hk=>?_⟩
 ·have hP2:(bs.map Value.bool)[i]?=some v:=by simpa using hP
  rw [List.getElem?_map] at hP2
  cases e:bs[i]? with
  | none=>rw [e] at hP2; cases hP2
  | some b =>
   dsimp only at hQ
   rw [e] at hP2 hQ
   have:Value.bool b=v:=by simpa using hP2
   rw [← this]
   exact wpAny_truthy_bool hQ
 ·rw [List.size_toArray,List.length_map,all_range]
  exact ⟨.bl (bs.all id),H,I.kept (t':=tk) (walked hk),rfl,q⟩
theorem Same.tup {K:PySem.W.Frag} {H H':Hp} {a:Addr} {xs:List V} (e:Same H H') (h:SqT K H a xs):SqT K H' a xs:=by
 rcases h with (h | ⟨o,h⟩) | h
 ·exact .inl (.inl (e _ _ h))
 ·exact .inl (.inr ⟨o,e _ _ h⟩)
 ·exact .inr h
def SqS (K:PySem.W.Frag) (H:Hp) (a:Addr) (xs:List V):Prop:=SqL K H a xs∨SqT K H a xs
theorem Same.sqs {K:PySem.W.Frag} {H H':Hp} {a:Addr} {xs:List V} (e:Same H H') (h:SqS K H a xs):SqS K H' a xs:=h.imp e.seq e.tup
def rSortS (K:PySem.W.Frag):List V→Hp→VK→Prop:=fun xs H Q=>∃ (p:Addr) (ns:List Int),xs=[.ref p]∧SqS K H p (ns.map V.int)∧ns.length<64∧∀ (l:Addr) (ms:List Int),H l=none→ms.Perm ns→ms.Pairwise (·≤·)→Q (.ref l) (upd H l (.lst (ms.map V.int)))
theorem call_sortS:CallR X (.builtin "sorted") (rSortS X.K):=by
 intro pins s σ H xs us Q I r h
 obtain ⟨p,ns,rfl,hq,hl,q⟩:=h
 rcases hq with hq | hq
 ·exact call_sorted pins s σ H _ us Q I r ⟨p,ns,rfl,hq,hl,q⟩
 obtain ⟨u,rfl,rx⟩:=vals1 r
 cases rx
 obtain ⟨its,rv,pl,hz⟩:=I.tuple hq
 have hi:IntsAre its ns:=intsAre_of rv
 have hlen:=rv.length
 rw [List.length_map] at hlen hz
 refine Ts.sorted_tup (show s.heap.IsTuple p its.toArray from pl) hi (by omega) fun out ms a1 a2 a3=>?_
 obtain ⟨e,he⟩:=sortedAll_at s.heap its out
 have hfr:H (s.heap.objs.size+1)=none:=I.hok.fresh (Nat.le_succ _)
 refine ⟨.ref (s.heap.objs.size+1),_,I.laid (t':=s.toks) (o:=.lst (ms.map V.int)) (fun b u q=>sortedAll_old q) (Nat.le_succ _) ⟨?_,out.toList,e,vals_ints a1,?_⟩,rfl,q _ ms hfr a2 a3⟩
 ·rw [List.length_map,a2.length_eq]; exact hz
 ·simpa using he
def iSeq (K:PySem.W.Frag) (tl:TE):TI:=fun σ H R=>tl σ H fun x H1=>∃ a,x=.ref a∧(((∃ xs,SqL K H1 a xs)∧R (Itl K a) H1)∨((∃ xs,SqT K H1 a xs)∧R (Itt K a) H1))
theorem pi_seq {tg l:Expr} {tl:TE} (hl:PE X l tl):PI X tg l (iSeq X.K tl):=by
 intro pins s σ H R I h
 refine thn (hl pins s σ H _ I h) fun v s1 ⟨x,H1,I1,r1,q1⟩=>?_
 obtain ⟨a,e,q1⟩:=q1
 subst e
 cases r1
 have fp:∀ b∈[s1.heap.objs.size],FpOk X pins H1 b:=fun b hb=>by
  rw [List.mem_singleton.mp hb]
  exact I1.fpOk (Nat.le_refl _) (I1.hok.fresh (Nat.le_refl _))
 rcases q1 with ⟨⟨xs,hq⟩,q⟩ | ⟨⟨xs,hq⟩,q⟩
 ·obtain ⟨its,rv,p,hz⟩:=I1.list hq
  exact wpAny_pyIter_list p.isList ⟨s1.heap.objs.size,[s1.heap.objs.size],_,_,H1,rfl,I1.kept (t':=s1.toks) fun b o e=>Heap.get?_push_of_some _ e,turn_list a _,⟨_,Heap.get?_push_size _ rfl,rfl,rfl⟩,fp,q⟩
 ·obtain ⟨its,rv,p,hz⟩:=I1.tuple hq
  exact wpAny_pyIter_tuple (show s1.heap.IsTuple a its.toArray from p) ⟨s1.heap.objs.size,[s1.heap.objs.size],_,_,H1,rfl,I1.kept (t':=s1.toks) fun b o e=>Heap.get?_push_of_some _ e,turn_tuple a _,⟨_,Heap.get?_push_size _ rfl,rfl,rfl⟩,fp,q⟩
end
end L2
namespace Ts
open PySem PyProof.Rows
theorem tup_no_set:isSubtype (.type "tuple") (.type "set")=pure false:=by rw [isSubtype_type]; kernel_rfl
theorem tup_no_frozen:isSubtype (.type "tuple") (.type "frozenset")=pure false:=by rw [isSubtype_type]; kernel_rfl
section
variable {prog:Program} {w:World} {A:Around} {E:Value→Shared→Prop} {s:Shared}
abbrev setNew (led:Bool):Obj:={ cls:=.type "set",dict:=none,data:=.set #[] 0 (.fresh 0 0 led) }
set_option maxHeartbeats 4000000 in
theorem set_tup {t:Addr} {its:Array Value} {ns:List Int} {Q:Value→Shared→Prop} (hh:A.handled=none) (ht:s.heap.IsTuple t its) (hi:IntsAre its.toList ns) (hb:its.size+1<scanBound)
  (h:∀ (h':Heap) (tk:Nat),h'.SetOf (intKind prog w) s.heap.objs.size (fun k'=>(firstMet (fun i=>ns.getD i 0) its.size).any (· == k')) (firstMet (fun i=>ns.getD i 0) its.size).length →
   (∀ b o,b<s.heap.objs.size→s.heap.get? b=some o→h'.get? b=some o)→Q (.ref s.heap.objs.size) { s with heap:=h',toks:=tk }) :
  wpAny (model prog w) A (call (.type "set") [.ref t]) Q E s:=by
 obtain ⟨cc,tl,hmro⟩:=PySem.F.called_set.mro
 have hmade:=PySem.F.called_set.made
 have hsub:=PySem.F.called_set.sub
 refine wpAny_call (codeAny_of_tree ?_)
 show wpAny _ _ (callAny (.type "set") _) _ _ _
 refine wpAny_pure ⟨Code.quiet_builtin _ (by decide +kernel),codeAny_builtin PySem.F.entry_type_call ?_⟩
 rw [Around.under_plain (weight_type_call_type "set" [.ref t] []) rfl]
 have n1:=PySem.F.called_set.notType
 have n2:=PySem.F.called_set.canCreate
 have n3:=PySem.F.typeCall_set_1 (.ref t)
 repeat (any_goals (first | assumption | wp_step))
 refine codeAny_mono (code_set_new_1 (.ref t) (E:=E) (Q₁:=fun obj s₁=>∃ led:Bool,obj=.ref s.heap.objs.size∧s₁={ s with heap:=s.heap.push (setNew led) }) fun led=>⟨led,rfl,rfl⟩) fun r s₁ hr=>?_
 cases r with
 | error e=>exact hr
 | ok fl =>
  cases fl with
  | ret obj =>
   obtain ⟨led,rfl,rfl⟩:=hr
   have hS:(s.heap.push (setNew led)).get? s.heap.objs.size=some (setNew led):=Heap.get?_push_size _ rfl
   have hT:Shared.TypeIs { s with heap:=s.heap.push (setNew led) } (.ref s.heap.objs.size) "set":=⟨_,hS,rfl⟩
   have hli:=PySem.F.called_set.init.lookup
   have hbi:=PySem.F.called_set.init.bind (.ref s.heap.objs.size)
   repeat (any_goals (first | assumption | wp_step))
   refine codeAny_mono (codeAny_call_builtin (R:=wants (fun r s₂=>r=.none∧∃ h' tk,s₂={ s with heap:=h',toks:=tk } ∧
     h'.SetOf (intKind prog w) s.heap.objs.size (fun k'=>(firstMet (fun i=>ns.getD i 0) its.size).any (· == k')) (firstMet (fun i=>ns.getD i 0) its.size).length ∧
     (∀ b o,b<s.heap.objs.size→s.heap.get? b=some o→h'.get? b=some o)) E) PySem.F.called_set.init.plain PySem.F.entry_set_init (check_set_init_1 hT ?_)) fun r₂ s₂ hr₂=>?_
   ·obtain ⟨ot,hot,hct,nt,hdt⟩:=ht
    obtain ⟨c1,c2,c3,c4⟩:=ot
    simp only at hct hdt
    subst hct; subst hdt
    have hot':(s.heap.push (setNew led)).get? t=some { cls:=.type "tuple",dict:=c2,data:=.seq its nt,slots:=c4 }:=Heap.get?_push_of_some _ hot
    have ns1:=tup_no_set
    have ns2:=tup_no_frozen
    have ns3:(Value.type "tuple" == Value.type "dict")=false:=by decide
    have ht1:(s.heap.push (setNew led)).IsTuple t its:=⟨_,hot',rfl,nt,rfl⟩
    unfold Builtin.«set.__init__» noKeywords Builtin.Frozenset.updateFrom
    generalize hPI:pyIter=PI
    wp_walk
    subst hPI
    refine wpAny_pyIter_tuple ht1 (wpAny_bind (wpAny_runValue ?_))
    have ltS:t<s.heap.objs.size:=Heap.lt_size hot
    have hh3:A.in1.in1.in1.handled=none:=by simp [hh]
    have neI:t≠(s.heap.push (setNew led)).objs.size:=by
     rw [Heap.size_push]; exact Nat.ne_of_lt (Nat.lt_succ_of_lt ltS)
    have nSf:s.heap.objs.size∉[(s.heap.push (setNew led)).objs.size,t]:=by
     rw [Heap.size_push]
     simp only [List.mem_cons,List.not_mem_nil,or_false,not_or]
     exact ⟨Nat.ne_of_lt (Nat.lt_succ_self _),Nat.ne_of_gt ltS⟩
    have hval:∀ (i:Nat) (v:Value),its[i]?=some v→∃ t,v=.int ((fun i=>ns.getD i 0) i) t:=fun i v hv=>IntsAre.int_at hi i v (by rw [Array.getElem?_toList]; exact hv)
    refine codeAny_set_update_loopS ((Walks.tuple hh3 _ t neI its).toS) s.heap.objs.size nSf (fun i=>ns.getD i 0) hval hb (its.size - 0) 0 _ (by omega) (Nat.zero_le _) ⟨⟨_,Heap.get?_push_size _ rfl,rfl,rfl⟩,?ht2⟩ ?hS0 ?hR
    case ht2 =>
     exact ⟨_,Heap.get?_push_of_some _ hot',rfl,nt,rfl⟩
    case hS0 =>
     have hg:((s.heap.push (setNew led)).push { cls:=.type "tuple_iterator",data:=.fields #[.ref t,.int 0 0] }).get? s.heap.objs.size=some (setNew led):=Heap.get?_push_of_some _ hS
     exact SetOf_congr ((setObjOf_fresh (knd:=intKind prog w) led).setOf hg (by unfold scanBound; omega)) (fun _=>rfl) rfl
    case hR =>
     intro s' hm hS'
     obtain ⟨h',g',d',tk',os'⟩:=s'
     obtain rfl:g'=s.gens:=hm.gens
     obtain rfl:d'=s.drawn:=hm.drawn
     obtain rfl:os'=s.os:=hm.os
     show wpAny _ _ _ _ _ _
     refine wpAny_pure ?_
     show wpAny _ _ (ret Value.none) _ _ _
     refine wpAny_pure ⟨rfl,h',tk',rfl,hS',fun b o hb e=>hm.heap b o ?_ (Heap.get?_push_of_some _ (Heap.get?_push_of_some _ e))⟩
     rw [Heap.size_push]
     simp only [List.mem_cons,List.not_mem_nil,or_false,not_or]
     exact ⟨Nat.ne_of_lt hb,Nat.ne_of_lt (Nat.lt_succ_of_lt hb)⟩
   ·cases r₂ with
    | error e=>exact hr₂
    | ok fl₂ =>
     cases fl₂ with
     | ret r =>
      obtain ⟨rfl,h',tk,rfl,hS',hk'⟩:=hr₂
      repeat (any_goals (first | assumption | wp_step))
      exact h _ _ hS' hk'
     | _=>exact hr₂.elim
  | _=>exact hr.elim
end
end Ts
namespace L2
open PySem PySem.Spec PyProof.Rows
section
variable {X:Cx}
def rSetS (K:PySem.W.Frag):List V→Hp→VK→Prop:=fun xs H Q=>∃ (p:Addr) (ns:List Int),xs=[.ref p]∧SqS K H p (ns.map V.int)∧ns.length<1000∧∀ (l:Addr) (S:Int→Bool) (n:Nat),H l=none→n≤ns.length→(n=ns.length↔ns.Nodup)→Q (.ref l) (upd H l (.set S n))
theorem call_setS (hc:X.calm=true):CallR X (.type "set") (rSetS X.K):=by
 intro pins s σ H xs us Q I r h
 obtain ⟨p,ns,rfl,hq,hl,q⟩:=h
 rcases hq with hq | hq
 ·exact call_set hc pins s σ H _ us Q I r ⟨p,ns,rfl,hq,hl,q⟩
 obtain ⟨u,rfl,rx⟩:=vals1 r
 cases rx
 obtain ⟨its,rv,pl,hz⟩:=I.tuple hq
 have hi:IntsAre its ns:=intsAre_of rv
 have hlen:=rv.length
 rw [List.length_map] at hlen hz
 refine Ts.set_tup (I.ok.hd hc) (show s.heap.IsTuple p its.toArray from pl) (by simpa using hi) (by rw [List.size_toArray]; unfold scanBound; omega) fun h' tk hS hk=>?_
 have hsz:its.toArray.size=ns.length:=by rw [List.size_toArray,hlen]
 rw [hsz] at hS
 have hm:=met_all (fun i=>ns.getD i 0) ns.length
 rw [getD_map] at hm
 exact ⟨.ref s.heap.objs.size,_,I.laid (t':=tk) (o:=.set _ _) (fun b u q=>hk b u (Heap.lt_size q) q) (Nat.le_refl _) hS,rfl,q _ _ _ (I.hok.fresh (Nat.le_refl _)) (firstMet_length_le _ _) hm⟩
end
end L2
set_option maxHeartbeats 4000000
namespace Zp
open PySem PyProof.Rows
theorem ap {a b:Nat} (h:a<b∨b<a):a≠b:=by omega
section
variable {prog:Program} {w:World} {A:Around} {E:Value→Shared→Prop} {s:Shared}
theorem alive {a:Addr} {o:Obj} {Q:Option Obj→Shared→Prop} (ho:s.heap.get? a=some o) (h:Q (some o) s):wpAny (model prog w) A (loadIfAlive a) Q E s:=fun Γ p hΓ=>by
 unfold loadIfAlive
 rw [Sem.wp_loadIfAlive,ho]
 simpa using h
abbrev ZipAt (h:Heap) (z TI TO:Addr) (f0:Value) (f1:Bool):Prop:=h.get? z=some { cls:=.type "zip",dict:=none,data:=.fields #[f0,.bool f1,.bool false,.ref TI,.ref TO],slots:=#[] }
theorem held_next {z TI TO i1 i2 l1 l2 T0:Addr} {f1:Bool} {k:Nat} {xs ys:Array Value} {x y:Value} {Q:Value→Shared→Prop} (D:ZipApart z TI TO i1 i2 l1 l2)
  (hz:ZipAt s.heap z TI TO (rawInt T0) f1) (hT0:∃ o,s.heap.get? T0=some o) (hTI:IsPair s.heap TI (.ref i1) (.ref i2))
  (h1:s.heap.IsListIter i1 l1 k) (h2:s.heap.IsListIter i2 l2 k) (hl1:s.heap.IsList l1 xs) (hl2:s.heap.IsList l2 ys) (hx:xs[k]?=some x) (hy:ys[k]?=some y)
  (hQ:∀ h' g1,ZipAt h' z TI TO (rawInt T0) g1→h'.IsListIter i1 l1 (k+1)→h'.IsListIter i2 l2 (k+1)→IsPair h' s.heap.objs.size x y→(∀ c o,c≠z→c≠i1→c≠i2→s.heap.get? c=some o→h'.get? c=some o)→Q (.ref s.heap.objs.size) { s with heap:=h' }) :
  wpAny (model prog w) A (Builtin.«zip.__next__» ⟨[.ref z],[]⟩) (fun fin s'=>∃ v,fin=.done (.ret v)∧Q v s') E s:=by
 obtain ⟨o0,hT0⟩:=hT0
 show wpAny _ _ (field (.ref z) 2 >>= _) _ _ _
 refine wpAny_bind (wpAny_field hz rfl (x:=.bool false) rfl ?_)
 show wpAny _ _ (field (.ref z) 3 >>= _) _ _ _
 refine wpAny_bind (wpAny_field hz rfl (x:=.ref TI) rfl (wpAny_bind (wpAny_seqItems hTI rfl ?_)))
 show wpAny _ _ (Builtin.SmallTypes.ownedTupleIsFree (.ref z) >>= _) _ _ _
 refine wpAny_bind ?_
 have key:∀ (Qf:Bool→Shared→Prop),(∀ h₁ g1,ZipAt h₁ z TI TO (rawInt T0) g1→Heap.SameBut z s.heap h₁→Qf false { s with heap:=h₁ })→wpAny (model prog w) A (Builtin.SmallTypes.ownedTupleIsFree (.ref z)) Qf E s:=fun Qf hf=>by
  unfold Builtin.SmallTypes.ownedTupleIsFree
  refine wpAny_bind (wpAny_field hz rfl (x:=rawInt T0) rfl ?_)
  show wpAny _ _ (loadIfAlive ((T0:Int).toNat) >>= _) _ _ _
  rw [Int.toNat_natCast]
  refine wpAny_bind (alive hT0 ?_)
  show wpAny _ _ (field (.ref z) 1 >>= _) _ _ _
  refine wpAny_bind (wpAny_field hz rfl (x:=.bool f1) rfl ?_)
  cases f1 with
  | true=>exact wpAny_pure (hf s.heap true hz ⟨rfl,fun _ _=>rfl⟩)
  | false =>
   show wpAny _ _ (setField (.ref z) 1 (.bool true) >>= _) _ _ _
   exact wpAny_bind (wpAny_setField_rec hz (by simp) fun h₁ hz₁ hs₁=>wpAny_pure (hf h₁ true hz₁ hs₁))
 refine key _ fun h₁ g1 hz₁ hs₁=>?_
 simp only [Bool.false_eq_true,if_false,← Array.forIn_toList,List.forIn_cons,List.forIn_nil]
 refine wpAny_bind (wpAny_bind (wpAny_bind (wpAny_holding ?_)))
 show wpAny _ _ (Builtin.SmallTypes.nextOf (.ref i1) >>= _) _ _ _
 refine wpAny_bind (wpAny_nextOf_list_item (h1.extBut hs₁.extBut D.i1z) (hl1.extBut hs₁.extBut D.l1z) hx fun h₂ h1₂ hs₂=>wpAny_pure (wpAny_pure ?_))
 refine wpAny_bind (wpAny_bind (wpAny_holding ?_))
 show wpAny _ _ (Builtin.SmallTypes.nextOf (.ref i2) >>= _) _ _ _
 refine wpAny_bind (wpAny_nextOf_list_item ((h2.extBut hs₁.extBut D.i2z).extBut hs₂.extBut D.i12.symm) ((hl2.extBut hs₁.extBut D.l2z).extBut hs₂.extBut D.l2i1) hy fun h₃ h2₃ hs₃=>wpAny_pure (wpAny_pure (wpAny_pure ?_)))
 refine wpAny_bind (wpAny_newTuple (wpAny_pure ⟨_,rfl,?_⟩) (by show 2≤sizeLine; decide))
 have hsz:h₃.objs.size=s.heap.objs.size:=by rw [hs₃.1,hs₂.1,hs₁.1]
 have hz₃:ZipAt h₃ z TI TO (rawInt T0) g1:=hs₃.extBut _ _ D.i2z.symm (hs₂.extBut _ _ D.i1z.symm hz₁)
 have kp:∀ c o,c≠z→c≠i1→c≠i2→s.heap.get? c=some o→h₃.get? c=some o:=fun c o c1 c2 c3 e=>hs₃.extBut _ _ c3 (hs₂.extBut _ _ c2 (hs₁.extBut _ _ c1 e))
 have h1₃:h₃.IsListIter i1 l1 (k+1):=h1₂.extBut hs₃.extBut D.i12
 show Q (.ref h₃.objs.size) _
 rw [hsz]
 refine hQ _ g1 (Heap.get?_push_of_some _ hz₃) (h1₃.at fun o e=>Heap.get?_push_of_some _ e) (h2₃.at fun o e=>Heap.get?_push_of_some _ e) ?_ fun c o c1 c2 c3 e=>Heap.get?_push_of_some _ (kp c o c1 c2 c3 e)
 rw [← hsz]
 exact Heap.get?_push_size _ rfl
theorem held_pyNext {z TI TO i1 i2 l1 l2 T0:Addr} {f1:Bool} {k:Nat} {xs ys:Array Value} {x y:Value} {Q:Option Value→Shared→Prop} (D:ZipApart z TI TO i1 i2 l1 l2)
  (hz:ZipAt s.heap z TI TO (rawInt T0) f1) (hT0:∃ o,s.heap.get? T0=some o) (hTI:IsPair s.heap TI (.ref i1) (.ref i2))
  (h1:s.heap.IsListIter i1 l1 k) (h2:s.heap.IsListIter i2 l2 k) (hl1:s.heap.IsList l1 xs) (hl2:s.heap.IsList l2 ys) (hx:xs[k]?=some x) (hy:ys[k]?=some y)
  (hQ:∀ h' g1,ZipAt h' z TI TO (rawInt T0) g1→h'.IsListIter i1 l1 (k+1)→h'.IsListIter i2 l2 (k+1)→IsPair h' s.heap.objs.size x y→(∀ c o,c≠z→c≠i1→c≠i2→s.heap.get? c=some o→h'.get? c=some o)→Q (some (.ref s.heap.objs.size)) { s with heap:=h' }) :
  wpAny (model prog w) A (pyNext (.ref z)) Q E s:=by
 have hT:s.TypeIs (.ref z) "zip":=⟨_,hz,rfl⟩
 unfold pyNext
 exact wpAny_bind (wpAny_attempt (wpAny_callSpecial?_slot (name:=Str.ofString "__next__") hT F.slot_zip_next (wpAny_call_entry F.slot_zip_next hT F.entry_zip_next
  (held_next D hz hT0 hTI h1 h2 hl1 hl2 hx hy fun h' g1 a1 a2 a3 a4 a5=>wpAny_pure (hQ h' g1 a1 a2 a3 a4 a5)) (F.args_zip_next_1 _))))
theorem held_end {z TI TO i1 i2 l1 l2 T0:Addr} {f1:Bool} {k:Nat} {xs:Array Value} {Q:Option Value→Shared→Prop} (hh:A.handled=none) (D:ZipApart z TI TO i1 i2 l1 l2)
  (hz:ZipAt s.heap z TI TO (rawInt T0) f1) (hT0:∃ o,s.heap.get? T0=some o) (hTI:IsPair s.heap TI (.ref i1) (.ref i2)) (h1:s.heap.IsListIter i1 l1 k) (hl1:s.heap.IsList l1 xs) (hx:xs[k]?=none)
  (hQ:∀ h',(∀ c o,c≠z→c≠i1→s.heap.get? c=some o→h'.get? c=some o)→Q none { s with heap:=h' }):wpAny (model prog w) A (pyNext (.ref z)) Q E s:=by
 obtain ⟨o0,hT0⟩:=hT0
 have hT:s.TypeIs (.ref z) "zip":=⟨_,hz,rfl⟩
 unfold pyNext
 refine wpAny_bind (wpAny_attempt (wpAny_callSpecial?_slot (name:=Str.ofString "__next__") hT F.slot_zip_next (wpAny_call_entry F.slot_zip_next hT F.entry_zip_next ?_ (F.args_zip_next_1 _))))
 show wpAny _ _ (field (.ref z) 2 >>= _) _ _ _
 refine wpAny_bind (wpAny_field hz rfl (x:=.bool false) rfl ?_)
 show wpAny _ _ (field (.ref z) 3 >>= _) _ _ _
 refine wpAny_bind (wpAny_field hz rfl (x:=.ref TI) rfl (wpAny_bind (wpAny_seqItems hTI rfl ?_)))
 show wpAny _ _ (Builtin.SmallTypes.ownedTupleIsFree (.ref z) >>= _) _ _ _
 refine wpAny_bind ?_
 have key:∀ (Qf:Bool→Shared→Prop) (E':Value→Shared→Prop),(∀ h₁ g1,ZipAt h₁ z TI TO (rawInt T0) g1→Heap.SameBut z s.heap h₁→Qf false { s with heap:=h₁ })→wpAny (model prog w) A.in1 (Builtin.SmallTypes.ownedTupleIsFree (.ref z)) Qf E' s:=fun Qf E' hf=>by
  unfold Builtin.SmallTypes.ownedTupleIsFree
  refine wpAny_bind (wpAny_field hz rfl (x:=rawInt T0) rfl ?_)
  show wpAny _ _ (loadIfAlive ((T0:Int).toNat) >>= _) _ _ _
  rw [Int.toNat_natCast]
  refine wpAny_bind (alive hT0 ?_)
  show wpAny _ _ (field (.ref z) 1 >>= _) _ _ _
  refine wpAny_bind (wpAny_field hz rfl (x:=.bool f1) rfl ?_)
  cases f1 with
  | true=>exact wpAny_pure (hf s.heap true hz ⟨rfl,fun _ _=>rfl⟩)
  | false =>
   show wpAny _ _ (setField (.ref z) 1 (.bool true) >>= _) _ _ _
   exact wpAny_bind (wpAny_setField_rec hz (by simp) fun h₁ hz₁ hs₁=>wpAny_pure (hf h₁ true hz₁ hs₁))
 refine key _ _ fun h₁ g1 hz₁ hs₁=>?_
 simp only [Bool.false_eq_true,if_false,← Array.forIn_toList,List.forIn_cons,List.forIn_nil]
 refine wpAny_bind (wpAny_bind (wpAny_bind (wpAny_holding ?_)))
 show wpAny _ _ (Builtin.SmallTypes.nextOf (.ref i1) >>= _) _ _ _
 refine wpAny_bind (wpAny_nextOf_list_end hh (h1.extBut hs₁.extBut D.i1z) (hl1.extBut hs₁.extBut D.l1z) hx fun h₂ e hs₂ he=>?_)
 obtain ⟨oe,hoe,hce⟩:=he
 refine wpAny_bind (wpAny_isInstance (T:="StopIteration") (b:=true) ⟨oe,hoe,hce⟩ isSubtype_stop ?_)
 exact wpAny_pure (hQ _ fun c o c1 c2 e=>hs₂ _ _ c2 (hs₁.extBut _ _ c1 e))
end
section
variable {prog:Program} {w:World} {A:Around} {R:Result→Shared→Prop}
theorem fill_loop {S it:Addr} {res:Value} {n:Nat} (J:Nat→Array Value→Shared→Prop) (hn:n≤sizeLine)
  (hsz:∀ i acc s,J i acc s→acc.size=i)
  (hitem:∀ i acc s (E:Value→Shared→Prop),i<n→J i acc s→wpAny (model prog w) A.in1 (pyNext (.ref it)) (fun r s'=>∃ x c,r=some x∧s'.heap.get? S=some { cls:=.type "list",dict:=none,data:=.seq acc c,slots:=#[] }∧J (i+1) (acc.push x) { s' with heap:=s'.heap.update S (Obj.mapSeq (·.push x)) }) E s)
  (hdone:∀ acc s (E:Value→Shared→Prop),J n acc s→wpAny (model prog w) A.in1 (pyNext (.ref it)) (fun r s'=>r=none∧R (.ok (.ret res)) s') E s) :
  ∀ (k i:Nat) (acc:Array Value) (s:Shared),n - i=k→i≤n→J i acc s→codeAny (model prog w) A (.builtin "list.extend.loop" ⟨[.ref S,.ref it,res],[]⟩) R s:=by
 intro k
 induction k with
 | zero =>
  intro i acc s hk hi hJ
  obtain rfl:i=n:=by omega
  refine codeAny_builtin PySem.F.entry_extend_loop ?_
  rw [Around.under_plainId PySem.F.plain_extend_loop _]
  show wpAny _ A.in1 (pyNext (.ref it) >>= _) _ _ s
  refine wpAny_bind (wpAny_mono (hdone acc s _ hJ) (fun r s' h=>?_) fun _ _ e=>e)
  obtain ⟨rfl,h⟩:=h
  exact wpAny_pure h
 | succ k ih =>
  intro i acc s hk hi hJ
  refine codeAny_builtin PySem.F.entry_extend_loop ?_
  rw [Around.under_plainId PySem.F.plain_extend_loop _]
  show wpAny _ A.in1 (pyNext (.ref it) >>= _) _ _ s
  refine wpAny_bind (wpAny_mono (hitem i acc s _ (by omega) hJ) (fun r s' h=>?_) fun _ _ e=>e)
  obtain ⟨x,c,rfl,hS,hJ'⟩:=h
  have za:=hsz i acc s hJ
  show wpAny _ A.in1 (updateSeq S (·.push x) >>= _) _ _ _
  exact wpAny_bind (wpAny_updateSeq hS rfl (wpAny_pure ⟨plainId_quiet PySem.F.plain_extend_loop _,ih (i+1) _ _ (by omega) (by omega) hJ'⟩) (by rw [za]; omega) (by show (acc.push x).size≤sizeLine+1; rw [Array.size_push,za]; omega))
end
theorem nolen_zip:typeLookup (.type "zip") "__len__"=pure none:=by rw [typeLookup_type,builtinLookup_eq_fast]; kernel_rfl
theorem nohint_zip:typeLookup (.type "zip") "__length_hint__"=pure none:=by rw [typeLookup_type,builtinLookup_eq_fast]; kernel_rfl
section
variable {prog:Program} {w:World} {A:Around} {E:Value→Shared→Prop} {s:Shared}
theorem zip_hint {z:Addr} {Q:Bool→Shared→Prop} (hT:s.TypeIs (.ref z) "zip") (h:Q true s):wpAny (model prog w) A (Builtin.List.listLengthHint (.ref z)) Q E s:=by
 unfold Builtin.List.listLengthHint
 refine wpAny_bind (wpAny_specialOf hT nolen_zip ?_)
 show wpAny _ A (specialOf (Value.ref z) (Str.ofString "__length_hint__") >>= _) _ _ _
 exact wpAny_bind (wpAny_specialOf hT nohint_zip (wpAny_pure h))
end
end Zp
set_option maxHeartbeats 4000000
namespace Zp
open PySem PyProof.Rows
section
variable {prog:Program} {w:World} {A:Around} {E:Value→Shared→Prop} {s:Shared}
abbrev ListAt (h:Heap) (S:Nat) (acc:Array Value) (c:Nat):Prop:=h.get? S=some { cls:=.type "list",dict:=none,data:=.seq acc c,slots:=#[] }
structure Filling (s:Shared) (z TI TO i1 i2 l1 l2 S:Nat) (xs ys:Array Value) (i:Nat) (acc:Array Value) (h:Heap) (Ts:List Nat):Prop where
 kept:∀ (b:Nat) o,s.heap.get? b=some o→h.get? b=some o
 zip:(i=0∧ZipAt h z TI TO .none false)∨∃ (T0:Nat) (f1:Bool),ZipAt h z TI TO (rawInt T0) f1∧Ts[0]?=some T0
 ti:IsPair h TI (.ref i1) (.ref i2)
 to_:∃ a b,IsPair h TO a b
 it1:h.IsListIter i1 l1 i
 it2:h.IsListIter i2 l2 i
 lst:∃ c,ListAt h S acc c
 acc:acc.toList=Ts.map Value.ref
 len:Ts.length=i
 tup:∀ (j:Nat) (T:Nat),Ts[j]?=some T→s.heap.objs.size≤T∧T≠S∧T≠z∧T≠TO∧T≠i1∧T≠i2∧∃ x y,xs[j]?=some x∧ys[j]?=some y∧IsPair h T x y
 inc:Ts.Pairwise (·<·)
theorem Filling.grow {z TI TO i1 i2 l1 l2 S:Nat} {xs ys acc:Array Value} {i:Nat} {h h':Heap} {Ts:List Nat} {x y:Value} (F:Filling s z TI TO i1 i2 l1 l2 S xs ys i acc h Ts)
  (hs:s.heap.objs.size≤z∧s.heap.objs.size≤TI∧s.heap.objs.size≤TO∧s.heap.objs.size≤i1∧s.heap.objs.size≤i2∧s.heap.objs.size≤S) (dS:S≠z∧S≠TI∧S≠TO∧S≠i1∧S≠i2) (dT:TI≠z∧TI≠TO∧TI≠i1∧TI≠i2)
  (hx:xs[i]?=some x) (hy:ys[i]?=some y)
  (zip':∃ (T0:Nat) (f1:Bool),ZipAt h' z TI TO (rawInt T0) f1∧(Ts++[h.objs.size])[0]?=some T0) (to':∃ a b,IsPair h' TO a b) (a1:h'.IsListIter i1 l1 (i+1)) (a2:h'.IsListIter i2 l2 (i+1)) (tp:IsPair h' h.objs.size x y)
  (kp:∀ (c:Nat) o,c≠z→c≠TO→c≠i1→c≠i2→h.get? c=some o→h'.get? c=some o) :
  (∃ c,ListAt h' S acc c)∧Filling s z TI TO i1 i2 l1 l2 S xs ys (i+1) (acc.push (.ref h.objs.size)) (h'.update S (Obj.mapSeq (·.push (.ref h.objs.size)))) (Ts++[h.objs.size]):=by
 obtain ⟨c,hS⟩:=F.lst
 have hS':ListAt h' S acc c:=kp S _ dS.1 dS.2.2.1 dS.2.2.2.1 dS.2.2.2.2 hS
 have lt:(S:Nat)<h.objs.size:=Heap.lt_size hS
 have up:∀ (b:Nat) o,b≠S→h'.get? b=some o→(h'.update S (Obj.mapSeq (·.push (.ref h.objs.size)))).get? b=some o:=fun b o nb e=>(Heap.get?_update_other _ _ (Ne.symm nb)).trans e
 have lz:(z:Nat)<h.objs.size:=by
  rcases F.zip with ⟨_,e⟩ | ⟨_,_,e,_⟩
  ·exact Heap.lt_size e
  ·exact Heap.lt_size e
 have lto:(TO:Nat)<h.objs.size:=by obtain ⟨_,_,e⟩:=F.to_; exact Heap.lt_size e
 have l1':(i1:Nat)<h.objs.size:=by obtain ⟨_,e,_⟩:=F.it1; exact Heap.lt_size e
 have l2':(i2:Nat)<h.objs.size:=by obtain ⟨_,e,_⟩:=F.it2; exact Heap.lt_size e
 have sle:s.heap.objs.size≤h.objs.size:=Nat.le_trans hs.1 (Nat.le_of_lt lz)
 refine ⟨⟨c,hS'⟩,⟨fun b o e=>?_,.inr ?_,?_,?_,a1.at fun o e=>up _ o dS.2.2.2.1.symm e,a2.at fun o e=>up _ o dS.2.2.2.2.symm e,⟨_,Heap.get?_update_self _ hS' rfl⟩,?_,?_,fun j T hj=>?_,?_⟩⟩
 ·have hb:(b:Nat)<s.heap.objs.size:=Heap.lt_size e
  exact up b o (ap (by omega)) (kp b o (ap (by omega)) (ap (by omega)) (ap (by omega)) (ap (by omega)) (F.kept b o e))
 ·obtain ⟨T0,f1,e1,e2⟩:=zip'
  exact ⟨T0,f1,up _ _ dS.1.symm e1,e2⟩
 ·exact up _ _ dS.2.1.symm (kp _ _ dT.1 dT.2.1 dT.2.2.1 dT.2.2.2 F.ti)
 ·obtain ⟨a,b,e⟩:=to'
  exact ⟨a,b,up _ _ dS.2.2.1.symm e⟩
 ·rw [Array.toList_push,F.acc,List.map_append]
  rfl
 ·rw [List.length_append,F.len]
  rfl
 ·by_cases hl:j<Ts.length
  ·rw [List.getElem?_append_left hl] at hj
   obtain ⟨b1,b2,b3,b4,b5,b6,x',y',b7,b8,b9⟩:=F.tup j T hj
   exact ⟨b1,b2,b3,b4,b5,b6,x',y',b7,b8,up _ _ b2 (kp _ _ b3 b4 b5 b6 b9)⟩
  ·rw [List.getElem?_append_right (by omega)] at hj
   have e0:j - Ts.length=0:=by
    cases q:j - Ts.length with
    | zero=>rfl
    | succ m=>rw [q] at hj; simp at hj
   rw [e0] at hj
   have eT:h.objs.size=T:=by simpa using hj
   have ej:j=i:=by have:=F.len; omega
   subst eT ej
   exact ⟨sle,ap (by omega),ap (by omega),ap (by omega),ap (by omega),ap (by omega),x,y,hx,hy,up _ _ (ap (by omega)) tp⟩
 ·refine List.pairwise_append.mpr ⟨F.inc,List.pairwise_singleton _ _,fun a ha b hb=>?_⟩
  rw [List.mem_singleton.mp hb]
  obtain ⟨j,hj⟩:=List.getElem?_of_mem ha
  obtain ⟨_,_,_,_,_,_,_,_,_,_,e⟩:=F.tup j a hj
  exact Heap.lt_size e
theorem list_zip {l1 l2:Nat} {xs ys:Array Value} {Q:Value→Shared→Prop} (hh:A.handled=none) (hl1:s.heap.IsList l1 xs) (hl2:s.heap.IsList l2 ys) (h0:0<xs.size) (hle:xs.size≤ys.size) (hn:xs.size≤sizeLine)
  (hQ:∀ h' (Ts:List Nat) (S:Nat) (c:Nat),(∀ b o,s.heap.get? b=some o→h'.get? b=some o)→s.heap.objs.size≤S→ListAt h' S (Ts.map Value.ref).toArray c→Ts.length=xs.size→Ts.Pairwise (·<·) →
   (∀ (j:Nat) (T:Nat),Ts[j]?=some T→s.heap.objs.size≤T∧T≠S∧∃ x y,xs[j]?=some x∧ys[j]?=some y∧IsPair h' T x y)→Q (.ref S) { s with heap:=h' }) :
  wpAny (model prog w) A (call (.type "zip") [.ref l1,.ref l2]) (fun z s1=>wpAny (model prog w) A (call (.type "list") [z]) Q E s1) E s:=by
 have b1:l1<s.heap.objs.size:=by obtain ⟨_,e,_⟩:=hl1; exact Heap.lt_size e
 have b2:l2<s.heap.objs.size:=by obtain ⟨_,e,_⟩:=hl2; exact Heap.lt_size e
 refine call_zip_2 hl1 hl2 fun hp hz hTI hTO hit1 hit2 hsz hk=>?_
 have D:=zipApart_new b1 b2
 refine callType_codes (Q₁:=fun obj s₁=>obj=.ref hp.objs.size∧s₁={ s with heap:=hp.push { cls:=.type "list",data:=.seq #[] } }) PySem.F.called_list (PySem.F.typeCall_list_1 _) PySem.F.entry_list_init (code_list_new _ ⟨rfl,rfl⟩) fun obj s₁ h₁=>?_
 obtain ⟨rfl,rfl⟩:=h₁
 have hS:(hp.push { cls:=.type "list",data:=.seq #[] }).get? hp.objs.size=some { cls:=.type "list",data:=.seq #[] }:=Heap.get?_push_size _ rfl
 refine ⟨⟨_,hS,rfl⟩,PySem.F.args_list_init_2 _ _,?_⟩
 have S5:hp.objs.size=s.heap.objs.size+5:=hsz
 show wpAny _ _ (do let old ← Builtin.List.listItems (.ref hp.objs.size); Builtin.List.listUpdate (.ref hp.objs.size) (fun _=>#[]); letGo old.toList.reverse; Builtin.List.listExtendWith (.ref hp.objs.size) (.ref (s.heap.objs.size+4)) .none) _ _ _
 refine wpAny_bind ?_
 unfold Builtin.List.listItems
 refine wpAny_bind (wpAny_seqItems hS rfl (wpAny_pure ?_))
 show wpAny _ _ (updateSeq hp.objs.size (fun _=>#[]) >>= fun _=>letGo (#[]:Array Value).toList.reverse >>= fun _=>Builtin.List.listExtendWith (.ref hp.objs.size) (.ref (s.heap.objs.size+4)) .none) _ _ _
 refine wpAny_bind (wpAny_updateSeq hS rfl ?_)
 have hS₂:=Heap.get?_update_self (Obj.mapSeq (fun _=>(#[]:Array Value))) hS rfl
 refine wpAny_bind (wpAny_letGo ?_)
 have old2:∀ b o,hp.get? b=some o→((hp.push { cls:=.type "list",data:=.seq #[] }).update hp.objs.size (Obj.mapSeq (fun _=>(#[]:Array Value)))).get? b=some o:=fun b o e =>
  (Heap.get?_update_other _ _ (Nat.ne_of_gt (Heap.lt_size e))).trans (Heap.get?_push_of_some _ e)
 unfold Builtin.List.listExtendWith
 refine wpAny_bind (wpAny_typeOf (T:="zip") ⟨_,old2 _ _ hz,rfl⟩ ?_)
 have e1:Builtin.List.listSameRef (.ref hp.objs.size) (.ref (s.heap.objs.size+4))=false:=by
  have:hp.objs.size≠s.heap.objs.size+4:=by omega
  simp [Builtin.List.listSameRef,this]
 have e2:(Value.type "zip" == Value.type "list")=false:=by decide
 have e3:(Value.type "zip" == Value.type "tuple")=false:=by decide
 simp only [e1,e2,e3,Bool.or_false,Bool.false_eq_true,if_false]
 refine wpAny_bind (wpAny_pyIter_zip (old2 _ _ hz) (wpAny_bind (wpAny_holding (zip_hint ⟨_,old2 _ _ hz,rfl⟩ ?_))))
 show wpAny _ _ (rule "list.extend.makes-room" >>= fun _=>Builtin.List.listTouch (.ref hp.objs.size) >>= fun _=>again (.builtin "list.extend.loop" ⟨[.ref hp.objs.size,.ref (s.heap.objs.size+4),.none],[]⟩)) _ _ _
 refine wpAny_bind (wpAny_rule (wpAny_bind ?_))
 show wpAny _ _ (updateSeq hp.objs.size (·.push .none) >>= fun _=>updateSeq hp.objs.size (·.pop)) _ _ _
 refine wpAny_bind (wpAny_updateSeq hS₂ rfl ?_)
 have hS₃:=Heap.get?_update_self (Obj.mapSeq (·.push Value.none)) hS₂ rfl
 refine wpAny_updateSeq (hz:=by seq_fits) hS₃ rfl ?_
 have hS₄:=Heap.get?_update_self (Obj.mapSeq (·.pop)) hS₃ rfl
 have old4:∀ b o,hp.get? b=some o→_:=fun b o (e:hp.get? b=some o)=>(Heap.get?_update_other _ (Obj.mapSeq (·.pop)) (Nat.ne_of_gt (Heap.lt_size e))).trans ((Heap.get?_update_other _ (Obj.mapSeq (·.push Value.none)) (Nat.ne_of_gt (Heap.lt_size e))).trans (old2 b o e))
 refine wpAny_pure ⟨plainId_quiet PySem.F.plain_extend_loop _,?_⟩
 generalize ((((hp.push { cls:=.type "list",data:=.seq #[] }).update hp.objs.size (Obj.mapSeq (fun _=>(#[]:Array Value)))).update hp.objs.size (Obj.mapSeq (·.push Value.none))).update hp.objs.size (Obj.mapSeq (·.pop)))=h4 at hS₄ old4 ⊢
 have hs6:s.heap.objs.size≤s.heap.objs.size+4∧s.heap.objs.size≤s.heap.objs.size+2∧s.heap.objs.size≤s.heap.objs.size+3∧s.heap.objs.size≤s.heap.objs.size∧s.heap.objs.size≤s.heap.objs.size+1∧s.heap.objs.size≤hp.objs.size:=by omega
 have dS:hp.objs.size≠s.heap.objs.size+4∧hp.objs.size≠s.heap.objs.size+2∧hp.objs.size≠s.heap.objs.size+3∧hp.objs.size≠s.heap.objs.size∧hp.objs.size≠s.heap.objs.size+1:=by omega
 have dT:s.heap.objs.size+2≠s.heap.objs.size+4∧s.heap.objs.size+2≠s.heap.objs.size+3∧s.heap.objs.size+2≠s.heap.objs.size∧s.heap.objs.size+2≠s.heap.objs.size+1:=by omega
 have F0:Filling s (s.heap.objs.size+4) (s.heap.objs.size+2) (s.heap.objs.size+3) s.heap.objs.size (s.heap.objs.size+1) l1 l2 hp.objs.size xs ys 0 #[] h4 [] :=
  ⟨fun b o e=>old4 _ _ (hk b o e),.inl ⟨rfl,old4 _ _ hz⟩,old4 _ _ hTI,⟨_,_,old4 _ _ hTO⟩,hit1.at fun o e=>old4 _ o e,hit2.at fun o e=>old4 _ o e,⟨_,hS₄⟩,rfl,rfl,fun j T z=>by simp at z,List.Pairwise.nil⟩
 refine fill_loop (n:=xs.size) (fun i acc s'=>∃ h Ts,s'={ s with heap:=h }∧Filling s (s.heap.objs.size+4) (s.heap.objs.size+2) (s.heap.objs.size+3) s.heap.objs.size (s.heap.objs.size+1) l1 l2 hp.objs.size xs ys i acc h Ts) hn ?_ ?_ ?_ xs.size 0 #[] _ (by omega) (Nat.zero_le _) ⟨h4,[],rfl,F0⟩
 ·rintro i acc s' ⟨h,Ts,rfl,F⟩
  have:=congrArg List.length F.acc
  rw [Array.length_toList,List.length_map,F.len] at this
  exact this
 ·rintro i acc s' E' hi ⟨h,Ts,rfl,F⟩
  have hx:xs[i]?=some xs[i]:=Array.getElem?_eq_getElem hi
  have hy:ys[i]?=some (ys[i]'(by omega)):=Array.getElem?_eq_getElem (by omega)
  have li1:h.IsList l1 xs:=hl1.at fun o e=>F.kept _ o e
  have li2:h.IsList l2 ys:=hl2.at fun o e=>F.kept _ o e
  rcases F.zip with ⟨rfl,e⟩ | ⟨T0,f1,e,e0⟩
  ·obtain ⟨ta,tb,hto⟩:=F.to_
   refine wpAny_pyNext_zip_item (s:={ s with heap:=h }) D e F.ti hto F.it1 F.it2 li1 li2 hx hy fun h' q1 q2 q3 q4 q5 q6 q7=>?_
   have ets:Ts=[]:=List.length_eq_zero_iff.mp F.len
   obtain ⟨⟨c,g1⟩,g2⟩:=F.grow hs6 dS dT hx hy ⟨h.objs.size,false,q1,by rw [ets]; rfl⟩ ⟨_,_,q2⟩ q3 q4 q5 q7
   exact ⟨_,c,rfl,g1,_,_,rfl,g2⟩
  ·obtain ⟨_,_,_,_,_,_,_,_,_,_,al⟩:=F.tup 0 T0 e0
   refine held_pyNext (s:={ s with heap:=h }) D e ⟨_,al⟩ F.ti F.it1 F.it2 li1 li2 hx hy fun h' g1 q1 q2 q3 q4 q5=>?_
   obtain ⟨ta,tb,hto⟩:=F.to_
   have lto:=D.TOz
   obtain ⟨⟨c,r1⟩,r2⟩:=F.grow hs6 dS dT hx hy ⟨T0,g1,q1,by
    have hl:0<Ts.length:=(List.getElem?_eq_some_iff.mp e0).1
    rw [List.getElem?_append_left hl]
    exact e0⟩ ⟨ta,tb,q5 _ _ D.TOz D.TOi1 D.TOi2 hto⟩ q2 q3 q4 fun c o c1 _ c3 c4 e=>q5 c o c1 c3 c4 e
   exact ⟨_,c,rfl,r1,_,_,rfl,r2⟩
 ·rintro acc s' E' ⟨h,Ts,rfl,F⟩
  have li1:h.IsList l1 xs:=hl1.at fun o e=>F.kept _ o e
  rcases F.zip with ⟨e,_⟩ | ⟨T0,f1,e,e0⟩
  ·omega
  ·obtain ⟨_,_,_,_,_,_,_,_,_,_,al⟩:=F.tup 0 T0 e0
   refine held_end (s:={ s with heap:=h }) (A:=A.in1.in1) hh D e ⟨_,al⟩ F.ti F.it1 li1 (by simp) fun h' kp=>?_
   obtain ⟨c,hl⟩:=F.lst
   have ea:acc=(Ts.map Value.ref).toArray:=by rw [← F.acc,Array.toArray_toList]
   refine ⟨rfl,rfl,hQ h' Ts _ c (fun (b:Nat) o e=>?_) (by omega) ?_ F.len F.inc fun j T hj=>?_⟩
   ·have hb:(b:Nat)<s.heap.objs.size:=Heap.lt_size e
    exact kp b o (ap (by omega)) (ap (by omega)) (F.kept b o e)
   ·rw [← ea]
    exact kp _ _ dS.1 dS.2.2.2.1 hl
   ·obtain ⟨b1,b2,b3,b4,b5,b6,x,y,b7,b8,b9⟩:=F.tup j T hj
    exact ⟨b1,b2,x,y,b7,b8,kp _ _ b3 b5 b9⟩
end
end Zp
namespace L2
open PySem PySem.Spec PyProof.Rows
def updAll (H:Hp):List (Addr×HO)→Hp
 | []=>H
 | p::r=>upd (updAll H r) p.1 p.2
theorem updAll_not {H:Hp} {b:Addr}:∀ {L:List (Addr×HO)},b∉L.map (·.1)→updAll H L b=H b
 | [],_=>rfl
 | p::r,h=>by
  have h1:b≠p.1:=fun z=>h (by rw [z]; exact List.mem_cons_self ..)
  show upd (updAll H r) p.1 p.2 b=_
  rw [upd_ne h1]
  exact updAll_not fun z=>h (List.mem_cons_of_mem _ z)
theorem updAll_mem {H:Hp}:∀ {L:List (Addr×HO)},(L.map (·.1)).Nodup→∀ p∈L,updAll H L p.1=some p.2
 | [],_,p,h=>by cases h
 | q::r,nd,p,h=>by
  obtain ⟨n1,n2⟩:=List.nodup_cons.mp nd
  show upd (updAll H r) q.1 q.2 p.1=_
  rcases List.mem_cons.mp h with rfl | h
  ·exact upd_same
  ·have:p.1≠q.1:=fun z=>n1 (by show q.1∈r.map (·.1); rw [← z]; exact List.mem_map_of_mem h)
   rw [upd_ne this]
   exact updAll_mem n2 p h
theorem updAll_inv {H:Hp} {b:Addr} {o:HO}:∀ {L:List (Addr×HO)},updAll H L b=some o→(b,o)∈L∨H b=some o
 | [],h=>.inr h
 | q::r,h=>by
  by_cases e:b=q.1
  ·subst e
   have h2:upd (updAll H r) q.1 q.2 q.1=some o:=h
   rw [upd_same] at h2
   cases h2
   exact .inl (List.mem_cons_self ..)
  ·have h2:upd (updAll H r) q.1 q.2 b=some o:=h
   rw [upd_ne e] at h2
   rcases updAll_inv h2 with z | z
   ·exact .inl (List.mem_cons_of_mem _ z)
   ·exact .inr z
theorem updAll_same {H:Hp} {L:List (Addr×HO)} (h:∀ p∈L,H p.1=none):Same H (updAll H L):=fun b o e=>by
 rw [updAll_not fun z=>?_]
 ·exact e
 ·obtain ⟨p,hp,rfl⟩:=List.mem_map.mp z
  rw [h p hp] at e
  cases e
theorem Inv.laidAll {X:Cx} {pins:List (Addr×Obj)} {σ:St} {H:Hp} {s:Shared} {h':Heap} {L:List (Addr×HO)} {t':Nat} (I:Inv X pins σ H s) (k:∀ b u,s.heap.get? b=some u→h'.get? b=some u) (hp:∀ p∈L,s.heap.objs.size≤p.1)
  (new:∀ p∈L,∀ H2,ObjOk X.prog X.w H2 h' p.1 p.2):Inv X pins σ (updAll H L) { s with heap:=h',toks:=t' }:=by
 have sm:Same H (updAll H L):=updAll_same fun p h=>I.hok.fresh (hp p h)
 refine I.step (g':=s.gens) (d':=s.drawn) (t':=t') (ch:=[]) (fun b hb=>by cases hb) (fun b o _ _ _ q _=>k b o q) (fun b o _ _ _ q _=>⟨o.slots,k b o q⟩) (fun b o _ q n=>?_)
  (fun b o _ q=>⟨o,k b o q⟩) (fun b ys q=>sm _ _ q) (fun b o u q=>sm _ _ q) (fun b ps q=>⟨#[],by rw [sm _ _ q]; simp⟩) (fun m hm=>?_) (fun b o q=>?_) I.bare
 ·rw [updAll_not fun z=>?_]
  ·exact n
  ·obtain ⟨p,h,rfl⟩:=List.mem_map.mp z
   exact absurd (Heap.lt_size q) (Nat.not_lt.mpr (hp p h))
 ·obtain ⟨o,es,ep,ho,r⟩:=hm
  exact ⟨o,es,ep,k _ o ho,r⟩
 ·rcases updAll_inv q with z | z
  ·exact new _ z _
  ·exact (I.hok b o z).stay (fun c v _ e=>k c v e) (fun c e=>sm _ _ e) fun c ys e=>sm _ _ e
section
variable {X:Cx}
theorem boot_zip:bootBuiltins "zip"=some (.type "zip"):=by decide +kernel
def tLZip (K:PySem.W.Frag) (ta:TA):TE:=fun σ H Q=>ta σ H fun vs H1=>∃ a b xs ys,vs=[.ref a,.ref b]∧SqL K H1 a xs∧SqL K H1 b ys∧0<xs.length∧xs.length≤ys.length ∧
 ∀ (l:Addr) (ts:List Addr) H2,Same H1 H2→H1 l=none→H2 l=some (.lst (ts.map V.ref))→ts.length=xs.length→(∀ (j:Nat) (t:Addr),ts[j]?=some t→H1 t=none∧∃ x y,xs[j]?=some x∧ys[j]?=some y∧H2 t=some (.tup [x,y]))→Q (.ref l) H2
theorem pe_listzip {e1 e2:Expr} {ta:TA} {p pos p2 pos2:Pos} (hc:X.calm=true) (hg2:Gl X "list") (hm2:X.mg "list"=none) (hb2:bootBuiltins "list"=some (.type "list")) (hg:Gl X "zip") (hm:X.mg "zip"=none) (ha:PA X [e1,e2] ta)
  (hs:starEach (e1::[e2]) X.env=(false,eval e1 X.env)::starEach [e2] X.env:=by rfl) (hpl:(backTo pos (starEach [e2] X.env)).any (·.1)=false:=by rfl)
  (hs2:starEach [Expr.Call (.Name "zip" p) [e1,e2] [] pos] X.env=[(false,eval (.Call (.Name "zip" p) [e1,e2] [] pos) X.env)]:=by rfl) :
  PE X (.Call (.Name "list" p2) [.Call (.Name "zip" p) [e1,e2] [] pos] [] pos2) (tLZip X.K ta):=by
 intro pins s σ H Q I h
 refine Call_ (ld_blt I hg2 hm2 hb2 (PyProof.Rows.callWith_type1 ?_ hs2 rfl))
 rw [hs2]
 refine Calls.spliced_cons ?_
 refine Call_ (ld_blt I hg hm boot_zip (PyProof.Rows.callWith_type1 (thn (ha pos pins s σ H _ I h) fun us s1 ⟨vs,H1,I1,r1,q1⟩=>?_) hs hpl))
 obtain ⟨a,b,xs,ys,e,ha1,hb1,h0,hle,q⟩:=q1
 subst e
 obtain ⟨u,v,rfl,ra,rb⟩:=Vals.two r1
 cases ra
 cases rb
 obtain ⟨itx,rvx,plx,hzx⟩:=I1.list ha1
 obtain ⟨ity,rvy,ply,hzy⟩:=I1.list hb1
 have lx:=rvx.length
 have ly:=rvy.length
 refine wpAny_mono (Zp.list_zip (Q:=EP X pins σ Q) (E:=X.xe) (I1.ok.hd hc) plx.isList ply.isList (by rw [List.size_toArray]; omega) (by rw [List.size_toArray,List.size_toArray]; omega) (by rw [List.size_toArray]; omega) fun h' Ts S c kp hS hl hn inc ht=>?_) (fun z s2 hz=>Calls.spliced_nil hz) fun _ _ e=>e
 rw [List.size_toArray] at hn
 have lzz:Ts.length=((xs.zip ys).map fun p=>HO.tup [p.1,p.2]).length:=by rw [List.length_map,List.length_zip]; omega
 have ek:(Ts.zip ((xs.zip ys).map fun p=>HO.tup [p.1,p.2])).map (·.1)=Ts:=List.map_fst_zip (Nat.le_of_eq lzz)
 have at_:∀ (j:Nat) (T:Addr) (x y:V),Ts[j]?=some T→xs[j]?=some x→ys[j]?=some y→(Ts.zip ((xs.zip ys).map fun p=>HO.tup [p.1,p.2]))[j]?=some (T,HO.tup [x,y]):=fun j T x y e1 e2 e3=>by
  rw [List.getElem?_zip_eq_some]
  refine ⟨e1,?_⟩
  rw [List.getElem?_map]
  have:(xs.zip ys)[j]?=some (x,y):=List.getElem?_zip_eq_some.mpr ⟨e2,e3⟩
  rw [this]
  rfl
 have vr:∀ as:List Addr,Vals (as.map V.ref) (as.map Value.ref):=fun as=>by
  induction as with
  | nil=>exact .nil
  | cons a as ih=>exact .cons rfl ih
 have nS:S∉Ts:=fun z=>by
  obtain ⟨j,hj⟩:=List.getElem?_of_mem z
  exact (ht j S hj).2.1 rfl
 have nd:(((S,HO.lst (Ts.map V.ref))::Ts.zip ((xs.zip ys).map fun p=>HO.tup [p.1,p.2])).map (·.1)).Nodup:=by
  rw [List.map_cons,ek]
  exact List.nodup_cons.mpr ⟨nS,inc.imp fun q=>Nat.ne_of_lt q⟩
 have l2:(2:Nat)≤sizeLine:=by rw [sizeLine_eq]; decide
 have frs:∀ p∈(S,HO.lst (Ts.map V.ref))::Ts.zip ((xs.zip ys).map fun p=>HO.tup [p.1,p.2]),s1.heap.objs.size≤p.1:=fun p hp=>by
  rcases List.mem_cons.mp hp with rfl | hp
  ·exact hS
  ·have:p.1∈Ts:=by
    have:=List.mem_map_of_mem (f:=(·.1)) hp
    rw [ek] at this
    exact this
   obtain ⟨j,hj⟩:=List.getElem?_of_mem this
   exact (ht j _ hj).1
 have I2:=I1.laidAll (t':=s1.toks) (L:=(S,HO.lst (Ts.map V.ref))::Ts.zip ((xs.zip ys).map fun p=>HO.tup [p.1,p.2])) kp frs fun p hp H2=>by
  rcases List.mem_cons.mp hp with rfl | hp
  ·exact ⟨by rw [List.length_map]; omega,Ts.map Value.ref,c,vr Ts,hl⟩
  ·obtain ⟨j,hj⟩:=List.getElem?_of_mem hp
   obtain ⟨e1,e2⟩:=List.getElem?_zip_eq_some.mp hj
   rw [List.getElem?_map] at e2
   cases e3:(xs.zip ys)[j]? with
   | none=>rw [e3] at e2; cases e2
   | some xy =>
    rw [e3] at e2
    obtain ⟨ex,ey⟩:=List.getElem?_zip_eq_some.mp e3
    have e2:HO.tup [xy.1,xy.2]=p.2:=by simpa using e2
    rw [← e2]
    obtain ⟨_,_,x',y',f1,f2,f3⟩:=ht j p.1 e1
    obtain ⟨u1,g1,g2⟩:=rvx.get ex
    obtain ⟨u2,g3,g4⟩:=rvy.get ey
    have i1:u1=x':=by
     have:itx[j]?=some x':=by simpa using f1
     rw [g1] at this
     exact Option.some.inj this
    have i2:u2=y':=by
     have:ity[j]?=some y':=by simpa using f2
     rw [g3] at this
     exact Option.some.inj this
    subst i1 i2
    exact ⟨l2,[u1,u2],.cons g2 (.cons g4 .nil),⟨_,f3,rfl,_,rfl⟩⟩
 refine ⟨.ref S,_,I2,rfl,q S Ts _ (updAll_same fun p hp=>I1.hok.fresh (frs p hp)) (I1.hok.fresh hS) (updAll_mem nd _ (List.mem_cons_self ..)) (by omega) fun j T hj=>?_⟩
 have hjx:j<xs.length:=by have:=(List.getElem?_eq_some_iff.mp hj).1; omega
 have e1:xs[j]?=some xs[j]:=List.getElem?_eq_getElem hjx
 have e2:ys[j]?=some (ys[j]'(by omega)):=List.getElem?_eq_getElem (by omega)
 exact ⟨I1.hok.fresh (ht j T hj).1,_,_,e1,e2,updAll_mem nd (T,_) (List.mem_cons_of_mem _ (List.mem_of_getElem? (at_ j T _ _ hj e1 e2)))⟩
end
end L2
set_option maxHeartbeats 4000000
namespace Zp
open PySem PyProof.Rows
theorem typeCall3 (a b c:Value):checkTypeCall "zip" ⟨[a,b,c],[]⟩=pure ():=by kernel_rfl
theorem newCall3 (a b c:Value):checkBuiltinCall "zip.__new__" ⟨[.type "zip",a,b,c],[]⟩=pure ():=by kernel_rfl
theorem init4 (a b c d:Value):argsOk "object.__init__" ⟨[a,b,c,d],[]⟩:=by
 unfold argsOk; rw [signature?_of (id:="object.__init__") (n:=['_','_','t','i','n','i','_','_']) (o:=['t','c','e','j','b','o']) (by kernel_rfl) PySem.F.owner_object]; kernel_rfl
abbrev Trip (h:Heap) (T:Addr) (a b c:Value):Prop:=h.get? T=some { cls:=.type "tuple",data:=.seq #[a,b,c] }
abbrev itOf (l:Addr):Obj:={ cls:=.type "list_iterator",data:=.fields #[.ref l,.int 0 0] }
abbrev q1 (h:Heap) (l1:Addr):Heap:=h.push (itOf l1)
abbrev q2 (h:Heap) (l1 l2:Addr):Heap:=(q1 h l1).push (itOf l2)
abbrev q3 (h:Heap) (l1 l2 l3:Addr):Heap:=(q2 h l1 l2).push (itOf l3)
abbrev q4 (h:Heap) (l1 l2 l3:Addr):Heap:=(q3 h l1 l2 l3).push { cls:=.type "tuple",data:=.seq #[.ref h.objs.size,.ref (q1 h l1).objs.size,.ref (q2 h l1 l2).objs.size] }
abbrev q5 (h:Heap) (l1 l2 l3:Addr):Heap:=(q4 h l1 l2 l3).push { cls:=.type "tuple",data:=.seq #[.none,.none,.none] }
abbrev q6 (h:Heap) (l1 l2 l3:Addr):Heap:=(q5 h l1 l2 l3).push { cls:=.type "zip",data:=.fields #[.none,.bool false,.bool false,.ref (q3 h l1 l2 l3).objs.size,.ref (q4 h l1 l2 l3).objs.size] }
theorem meets_new3 (l1 l2 l3:Addr) (xs ys zs:Array Value) :
  Meets (Builtin.«zip.__new__» ⟨[.type "zip",.ref l1,.ref l2,.ref l3],[]⟩) (fun _ R s=>s.heap.IsList l1 xs∧s.heap.IsList l2 ys∧s.heap.IsList l3 zs∧R (.ok (.ret (.ref (q5 s.heap l1 l2 l3).objs.size))) { s with heap:=q6 s.heap l1 l2 l3 }) :=
 .of_wp fun prog w A R s h=>by
  obtain ⟨hp,g,d,tk,os⟩:=s; obtain ⟨hl1,hl2,hl3,h⟩:=h
  have hsub:=sub_zip
  have L1:Heap.IsList (Shared.heap ⟨hp,g,d,tk,os⟩) l1 xs:=hl1
  have L2:Heap.IsList (Shared.heap ⟨hp.push (itOf l1),g,d,tk,os⟩) l2 ys:=Heap.IsList.push hl2 _
  have L3:Heap.IsList (Shared.heap ⟨(hp.push (itOf l1)).push (itOf l2),g,d,tk,os⟩) l3 zs:=Heap.IsList.push (Heap.IsList.push hl3 _) _
  wp_walk using wpAny_pyIter_list L1,wpAny_pyIter_list L2,wpAny_pyIter_list L3
  exact ⟨_,rfl,h⟩
section
variable {prog:Program} {w:World} {A:Around} {E:Value→Shared→Prop} {s:Shared}
theorem call_zip3 {l1 l2 l3:Addr} {xs ys zs:Array Value} {Q:Value→Shared→Prop} (hl1:s.heap.IsList l1 xs) (hl2:s.heap.IsList l2 ys) (hl3:s.heap.IsList l3 zs)
  (h:∀ h',IsZip h' (s.heap.objs.size+5) (s.heap.objs.size+3) (s.heap.objs.size+4) .none→Trip h' (s.heap.objs.size+3) (.ref s.heap.objs.size) (.ref (s.heap.objs.size+1)) (.ref (s.heap.objs.size+2)) →
   Trip h' (s.heap.objs.size+4) .none .none .none→h'.IsListIter s.heap.objs.size l1 0→h'.IsListIter (s.heap.objs.size+1) l2 0→h'.IsListIter (s.heap.objs.size+2) l3 0 →
   (∀ c o,s.heap.get? c=some o→h'.get? c=some o)→Q (.ref (s.heap.objs.size+5)) { s with heap:=h' }) :
  wpAny (model prog w) A (call (.type "zip") [.ref l1,.ref l2,.ref l3]) Q E s:=by
 refine callType_new PySem.F.called_zip (by decide) (typeCall3 _ _ _) (newCall3 _ _ _) (fun obj=>init4 obj _ _ _) PySem.F.entry_zip_new (meets_new3 l1 l2 l3 xs ys zs) ⟨hl1,hl2,hl3,?_⟩
 have z1:(q1 s.heap l1).objs.size=s.heap.objs.size+1:=Heap.size_push ..
 have z2:(q2 s.heap l1 l2).objs.size=s.heap.objs.size+2:=by rw [Heap.size_push,z1]
 have z3:(q3 s.heap l1 l2 l3).objs.size=s.heap.objs.size+3:=by rw [Heap.size_push,z2]
 have z4:(q4 s.heap l1 l2 l3).objs.size=s.heap.objs.size+4:=by rw [Heap.size_push,z3]
 have z5:(q5 s.heap l1 l2 l3).objs.size=s.heap.objs.size+5:=by rw [Heap.size_push,z4]
 have up:∀ {hh:Heap} {o:Obj} {b:Addr} {ob:Obj},hh.get? b=some ob→(hh.push o).get? b=some ob:=fun e=>Heap.get?_push_of_some _ e
 have g6:(q6 s.heap l1 l2 l3).get? (q5 s.heap l1 l2 l3).objs.size=some _:=Heap.get?_push_size _ rfl
 have g5:(q6 s.heap l1 l2 l3).get? (q4 s.heap l1 l2 l3).objs.size=some _:=up (Heap.get?_push_size _ rfl)
 have g4:(q6 s.heap l1 l2 l3).get? (q3 s.heap l1 l2 l3).objs.size=some _:=up (up (Heap.get?_push_size _ rfl))
 have g3:(q6 s.heap l1 l2 l3).get? (q2 s.heap l1 l2).objs.size=some _:=up (up (up (Heap.get?_push_size _ rfl)))
 have g2:(q6 s.heap l1 l2 l3).get? (q1 s.heap l1).objs.size=some _:=up (up (up (up (Heap.get?_push_size _ rfl))))
 have g1:(q6 s.heap l1 l2 l3).get? s.heap.objs.size=some _:=up (up (up (up (up (Heap.get?_push_size _ rfl)))))
 show _∧_
 rw [z3,z4,z5] at g6
 rw [z1,z2,z3] at g4
 rw [z4] at g5
 rw [z2] at g3
 rw [z1] at g2
 rw [z5]
 exact ⟨⟨_,g6,rfl⟩,h _ g6 g4 g5 ⟨_,g1,rfl,rfl⟩ ⟨_,g2,rfl,rfl⟩ ⟨_,g3,rfl,rfl⟩ fun c o x=>up (up (up (up (up (up x)))))⟩
theorem upd_trip {T:Addr} {a b c x:Value} {k:Nat} {Q:Unit→Shared→Prop} (hT:Trip s.heap T a b c)
  (h:∀ h',h'.get? T=some { cls:=.type "tuple",data:=.seq ((#[a,b,c]:Array Value).setIfInBounds k x) }→Heap.SameBut T s.heap h'→Q () { s with heap:=h' }) :
  wpAny (model prog w) A (updateSeq T (·.setIfInBounds k x)) Q E s:=by
 refine wpAny_updateSeq hT rfl (h _ ?_ (Heap.SameBut.update ..))
 rw [Heap.get?_update_self _ hT rfl]
 simp [Obj.mapSeq]
theorem next3 {n l1 l2 l3:Nat} {k:Nat} {xs ys zs:Array Value} {x y v a b c:Value} {Q:Value→Shared→Prop} (b1:l1<n) (b2:l2<n) (b3:l3<n)
  (hz:IsZip s.heap (n+5) (n+3) (n+4) .none) (hTI:Trip s.heap (n+3) (.ref n) (.ref (n+1)) (.ref (n+2))) (hTO:Trip s.heap (n+4) a b c)
  (h1:s.heap.IsListIter n l1 k) (h2:s.heap.IsListIter (n+1) l2 k) (h3:s.heap.IsListIter (n+2) l3 k) (hl1:s.heap.IsList l1 xs) (hl2:s.heap.IsList l2 ys) (hl3:s.heap.IsList l3 zs) (hx:xs[k]?=some x) (hy:ys[k]?=some y) (hv:zs[k]?=some v)
  (hQ:∀ h',IsZip h' (n+5) (n+3) (n+4) (rawInt s.heap.objs.size)→Trip h' (n+4) x y v→h'.IsListIter n l1 (k+1)→h'.IsListIter (n+1) l2 (k+1)→h'.IsListIter (n+2) l3 (k+1)→Trip h' s.heap.objs.size x y v →
   (∀ (c:Nat) o,c≠n+5→c≠n+4→c≠n→c≠n+1→c≠n+2→s.heap.get? c=some o→h'.get? c=some o)→Q (.ref s.heap.objs.size) { s with heap:=h' }) :
  wpAny (model prog w) A (Builtin.«zip.__next__» ⟨[.ref (n+5)],[]⟩) (fun fin s'=>∃ v,fin=.done (.ret v)∧Q v s') E s:=by
 show wpAny _ _ (field (.ref (n+5)) 2 >>= _) _ _ _
 refine wpAny_bind (wpAny_field hz rfl (x:=.bool false) rfl ?_)
 show wpAny _ _ (field (.ref (n+5)) 3 >>= _) _ _ _
 refine wpAny_bind (wpAny_field hz rfl (x:=.ref (n+3)) rfl (wpAny_bind (wpAny_seqItems hTI rfl ?_)))
 show wpAny _ _ (Builtin.SmallTypes.ownedTupleIsFree (.ref (n+5)) >>= _) _ _ _
 refine wpAny_bind ?_
 unfold Builtin.SmallTypes.ownedTupleIsFree
 refine wpAny_bind (wpAny_field hz rfl (x:=.none) rfl (wpAny_pure ?_))
 simp only [if_true]
 refine wpAny_bind (wpAny_rule (wpAny_bind (wpAny_field hz rfl (x:=.ref (n+4)) rfl (wpAny_bind (wpAny_setField_rec hz (by simp) fun k1 hz1 t1=>?_)))))
 replace hz1:IsZip k1 (n+5) (n+3) (n+4) .ellipsis:=hz1
 refine wpAny_bind ?_
 simp only [List.zipIdx_cons,List.zipIdx_nil,List.forIn_cons,List.forIn_nil]
 refine wpAny_bind (wpAny_bind (wpAny_onRaise ?_))
 show wpAny _ _ (Builtin.SmallTypes.nextOf (.ref n) >>= _) _ _ _
 refine wpAny_bind (wpAny_nextOf_list_item (h1.extBut t1.extBut (Zp.ap (by omega))) (hl1.extBut t1.extBut (Zp.ap (by omega))) hx fun k2 g2 t2=>wpAny_pure ?_)
 have o2:Trip k2 (n+4) a b c:=t2.extBut _ _ (Zp.ap (by omega)) (t1.extBut _ _ (Zp.ap (by omega)) hTO)
 refine wpAny_bind (wpAny_seqItems o2 rfl (wpAny_bind (upd_trip o2 fun k3 o3 t3=>wpAny_bind (wpAny_letGo (wpAny_pure ?_)))))
 replace o3:Trip k3 (n+4) x b c:=o3
 refine wpAny_bind (wpAny_bind (wpAny_onRaise ?_))
 show wpAny _ _ (Builtin.SmallTypes.nextOf (.ref (n+1)) >>= _) _ _ _
 refine wpAny_bind (wpAny_nextOf_list_item (((h2.extBut t1.extBut (Zp.ap (by omega))).extBut t2.extBut (Zp.ap (by omega))).extBut t3.extBut (Zp.ap (by omega))) (((hl2.extBut t1.extBut (Zp.ap (by omega))).extBut t2.extBut (Zp.ap (by omega))).extBut t3.extBut (Zp.ap (by omega))) hy fun k4 g4 t4=>wpAny_pure ?_)
 have o4:Trip k4 (n+4) x b c:=t4.extBut _ _ (Zp.ap (by omega)) o3
 refine wpAny_bind (wpAny_seqItems o4 rfl (wpAny_bind (upd_trip o4 fun k5 o5 t5=>wpAny_bind (wpAny_letGo (wpAny_pure ?_)))))
 replace o5:Trip k5 (n+4) x y c:=o5
 refine wpAny_bind (wpAny_bind (wpAny_onRaise ?_))
 show wpAny _ _ (Builtin.SmallTypes.nextOf (.ref (n+2)) >>= _) _ _ _
 refine wpAny_bind (wpAny_nextOf_list_item (((((h3.extBut t1.extBut (Zp.ap (by omega))).extBut t2.extBut (Zp.ap (by omega))).extBut t3.extBut (Zp.ap (by omega))).extBut t4.extBut (Zp.ap (by omega))).extBut t5.extBut (Zp.ap (by omega))) (((((hl3.extBut t1.extBut (Zp.ap (by omega))).extBut t2.extBut (Zp.ap (by omega))).extBut t3.extBut (Zp.ap (by omega))).extBut t4.extBut (Zp.ap (by omega))).extBut t5.extBut (Zp.ap (by omega))) hv fun k6 g6 t6=>wpAny_pure ?_)
 have o6:Trip k6 (n+4) x y c:=t6.extBut _ _ (Zp.ap (by omega)) o5
 refine wpAny_bind (wpAny_seqItems o6 rfl (wpAny_bind (upd_trip o6 fun k7 o7 t7=>wpAny_bind (wpAny_letGo (wpAny_pure (wpAny_pure ?_))))))
 replace o7:Trip k7 (n+4) x y v:=o7
 refine wpAny_bind (wpAny_seqItems o7 rfl (wpAny_bind (wpAny_newTuple ?_)))
 have hsz:k7.objs.size=s.heap.objs.size:=by rw [t7.1,t6.1,t5.1,t4.1,t3.1,t2.1,t1.1]
 have keep:∀ (c:Nat) o,c≠n+5→c≠n+4→c≠n→c≠n+1→c≠n+2→s.heap.get? c=some o→k7.get? c=some o:=fun c o c1 c2 c3 c4 c5 e =>
  t7.extBut _ _ c2 (t6.extBut _ _ c5 (t5.extBut _ _ c2 (t4.extBut _ _ c4 (t3.extBut _ _ c2 (t2.extBut _ _ c3 (t1.extBut _ _ c1 e))))))
 have z7:IsZip k7 (n+5) (n+3) (n+4) .ellipsis:=t7.extBut _ _ (Zp.ap (by omega)) (t6.extBut _ _ (Zp.ap (by omega)) (t5.extBut _ _ (Zp.ap (by omega)) (t4.extBut _ _ (Zp.ap (by omega)) (t3.extBut _ _ (Zp.ap (by omega)) (t2.extBut _ _ (Zp.ap (by omega)) hz1)))))
 have i7:k7.IsListIter n l1 (k+1):=((((g2.extBut t3.extBut (Zp.ap (by omega))).extBut t4.extBut (Zp.ap (by omega))).extBut t5.extBut (Zp.ap (by omega))).extBut t6.extBut (Zp.ap (by omega))).extBut t7.extBut (Zp.ap (by omega))
 have j7:k7.IsListIter (n+1) l2 (k+1):=((g4.extBut t5.extBut (Zp.ap (by omega))).extBut t6.extBut (Zp.ap (by omega))).extBut t7.extBut (Zp.ap (by omega))
 have m7:k7.IsListIter (n+2) l3 (k+1):=g6.extBut t7.extBut (Zp.ap (by omega))
 have lz:(n+5:Nat)<k7.objs.size:=Heap.lt_size z7
 show wpAny _ _ (Builtin.SmallTypes.ownedTupleHandOut (.ref (n+5)) (.ref k7.objs.size) >>= _) _ _ _
 refine wpAny_bind ?_
 unfold Builtin.SmallTypes.ownedTupleHandOut
 have z8:IsZip (k7.push { cls:=.type "tuple",data:=.seq #[x,y,v] }) (n+5) (n+3) (n+4) .ellipsis:=Heap.get?_push_of_some _ z7
 refine wpAny_bind (wpAny_setField_rec z8 (by simp) fun k9 z9 t9=>?_)
 replace z9:IsZip k9 (n+5) (n+3) (n+4) (rawInt k7.objs.size):=z9
 refine wpAny_setField_rec z9 (by simp) fun k10 z10 t10=>?_
 replace z10:IsZip k10 (n+5) (n+3) (n+4) (rawInt k7.objs.size):=z10
 have up:∀ (c:Nat) o,c≠n+5→k7.get? c=some o→k10.get? c=some o:=fun c o c1 e=>t10.extBut _ _ c1 (t9.extBut _ _ c1 (Heap.get?_push_of_some _ e))
 have T10:Trip k10 k7.objs.size x y v:=t10.extBut _ _ (Zp.ap (by omega)) (t9.extBut _ _ (Zp.ap (by omega)) (Heap.get?_push_size _ rfl))
 rw [hsz] at z10 T10
 refine wpAny_pure ⟨_,rfl,?_⟩
 show Q (.ref k7.objs.size) _
 rw [hsz]
 exact hQ k10 z10 (up _ _ (Zp.ap (by omega)) o7) (i7.at fun o e=>up _ o (Zp.ap (by omega)) e) (j7.at fun o e=>up _ o (Zp.ap (by omega)) e) (m7.at fun o e=>up _ o (Zp.ap (by omega)) e) T10 fun c o c1 c2 c3 c4 c5 e=>up c o c1 (keep c o c1 c2 c3 c4 c5 e)
theorem pyNext3 {n l1 l2 l3:Nat} {k:Nat} {xs ys zs:Array Value} {x y v a b c:Value} {Q:Option Value→Shared→Prop} (b1:l1<n) (b2:l2<n) (b3:l3<n)
  (hz:IsZip s.heap (n+5) (n+3) (n+4) .none) (hTI:Trip s.heap (n+3) (.ref n) (.ref (n+1)) (.ref (n+2))) (hTO:Trip s.heap (n+4) a b c)
  (h1:s.heap.IsListIter n l1 k) (h2:s.heap.IsListIter (n+1) l2 k) (h3:s.heap.IsListIter (n+2) l3 k) (hl1:s.heap.IsList l1 xs) (hl2:s.heap.IsList l2 ys) (hl3:s.heap.IsList l3 zs) (hx:xs[k]?=some x) (hy:ys[k]?=some y) (hv:zs[k]?=some v)
  (hQ:∀ h',IsZip h' (n+5) (n+3) (n+4) (rawInt s.heap.objs.size)→Trip h' (n+4) x y v→h'.IsListIter n l1 (k+1)→h'.IsListIter (n+1) l2 (k+1)→h'.IsListIter (n+2) l3 (k+1)→Trip h' s.heap.objs.size x y v →
   (∀ (c:Nat) o,c≠n+5→c≠n+4→c≠n→c≠n+1→c≠n+2→s.heap.get? c=some o→h'.get? c=some o)→Q (some (.ref s.heap.objs.size)) { s with heap:=h' }) :
  wpAny (model prog w) A (pyNext (.ref (n+5))) Q E s:=by
 have hT:s.TypeIs (.ref (n+5)) "zip":=⟨_,hz,rfl⟩
 unfold pyNext
 exact wpAny_bind (wpAny_attempt (wpAny_callSpecial?_slot (name:=Str.ofString "__next__") hT PySem.F.slot_zip_next (wpAny_call_entry PySem.F.slot_zip_next hT PySem.F.entry_zip_next
  (next3 b1 b2 b3 hz hTI hTO h1 h2 h3 hl1 hl2 hl3 hx hy hv fun h' a1 a2 a3 a4 a5 a6 a7=>wpAny_pure (hQ h' a1 a2 a3 a4 a5 a6 a7)) (PySem.F.args_zip_next_1 _))))
theorem end3 {n l1:Nat} {k:Nat} {xs:Array Value} {Q:Option Value→Shared→Prop} (hh:A.handled=none) (b1:l1<n)
  (hz:IsZip s.heap (n+5) (n+3) (n+4) .none) (hTI:Trip s.heap (n+3) (.ref n) (.ref (n+1)) (.ref (n+2))) (h1:s.heap.IsListIter n l1 k) (hl1:s.heap.IsList l1 xs) (hx:xs[k]?=none)
  (hQ:∀ h',(∀ (c:Nat) o,c≠n+5→c≠n→s.heap.get? c=some o→h'.get? c=some o)→Q none { s with heap:=h' }):wpAny (model prog w) A (pyNext (.ref (n+5))) Q E s:=by
 have hT:s.TypeIs (.ref (n+5)) "zip":=⟨_,hz,rfl⟩
 unfold pyNext
 refine wpAny_bind (wpAny_attempt (wpAny_callSpecial?_slot (name:=Str.ofString "__next__") hT PySem.F.slot_zip_next (wpAny_call_entry PySem.F.slot_zip_next hT PySem.F.entry_zip_next ?_ (PySem.F.args_zip_next_1 _))))
 show wpAny _ _ (field (.ref (n+5)) 2 >>= _) _ _ _
 refine wpAny_bind (wpAny_field hz rfl (x:=.bool false) rfl ?_)
 show wpAny _ _ (field (.ref (n+5)) 3 >>= _) _ _ _
 refine wpAny_bind (wpAny_field hz rfl (x:=.ref (n+3)) rfl (wpAny_bind (wpAny_seqItems hTI rfl ?_)))
 show wpAny _ _ (Builtin.SmallTypes.ownedTupleIsFree (.ref (n+5)) >>= _) _ _ _
 refine wpAny_bind ?_
 unfold Builtin.SmallTypes.ownedTupleIsFree
 refine wpAny_bind (wpAny_field hz rfl (x:=.none) rfl (wpAny_pure ?_))
 simp only [if_true]
 refine wpAny_bind (wpAny_rule (wpAny_bind (wpAny_field hz rfl (x:=.ref (n+4)) rfl (wpAny_bind (wpAny_setField_rec hz (by simp) fun k1 hz1 t1=>?_)))))
 replace hz1:IsZip k1 (n+5) (n+3) (n+4) .ellipsis:=hz1
 refine wpAny_bind ?_
 simp only [List.zipIdx_cons,List.zipIdx_nil,List.forIn_cons,List.forIn_nil]
 refine wpAny_bind (wpAny_bind (wpAny_onRaise ?_))
 show wpAny _ _ (Builtin.SmallTypes.nextOf (.ref n) >>= _) _ _ _
 refine wpAny_bind (wpAny_nextOf_list_end hh (h1.extBut t1.extBut (Zp.ap (by omega))) (hl1.extBut t1.extBut (Zp.ap (by omega))) hx fun k2 e t2 he=>?_)
 obtain ⟨oe,hoe,hce⟩:=he
 have z2:IsZip k2 (n+5) (n+3) (n+4) .ellipsis:=t2 _ _ (Zp.ap (by omega)) hz1
 have nez:e≠n+5:=fun q=>by subst q; rw [z2] at hoe; cases hoe; simp at hce
 refine wpAny_setField_rec z2 (by simp) fun k3 _ t3=>?_
 refine wpAny_bind (wpAny_isInstance (T:="StopIteration") (b:=true) ⟨oe,t3.extBut _ _ nez hoe,hce⟩ isSubtype_stop ?_)
 exact wpAny_pure (hQ _ fun c o c1 c2 e=>t3.extBut _ _ c1 (t2 _ _ c2 (t1.extBut _ _ c1 e)))
end
end Zp
namespace L2
open PySem PySem.Spec PyProof.Rows
def Itz (K:PySem.W.Frag) (a b c:Addr):It :=
 ⟨fun i H=>∃ xs ys zs x y z,SqL K H a xs∧SqL K H b ys∧SqL K H c zs∧xs[i]?=some x∧ys[i]?=some y∧zs[i]?=some z,
  fun i H v H'=>∃ t x y z,H t=none∧v=.ref t∧H'=upd H t (.tup [x,y,z])∧(∀ xs,SqL K H a xs→xs[i]?=some x)∧(∀ ys,SqL K H b ys→ys[i]?=some y)∧∀ zs,SqL K H c zs→zs[i]?=some z,
  fun i H=>∃ xs,SqL K H a xs∧xs.length≤i⟩
theorem turn_zip3 {P:Program} {w:World} {K:PySem.W.Frag} {elts:List Expr} {k1:Nat} {tp:Pos} (n a b c:Nat) (b1:a<n) (b2:b<n) (b3:c<n) :
  Turn P w K (.Tuple elts k1 tp) (Itz K a b c) [n+5,n+3,n+4,n,n+1,n+2] (n+5) (fun i h=>IsZip h (n+5) (n+3) (n+4) .none∧Zp.Trip h (n+3) (.ref n) (.ref (n+1)) (.ref (n+2))∧(∃ u v x,Zp.Trip h (n+4) u v x)∧h.IsListIter n a i∧h.IsListIter (n+1) b i∧h.IsListIter (n+2) c i) where
 mem:=by simp
 obj:=fun i h st q hq=>by
  obtain ⟨h1,h2,⟨_,_,_,h3⟩,⟨o4,h4,_,d4⟩,⟨o5,h5,_,d5⟩,⟨o6,h6,_,d6⟩⟩:=st
  simp only [List.mem_cons,List.not_mem_nil,or_false] at hq
  rcases hq with rfl | rfl | rfl | rfl | rfl | rfl
  ·exact ⟨_,h1,fun v z=>by cases z⟩
  ·exact ⟨_,h2,fun v z=>by cases z⟩
  ·exact ⟨_,h3,fun v z=>by cases z⟩
  ·exact ⟨o4,h4,fun v z=>by rw [d4] at z; cases z⟩
  ·exact ⟨o5,h5,fun v z=>by rw [d5] at z; cases z⟩
  ·exact ⟨o6,h6,fun v z=>by rw [d6] at z; cases z⟩
 keep:=fun i h h' st k=>by
  obtain ⟨h1,h2,⟨u,v,x,h3⟩,h4,h5,h6⟩:=st
  exact ⟨k _ (by simp) _ h1,k _ (by simp) _ h2,⟨u,v,x,k _ (by simp) _ h3⟩,h4.at fun o q=>k _ (by simp) o q,h5.at fun o q=>k _ (by simp) o q,h6.at fun o q=>k _ (by simp) o q⟩
 item:=by
  intro X hP hw hK hc i pins s σ H E I hf st hg
  subst hP hw hK
  obtain ⟨h1,h2,⟨u,v,w',h3⟩,h4,h5,h6⟩:=st
  obtain ⟨xs,ys,zs,x,y,z,qa,qb,qc,ex,ey,ez⟩:=hg
  obtain ⟨itx,rx,px,_⟩:=I.list qa
  obtain ⟨ity,ry,py,_⟩:=I.list qb
  obtain ⟨itz,rz,pz,_⟩:=I.list qc
  obtain ⟨ux,gx,rvx⟩:=rx.get ex
  obtain ⟨uy,gy,rvy⟩:=ry.get ey
  obtain ⟨uz,gz,rvz⟩:=rz.get ez
  refine Zp.pyNext3 b1 b2 b3 h1 h2 h3 h4 h5 h6 px.isList py.isList pz.isList (x:=ux) (y:=uy) (v:=uz) (by simpa using gx) (by simpa using gy) (by simpa using gz) fun k1 a1 a2 a3 a4 a5 a6 a7=>⟨_,rfl,?_⟩
  refine wpAny_letOwnedTupleGo_zip a1 fun k2 z2 t2=>?_
  have lt5:(n+5:Nat)<s.heap.objs.size:=Heap.lt_size h1
  have kp2:∀ q o,q∉[n+5,n+4,n,n+1,n+2]→s.heap.get? q=some o→k2.get? q=some o:=fun q o hq e=>by
   simp only [List.mem_cons,List.not_mem_nil,or_false,not_or] at hq
   exact t2.extBut _ _ hq.1 (a7 q o hq.1 hq.2.1 hq.2.2.1 hq.2.2.2.1 hq.2.2.2.2 e)
  have lt4:n+4<s.heap.objs.size:=Heap.lt_size h3
  have hfr:H s.heap.objs.size=none:=I.hok.fresh (Nat.le_refl _)
  have tup2:Zp.Trip k2 s.heap.objs.size ux uy uz:=t2.extBut _ _ (Zp.ap (by omega)) a6
  have sub:∀ q∈[n+5,n+4,n,n+1,n+2],q∈[n+5,n+3,n+4,n,n+1,n+2]:=fun q hq=>by
   simp only [List.mem_cons,List.not_mem_nil,or_false] at hq ⊢
   rcases hq with h | h | h | h | h <;> simp [h]
  have nt:∀ q o,H q=some o→q∉[n+5,n+4,n,n+1,n+2]:=fun q o e hq=>by
   have:=(hf q (sub q hq)).1
   rw [this] at e
   cases e
  have hok2:HOk X.prog X.w (upd H s.heap.objs.size (.tup [x,y,z])) k2:=fun q o e=>by
   by_cases hq:q=s.heap.objs.size
   ·subst hq
    rw [upd_same] at e
    cases e
    have l3:(3:Nat)≤sizeLine:=by rw [sizeLine_eq]; decide
    exact ⟨l3,[ux,uy,uz],.cons rvx (.cons rvy (.cons rvz .nil)),⟨_,tup2,rfl,_,rfl⟩⟩
   ·rw [upd_ne hq] at e
    refine (I.hok q o e).stay (fun c v hc z=>?_) (fun c z=>by rw [upd_ne (ne_of_none z hfr)]; exact z) fun c ys z=>by rw [upd_ne (ne_of_none z hfr)]; exact z
    rcases hc with hc | hc
    ·subst hc
     exact kp2 c v (nt c _ e) z
    ·exact kp2 c v (nt c _ hc) z
  have I2:Inv X pins σ (upd H s.heap.objs.size (.tup [x,y,z])) { s with heap:=k2,toks:=s.toks }:=by
   refine I.step (g':=s.gens) (d':=s.drawn) (t':=s.toks) (ch:=[n+5,n+4,n,n+1,n+2]) (fun b hb=>?_) (fun b o _ _ hc q _=>kp2 b o hc q)
    (fun b o _ _ hc q _=>⟨o.slots,kp2 b o hc q⟩) (fun b o _ q n=>by rw [upd_ne (Nat.ne_of_lt (Heap.lt_size q))]; exact n)
    (fun b o hc q=>⟨o,kp2 b o hc q⟩) (fun b ys q=>by rw [upd_ne (ne_of_none q hfr)]; exact q) (fun b o u q=>by rw [upd_ne (ne_of_none q hfr)]; exact q)
    (fun b ps q=>⟨#[],by rw [upd_ne (ne_of_none q hfr),q]; simp⟩) (fun m hm=>?_) hok2 I.bare
   ·have fb:=hf b (sub b hb)
    exact ⟨fb.2.2.2.1,fb.2.1,fb.2.2.2.2.1,fb.2.2.2.2.2⟩
   ·obtain ⟨o,es,ep,ho,r⟩:=hm
    exact ⟨o,es,ep,kp2 _ o (fun hq=>(hf _ (sub _ hq)).2.1 rfl) ho,r⟩
  refine ⟨.ref s.heap.objs.size,_,I2,rfl,⟨_,x,y,z,hfr,rfl,rfl,fun l hl=>by rw [I.list_inj hl qa]; exact ex,fun l hl=>by rw [I.list_inj hl qb]; exact ey,fun l hl=>by rw [I.list_inj hl qc]; exact ez⟩,
   ⟨z2,t2.extBut _ _ (Zp.ap (by omega)) (a7 _ _ (Zp.ap (by omega)) (Zp.ap (by omega)) (Zp.ap (by omega)) (Zp.ap (by omega)) (Zp.ap (by omega)) h2),⟨_,_,_,t2.extBut _ _ (Zp.ap (by omega)) a2⟩,a3.at fun o e=>t2.extBut _ o (Zp.ap (by omega)) e,a4.at fun o e=>t2.extBut _ o (Zp.ap (by omega)) e,a5.at fun o e=>t2.extBut _ o (Zp.ap (by omega)) e⟩,fun q hq=>?_⟩
  have h0:=(hf q hq).1
  have lq:q<s.heap.objs.size:=by
   simp only [List.mem_cons,List.not_mem_nil,or_false] at hq
   rcases hq with rfl | rfl | rfl | rfl | rfl | rfl
   ·exact lt5
   ·exact Nat.lt_of_le_of_lt (show n+3≤n+5 by omega) lt5
   ·exact Nat.lt_of_le_of_lt (show n+4≤n+5 by omega) lt5
   ·exact Nat.lt_of_le_of_lt (show q≤q+5 by exact Nat.le_add_right _ _) lt5
   ·exact Nat.lt_of_le_of_lt (show n+1≤n+5 by omega) lt5
   ·exact Nat.lt_of_le_of_lt (show n+2≤n+5 by omega) lt5
  rw [upd_ne (Nat.ne_of_lt lq)]
  exact h0
 done:=by
  intro X hP hw hK hc i pins s σ H E I hf st hg
  subst hP hw hK
  obtain ⟨h1,h2,_,h4,_,_⟩:=st
  obtain ⟨xs,qa,ex⟩:=hg
  obtain ⟨itx,rx,px,_⟩:=I.list qa
  have hl:=rx.length
  have f5:=hf (n+5) (by simp)
  have f0:=hf n (by simp)
  refine Zp.end3 (I.ok.hd hc) b1 h1 h2 h4 px.isList (by simp; omega) fun h' kp=>⟨rfl,?_⟩
  have kp2:∀ q o,q∉[n+5,n]→s.heap.get? q=some o→h'.get? q=some o:=fun q o hq e=>by
   simp only [List.mem_cons,List.not_mem_nil,or_false,not_or] at hq
   exact kp q o hq.1 hq.2 e
  have nt:∀ q o,H q=some o→q∉[n+5,n]:=fun q o e hq=>by
   simp only [List.mem_cons,List.not_mem_nil,or_false] at hq
   rcases hq with rfl | rfl
   ·rw [f5.1] at e; cases e
   ·rw [f0.1] at e; cases e
  refine I.step (g':=s.gens) (d':=s.drawn) (t':=s.toks) (ch:=[n+5,n]) (fun b hb=>?_) (fun b o _ _ hc q _=>kp2 b o hc q) (fun b o _ _ hc q _=>⟨o.slots,kp2 b o hc q⟩) (fun _ _ _ _ z=>z)
   (fun b o hc q=>⟨o,kp2 b o hc q⟩) (fun _ _ e=>e) (fun _ _ _ e=>e) (fun b ps e=>⟨#[],by rw [e]; simp⟩) (fun m hm=>?_) (fun q o e=>?_) I.bare
  ·simp only [List.mem_cons,List.not_mem_nil,or_false] at hb
   rcases hb with rfl | rfl
   ·exact ⟨f5.2.2.2.1,f5.2.1,f5.2.2.2.2.1,f5.2.2.2.2.2⟩
   ·exact ⟨f0.2.2.2.1,f0.2.1,f0.2.2.2.2.1,f0.2.2.2.2.2⟩
  ·obtain ⟨o,es,ep,ho,r⟩:=hm
   exact ⟨o,es,ep,kp2 _ o (fun hq=>by
    simp only [List.mem_cons,List.not_mem_nil,or_false] at hq
    rcases hq with h | h
    ·exact f5.2.1 h.symm
    ·exact f0.2.1 h.symm) ho,r⟩
  ·refine (I.hok q o e).stay (fun c v hc z=>?_) (fun _ z=>z) fun _ _ z=>z
   rcases hc with hc | hc
   ·subst hc
    exact kp2 c v (nt c _ e) z
   ·exact kp2 c v (nt c _ hc) z
 self:=fun A i s Q E st h=>wpAny_pyIter_zip st.1 h
section
variable {X:Cx}
def iZip3 (K:PySem.W.Frag) (ta:TA):TI:=fun σ H R=>ta σ H fun vs H1=>∃ a b c,vs=[.ref a,.ref b,.ref c]∧(∃ xs,SqL K H1 a xs)∧(∃ xs,SqL K H1 b xs)∧(∃ xs,SqL K H1 c xs)∧R (Itz K a b c) H1
theorem pi_zip3 {elts:List Expr} {k1:Nat} {tp:Pos} {e1 e2 e3:Expr} {ta:TA} {p pos:Pos} (hg:Gl X "zip") (hm:X.mg "zip"=none) (ha:PA X [e1,e2,e3] ta)
  (hs:starEach (e1::[e2,e3]) X.env=(false,eval e1 X.env)::starEach [e2,e3] X.env:=by rfl) (hpl:(backTo pos (starEach [e2,e3] X.env)).any (·.1)=false:=by rfl) :
  PI X (.Tuple elts k1 tp) (.Call (.Name "zip" p) [e1,e2,e3] [] pos) (iZip3 X.K ta):=by
 intro pins s σ H R I h
 refine Call_ (ld_blt I hg hm boot_zip (PyProof.Rows.callWith_type1 (thn (ha pos pins s σ H _ I h) fun us s1 ⟨vs,H1,I1,r1,q1⟩=>?_) hs hpl))
 obtain ⟨a,b,c,e,⟨xs,qa⟩,⟨ys,qb⟩,⟨zs,qc⟩,q⟩:=q1
 subst e
 cases r1 with
 | cons ra r1 =>
 cases r1 with
 | cons rb r1 =>
 cases r1 with
 | cons rc r1 =>
 cases r1
 cases ra
 cases rb
 cases rc
 obtain ⟨itx,rx,px,_⟩:=I1.list qa
 obtain ⟨ity,ry,py,_⟩:=I1.list qb
 obtain ⟨itz,rz,pz,_⟩:=I1.list qc
 have ba:a<s1.heap.objs.size:=by obtain ⟨_,e,_⟩:=px.isList; exact Heap.lt_size e
 have bb:b<s1.heap.objs.size:=by obtain ⟨_,e,_⟩:=py.isList; exact Heap.lt_size e
 have bc:c<s1.heap.objs.size:=by obtain ⟨_,e,_⟩:=pz.isList; exact Heap.lt_size e
 refine Zp.call_zip3 px.isList py.isList pz.isList fun h' z1 z2 z3 z4 z5 z6 kp=>?_
 refine wpAny_pyIter_zip z1 ?_
 have I2:Inv X pins σ H1 { s1 with heap:=h' }:=I1.kept (t':=s1.toks) kp
 refine ⟨s1.heap.objs.size+5,_,_,_,H1,rfl,I2,turn_zip3 s1.heap.objs.size a b c ba bb bc,⟨z1,z2,⟨_,_,_,z3⟩,z4,z5,z6⟩,fun q hq=>?_,q⟩
 have:s1.heap.objs.size≤q:=by
  simp only [List.mem_cons,List.not_mem_nil,or_false] at hq
  rcases hq with rfl | rfl | rfl | rfl | rfl | rfl
  ·exact Nat.le_add_right _ _
  ·exact Nat.le_add_right _ _
  ·exact Nat.le_add_right _ _
  ·exact Nat.le_refl _
  ·exact Nat.le_add_right _ _
  ·exact Nat.le_add_right _ _
 exact I1.fpOk this (I1.hok.fresh this)
end
theorem for_zip3 {K:PySem.W.Frag} {a b c:Addr} {xs ys zs:List V} {g:TG} {tb:TS} {D:Ends} {σ:St} {H:Hp} (Pv:Nat→St→Hp→Prop) (h0:Pv 0 σ H) (hl:∀ i σ H,Pv i σ H→SqL K H a xs∧SqL K H b ys∧SqL K H c zs) (ly:xs.length≤ys.length) (lz:xs.length≤zs.length)
  (hs:∀ i x y z t σ H,xs[i]?=some x→ys[i]?=some y→zs[i]?=some z→H t=none→Pv i σ H→g (.ref t) σ (upd H t (.tup [x,y,z])) fun σ2 H2=>tb { D with nx:=Pv (i+1),ct:=Pv (i+1),bk:=D.nx } σ2 H2) (hd:∀ σ H,Pv xs.length σ H→D.nx σ H) :
  ∃ W:Nat→Nat→St→Hp→Prop,(∃ m,W 0 m σ H)∧∀ i m σ H,W i m σ H →
   ((Itz K a b c).stop i H∧D.nx σ H)∨((Itz K a b c).go i H∧∃ N:St→Hp→Prop,(∀ σ' H',N σ' H'→∃ m',m'<m∧W (i+1) m' σ' H')∧∀ x H',(Itz K a b c).yld i H x H'→g x σ H' fun σ2 H2=>tb { D with nx:=N,ct:=N,bk:=D.nx } σ2 H2):=by
 refine ⟨fun i m σ H=>m=xs.length - i∧i≤xs.length∧Pv i σ H,⟨xs.length,by simp,Nat.zero_le _,h0⟩,?_⟩
 rintro i m σ H ⟨rfl,hi,p⟩
 obtain ⟨qa,qb,qc⟩:=hl i σ H p
 by_cases hlt:i<xs.length
 ·refine .inr ⟨⟨xs,ys,zs,_,_,_,qa,qb,qc,List.getElem?_eq_getElem hlt,List.getElem?_eq_getElem (by omega),List.getElem?_eq_getElem (by omega)⟩,Pv (i+1),fun σ' H' p'=>⟨xs.length - (i+1),by omega,rfl,hlt,p'⟩,fun v H' y=>?_⟩
  obtain ⟨t,x,y,z,ht,rfl,rfl,f1,f2,f3⟩:=y
  exact hs i x y z t σ _ (f1 xs qa) (f2 ys qb) (f3 zs qc) ht p
 ·have e:i=xs.length:=by omega
  subst e
  exact .inl ⟨⟨xs,qa,Nat.le_refl _⟩,hd σ H p⟩
end L2
set_option maxHeartbeats 4000000
namespace L2
open PySem PySem.Spec PyProof.Rows
def LCG2 (K:PySem.W.Frag) (J:It) (l:Addr) (σ':St) (tt:TT) (te:TE) (Q:VK) (H1:Hp):Prop:=∃ W:Nat→Nat→Hp→Prop,(∃ m,W 0 m (upd H1 l (.lst [])))∧∀ i m H2,W i m H2 →
 (J.stop i H2∧Q (.ref l) H2)∨(J.go i H2∧∀ x H3,J.yld i H2 x H3→∃ ta y1 y2,x=.ref ta∧SqT K H3 ta [y1,y2]∧tt (some y1::some y2::σ') H3 fun b H4=>if b=true then te (some y1::some y2::σ') H4 fun y H5=>∃ ys m',H5 l=some (.lst ys)∧ys.length<sizeLine∧m'<m∧W (i+1) m' (upd H5 l (.lst (ys++[y])))
  else ∃ m',m'<m∧W (i+1) m' H4)
def tLC2 (K:PySem.W.Frag) (cap:List Nat) (wi:TI) (tt:TT) (te:TE):TE:=fun σ H Q=>wi σ H fun J H1=>∀ l,H1 l=none→LCG2 K J l (capV σ cap) tt te Q H1
section
variable {prog:Program} {w:World} {A:Around} {R:Result→Shared→Prop} {s:Shared}
theorem comp_loop_go {elt target iter:Expr} {ifs:List Expr} {scope:Scope} {pos:Pos} {it acc:Value} {env:Env} (J:Nat→Shared→Prop)
  (turn:∀ n s,J n s→wpAny (model prog w) A (pyNext it) (fun r s₁=>match r with
   | none=>R (.ok .next) s₁
   | some v=>wpAny (model prog w) A (letOwnedTupleGo target it v) (fun _ s₀=>wpAny (model prog w) A (assign target env v) (fun _ s₂ =>
     wpAny (model prog w) A (forIn ifs true fun c r=>if r=true then do let ok ← isTrue c env (eval c env); pure (ForInStep.yield ok) else pure (ForInStep.yield r)) (fun ok s₃ =>
      if ok=true then wpAny (model prog w) A (eval elt env) (fun x s₄=>wpAny (model prog w) A (call (.builtin "list.append") [acc,x]) (fun _ s₅=>∃ m,m<n∧J m s₅) (notedBy (model prog w) A env fun e s'=>R (.error e) s') s₄) (notedBy (model prog w) A env fun e s'=>R (.error e) s') s₃
      else ∃ m,m<n∧J m s₃) (notedBy (model prog w) A env fun e s'=>R (.error e) s') s₂) (notedBy (model prog w) A env fun e s'=>R (.error e) s') s₀) (notedBy (model prog w) A env fun e s'=>R (.error e) s') s₁) (notedBy (model prog w) A env fun e s'=>R (.error e) s') s)
  (n:Nat) (h:J n s):codeAny (model prog w) A (.compLoop (.ListComp elt [⟨target,iter,ifs,0⟩] scope pos) 0 it acc env) R s:=by
 refine codeAny_loop rfl J (fun n s hJ=>?_) n h
 show wpAny _ A ((compTurn (.ListComp elt [⟨target,iter,ifs,0⟩] scope pos) 0 it acc env).onRaise (fun x=>do { noteFrame x env; theTreesLotGoes x })) _ _ s
 refine wpAny_noted ?_
 rw [compTurn_list]
 refine wpAny_bind (wpAny_standAt (wpAny_bind (wpAny_mono (turn n s hJ) (fun r s₁ h₁=>?_) fun _ _ z=>z)))
 cases r with
 | none=>exact wpAny_pure h₁
 | some v =>
  refine wpAny_bind (wpAny_mono h₁ (fun _ s₀ h₀=>wpAny_bind (wpAny_mono h₀ (fun _ s₂ h₂=>wpAny_bind (wpAny_mono h₂ (fun ok s₃ h₃=>?_) fun _ _ z=>z)) fun _ _ z=>z)) fun _ _ z=>z)
  cases ok with
  | false=>exact wpAny_pure ⟨rfl,h₃⟩
  | true=>exact wpAny_bind (wpAny_bind (wpAny_mono h₃ (fun x s₄ h₄=>wpAny_bind (wpAny_mono h₄ (fun _ s₅ h₅=>wpAny_pure (wpAny_pure ⟨rfl,h₅⟩)) fun _ _ z=>z)) fun _ _ z=>z))
end
section
variable {X:Cx}
theorem inv_comp2 {pins:List (Addr×Obj)} {σ:St} {H:Hp} {s:Shared} {scope:Scope} {cl:List (Str×Addr)} {x x2:Str} {cap:List Nat} {caps:List Str} {fp:List Addr} {h':Heap} {t':Nat} (I:Inv X pins σ H s) (ok:(X.comp scope cl (x::x2::caps) s H fp).Ok)
  (ca:∀ y c,cl.lookup y=some c→X.env.cells.lookup y=some c) (cb:∀ y,(y,NameKind.free)∈scope.names→∃ c,cl.lookup y=some c) (hcell:∀ y∈scope.names,y.2≠.cell)
  (hcap:cap.map (fun k=>X.N[k]?)=caps.map some) (hvis:∀ y∈caps,((relabel scope X.env).names.lookup y=some .cell∨(relabel scope X.env).names.lookup y=some .free)∧(X.env.kindOf y=some .cell∨X.env.kindOf y=some .free))
  (hn:h'.Ns s.heap.objs.size fun _=>none) (kp:∀ b o,s.heap.get? b=some o→h'.get? b=some o):Inv (X.comp scope cl (x::x2::caps) s H fp) [] (none::none::capV σ cap) H { s with heap:=h',toks:=t' }:=by
 have hlen:cap.length=caps.length:=by
  have:=congrArg List.length hcap
  simpa using this
 refine ⟨ok,rfl,I.bare,Un.kept kp,⟨_,hn,fun i y v h1 h2 h3=>?_⟩,fun y c h=>?_,I.hok.fresh (Nat.le_refl _),fun y c h=>I.freeC y c (ca y c h),fun p hp=>absurd (show p∈([]:List (Addr×Obj)) from hp) (by simp),I.hok.kept kp,?_⟩
 ·cases i with
  | zero=>exact absurd h2 (by simp)
  | succ j0 =>
   cases j0 with
   | zero=>exact absurd h2 (by simp)
   | succ j =>
   have h1':caps[j]?=some y:=h1
   have h2':(capV σ cap)[j]?=some (some v):=h2
   unfold capV at h2'
   rw [List.getElem?_map] at h2'
   cases hk:cap[j]? with
   | none=>rw [hk] at h2'; cases h2'
   | some k =>
    rw [hk] at h2'
    have h2'':(σ[k]?).join=some v:=by simpa using h2'
    have hN:X.N[k]?=some y:=by
     have:=congrArg (fun l=>l[j]?) hcap
     simp only [List.getElem?_map,hk,h1',Option.map_some] at this
     exact Option.some.inj this
    have hσ:σ[k]?=some (some v):=by
     cases e:σ[k]? with
     | none=>rw [e] at h2''; cases h2''
     | some o=>rw [e] at h2''; exact congrArg some h2''
    obtain ⟨hv1,hv2⟩:=hvis y (List.mem_of_getElem? h1')
    obtain ⟨m,_,hl⟩:=I.loc
    obtain ⟨u,r,l⟩:=hl k y v hN hσ (by
     rcases hv2 with z | z
     ·exact .inr (.inl z)
     ·exact .inr (.inr z))
    refine ⟨u,r,?_⟩
    obtain ⟨c,hc⟩:=cb y (relabel_free hcell hv1)
    rcases l with ⟨z,_⟩ | ⟨_,c',hc',hcl⟩
    ·rcases hv2 with q | q <;> (rw [z] at q; cases q)
    ·have e:=ca y c hc
     rw [hc'] at e
     have e2:c'=c:=Option.some.inj e
     rw [e2] at hcl
     obtain ⟨o,ho,hd⟩:=hcl
     exact .inr ⟨hv1,c,hc,o,kp _ _ ho,hd⟩
 ·obtain ⟨v,o,ho,hd⟩:=I.cell y c (ca y c h)
  exact ⟨v,o,kp _ _ ho,hd⟩
 ·show (none::none::capV σ cap).length=(x::x2::caps).length
  simp [capV,hlen]
theorem pe_lcomp2 {elt iter:Expr} {x x2:Str} {px px2 pt:Pos} {kt:Nat} {ifs:List Expr} {scope:Scope} {pos:Pos} {cap:List Nat} {caps:List Str} {wi:TI} {tt:TT} {te:TE} (hc:X.calm=true) (hi:PI X (.Tuple [.Name x px,.Name x2 px2] kt pt) iter wi) (hkind:scope.kind=.function)
  (hnames:∀ y∈scope.names,y.2=.local→scope.names.lookup y.1=some .local) (hcell:∀ y∈scope.names,y.2≠.cell) (hx:scope.names.lookup x=some .local) (hx2:scope.names.lookup x2=some .local)
  (hfree:∀ y∈scope.names,y.2=.free→X.env.kindOf y.1=some .cell∨X.env.kindOf y.1=some .free) (hcap:cap.map (fun k=>X.N[k]?)=caps.map some)
  (hvis:∀ y∈caps,((relabel scope X.env).names.lookup y=some .cell∨(relabel scope X.env).names.lookup y=some .free)∧(X.env.kindOf y=some .cell∨X.env.kindOf y=some .free)) (nd:(x::x2::caps).Nodup)
  (body:∀ cl s₃ H₃ fp,PIfs (X.comp scope cl (x::x2::caps) s₃ H₃ fp) ifs tt∧PE (X.comp scope cl (x::x2::caps) s₃ H₃ fp) elt te) (hs:∀ v,foldedSetIterable iter X.env v=pure v:=by intro _; rfl) :
  PE X (.ListComp elt [⟨.Tuple [.Name x px,.Name x2 px2] kt pt,iter,ifs,0⟩] scope pos) (tLC2 X.K cap wi tt te):=by
 intro pins s σ H Q I h
 rw [eval_ListComp]
 obtain ⟨cl,hcl,ca,cb⟩:=clos_of (scope:=scope) (env:=X.env) fun y hy hf=>I.ok.has y.1 (hfree y hy hf)
 refine wpAny_comprehension_free (use:=none) rfl hs hcl hkind hnames (thn (hi pins s σ H _ I h) fun v s1 h1=>thn h1 fun itv s2 h2=>?_)
 obtain ⟨it,fp,tn,J,H2,e,I2,T,st2,f2,rest⟩:=h2
 subst e
 have hfr:H2 s2.heap.objs.size=none:=I2.hok.fresh (Nat.le_refl _)
 obtain ⟨W,⟨m0,w0⟩,turn⟩:=rest s2.heap.objs.size hfr
 refine wpAny_newObj_type (wpAny_newFunctionEnv hcell (by intro y hy; simp at hy) (fun h4 hn4 hs4=>?_) hkind)
 dsimp only at hn4 hs4 ⊢
 have I3:Inv X pins σ (upd H2 s2.heap.objs.size (.lst [])) { s2 with heap:=s2.heap.push { cls:=.type "list",dict:=none,data:=.seq ([]:List Value).toArray } } :=
  I2.laid (t':=s2.toks) (o:=.lst []) (fun b o e=>Heap.get?_push_of_some _ e) (Nat.le_refl _) ⟨Nat.zero_le _,[],0,.nil,Heap.get?_push_size _ rfl⟩
 generalize hs3:({ s2 with heap:=s2.heap.push { cls:=.type "list",dict:=none,data:=.seq ([]:List Value).toArray } }:Shared)=s3 at I3
 have hz3:s3.heap=s2.heap.push { cls:=.type "list",dict:=none,data:=.seq ([]:List Value).toArray }:=by rw [← hs3]
 rw [← hz3] at hn4 hs4 ⊢
 have kp3:∀ b o,s3.heap.get? b=some o→h4.get? b=some o:=fun b o e=>hs4.extBut b o (Nat.ne_of_lt (Heap.lt_size e)) (Heap.get?_push_of_some _ e)
 have lt2:∀ b∈fp,b<s2.heap.objs.size:=fun b hb=>let ⟨o,e,_⟩:=T.obj 0 _ st2 b hb; Heap.lt_size e
 have hz:s3.heap.objs.size=s2.heap.objs.size+1:=by rw [hz3,Heap.size_push]
 have lt3:∀ b∈fp,b<s3.heap.objs.size:=fun b hb=>by rw [hz]; exact Nat.lt_succ_of_lt (lt2 b hb)
 have f3:∀ b∈fp,FpOk X pins (upd H2 s2.heap.objs.size (.lst [])) b:=fun b hb=>⟨by rw [upd_ne (Nat.ne_of_lt (lt2 b hb))]; exact (f2 b hb).1,(f2 b hb).2⟩
 have ok':(X.comp scope cl (x::x2::caps) s3 (upd H2 s2.heap.objs.size (.lst [])) fp).Ok:=comp_ok I3 f3 lt3 hkind hcell ca cb
 have I4:Inv (X.comp scope cl (x::x2::caps) s3 (upd H2 s2.heap.objs.size (.lst [])) fp) [] (none::none::capV σ cap) (upd H2 s2.heap.objs.size (.lst [])) { s3 with heap:=h4,toks:=s2.toks+([]:List (Str×Value)).length } :=
  inv_comp2 I3 ok' ca cb hcell hcap hvis hn4 kp3
 have st4:tn 0 h4:=T.keep _ _ _ st2 fun b hb o e=>kp3 b o (by rw [hz3]; exact Heap.get?_push_of_some _ e)
 obtain ⟨bI,bE⟩:=body cl s3 (upd H2 s2.heap.objs.size (.lst [])) fp
 have stat:∀ {H':Hp},(∀ b∈fp,H' b=none)→∀ b∈fp,FpOk (X.comp scope cl (x::x2::caps) s3 (upd H2 s2.heap.objs.size (.lst [])) fp) [] H' b:=fun {H'} hn b hb =>
  ⟨hn b hb,Nat.ne_of_lt (lt3 b hb),ok'.exfs b hb,.inl hb,fun y c hy=>(f2 b hb).2.2.2.2.1 y c (ca y c hy),fun p hp=>absurd (show p∈([]:List (Addr×Obj)) from hp) (by simp)⟩
 have es:({ s2 with heap:=h4,toks:=s2.toks+([]:List (Str×Value)).length }:Shared)={ s3 with heap:=h4,toks:=s2.toks+([]:List (Str×Value)).length }:=by rw [← hs3]
 rw [es]
 have fin:∀ {σ':St} {H':Hp} {s':Shared},Inv (X.comp scope cl (x::x2::caps) s3 (upd H2 s2.heap.objs.size (.lst [])) fp) [] σ' H' s'→Q (.ref s2.heap.objs.size) H' →
   compPost (model X.prog X.w) X.A X.xe none (EP X pins σ Q) (.ref s2.heap.objs.size) s3.heap.objs.size (.ok .next) s':=fun {σ' H' s'} J' q=>by
  obtain ⟨m,hn,_⟩:=J'.loc
  refine ⟨m,hn,fun h' sb=>?_⟩
  have IX:Inv X pins σ H' s':=I3.call' J'.os J'.base J'.hok J'.bare fun b hb=>⟨(f3 b hb).2.2.2.1,(f3 b hb).2.1,(f3 b hb).2.2.2.2.1,(f3 b hb).2.2.2.2.2⟩
  have fc:=I3.fpOk (Nat.le_refl _) (I3.hok.fresh (Nat.le_refl _))
  exact ⟨.ref s2.heap.objs.size,H',IX.turned (t':=s'.toks) (fun b o hb e=>sb.extBut b o hb e) J'.free fc.2.1 fc.2.2.2.1 fc.2.2.2.2.1 fc.2.2.2.2.2,rfl,q⟩
 have loop:codeAny (model X.prog X.w) X.A (.compLoop (.ListComp elt [⟨.Tuple [.Name x px,.Name x2 px2] kt pt,iter,ifs,0⟩] scope pos) 0 (.ref it) (.ref s2.heap.objs.size) (compEnvC scope cl s3.heap.objs.size X.env))
   (compPost (model X.prog X.w) X.A X.xe none (EP X pins σ Q) (.ref s2.heap.objs.size) s3.heap.objs.size) { s3 with heap:=h4,toks:=s2.toks+([]:List (Str×Value)).length }:=by
  refine comp_loop_go (fun n s'=>∃ i o o2 H',Inv (X.comp scope cl (x::x2::caps) s3 (upd H2 s2.heap.objs.size (.lst [])) fp) [] (o::o2::capV σ cap) H' s'∧tn i s'.heap∧(∀ b∈fp,H' b=none)∧W i n H') ?_ m0
   ⟨0,none,none,_,I4,st4,fun b hb=>(f3 b hb).1,w0⟩
  rintro n s5 ⟨i,o,o2,H5,I5,st5,fr5,w5⟩
  rcases turn i n H5 w5 with ⟨stop,qn⟩ | ⟨go,step⟩
  ·refine thn (T.done (X.comp scope cl (x::x2::caps) s3 (upd H2 s2.heap.objs.size (.lst [])) fp) rfl rfl rfl hc i [] s5 _ H5 _ I5 (stat fr5) st5 stop) fun r s6 ⟨hr,I6⟩=>?_
   subst hr
   exact fin I6 qn
  ·refine thn (T.item (X.comp scope cl (x::x2::caps) s3 (upd H2 s2.heap.objs.size (.lst [])) fp) rfl rfl rfl hc i [] s5 _ H5 _ I5 (stat fr5) st5 go) fun r s6 ⟨u,hr,h6⟩=>?_
   subst hr
   dsimp only
   refine thn h6 fun _ s7 ⟨y,H7,I7,r7,y7,st7,fr7⟩=>?_
   have I7':=I7.pinned (stat fr7) (T.obj _ _ st7)
   obtain ⟨ta,y1,y2,ey,hty,step⟩:=step y H7 y7
   subst ey
   have pg1:=pg_name (X:=X.comp scope cl (x::x2::caps) s3 (upd H2 s2.heap.objs.size (.lst [])) fp) (i:=0) (x:=x) (pos:=px) nd rfl (.inl (lookup_relabel_local hx)) (.inr (lookup_relabel_local hx))
   have pg2:=pg_name (X:=X.comp scope cl (x::x2::caps) s3 (upd H2 s2.heap.objs.size (.lst [])) fp) (i:=1) (x:=x2) (pos:=px2) nd rfl (.inl (lookup_relabel_local hx2)) (.inr (lookup_relabel_local hx2))
   have pg:=pg_tup (X:=X.comp scope cl (x::x2::caps) s3 (upd H2 s2.heap.objs.size (.lst [])) fp) (pos:=pt) (k:=kt) hc (pgs_cons pg1 (pgs_cons pg2 pgs_nil))
   refine wpAny_mono (pg _ s7 _ H7 (.ref ta) u (fun σ' H'=>σ'=some y1::some y2::capV σ cap∧H'=H7) I7' r7 ⟨ta,_,rfl,hty,rfl,y1,_,rfl,y2,_,rfl,rfl,rfl,rfl⟩) (fun _ s8 ⟨σ8,H8,I8,e8,e8'⟩=>?_) fun _ _ f=>f.elim
   subst e8 e8'
   have again:∀ {H9:Hp} {s9:Shared} {m':Nat},Inv (X.comp scope cl (x::x2::caps) s3 (upd H2 s2.heap.objs.size (.lst [])) fp) ([]++pinsAt fp s7.heap) (some y1::some y2::capV σ cap) H9 s9→m'<n→W (i+1) m' H9 →
     ∃ m,m<n∧∃ i o o2 H',Inv (X.comp scope cl (x::x2::caps) s3 (upd H2 s2.heap.objs.size (.lst [])) fp) [] (o::o2::capV σ cap) H' s9∧tn i s9.heap∧(∀ b∈fp,H' b=none)∧W i m H':=fun {H9 s9 m'} I9 hm w9=>by
    have pin9:=fun b hb o e=>I9.pin (b,o) (List.mem_append_right _ (List.mem_append_right _ (mem_pinsAt hb e)))
    refine ⟨m',hm,i+1,some y1,some y2,H9,I9.unpinned,T.keep _ _ _ st7 fun b hb o e=>(pin9 b hb o e).1,fun b hb=>?_,w9⟩
    obtain ⟨o,e,d⟩:=T.obj _ _ st7 b hb
    exact (pin9 b hb o e).2.1
   refine wpAny_mono (bI _ s8 _ H8 _ I8 step) (fun ok s9 ⟨H9,I9,q9⟩=>?_) fun _ _ f=>f.elim
   cases ok with
   | false =>
    rw [if_neg Bool.false_ne_true] at q9 ⊢
    obtain ⟨m',hm,w9⟩:=q9
    exact again I9 hm w9
   | true =>
    rw [if_pos rfl] at q9 ⊢
    refine wpAny_mono (bE _ s9 _ H9 _ I9 q9) (fun z s10 ⟨v10,H10,I10,r10,ys,m',hl,hsz,hm,w10⟩=>?_) fun _ _ f=>f.elim
    refine wpAny_mono (mt_append (X:=X.comp scope cl (x::x2::caps) s3 (upd H2 s2.heap.objs.size (.lst [])) fp) _ s10 _ H10 (.ref s2.heap.objs.size) [v10] (.ref s2.heap.objs.size) [z] (fun _ H'=>H'=upd H10 s2.heap.objs.size (.lst (ys++[v10]))) I10 rfl (.cons r10 .nil) ⟨_,ys,v10,rfl,rfl,hl,hsz,rfl⟩) (fun _ s11 ⟨_,H11,I11,_,e11⟩=>?_) fun _ _ f=>f.elim
    subst e11
    exact again I11 hm w10
 refine codeAny_compStart_list loop (T.self _ 0 _ _ _ st4 loop)
end
theorem lc2_list {K:PySem.W.Frag} {a:Addr} {ts:List Addr} {l:Addr} {H1:Hp} {te:TE} {σ':St} {Q:VK} {ps:List (V×V)} (Rv:Nat→V→Hp→Prop) (st:∀ i v H H',Rv i v H→(∀ b o,b≠l→H b=some o→H' b=some o)→Rv i v H') (hn:ts.length≤1000) (hl:H1 l=none)
  (ha:SqL K H1 a (ts.map V.ref)) (hlen:ts.length=ps.length) (ht:∀ (i:Nat) (t:Addr) (p:V×V),ts[i]?=some t→ps[i]?=some p→SqT K H1 t [p.1,p.2])
  (he:∀ (i:Nat) (p:V×V) ys H2 (R:VK),ps[i]?=some p→Same H1 H2→H2 l=some (.lst ys)→(∀ v H3,Same H2 H3→Rv i v H3→R v H3)→te (some p.1::some p.2::σ') H2 R)
  (hq:∀ vs H2,Same H1 H2→H2 l=some (.lst vs)→vs.length=ps.length→(∀ i v,vs[i]?=some v→Rv i v H2)→Q (.ref l) H2):LCG2 K (Itl K a) l σ' tAlw te Q H1:=by
 refine ⟨fun i m H2=>m=ts.length - i∧i≤ts.length∧Same H1 H2∧∃ vs,H2 l=some (.lst vs)∧vs.length=i∧∀ j v,vs[j]?=some v→Rv j v H2,⟨ts.length,by simp,Nat.zero_le _,fun b o e=>by rw [upd_ne (ne_of_none e hl)]; exact e,[],upd_same,rfl,fun j v z=>by simp at z⟩,?_⟩
 rintro i m H2 ⟨rfl,hi,s2,vs,h2,vl,hv⟩
 by_cases hlt:i<ts.length
 ·have et:(ts.map V.ref)[i]?=some (.ref ts[i]):=by rw [List.getElem?_map,List.getElem?_eq_getElem hlt]; rfl
  refine .inr ⟨⟨_,_,s2.seq ha,et⟩,fun x H3 y=>?_⟩
  obtain ⟨e,y⟩:=y
  subst e
  have ex:=y _ (s2.seq ha)
  rw [et] at ex
  obtain rfl:V.ref ts[i]=x:=Option.some.inj ex
  have ep:ps[i]?=some (ps[i]'(by omega)):=List.getElem?_eq_getElem (by omega)
  have tq:=ht i _ _ (List.getElem?_eq_getElem hlt) ep
  refine ⟨ts[i],_,_,rfl,s2.tup tq,?_⟩
  unfold tAlw
  dsimp only
  rw [if_pos rfl]
  refine he i _ vs _ _ ep s2 h2 fun v H4 s4 r4=>⟨vs,ts.length - (i+1),s4 _ _ h2,small1000 (by omega),by omega,rfl,hlt,fun b o e=>?_,vs++[v],upd_same,by simp [vl],fun j u hu=>?_⟩
  ·rw [upd_ne (ne_of_none e hl)]
   exact s4 _ _ (s2 _ _ e)
  ·have keep:∀ b o,b≠l→H4 b=some o→upd H4 l (.lst (vs++[v])) b=some o:=fun b o nb e=>by rw [upd_ne nb]; exact e
   by_cases hj:j<vs.length
   ·rw [List.getElem?_append_left hj] at hu
    exact st _ _ _ _ (st _ _ _ _ (hv j u hu) fun b o _ e=>s4 b o e) keep
   ·rw [List.getElem?_append_right (by omega)] at hu
    have ej:j - vs.length=0:=by
     cases hk:j - vs.length with
     | zero=>rfl
     | succ k=>rw [hk] at hu; simp at hu
    rw [ej] at hu
    have eu:v=u:=by simpa using hu
    subst eu
    have:j=i:=by omega
    subst this
    exact st _ _ _ _ r4 keep
 ·have e:i=ts.length:=by omega
  subst e
  exact .inl ⟨⟨_,s2.seq ha,by rw [List.length_map]; exact Nat.le_refl _⟩,hq vs H2 s2 h2 (by omega) hv⟩
end L2
namespace L2
open PySem PySem.Spec PyProof.Rows
theorem pe_fldK {X:Cx} {K:PySem.W.Frag} {e:Expr} {f:Str} {pos:Pos} {ta:TE} (h:X.K=K) (he:PE X e ta) (hb:attributeBase e f X.env (eval e X.env)=eval e X.env):PE X (.Attribute e f pos) (tFld K ta f):=by
 subst h
 exact pe_fld he hb
theorem keysOf:∀ {vs:List V} {G:Nat→Addr→Prop},(∀ i v,vs[i]?=some v→∃ a,v=.ref a∧G i a)→∃ as:List Addr,vs=as.map V.ref∧∀ i a,as[i]?=some a→G i a
 | [],G,_=>⟨[],rfl,fun i a z=>by simp at z⟩
 | v::vs,G,h=>by
  obtain ⟨a,e,g⟩:=h 0 v rfl
  obtain ⟨as,e2,g2⟩:=keysOf (vs:=vs) (G:=fun i a=>G (i+1) a) fun i u hu=>h (i+1) u hu
  subst e e2
  refine ⟨a::as,rfl,fun i b hb=>?_⟩
  cases i with
  | zero =>
   have:a=b:=by simpa using hb
   subst this
   exact g
  | succ i=>exact g2 i b hb
theorem lc_tup_if {K:PySem.W.Frag} {a:Addr} {xs:List V} {l:Addr} {H1:Hp} {tt:TT} {te:TE} {σ':St} {Q:VK} (p:V→Bool) (f:V→V) (hn:xs.length≤1000) (hl:H1 l=none) (hx:SqT K H1 a xs)
  (ht:∀ x H2 (R:Bool→Hp→Prop),x∈xs→Same H1 H2→(∀ H3,Same H2 H3→R (p x) H3)→tt (some x::σ') H2 R)
  (he:∀ x H2 (R:VK),x∈xs→p x=true→Same H1 H2→(∀ H3,Same H2 H3→R (f x) H3)→te (some x::σ') H2 R)
  (hq:∀ H2,Same H1 H2→H2 l=some (.lst ((xs.filter p).map f))→Q (.ref l) H2):LCG (Itt K a) l σ' tt te Q H1:=by
 refine ⟨fun i m H2=>m=xs.length - i∧i≤xs.length∧Same H1 H2∧H2 l=some (.lst (((xs.take i).filter p).map f)),⟨xs.length,by simp,Nat.zero_le _,fun b o e=>by rw [upd_ne (ne_of_none e hl)]; exact e,by rw [upd_same]; rfl⟩,?_⟩
 rintro i m H2 ⟨rfl,hi,s2,h2⟩
 by_cases hlt:i<xs.length
 ·refine .inr ⟨⟨xs,xs[i],s2.tup hx,by simp [hlt]⟩,fun x H3 y=>?_⟩
  obtain ⟨e,y⟩:=y
  subst e
  have hxi:=y xs (s2.tup hx)
  have hm:=List.mem_of_getElem? hxi
  have tk:xs.take (i+1)=xs.take i++[x]:=by
   rw [List.take_succ,hxi]
   rfl
  refine ht x _ _ hm s2 fun H4 s4=>?_
  have s14:Same H1 H4:=s2.trans s4
  cases q:p x with
  | false =>
   rw [if_neg Bool.false_ne_true]
   refine ⟨xs.length - (i+1),by omega,rfl,hlt,s14,?_⟩
   rw [tk,List.filter_append,List.filter_cons,q,List.filter_nil]
   simp only [Bool.false_eq_true,if_false,List.append_nil]
   exact s4 _ _ h2
  | true =>
   rw [if_pos rfl]
   refine he x _ _ hm q s14 fun H5 s5=>⟨_,xs.length - (i+1),s5 _ _ (s4 _ _ h2),?_,by omega,rfl,hlt,fun b o e=>?_,?_⟩
   ·rw [List.length_map]
    refine small1000 (Nat.le_trans (List.length_filter_le _ _) ?_)
    rw [List.length_take]
    omega
   ·rw [upd_ne (ne_of_none e hl)]
    exact s5 _ _ (s14 _ _ e)
   ·rw [upd_same,tk,List.filter_append,List.filter_cons,q,List.filter_nil,List.map_append]
    rfl
 ·have e:i=xs.length:=by omega
  subst e
  rw [List.take_length] at h2
  exact .inl ⟨⟨xs,s2.tup hx,Nat.le_refl _⟩,hq H2 s2 h2⟩
theorem lc_seq_if {K:PySem.W.Frag} {a:Addr} {xs:List V} {H1:Hp} {tt:TT} {te:TE} {σ':St} {Q:VK} (p:V→Bool) (f:V→V) (hn:xs.length≤1000) (hx:SqS K H1 a xs)
  (ht:∀ x H2 (R:Bool→Hp→Prop),x∈xs→Same H1 H2→(∀ H3,Same H2 H3→R (p x) H3)→tt (some x::σ') H2 R)
  (he:∀ x H2 (R:VK),x∈xs→p x=true→Same H1 H2→(∀ H3,Same H2 H3→R (f x) H3)→te (some x::σ') H2 R)
  (hq:∀ l H2,H1 l=none→Same H1 H2→H2 l=some (.lst ((xs.filter p).map f))→Q (.ref l) H2) :
  ((∃ ys,SqL K H1 a ys)∧∀ l,H1 l=none→LCG (Itl K a) l σ' tt te Q H1)∨((∃ ys,SqT K H1 a ys)∧∀ l,H1 l=none→LCG (Itt K a) l σ' tt te Q H1):=by
 rcases hx with hx | hx
 ·exact .inl ⟨⟨_,hx⟩,fun l hl=>lc_list_if p f hn hl hx ht he fun H2 s2 h2=>hq l H2 hl s2 h2⟩
 ·exact .inr ⟨⟨_,hx⟩,fun l hl=>lc_tup_if p f hn hl hx ht he fun H2 s2 h2=>hq l H2 hl s2 h2⟩
theorem lc2_listN {K:PySem.W.Frag} {a:Addr} {ts:List Addr} {l:Addr} {H1:Hp} {te:TE} {σ':St} {Q:VK} {ps:List (V×V)} (Rv:Nat→V→Hp→Prop) (st:∀ i v H H',Rv i v H→(∀ b o,b≠l→H b=some o→H' b=some o)→Rv i v H') (hn:ts.length≤1000) (hl:H1 l=none)
  (ha:SqL K H1 a (ts.map V.ref)) (hlen:ts.length=ps.length) (ht:∀ (i:Nat) (t:Addr) (p:V×V),ts[i]?=some t→ps[i]?=some p→SqT K H1 t [p.1,p.2])
  (he:∀ (i:Nat) (p:V×V) ys H2 (R:VK),ps[i]?=some p→Same H1 H2→H2 l=some (.lst ys)→(∀ j u,ys[j]?=some u→Rv j u H2)→(∀ v H3,Same H2 H3→Rv i v H3→v∉ys→R v H3)→te (some p.1::some p.2::σ') H2 R)
  (hq:∀ vs H2,Same H1 H2→H2 l=some (.lst vs)→vs.length=ps.length→vs.Nodup→(∀ i v,vs[i]?=some v→Rv i v H2)→Q (.ref l) H2):LCG2 K (Itl K a) l σ' tAlw te Q H1:=by
 refine ⟨fun i m H2=>m=ts.length - i∧i≤ts.length∧Same H1 H2∧∃ vs,H2 l=some (.lst vs)∧vs.length=i∧vs.Nodup∧∀ j v,vs[j]?=some v→Rv j v H2,⟨ts.length,by simp,Nat.zero_le _,fun b o e=>by rw [upd_ne (ne_of_none e hl)]; exact e,[],upd_same,rfl,List.nodup_nil,fun j v z=>by simp at z⟩,?_⟩
 rintro i m H2 ⟨rfl,hi,s2,vs,h2,vl,nd,hv⟩
 by_cases hlt:i<ts.length
 ·have et:(ts.map V.ref)[i]?=some (.ref ts[i]):=by rw [List.getElem?_map,List.getElem?_eq_getElem hlt]; rfl
  refine .inr ⟨⟨_,_,s2.seq ha,et⟩,fun x H3 y=>?_⟩
  obtain ⟨e,y⟩:=y
  subst e
  have ex:=y _ (s2.seq ha)
  rw [et] at ex
  obtain rfl:V.ref ts[i]=x:=Option.some.inj ex
  have ep:ps[i]?=some (ps[i]'(by omega)):=List.getElem?_eq_getElem (by omega)
  have tq:=ht i _ _ (List.getElem?_eq_getElem hlt) ep
  refine ⟨ts[i],_,_,rfl,s2.tup tq,?_⟩
  unfold tAlw
  dsimp only
  rw [if_pos rfl]
  refine he i _ vs _ _ ep s2 h2 hv fun v H4 s4 r4 nv=>⟨vs,ts.length - (i+1),s4 _ _ h2,small1000 (by omega),by omega,rfl,hlt,fun b o e=>?_,vs++[v],upd_same,by simp [vl],?_,fun j u hu=>?_⟩
  ·rw [upd_ne (ne_of_none e hl)]
   exact s4 _ _ (s2 _ _ e)
  ·refine List.nodup_append.mpr ⟨nd,by simp,fun x hx y hy e=>?_⟩
   rw [List.mem_singleton.mp hy] at e
   exact nv (e ▸ hx)
  ·have keep:∀ b o,b≠l→H4 b=some o→upd H4 l (.lst (vs++[v])) b=some o:=fun b o nb e=>by rw [upd_ne nb]; exact e
   by_cases hj:j<vs.length
   ·rw [List.getElem?_append_left hj] at hu
    exact st _ _ _ _ (st _ _ _ _ (hv j u hu) fun b o _ e=>s4 b o e) keep
   ·rw [List.getElem?_append_right (by omega)] at hu
    have ej:j - vs.length=0:=by
     cases hk:j - vs.length with
     | zero=>rfl
     | succ k=>rw [hk] at hu; simp at hu
    rw [ej] at hu
    have eu:v=u:=by simpa using hu
    subst eu
    have:j=i:=by omega
    subst this
    exact st _ _ _ _ r4 keep
 ·have e:i=ts.length:=by omega
  subst e
  exact .inl ⟨⟨_,s2.seq ha,by rw [List.length_map]; exact Nat.le_refl _⟩,hq vs H2 s2 h2 (by omega) nd hv⟩
end L2
set_option maxHeartbeats 4000000
namespace L2
open PySem PySem.Spec PyProof.Rows PySem.W
theorem kept_all {g h h':Heap} {L:Addr} {m:Str→Option Value} (k:∀ b o,g.get? b=some o→h.get? b=some o) (F:Fr g L h' m) (N:News g L h' (allNews g h L)) :
  ∀ b o,b≠L→h.get? b=some o→h'.get? b=some o:=fun b o h1 e=>by
 cases q:g.get? b with
 | some u =>
  have:=k b u q
  rw [e] at this; cases this
  exact F.keep b _ q
 | none=>exact (N (b,o) (mem_allNews h1 q e)).1
section
variable {X:Cx} {pins:List (Addr×Obj)} {σ:St} {H:Hp} {s:Shared} {h':Heap}
theorem Inv.anew {t':Nat} {m:Str→Option Value} (I:Inv X pins σ H s) (hl:∀ (i:Nat) (x:Str) (v:V),X.N[i]?=some x→σ[i]?=some (some v)→Vis X.env.scope x→∃ u,RelV v u∧Look X.env s.heap m x u)
  (k:∀ b o,b≠X.env.locals→s.heap.get? b=some o→h'.get? b=some o) (hL:h'.Ns X.env.locals m):Inv X pins σ H { s with heap:=h',toks:=t' }:=by
 have old:∀ {b:Addr} {o:Obj},X.s₀.heap.get? b=some o→b≠X.env.locals:=fun e=>Nat.ne_of_lt (Nat.lt_of_lt_of_le (Heap.lt_size e) I.ok.above)
 refine ⟨I.ok,I.os,I.bare,⟨fun b o e n hb hx=>k b o (old e) (I.base.keep b o e n hb hx),fun b o e n hb hx=>?_,I.base.free,fun b o e hx=>?_,I.base.tups,I.base.frzs,I.base.tbls⟩,⟨m,hL,fun i x v h1 h2 h3=>?_⟩,fun x c e=>?_,I.free,I.freeC,fun p hp=>?_,fun b u e=>?_,I.len⟩
 ·obtain ⟨sl,e2⟩:=I.base.slot b o e n hb hx
  exact ⟨sl,k b _ (old e) e2⟩
 ·obtain ⟨o',e2⟩:=I.base.there b o e hx
  exact ⟨o',k b _ (old e) e2⟩
 ·obtain ⟨u,r,l⟩:=hl i x v h1 h2 h3
  refine ⟨u,r,?_⟩
  rcases l with l | ⟨l1,c,l2,o,l3,l4⟩
  ·exact .inl l
  ·exact .inr ⟨l1,c,l2,o,k c o (I.cne x c l2) l3,l4⟩
 ·obtain ⟨v,o,e1,e2⟩:=I.cell x c e
  exact ⟨v,o,k c o (I.cne x c e) e1,e2⟩
 ·obtain ⟨e1,e2,e3,e4⟩:=I.pin p hp
  exact ⟨k _ _ e3 e1,e2,e3,e4⟩
 ·refine (I.hok b u e).stay (fun c v hc q=>k c v ?_ q) (fun _ q=>q) fun _ _ q=>q
  rintro rfl
  rcases hc with z | z
  ·rw [← z,I.free] at e; cases e
  ·rw [I.free] at z; cases z
end
section
variable {M:Model} {A:Around} {E:Value→Shared→Prop} {s:Shared}
theorem abs_if (z:Int):(if z<0 then -z else z)=(z.natAbs:Int):=by split <;> omega
end
section
variable {prog:Program} {w:World} {A:Around} {E:Value→Shared→Prop} {s:Shared}
theorem lam_body {env:Env} {m mg mb:Str→Option Value} {a cA:Addr} {its:Array Value} {c x y:Int} {t t1 t2:Tok} {p0 p1 p2 p3 p4 p5 p6 p7 p8 p9 p10:Pos} {q:Nat} {Q:Value→Shared→Prop}
  (hk:env.scope.kind=.function) (hgl:env.globals=mainGlobals) (hbl:env.builtins=builtinsNs) (kc:env.kindOf "crease"=some .local) (ka:env.kindOf "at"=some .free) (kb:env.kindOf "abs"=some .globalImplicit)
  (hn:s.heap.Ns env.locals m) (hm:m "crease"=some (.int c t)) (hcl:env.cells.lookup (Str.ofString "at")=some cA) (hcell:s.heap.IsCell cA (some (.ref a))) (hL:s.heap.IsList a its)
  (hg:s.heap.Ns mainGlobals mg) (hmg:mg "abs"=none) (hb:s.heap.Ns builtinsNs mb) (hmb:∀ x:Str,x≠"__name__"→mb x=bootBuiltins x)
  (h0:0≤c) (h1:c.toNat+1<its.size) (hz:its.size≤sizeLine) (e1:its[c.toNat+1]?=some (.int x t1)) (e0:its[c.toNat]?=some (.int y t2))
  (h:∀ u tk,Q (.int ((x - y).natAbs:Int) u) { s with toks:=tk }) :
  wpAny (model prog w) A (eval (.Call (.Name "abs" p1) [.BinOp (.Subscript (.Name "at" p2) (.BinOp (.Name "crease" p3) .Add (.Constant (.int 1) q p4) p5) p6) .Sub (.Subscript (.Name "at" p7) (.Name "crease" p8) p9) p10] [] p0) env) Q E s:=by
 have nat:∀ tk,({ s with toks:=tk }:Shared).heap=s.heap:=fun _=>rfl
 have at_:∀ {p:Pos} {tk:Nat} {E':Value→Shared→Prop} {Q':Value→Shared→Prop},Q' (.ref a) { s with toks:=tk }→wpAny (model prog w) A (eval (.Name "at" p) env) Q' E' { s with toks:=tk }:=fun hq=>wpAny_Name (wpAny_loadName_free hk ka hcl hcell hq (by decide)) (by decide)
 have cr_:∀ {p:Pos} {tk:Nat} {E':Value→Shared→Prop} {Q':Value→Shared→Prop},Q' (.int c t) { s with toks:=tk }→wpAny (model prog w) A (eval (.Name "crease" p) env) Q' E' { s with toks:=tk }:=fun hq=>wpAny_Name (wpAny_loadName_local hk kc hn hm hq) (by decide)
 have hfit:∀ k:Int,k≤c+1→k<2 ^ 63:=fun k hle=>by
  have:=line63
  omega
 refine wpAny_Call_Name_kw (Calls.Name_function_global hk kb (Calls.loadGlobal_builtin (by rw [hgl]; exact hg) hmg (by rw [hbl]; exact hb) ((hmb _ (by decide)).trans boot_abs) ?_) (by decide))
 refine PyProof.Rows.callWith_builtin1 (Calls.spliced_cons (wpAny_BinOp ?_)) rfl rfl
 refine Subscript_ (at_ (tk:=s.toks) ?_)
 refine wpAny_BinOp (cr_ (wpAny_Constant_int ?_))
 refine add_int ?_
 refine item_listR hL (by omega) (hfit _ (by omega)) (by rw [show (c+1).toNat=c.toNat+1 by omega]; exact e1) ?_ (by with_unfolding_all rfl)
 refine Subscript_ (at_ (cr_ ?_))
 refine item_listR hL h0 (hfit _ (by omega)) e0 ?_ (by with_unfolding_all rfl)
 refine sub_int ?_
 refine Calls.spliced_nil ?_
 refine call_abs_int fun u tk=>?_
 rw [abs_if]
 exact h u tk
end
end L2
set_option maxHeartbeats 4000000
namespace L2
open PySem PySem.Spec PyProof.Rows PySem.W
def codeP (c:Addr) (q:Str):Heap→Prop:=fun h=>h.CodeRec (.ref c) q
def tri (pos:Pos) (c:Addr):Array Value:=#[rawInt pos.line,rawInt pos.col,.ref c]
def Tab (H:Hp) (T:Addr) (pos:Pos) (q:Str):Prop:=H T=some (.tbl #[])∨∃ c,H T=some (.tbl (tri pos c))∧H c=some (.ext (codeP c q))
def SameT (H H':Hp):Prop:=∀ b o,H b=some o→(∀ ps,o≠.tbl ps)→H' b=some o
theorem SameT.refl {H:Hp}:SameT H H:=fun _ _ e _=>e
theorem SameT.trans {H H1 H2:Hp} (a:SameT H H1) (b:SameT H1 H2):SameT H H2:=fun x o e n=>b x o (a x o e n) n
theorem Tab.there {H:Hp} {T:Addr} {pos:Pos} {q:Str} (x:Tab H T pos q):∃ ps,H T=some (.tbl ps):=by
 rcases x with e | ⟨c,e,_⟩
 ·exact ⟨_,e⟩
 ·exact ⟨_,e⟩
theorem Tab.stay {H H':Hp} {T:Addr} {pos:Pos} {q:Str} (x:Tab H T pos q) (k:∀ b o,H b=some o→H' b=some o):Tab H' T pos q:=by
 rcases x with e | ⟨c,e,f⟩
 ·exact .inl (k _ _ e)
 ·exact .inr ⟨c,k _ _ e,k _ _ f⟩
def Bm (mg:Str→Option Value) (h:Heap):Prop:=∃ bm ob,mg "__builtins__"=some (.ref bm)∧bm≠builtinsNs∧h.get? bm=some ob∧ob.cls=.type "module"∧ob.dict=some builtinsNs∧ob.data=.plain
def lamP (o:Value→Obj) (f:Addr):Heap→Prop:=fun h=>∃ v,h.get? f=some (o v)
abbrev lamO (mg:Str→Option Value) (qual:Str) (params:Arguments) (body:Expr) (scope:Scope) (clos:List (Str×Addr)) (c:Addr) (v:Value):Obj:=kla_obj "<lambda>" qual params body scope clos ((mg "__name__").getD .none) c v
def tLam (T:Addr) (pos:Pos) (qual:Str) (o:Addr→Value→Obj):TE:=fun _ H Q=>Tab H T pos qual∧∀ f c H',H f=none→SameT H H'→H' T=some (.tbl (tri pos c))→H' c=some (.ext (codeP c qual))→H' f=some (.ext (lamP (o c) f))→Q (.ref f) H'
theorem codeP_ok {P:Program} {w:World} {H:Hp} {h:Heap} {c:Addr} {q:Str} (x:h.CodeRec (.ref c) q):ObjOk P w H h c (.ext (codeP c q)):=by
 obtain ⟨c0,o,vs,t,e,h1,h2,h3⟩:=x
 cases e
 refine ⟨⟨c,o,vs,t,rfl,h1,h2,h3⟩,⟨o,h1⟩,fun g1 g2 hx k=>?_⟩
 obtain ⟨c0,o,vs,t,e,h1,h2,h3⟩:=hx
 cases e
 exact ⟨c,o,vs,t,rfl,k _ h1,h2,h3⟩
theorem lamP_ok {P:Program} {w:World} {H:Hp} {h:Heap} {f:Addr} {o:Value→Obj} {v:Value} (x:h.get? f=some (o v)):ObjOk P w H h f (.ext (lamP o f)) :=
 ⟨⟨v,x⟩,⟨_,x⟩,fun _ _ ⟨v,e⟩ k=>⟨v,k _ e⟩⟩
section
variable {X:Cx} {params:Arguments} {body:Expr} {scope:Scope} {pos:Pos} {clos:List (Str×Addr)} {c T:Addr}
theorem pe_lam (hcl:closureFor scope X.env=pure clos) (hcode:X.env.code=.ref c) (C:CodeHd X.base c T) (B:Bm X.mg X.base) (hdef:defaultsOf params X.env=([],[]):=by rfl) :
  PE X (.Lambda params body scope pos) (tLam T pos (X.env.qual++"<lambda>") fun c v=>lamO X.mg (X.env.qual++"<lambda>") params body scope clos c v):=by
 intro pins s σ H Q I h
 obtain ⟨tab,q⟩:=h
 obtain ⟨ps0,eT⟩:=tab.there
 have neT:∀ b o,X.base.get? b=some o→b≠T:=fun b o e z=>by
  have:=(I.bs b o e).2
  rw [z,eT] at this; cases this
 obtain ⟨bm,ob,b1,b2,b3,b4,b5,b6⟩:=B
 obtain ⟨og,es,ep,g1,g2,_⟩:=I.mod.glob
 have hgP:mainGlobals≠T:=neT _ _ g1
 have hb:s.heap.BuiltinsAt X.mg T:=⟨bm,ob,b1,b2,(fun z=>by rw [z,g1] at b3; cases b3; rw [g2] at b6; cases b6),neT _ _ b3,I.bk _ _ b3,b4,b5,b6⟩
 rcases tab with e | ⟨c',e1,e2⟩
 ·have hP:s.heap.get? T=some (tabObj #[]):=I.hok T _ e
  refine kla_eval hdef (kla_makeFunction (mg:=X.mg) (ps:=#[]) hcl I.ok.glob (I.mod.glob.keeps I.bk) hcode (C.keeps I.bk) hP trivial rfl hgP hb fun c' ctv h' tk hx hge hlt hrec htb=>?_)
  have htb':h'.get? T=some (tabObj (tri pos c')):=by
   have z:(#[]:Array Value)++#[rawInt pos.line,rawInt pos.col,.ref c']=tri pos c':=rfl
   rw [z] at htb
   exact htb
  have lT:T<s.heap.objs.size:=Heap.lt_size hP
  have nc:c'≠T:=Nat.ne_of_gt (Nat.lt_of_lt_of_le lT hge)
  have nf:h'.objs.size≠T:=Nat.ne_of_gt (Nat.lt_trans (Nat.lt_of_lt_of_le lT hge) hlt)
  have nfc:h'.objs.size≠c':=Nat.ne_of_gt hlt
  let qual:=X.env.qual++"<lambda>"
  let ob:=lamO X.mg qual params body scope clos c' ctv
  have hxx:∀ b o,b≠T→s.heap.get? b=some o→(h'.push ob).get? b=some o:=fun b o nb e=>Heap.get?_push_of_some _ (hx b o nb e)
  have hH:∀ b,b<s.heap.objs.size→b≠T→upd (upd (upd H T (.tbl (tri pos c'))) c' (.ext (codeP c' qual))) h'.objs.size (.ext (lamP (fun v=>lamO X.mg qual params body scope clos c' v) h'.objs.size)) b=H b:=fun b hb nb=>by
   rw [upd_ne (Nat.ne_of_lt (Nat.lt_trans (Nat.lt_of_lt_of_le hb hge) hlt)),upd_ne (Nat.ne_of_lt (Nat.lt_of_lt_of_le hb hge)),upd_ne nb]
  have hHT:upd (upd (upd H T (.tbl (tri pos c'))) c' (.ext (codeP c' qual))) h'.objs.size (.ext (lamP (fun v=>lamO X.mg qual params body scope clos c' v) h'.objs.size)) T=some (.tbl (tri pos c')):=by
   rw [upd_ne nf.symm,upd_ne nc.symm,upd_same]
  have hHc:upd (upd (upd H T (.tbl (tri pos c'))) c' (.ext (codeP c' qual))) h'.objs.size (.ext (lamP (fun v=>lamO X.mg qual params body scope clos c' v) h'.objs.size)) c'=some (.ext (codeP c' qual)):=by
   rw [upd_ne nfc.symm,upd_same]
  have nT:∀ b o,H b=some o→(∀ ps,o≠.tbl ps)→b≠T:=fun b o e1 n z=>by
   rw [z,e] at e1; cases e1; exact n _ rfl
  have un:Un X.fs [] H (upd (upd (upd H T (.tbl (tri pos c'))) c' (.ext (codeP c' qual))) h'.objs.size (.ext (lamP (fun v=>lamO X.mg qual params body scope clos c' v) h'.objs.size))) s.heap (h'.push ob):=by
   have nb:∀ b,H b=none→b≠T:=fun b n z=>by rw [z,e] at n; cases n
   refine ⟨fun b o e n _ _=>hxx b o (nb b n) e,fun b o e n _ _=>⟨o.slots,hxx b o (nb b n) e⟩,fun b o e n _=>by rw [hH b (Heap.lt_size e) (nb b n)]; exact n,fun b o e _=>?_,fun b xs e=>?_,fun b o u e=>?_,fun b ps e1=>?_⟩
   ·by_cases hb:b=T
    ·exact ⟨_,by rw [hb]; exact Heap.get?_push_of_some _ htb'⟩
    ·exact ⟨o,hxx b o hb e⟩
   ·rw [hH b (I.hok.lt e) (nT b _ e (fun _ z=>by cases z))]; exact e
   ·rw [hH b (I.hok.lt e) (nT b _ e (fun _ z=>by cases z))]; exact e
   ·by_cases hb:b=T
    ·rw [hb,e] at e1; cases e1
     exact ⟨tri pos c',by rw [hb,hHT]; simp⟩
    ·exact ⟨#[],by rw [hH b (I.hok.lt e1) hb,e1]; simp⟩
  have hok:HOk X.prog X.w (upd (upd (upd H T (.tbl (tri pos c'))) c' (.ext (codeP c' qual))) h'.objs.size (.ext (lamP (fun v=>lamO X.mg qual params body scope clos c' v) h'.objs.size))) (h'.push ob):=fun b u e1=>by
   by_cases h1:b=h'.objs.size
   ·subst h1
    rw [upd_same] at e1; cases e1
    exact lamP_ok (v:=ctv) (o:=fun v=>lamO X.mg qual params body scope clos c' v) (Heap.get?_push_size _ rfl)
   ·by_cases h2:b=c'
    ·rw [h2,hHc] at e1; cases e1
     rw [h2]
     obtain ⟨c0,o,vs,t,z,r1,r2,r3⟩:=hrec
     cases z
     exact codeP_ok ⟨c',o,vs,t,rfl,Heap.get?_push_of_some _ r1,r2,r3⟩
    ·by_cases h3:b=T
     ·rw [h3,hHT] at e1; cases e1
      rw [h3]
      exact Heap.get?_push_of_some _ htb'
     ·have e3:H b=some u:=by rw [upd_ne h1,upd_ne h2,upd_ne h3] at e1; exact e1
      refine (I.hok b u e3).stay (fun d v hc r=>hxx d v ?_ r) (fun d r=>?_) fun d xs r=>?_
      ·rcases hc with rfl | hc
       ·exact h3
       ·exact nT d _ hc (fun _ z=>by cases z)
      ·rw [hH d (I.hok.lt r) (nT d _ r (fun _ z=>by cases z))]; exact r
      ·rw [hH d (I.hok.lt r) (nT d _ r (fun _ z=>by cases z))]; exact r
  refine ⟨.ref h'.objs.size,_,I.un (t':=tk) un hok,rfl,q h'.objs.size c' _ (I.hok.fresh (Nat.le_trans hge (Nat.le_of_lt hlt))) (fun b o e1 n=>?_) hHT hHc upd_same⟩
  rw [hH b (I.hok.lt e1) (nT b o e1 n)]; exact e1
 ·have hP:s.heap.get? T=some (tabObj (tri pos c')):=I.hok T _ e1
  refine kla_eval hdef (kla_makeFunctionHit (mg:=X.mg) (ps:=tri pos c') (cv:=.ref c') hcl I.ok.glob (I.mod.glob.keeps I.bk) hcode (C.keeps I.bk) hP (by simp [TriplesOk,tri,rawInt]) (by simp [codeAmong,tri,rawInt]) hb fun ctv h' tk hk hsz=>?_)
  have hn:H h'.objs.size=none:=I.hok.fresh hsz
  refine ⟨.ref h'.objs.size,_,I.laid (t':=tk) (o:=.ext (lamP (fun v=>lamO X.mg (X.env.qual++"<lambda>") params body scope clos c' v) h'.objs.size)) (fun b u e=>Heap.get?_push_of_some _ (hk b u e)) hsz (lamP_ok (v:=ctv) (o:=fun v=>lamO X.mg (X.env.qual++"<lambda>") params body scope clos c' v) (Heap.get?_push_size _ rfl)),rfl,
   q h'.objs.size c' _ hn (fun b o e n=>?_) ?_ ?_ upd_same⟩
  ·rw [upd_ne (ne_of_none e hn)]; exact e
  ·rw [upd_ne (ne_of_none e1 hn)]; exact e1
  ·rw [upd_ne (ne_of_none e2 hn)]; exact e2
end
end L2
set_option maxHeartbeats 4000000
namespace L2
open PySem PySem.Spec PyProof.Rows PySem.W
theorem SameT.seq {K:PySem.W.Frag} {H H':Hp} {a:Addr} {xs:List V} (e:SameT H H') (h:SqL K H a xs):SqL K H' a xs:=by
 rcases h with (h | ⟨o,h⟩) | h
 ·exact .inl (.inl (e _ _ h fun _ z=>by cases z))
 ·exact .inl (.inr ⟨o,e _ _ h fun _ z=>by cases z⟩)
 ·exact .inr h
def widI (ps:List Int) (n:Int):Int:=((ps.getD (n.toNat+1) 0 - ps.getD n.toNat 0).natAbs:Int)
theorem ints_get {its:List Value} {ps:List Int} (hi:IntsAre its ps) {i:Nat} (h:i<ps.length):∃ t,its[i]?=some (.int (ps.getD i 0) t):=by
 obtain ⟨n,hn⟩:∃ n,ps[i]?=some n:=⟨_,List.getElem?_eq_getElem h⟩
 obtain ⟨t,ht⟩:=hi.get i n hn
 exact ⟨t,by rw [ht]; simp [hn]⟩
abbrev lamB (p0 p1 p2 p3 p4 p5 p6 p7 p8 p9 p10:Pos) (q:Nat):Expr:=.Call (.Name "abs" p1) [.BinOp (.Subscript (.Name "at" p2) (.BinOp (.Name "crease" p3) .Add (.Constant (.int 1) q p4) p5) p6) .Sub (.Subscript (.Name "at" p7) (.Name "crease" p8) p9) p10] [] p0
structure LamS (params:Arguments) (scope:Scope):Prop where
 kind:scope.kind=.function
 co:scope.isCoroutine=false
 gen:scope.isGenerator=false
 nocell:∀ x∈scope.names,x.2≠.cell
 cr:scope.names.lookup (Str.ofString "crease")=some .local
 at_:scope.names.lookup (Str.ofString "at")=some .free
 abs:scope.names.lookup (Str.ofString "abs")=some .globalImplicit
 bind:∀ (qual:Str) (body:Expr) (cl:List (Str×Addr)) (pm cd ct v:Value),bindArgs (kla_fn "<lambda>" qual params body scope cl pm cd ct) ⟨[v],[]⟩=pure [(Str.ofString "crease",v)]
section
variable {X:Cx} {pins:List (Addr×Obj)} {σ:St} {H:Hp} {s:Shared} {params:Arguments} {scope:Scope} {qual:Str} {p0 p1 p2 p3 p4 p5 p6 p7 p8 p9 p10:Pos} {q0 k:Nat} {l f c a cA:Addr} {ns ps:List Int} {Q:VK}
theorem call_maxkey (hr:Room (k+1) X.A) (S:LamS params scope) (hab:X.mg "abs"=none) (I:Inv X pins σ H s) (hl:SqL X.K H l (ns.map V.int)) (hne:0<ns.length) (hbd:∀ n∈ns,0≤n∧n.toNat+1<ps.length) (ha:SqL X.K H a (ps.map V.int))
  (hcA:s.heap.IsCell cA (some (.ref a))) (hcL:cA≠X.env.locals) (hc:H c=some (.ext (codeP c qual)))
  (hf:H f=some (.ext (lamP (fun v=>lamO X.mg qual params (lamB p0 p1 p2 p3 p4 p5 p6 p7 p8 p9 p10 q0) scope [(Str.ofString "at",cA)] c v) f)))
  (q:∀ M,M∈ns→(∀ n∈ns,widI ps n≤widI ps M)→Q (.int M) H) :
  wpAny (model X.prog X.w) X.A (call (.builtin "max") [.ref l] [(Str.ofString "key",.ref f)]) (EP X pins σ Q) X.xe s:=by
 obtain ⟨m,hn,hloc⟩:=I.loc
 have F:Fr X.base X.env.locals s.heap m:=⟨hn,I.bk,Nat.le_trans I.ok.bsz I.ok.above⟩
 obtain ⟨its,rv,pl,hz⟩:=I.list hl
 have hi:IntsAre its ns:=intsAre_of rv
 have hlen:=hi.length
 obtain ⟨itsA,rvA,plA,hzA⟩:=I.list ha
 have hiA:IntsAre itsA ps:=intsAre_of rvA
 have hlenA:=hiA.length
 have noL:∀ {b:Addr} {o:Obj},s.heap.get? b=some o→(∀ es ep,o.data≠.dict es ep)→b≠X.env.locals:=fun {b o} e nd z=>by
  obtain ⟨oL,es,ep,e1,e2,_⟩:=hn
  rw [z,e1] at e; cases e
  exact nd _ _ e2
 have isL:∀ {b:Addr} {v:Array Value},s.heap.IsList b v→∀ h:Heap,(∀ x o,x≠X.env.locals→s.heap.get? x=some o→h.get? x=some o)→h.IsList b v:=fun {b v} x h kp=>by
  obtain ⟨o,e1,e2,e3,e4⟩:=x
  exact ⟨o,kp b o (noL e1 fun es ep z=>by rw [e4] at z; cases z) e1,e2,e3,e4⟩
 refine kmk_max (h₀:=X.base) (L:=X.env.locals) (m:=m) (news:=allNews X.base s.heap X.env.locals) (vs:=its) (fun i=>widI ps (ns.getD i 0)) hr.hd F news_all (fun h F' N'=>isL pl.isList h (kept_all I.bk F' N')) (by omega) (fun i v hv h tk own F' N'=>?_) fun i v h' tk' hv hb F' N'=>?_
 ·have hi':i<its.length:=(List.getElem?_eq_some_iff.mp hv).1
  obtain ⟨t,ht⟩:=ints_get hi (i:=i) (by omega)
  rw [ht] at hv
  obtain rfl:Value.int (ns.getD i 0) t=v:=Option.some.inj hv
  have hmem:ns.getD i 0∈ns:=by
   have e:ns.getD i 0=ns[i]'(by omega):=by simp [List.getD,List.getElem?_eq_getElem (show i<ns.length by omega)]
   rw [e]; exact List.getElem_mem _
  generalize ns.getD i 0=n at hmem ht ⊢
  obtain ⟨n0,n1⟩:=hbd n hmem
  have kp:∀ b o,b≠X.env.locals→s.heap.get? b=some o→h.get? b=some o:=kept_all I.bk F' fun p hp=>N' p (List.mem_append_left _ hp)
  obtain ⟨⟨ctv,hfo⟩,_,_⟩:=I.hok f _ hf
  obtain ⟨⟨c0,oc,vs,tq,z,r1,r2,r3⟩,_,_⟩:=I.hok c _ hc
  cases z
  have hfo':=kp f _ (fun z=>by rw [z,I.free] at hf; cases hf) hfo
  have hcd:h.CodeRec (.ref c) qual:=⟨c,oc,vs,tq,rfl,kp c _ (fun z=>by rw [z,I.free] at hc; cases hc) r1,r2,r3⟩
  refine wpAny_call (kla_callFunE (s:={ s with heap:=h,toks:=tk }) hr.in1.depth hfo' rfl S.co S.gen rfl hcd ?_)
  rw [S.bind]
  refine wpAny_pure (wpAny_newFunctionEnv S.nocell (fun y hy=>by obtain rfl:=List.mem_singleton.mp hy; exact S.cr) (fun h₁ hns hsb=>⟨?_,?_⟩) S.kind)
  ·exact (I.mod.nolimit.keeps F'.keep).fresh _ hsb
  have hk₁:∀ b o,h.get? b=some o→h₁.get? b=some o:=fun b o e=>hsb.extBut b o (Nat.ne_of_lt (Heap.lt_size e)) (Heap.get?_push_of_some _ e)
  have kp₁:∀ b o,b≠X.env.locals→s.heap.get? b=some o→h₁.get? b=some o:=fun b o nb e=>hk₁ b o (kp b o nb e)
  obtain ⟨mb,hb1,hb2⟩:=I.mod.blt
  obtain ⟨t1,ht1⟩:=ints_get hiA (i:=n.toNat+1) n1
  obtain ⟨t0,ht0⟩:=ints_get hiA (i:=n.toNat) (by omega)
  obtain ⟨oA,hA1,hA2⟩:=hcA
  refine kla_codeExpr (lam_body (m:=fun x=>[(Str.ofString "crease",Value.int n t)].reverse.lookup x) (a:=a) (cA:=cA) (its:=itsA.toArray) (x:=ps.getD (n.toNat+1) 0) (y:=ps.getD n.toNat 0) (mg:=X.mg) (mb:=mb) S.kind rfl rfl S.cr S.at_ S.abs hns rfl rfl ⟨oA,kp₁ _ _ hcL hA1,hA2⟩ (isL plA.isList h₁ kp₁)
   ((I.mod.glob.keeps F'.keep).keeps hk₁) hab ((hb1.keeps F'.keep).keeps hk₁) hb2 n0 (by rw [List.size_toArray]; omega) (by rw [List.size_toArray]; rw [List.length_map] at hzA; omega) (by simpa using ht1) (by simpa using ht0) fun u tk2=>?_)
  exact ⟨h₁,tk2,u,rfl,rfl,⟨F'.ns.keeps hk₁,fun b o e=>hk₁ b o (F'.keep b o e),F'.above⟩,N'.grown hk₁⟩
 ·have hi':i<its.length:=(List.getElem?_eq_some_iff.mp hv).1
  obtain ⟨t,ht⟩:=ints_get hi (i:=i) (by omega)
  rw [ht] at hv
  obtain rfl:Value.int (ns.getD i 0) t=v:=Option.some.inj hv
  refine ⟨.int (ns.getD i 0),H,I.anew hloc (kept_all I.bk F' N') F'.ns,⟨t,rfl⟩,q _ ?_ fun n hn'=>?_⟩
  ·have e:ns.getD i 0=ns[i]'(by omega):=by simp [List.getD,List.getElem?_eq_getElem (show i<ns.length by omega)]
   rw [e]; exact List.getElem_mem _
  ·obtain ⟨j,hj,ej⟩:=List.getElem_of_mem hn'
   have:=(hb j (by omega)).1
   have e2:ns.getD j 0=n:=by rw [← ej]; simp [hj]
   rw [e2] at this
   exact this
end
end L2
set_option maxHeartbeats 4000000
namespace L2
open PySem PySem.Spec PyProof.Rows PySem.W
theorem boot_maxB:bootBuiltins "max"=some (.builtin "max"):=by decide +kernel
def tMaxK (K:PySem.W.Frag) (T:Addr) (pos:Pos) (qual:Str) (ia:Nat) (te:TE):TE:=fun σ H Q=>te σ H fun x H1=>∃ (l a:Addr) (ns ps:List Int),x=.ref l∧SqL K H1 l (ns.map V.int)∧0<ns.length∧σ[ia]?=some (some (.ref a))∧SqL K H1 a (ps.map V.int) ∧
 (∀ n∈ns,0≤n∧n.toNat+1<ps.length)∧Tab H1 T pos qual∧∀ M H2,M∈ns→(∀ n∈ns,widI ps n≤widI ps M)→SameT H1 H2→Tab H2 T pos qual→Q (.int M) H2
section
variable {X:Cx} {params:Arguments} {scope:Scope} {p0 p1 p2 p3 p4 p5 p6 p7 p8 p9 p10 p pos lpos kpos:Pos} {q0 k ia:Nat} {c T cA:Addr} {e:Expr} {te:TE}
theorem pe_maxkey (hr:Room (k+1) X.A) (S:LamS params scope) (hab:X.mg "abs"=none) (hmx:X.mg "max"=none) (hg:Gl X "max") (hcl:closureFor scope X.env=pure [(Str.ofString "at",cA)]) (hcc:X.env.cells.lookup (Str.ofString "at")=some cA) (hka:X.env.kindOf "at"=some .cell)
  (hN:X.N[ia]?=some "at") (hcode:X.env.code=.ref c) (C:CodeHd X.base c T) (B:Bm X.mg X.base) (he:PE X e te) (hdef:defaultsOf params X.env=([],[]):=by rfl) (hst:starEach [e] X.env=[(false,eval e X.env)]:=by rfl) :
  PE X (.Call (.Name "max" p) [e] [⟨some "key",.Lambda params (lamB p0 p1 p2 p3 p4 p5 p6 p7 p8 p9 p10 q0) scope lpos,kpos⟩] pos) (tMaxK X.K T lpos (X.env.qual++"<lambda>") ia te):=by
 intro pins s σ H Q I h
 refine wpAny_Call_Name_kw (ld_blt I hg hmx boot_maxB ?_)
 refine callWith_kw ?_ (by rw [hst]; rfl) (by rw [hst]; rfl) rfl rfl
 rw [hst]
 refine Calls.spliced_cons (thn (he pins s σ H _ I h) fun u s1 ⟨x,H1,I1,r1,l,a,ns,ps,ex,hl,hne,hva,ha,hb,tab,q⟩=>?_)
 subst ex
 obtain rfl:u=Value.ref l:=r1
 refine Calls.spliced_nil ?_
 refine thn (pk_cons (nm:=some "key") (kpos:=kpos) (pe_lam (params:=params) (body:=lamB p0 p1 p2 p3 p4 p5 p6 p7 p8 p9 p10 q0) (pos:=lpos) hcl hcode C B hdef) pk_nil pos pins s1 σ H1 (fun zs H2=>∃ f c2,zs=[.ref f]∧SameT H1 H2∧H2 T=some (.tbl (tri lpos c2))∧H2 c2=some (.ext (codeP c2 (X.env.qual++"<lambda>"))) ∧
   H2 f=some (.ext (lamP (fun v=>lamO X.mg (X.env.qual++"<lambda>") params (lamB p0 p1 p2 p3 p4 p5 p6 p7 p8 p9 p10 q0) scope [(Str.ofString "at",cA)] c2 v) f))) I1 ⟨tab,fun f c2 H2 h1 h2 h3 h4 h5=>⟨f,c2,rfl,h2,h3,h4,h5⟩⟩) fun ws s2 ⟨zs,H2,I2,rz,f,c2,ez,h2,h3,h4,h5⟩=>?_
 subst ez
 obtain ⟨u,rfl,ru⟩:=vals1 rz
 obtain rfl:u=Value.ref f:=ru
 obtain ⟨m,hn,hloc⟩:=I2.loc
 obtain ⟨u,ru,lk⟩:=hloc ia "at" (.ref a) hN hva (.inr (.inl hka))
 obtain rfl:u=Value.ref a:=ru
 have hcell:s2.heap.IsCell cA (some (.ref a)):=by
  rcases lk with ⟨z,_⟩ | ⟨_,c3,e3,h6⟩
  ·rw [hka] at z; cases z
  ·rw [hcc] at e3; cases e3; exact h6
 exact call_maxkey hr S hab I2 (h2.seq hl) hne hb (h2.seq ha) hcell (I2.cne _ _ hcc) h4 h5 fun M hM hmax=>q M H2 hM hmax h2 (.inr ⟨c2,h3,h4⟩)
end
end L2
set_option maxHeartbeats 4000000
namespace L2
open PySem PySem.Spec PyProof.Rows PySem.W
def OnlyT (T:Addr) (H:Hp):Prop:=∀ b,H b=none∨(∃ o xs,H b=some (.frz o (.lst xs)))∨(b=T∧H b=some (.tbl #[]))
theorem law_callT {P:Program} {w:World} {K:PySem.W.Frag} {mg mb:Str→Option Value} {CX:CXT} {k:Nat} {fa a c T:Addr} {fd:FuncData} {x:Str} {sp:Sp} {s₁:Shared} {vs:List Value} {ns:List Int}
  (KX:K.In s₁.heap) (hns:s₁.heap.Ns mainGlobals mg) (hb:s₁.heap.Ns builtinsNs mb) (hbb:∀ x:Str,x≠"__name__"→mb x=bootBuiltins x) (hlim:s₁.heap.NoLimit) (hg:s₁.gens=#[])
  (C:CodeHd s₁.heap c T) (hT:s₁.heap.get? T=some (tabObj #[])) (B:Bm mg s₁.heap) (hKT:noTabs K=true)
  (ha:s₁.heap.get? a=some { cls:=.type "list",data:=.seq vs.toArray }) (hi:IntsAre vs ns) (hl:ns.length≤sizeLine) (hr:Room k callerA)
  (F:∀ base:Heap,K.In base→base.Ns mainGlobals mg→CodeHd base c T→Bm mg base→FnOk P w K mg base CX k fa fd [x] sp) (hbind:∀ (s:Shared) (u:Value),BindsTo s fd ⟨[u],[]⟩ [(x,u)])
  (hsp:∀ H:Hp,OnlyT T H→H T=some (.tbl #[])→SqL K H a (ns.map V.int)→sp [.ref a] H (fun v _=>v=.bl true) fun _ _ _=>False)
  (hCX:∀ H e s',CX [] H s₁ (fun _ _ _=>False) e s'→False) :
  codeAny (model P w) callerA (.call (.ref fa) ⟨[.ref a],[]⟩) (fun r s'=>r=.ok (.ret (.bool true))∧OldK s₁.heap s'.heap∧s'.os=s₁.os∧AllBare s'.gens) s₁:=by
 have rv:=vals_ints hi
 have lenV:=hi.length
 have neT:a≠T:=fun z=>by rw [z,hT] at ha; cases ha
 have hKT':K.lookup T=none:=by
  cases e:K.lookup T with
  | none=>rfl
  | some o =>
   have e1:=KX T o e
   rw [hT] at e1; cases e1
   have h2:=List.all_eq_true.mp hKT (T,tabObj #[]) (mem_of_lookupK e)
   exact absurd (show false=true from h2) Bool.false_ne_true
 have core:∀ H:Hp,OnlyT T H→H T=some (.tbl #[])→SqL K H a (ns.map V.int)→HOk P w H s₁.heap→(∀ b,H b≠none→b=a∨b=T)→(H a≠none→K.lookup a=none) →
   codeAny (model P w) callerA (.call (.ref fa) ⟨[.ref a],[]⟩) (fun r s'=>r=.ok (.ret (.bool true))∧OldK s₁.heap s'.heap∧s'.os=s₁.os∧AllBare s'.gens) s₁:=by
  intro H hO hHT hS hok hA hK
  have base_of:∀ {b:Addr} {o:Obj},s₁.heap.get? b=some o→H b=none→(hidT s₁.heap H).get? b=some o:=fun e n=>hidT_get e n
  have un_of:∀ {b:Addr} {o:Obj},s₁.heap.get? b=some o→o.cls≠.none→(∀ v,o.data≠.seq v 0)→H b=none:=fun {b o} e d1 d2=>by
   cases q:H b with
   | none=>rfl
   | some u =>
    rcases hA b (by rw [q]; simp) with z | z
    ·rw [z,ha] at e; cases e; exact absurd rfl (d2 _)
    ·rw [z,hT] at e; cases e; exact absurd rfl d1
  have noA:∀ {b:Addr} {o:Obj} {es:Array DictEntry} {ep:Nat},s₁.heap.get? b=some o→o.data=.dict es ep→H b=none:=fun {b o es ep} e d=>by
   cases q:H b with
   | none=>rfl
   | some u =>
    rcases hA b (by rw [q]; simp) with z | z
    ·rw [z,ha] at e; cases e; cases d
    ·rw [z,hT] at e; cases e; cases d
  have nsK:∀ {b:Addr} {m:Str→Option Value},s₁.heap.Ns b m→(hidT s₁.heap H).Ns b m:=fun {b m} ⟨o,es,ep,e,d,r⟩=>⟨o,es,ep,base_of e (noA e d),d,r⟩
  have hKb:K.In (hidT s₁.heap H):=fun b o e=>base_of (KX b o e) (by
   cases q:H b with
   | none=>rfl
   | some u =>
    rcases hA b (by rw [q]; simp) with z | z
    ·rw [z] at e q; rw [hK (by rw [q]; simp)] at e; cases e
    ·rw [z,hKT'] at e; cases e)
  have hM:Mod K mg (hidT s₁.heap H):=⟨hKb,nsK hns,⟨mb,nsK hb,hbb⟩,let ⟨mc,h1,h2⟩:=hlim; ⟨mc,nsK h1,h2⟩⟩
  have hC:CodeHd (hidT s₁.heap H) c T:=by
   obtain ⟨o,vs',file,tf,flags,tg,inF,text,tt,e1,e2,e3,r⟩:=C
   exact ⟨o,vs',file,tf,flags,tg,inF,text,tt,base_of e1 (un_of e1 (by rw [e2]; nofun) fun v z=>by rw [e3] at z; cases z),e2,e3,r⟩
  have hB:Bm mg (hidT s₁.heap H):=by
   obtain ⟨bm,ob,b1,b2,b3,b4,b5,b6⟩:=B
   exact ⟨bm,ob,b1,b2,base_of b3 (un_of b3 (by rw [b4]; nofun) fun v z=>by rw [b6] at z; cases z),b4,b5,b6⟩
  have e0:Env0 P w K mg (hidT s₁.heap H) callerA [] s₁ H:=⟨rfl,hM,fun b o e=>of_hidT e,Nat.le_of_eq (hidT_size _ _),trivial,fun b hb=>absurd (show b∈([]:List Addr) from hb) (by simp),hok,.of_eq hg⟩
  refine codeAny_mono ((F _ hKb (nsK hns) hC hB).run callerA [] s₁ H ⟨[.ref a],[]⟩ [.ref a] [.ref a] _ _ hr e0 (hbind s₁ (.ref a)) (.cons rfl .nil) (hsp H hO hHT hS)) fun r s' h=>?_
  cases r with
  | error e=>exact (hCX H e s' h).elim
  | ok fl =>
   cases fl with
   | next=>exact False.elim h
   | brk=>exact False.elim h
   | cont=>exact False.elim h
   | ret u =>
    obtain ⟨v,H',os,bare,un,hok',r',q⟩:=h
    have q':v=.bl true:=q
    subst q'
    obtain rfl:u=Value.bool true:=r'
    have nin:∀ b:Addr,b∉frs ([]:List Env):=fun b z=>absurd (show b∈([]:List Addr) from z) (by simp)
    have kp:∀ b o,b≠T→s₁.heap.get? b=some o→s'.heap.get? b=some o:=fun b o nb e=>by
     cases q:H b with
     | none=>exact un.keep b o e q (nin b) (by simp)
     | some u =>
      rcases hO b with z | ⟨ob,xs,z⟩ | ⟨z,_⟩
      ·rw [q] at z; cases z
      ·have z2:=un.frzs b ob _ z
       obtain ⟨e1,_⟩:=hok b _ z
       obtain ⟨e2,_⟩:=hok' b _ z2
       rw [e] at e1; cases e1
       exact e2
      ·exact absurd z nb
    obtain ⟨more,hT'⟩:=un.tbls T #[] hHT
    have hT2:s'.heap.get? T=some (tabObj (#[]++more)):=hok' T _ hT'
    refine ⟨rfl,⟨fun b o e=>?_,fun b o e=>?_⟩,os,bare⟩
    ·by_cases hbT:b=T
     ·rw [hbT,hT] at e; cases e
      rw [hbT]
      exact .inr (.inl ⟨(C.tab hT).isCodeTable,rfl,#[],more,rfl,hT2⟩)
     ·exact .inl (kp b o hbT e)
    ·by_cases hbT:b=T
     ·exact ⟨_,by rw [hbT]; exact hT2⟩
     ·exact ⟨o,kp b o hbT e⟩
 cases hk:K.lookup a with
 | some o =>
  have e:=KX a o hk
  rw [ha] at e
  cases e
  refine core (fun b=>if b=T then some (.tbl #[]) else none) (fun b=>?_) (if_pos rfl) (.inr ⟨_,vs.toArray,_,hk,rfl,rfl,rfl,by rw [List.size_toArray,lenV]; exact hl,by simpa using rv⟩) (fun b u z=>?_) (fun b z=>?_) fun z=>absurd (if_neg neT) z
  ·by_cases h1:b=T
   ·exact .inr (.inr ⟨h1,if_pos h1⟩)
   ·exact .inl (if_neg h1)
  ·by_cases h1:b=T
   ·have z':=(if_pos h1).symm.trans z
    cases z'
    rw [h1]
    exact hT
   ·have z':=(if_neg h1).symm.trans z
    cases z'
  ·by_cases h1:b=T
   ·exact .inr h1
   ·exact absurd (if_neg h1) z
 | none =>
  refine core (fun b=>if b=T then some (.tbl #[]) else if b=a then some (.frz { cls:=.type "list",data:=.seq vs.toArray } (.lst (ns.map V.int))) else none) (fun b=>?_) (if_pos rfl) (.inl (.inr ⟨{ cls:=.type "list",data:=.seq vs.toArray },(if_neg neT).trans (if_pos rfl)⟩)) (fun b u z=>?_) (fun b z=>?_) fun _=>hk
  ·by_cases h1:b=T
   ·exact .inr (.inr ⟨h1,if_pos h1⟩)
   ·by_cases h2:b=a
    ·exact .inr (.inl ⟨_,_,(if_neg h1).trans (if_pos h2)⟩)
    ·exact .inl ((if_neg h1).trans (if_neg h2))
  ·by_cases h1:b=T
   ·have z':=(if_pos h1).symm.trans z
    cases z'
    rw [h1]
    exact hT
   ·by_cases h2:b=a
    ·have z':some (HO.frz { cls:=.type "list",data:=.seq vs.toArray } (.lst (ns.map V.int)))=some u:=by rw [← z]; show _=(if b=T then _ else _); rw [if_neg h1,if_pos h2]
     cases z'
     rw [h2]
     exact ⟨ha,by rw [List.length_map]; exact hl,vs,_,rv,ha⟩
    ·have z':(none:Option HO)=some u:=by rw [← z]; show _=(if b=T then _ else _); rw [if_neg h1,if_neg h2]
     cases z'
  ·by_cases h1:b=T
   ·exact .inr h1
   ·by_cases h2:b=a
    ·exact .inl h2
    ·exact absurd (show (if b=T then _ else _)=none by rw [if_neg h1,if_neg h2]) z
theorem walk_ofT {l:PySem.W.OpenLaw} {n k:Nat} {q:Program} {loose:List Str} {XP:(Str→Option Value)→Heap→Prop} {YP:World→Heap→Prop} {d dT:DefRec} {K:Params→PySem.W.Frag} {CX:World→CXT} {sp:World→Sp} {x y:Str} {c T:Addr}
  (hn:l.most=some n) (hn2:n≤sizeLine) (hdf:d.params.defaults=[]) (hr:Room k callerA)
  (hY:∀ (w:World) (h:Heap),YP w h→(K w.params).In h) (hrec:(recsOf q).find? (fun e=>e.name == y)=some dT) (htab:∀ w:World,tabIn (K w.params) y=some (c,T)) (hno:∀ w:World,noTabs (K w.params)=true)
  (F:∀ (w:World) (mg:Str→Option Value) (fa:Addr) (h:Heap),(K w.params).In h→h.Ns mainGlobals mg→mg d.name=some (.ref fa) →
   ∃ fd:FuncData,(∀ (s:Shared) (u:Value),BindsTo s fd ⟨[u],[]⟩ [(x,u)]) ∧
    ∀ base:Heap,(K w.params).In base→base.Ns mainGlobals mg→CodeHd base c T→Bm mg base→FnOk l.prog w (K w.params) mg base (CX w) k fa fd [x] (sp w))
  (hsp:∀ (w:World) (H:Hp) (a:Addr) (ns:List Int),ns.length≤n→OnlyT T H→H T=some (.tbl #[])→SqL (K w.params) H a (ns.map V.int)→sp w [.ref a] H (fun v _=>v=.bl true) fun _ _ _=>False)
  (hCX:∀ (w:World) (H:Hp) (s:Shared) (e:Value) (s':Shared),CX w [] H s (fun _ _ _=>False) e s'→False) :
  PySem.W.WalkO q loose XP YP l.row.toRowW d [] (fun f vs=>PySem.call f vs):=by
 refine Att.attach_call hn hdf fun w s₀ s₁ mg mb fa o pm cd doc a vs ns G Y ho hd hcd hmg hobj hints hlen hg=>?_
 have KX:=hY w _ Y
 obtain ⟨fd,hb,hF⟩:=F w mg fa _ KX G.T.g hmg
 obtain ⟨C,hT⟩:=tab_of G.T KX hrec (htab w)
 exact law_callT KX G.T.g G.T.b G.T.builtins G.T.nolimit hg C hT G.T.bmain (hno w) hobj hints (Nat.le_trans hlen hn2) hr hF hb (fun H hO h1 hS=>hsp w H a ns hlen hO h1 hS) fun H e s'=>hCX w H s₁ e s'
end L2
set_option maxHeartbeats 4000000
namespace PySem.AutoSeq1
open PySem PySem.Spec
theorem ext_tup (l:Addr) (xs:Array Value) (n:Nat) (b:Addr) (ys:Array Value) (n2:Nat) (d:Option Addr) (sl:Array (Option Value)) (h0:¬(!xs.isEmpty && Builtin.List.listTooLong (xs.size+ys.size))=true) (h1:xs.size≤sizeLine) (h2:xs.size+ys.size≤sizeLine+1) :
  Meets (Builtin.«list.extend» ⟨[.ref l,.ref b],[]⟩) (fun _ R s=>s.heap.get? l=some ⟨.type "list",none,.seq xs n,#[]⟩∧s.heap.get? b=some ⟨.type "tuple",d,.seq ys n2,sl⟩∧R (.ok (.ret Value.none)) { s with heap:=s.heap.update l (Obj.mapSeq fun x=>x++ys),toks:=s.toks }) :=
 .of_wp fun prog w A R s h=>by
  obtain ⟨hp,g,dr,tk,os⟩:=s
  obtain ⟨hl,hb,h⟩:=h
  have g1:=idx_int; have g2:=sub_tuple_tuple; have g3:=sub_list_list
  have g4:=sub_tuple_list; have g5:=sub_list_tuple
  have hz:(xs++ys).size≤sizeLine+1:=by rw [Array.size_append]; exact h2
  wp_walk using (wpAny_updateSeq hl rfl (hz:=h1) (_hz':=hz)),wpAny_loadPart' hl,wpAny_loadPart' hb
  exact ⟨_,rfl,h⟩
end PySem.AutoSeq1
namespace L2
open PySem PySem.Spec PyProof.Rows
section
variable {X:Cx}
def rExtT:V→List V→Hp→VK→Prop:=fun x vs H Q=>∃ l b xs zs,x=.ref l∧vs=[.ref b]∧H l=some (.lst xs)∧H b=some (.tup zs)∧xs.length+zs.length≤sizeLine∧Q .non (upd H l (.lst (xs++zs)))
theorem mt_extT:MtM X "list.extend" rExtT:=by
 intro pins s σ H x vs v us Q I rx rv h
 obtain ⟨l,b,xs,zs,rfl,rfl,hH,hB,hz,q⟩:=h
 cases rx
 obtain ⟨u,rfl,ru⟩:=rv.one
 cases ru
 obtain ⟨z,its,n,r,hl,e⟩:=I.lstM hH
 obtain ⟨its2,r2,⟨⟨cl,d,dt,sl⟩,e2,c1,n2,c2⟩,_⟩:=I.tuple (SqT.of hB)
 cases c1
 cases c2
 have hl2:=r2.length
 have hsz:its.toArray.size+its2.toArray.size≤sizeLine:=by rw [List.size_toArray,List.size_toArray]; omega
 have hlong:¬ (!its.toArray.isEmpty && Builtin.List.listTooLong (its.toArray.size+its2.toArray.size))=true:=by
  rw [notLongL hsz,Bool.and_false]
  exact Bool.false_ne_true
 refine call_meets F.slot_list_extend ⟨_,e,rfl⟩ F.entry_list_extend (F.args_list_extend_2 _ _) (AutoSeq1.ext_tup l its.toArray n b its2.toArray n2 d sl hlong (by rw [List.size_toArray]; omega) (by omega)) ⟨e,e2,?_⟩
 refine ⟨.non,_,I.lset (its':=its++its2) hH e (by simp) (r.append r2) ?_,rfl,q⟩
 rw [List.length_append]
 omega
end
end L2
namespace Pl
open PySem L2
theorem perm_len {ns:List Int} {n:Nat} (h:ns.Perm (iota n)):ns.length=n:=by rw [h.length_eq,iota_length]
theorem perm_mem {ns:List Int} {n:Nat} (h:ns.Perm (iota n)) {x:Int}:x∈ns↔0≤x∧x<n:=h.mem_iff.trans mem_iota
theorem perm_nodup {ns:List Int} {n:Nat} (h:ns.Perm (iota n)):ns.Nodup:=h.nodup_iff.mpr (iota_nodup n)
theorem perm_ins {ns:List Int} {n:Nat} (h:ns.Perm (iota n)) (g:Nat):(ns.take g++[(n:Int)]++ns.drop g).Perm (iota (n+1)):=by
 rw [iota_succ]
 have h1:(ns.take g++[(n:Int)]++ns.drop g).Perm (ns.take g++ns.drop g++[(n:Int)]):=by
  rw [List.append_assoc,List.append_assoc]
  exact List.Perm.append_left _ List.perm_append_comm
 rw [List.take_append_drop] at h1
 exact h1.trans (h.append_right _)
theorem same_sorted {a b:List Int} (hp:a.Perm b) (ha:a.Pairwise (·≤·)) (hb:b.Pairwise (·≤·)):a=b:=PySem.W.ksm_same hp ha hb
def plc (ns:List Int):List Int:=(iota ns.length).map fun s=>((ns.idxOf s:Nat):Int)
theorem plc_length (ns:List Int):(plc ns).length=ns.length:=by simp [plc,iota_length]
theorem plc_get {ns:List Int} {n:Nat} (h:ns.Perm (iota n)) {s:Nat} (hs:s<n):∃ j:Nat,(plc ns)[s]?=some (j:Int)∧j<n∧ns[j]?=some (s:Int):=by
 have hm:(s:Int)∈ns:=(perm_mem h).mpr (by omega)
 have hl:=perm_len h
 refine ⟨ns.idxOf (s:Int),?_,?_,?_⟩
 ·unfold plc
  rw [List.getElem?_map,hl]
  have:(iota n)[s]?=some (s:Int):=by
   unfold iota
   rw [List.getElem?_map,List.getElem?_range hs]
   rfl
  rw [this]
  rfl
 ·have:=List.idxOf_lt_length_of_mem hm
  omega
 ·have hlt:=List.idxOf_lt_length_of_mem hm
  rw [List.getElem?_eq_getElem hlt,List.getElem_idxOf hlt]
def Fnd (ns:List Int) (i:Nat) (f:List Int):Prop:=f.length=ns.length∧∀ j s,j<i→ns[j]?=some s→f[s.toNat]?=some ((j:Nat):Int)
theorem Fnd.step {ns:List Int} {n i:Nat} {f:List Int} {s:Int} (h:ns.Perm (iota n)) (F:Fnd ns i f) (hs:ns[i]?=some s):Fnd ns (i+1) (f.set s.toNat (i:Int)):=by
 refine ⟨by rw [List.length_set]; exact F.1,fun j t hj ht=>?_⟩
 have ms:=(perm_mem h).mp (List.mem_of_getElem? hs)
 have mt:=(perm_mem h).mp (List.mem_of_getElem? ht)
 have hl:=perm_len h
 by_cases e:j=i
 ·subst e
  rw [hs] at ht
  cases ht
  rw [List.getElem?_set_self (by have:=F.1; omega)]
 ·have ne:t≠s:=fun z=>by
   subst z
   have h1:=(List.getElem?_eq_some_iff.mp ht)
   have h2:=(List.getElem?_eq_some_iff.mp hs)
   obtain ⟨l1,e1⟩:=h1
   obtain ⟨l2,e2⟩:=h2
   have nd:=List.pairwise_iff_getElem.mp (perm_nodup h)
   rcases Nat.lt_or_gt_of_ne e with z | z
   ·exact nd j i l1 l2 z (e1.trans e2.symm)
   ·exact nd i j l2 l1 z (e2.trans e1.symm)
  rw [List.getElem?_set_ne (by omega)]
  exact F.2 j t (by omega) ht
theorem Fnd.eq {ns:List Int} {n:Nat} {f:List Int} (h:ns.Perm (iota n)) (F:Fnd ns n f):f=plc ns:=by
 have hl:=perm_len h
 refine List.ext_getElem? fun s=>?_
 by_cases hs:s<n
 ·obtain ⟨j,h1,h2,h3⟩:=plc_get h hs
  rw [h1]
  exact F.2 j (s:Int) h2 h3
 ·rw [List.getElem?_eq_none (by rw [F.1]; omega),List.getElem?_eq_none (by rw [plc_length]; omega)]
end Pl
namespace Pl
open PySem L2
def wr (ps:List Int) (c s:Nat):Bool:=decide (min (ps.getD c 0) (ps.getD (c+1) 0)<ps.getD s 0) && decide (ps.getD s 0<max (ps.getD c 0) (ps.getD (c+1) 0))
def cr (ps:List Int) (a b:Nat):Bool:=wr ps a b != wr ps a (b+1)
def NoX (ps:List Int):Prop:=∀ a b:Nat,a+2≤b→b+1<ps.length→(b - a) % 2=0→cr ps a b=false
theorem min_if (i j:Int):(if j<i then j else i)=min i j:=by
 rw [Int.min_def]; split <;> split <;> omega
theorem max_if (i j:Int):(if j>i then j else i)=max i j:=by
 rw [Int.max_def]; split <;> split <;> omega
end Pl
namespace Pl
open PySem L2
def turn (ns:List Int) (m:Nat):List Int:=ns.drop m++ns.take m
theorem turn_perm {ns:List Int} {n:Nat} (h:ns.Perm (iota n)) (m:Nat):(turn ns m).Perm (iota n):=by
 have h1:(turn ns m).Perm (ns.take m++ns.drop m):=List.perm_append_comm
 rw [List.take_append_drop] at h1
 exact h1.trans h
def rot (n m j:Int):Int:=if m≤j then j - m else j+n - m
theorem turn_get {ns:List Int} {n m j:Nat} {s:Int} (hl:ns.length=n) (hm:m<n) (hj:ns[j]?=some s):(turn ns m)[(rot n m j).toNat]?=some s:=by
 have hjn:j<n:=by
  have:=(List.getElem?_eq_some_iff.mp hj).1
  omega
 unfold turn rot
 by_cases c:(m:Int)≤j
 ·rw [if_pos c,show ((j:Int) - m).toNat=j - m by omega,List.getElem?_append_left (by rw [List.length_drop]; omega),List.getElem?_drop,show m+(j - m)=j by omega]
  exact hj
 ·rw [if_neg c,show ((j:Int)+n - m).toNat=(n - m)+j by omega,List.getElem?_append_right (by rw [List.length_drop]; omega),List.length_drop,hl,show n - m+j - (n - m)=j by omega,List.getElem?_take_of_lt (by omega)]
  exact hj
theorem nodup_at {ns:List Int} (nd:ns.Nodup) {i j:Nat} {s:Int} (h1:ns[i]?=some s) (h2:ns[j]?=some s):i=j:=by
 obtain ⟨l1,e1⟩:=List.getElem?_eq_some_iff.mp h1
 obtain ⟨l2,e2⟩:=List.getElem?_eq_some_iff.mp h2
 have q:=List.pairwise_iff_getElem.mp nd
 rcases Nat.lt_trichotomy i j with z | z | z
 ·exact absurd (e1.trans e2.symm) (q i j l1 l2 z)
 ·exact z
 ·exact absurd (e2.trans e1.symm) (q j i l2 l1 z)
theorem plc_turn {ns:List Int} {n m s:Nat} (h:ns.Perm (iota n)) (hm:m<n) (hs:s<n):(plc (turn ns m)).getD s 0=rot n m ((plc ns).getD s 0)∧0≤(plc ns).getD s 0∧(plc ns).getD s 0<n:=by
 obtain ⟨j,j1,j2,j3⟩:=plc_get h hs
 obtain ⟨k,k1,k2,k3⟩:=plc_get (turn_perm h m) hs
 have g1:=turn_get (perm_len h) hm j3
 have e:=nodup_at (perm_nodup (turn_perm h m)) k3 g1
 have a1:(plc ns).getD s 0=(j:Int):=by rw [List.getD_eq_getElem?_getD,j1]; rfl
 have a2:(plc (turn ns m)).getD s 0=(k:Int):=by rw [List.getD_eq_getElem?_getD,k1]; rfl
 have hr:0≤rot n m (j:Int):=by unfold rot; split <;> omega
 rw [a1,a2,e]
 omega
theorem plc_ne {ns:List Int} {n s t:Nat} (h:ns.Perm (iota n)) (hs:s<n) (ht:t<n) (hst:s≠t):(plc ns).getD s 0≠(plc ns).getD t 0:=by
 obtain ⟨j,j1,j2,j3⟩:=plc_get h hs
 obtain ⟨k,k1,k2,k3⟩:=plc_get h ht
 have a1:(plc ns).getD s 0=(j:Int):=by rw [List.getD_eq_getElem?_getD,j1]; rfl
 have a2:(plc ns).getD t 0=(k:Int):=by rw [List.getD_eq_getElem?_getD,k1]; rfl
 rw [a1,a2]
 intro e
 have e':j=k:=by omega
 subst e'
 rw [j3] at k3
 injection k3 with k3
 omega
def btw (x y u:Int):Bool:=decide (min x y<u) && decide (u<max x y)
theorem wr_btw (ps:List Int) (c s:Nat):wr ps c s=btw (ps.getD c 0) (ps.getD (c+1) 0) (ps.getD s 0):=rfl
theorem btw_rot {n m x y u:Int} (hm:0≤m) (hm2:m<n) (hx:0≤x∧x<n) (hy:0≤y∧y<n) (hu:0≤u∧u<n) (h1:u≠x) (h2:u≠y) (h3:x≠y) :
  btw (rot n m x) (rot n m y) (rot n m u)=(btw x y u != (decide (x<m) != decide (y<m))):=by
 have key:(btw (rot n m x) (rot n m y) (rot n m u)=true)↔((btw x y u=true)↔((x<m)↔(y<m))):=by
  unfold btw rot
  simp only [Bool.and_eq_true,decide_eq_true_eq,Int.min_def,Int.max_def]
  by_cases c1:m≤x <;> by_cases c2:m≤y <;> by_cases c3:m≤u <;> simp only [c1,c2,c3,if_true,if_false] <;> (split <;> split <;> omega)
 cases e1:btw (rot n m x) (rot n m y) (rot n m u) <;> cases e2:btw x y u <;> by_cases c1:x<m <;> by_cases c2:y<m <;> simp [e1,e2,c1,c2] at key ⊢
theorem cr_turn {ns:List Int} {n m a b:Nat} (h:ns.Perm (iota n)) (hm:m<n) (hab:a+2≤b) (hb:b+1<n):cr (plc (turn ns m)) a b=cr (plc ns) a b:=by
 unfold cr
 rw [wr_btw,wr_btw,wr_btw,wr_btw]
 obtain ⟨e1,x0,x1⟩:=plc_turn (s:=a) h hm (by omega)
 obtain ⟨e2,y0,y1⟩:=plc_turn (s:=a+1) h hm (by omega)
 obtain ⟨e3,u0,u1⟩:=plc_turn (s:=b) h hm (by omega)
 obtain ⟨e4,v0,v1⟩:=plc_turn (s:=b+1) h hm (by omega)
 have d:=fun {s t:Nat} (hs:s<n) (ht:t<n) (hst:s≠t)=>plc_ne h hs ht hst
 rw [e1,e2,e3,e4,btw_rot (by omega) (by omega) ⟨x0,x1⟩ ⟨y0,y1⟩ ⟨u0,u1⟩ (d (by omega) (by omega) (by omega)) (d (by omega) (by omega) (by omega)) (d (by omega) (by omega) (by omega)),
  btw_rot (by omega) (by omega) ⟨x0,x1⟩ ⟨y0,y1⟩ ⟨v0,v1⟩ (d (by omega) (by omega) (by omega)) (d (by omega) (by omega) (by omega)) (d (by omega) (by omega) (by omega))]
 cases btw ((plc ns).getD a 0) ((plc ns).getD (a+1) 0) ((plc ns).getD b 0) <;> cases btw ((plc ns).getD a 0) ((plc ns).getD (a+1) 0) ((plc ns).getD (b+1) 0) <;> cases (decide ((plc ns).getD a 0<(m:Int)) != decide ((plc ns).getD (a+1) 0<(m:Int))) <;> rfl
end Pl
namespace Pl
open PySem L2
def ins (ns:List Int) (g:Nat):List Int:=ns.take g++[(ns.length:Int)]++ns.drop g
theorem ins_perm {ns:List Int} {n:Nat} (h:ns.Perm (iota n)) (g:Nat):(ins ns g).Perm (iota (n+1)):=by
 unfold ins
 rw [perm_len h]
 exact perm_ins h g
def shf (g x:Int):Int:=if g≤x then x+1 else x
theorem ins_get_old {ns:List Int} {g j:Nat} {s:Int} (hg:g≤ns.length) (hj:ns[j]?=some s):(ins ns g)[(shf g j).toNat]?=some s:=by
 have hjn:j<ns.length:=(List.getElem?_eq_some_iff.mp hj).1
 unfold ins shf
 by_cases c:(g:Int)≤j
 ·rw [if_pos c,show ((j:Int)+1).toNat=j+1 by omega,List.getElem?_append_right (by simp; omega)]
  simp only [List.length_append,List.length_take,List.length_singleton,List.getElem?_drop]
  rw [show g+(j+1 - (min g ns.length+1))=j by omega]
  exact hj
 ·rw [if_neg c,show ((j:Int)).toNat=j by omega,List.getElem?_append_left (by simp; omega),List.getElem?_append_left (by simp; omega),List.getElem?_take_of_lt (by omega)]
  exact hj
theorem ins_get_new {ns:List Int} {g:Nat} (hg:g≤ns.length):(ins ns g)[g]?=some (ns.length:Int):=by
 unfold ins
 rw [List.getElem?_append_left (by simp; omega),List.getElem?_append_right (by simp; omega)]
 simp [show g - min g ns.length=0 by omega]
theorem plc_at {ns:List Int} {n s j:Nat} (h:ns.Perm (iota n)) (hs:ns[j]?=some (s:Int)):(plc ns).getD s 0=(j:Int):=by
 have hs':s<n:=by
  have:=(perm_mem h).mp (List.mem_of_getElem? hs)
  omega
 obtain ⟨k,k1,k2,k3⟩:=plc_get h hs'
 have e:=nodup_at (perm_nodup h) k3 hs
 subst e
 rw [List.getD_eq_getElem?_getD,k1]
 rfl
theorem plc_old {ns:List Int} {n g s:Nat} (h:ns.Perm (iota n)) (hg:g≤n) (hs:s<n):(plc (ins ns g)).getD s 0=shf g ((plc ns).getD s 0):=by
 obtain ⟨j,j1,j2,j3⟩:=plc_get h hs
 have e:=ins_get_old (g:=g) (by rw [perm_len h]; exact hg) j3
 rw [plc_at h j3,plc_at (ins_perm h g) e]
 have:0≤shf g (j:Int):=by unfold shf; split <;> omega
 omega
theorem plc_new {ns:List Int} {n g:Nat} (h:ns.Perm (iota n)) (hg:g≤n):(plc (ins ns g)).getD n 0=(g:Int):=by
 have e:=ins_get_new (ns:=ns) (g:=g) (by rw [perm_len h]; exact hg)
 rw [perm_len h] at e
 exact plc_at (ins_perm h g) e
theorem btw_shf (g x y u:Int):btw (shf g x) (shf g y) (shf g u)=btw x y u:=by
 have m:∀ a b:Int,(shf g a<shf g b)↔a<b:=fun a b=>by unfold shf; split <;> split <;> omega
 have key:(btw (shf g x) (shf g y) (shf g u)=true)↔(btw x y u=true):=by
  unfold btw
  simp only [Bool.and_eq_true,decide_eq_true_eq,Int.min_def,Int.max_def]
  by_cases c:x≤y
  ·have c':shf g x≤shf g y:=by unfold shf; split <;> split <;> omega
   rw [if_pos c,if_pos c,if_pos c',if_pos c',m,m]
  ·have c':¬ shf g x≤shf g y:=by unfold shf; split <;> split <;> omega
   rw [if_neg c,if_neg c,if_neg c',if_neg c',m,m]
 exact Bool.eq_iff_iff.mpr key
theorem btw_gap (g x y:Int):btw (shf g x) (shf g y) g=(decide (min x y<g) && decide (g≤max x y)):=by
 have key:(btw (shf g x) (shf g y) g=true)↔((decide (min x y<g) && decide (g≤max x y))=true):=by
  unfold btw shf
  simp only [Bool.and_eq_true,decide_eq_true_eq,Int.min_def,Int.max_def]
  by_cases c1:g≤x <;> by_cases c2:g≤y <;> simp only [c1,c2,if_true,if_false] <;> (repeat' split) <;> omega
 exact Bool.eq_iff_iff.mpr key
def FitG (ps:List Int) (st g:Nat):Prop:=∀ c:Nat,c+1<st→(st+1+c) % 2=0→wr ps c (st - 1)=(decide (min (ps.getD c 0) (ps.getD (c+1) 0)<(g:Int)) && decide ((g:Int)≤max (ps.getD c 0) (ps.getD (c+1) 0)))
theorem wr_old {ns:List Int} {n g c s:Nat} (h:ns.Perm (iota n)) (hg:g≤n) (hc:c+1<n) (hs:s<n):wr (plc (ins ns g)) c s=wr (plc ns) c s:=by
 rw [wr_btw,wr_btw,plc_old h hg (by omega),plc_old h hg hc,plc_old h hg hs,btw_shf]
theorem wr_new {ns:List Int} {n g c:Nat} (h:ns.Perm (iota n)) (hg:g≤n) (hc:c+1<n):wr (plc (ins ns g)) c n=(decide (min ((plc ns).getD c 0) ((plc ns).getD (c+1) 0)<(g:Int)) && decide ((g:Int)≤max ((plc ns).getD c 0) ((plc ns).getD (c+1) 0))):=by
 rw [wr_btw,plc_old h hg (by omega),plc_old h hg hc,plc_new h hg,btw_gap]
theorem nox_ins {ns:List Int} {n g:Nat} (h:ns.Perm (iota n)) (h1:1≤n) (hg:g≤n):NoX (plc (ins ns g))↔(NoX (plc ns)∧FitG (plc ns) n g):=by
 have l1:(plc ns).length=n:=by rw [plc_length,perm_len h]
 have l2:(plc (ins ns g)).length=n+1:=by rw [plc_length,perm_len (ins_perm h g)]
 have bb:∀ a b:Bool,(a != b)=false↔a=b:=by decide
 constructor
 ·intro N
  refine ⟨fun a b hab hb hp=>?_,fun c hc hp=>?_⟩
  ·have:=N a b hab (by omega) hp
   unfold cr at this ⊢
   rw [wr_old h hg (by omega) (by omega),wr_old h hg (by omega) (by omega)] at this
   exact this
  ·have:=N c (n - 1) (by omega) (by omega) (by omega)
   unfold cr at this
   rw [show n - 1+1=n by omega,wr_old h hg (by omega) (by omega),wr_new h hg (by omega),bb] at this
   exact this
 ·rintro ⟨N,F⟩ a b hab hb hp
  unfold cr
  by_cases e:b+1=n
  ·rw [e,wr_old h hg (by omega) (by omega),wr_new h hg (by omega),bb]
   have:=F a (by omega) (by omega)
   rw [show b=n - 1 by omega]
   exact this
  ·rw [wr_old h hg (by omega) (by omega),wr_old h hg (by omega) (by omega)]
   exact N a b hab (by omega) hp
theorem fit_beside {ns:List Int} {n e:Nat} (h:ns.Perm (iota n)) (h1:1≤n) (he:e≤1) {g:Nat} (hg:(g:Int)=(plc ns).getD (n - 1) 0+e):FitG (plc ns) n g:=by
 intro c hc hp
 rw [wr_btw]
 have n1:=plc_ne h (s:=c) (t:=n - 1) (by omega) (by omega) (by omega)
 have n2:=plc_ne h (s:=c+1) (t:=n - 1) (by omega) (by omega) (by omega)
 have key:(btw ((plc ns).getD c 0) ((plc ns).getD (c+1) 0) ((plc ns).getD (n - 1) 0)=true)↔((decide (min ((plc ns).getD c 0) ((plc ns).getD (c+1) 0)<(g:Int)) && decide ((g:Int)≤max ((plc ns).getD c 0) ((plc ns).getD (c+1) 0)))=true):=by
  unfold btw
  rw [hg]
  generalize (plc ns).getD c 0=x at *
  generalize (plc ns).getD (c+1) 0=y at *
  generalize (plc ns).getD (n - 1) 0=u at *
  simp only [Bool.and_eq_true,decide_eq_true_eq,Int.min_def,Int.max_def]
  split <;> omega
 exact Bool.eq_iff_iff.mpr key
end Pl
namespace Pl
open PySem L2
def Dis (ps:List Int):Prop:=∀ s t:Nat,s<ps.length→t<ps.length→s≠t→ps.getD s 0≠ps.getD t 0
theorem dis_plc {ns:List Int} {n:Nat} (h:ns.Perm (iota n)):Dis (plc ns):=by
 intro s t hs ht
 rw [plc_length,perm_len h] at hs ht
 exact plc_ne h hs ht
theorem btw_sym {x y u v:Int} (h1:u≠x) (h2:u≠y) (h3:v≠x) (h4:v≠y):(btw x y u != btw x y v)=(btw u v x != btw u v y):=by
 have key:((btw x y u != btw x y v)=true)↔((btw u v x != btw u v y)=true):=by
  have e:∀ a b:Bool,((a != b)=true)↔¬ ((a=true)↔(b=true)):=by decide
  rw [e,e]
  unfold btw
  simp only [Bool.and_eq_true,decide_eq_true_eq,Int.min_def,Int.max_def]
  (repeat' split) <;> omega
 exact Bool.eq_iff_iff.mpr key
theorem cr_symm {ps:List Int} {a b:Nat} (D:Dis ps) (ha:a+1<ps.length) (hb:b+1<ps.length) (h:a+2≤b∨b+2≤a):cr ps a b=cr ps b a:=by
 unfold cr
 rw [wr_btw,wr_btw,wr_btw,wr_btw]
 exact btw_sym (D _ _ (by omega) (by omega) (by omega)) (D _ _ (by omega) (by omega) (by omega)) (D _ _ (by omega) (by omega) (by omega)) (D _ _ (by omega) (by omega) (by omega))
def wid (ps:List Int) (c:Nat):Int:=max (ps.getD c 0) (ps.getD (c+1) 0) - min (ps.getD c 0) (ps.getD (c+1) 0)
theorem NoX.both {ps:List Int} (N:NoX ps) (D:Dis ps) {a b:Nat} (ha:a+1<ps.length) (hb:b+1<ps.length) (hp:(a+b) % 2=0) (hne:a≠b):cr ps a b=false:=by
 rcases Nat.lt_or_gt_of_ne hne with h | h
 ·exact N a b (by omega) hb (by omega)
 ·rw [cr_symm D ha hb (by omega)]
  exact N b a (by omega) ha (by omega)
theorem wide_free {ps:List Int} (N:NoX ps) (D:Dis ps) {j d:Nat} (hj:j+1<ps.length) (hd:d+1<ps.length) (hp:(d+j) % 2=0) (hw:wid ps d≤wid ps j):wr ps d j=false∧wr ps d (j+1)=false:=by
 by_cases e:d=j
 ·subst e
  constructor
  ·rw [wr_btw]; unfold btw
   simp only [Bool.and_eq_false_iff,decide_eq_false_iff_not,Int.min_def,Int.max_def]
   split <;> omega
  ·rw [wr_btw]; unfold btw
   simp only [Bool.and_eq_false_iff,decide_eq_false_iff_not,Int.min_def,Int.max_def]
   split <;> omega
 ·have h:=N.both D hd hj hp e
  unfold cr at h
  have bb:∀ a b:Bool,(a != b)=false→a=b:=by decide
  have h':=bb _ _ h
  cases q:wr ps d j with
  | false=>exact ⟨rfl,by rw [← h',q]⟩
  | true =>
   exfalso
   have q':=h'.symm.trans q
   rw [wr_btw] at q q'
   unfold btw at q q'
   unfold wid at hw
   simp only [Bool.and_eq_true,decide_eq_true_eq] at q q'
   simp only [Int.min_def,Int.max_def] at q q' hw
   revert q q' hw
   (repeat' split) <;> omega
structure Fre (ps:List Int) (L:Nat→Prop):Prop where
 odd:∀ a b,L a→L b→a<b→(∀ e,a<e→e<b→¬ L e)→(b - a) % 2=1
 up:∀ c d,L c→d<c→(c - d) % 2=0→(∀ e,d≤e→e<c→¬ L e)→wr ps d c=false
 dn:∀ c d,L c→c<d→d+1<ps.length→(d - c) % 2=0→(∀ e,c<e→e≤d→¬ L e)→wr ps d (c+1)=false
theorem Fre.congr {ps:List Int} {L L':Nat→Prop} (F:Fre ps L) (h:∀ c,L c↔L' c):Fre ps L':=by
 have e:L=L':=funext fun c=>propext (h c)
 subst e
 exact F
theorem Fre.none {ps:List Int}:Fre ps (fun _=>False):=⟨fun _ _ h=>h.elim,fun _ _ h=>h.elim,fun _ _ h=>h.elim⟩
theorem Fre.add {ps:List Int} {L L':Nat→Prop} (F:Fre ps L) (sub:∀ c,L c→L' c) (odd:∀ a b,L' a→L' b→a<b→(∀ e,a<e→e<b→¬ L' e)→(b - a) % 2=1)
  (up:∀ c d,L' c→¬ L c→d<c→(c - d) % 2=0→(∀ e,d≤e→e<c→¬ L' e)→wr ps d c=false)
  (dn:∀ c d,L' c→¬ L c→c<d→d+1<ps.length→(d - c) % 2=0→(∀ e,c<e→e≤d→¬ L' e)→wr ps d (c+1)=false):Fre ps L' where
 odd:=odd
 up:=fun c d hc hd hp he=>by
  by_cases q:L c
  ·exact F.up c d q hd hp fun e h1 h2 h3=>he e h1 h2 (sub e h3)
  ·exact up c d hc q hd hp he
 dn:=fun c d hc hd hl hp he=>by
  by_cases q:L c
  ·exact F.dn c d q hd hl hp fun e h1 h2 h3=>he e h1 h2 (sub e h3)
  ·exact dn c d hc q hd hl hp he
theorem Fre.mid {ps:List Int} {L:Nat→Prop} (N:NoX ps) (D:Dis ps) (F:Fre ps L) {a b j i:Nat} (ha:L a) (hb:L b) (hbl:b+1<ps.length) (hno:∀ e,a<e→e<b→¬ L e)
  (j1:a<j) (j2:j<b) (j3:(j - (a+1)) % 2=0) (j4:∀ d,a<d→d<b→(d - (a+1)) % 2=0→wid ps d≤wid ps j)
  (i1:j<i) (i2:i<b) (i3:(i - (j+1)) % 2=0) (i4:∀ d,j<d→d<b→(d - (j+1)) % 2=0→wid ps d≤wid ps i):Fre ps (fun c=>L c∨c=j∨c=i):=by
 have hodd:=F.odd a b ha hb (by omega) hno
 refine F.add (fun c h=>.inl h) ?_ ?_ ?_
 ·intro x y hx hy hxy he
  have nj:¬ (x<j∧j<y):=fun ⟨h1,h2⟩=>he j h1 h2 (.inr (.inl rfl))
  have ni:¬ (x<i∧i<y):=fun ⟨h1,h2⟩=>he i h1 h2 (.inr (.inr rfl))
  have na:¬ (x<a∧a<y):=fun ⟨h1,h2⟩=>he a h1 h2 (.inl ha)
  have nb:¬ (x<b∧b<y):=fun ⟨h1,h2⟩=>he b h1 h2 (.inl hb)
  rcases hx with hx | rfl | rfl <;> rcases hy with hy | rfl | rfl
  ·exact F.odd x y hx hy hxy fun e h1 h2 h3=>he e h1 h2 (.inl h3)
  ·have:¬ (a<x):=fun z=>hno x z (by omega) hx
   omega
  ·have:¬ (a<x):=fun z=>hno x z (by omega) hx
   omega
  ·have:¬ (y<b):=fun z=>hno y (by omega) z hy
   omega
  ·omega
  ·omega
  ·have:¬ (y<b):=fun z=>hno y (by omega) z hy
   omega
  ·omega
  ·omega
 ·intro c d hc hn hd hp he
  have nj:¬ (d≤j∧j<c):=fun ⟨h1,h2⟩=>he j h1 h2 (.inr (.inl rfl))
  have na:¬ (d≤a∧a<c):=fun ⟨h1,h2⟩=>he a h1 h2 (.inl ha)
  rcases hc with hc | rfl | rfl
  ·exact absurd hc hn
  ·exact (wide_free N D (by omega) (by omega) (by omega) (j4 d (by omega) (by omega) (by omega))).1
  ·exact (wide_free N D (by omega) (by omega) (by omega) (i4 d (by omega) (by omega) (by omega))).1
 ·intro c d hc hn hd hl hp he
  have ni:¬ (c<i∧i≤d):=fun ⟨h1,h2⟩=>he i h1 h2 (.inr (.inr rfl))
  have nb:¬ (c<b∧b≤d):=fun ⟨h1,h2⟩=>he b h1 h2 (.inl hb)
  rcases hc with hc | rfl | rfl
  ·exact absurd hc hn
  ·exact (wide_free N D (by omega) (by omega) (by omega) (j4 d (by omega) (by omega) (by omega))).2
  ·exact (wide_free N D (by omega) (by omega) (by omega) (i4 d (by omega) (by omega) (by omega))).2
theorem Fre.first {ps:List Int} {L:Nat→Prop} (N:NoX ps) (D:Dis ps) (F:Fre ps L) {b j:Nat} (hb:L b) (hbl:b+1<ps.length) (hno:∀ e,e<b→¬ L e) (j2:j<b) (j3:(b - j) % 2=1)
  (j4:∀ d,d<b→(b - d) % 2=1→wid ps d≤wid ps j):Fre ps (fun c=>L c∨c=j):=by
 refine F.add (fun c h=>.inl h) ?_ ?_ ?_
 ·intro x y hx hy hxy he
  have nb:¬ (x<b∧b<y):=fun ⟨h1,h2⟩=>he b h1 h2 (.inl hb)
  rcases hx with hx | rfl <;> rcases hy with hy | rfl
  ·exact F.odd x y hx hy hxy fun e h1 h2 h3=>he e h1 h2 (.inl h3)
  ·exact absurd hx (hno x (by omega))
  ·have:¬ (y<b):=fun z=>hno y z hy
   omega
  ·omega
 ·intro c d hc hn hd hp he
  rcases hc with hc | rfl
  ·exact absurd hc hn
  ·exact (wide_free N D (by omega) (by omega) (by omega) (j4 d (by omega) (by omega))).1
 ·intro c d hc hn hd hl hp he
  have nb:¬ (c<b∧b≤d):=fun ⟨h1,h2⟩=>he b h1 h2 (.inl hb)
  rcases hc with hc | rfl
  ·exact absurd hc hn
  ·exact (wide_free N D (by omega) (by omega) (by omega) (j4 d (by omega) (by omega))).2
theorem Fre.last {ps:List Int} {L:Nat→Prop} (N:NoX ps) (D:Dis ps) (F:Fre ps L) {a j:Nat} (ha:L a) (hno:∀ e,a<e→e+1<ps.length→¬ L e) (hL:∀ c,L c→c+1<ps.length) (j1:a<j) (j2:j+1<ps.length) (j3:(j - a) % 2=1)
  (j4:∀ d,a<d→d+1<ps.length→(d - a) % 2=1→wid ps d≤wid ps j):Fre ps (fun c=>L c∨c=j):=by
 refine F.add (fun c h=>.inl h) ?_ ?_ ?_
 ·intro x y hx hy hxy he
  have na:¬ (x<a∧a<y):=fun ⟨h1,h2⟩=>he a h1 h2 (.inl ha)
  rcases hx with hx | rfl <;> rcases hy with hy | rfl
  ·exact F.odd x y hx hy hxy fun e h1 h2 h3=>he e h1 h2 (.inl h3)
  ·have:¬ (a<x):=fun z=>hno x z (hL x hx) hx
   omega
  ·exact absurd hy (hno y (by omega) (hL y hy))
  ·omega
 ·intro c d hc hn hd hp he
  have na:¬ (d≤a∧a<c):=fun ⟨h1,h2⟩=>he a h1 h2 (.inl ha)
  rcases hc with hc | rfl
  ·exact absurd hc hn
  ·exact (wide_free N D (by omega) (by omega) (by omega) (j4 d (by omega) (by omega) (by omega))).1
 ·intro c d hc hn hd hl hp he
  rcases hc with hc | rfl
  ·exact absurd hc hn
  ·exact (wide_free N D (by omega) (by omega) (by omega) (j4 d (by omega) (by omega) (by omega))).2
theorem Fre.whole {ps:List Int} (N:NoX ps) (D:Dis ps) {j:Nat} (j2:j+1<ps.length) (j3:j % 2=0) (j4:∀ d,d+1<ps.length→d % 2=0→wid ps d≤wid ps j):Fre ps (fun c=>c=j):=by
 refine ⟨fun a b ha hb hab=>by omega,fun c d hc hd hp _=>?_,fun c d hc hd hl hp _=>?_⟩
 ·subst hc
  exact (wide_free N D (by omega) (by omega) (by omega) (j4 d (by omega) (by omega))).1
 ·subst hc
  exact (wide_free N D (by omega) (by omega) (by omega) (j4 d (by omega) (by omega))).2
structure Seg (ps:List Int) (f l:Nat):Prop where
 odd:0<f→l+1<ps.length→(l - f) % 2=0
 lo:0<f→∀ d,f≤d→d<l→(d+1 - f) % 2=0→wr ps d f=false
 hi:l+1<ps.length→∀ d,f≤d→d<l→(l - d) % 2=0→wr ps d l=false
structure Part (n:Nat) (L:Nat→Prop) (f l:Nat):Prop where
 le:f≤l
 lt:l<n
 fst:f=0∨∃ c,L c∧f=c+1
 lst:l+1=n∨L l
 no:∀ e,f≤e→e<l→¬ L e
theorem Fre.seg {ps:List Int} {L:Nat→Prop} (hL:∀ c,L c→c+1<ps.length):Fre ps L↔∀ f l,Part ps.length L f l→Seg ps f l:=by
 constructor
 ·intro F f l P
  refine ⟨fun h1 h2=>?_,fun h1 d d1 d2 d3=>?_,fun h1 d d1 d2 d3=>?_⟩
  ·rcases P.fst with z | ⟨c,hc,rfl⟩
   ·omega
   ·rcases P.lst with z | z
    ·omega
    ·have h:=P.le
     have:=F.odd c l hc z (by omega) fun e e1 e2=>P.no e (by omega) e2
     omega
  ·rcases P.fst with z | ⟨c,hc,rfl⟩
   ·omega
   ·have:=P.lt
    exact F.dn c d hc (by omega) (by omega) (by omega) fun e e1 e2=>P.no e (by omega) (by omega)
  ·rcases P.lst with z | z
   ·omega
   ·exact F.up l d z d2 d3 fun e e1 e2=>P.no e (by omega) e2
 ·intro S
  have low:∀ (c m:Nat),L c→m≤c→(∀ e,m≤e→e<c→¬ L e)→∃ f,f≤m∧Part ps.length L f c:=fun c m hc=>by
   induction m with
   | zero=>exact fun _ he=>⟨0,Nat.le_refl _,⟨by omega,by have:=hL c hc; omega,.inl rfl,.inr hc,he⟩⟩
   | succ m ih =>
    intro hm he
    by_cases q:L m
    ·exact ⟨m+1,Nat.le_refl _,⟨hm,by have:=hL c hc; omega,.inr ⟨m,q,rfl⟩,.inr hc,he⟩⟩
    ·obtain ⟨f,f1,f2⟩:=ih (by omega) fun e e1 e2=>by
      by_cases z:e=m
      ·subst z; exact q
      ·exact he e (by omega) e2
     exact ⟨f,by omega,f2⟩
  have high:∀ (c k m:Nat),L c→m+k+1=ps.length→c<m→(∀ e,c<e→e<m→¬ L e)→∃ l,m≤l∧Part ps.length L (c+1) l:=fun c k=>by
   induction k with
   | zero=>exact fun m hc hm hcm he=>⟨m,Nat.le_refl _,⟨by omega,by omega,.inr ⟨c,hc,rfl⟩,.inl (by omega),fun e e1 e2=>he e (by omega) e2⟩⟩
   | succ k ih =>
    intro m hc hm hcm he
    by_cases q:L m
    ·exact ⟨m,Nat.le_refl _,⟨by omega,by omega,.inr ⟨c,hc,rfl⟩,.inr q,fun e e1 e2=>he e (by omega) e2⟩⟩
    ·obtain ⟨l,l1,l2⟩:=ih (m+1) hc (by omega) (by omega) fun e e1 e2=>by
      by_cases z:e=m
      ·subst z; exact q
      ·exact he e e1 (by omega)
     exact ⟨l,by omega,l2⟩
  refine ⟨fun a b ha hb hab he=>?_,fun c d hc hd hp he=>?_,fun c d hc hd hl hp he=>?_⟩
  ·have:=(S (a+1) b ⟨by omega,by have:=hL b hb; omega,.inr ⟨a,ha,rfl⟩,.inr hb,fun e e1 e2=>he e (by omega) e2⟩).odd (by omega) (hL b hb)
   omega
  ·obtain ⟨f,f1,f2⟩:=low c d hc (by omega) he
   exact (S f c f2).hi (hL c hc) d f1 hd hp
  ·obtain ⟨l,l1,l2⟩:=high c (ps.length - 1 - (d+1)) (d+1) hc (by omega) (by omega) fun e e1 e2=>he e e1 (by omega)
   exact (S (c+1) l l2).lo (by omega) d (by omega) (by omega) (by omega)
end Pl
namespace Pl
open PySem L2
theorem part_only {n:Nat} {L:Nat→Prop} {f l f' l':Nat} (P:Part n L f l) (P':Part n L f' l') (h1:f≤l') (h2:l'≤l):f'=f∧l'=l:=by
 have e:l'=l:=by
  rcases P'.lst with z | z
  ·have:=P.lt; omega
  ·by_cases q:l'=l
   ·exact q
   ·exact absurd z (P.no l' h1 (by omega))
 subst e
 refine ⟨?_,rfl⟩
 rcases Nat.lt_trichotomy f' f with z | z | z
 ·rcases P.fst with y | ⟨c,hc,y⟩
  ·omega
  ·have:=P.le
   exact absurd hc (P'.no c (by omega) (by omega))
 ·exact z
 ·rcases P'.fst with y | ⟨c,hc,y⟩
  ·omega
  ·have:=P'.le
   exact absurd hc (P.no c (by omega) (by omega))
def First (ms:List Int) (i first:Nat):Prop:=(i=0∧first=0)∨∃ j p:Nat,i=j+1∧ms[j]?=some (p:Int)∧first=p+1
structure Srt (n:Nat) (L:Nat→Prop) (ms:List Int):Prop where
 mem:∀ x,x∈ms↔∃ c:Nat,L c∧x=(c:Int)
 inc:ms.Pairwise (·<·)
 bnd:∀ c,L c→c+1<n
theorem Srt.lt {n:Nat} {L:Nat→Prop} {ms:List Int} (S:Srt n L ms) {i j:Nat} {x y:Int} (hi:ms[i]?=some x) (hj:ms[j]?=some y) (h:i<j):x<y:=by
 obtain ⟨l1,e1⟩:=List.getElem?_eq_some_iff.mp hi
 obtain ⟨l2,e2⟩:=List.getElem?_eq_some_iff.mp hj
 rw [← e1,← e2]
 exact List.pairwise_iff_getElem.mp S.inc i j l1 l2 h
theorem Srt.le {n:Nat} {L:Nat→Prop} {ms:List Int} (S:Srt n L ms) {i j:Nat} {x y:Int} (hi:ms[i]?=some x) (hj:ms[j]?=some y) (h:i≤j):x≤y:=by
 by_cases e:i=j
 ·subst e
  rw [hi] at hj
  cases hj
  omega
 ·have:=S.lt hi hj (by omega)
  omega
theorem Srt.at {n:Nat} {L:Nat→Prop} {ms:List Int} (S:Srt n L ms) (hn:1≤n) {i first:Nat} (hi:i≤ms.length) (F:First ms i first) :
  ∃ last:Nat,(ms++[((n:Int) - 1)])[i]?=some (last:Int)∧Part n L first last∧(i<ms.length→First ms (i+1) (last+1)∧last+1<n)∧(i=ms.length→last+1=n):=by
 have hF:first=0∨∃ j p:Nat,i=j+1∧ms[j]?=some (p:Int)∧first=p+1∧L p:=by
  rcases F with ⟨_,z⟩ | ⟨j,p,h1,h2,h3⟩
  ·exact .inl z
  ·obtain ⟨c,hc,e⟩:=(S.mem p).mp (List.mem_of_getElem? h2)
   have e':c=p:=by omega
   subst e'
   exact .inr ⟨j,c,h1,h2,h3,hc⟩
 by_cases hk:i<ms.length
 ·obtain ⟨c,hc,e⟩:=(S.mem _).mp (List.getElem_mem hk)
  have hg:ms[i]?=some (c:Int):=by rw [List.getElem?_eq_getElem hk,e]
  have hb:=S.bnd c hc
  refine ⟨c,by rw [List.getElem?_append_left hk]; exact hg,⟨?_,by omega,?_,.inr hc,fun e h1 h2 he=>?_⟩,fun _=>⟨.inr ⟨i,c,rfl,hg,rfl⟩,hb⟩,fun z=>by omega⟩
  ·rcases hF with z | ⟨j,p,h1,h2,h3,h4⟩
   ·omega
   ·have:=S.lt h2 hg (by omega)
    omega
  ·rcases hF with z | ⟨j,p,h1,h2,h3,h4⟩
   ·exact .inl z
   ·exact .inr ⟨p,h4,h3⟩
  ·obtain ⟨q,hq⟩:=List.getElem?_of_mem ((S.mem (e:Int)).mpr ⟨e,he,rfl⟩)
   by_cases hqi:i≤q
   ·have:=S.le hg hq hqi
    omega
   ·rcases hF with z | ⟨j,p,h3,h4,h5,h6⟩
    ·rcases F with ⟨z1,_⟩ | ⟨j,p,_,_,z2⟩
     ·omega
     ·omega
    ·have:=S.le hq h4 (by omega)
     omega
 ·have ei:i=ms.length:=by omega
  refine ⟨n - 1,?_,⟨?_,by omega,?_,.inl (by omega),fun e h1 h2 he=>?_⟩,fun z=>absurd z hk,fun _=>by omega⟩
  ·rw [List.getElem?_append_right (by omega),ei,Nat.sub_self]
   simp
   omega
  ·rcases hF with z | ⟨j,p,h1,h2,h3,h4⟩
   ·omega
   ·have:=S.bnd p h4
    omega
  ·rcases hF with z | ⟨j,p,h1,h2,h3,h4⟩
   ·exact .inl z
   ·exact .inr ⟨p,h4,h3⟩
  ·obtain ⟨q,hq⟩:=List.getElem?_of_mem ((S.mem (e:Int)).mpr ⟨e,he,rfl⟩)
   have hql:=(List.getElem?_eq_some_iff.mp hq).1
   rcases hF with z | ⟨j,p,h3,h4,h5,h6⟩
   ·rcases F with ⟨z1,_⟩ | ⟨j,p,_,_,z2⟩
    ·omega
    ·omega
   ·have:=S.le hq h4 (by omega)
    omega
def Upto (ps:List Int) (L:Nat→Prop) (first:Nat):Prop:=∀ f l,Part ps.length L f l→l<first→Seg ps f l
theorem Upto.zero {ps:List Int} {L:Nat→Prop}:Upto ps L 0:=fun f l _ h=>by omega
theorem Upto.step {ps:List Int} {L:Nat→Prop} {first last:Nat} (U:Upto ps L first) (P:Part ps.length L first last) (S:Seg ps first last):Upto ps L (last+1):=fun f l Q h=>by
 by_cases z:l<first
 ·exact U f l Q z
 ·obtain ⟨e1,e2⟩:=part_only P Q (by omega) (by omega)
  subst e1 e2
  exact S
theorem Upto.fre {ps:List Int} {L:Nat→Prop} (hL:∀ c,L c→c+1<ps.length) (U:Upto ps L ps.length):Fre ps L:=(Fre.seg hL).mpr fun f l P=>U f l P P.lt
theorem seg_of {ps:List Int} {L:Nat→Prop} (hL:∀ c,L c→c+1<ps.length) (F:Fre ps L) {f l:Nat} (P:Part ps.length L f l):Seg ps f l:=(Fre.seg hL).mp F f l P
theorem srt_of {n:Nat} {cs:List Nat} {ms:List Int} (hp:ms.Perm (cs.map fun (c:Nat)=>(c:Int))) (hs:ms.Pairwise (·≤·)) (nd:cs.Nodup) (hb:∀ c∈cs,c+1<n):Srt n (fun c=>c∈cs) ms:=by
 have ndm:ms.Nodup:=hp.nodup_iff.mpr (List.Pairwise.map _ (fun a b h z=>h (by omega)) nd)
 refine ⟨fun x=>?_,?_,hb⟩
 ·rw [hp.mem_iff,List.mem_map]
  constructor
  ·rintro ⟨c,hc,rfl⟩; exact ⟨c,hc,rfl⟩
  ·rintro ⟨c,hc,rfl⟩; exact ⟨c,hc,rfl⟩
 ·exact List.Pairwise.imp₂ (fun a b (h1:a≤b) (h2:a≠b)=>by omega) hs ndm
end Pl
namespace Pl
open PySem L2
end Pl
namespace Pl
open PySem L2
def fstP (ms:List Nat) (j:Nat):Nat:=if j=0 then 0 else ms.getD (j - 1) 0+1
def lstP (n:Nat) (ms:List Nat) (j:Nat):Nat:=if j<ms.length then ms.getD j 0 else n - 1
def endsP (n:Nat) (ms:List Nat):List (Nat×Nat):=(List.range (ms.length+1)).map fun j=>(fstP ms j,lstP n ms j)
theorem endsP_length (n:Nat) (ms:List Nat):(endsP n ms).length=ms.length+1:=by unfold endsP; rw [List.length_map,List.length_range]
theorem endsP_get {n:Nat} {ms:List Nat} {j:Nat} (h:j≤ms.length):(endsP n ms)[j]?=some (fstP ms j,lstP n ms j):=by
 unfold endsP
 rw [List.getElem?_map,List.getElem?_range (by omega)]
 rfl
def likeP (side f l:Nat):List Nat:=((List.range (l - f)).filter fun i=>decide ((f+i) % 2=side % 2)).map fun i=>f+i
theorem mem_likeP {side f l d:Nat}:d∈likeP side f l↔f≤d∧d<l∧d % 2=side % 2:=by
 unfold likeP
 rw [List.mem_map]
 constructor
 ·rintro ⟨i,hi,rfl⟩
  obtain ⟨h1,h2⟩:=List.mem_filter.mp hi
  have:=List.mem_range.mp h1
  have:=of_decide_eq_true h2
  omega
 ·rintro ⟨h1,h2,h3⟩
  exact ⟨d - f,List.mem_filter.mpr ⟨List.mem_range.mpr (by omega),decide_eq_true (by rw [show f+(d - f)=d by omega]; exact h3)⟩,by omega⟩
theorem likeP_length (side f l:Nat):(likeP side f l).length≤l - f:=by
 unfold likeP
 rw [List.length_map]
 refine Nat.le_trans (List.length_filter_le _ _) ?_
 rw [List.length_range]
 exact Nat.le_refl _
theorem inc_get {ms:List Nat} (inc:ms.Pairwise (·<·)) {i j:Nat} (hij:i<j) (hj:j<ms.length):ms.getD i 0<ms.getD j 0:=by
 have:=List.pairwise_iff_getElem.mp inc i j (by omega) hj hij
 simpa [List.getD,hj,show i<ms.length by omega] using this
theorem get_mem {ms:List Nat} {j:Nat} (hj:j<ms.length):ms.getD j 0∈ms:=by
 simp [List.getD,hj]
theorem mem_get {ms:List Nat} {c:Nat} (h:c∈ms):∃ j,j<ms.length∧ms.getD j 0=c:=by
 obtain ⟨j,hj⟩:=List.getElem?_of_mem h
 refine ⟨j,(List.getElem?_eq_some_iff.mp hj).1,?_⟩
 rw [List.getD,hj]
 rfl
theorem inc_below {ms:List Nat} (inc:ms.Pairwise (·<·)) {j e:Nat} (hj:j<ms.length) (he:e∈ms) (lt:e<ms.getD j 0):1≤j∧e≤ms.getD (j - 1) 0:=by
 obtain ⟨i,hi,rfl⟩:=mem_get he
 have hij:i<j:=by
  rcases Nat.lt_trichotomy i j with h | h | h
  ·exact h
  ·subst h; omega
  ·have:=inc_get inc h hi; omega
 refine ⟨by omega,?_⟩
 by_cases h:i=j - 1
 ·rw [h]; exact Nat.le_refl _
 ·exact Nat.le_of_lt (inc_get inc (by omega) (by omega))
theorem inc_above {ms:List Nat} (inc:ms.Pairwise (·<·)) {j e:Nat} (hj:j<ms.length) (he:e∈ms) (lt:ms.getD j 0<e):j+1<ms.length∧ms.getD (j+1) 0≤e:=by
 obtain ⟨i,hi,rfl⟩:=mem_get he
 have hij:j<i:=by
  rcases Nat.lt_trichotomy i j with h | h | h
  ·have:=inc_get inc h hj; omega
  ·subst h; omega
  ·exact h
 refine ⟨by omega,?_⟩
 by_cases h:i=j+1
 ·rw [h]; exact Nat.le_refl _
 ·exact Nat.le_of_lt (inc_get inc (by omega) hi)
structure Looks (ps:List Int) (n:Nat) (ms:List Nat):Prop where
 odd:∀ j,1≤j→j<ms.length→(lstP n ms j - fstP ms j) % 2=0
 up:∀ j,j<ms.length→∀ d∈likeP (ms.getD j 0) (fstP ms j) (ms.getD j 0),wr ps d (ms.getD j 0)=false
 dn:∀ j,j<ms.length→∀ d∈likeP (ms.getD j 0) (ms.getD j 0+1) (lstP n ms (j+1)),wr ps d (ms.getD j 0+1)=false
theorem looks_iff {ps:List Int} {n:Nat} {ms:List Nat} (hl:ps.length=n) (inc:ms.Pairwise (·<·)) (bnd:∀ c∈ms,c+1<n):Looks ps n ms↔Fre ps (fun c=>c∈ms):=by
 constructor
 ·intro k
  refine ⟨fun a b ha hb hab no=>?_,fun c d hc hd hp no=>?_,fun c d hc hd hn hp no=>?_⟩
  ·obtain ⟨j,hj,rfl⟩:=mem_get hb
   obtain ⟨j1,hle⟩:=inc_below inc hj ha hab
   have hlt:=inc_get inc (show j - 1<j by omega) hj
   have ea:a=ms.getD (j - 1) 0:=by
    rcases Nat.lt_or_ge a (ms.getD (j - 1) 0) with h | h
    ·exact absurd (get_mem (show j - 1<ms.length by omega)) (no _ h hlt)
    ·omega
   have:=k.odd j j1 hj
   unfold lstP fstP at this
   rw [if_pos hj,if_neg (by omega)] at this
   omega
  ·obtain ⟨j,hj,rfl⟩:=mem_get hc
   refine k.up j hj d (mem_likeP.mpr ⟨?_,hd,by omega⟩)
   unfold fstP
   split
   ·omega
   ·have hlt:=inc_get inc (show j - 1<j by omega) hj
    rcases Nat.lt_or_ge (ms.getD (j - 1) 0) d with h | h
    ·exact h
    ·exact absurd (get_mem (show j - 1<ms.length by omega)) (no _ h hlt)
  ·obtain ⟨j,hj,rfl⟩:=mem_get hc
   refine k.dn j hj d (mem_likeP.mpr ⟨hd,?_,by omega⟩)
   unfold lstP
   split
   ·rename_i hj2
    have hlt:=inc_get inc (show j<j+1 by omega) hj2
    rcases Nat.lt_or_ge d (ms.getD (j+1) 0) with h | h
    ·exact h
    ·exact absurd (get_mem hj2) (no _ hlt h)
   ·omega
 ·intro F
  refine ⟨fun j j1 hj=>?_,fun j hj d hd=>?_,fun j hj d hd=>?_⟩
  ·have hlt:=inc_get inc (show j - 1<j by omega) hj
   have:=F.odd (ms.getD (j - 1) 0) (ms.getD j 0) (get_mem (by omega)) (get_mem hj) hlt fun e h1 h2 h3=>by
    have:=(inc_below inc hj h3 h2).2
    omega
   unfold lstP fstP
   rw [if_pos hj,if_neg (by omega)]
   omega
  ·obtain ⟨h1,h2,h3⟩:=mem_likeP.mp hd
   refine F.up _ d (get_mem hj) h2 (by omega) fun e e1 e2 e3=>?_
   obtain ⟨j1,hle⟩:=inc_below inc hj e3 e2
   unfold fstP at h1
   rw [if_neg (by omega)] at h1
   omega
  ·obtain ⟨h1,h2,h3⟩:=mem_likeP.mp hd
   have hb:=bnd _ (get_mem hj)
   refine F.dn _ d (get_mem hj) (by omega) ?_ (by omega) fun e e1 e2 e3=>?_
   ·unfold lstP at h2
    split at h2
    ·rename_i hj2
     have:=bnd _ (get_mem hj2)
     omega
    ·omega
   ·obtain ⟨j2,hle⟩:=inc_above inc hj e3 e1
    unfold lstP at h2
    rw [if_pos j2] at h2
    omega
theorem fst_le {n:Nat} {ms:List Nat} (inc:ms.Pairwise (·<·)) (bnd:∀ c∈ms,c+1<n) (h1:1≤n) {j:Nat} (hj:j≤ms.length):fstP ms j≤lstP n ms j∧lstP n ms j<n:=by
 unfold fstP lstP
 split
 ·split
  ·rename_i h
   have:=bnd _ (get_mem h)
   omega
  ·omega
 ·split
  ·rename_i h
   have:=bnd _ (get_mem h)
   have:=inc_get inc (show j - 1<j by omega) h
   omega
  ·have:=bnd _ (get_mem (show j - 1<ms.length by omega))
   omega
end Pl
namespace Sf
open PySem L2 Pl
def top (i:Nat):Stmt:=PySem.Challenge.pw_stripfold_k07_whole_drawn_apart.main.body.getD i (.Pass ⟨0,0,0,0⟩)
abbrev sCheck:Stmt:=top 7
abbrev sPlaces:Stmt:=top 8
abbrev sWraps:Stmt:=top 10
abbrev sCross:Stmt:=top 11
abbrev sCrossing:Stmt:=top 12
abbrev s_foldable_places:Stmt:=top 13
abbrev s_check_creases:Stmt:=top 15
abbrev s_ends_of_parts:Stmt:=top 16
abbrev s_creases_like:Stmt:=top 17
abbrev s_wrapped_within:Stmt:=top 18
abbrev s_inner_parts_odd:Stmt:=top 19
abbrev s_lies_free:Stmt:=top 20
abbrev s_widest_like:Stmt:=top 21
abbrev s_step_within:Stmt:=top 22
abbrev s_opening:Stmt:=top 23
abbrev s_Bench:Stmt:=top 25
abbrev sDrawn:Stmt:=top 27
abbrev sNumber:Stmt:=top 28
abbrev sCounts:Stmt:=top 29
abbrev sSize:Stmt:=top 30
abbrev sLPlaces:Stmt:=top 31
abbrev sFits:Stmt:=top 32
abbrev sGood:Stmt:=top 33
abbrev sLWraps:Stmt:=top 34
abbrev sHeld:Stmt:=top 35
abbrev sLFree:Stmt:=top 36
abbrev s_law_step:Stmt:=top 37
abbrev s_law_row:Stmt:=top 38
abbrev s_law_apart:Stmt:=top 39
abbrev s_law_pressed:Stmt:=top 40
abbrev sLaw:Stmt:=top 41
end Sf
namespace Sf
open PySem L2 Pl
structure Own (mg:Str→Option Value):Prop where
 len:mg "len"=none
 sorted:mg "sorted"=none
 list:mg "list"=none
 range:mg "range"=none
 enumerate:mg "enumerate"=none
 isinstance:mg "isinstance"=none
 int:mg "int"=none
 str:mg "str"=none
structure Def (K:PySem.W.Frag) (mg:Str→Option Value) (x:Str) (st:Stmt) (ps:List Str) (f:Addr) (fd:FuncData):Prop where
 fn:Fun K x x st f fd
 bd:Binds K fd ps []
 at_:mg x=some (.ref f)
theorem boot_list:bootBuiltins "list"=some (.type "list"):=by decide +kernel
theorem boot_range':bootBuiltins "range"=some (.type "range"):=by decide +kernel
theorem boot_int:bootBuiltins "int"=some (.type "int"):=by decide +kernel
theorem boot_isinstance:bootBuiltins "isinstance"=some (.builtin "isinstance"):=by decide +kernel
theorem same_new {H:Hp} {p:Addr} {o:HO} (h:H p=none):Same H (upd H p o):=fun b u e=>by rw [upd_ne (ne_of_none e h)]; exact e
theorem small_line {n:Nat} (h:n≤1000):n≤sizeLine:=Nat.le_of_lt (small1000 h)
theorem at_int {ps:List Int} {c:Nat} (h:c<ps.length):atI (ps.map V.int) (c:Int)=some (.int (ps.getD c 0)):=by
 refine atI_nat ?_
 rw [List.getElem?_map,List.getElem?_eq_getElem h]
 simp [List.getD,h]
theorem rep0 (n:Nat):(List.replicate n ([V.int 0]:List V)).flatten=(List.replicate n (0:Int)).map V.int:=by
 induction n with
 | zero=>rfl
 | succ n ih =>
  rw [List.replicate_succ,List.flatten_cons,ih,List.replicate_succ,List.map_cons]
  rfl
def spCheck (K:PySem.W.Frag):Sp:=fun vs H Q _=>∃ (p:Addr) (ns:List Int) (n:Nat),vs=[.ref p]∧SqL K H p (ns.map V.int)∧ns.Perm (iota n)∧1≤n∧n≤60∧∀ H',Same H H'→Q .non H'
def spPlaces (K:PySem.W.Frag):Sp:=fun vs H Q _=>∃ (p:Addr) (ns:List Int) (n:Nat),vs=[.ref p]∧SqL K H p (ns.map V.int)∧ns.Perm (iota n)∧1≤n∧n≤60∧∀ l H',Same H H'→H l=none→H' l=some (.lst ((plc ns).map V.int))→Q (.ref l) H'
section
variable {P:Program} {w:World} {K:PySem.W.Frag} {mg:Str→Option Value} {base:Heap}
theorem scCheck:FnScope ["pile"] ["pile"] (defScope sCheck):=⟨rfl,rfl,rfl,by decide +kernel,rfl,by decide +kernel,by decide +kernel⟩
theorem ok_check {f:Addr} {fd:FuncData} (D:Def K mg "check_pile" sCheck ["pile"] f fd) (T:Own mg):FnOk P w K mg base CX0 1 f fd ["pile"] (spCheck K):=by
 refine D.fn.ok scCheck (fun vs H Q E h=>?_) (fun cdv A outer s H vs Q E hr h=>?_)
 ·obtain ⟨p,ns,n,rfl,_⟩:=h
  rfl
 ·obtain ⟨p,ns,n,rfl,hq,hp,h1,h2,k⟩:=h
  have hl:=perm_len hp
  refine ⟨_,pss_one (ps_if (pw_or (pt_cmpR op_eq (pe_callB call_len_seq (by rfl) T.len PySem.boot_len (pa_cons (pv 0) pa_nil)) pe_int (nomark _))
   (pw_or1 (pt_cmpR (op_ne_lst hr.units0) (pe_callB call_sorted (by rfl) T.sorted PyProof.Rows.boot_sorted (pa_cons (pv 0) pa_nil))
    (pe_callTy (call_list_rng rfl) (by rfl) T.list boot_list (pa_cons (pe_callTy call_range1 (by rfl) T.range boot_range' (pa_cons (pe_callB call_len_seq (by rfl) T.len PySem.boot_len (pa_cons (pv 0) pa_nil)) pa_nil)) pa_nil)) (nomark _)))).pt
   pss_never pss_nil),?_⟩
  refine ⟨_,rfl,p,_,rfl,.inl hq,rfl,_,rfl,?_⟩
  rw [List.length_map,hl]
  refine ite2 (fun z=>?_) (fun _=>?_)
  ·exfalso
   have:=of_decide_eq_true z
   injection this with this
   omega
  ·refine ⟨_,rfl,p,ns,rfl,hq,by omega,fun l ms hl1 pm so=>?_⟩
   have e:ms=iota n:=same_sorted (pm.trans hp) so (iota_sorted n)
   subst e
   have s1:=same_new (o:=.lst ((iota n).map V.int)) hl1
   refine ⟨_,rfl,p,_,rfl,.inl (s1.seq hq),_,rfl,fun r hr1=>?_⟩
   have s2:=same_new (o:=.rng 0 ((ns.map V.int).length:Int)) hr1
   rw [List.length_map,hl] at s2 ⊢
   refine ⟨r,0,(n:Int),rfl,upd_same,by omega,by omega,by omega,by omega,by omega,fun l2 hl2=>?_⟩
   have s3:=same_new (o:=.lst (rngV 0 ((n:Int) - 0).toNat)) hl2
   refine ⟨l,l2,_,_,rfl,rfl,SqL.of (s3 _ _ (s2 _ _ upd_same)),SqL.of upd_same,flat_ints _,?_,?_⟩
   ·rw [show ((n:Int) - 0).toNat=n by omega,rngV_iota]; exact flat_ints _
   ·rw [show ((n:Int) - 0).toNat=n by omega,rngV_iota,eqVs_ints]
    refine ⟨_,rfl,?_⟩
    simp only [decide_true,if_true,Bool.not_true]
    refine iteF ?_
    rw [show ((n:Int) - 0).toNat=n by omega,rngV_iota] at s3
    exact k _ (s1.trans (s2.trans s3))
theorem scPlaces:FnScope ["pile","found","place","stamp"] ["pile"] (defScope sPlaces):=⟨rfl,rfl,rfl,by decide +kernel,rfl,by decide +kernel,by decide +kernel⟩
theorem ok_places {f fC:Addr} {fd fdC:FuncData} (D:Def K mg "places" sPlaces ["pile"] f fd) (DC:Def K mg "check_pile" sCheck ["pile"] fC fdC) (T:Own mg):FnOk P w K mg base CX0 2 f fd ["pile"] (spPlaces K):=by
 have GC:FnOk P w K mg base CX0 1 fC fdC ["pile"] (spCheck K):=ok_check DC T
 refine D.fn.ok scPlaces (fun vs H Q E h=>?_) (fun cdv A outer s H vs Q E hr h=>?_)
 ·obtain ⟨p,ns,n,rfl,_⟩:=h
  rfl
 ·obtain ⟨p,ns,n,rfl,hq,hp,h1,h2,k⟩:=h
  have hl:=perm_len hp
  refine ⟨_,pss_cons (ps_expr (pe_call GC hr rfl DC.at_ DC.fn.kp DC.bd .nil pass0 (pa_cons (pv 0) pa_nil)))
   (pss_cons (ps_set (i:=1) scPlaces.nd rfl (Or.inl rfl) (pe_op op_rep (pe_lst (pa_cons pe_int pa_nil)) (pe_callB call_len_seq (by rfl) T.len PySem.boot_len (pa_cons (pv 0) pa_nil))))
   (pss_cons (ps_for PassesOwn.never rfl (pi_enum rfl T.enumerate (pa_cons (pv 0) pa_nil))
     (pg_tup rfl (pgs_cons (pg_name (i:=2) scPlaces.nd rfl (Or.inl rfl)) (pgs_cons (pg_name (i:=3) scPlaces.nd rfl (Or.inl rfl)) pgs_nil)))
     (pss_one (ps_asg (pv 2) (pg_sub (pv 1) (pv 3) set_list))))
   (pss_one (ps_ret (pv 1))))),?_⟩
  refine ⟨_,rfl,p,ns,n,rfl,hq,hp,h1,h2,fun H1 s1=>?_⟩
  refine ⟨small_line (by decide),fun z hz=>⟨_,rfl,p,_,rfl,.inl ((same_new hz).seq (s1.seq hq)),z,_,[.int 0],rfl,rfl,upd_same,?_,?_,?_,fun l hl2=>?_⟩⟩
  ·rw [List.length_map]; omega
  ·rw [List.length_map]; omega
  ·rw [List.length_map,hl]; exact small_line (by simp; omega)
  have s2:Same H _:=s1.trans ((same_new hz).trans (same_new (o:=.lst ((List.replicate n (0:Int)).map V.int)) hl2))
  rw [List.length_map,hl,show ((n:Int)).toNat=n by omega,rep0]
  have hlH:H l=none:=(s1.trans (same_new hz)).free hl2
  refine ⟨_,rfl,p,rfl,⟨_,s2.seq hq⟩,for_enum (K:=K) (a:=p) (xs:=ns.map V.int) (fun i σ H2=>∃ (fs:List Int) (v u:Option V),σ=[some (.ref p),some (.ref l),v,u]∧Same H H2∧H2 l=some (.lst (fs.map V.int))∧Fnd ns i fs)
   ⟨_,none,none,rfl,s2,upd_same,by simp [hl],fun j s hj=>by omega⟩ (fun i σ H2 _ ⟨_,_,_,_,s3,_⟩=>s3.seq hq) ?_ ?_⟩
  ·rintro i y t σ H2 hi ht ⟨fs,v,u,rfl,s3,hf,F⟩
   rw [List.getElem?_map] at hi
   cases e:ns[i]? with
   | none=>rw [e] at hi; cases hi
   | some x =>
    rw [e] at hi
    cases hi
    have hx:=(perm_mem hp).mp (List.mem_of_getElem? e)
    have nt:l≠t:=ne_of_none hf ht
    have hfl:=F.1
    have ht2:(upd H2 t (.tup [.int (i:Nat),.int x])) l=some (.lst (fs.map V.int)):=by rw [upd_ne nt]; exact hf
    refine ⟨t,_,rfl,SqT.of upd_same,rfl,_,_,rfl,_,_,rfl,rfl,_,rfl,_,rfl,_,rfl,l,_,x,x.toNat,rfl,rfl,ht2,?_,?_⟩
    ·rw [List.length_map]
     unfold ixN
     rw [if_pos hx.1,if_pos (by omega)]
    ·refine ⟨fs.set x.toNat (i:Int),_,_,rfl,fun b o eb=>?_,?_,F.step hp e⟩
     ·have nb:b≠l:=ne_of_none eb hlH
      rw [upd_ne nb]
      exact same_new ht b o (s3 b o eb)
     ·rw [upd_same,List.map_set]
  ·rintro σ H2 ⟨fs,v,u,rfl,s3,hf,F⟩
   rw [List.length_map,hl] at F
   have e:=F.eq hp
   subst e
   exact ⟨_,rfl,k l H2 s3 hlH hf⟩
end
end Sf
namespace Sf
open PySem L2 Pl
def spDrawn (K:PySem.W.Frag):Sp:=fun vs H Q _=>∃ (a:Addr) (ns:List Int) (k:Nat),vs=[.ref a,.int (k:Int)]∧SqL K H a (ns.map V.int)∧Q (.int (ns.getD k 0)) H
def spNumber (K:PySem.W.Frag):Sp:=fun vs H Q _=>∃ (a:Addr) (ns:List Int) (k:Nat),vs=[.ref a,.int (k:Int)]∧SqL K H a (ns.map V.int)∧k≤100000∧∀ v H',Same H H'→0≤v→v<2147483647→Q (.int v) H'
def spCounts:Sp:=fun vs H Q _=>∃ i,vs=[.int i]∧Q (.bl true) H
def spSize:Sp:=fun vs H Q _=>∃ c,vs=[.int c]∧∀ (n:Nat) H',Same H H'→1≤n→n≤60→Q (.int (n:Int)) H'
theorem cut_take (xs:List V) {g:Nat} (hg:g≤xs.length):cutV xs none (some (g:Int))=xs.take g:=by
 unfold cutV
 rw [HT.sIx_none,HT.sIx_nat,Nat.min_eq_left hg]
 rfl
theorem cut_drop (xs:List V) {g:Nat} (hg:g≤xs.length):cutV xs (some (g:Int)) none=xs.drop g:=by
 unfold cutV
 rw [HT.sIx_none,HT.sIx_nat,Nat.min_eq_left hg,List.take_of_length_le (by rw [List.length_drop]; omega)]
section
variable {P:Program} {w:World} {K:PySem.W.Frag} {mg:Str→Option Value} {base:Heap}
theorem scDrawn:FnScope ["_law_script","_law_k"] ["_law_script","_law_k"] (defScope sDrawn):=⟨rfl,rfl,rfl,by decide +kernel,rfl,by decide +kernel,by decide +kernel⟩
theorem ok_drawn {f:Addr} {fd:FuncData} (D:Def K mg "_law_drawn" sDrawn ["_law_script","_law_k"] f fd) (T:Own mg):FnOk P w K mg base CX0 1 f fd ["_law_script","_law_k"] (spDrawn K):=by
 refine D.fn.ok scDrawn (fun vs H Q E h=>?_) (fun cdv A outer s H vs Q E hr h=>?_)
 ·obtain ⟨a,ns,k,rfl,_⟩:=h
  rfl
 ·obtain ⟨a,ns,k,rfl,hq,q⟩:=h
  refine ⟨_,pss_one (ps_ret (pe_ifExp (pt_cmpR op_lt (pv 1) (pe_callB call_len_seq (by rfl) T.len PySem.boot_len (pa_cons (pv 0) pa_nil)) (nomark _)) (pe_ix ix_list (pv 0) (pv 1) (fun _ _=>rfl)) pe_int)),?_⟩
  refine ⟨_,rfl,_,rfl,a,_,rfl,.inl hq,_,_,rfl,rfl,_,rfl,?_⟩
  rw [List.length_map]
  refine ite2 (fun z=>?_) (fun z=>?_)
  ·have z':=of_decide_eq_true z
   exact ⟨_,rfl,_,rfl,a,_,_,_,rfl,rfl,hq,at_int (by omega),q⟩
  ·have z':¬ ((k:Int)<ns.length):=fun y=>z (decide_eq_true y)
   have e:ns.getD k 0=0:=by
    rw [List.getD_eq_getElem?_getD,List.getElem?_eq_none (by omega)]
    rfl
   rw [e] at q
   exact q
theorem scNumber:FnScope ["_law_script","_law_k","_law_cell"] ["_law_script","_law_k"] (defScope sNumber):=⟨rfl,rfl,rfl,by decide +kernel,rfl,by decide +kernel,by decide +kernel⟩
theorem ok_number {f:Addr} {fd:FuncData} (D:Def K mg "_law_number" sNumber ["_law_script","_law_k"] f fd) (T:Own mg):FnOk P w K mg base CX0 1 f fd ["_law_script","_law_k"] (spNumber K):=by
 refine D.fn.ok scNumber (fun vs H Q E h=>?_) (fun cdv A outer s H vs Q E hr h=>?_)
 ·obtain ⟨a,ns,k,rfl,_⟩:=h
  rfl
 ·obtain ⟨a,ns,k,rfl,hq,hk,q⟩:=h
  refine ⟨_,pss_cons (ps_set (i:=2) scNumber.nd rfl (Or.inl rfl) (pe_op op_add (pe_op op_mul (pe_op op_mul (pv 1) (pv 1)) pe_int) (pv 1)))
   (pss_cons (ps_if (pt_cmpR op_lt (pv 1) (pe_callB call_len_seq (by rfl) T.len PySem.boot_len (pa_cons (pv 0) pa_nil)) (nomark _))
    (pss_one (ps_set (i:=2) scNumber.nd rfl (Or.inl rfl) (pe_ix ix_list (pv 0) (pv 1) (fun _ _=>rfl))))
    (pss_one (ps_if (pt_cmpR (op_ne_lst hr.units0) (pv 0) (pe_lst pa_nil) (nomark _))
     (pss_one (ps_set (i:=2) scNumber.nd rfl (Or.inl rfl) (pe_op op_add (pv 2) (pe_ix ix_list (pv 0) (pe_op op_mod (pv 1) (pe_callB call_len_seq (by rfl) T.len PySem.boot_len (pa_cons (pv 0) pa_nil))) (fun _ _=>rfl)))))
     pss_nil)))
   (pss_one (ps_ret (pe_op op_mod (pe_op op_mul (pv 2) pe_int) pe_int)))),?_⟩
  have last:∀ (c:Int) H',Same H H'→tRet (tOp (rI (fun _ j=>0<j) fun i j=>V.int (i % j)) (tOp (rI CMul fun i j=>V.int (i * j)) (tVar 2) (tC (.int 48271))) (tC (.int 2147483647))) { nx:=fun _ H'=>Q .non H',rt:=Q } [some (.ref a),some (.int (k:Int)),some (.int c)] H':=fun c H' s' =>
   ⟨_,rfl,_,_,rfl,rfl,.inr ⟨by decide,by decide⟩,_,_,rfl,rfl,(by show (0:Int)<2147483647; decide),q _ H' s' (Int.emod_nonneg _ (by decide)) (Int.emod_lt_of_pos _ (by decide))⟩
  have kb:-(2 ^ 64)<(k:Int)∧(k:Int)<2 ^ 64:=by constructor <;> omega
  have kk:-(2 ^ 64)<(k:Int) * (k:Int)∧(k:Int) * (k:Int)<2 ^ 64:=by
   have h1:(k:Int) * (k:Int)≤100000 * 100000:=Int.mul_le_mul (by omega) (by omega) (by omega) (by omega)
   have h2:0≤(k:Int) * (k:Int):=Int.mul_nonneg (by omega) (by omega)
   constructor <;> omega
  refine ⟨_,rfl,_,rfl,_,_,rfl,rfl,.inl kb,_,_,rfl,rfl,.inl kk,_,rfl,_,_,rfl,rfl,?_⟩
  refine ⟨_,rfl,_,rfl,a,_,rfl,.inl hq,_,_,rfl,rfl,_,rfl,?_⟩
  rw [List.length_map]
  refine ite2 (fun z=>?_) (fun z=>?_)
  ·have z':=of_decide_eq_true z
   exact ⟨_,rfl,_,rfl,a,_,_,_,rfl,rfl,hq,at_int (by omega),last _ H (Same.refl H)⟩
  ·refine ⟨_,rfl,small_line (by decide),fun e he=>⟨a,e,_,_,rfl,rfl,(same_new he).seq hq,SqL.of upd_same,flat_ints _,rfl,_,rfl,?_⟩⟩
   have s1:=same_new (o:=.lst []) he
   refine ite2 (fun y=>?_) (fun y=>?_)
   ·have hne:ns≠[]:=fun z=>by subst z; cases y
    have hpos:0<ns.length:=List.length_pos_iff.mpr hne
    have it:atI (ns.map V.int) ((k:Int) % ((ns.map V.int).length:Int))=some (.int (ns.getD (k % ns.length) 0)):=by
     rw [List.length_map]
     have e:=at_int (ps:=ns) (c:=k % ns.length) (Nat.mod_lt _ hpos)
     rw [Int.natCast_emod] at e
     exact e
    refine ⟨_,rfl,_,rfl,_,rfl,_,rfl,a,_,rfl,.inl (s1.seq hq),_,_,rfl,rfl,?_,a,_,_,_,rfl,rfl,s1.seq hq,it,_,_,rfl,rfl,last _ _ s1⟩
    rw [List.length_map]
    omega
   ·exact last _ _ s1
theorem scCounts:FnScope ["_law_thing"] ["_law_thing"] (defScope sCounts):=⟨rfl,rfl,rfl,by decide +kernel,rfl,by decide +kernel,by decide +kernel⟩
theorem ok_counts {f:Addr} {fd:FuncData} (D:Def K mg "_law_counts" sCounts ["_law_thing"] f fd) (T:Own mg):FnOk P w K mg base CX0 1 f fd ["_law_thing"] spCounts:=by
 refine D.fn.ok scCounts (fun vs H Q E h=>?_) (fun cdv A outer s H vs Q E hr h=>?_)
 ·obtain ⟨i,rfl,_⟩:=h
  rfl
 ·obtain ⟨i,rfl,q⟩:=h
  refine ⟨_,pss_one (ps_ret (pe_and (pe_callB call_isinst (by rfl) T.isinstance boot_isinstance (pa_cons (pv 0) (pa_cons (pe_bltn (by rfl) T.int boot_int (v:=.ty "int") rfl) pa_nil)))
   (pe_and (pe_cmpR op_notB (pv 0) pe_bl (nomark _)) (pe_one (pe_cmpR op_notB (pv 0) pe_bl (nomark _)))))),?_⟩
  refine ⟨_,rfl,_,"int",_,true,rfl,.int i,rfl,true,rfl,iteT ?_⟩
  refine ⟨_,rfl,true,rfl,.inl ⟨i,rfl,true,rfl,iteT ?_⟩⟩
  exact ⟨_,rfl,false,rfl,.inl ⟨i,rfl,q⟩⟩
theorem scSize:FnScope ["_law_cell"] ["_law_cell"] (defScope sSize):=⟨rfl,rfl,rfl,by decide +kernel,rfl,by decide +kernel,by decide +kernel⟩
theorem ok_size {f:Addr} {fd:FuncData} (D:Def K mg "_law_size" sSize ["_law_cell"] f fd):FnOk P w K mg base CX0 1 f fd ["_law_cell"] spSize:=by
 refine D.fn.ok scSize (fun vs H Q E h=>?_) (fun cdv A outer s H vs Q E hr h=>?_)
 ·obtain ⟨i,rfl,_⟩:=h
  rfl
 ·obtain ⟨c,rfl,q⟩:=h
  refine ⟨_,pss_one (ps_ret (pe_op op_add pe_int (pe_op op_mod (pe_op op_fdiv (pv 0) pe_int) (pe_ix ix_list (pe_lst (pa_cons pe_int (pa_cons pe_int (pa_cons pe_int (pa_cons pe_int (pa_cons pe_int (pa_cons pe_int (pa_cons pe_int (pa_cons pe_int pa_nil)))))))))
   (pe_op op_mod (pv 0) pe_int) (fun _ _=>rfl))))),?_⟩
  refine ⟨_,rfl,_,_,rfl,rfl,⟨by decide,by decide⟩,small_line (by decide),fun l hl=>⟨_,rfl,_,_,rfl,rfl,(by show (0:Int)<8; decide),?_⟩⟩
  have h0:=Int.emod_nonneg c (show (8:Int)≠0 by decide)
  have h8:=Int.emod_lt_of_pos c (show (0:Int)<8 by decide)
  have key:∃ m:Int,atI ([V.int 6,.int 9,.int 17,.int 9,.int 17,.int 12,.int 30,.int 60]:List V) (c % 8)=some (.int m)∧0<m∧m≤60:=by
   have:c % 8=0∨c % 8=1∨c % 8=2∨c % 8=3∨c % 8=4∨c % 8=5∨c % 8=6∨c % 8=7:=by omega
   rcases this with h | h | h | h | h | h | h | h <;> rw [h] <;> exact ⟨_,rfl,by decide,by decide⟩
  obtain ⟨m,e,m1,m2⟩:=key
  refine ⟨l,_,_,_,rfl,rfl,SqL.of upd_same,e,_,_,rfl,rfl,m1,_,_,rfl,rfl,?_⟩
  have b0:=Int.emod_nonneg (c / 8) (show m≠0 by omega)
  have b1:=Int.emod_lt_of_pos (c / 8) m1
  have e3:=Int.toNat_of_nonneg (show 0≤1+c / 8 % m by omega)
  show Q (V.int (1+c / 8 % m)) _
  rw [← e3]
  exact q _ _ (same_new hl) (by omega) (by omega)
end
end Sf
namespace Sf
open PySem L2 Pl
theorem boot_min:bootBuiltins "min"=some (.builtin "min"):=by decide +kernel
theorem boot_max:bootBuiltins "max"=some (.builtin "max"):=by decide +kernel
structure OwnM (mg:Str→Option Value):Prop where
 min:mg "min"=none
 max:mg "max"=none
def spWraps (K:PySem.W.Frag):Sp:=fun vs H Q _=>∃ (l:Addr) (ps:List Int) (c s:Nat),vs=[.ref l,.int (c:Int),.int (s:Int)]∧SqL K H l (ps.map V.int)∧c+1<ps.length∧s<ps.length∧Q (.bl (wr ps c s)) H
def spCross (K:PySem.W.Frag):Sp:=fun vs H Q _=>∃ (l:Addr) (ps:List Int) (a b:Nat),vs=[.ref l,.int (a:Int),.int (b:Int)]∧SqL K H l (ps.map V.int)∧a+1<ps.length∧b+1<ps.length∧Q (.bl (cr ps a b)) H
def spCrossing (K:PySem.W.Frag):Sp:=fun vs H Q _=>∃ (p:Addr) (ns:List Int) (n:Nat),vs=[.ref p]∧SqL K H p (ns.map V.int)∧ns.Perm (iota n)∧1≤n∧n≤60 ∧
 (∀ H',Same H H'→NoX (plc ns)→Q .non H')∧∀ (t:Addr) (a b:Nat) H',Same H H'→H t=none→H' t=some (.tup [.int (a:Int),.int (b:Int)])→a+2≤b→b+1<n→(b - a) % 2=0→cr (plc ns) a b=true→Q (.ref t) H'
def spLPlaces (K:PySem.W.Frag):Sp:=fun vs H Q _=>∃ (p:Addr) (ns:List Int) (n:Nat),vs=[.ref p]∧SqL K H p (ns.map V.int)∧ns.Perm (iota n)∧n≤60∧∀ l H',Same H H'→H l=none→H' l=some (.lst ((plc ns).map V.int))→Q (.ref l) H'
section
variable {P:Program} {w:World} {K:PySem.W.Frag} {mg:Str→Option Value} {base:Heap}
theorem scWraps:FnScope ["at","crease","stamp","low","high"] ["at","crease","stamp"] (defScope sWraps):=⟨rfl,rfl,rfl,by decide +kernel,rfl,by decide +kernel,by decide +kernel⟩
theorem ok_wraps {f:Addr} {fd:FuncData} (D:Def K mg "wraps" sWraps ["at","crease","stamp"] f fd) (M:OwnM mg):FnOk P w K mg base CX0 1 f fd ["at","crease","stamp"] (spWraps K):=by
 refine D.fn.ok scWraps (fun vs H Q E h=>?_) (fun cdv A outer s H vs Q E hr h=>?_)
 ·obtain ⟨l,ps,c,s',rfl,_⟩:=h
  rfl
 ·obtain ⟨l,ps,c,s',rfl,hq,h1,h2,k⟩:=h
  refine ⟨_,pss_cons (ps_set (i:=3) scWraps.nd rfl (Or.inl rfl) (pe_callB (call_min2 rfl) (by rfl) M.min boot_min (pa_cons (pe_ix ix_list (pv 0) (pv 1) (fun _ _=>rfl)) (pa_cons (pe_ix ix_list (pv 0) (pe_op op_add (pv 1) pe_int) (fun _ _=>rfl)) pa_nil))))
   (pss_cons (ps_set (i:=4) scWraps.nd rfl (Or.inl rfl) (pe_callB (call_max2 rfl) (by rfl) M.max boot_max (pa_cons (pe_ix ix_list (pv 0) (pv 1) (fun _ _=>rfl)) (pa_cons (pe_ix ix_list (pv 0) (pe_op op_add (pv 1) pe_int) (fun _ _=>rfl)) pa_nil))))
   (pss_one (ps_ret (pe_and (pe_cmpR op_lt (pv 3) (pe_ix ix_list (pv 0) (pv 2) (fun _ _=>rfl)) (nomark _)) (pe_one (pe_cmpR op_lt (pe_ix ix_list (pv 0) (pv 2) (fun _ _=>rfl)) (pv 4) (nomark _))))))),?_⟩
  have e0:=at_int (ps:=ps) (c:=c) (by omega)
  have e1:=at_int (ps:=ps) (c:=c+1) h1
  have e2:=at_int (ps:=ps) (c:=s') h2
  refine ⟨_,rfl,_,rfl,l,_,_,_,rfl,rfl,hq,e0,_,rfl,_,rfl,_,_,rfl,rfl,l,_,_,_,rfl,rfl,hq,e1,_,_,rfl,?_⟩
  rw [min_if]
  refine ⟨_,rfl,_,rfl,l,_,_,_,rfl,rfl,hq,e0,_,rfl,_,rfl,_,_,rfl,rfl,l,_,_,_,rfl,rfl,hq,e1,_,_,rfl,?_⟩
  rw [max_if]
  unfold wr at k
  refine ⟨_,rfl,_,rfl,_,rfl,l,_,_,_,rfl,rfl,hq,e2,_,_,rfl,rfl,_,rfl,?_⟩
  refine ite2 (fun z=>?_) (fun z=>?_)
  ·rw [z,Bool.true_and] at k
   exact ⟨_,rfl,_,rfl,l,_,_,_,rfl,rfl,hq,e2,_,rfl,_,_,rfl,rfl,k⟩
  ·rw [Bool.eq_false_iff.mpr z,Bool.false_and] at k
   exact k
theorem scCross:FnScope ["at","one","other"] ["at","one","other"] (defScope sCross):=⟨rfl,rfl,rfl,by decide +kernel,rfl,by decide +kernel,by decide +kernel⟩
theorem ok_cross {f fW:Addr} {fd fdW:FuncData} (D:Def K mg "cross" sCross ["at","one","other"] f fd) (DW:Def K mg "wraps" sWraps ["at","crease","stamp"] fW fdW) (M:OwnM mg):FnOk P w K mg base CX0 2 f fd ["at","one","other"] (spCross K):=by
 have GW:FnOk P w K mg base CX0 1 fW fdW ["at","crease","stamp"] (spWraps K):=ok_wraps DW M
 refine D.fn.ok scCross (fun vs H Q E h=>?_) (fun cdv A outer s H vs Q E hr h=>?_)
 ·obtain ⟨l,ps,a,b,rfl,_⟩:=h
  rfl
 ·obtain ⟨l,ps,a,b,rfl,hq,h1,h2,k⟩:=h
  refine ⟨_,pss_one (ps_ret (pe_cmpR op_ne (pe_call GW hr rfl DW.at_ DW.fn.kp DW.bd .nil pass0 (pa_cons (pv 0) (pa_cons (pv 1) (pa_cons (pv 2) pa_nil))))
   (pe_call GW hr rfl DW.at_ DW.fn.kp DW.bd .nil pass0 (pa_cons (pv 0) (pa_cons (pv 1) (pa_cons (pe_op op_add (pv 2) pe_int) pa_nil)))) (nomark _))),?_⟩
  refine ⟨_,rfl,_,rfl,_,rfl,l,ps,a,b,rfl,hq,h1,by omega,_,rfl,_,rfl,_,rfl,_,_,rfl,rfl,l,ps,a,b+1,rfl,hq,h1,h2,rfl,?_⟩
  rw [dec_bl]
  exact k
theorem scCrossing:FnScope ["pile","at","creases","one","other"] ["pile"] (defScope sCrossing):=⟨rfl,rfl,rfl,by decide +kernel,rfl,by decide +kernel,by decide +kernel⟩
theorem ok_crossing {f fC fP fW fX:Addr} {fd fdC fdP fdW fdX:FuncData} (D:Def K mg "crossing" sCrossing ["pile"] f fd) (DP:Def K mg "places" sPlaces ["pile"] fP fdP) (DC:Def K mg "check_pile" sCheck ["pile"] fC fdC)
  (DX:Def K mg "cross" sCross ["at","one","other"] fX fdX) (DW:Def K mg "wraps" sWraps ["at","crease","stamp"] fW fdW) (T:Own mg) (M:OwnM mg):FnOk P w K mg base CX0 3 f fd ["pile"] (spCrossing K):=by
 have GP:FnOk P w K mg base CX0 2 fP fdP ["pile"] (spPlaces K):=ok_places DP DC T
 have GX:FnOk P w K mg base CX0 2 fX fdX ["at","one","other"] (spCross K):=ok_cross DX DW M
 refine D.fn.ok scCrossing (fun vs H Q E h=>?_) (fun cdv A outer s H vs Q E hr h=>?_)
 ·obtain ⟨p,ns,n,rfl,_⟩:=h
  rfl
 ·obtain ⟨p,ns,n,rfl,hq,hp,h1,h2,kN,kT⟩:=h
  have hl:=perm_len hp
  have pl:=plc_length ns
  refine ⟨_,pss_cons (ps_set (i:=1) scCrossing.nd rfl (Or.inl rfl) (pe_call GP hr rfl DP.at_ DP.fn.kp DP.bd .nil pass0 (pa_cons (pv 0) pa_nil)))
   (pss_cons (ps_set (i:=2) scCrossing.nd rfl (Or.inl rfl) (pe_op op_sub (pe_callB call_len_seq (by rfl) T.len PySem.boot_len (pa_cons (pv 1) pa_nil)) pe_int))
   (pss_cons (ps_for PassesOwn.never rfl (pi_range1 rfl T.range (pa_cons (pv 2) pa_nil)) (pg_name (i:=3) scCrossing.nd rfl (Or.inl rfl))
    (pss_one (ps_for PassesOwn.never rfl (pi_range3 rfl T.range (pa_cons (pe_op op_add (pv 3) pe_int) (pa_cons (pv 2) (pa_cons pe_int pa_nil)))) (pg_name (i:=4) scCrossing.nd rfl (Or.inl rfl))
     (pss_one (ps_if (pt_val (pe_call GX hr (by rfl) DX.at_ DX.fn.kp DX.bd .nil pass0 (pa_cons (pv 1) (pa_cons (pv 3) (pa_cons (pv 4) pa_nil))))) (pss_one (ps_ret (pe_tup (pa_cons (pv 3) (pa_cons (pv 4) pa_nil))))) pss_nil)))))
   (pss_one (ps_ret pe_non)))),?_⟩
  refine ⟨_,rfl,p,ns,n,rfl,hq,hp,h1,h2,fun la H1 s1 hla0 hla=>?_⟩
  refine ⟨_,rfl,la,_,rfl,.inl (SqL.of hla),_,_,rfl,rfl,?_⟩
  rw [List.length_map,pl,hl]
  refine ⟨_,rfl,_,rfl,by omega,by omega,for_range (lo:=0) (n:=((n:Int) - 1).toNat) (fun i σ H2=>∃ (v u:Option V),σ=[some (.ref p),some (.ref la),some (.int ((n:Int) - 1)),v,u]∧Same H1 H2 ∧
    ∀ a b:Nat,a<i→a+2≤b→b+1<n→(b - a) % 2=0→cr (plc ns) a b=false) ⟨none,none,rfl,Same.refl _,fun a b ha=>by omega⟩ ?_ ?_⟩
  ·rintro i σ H2 hi ⟨v,u,rfl,s2,hno⟩
   refine ⟨_,rfl,_,_,rfl,rfl,_,rfl,_,_,rfl,⟨by omega,by omega,by omega,by omega⟩,for_step (lo:=0+(i:Int)+2) (c:=2) (n:=half2 (0+(i:Int)+2) ((n:Int) - 1)) (fun j σ H3=>∃ (u:Option V),σ=[some (.ref p),some (.ref la),some (.int ((n:Int) - 1)),some (.int (0+(i:Int))),u]∧Same H1 H3 ∧
    ∀ t:Nat,t<j→cr (plc ns) i (i+2+2 * t)=false) ⟨_,rfl,s2,fun t ht=>by omega⟩ ?_ ?_⟩
   ·rintro j σ H3 hj ⟨u,rfl,s3,hj2⟩
    have hj':i+2+2 * j+1<n:=by unfold half2 at hj; omega
    refine ⟨_,rfl,_,rfl,_,rfl,la,plc ns,i,i+2+2 * j,?_,SqL.of (s3 _ _ hla),by omega,by omega,_,rfl,?_⟩
    ·have e:(0+(i:Int)+2+(j:Nat) * 2)=((i+2+2 * j:Nat):Int):=by omega
     rw [e]
     simp
    refine ite2 (fun z=>?_) (fun z=>?_)
    ·refine ⟨_,rfl,_,rfl,small_line (by show 2≤1000; decide),fun t ht=>?_⟩
     have s3':=s1.trans s3
     refine kT t i (i+2+2 * j) _ (s3'.trans (same_new ht)) (s3'.free ht) ?_ (by omega) hj' (by omega) z
     have e:(0+(i:Int)+2+(j:Nat) * 2)=((i+2+2 * j:Nat):Int):=by omega
     rw [upd_same,e]
     simp
    ·refine ⟨_,rfl,s3,fun t ht=>?_⟩
     by_cases e:t=j
     ·rw [e]; exact Bool.eq_false_iff.mpr z
     ·exact hj2 t (by omega)
   ·rintro σ H3 ⟨u,rfl,s3,hj2⟩
    refine ⟨_,_,rfl,s3,fun a b ha hab hb hpar=>?_⟩
    by_cases e:a=i
    ·subst e
     have:=hj2 ((b - a - 2) / 2) (by unfold half2; omega)
     rw [show a+2+2 * ((b - a - 2) / 2)=b by omega] at this
     exact this
    ·exact hno a b (by omega) hab hb hpar
  ·rintro σ H2 ⟨v,u,rfl,s2,hno⟩
   exact kN H2 (s1.trans s2) fun a b hab hb hpar=>hno a b (by rw [pl,hl] at hb; omega) hab (by rw [pl,hl] at hb; exact hb) hpar
end
end Sf
namespace Sf
open PySem L2 Pl
abbrev Fit:=@FitG
theorem nox_one:NoX (plc [0]):=fun a b hab hb=>by have e:(plc [0]).length=1:=rfl; omega
def spFits (K:PySem.W.Frag):Sp:=fun vs H Q _=>∃ (l:Addr) (ps:List Int) (st g:Nat),vs=[.ref l,.int (st:Int),.int (g:Int)]∧SqL K H l (ps.map V.int)∧ps.length=st∧1≤st∧st≤60∧∀ b:Bool,(b=true↔Fit ps st g)→Q (.bl b) H
def spGood (K:PySem.W.Frag):Sp:=fun vs H Q _=>∃ (a:Addr) (ns:List Int) (st n:Nat),vs=[.ref a,.int (st:Int),.int (n:Int)]∧SqL K H a (ns.map V.int)∧st≤1000∧1≤n∧n≤60 ∧
 ∀ (l:Addr) (ms:List Int) H',Same H H'→H l=none→ms.Perm (iota n)→NoX (plc ms)→H' l=some (.lst (ms.map V.int))→Q (.ref l) H'
def forBody (s:Stmt):List Stmt:=match s with
 | .For _ _ b _ _=>b
 | _=>[]
section
variable {P:Program} {w:World} {K:PySem.W.Frag} {mg:Str→Option Value} {base:Heap}
theorem scLWraps:FnScope ["_law_at","_law_crease","_law_stamp","_law_low","_law_high"] ["_law_at","_law_crease","_law_stamp"] (defScope sLWraps):=⟨rfl,rfl,rfl,by decide +kernel,rfl,by decide +kernel,by decide +kernel⟩
theorem ok_lwraps {f:Addr} {fd:FuncData} (D:Def K mg "_law_wraps" sLWraps ["_law_at","_law_crease","_law_stamp"] f fd) (M:OwnM mg):FnOk P w K mg base CX0 1 f fd ["_law_at","_law_crease","_law_stamp"] (spWraps K):=by
 refine D.fn.ok scLWraps (fun vs H Q E h=>?_) (fun cdv A outer s H vs Q E hr h=>?_)
 ·obtain ⟨l,ps,c,s',rfl,_⟩:=h
  rfl
 ·obtain ⟨l,ps,c,s',rfl,hq,h1,h2,k⟩:=h
  refine ⟨_,pss_cons (ps_set (i:=3) scLWraps.nd rfl (Or.inl rfl) (pe_callB (call_min2 rfl) (by rfl) M.min boot_min (pa_cons (pe_ix ix_list (pv 0) (pv 1) (fun _ _=>rfl)) (pa_cons (pe_ix ix_list (pv 0) (pe_op op_add (pv 1) pe_int) (fun _ _=>rfl)) pa_nil))))
   (pss_cons (ps_set (i:=4) scLWraps.nd rfl (Or.inl rfl) (pe_callB (call_max2 rfl) (by rfl) M.max boot_max (pa_cons (pe_ix ix_list (pv 0) (pv 1) (fun _ _=>rfl)) (pa_cons (pe_ix ix_list (pv 0) (pe_op op_add (pv 1) pe_int) (fun _ _=>rfl)) pa_nil))))
   (pss_one (ps_ret (pe_and (pe_cmpR op_lt (pv 3) (pe_ix ix_list (pv 0) (pv 2) (fun _ _=>rfl)) (nomark _)) (pe_one (pe_cmpR op_lt (pe_ix ix_list (pv 0) (pv 2) (fun _ _=>rfl)) (pv 4) (nomark _))))))),?_⟩
  have e0:=at_int (ps:=ps) (c:=c) (by omega)
  have e1:=at_int (ps:=ps) (c:=c+1) h1
  have e2:=at_int (ps:=ps) (c:=s') h2
  refine ⟨_,rfl,_,rfl,l,_,_,_,rfl,rfl,hq,e0,_,rfl,_,rfl,_,_,rfl,rfl,l,_,_,_,rfl,rfl,hq,e1,_,_,rfl,?_⟩
  rw [min_if]
  refine ⟨_,rfl,_,rfl,l,_,_,_,rfl,rfl,hq,e0,_,rfl,_,rfl,_,_,rfl,rfl,l,_,_,_,rfl,rfl,hq,e1,_,_,rfl,?_⟩
  rw [max_if]
  unfold wr at k
  refine ⟨_,rfl,_,rfl,_,rfl,l,_,_,_,rfl,rfl,hq,e2,_,_,rfl,rfl,_,rfl,?_⟩
  refine ite2 (fun z=>?_) (fun z=>?_)
  ·rw [z,Bool.true_and] at k
   exact ⟨_,rfl,_,rfl,l,_,_,_,rfl,rfl,hq,e2,_,rfl,_,_,rfl,rfl,k⟩
  ·rw [Bool.eq_false_iff.mpr z,Bool.false_and] at k
   exact k
theorem scLPlaces:FnScope ["_law_pile","_law_at","_law_k"] ["_law_pile"] (defScope sLPlaces):=⟨rfl,rfl,rfl,by decide +kernel,rfl,by decide +kernel,by decide +kernel⟩
theorem ok_lplaces {f:Addr} {fd:FuncData} (D:Def K mg "_law_places" sLPlaces ["_law_pile"] f fd) (T:Own mg):FnOk P w K mg base CX0 1 f fd ["_law_pile"] (spLPlaces K):=by
 refine D.fn.ok scLPlaces (fun vs H Q E h=>?_) (fun cdv A outer s H vs Q E hr h=>?_)
 ·obtain ⟨p,ns,n,rfl,_⟩:=h
  rfl
 ·obtain ⟨p,ns,n,rfl,hq,hp,h2,k⟩:=h
  have hl:=perm_len hp
  refine ⟨_,pss_cons (ps_set (i:=1) scLPlaces.nd rfl (Or.inl rfl) (pe_op op_rep (pe_lst (pa_cons pe_int pa_nil)) (pe_callB call_len_seq (by rfl) T.len PySem.boot_len (pa_cons (pv 0) pa_nil))))
   (pss_cons (ps_for PassesOwn.never rfl (pi_range1 rfl T.range (pa_cons (pe_callB call_len_seq (by rfl) T.len PySem.boot_len (pa_cons (pv 0) pa_nil)) pa_nil)) (pg_name (i:=2) scLPlaces.nd rfl (Or.inl rfl))
     (pss_one (ps_asg (pv 2) (pg_sub (pv 1) (pe_ix ix_list (pv 0) (pv 2) (fun _ _=>rfl)) set_list))))
   (pss_one (ps_ret (pv 1)))),?_⟩
  refine ⟨small_line (by decide),fun z hz=>⟨_,rfl,p,_,rfl,.inl ((same_new hz).seq hq),z,_,[.int 0],rfl,rfl,upd_same,?_,?_,?_,fun l hl2=>?_⟩⟩
  ·rw [List.length_map]; omega
  ·rw [List.length_map]; omega
  ·rw [List.length_map,hl]; exact small_line (by simp; omega)
  have s2:Same H _:=(same_new hz).trans (same_new (o:=.lst ((List.replicate n (0:Int)).map V.int)) hl2)
  rw [List.length_map,hl,show ((n:Int)).toNat=n by omega,rep0]
  have hlH:H l=none:=(same_new hz).free hl2
  refine ⟨_,rfl,p,_,rfl,.inl (s2.seq hq),_,rfl,?_,?_,?_⟩
  ·rw [List.length_map]; omega
  ·rw [List.length_map]; omega
  refine for_range (lo:=0) (n:=(((ns.map V.int).length:Nat):Int).toNat) (fun i σ H2=>∃ (fs:List Int) (v:Option V),σ=[some (.ref p),some (.ref l),v]∧Same H H2∧H2 l=some (.lst (fs.map V.int))∧Fnd ns i fs)
   ⟨_,none,rfl,s2,upd_same,by simp [hl],fun j s hj=>by omega⟩ ?_ ?_
  ·rintro i σ H2 hi ⟨fs,v,rfl,s3,hf,F⟩
   rw [List.length_map,hl] at hi
   obtain ⟨x,e⟩:∃ x,ns[i]?=some x:=⟨_,List.getElem?_eq_getElem (show i<ns.length by omega)⟩
   have hx:=(perm_mem hp).mp (List.mem_of_getElem? e)
   have hfl:=F.1
   have ge:atI (ns.map V.int) (0+(i:Int))=some (.int x):=by
    rw [Int.zero_add]
    exact atI_nat (by rw [List.getElem?_map,e]; rfl)
   refine ⟨_,rfl,_,rfl,_,rfl,_,rfl,p,_,_,_,rfl,rfl,s3.seq hq,ge,l,_,x,x.toNat,rfl,rfl,hf,?_,?_⟩
   ·rw [List.length_map]
    unfold ixN
    rw [if_pos hx.1,if_pos (by omega)]
   ·refine ⟨fs.set x.toNat (i:Int),_,rfl,fun b o eb=>?_,?_,F.step hp e⟩
    ·rw [upd_ne (ne_of_none eb hlH)]
     exact s3 b o eb
    ·rw [upd_same,List.map_set,Int.zero_add]
  ·rintro σ H2 ⟨fs,v,rfl,s3,hf,F⟩
   rw [List.length_map,hl,show ((n:Int)).toNat=n by omega] at F
   have e:=F.eq hp
   subst e
   exact ⟨_,rfl,k l H2 s3 hlH hf⟩
theorem scFits:FnScope ["_law_at","_law_stamp","_law_gap","_law_crease","_law_low","_law_high"] ["_law_at","_law_stamp","_law_gap"] (defScope sFits):=⟨rfl,rfl,rfl,by decide +kernel,rfl,by decide +kernel,by decide +kernel⟩
theorem ok_fits {f:Addr} {fd:FuncData} (D:Def K mg "_law_fits" sFits ["_law_at","_law_stamp","_law_gap"] f fd) (T:Own mg) (M:OwnM mg):FnOk P w K mg base CX0 1 f fd ["_law_at","_law_stamp","_law_gap"] (spFits K):=by
 refine D.fn.ok scFits (fun vs H Q E h=>?_) (fun cdv A outer s H vs Q E hr h=>?_)
 ·obtain ⟨l,ps,st,g,rfl,_⟩:=h
  rfl
 ·obtain ⟨l,ps,st,g,rfl,hq,hl,h1,h2,k⟩:=h
  refine ⟨_,pss_cons (ps_for PassesOwn.never rfl (pi_range3 rfl T.range (pa_cons (pe_op op_mod (pe_op op_add (pv 1) pe_int) pe_int) (pa_cons (pe_op op_sub (pv 1) pe_int) (pa_cons pe_int pa_nil)))) (pg_name (i:=3) scFits.nd rfl (Or.inl rfl))
    (pss_cons (ps_set (i:=4) scFits.nd rfl (Or.inl rfl) (pe_callB (call_min2 rfl) (by rfl) M.min boot_min (pa_cons (pe_ix ix_list (pv 0) (pv 3) (fun _ _=>rfl)) (pa_cons (pe_ix ix_list (pv 0) (pe_op op_add (pv 3) pe_int) (fun _ _=>rfl)) pa_nil))))
    (pss_cons (ps_set (i:=5) scFits.nd rfl (Or.inl rfl) (pe_callB (call_max2 rfl) (by rfl) M.max boot_max (pa_cons (pe_ix ix_list (pv 0) (pv 3) (fun _ _=>rfl)) (pa_cons (pe_ix ix_list (pv 0) (pe_op op_add (pv 3) pe_int) (fun _ _=>rfl)) pa_nil))))
    (pss_one (ps_if (pt_cmpR op_ne
      (pe_and (pe_cmpR op_lt (pv 4) (pe_ix ix_list (pv 0) (pe_op op_sub (pv 1) pe_int) (fun _ _=>rfl)) (nomark _)) (pe_one (pe_cmpR op_lt (pe_ix ix_list (pv 0) (pe_op op_sub (pv 1) pe_int) (fun _ _=>rfl)) (pv 5) (nomark _))))
      (pe_and (pe_cmpR op_lt (pv 4) (pv 2) (nomark _)) (pe_one (pe_cmpR op_le (pv 2) (pv 5) (nomark _)))) (nomark _)) (pss_one (ps_ret pe_bl)) pss_nil)))))
   (pss_one (ps_ret pe_bl)),?_⟩
  have m0:=Int.emod_nonneg ((st:Int)+1) (show (2:Int)≠0 by decide)
  have m1:=Int.emod_lt_of_pos ((st:Int)+1) (show (0:Int)<2 by decide)
  obtain ⟨m,hm⟩:∃ m:Nat,((st:Int)+1) % 2=(m:Int):=⟨(((st:Int)+1) % 2).toNat,by omega⟩
  refine ⟨_,rfl,_,_,rfl,rfl,_,_,rfl,rfl,(by show (0:Int)<2; decide),_,rfl,_,_,rfl,rfl,?_⟩
  show ∃ i j:Int,[V.int (((st:Int)+1) % 2),V.int ((st:Int) - 1),V.int 2]=[.int i,.int j,.int 2]∧_
  rw [hm]
  refine ⟨_,_,rfl,⟨by omega,by omega,by omega,by omega⟩,for_step (lo:=(m:Int)) (c:=2) (n:=half2 (m:Int) ((st:Int) - 1)) (fun j σ H2=>∃ (u v w':Option V),σ=[some (.ref l),some (.int (st:Int)),some (.int (g:Int)),u,v,w']∧H2=H ∧
    ∀ t:Nat,t<j→wr ps (m+2 * t) (st - 1)=(decide (min (ps.getD (m+2 * t) 0) (ps.getD (m+2 * t+1) 0)<(g:Int)) && decide ((g:Int)≤max (ps.getD (m+2 * t) 0) (ps.getD (m+2 * t+1) 0))))
   ⟨_,_,_,rfl,rfl,fun t ht=>by omega⟩ ?_ ?_⟩
  ·rintro j σ H2 hj ⟨u,v,w',rfl,rfl,hj2⟩
   have hj':m+2 * j+1<st:=by unfold half2 at hj; omega
   have ec:((m:Int)+(j:Nat) * 2)=((m+2 * j:Nat):Int):=by omega
   rw [ec]
   have e0:=at_int (ps:=ps) (c:=m+2 * j) (by omega)
   have e1:atI (ps.map V.int) (((m+2 * j:Nat):Int)+1)=some (.int (ps.getD (m+2 * j+1) 0)):=at_int (c:=m+2 * j+1) (by omega)
   have e2:atI (ps.map V.int) ((st:Int) - 1)=some (.int (ps.getD (st - 1) 0)):=by
    have:=at_int (ps:=ps) (c:=st - 1) (by omega)
    rw [show ((st - 1:Nat):Int)=(st:Int) - 1 by omega] at this
    exact this
   refine ⟨_,rfl,_,rfl,l,_,_,_,rfl,rfl,hq,e0,_,rfl,_,rfl,_,_,rfl,rfl,l,_,_,_,rfl,rfl,hq,e1,_,_,rfl,?_⟩
   rw [min_if]
   refine ⟨_,rfl,_,rfl,l,_,_,_,rfl,rfl,hq,e0,_,rfl,_,rfl,_,_,rfl,rfl,l,_,_,_,rfl,rfl,hq,e1,_,_,rfl,?_⟩
   rw [max_if]
   have fin:∀ x y:Bool,x=wr ps (m+2 * j) (st - 1)→y=(decide (min (ps.getD (m+2 * j) 0) (ps.getD (m+2 * j+1) 0)<(g:Int)) && decide ((g:Int)≤max (ps.getD (m+2 * j) 0) (ps.getD (m+2 * j+1) 0))) →
     if (!decide (V.bl x=V.bl y))=true then Q (.bl false) H2 else ∃ (u v w':Option V),([some (V.ref l),some (.int (st:Int)),some (.int (g:Int)),some (.int ((m+2 * j:Nat):Int)),some (.int (min (ps.getD (m+2 * j) 0) (ps.getD (m+2 * j+1) 0))),some (.int (max (ps.getD (m+2 * j) 0) (ps.getD (m+2 * j+1) 0)))]:St)=[some (.ref l),some (.int (st:Int)),some (.int (g:Int)),u,v,w']∧H2=H2 ∧
      ∀ t:Nat,t<j+1→wr ps (m+2 * t) (st - 1)=(decide (min (ps.getD (m+2 * t) 0) (ps.getD (m+2 * t+1) 0)<(g:Int)) && decide ((g:Int)≤max (ps.getD (m+2 * t) 0) (ps.getD (m+2 * t+1) 0))):=fun x y ex ey=>by
    by_cases e:x=y
    ·refine iteNS (by rw [e]) ⟨_,_,_,rfl,rfl,fun t ht=>?_⟩
     by_cases et:t=j
     ·subst et
      rw [← ex,← ey]
      exact e
     ·exact hj2 t (by omega)
    ·rw [decide_eq_false (fun z=>e (by injection z))]
     refine iteT (k false ⟨fun z=>(by cases z),fun F=>?_⟩)
     exact absurd (ex.trans ((F (m+2 * j) hj' (by omega)).trans ey.symm)) e
   have yy:∀ x:Bool,x=wr ps (m+2 * j) (st - 1)→tAndV (tOp (rI0 fun i j=>V.bl (decide (i<j))) (tVar 4) (tVar 2)) (tOp (rI0 fun i j=>V.bl (decide (i≤j))) (tVar 2) (tVar 5))
     [some (V.ref l),some (.int (st:Int)),some (.int (g:Int)),some (.int ((m+2 * j:Nat):Int)),some (.int (min (ps.getD (m+2 * j) 0) (ps.getD (m+2 * j+1) 0))),some (.int (max (ps.getD (m+2 * j) 0) (ps.getD (m+2 * j+1) 0)))] H2
     (fun y H3=>rNe (.bl x) y H3 fun z H4=>∃ b,z=.bl b∧if b=true then Q (.bl false) H4 else ∃ (u v w':Option V),([some (V.ref l),some (.int (st:Int)),some (.int (g:Int)),some (.int ((m+2 * j:Nat):Int)),some (.int (min (ps.getD (m+2 * j) 0) (ps.getD (m+2 * j+1) 0))),some (.int (max (ps.getD (m+2 * j) 0) (ps.getD (m+2 * j+1) 0)))]:St)=[some (.ref l),some (.int (st:Int)),some (.int (g:Int)),u,v,w']∧H4=H2 ∧
      ∀ t:Nat,t<j+1→wr ps (m+2 * t) (st - 1)=(decide (min (ps.getD (m+2 * t) 0) (ps.getD (m+2 * t+1) 0)<(g:Int)) && decide ((g:Int)≤max (ps.getD (m+2 * t) 0) (ps.getD (m+2 * t+1) 0)))):=fun x ex=>by
    refine ⟨_,rfl,_,rfl,_,_,rfl,rfl,_,rfl,?_⟩
    refine ite2 (fun z=>?_) (fun z=>?_)
    ·refine ⟨_,rfl,_,rfl,_,_,rfl,rfl,rfl,_,rfl,fin x _ ex ?_⟩
     rw [z,Bool.true_and]
    ·refine ⟨rfl,_,rfl,fin x _ ex ?_⟩
     rw [Bool.eq_false_iff.mpr z,Bool.false_and]
   refine ⟨_,rfl,_,rfl,_,rfl,_,_,rfl,rfl,l,_,_,_,rfl,rfl,hq,e2,_,_,rfl,rfl,_,rfl,?_⟩
   refine ite2 (fun z=>?_) (fun z=>?_)
   ·refine ⟨_,rfl,_,rfl,_,_,rfl,rfl,l,_,_,_,rfl,rfl,hq,e2,_,rfl,_,_,rfl,rfl,yy _ ?_⟩
    unfold wr
    rw [z,Bool.true_and]
   ·refine yy _ ?_
    unfold wr
    rw [Bool.eq_false_iff.mpr z,Bool.false_and]
  ·rintro σ H2 ⟨u,v,w',rfl,rfl,hj2⟩
   refine k true ⟨fun _ c hc hpar=>?_,fun _=>rfl⟩
   have:=hj2 ((c - m) / 2) (by unfold half2; omega)
   rw [show m+2 * ((c - m) / 2)=c by omega] at this
   exact this
theorem scGood:FnScope ["_law_script","_law_start","_law_size_here","_law_pile","_law_stamp","_law_at","_law_number_here","_law_gap"] ["_law_script","_law_start","_law_size_here"] (defScope sGood):=⟨rfl,rfl,rfl,by decide +kernel,rfl,by decide +kernel,by decide +kernel⟩
theorem ok_good {f fN fLP fF:Addr} {fd fdN fdLP fdF:FuncData} (D:Def K mg "_law_good" sGood ["_law_script","_law_start","_law_size_here"] f fd) (DN:Def K mg "_law_number" sNumber ["_law_script","_law_k"] fN fdN)
  (DLP:Def K mg "_law_places" sLPlaces ["_law_pile"] fLP fdLP) (DF:Def K mg "_law_fits" sFits ["_law_at","_law_stamp","_law_gap"] fF fdF) (T:Own mg) (M:OwnM mg) :
  FnOk P w K mg base CX0 2 f fd ["_law_script","_law_start","_law_size_here"] (spGood K):=by
 have GN:FnOk P w K mg base CX0 1 fN fdN ["_law_script","_law_k"] (spNumber K):=ok_number DN T
 have GL:FnOk P w K mg base CX0 1 fLP fdLP ["_law_pile"] (spLPlaces K):=ok_lplaces DLP T
 have GF:FnOk P w K mg base CX0 1 fF fdF ["_law_at","_law_stamp","_law_gap"] (spFits K):=ok_fits DF T M
 refine D.fn.ok scGood (fun vs H Q E h=>?_) (fun cdv A outer s H vs Q E hr h=>?_)
 ·obtain ⟨a,ns,st,n,rfl,_⟩:=h
  rfl
 ·obtain ⟨a,ns,st,n,rfl,hq,h1,h2,h3,k⟩:=h
  obtain ⟨tc,hcat,hread⟩:∃ t,PS ((cxOf CX0 P w K mg base ["_law_script","_law_start","_law_size_here","_law_pile","_law_stamp","_law_at","_law_number_here","_law_gap"] "_law_good" (defScope sGood) f cdv A outer s H E).nox) ((forBody ((defBody sGood).getD 1 (.Pass ⟨0,0,0,0⟩))).getD 4 (.Pass ⟨0,0,0,0⟩)) t ∧
    ∀ (D:Ends) (l:Addr) (ms:List Int) (i g:Nat) (u5 u6:Option V) H2,H2 l=some (.lst (ms.map V.int))→ms.length=i→i≤60→g≤i →
     (∀ (l':Addr) H3,Same H2 H3→H2 l'=none→H3 l'=some (.lst ((ms.take g++[(i:Int)]++ms.drop g).map V.int))→D.nx [some (.ref a),some (.int (st:Int)),some (.int (n:Int)),some (.ref l'),some (.int (i:Int)),u5,u6,some (.int (g:Int))] H3) →
     t D [some (.ref a),some (.int (st:Int)),some (.int (n:Int)),some (.ref l),some (.int (i:Int)),u5,u6,some (.int (g:Int))] H2:=by
   refine ⟨_,ps_set (i:=3) scGood.nd rfl (Or.inl rfl) (pe_op op_cat (pe_op op_cat (pe_slice sl_list (pv 3) po_none (po_some (pv 7))) (pe_lst (pa_cons (pv 4) pa_nil))) (pe_slice sl_list (pv 3) (po_some (pv 7)) po_none)),?_⟩
   intro D l ms i g u5 u6 H2 hl hm hi hg kk
   have gl:g≤(ms.map V.int).length:=by rw [List.length_map,hm]; exact hg
   refine ⟨_,rfl,_,rfl,_,rfl,l,_,rfl,SqL.of hl,fun p1 hp1=>?_⟩
   rw [cut_take _ gl]
   refine ⟨_,rfl,small_line (by show 1≤1000; decide),fun p2 hp2=>?_⟩
   have t1:=same_new (o:=.lst ((ms.map V.int).take g)) hp1
   have t2:=same_new (o:=.lst [V.int (i:Int)]) hp2
   refine ⟨p1,p2,_,_,rfl,rfl,t2 _ _ upd_same,upd_same,?_,fun p3 hp3=>?_⟩
   ·refine small_line ?_
    rw [List.length_take,List.length_map]
    simp
    omega
   have t3:=same_new (o:=.lst ((ms.map V.int).take g++[V.int (i:Int)])) hp3
   refine ⟨_,rfl,_,rfl,_,rfl,l,_,rfl,SqL.of (t3 _ _ (t2 _ _ (t1 _ _ hl))),fun p4 hp4=>?_⟩
   rw [cut_drop _ gl]
   have t4:=same_new (o:=.lst ((ms.map V.int).drop g)) hp4
   refine ⟨p3,p4,_,_,rfl,rfl,t4 _ _ upd_same,upd_same,?_,fun p5 hp5=>?_⟩
   ·refine small_line ?_
    rw [List.length_append,List.length_take,List.length_drop,List.length_map]
    simp
    omega
   have s5:Same H2 _:=t1.trans (t2.trans (t3.trans t4))
   refine kk p5 _ (s5.trans (same_new hp5)) (s5.free hp5) ?_
   rw [upd_same,List.map_append,List.map_append,List.map_take,List.map_drop]
   rfl
  refine ⟨_,pss_cons (ps_set (i:=3) scGood.nd rfl (Or.inl rfl) (pe_lst (pa_cons pe_int pa_nil)))
   (pss_cons (ps_for PassesOwn.never rfl (pi_range2 rfl T.range (pa_cons pe_int (pa_cons (pv 2) pa_nil))) (pg_name (i:=4) scGood.nd rfl (Or.inl rfl))
    (pss_cons (ps_set (i:=5) scGood.nd rfl (Or.inl rfl) (pe_call GL hr rfl DLP.at_ DLP.fn.kp DLP.bd .nil pass0 (pa_cons (pv 3) pa_nil)))
    (pss_cons (ps_set (i:=6) scGood.nd rfl (Or.inl rfl) (pe_call GN hr rfl DN.at_ DN.fn.kp DN.bd .nil pass0 (pa_cons (pv 0) (pa_cons (pe_op op_add (pv 1) (pv 4)) pa_nil))))
    (pss_cons (ps_set (i:=7) scGood.nd rfl (Or.inl rfl) (pe_op op_mod (pv 6) (pe_op op_add (pv 4) pe_int)))
    (pss_cons (ps_if (pt_not (pt_val (pe_call GF hr (by rfl) DF.at_ DF.fn.kp DF.bd .nil pass0 (pa_cons (pv 5) (pa_cons (pv 4) (pa_cons (pv 7) pa_nil))))))
      (pss_one (ps_set (i:=7) scGood.nd rfl (Or.inl rfl) (pe_op op_add (pe_ix ix_list (pv 5) (pe_op op_sub (pv 4) pe_int) (fun _ _=>rfl)) (pe_op op_mod (pe_op op_fdiv (pv 6) pe_int) pe_int)))) pss_nil)
    (pss_one hcat))))))
   (pss_one (ps_ret (pv 3)))),?_⟩
  refine ⟨small_line (by decide),fun l0 hl0=>?_⟩
  refine ⟨_,rfl,_,_,rfl,⟨by omega,by omega,by omega,by omega⟩,for_range (lo:=1) (n:=((n:Int) - 1).toNat) (fun i σ H2=>∃ (l:Addr) (ms:List Int) (v4 v5 v6 v7:Option V),σ=[some (.ref a),some (.int (st:Int)),some (.int (n:Int)),some (.ref l),v4,v5,v6,v7]∧Same H H2∧H l=none∧H2 l=some (.lst (ms.map V.int))∧ms.Perm (iota (i+1))∧NoX (plc ms))
   ⟨l0,[0],none,none,none,none,rfl,same_new hl0,hl0,upd_same,List.Perm.refl _,nox_one⟩ ?_ ?_⟩
  ·rintro i σ H2 hi ⟨l,ms,v4,v5,v6,v7,rfl,s2,hl,hl2,pm,nx⟩
   have ml:=perm_len pm
   rw [show (1:Int)+(i:Nat)=((i+1:Nat):Int) by omega]
   refine ⟨_,rfl,l,ms,i+1,rfl,SqL.of hl2,pm,by omega,fun la H3 s3 hla0 hla=>?_⟩
   have pl:=plc_length ms
   refine ⟨_,rfl,_,rfl,_,rfl,_,_,rfl,rfl,a,ns,st+(i+1),?_,(s2.trans s3).seq hq,by omega,fun y H4 s4 y1 y2=>?_⟩
   ·simp
   refine ⟨_,rfl,_,rfl,_,_,rfl,rfl,_,_,rfl,rfl,?_,?_⟩
   ·show (0:Int)<((i+1:Nat):Int)+1
    omega
   have g0:=Int.emod_nonneg y (show ((i+1:Nat):Int)+1≠0 by omega)
   have g1:=Int.emod_lt_of_pos y (show (0:Int)<((i+1:Nat):Int)+1 by omega)
   obtain ⟨g,hg⟩:∃ g:Nat,y % (((i+1:Nat):Int)+1)=(g:Int):=⟨(y % (((i+1:Nat):Int)+1)).toNat,by omega⟩
   show gName 7 (V.int (y % (((i+1:Nat):Int)+1))) _ _ _
   rw [hg] at g0 g1 ⊢
   have hl4:=s4 _ _ (s3 _ _ hl2)
   have hla4:=s4 _ _ hla
   have ends:∀ (D:Ends) (g':Nat),g'≤i+1→FitG (plc ms) (i+1) g'→(∀ σ H5,(∃ (l:Addr) (ms:List Int) (v4 v5 v6 v7:Option V),σ=[some (.ref a),some (.int (st:Int)),some (.int (n:Int)),some (.ref l),v4,v5,v6,v7]∧Same H H5∧H l=none∧H5 l=some (.lst (ms.map V.int))∧ms.Perm (iota (i+1+1))∧NoX (plc ms))→D.nx σ H5) →
     tc D [some (.ref a),some (.int (st:Int)),some (.int (n:Int)),some (.ref l),some (.int ((i+1:Nat):Int)),some (.ref la),some (.int y),some (.int (g':Int))] H4:=fun D g' hg' hF hD =>
    hread D l ms (i+1) g' _ _ H4 hl4 ml (by omega) hg' fun l' H5 s5 f5 e5=>hD _ _ ⟨l',_,_,_,_,_,rfl,s2.trans (s3.trans (s4.trans s5)),(s2.trans (s3.trans s4)).free f5,e5,perm_ins pm g',by
     have:=(nox_ins pm (by omega) hg').mpr ⟨nx,hF⟩
     unfold ins at this
     rw [ml] at this
     exact this⟩
   refine ⟨_,rfl,_,rfl,_,rfl,la,plc ms,i+1,g,rfl,SqL.of hla4,by rw [pl,ml],by omega,by omega,fun b hb=>?_⟩
   cases b with
   | true=>exact ⟨true,rfl,iteF (ends _ g (by omega) (hb.mp rfl) fun _ _ z=>z)⟩
   | false =>
    refine ⟨false,rfl,iteT ?_⟩
    obtain ⟨j,j1,j2,j3⟩:=plc_get pm (s:=i) (by omega)
    have ej:atI ((plc ms).map V.int) (((i+1:Nat):Int) - 1)=some (.int (j:Int)):=by
     rw [show ((i+1:Nat):Int) - 1=((i:Nat):Int) by omega]
     exact atI_nat (by rw [List.getElem?_map,j1]; rfl)
    refine ⟨_,rfl,_,rfl,_,_,rfl,rfl,la,_,_,_,rfl,rfl,SqL.of hla4,ej,_,rfl,_,_,rfl,rfl,⟨by decide,by decide⟩,_,_,rfl,rfl,(by show (0:Int)<2; decide),_,_,rfl,rfl,?_⟩
    have b0:=Int.emod_nonneg (y / 64) (show (2:Int)≠0 by decide)
    have b1:=Int.emod_lt_of_pos (y / 64) (show (0:Int)<2 by decide)
    have:=fun D hD=>ends D (j+(y / 64 % 2).toNat) (by omega) (fit_beside (e:=(y / 64 % 2).toNat) pm (by omega) (by omega) (by rw [show i+1 - 1=i by omega,plc_at pm j3]; omega)) hD
    rw [show ((j+(y / 64 % 2).toNat:Nat):Int)=(j:Int)+y / 64 % 2 by omega] at this
    exact this _ fun _ _ z=>z
  ·rintro σ H2 ⟨l,ms,v4,v5,v6,v7,rfl,s2,hl,hl2,pm,nx⟩
   rw [show ((n:Int) - 1).toNat+1=n by omega] at pm
   exact ⟨_,rfl,k l ms H2 s2 hl pm nx hl2⟩
end
end Sf
namespace Sf
open PySem L2 Pl
def spHeld (K:PySem.W.Frag):Sp:=fun vs H Q _=>∃ (l:Addr) (ps:List Int) (f e c s:Nat),vs=[.ref l,.int (f:Int),.int (e:Int),.int (c:Int),.int (s:Int)]∧SqL K H l (ps.map V.int)∧ps.length≤60∧e<ps.length∧s<ps.length∧f≤1000 ∧
 ∀ b:Bool,(b=true↔∃ d:Nat,f≤d∧d<e∧((d:Int) - (c:Int)) % 2=0∧wr ps d s=true)→Q (.bl b) H
def spFree (K:PySem.W.Frag):Sp:=fun vs H Q _=>∃ (l ll:Addr) (ps:List Int) (cs:List Nat),vs=[.ref l,.ref ll]∧SqL K H l (ps.map V.int)∧SqL K H ll ((cs.map fun (c:Nat)=>(c:Int)).map V.int)∧1≤ps.length∧ps.length≤60∧cs.length≤60∧cs.Nodup∧(∀ c∈cs,c+1<ps.length) ∧
 ∀ (b:Bool) H',Same H H'→(b=true↔Fre ps (fun c=>c∈cs))→Q (.bl b) H'
section
variable {P:Program} {w:World} {K:PySem.W.Frag} {mg:Str→Option Value} {base:Heap}
abbrev nmHeld:List Str:=["_law_at","_law_first","_law_last","_law_crease","_law_stamp"]
theorem scHeld:FnScope ["_law_at","_law_first","_law_last","_law_crease","_law_stamp","_law_other"] nmHeld (defScope sHeld):=⟨rfl,rfl,rfl,by decide +kernel,rfl,by decide +kernel,by decide +kernel⟩
theorem ok_held {f fW:Addr} {fd fdW:FuncData} (D:Def K mg "_law_held" sHeld nmHeld f fd) (DW:Def K mg "_law_wraps" sLWraps ["_law_at","_law_crease","_law_stamp"] fW fdW) (T:Own mg) (M:OwnM mg):FnOk P w K mg base CX0 2 f fd nmHeld (spHeld K):=by
 have GW:FnOk P w K mg base CX0 1 fW fdW ["_law_at","_law_crease","_law_stamp"] (spWraps K):=ok_lwraps DW M
 refine D.fn.ok scHeld (fun vs H Q E h=>?_) (fun cdv A outer s H vs Q E hr h=>?_)
 ·obtain ⟨l,ps,f,e,c,s,rfl,_⟩:=h
  rfl
 ·obtain ⟨l,ps,f,e,c,s,rfl,hq,h1,h2,h3,h4,k⟩:=h
  refine ⟨_,pss_cons (ps_for PassesOwn.never rfl (pi_range2 rfl T.range (pa_cons (pv 1) (pa_cons (pv 2) pa_nil))) (pg_name (i:=5) scHeld.nd rfl (Or.inl rfl))
    (pss_one (ps_if (pw_and (pt_cmpR op_eq (pe_op op_mod (pe_op op_sub (pv 5) (pv 3)) pe_int) pe_int (nomark _)) (pw_and1 (pt_val (pe_call GW hr (by rfl) DW.at_ DW.fn.kp DW.bd .nil pass0 (pa_cons (pv 0) (pa_cons (pv 5) (pa_cons (pv 4) pa_nil)))))) ).pt (pss_one (ps_ret pe_bl)) pss_nil)))
   (pss_one (ps_ret pe_bl)),?_⟩
  refine ⟨_,rfl,_,rfl,_,_,rfl,⟨by omega,by omega,by omega,by omega⟩,for_range (lo:=(f:Int)) (n:=((e:Int) - (f:Int)).toNat) (fun i σ H2=>∃ (v:Option V),σ=[some (.ref l),some (.int (f:Int)),some (.int (e:Int)),some (.int (c:Int)),some (.int (s:Int)),v]∧H2=H ∧
    ∀ d:Nat,f≤d→d<f+i→((d:Int) - (c:Int)) % 2=0→wr ps d s=false) ⟨none,rfl,rfl,fun d d1 d2=>by omega⟩ ?_ ?_⟩
  ·rintro i σ H2 hi ⟨v,rfl,rfl,hno⟩
   have ed:(f:Int)+(i:Nat)=((f+i:Nat):Int):=by omega
   rw [ed]
   refine ⟨_,rfl,_,rfl,_,_,rfl,rfl,_,_,rfl,rfl,(by show (0:Int)<2; decide),rfl,_,rfl,?_⟩
   refine ite2 (fun z=>?_) (fun z=>?_)
   ·have z':(((f+i:Nat):Int) - (c:Int)) % 2=0:=by
     have:=of_decide_eq_true z
     injection this
    refine ⟨_,rfl,_,rfl,_,rfl,l,ps,f+i,s,rfl,hq,by omega,h3,_,rfl,?_⟩
    refine ite2 (fun y=>?_) (fun y=>?_)
    ·exact k true ⟨fun _=>⟨f+i,by omega,by omega,z',y⟩,fun _=>rfl⟩
    ·refine ⟨_,rfl,rfl,fun d d1 d2 d3=>?_⟩
     by_cases q:d=f+i
     ·subst q; exact Bool.eq_false_iff.mpr y
     ·exact hno d d1 (by omega) d3
   ·refine iteF ⟨_,rfl,rfl,fun d d1 d2 d3=>?_⟩
    by_cases q:d=f+i
    ·subst q
     exact absurd (decide_eq_true (show V.int ((((f+i:Nat):Int) - (c:Int)) % 2)=V.int 0 by rw [d3])) z
    ·exact hno d d1 (by omega) d3
  ·rintro σ H2 ⟨v,rfl,rfl,hno⟩
   refine k false ⟨fun z=>(by cases z),fun ⟨d,d1,d2,d3,d4⟩=>?_⟩
   rw [hno d d1 (by omega) d3] at d4
   exact d4
abbrev nmFree:List Str:=["_law_at","_law_loose","_law_end","_law_first","_law_last"]
theorem scFree:FnScope nmFree ["_law_at","_law_loose"] (defScope sLFree):=⟨rfl,rfl,rfl,by decide +kernel,rfl,by decide +kernel,by decide +kernel⟩
theorem ok_lfree {f fH fW:Addr} {fd fdH fdW:FuncData} (D:Def K mg "_law_free" sLFree ["_law_at","_law_loose"] f fd) (DH:Def K mg "_law_held" sHeld nmHeld fH fdH) (DW:Def K mg "_law_wraps" sLWraps ["_law_at","_law_crease","_law_stamp"] fW fdW) (T:Own mg) (M:OwnM mg) :
  FnOk P w K mg base CX0 3 f fd ["_law_at","_law_loose"] (spFree K):=by
 have GH:FnOk P w K mg base CX0 2 fH fdH nmHeld (spHeld K):=ok_held DH DW T M
 refine D.fn.ok scFree (fun vs H Q E h=>?_) (fun cdv A outer s H vs Q E hr h=>?_)
 ·obtain ⟨l,ll,ps,cs,rfl,_⟩:=h
  rfl
 ·obtain ⟨l,ll,ps,cs,rfl,hq,hc,n1,n2,c1,nd,cb,k⟩:=h
  obtain ⟨t3,h3,r3⟩:∃ t,PSs ((cxOf CX0 P w K mg base nmFree "_law_free" (defScope sLFree) f cdv A outer s H E).nox) ((forBody ((defBody sLFree).getD 2 (.Pass ⟨0,0,0,0⟩))).drop 2) t ∧
    ∀ (D:Ends) (first last:Nat) H2,SqL K H2 l (ps.map V.int)→first≤last→last<ps.length→(¬ Seg ps first last→D.rt (.bl false) H2) →
     (Seg ps first last→D.nx [some (.ref l),some (.ref ll),some (.int ((ps.length:Int) - 1)),some (.int ((last:Int)+1)),some (.int (last:Int))] H2) →
     (first=0∨last+1=ps.length∨(last - first) % 2=0)→(0<first→∀ d,first≤d→d<last→(d+1 - first) % 2=0→wr ps d first=false) →
     t D [some (.ref l),some (.ref ll),some (.int ((ps.length:Int) - 1)),some (.int (first:Int)),some (.int (last:Int))] H2:=by
   refine ⟨_,pss_cons (ps_if (pw_and (pt_cmpR op_lt (pv 4) (pv 2) (nomark _)) (pw_and1 (pt_val (pe_call GH hr (by rfl) DH.at_ DH.fn.kp DH.bd .nil pass0 (pa_cons (pv 0) (pa_cons (pv 3) (pa_cons (pv 4) (pa_cons (pv 4) (pa_cons (pv 4) pa_nil))))))))).pt (pss_one (ps_ret pe_bl)) pss_nil)
    (pss_one (ps_set (i:=3) scFree.nd rfl (Or.inl rfl) (pe_op op_add (pv 4) pe_int))),?_⟩
   intro D first last H2 hq5 hle hlt bad good o1 o2
   refine ⟨_,rfl,_,rfl,_,_,rfl,rfl,_,rfl,?_⟩
   refine ite2 (fun z=>?_) (fun z=>?_)
   ·have z':=of_decide_eq_true z
    refine ⟨_,rfl,_,rfl,_,rfl,_,rfl,_,rfl,l,ps,first,last,last,last,rfl,hq5,n2,hlt,hlt,by omega,fun b hb=>⟨b,rfl,?_⟩⟩
    cases b with
    | true =>
     obtain ⟨d,d1,d2,d3,d4⟩:=hb.mp rfl
     refine iteT (bad fun sg=>?_)
     rw [sg.hi (by omega) d d1 d2 (by omega)] at d4
     cases d4
    | false =>
     refine iteF ?_
     refine ⟨_,rfl,_,_,rfl,rfl,good ⟨fun a b=>by omega,o2,fun _ d d1 d2 d3=>?_⟩⟩
     cases q:wr ps d last with
     | false=>rfl
     | true=>exact absurd (hb.mpr ⟨d,d1,d2,by omega,q⟩) (by decide)
   ·have z':¬ ((last:Int)<(ps.length:Int) - 1):=fun y=>z (decide_eq_true y)
    refine iteF ?_
    exact ⟨_,rfl,_,_,rfl,rfl,good ⟨fun a b=>by omega,o2,fun y=>by omega⟩⟩
  obtain ⟨t2,h2,r2⟩:∃ t,PSs ((cxOf CX0 P w K mg base nmFree "_law_free" (defScope sLFree) f cdv A outer s H E).nox) ((forBody ((defBody sLFree).getD 2 (.Pass ⟨0,0,0,0⟩))).drop 1) t ∧
    ∀ (D:Ends) (first last:Nat) H2,SqL K H2 l (ps.map V.int)→first≤last→last<ps.length→(¬ Seg ps first last→D.rt (.bl false) H2) →
     (Seg ps first last→D.nx [some (.ref l),some (.ref ll),some (.int ((ps.length:Int) - 1)),some (.int ((last:Int)+1)),some (.int (last:Int))] H2) →
     (first=0∨last+1=ps.length∨(last - first) % 2=0) →
     t D [some (.ref l),some (.ref ll),some (.int ((ps.length:Int) - 1)),some (.int (first:Int)),some (.int (last:Int))] H2:=by
   refine ⟨_,pss_cons (ps_if (pw_and (pt_cmpR op_gt (pv 3) pe_int (nomark _)) (pw_and1 (pt_val (pe_call GH hr (by rfl) DH.at_ DH.fn.kp DH.bd .nil pass0 (pa_cons (pv 0) (pa_cons (pv 3) (pa_cons (pv 4) (pa_cons (pe_op op_sub (pv 3) pe_int) (pa_cons (pv 3) pa_nil))))))))).pt (pss_one (ps_ret pe_bl)) pss_nil)
    h3,?_⟩
   intro D first last H2 hq5 hle hlt bad good o1
   refine ⟨_,rfl,_,_,rfl,rfl,_,rfl,?_⟩
   refine ite2 (fun z=>?_) (fun z=>?_)
   ·have z0:=of_decide_eq_true z
    refine ⟨_,rfl,_,rfl,_,rfl,_,rfl,_,_,rfl,rfl,_,rfl,l,ps,first,last,first - 1,first,?_,hq5,n2,hlt,by omega,by omega,fun b hb=>⟨b,rfl,?_⟩⟩
    ·rw [show ((first - 1:Nat):Int)=(first:Int) - 1 by omega]
     rfl
    cases b with
    | true =>
     obtain ⟨d,d1,d2,d3,d4⟩:=hb.mp rfl
     refine iteT (bad fun sg=>?_)
     rw [sg.lo (by omega) d d1 d2 (by omega)] at d4
     cases d4
    | false =>
     refine iteF (r3 _ first last H2 hq5 hle hlt bad good o1 fun _ d d1 d2 d3=>?_)
     cases q:wr ps d first with
     | false=>rfl
     | true=>exact absurd (hb.mpr ⟨d,d1,d2,by omega,q⟩) (by decide)
   ·have z0:¬ ((0:Int)<(first:Int)):=fun y=>z (decide_eq_true y)
    exact iteF (r3 _ first last H2 hq5 hle hlt bad good o1 fun q=>by omega)
  refine ⟨_,pss_cons (ps_set (i:=2) scFree.nd rfl (Or.inl rfl) (pe_op op_sub (pe_callB call_len_seq (by rfl) T.len PySem.boot_len (pa_cons (pv 0) pa_nil)) pe_int))
   (pss_cons (ps_set (i:=3) scFree.nd rfl (Or.inl rfl) pe_int)
   (pss_cons (ps_for PassesOwn.never rfl (pi_list (pe_op op_cat (pe_callB call_sorted (by rfl) T.sorted PyProof.Rows.boot_sorted (pa_cons (pv 1) pa_nil)) (pe_lst (pa_cons (pv 2) pa_nil)))) (pg_name (i:=4) scFree.nd rfl (Or.inl rfl))
    (pss_cons (ps_if (pw_and (pt_cmpR op_gt (pv 3) pe_int (nomark _)) (pw_and (pt_cmpR op_lt (pv 4) (pv 2) (nomark _)) (pw_and1 (pt_cmpR op_eq (pe_op op_mod (pe_op op_sub (pv 4) (pv 3)) pe_int) pe_int (nomark _))))).pt (pss_one (ps_ret pe_bl)) pss_nil)
    h2))
   (pss_one (ps_ret pe_bl)))),?_⟩
  refine ⟨_,rfl,l,_,rfl,.inl hq,_,_,rfl,rfl,?_⟩
  rw [List.length_map]
  refine ⟨_,rfl,ll,_,rfl,hc,by rw [List.length_map]; omega,fun l2 ms hl2 pm so=>?_⟩
  have t2:=same_new (o:=.lst (ms.map V.int)) hl2
  refine ⟨_,rfl,small_line (by show 1≤1000; decide),fun l3 hl3=>?_⟩
  have t3:=same_new (o:=.lst [V.int ((ps.length:Int) - 1)]) hl3
  have ml:=pm.length_eq
  rw [List.length_map] at ml
  refine ⟨l2,l3,_,_,rfl,rfl,t3 _ _ upd_same,upd_same,?_,fun l4 hl4=>?_⟩
  ·refine small_line ?_
   rw [List.length_map,ml]
   simp
   omega
  have S:=srt_of pm so nd cb
  have exs:ms.map V.int++[V.int ((ps.length:Int) - 1)]=(ms++[((ps.length:Int) - 1)]).map V.int:=by rw [List.map_append]; rfl
  rw [exs]
  have t4:=same_new (o:=.lst ((ms++[((ps.length:Int) - 1)]).map V.int)) hl4
  generalize hH5:upd (upd (upd H l2 (.lst (ms.map V.int))) l3 (.lst [V.int ((ps.length:Int) - 1)])) l4 (.lst ((ms++[((ps.length:Int) - 1)]).map V.int))=H5
  have s5:Same H H5:=by rw [← hH5]; exact t2.trans (t3.trans t4)
  have h5:H5 l4=some (.lst ((ms++[((ps.length:Int) - 1)]).map V.int)):=by rw [← hH5,upd_same]
  refine ⟨l4,rfl,⟨_,SqL.of h5⟩,for_list (K:=K) (a:=l4) (xs:=(ms++[((ps.length:Int) - 1)]).map V.int) (fun i σ H2=>∃ (first:Nat) (v:Option V),σ=[some (.ref l),some (.ref ll),some (.int ((ps.length:Int) - 1)),some (.int (first:Int)),v]∧H2=H5 ∧
    Upto ps (fun c=>c∈cs) first∧(i≤ms.length→First ms i first)∧(i=ms.length+1→first=ps.length)) ⟨0,none,rfl,rfl,Upto.zero,fun _=>.inl ⟨rfl,rfl⟩,fun z=>by omega⟩ (fun i σ H2 _ ⟨_,_,_,e,_⟩=>by rw [e]; exact SqL.of h5) ?_ ?_⟩
  ·rintro i x σ H2 hx ⟨first,v,rfl,rfl,U,F,F2⟩
   rw [List.getElem?_map] at hx
   have hi:i<ms.length+1:=by
    cases e:(ms++[((ps.length:Int) - 1)])[i]? with
    | none=>rw [e] at hx; cases hx
    | some y =>
     have:=(List.getElem?_eq_some_iff.mp e).1
     simpa using this
   obtain ⟨last,g1,Pt,g2,g3⟩:=S.at n1 (by omega) (F (by omega))
   rw [g1] at hx
   obtain rfl:x=V.int (last:Int):=(Option.some.inj hx).symm
   have hq5:=s5.seq hq
   have hle:=Pt.le
   have hlt:=Pt.lt
   have bad:¬ Seg ps first last→Q (.bl false) H2:=fun ns=>k false H2 s5 ⟨fun z=>(by cases z),fun Fr=>absurd (seg_of cb Fr Pt) ns⟩
   have good:Seg ps first last→∃ (first':Nat) (v:Option V),([some (.ref l),some (.ref ll),some (.int ((ps.length:Int) - 1)),some (.int ((last:Int)+1)),some (.int (last:Int))]:St)=[some (.ref l),some (.ref ll),some (.int ((ps.length:Int) - 1)),some (.int (first':Int)),v]∧H2=H2 ∧
     Upto ps (fun c=>c∈cs) first'∧(i+1≤ms.length→First ms (i+1) first')∧(i+1=ms.length+1→first'=ps.length):=fun sg =>
    ⟨last+1,_,rfl,rfl,U.step Pt sg,fun z=>(g2 (by omega)).1,fun z=>g3 (by omega)⟩
   refine ⟨_,rfl,_,_,rfl,rfl,_,rfl,?_⟩
   refine ite2 (fun z=>?_) (fun z=>?_)
   ·have z0:=of_decide_eq_true z
    refine ⟨_,rfl,_,rfl,_,_,rfl,rfl,_,rfl,?_⟩
    refine ite2 (fun y=>?_) (fun y=>?_)
    ·have y':=of_decide_eq_true y
     refine ⟨_,rfl,_,rfl,_,_,rfl,rfl,_,_,rfl,rfl,(by show (0:Int)<2; decide),rfl,_,rfl,?_⟩
     refine ite2 (fun x=>?_) (fun x=>?_)
     ·have x':((last:Int) - (first:Int)) % 2=1:=by
       have:=of_decide_eq_true x
       injection this
      exact bad fun sg=>by
       have:=sg.odd (by omega) (by omega)
       omega
     ·refine r2 _ first last H2 hq5 hle hlt bad good (.inr (.inr ?_))
      by_cases q:(last - first) % 2=0
      ·exact q
      ·exact absurd (decide_eq_true (show V.int (((last:Int) - (first:Int)) % 2)=V.int 1 by congr 1; omega)) x
    ·have y':¬ ((last:Int)<(ps.length:Int) - 1):=fun q=>y (decide_eq_true q)
     exact iteF (r2 _ first last H2 hq5 hle hlt bad good (.inr (.inl (by omega))))
   ·have z0:¬ ((0:Int)<(first:Int)):=fun y=>z (decide_eq_true y)
    exact iteF (r2 _ first last H2 hq5 hle hlt bad good (.inl (by omega)))
  ·rintro σ H2 ⟨first,v,rfl,rfl,U,F,F2⟩
   have e:=F2 (by rw [List.length_map]; simp)
   subst e
   exact k true H2 s5 ⟨fun _=>Upto.fre cb U,fun _=>rfl⟩
end
end Sf
namespace Sf
open PySem L2 Pl
def spSameRow (K:PySem.W.Frag):Sp:=fun vs H Q _=>∃ (f d:Addr) (ns:List Int),vs=[.ref f,.ref d]∧H f=some (.lst (ns.map V.int))∧SqL K H d (ns.map V.int)∧ns.length≤60∧Q (.bl true) H
section
variable {P:Program} {w:World} {K:PySem.W.Frag} {mg:Str→Option Value} {base:Heap}
theorem scSameRow:FnScope ["_law_found","_law_due","_law_k"] ["_law_found","_law_due"] (defScope s_law_row):=⟨rfl,rfl,rfl,by decide +kernel,rfl,by decide +kernel,by decide +kernel⟩
theorem ok_samerow {f fCo:Addr} {fd fdCo:FuncData} (D:Def K mg "_law_row" s_law_row ["_law_found","_law_due"] f fd) (DCo:Def K mg "_law_counts" sCounts ["_law_thing"] fCo fdCo) (T:Own mg):FnOk P w K mg base CX0 2 f fd ["_law_found","_law_due"] (spSameRow K):=by
 have GCo:FnOk P w K mg base CX0 1 fCo fdCo ["_law_thing"] spCounts:=ok_counts DCo T
 refine D.fn.ok scSameRow (fun vs H Q E h=>?_) (fun cdv A outer s H vs Q E hr h=>?_)
 ·obtain ⟨p,d,ns,rfl,_⟩:=h
  rfl
 ·obtain ⟨p,d,ns,rfl,hp,hd,hl,k⟩:=h
  refine ⟨_,pss_cons (ps_if (pw_or (pt_not (pt_val (pe_callB call_isinst (by rfl) T.isinstance boot_isinstance (pa_cons (pv 0) (pa_cons (pe_bltn (by rfl) T.list boot_list (v:=.ty "list") rfl) pa_nil)))))
     (pw_or1 (pt_cmpR op_ne (pe_callB call_len_seq (by rfl) T.len PySem.boot_len (pa_cons (pv 0) pa_nil)) (pe_callB call_len_seq (by rfl) T.len PySem.boot_len (pa_cons (pv 1) pa_nil)) (nomark _)))).pt (pss_one (ps_ret pe_bl)) pss_nil)
   (pss_cons (ps_for PassesOwn.never rfl (pi_range1 rfl T.range (pa_cons (pe_callB call_len_seq (by rfl) T.len PySem.boot_len (pa_cons (pv 1) pa_nil)) pa_nil)) (pg_name (i:=2) scSameRow.nd rfl (Or.inl rfl))
    (pss_one (ps_if (pw_or (pt_not (pt_val (pe_call GCo hr (by rfl) DCo.at_ DCo.fn.kp DCo.bd .nil pass0 (pa_cons (pe_ix ix_list (pv 0) (pv 2) (fun _ _=>rfl)) pa_nil))))
     (pw_or1 (pt_cmpR op_ne (pe_ix ix_list (pv 0) (pv 2) (fun _ _=>rfl)) (pe_ix ix_list (pv 1) (pv 2) (fun _ _=>rfl)) (nomark _)))).pt (pss_one (ps_ret pe_bl)) pss_nil)))
   (pss_one (ps_ret pe_bl))),?_⟩
  refine ⟨_,rfl,_,"list",_,true,rfl,.lst hp,rfl,true,rfl,iteF ?_⟩
  refine ⟨_,rfl,p,_,rfl,.inl (SqL.of hp),_,rfl,d,_,rfl,.inl hd,rfl,_,rfl,iteNS rfl ?_⟩
  refine ⟨_,rfl,d,_,rfl,.inl hd,_,rfl,?_,?_,?_⟩
  ·rw [List.length_map]; omega
  ·rw [List.length_map]; omega
  refine for_range (lo:=0) (n:=(((ns.map V.int).length:Nat):Int).toNat) (fun i σ H2=>∃ (v:Option V),σ=[some (.ref p),some (.ref d),v]∧H2=H) ⟨none,rfl,rfl⟩ ?_ ?_
  ·rintro i σ H2 hi ⟨v,rfl,rfl⟩
   rw [List.length_map] at hi
   have g:atI (ns.map V.int) (0+(i:Int))=some (.int (ns.getD i 0)):=by
    rw [Int.zero_add]
    exact at_int (c:=i) (by omega)
   refine ⟨_,rfl,_,rfl,p,_,_,_,rfl,rfl,SqL.of hp,g,_,rfl,true,rfl,iteF ?_⟩
   refine ⟨_,rfl,_,rfl,p,_,_,_,rfl,rfl,SqL.of hp,g,_,rfl,_,rfl,d,_,_,_,rfl,rfl,hd,g,rfl,_,rfl,iteNS rfl ?_⟩
   exact ⟨_,rfl,rfl⟩
  ·rintro σ H2 ⟨v,rfl,rfl⟩
   exact k
end
end Sf
set_option maxHeartbeats 4000000
namespace Pl
open PySem L2
def partsL (ns:List Int):Nat→List Nat→List (List Int)
 | first,[]=>[ns.filter fun s=>decide ((first:Int)≤s)]
 | first,c::cs=>(ns.filter fun s=>decide ((first:Int)≤s) && decide (s≤(c:Int)))::partsL ns (c+1) cs
theorem partsL_none {ns:List Int} {n:Nat} (h:ns.Perm (iota n)):partsL ns 0 []=[ns]:=by
 unfold partsL
 congr 1
 exact List.filter_eq_self.mpr fun s hs=>decide_eq_true ((perm_mem h).mp hs).1
theorem nodup_one {ns:List Int} (nd:ns.Nodup) {x:Int} (hx:x∈ns) {p:Int→Bool} (hp:∀ y∈ns,p y=true↔y=x):ns.filter p=[x]:=by
 have e:ns.filter p=ns.filter fun y=>decide (y=x):=List.filter_congr fun y hy=>Bool.eq_iff_iff.mpr ((hp y hy).trans (by simp))
 rw [e]
 induction ns with
 | nil=>cases hx
 | cons a as ih =>
  have hnd:=List.nodup_cons.mp nd
  rw [List.filter_cons]
  by_cases z:a=x
  ·subst z
   rw [if_pos (by simp)]
   congr 1
   refine List.filter_eq_nil_iff.mpr fun y hy=>?_
   have:y≠a:=fun z=>hnd.1 (z ▸ hy)
   simp [this]
  ·rw [if_neg (by simp [z])]
   have hx':x∈as:=(List.mem_cons.mp hx).resolve_left fun q=>z q.symm
   exact ih hnd.2 hx' (fun y hy=>hp y (List.mem_cons_of_mem _ hy)) (List.filter_congr fun y hy=>Bool.eq_iff_iff.mpr ((hp y (List.mem_cons_of_mem _ hy)).trans (by simp)))
theorem partsL_all {ns:List Int} {n:Nat} (h:ns.Perm (iota n)) (h1:1≤n):∀ (k f:Nat),f+k+1=n→partsL ns f ((List.range k).map fun i=>f+i)=(List.range (k+1)).map fun i=>[((f+i:Nat):Int)]
 | 0,f,e=>by
  show [ns.filter fun s=>decide ((f:Int)≤s)]=_
  rw [nodup_one (perm_nodup h) (x:=(f:Int)) ((perm_mem h).mpr (by omega)) fun y hy=>by
   have:=(perm_mem h).mp hy
   rw [decide_eq_true_eq]
   omega]
  rfl
 | k+1,f,e=>by
  rw [List.range_succ_eq_map (n:=k),List.map_cons,List.map_map]
  show (ns.filter fun s=>decide ((f:Int)≤s) && decide (s≤((f+0:Nat):Int)))::partsL ns (f+0+1) ((List.range k).map fun i=>f+(i+1))=_
  rw [nodup_one (perm_nodup h) (x:=(f:Int)) ((perm_mem h).mpr (by omega)) fun y hy=>by
   rw [Bool.and_eq_true,decide_eq_true_eq,decide_eq_true_eq]
   omega]
  have e2:(List.range k).map (fun i=>f+(i+1))=(List.range k).map fun i=>f+1+i:=List.map_congr_left fun i _=>by omega
  rw [e2,show f+0+1=f+1 by omega,partsL_all h h1 k (f+1) (by omega),List.range_succ_eq_map (n:=k+1),List.map_cons,List.map_map]
  congr 1
  refine List.map_congr_left fun i _=>?_
  show [((f+1+i:Nat):Int)]=[((f+(i+1):Nat):Int)]
  congr 2
  omega
theorem nox_turn {ns:List Int} {n m:Nat} (h:ns.Perm (iota n)) (hm:m<n):NoX (plc (turn ns m))↔NoX (plc ns):=by
 have l1:(plc ns).length=n:=by rw [plc_length,perm_len h]
 have l2:(plc (turn ns m)).length=n:=by rw [plc_length,perm_len (turn_perm h m)]
 constructor
 ·intro N a b hab hb hp
  rw [← cr_turn h hm hab (by omega)]
  exact N a b hab (by omega) hp
 ·intro N a b hab hb hp
  rw [cr_turn h hm hab (by omega)]
  exact N a b hab (by omega) hp
structure Rise (L:Nat→Prop) (ms:List Nat):Prop where
 mem:∀ c,c∈ms↔L c
 inc:ms.Pairwise (·<·)
theorem Rise.unique {L:Nat→Prop} {ms ms':List Nat} (h:Rise L ms) (h':Rise L ms'):ms=ms':=by
 have e:∀ {l:List Nat},l.Pairwise (·<·)→l.Pairwise (·≤·):=fun h=>h.imp fun q=>Nat.le_of_lt q
 have nd:∀ {l:List Nat},l.Pairwise (·<·)→l.Nodup:=fun h=>h.imp fun q=>Nat.ne_of_lt q
 have pm:ms.Perm ms':=(List.perm_ext_iff_of_nodup (nd h.inc) (nd h'.inc)).mpr fun c=>(h.mem c).trans (h'.mem c).symm
 exact pm.eq_of_pairwise (fun a b _ _ h1 h2=>Nat.le_antisymm h1 h2) (e h.inc) (e h'.inc)
structure Steps (ps:List Int) (n:Nat) (steps:List (List Nat)):Prop where
 nd:steps.flatten.Nodup
 bnd:∀ c∈steps.flatten,c+1<n
 all:∀ c,c+1<n→c∈steps.flatten
 shape:∀ s∈steps,(∃ a,s=[a])∨∃ a b,s=[a,b]∧a<b
 free:∀ k,k≤steps.length→Fre ps (fun c=>c∈(steps.take k).flatten)
end Pl
namespace Sf
open PySem L2 Pl
abbrev cz (cs:List Nat):List Int:=cs.map fun (c:Nat)=>(c:Int)
abbrev cv (cs:List Nat):List V:=(cz cs).map V.int
theorem sameT {K:PySem.W.Frag} {H H':Hp} {a:Addr} {xs:List V} (e:Same H H') (h:SqT K H a xs):SqT K H' a xs:=by
 rcases h with (h | ⟨o,h⟩) | h
 ·exact .inl (.inl (e _ _ h))
 ·exact .inl (.inr ⟨o,e _ _ h⟩)
 ·exact .inr h
abbrev BP:=Hp→Addr→List Int→(Nat→Prop)→(Addr→Prop)→Prop
structure BenchOk (C:Addr) (B:BP):Prop where
 ins:∀ {H b ns L own},B H b ns L own→∃ dx fs,H b=some (.ins C dx fs)∧fs.lookup ("draw":Str)=none∧fs.lookup ("press":Str)=none∧fs.lookup ("loose":Str)=none∧fs.lookup ("parts":Str)=none
 held:∀ {H b ns L own x},B H b ns L own→own x→H x≠none
 keep:∀ {H H' b ns L own},B H b ns L own→(∀ x,own x→H' x=H x)→B H' b ns L own
theorem BenchOk.same {C:Addr} {B:BP} (O:BenchOk C B) {H H':Hp} {b:Addr} {ns:List Int} {L:Nat→Prop} {own:Addr→Prop} (h:B H b ns L own) (s:Same H H'):B H' b ns L own :=
 O.keep h fun x hx=>by
  cases e:H x with
  | none=>exact absurd e (O.held h hx)
  | some o=>exact s x o e
def Beside (own:Addr→Prop) (H H':Hp):Prop:=∀ x o,H x=some o→¬ own x→H' x=some o
def spInit (K:PySem.W.Frag) (C:Addr) (B:BP):Sp:=fun vs H Q _=>∃ (x p dx:Addr) (ns:List Int) (n:Nat),vs=[.ref x,.ref p]∧H x=some (.ins C dx [])∧H dx=some (.own x)∧SqL K H p (ns.map V.int)∧p≠x∧p≠dx∧ns.Perm (iota n)∧1≤n∧n≤60∧NoX (plc ns) ∧
 ∀ (own:Addr→Prop) H',(∀ y o,H y=some o→y≠x→H' y=some o)→(∀ y,own y→y=x∨y=dx∨H y=none)→B H' x ns (fun _=>False) own→Q .non H'
def spDraw (K:PySem.W.Frag) (B:BP):Sp:=fun vs H Q _=>∃ (b q:Addr) (ns:List Int) (n:Nat) (L:Nat→Prop) (own:Addr→Prop) (cs:List Nat),vs=[.ref b,.ref q]∧B H b ns L own∧(SqL K H q (cv cs)∨SqT K H q (cv cs))∧¬ own q∧ns.Perm (iota n)∧n≤60∧NoX (plc ns)∧cs.Nodup∧(∀ c∈cs,c+1<n)∧(∀ c∈cs,¬ L c)∧Fre (plc ns) (fun c=>L c∨c∈cs) ∧
 ∀ (v:V) (own':Addr→Prop) H',Beside own H H'→(∀ y,own' y→own y∨H y=none)→B H' b ns (fun c=>L c∨c∈cs) own'→Q v H'
def spPress (K:PySem.W.Frag) (B:BP):Sp:=fun vs H Q _=>∃ (b q:Addr) (ns:List Int) (n:Nat) (L:Nat→Prop) (own:Addr→Prop) (cs:List Nat),vs=[.ref b,.ref q]∧B H b ns L own∧(SqL K H q (cv cs)∨SqT K H q (cv cs))∧¬ own q∧ns.Perm (iota n)∧n≤60∧NoX (plc ns)∧cs.Nodup∧(∀ c∈cs,c+1<n)∧(∀ c∈cs,L c)∧Fre (plc ns) (fun c=>L c∧c∉cs) ∧
 ∀ (v:V) (own':Addr→Prop) H',Beside own H H'→(∀ y,own' y→own y∨H y=none)→B H' b ns (fun c=>L c∧c∉cs) own'→Q v H'
def spLoose (B:BP):Sp:=fun vs H Q _=>∃ (b:Addr) (ns:List Int) (L:Nat→Prop) (own:Addr→Prop),vs=[.ref b]∧B H b ns L own∧∀ (l:Addr) (ms:List Nat) H',Same H H'→H l=none→Rise L ms→H' l=some (.lst (cv ms))→Q (.ref l) H'
end Sf
set_option maxHeartbeats 4000000
namespace Pl
open PySem L2
structure Pre (ps:List Int) (steps:List (List Nat)):Prop where
 nd:steps.flatten.Nodup
 bnd:∀ c∈steps.flatten,c+1<ps.length
 shape:∀ s∈steps,(∃ a,s=[a])∨∃ a b,s=[a,b]∧a<b
 free:∀ k,k≤steps.length→Fre ps (fun c=>c∈(steps.take k).flatten)
theorem Pre.nil {ps:List Int}:Pre ps []:=⟨List.nodup_nil,fun c h=>by simp at h,fun s h=>by simp at h,fun k _=>Fre.none.congr fun c=>by simp⟩
theorem Pre.push {ps:List Int} {steps:List (List Nat)} {s:List Nat} (p:Pre ps steps) (sh:(∃ a,s=[a])∨∃ a b,s=[a,b]∧a<b) (hb:∀ c∈s,c+1<ps.length) (new:∀ c∈s,c∉steps.flatten)
  (F:Fre ps (fun c=>c∈steps.flatten∨c∈s)):Pre ps (steps++[s]):=by
 have e:(steps++[s]).flatten=steps.flatten++s:=by simp
 have ns:s.Nodup:=by
  rcases sh with ⟨a,rfl⟩ | ⟨a,b,rfl,h⟩
  ·simp
  ·simp; omega
 refine ⟨?_,fun c h=>?_,fun t h=>?_,fun k hk=>?_⟩
 ·rw [e,List.nodup_append]
  exact ⟨p.nd,ns,fun a ha b hb z=>new b hb (z ▸ ha)⟩
 ·rw [e,List.mem_append] at h
  rcases h with h | h
  ·exact p.bnd c h
  ·exact hb c h
 ·rcases List.mem_append.mp h with h | h
  ·exact p.shape t h
  ·rw [List.mem_singleton.mp h]; exact sh
 ·by_cases h:k≤steps.length
  ·rw [List.take_append_of_le_length h]
   exact p.free k h
  ·have:k=(steps++[s]).length:=by rw [List.length_append] at hk ⊢; simp at hk ⊢; omega
   rw [this,List.take_length,e]
   exact F.congr fun c=>List.mem_append.symm
theorem filt_split (p:Nat→Bool):∀ l:List Nat,l.length=(l.filter p).length+(l.filter fun x=>!p x).length
 | []=>rfl
 | a::l=>by
  have:=filt_split p l
  cases h:p a <;> simp [List.filter_cons,h] <;> omega
theorem len_le:∀ (n:Nat) {l:List Nat},l.Nodup→(∀ c∈l,c<n)→l.length≤n
 | 0,[],_,_=>Nat.le_refl _
 | 0,a::_,_,hb=>absurd (hb a List.mem_cons_self) (Nat.not_lt_zero _)
 | n+1,l,nd,hb=>by
  have h1:(l.filter fun x=>decide (x≠n)).length≤n:=len_le n (nd.sublist List.filter_sublist) fun c hc=>by
   obtain ⟨h1,h2⟩:=List.mem_filter.mp hc
   have:=hb c h1
   have:=of_decide_eq_true h2
   omega
  have h2:l.length=(l.filter fun x=>decide (x≠n)).length+(l.filter fun x=>!decide (x≠n)).length:=filt_split _ l
  have h3:(l.filter fun x=>!decide (x≠n)).length≤1:=by
   have nd3:(l.filter fun x=>!decide (x≠n)).Nodup:=nd.sublist List.filter_sublist
   have all:∀ x∈l.filter fun x=>!decide (x≠n),x=n:=fun x hx=>by
    have:=(List.mem_filter.mp hx).2
    simpa using this
   match hl:l.filter fun x=>!decide (x≠n),nd3,all with
   | [],_,_=>simp
   | [_],_,_=>simp
   | a::b::r,nd3,all =>
    have e1:=all a (by simp)
    have e2:=all b (by simp)
    simp [e1,e2] at nd3
  omega
theorem all_of_len {n:Nat} {l:List Nat} (nd:l.Nodup) (hb:∀ c∈l,c<n) (h:n≤l.length):∀ c,c<n→c∈l:=by
 intro c hc
 by_cases hm:c∈l
 ·exact hm
 ·have:=len_le n (l:=c::l) (List.nodup_cons.mpr ⟨hm,nd⟩) fun x hx=>by
   rcases List.mem_cons.mp hx with rfl | hx
   ·exact hc
   ·exact hb x hx
  rw [List.length_cons] at this
  omega
theorem Pre.done {ps:List Int} {steps:List (List Nat)} (p:Pre ps steps) (h:ps.length≤steps.flatten.length+1):Steps ps ps.length steps :=
 ⟨p.nd,p.bnd,fun c hc=>all_of_len (n:=ps.length - 1) p.nd (fun x hx=>by have:=p.bnd x hx; omega) (by omega) c (by omega),p.shape,p.free⟩
def Wst (ps:List Int) (side f l M:Nat):Prop:=M∈likeP side f l∧∀ d∈likeP side f l,wid ps d≤wid ps M
def StepOf (ps:List Int) (f l:Nat) (s:List Nat):Prop :=
 (0<f∧l+1<ps.length∧∃ j i,s=[j,i]∧Wst ps f f l j∧Wst ps (j+1) (j+1) l i)∨(f=0∧l+1<ps.length∧∃ j,s=[j]∧Wst ps (l+1) f l j)∨(l+1=ps.length∧∃ j,s=[j]∧Wst ps f f l j)
theorem step_fre {ps:List Int} {L:Nat→Prop} {f l:Nat} {s:List Nat} (N:NoX ps) (D:Dis ps) (F:Fre ps L) (hL:∀ c,L c→c+1<ps.length) (P:Part ps.length L f l) (h:StepOf ps f l s) :
  Fre ps (fun c=>L c∨c∈s)∧((∃ a,s=[a])∨∃ a b,s=[a,b]∧a<b)∧∀ c∈s,f≤c∧c<l:=by
 rcases h with ⟨h1,h2,j,i,rfl,⟨hj,wj⟩,⟨hi,wi⟩⟩ | ⟨h1,h2,j,rfl,⟨hj,wj⟩⟩ | ⟨h1,j,rfl,⟨hj,wj⟩⟩
 ·rw [mem_likeP] at hj hi
  obtain ⟨a,ha,rfl⟩:∃ c,L c∧f=c+1:=by
   rcases P.fst with z | z
   ·omega
   ·exact z
  have hb:L l:=by
   rcases P.lst with z | z
   ·omega
   ·exact z
  refine ⟨(Fre.mid N D F ha hb h2 (fun e h1 h2=>P.no e (by omega) h2) (j:=j) (i:=i) (by omega) (by omega) (by omega) (fun d d1 d2 d3=>wj d (mem_likeP.mpr ⟨by omega,d2,by omega⟩)) (by omega) (by omega) (by omega)
   (fun d d1 d2 d3=>wi d (mem_likeP.mpr ⟨by omega,d2,by omega⟩))).congr fun c=>by simp,.inr ⟨j,i,rfl,by omega⟩,fun c hc=>?_⟩
  simp at hc
  omega
 ·rw [mem_likeP] at hj
  subst h1
  have hb:L l:=by
   rcases P.lst with z | z
   ·omega
   ·exact z
  refine ⟨(Fre.first N D F hb h2 (fun e he=>P.no e (by omega) he) (j:=j) (by omega) (by omega) (fun d d1 d2=>wj d (mem_likeP.mpr ⟨by omega,d1,by omega⟩))).congr fun c=>by simp,.inl ⟨j,rfl⟩,fun c hc=>?_⟩
  simp at hc
  omega
 ·rw [mem_likeP] at hj
  refine ⟨?_,.inl ⟨j,rfl⟩,fun c hc=>by simp at hc; omega⟩
  by_cases hf:f=0
  ·subst hf
   have no:∀ c,¬ L c:=fun c hc=>P.no c (by omega) (by have:=hL c hc; omega) hc
   exact (Fre.whole N D (j:=j) (by omega) (by omega) (fun d d1 d2=>wj d (mem_likeP.mpr ⟨by omega,by omega,by omega⟩))).congr fun c=>by simp [no c]
  ·obtain ⟨a,ha,rfl⟩:∃ c,L c∧f=c+1:=by
    rcases P.fst with z | z
    ·omega
    ·exact z
   exact (Fre.last N D F ha (fun e e1 e2=>P.no e (by omega) (by omega)) hL (j:=j) (by omega) (by omega) (by omega) (fun d d1 d2 d3=>wj d (mem_likeP.mpr ⟨by omega,by omega,by omega⟩))).congr fun c=>by simp
theorem part_of {n:Nat} {L:Nat→Prop} {ms:List Nat} (r:Rise L ms) (hL:∀ c,L c→c+1<n) (hn:1≤n) {j:Nat} (hj:j≤ms.length):Part n L (fstP ms j) (lstP n ms j):=by
 have gb:∀ i,i<ms.length→ms.getD i 0+1<n:=fun i hi=>hL _ ((r.mem _).mp (get_mem hi))
 refine ⟨?_,?_,?_,?_,fun e e1 e2 hLe=>?_⟩
 ·unfold fstP lstP
  split <;> split
  ·omega
  ·omega
  ·have:=inc_get r.inc (i:=j - 1) (j:=j) (by omega) (by assumption); omega
  ·have:=gb (j - 1) (by omega); omega
 ·unfold lstP
  split
  ·have:=gb j (by assumption); omega
  ·omega
 ·unfold fstP
  split
  ·exact .inl rfl
  ·exact .inr ⟨_,(r.mem _).mp (get_mem (by omega)),rfl⟩
 ·unfold lstP
  split
  ·exact .inr ((r.mem _).mp (get_mem (by assumption)))
  ·exact .inl (by omega)
 ·have he:=(r.mem e).mpr hLe
  unfold fstP at e1
  unfold lstP at e2
  by_cases h1:j<ms.length
  ·rw [if_pos h1] at e2
   have:=inc_below r.inc h1 he e2
   rw [if_neg (by omega)] at e1
   omega
  ·have h0:j≠0:=by
    rintro rfl
    cases ms with
    | nil=>simp at he
    | cons a l=>simp at h1
   rw [if_neg h0] at e1
   have:=inc_above r.inc (j:=j - 1) (by omega) he (by omega)
   omega
theorem part_order {n:Nat} {L:Nat→Prop} {ms:List Nat} (r:Rise L ms) {i j:Nat} (hij:i<j) (hj:j≤ms.length):lstP n ms i<fstP ms j:=by
 unfold fstP lstP
 rw [if_pos (by omega),if_neg (by omega)]
 by_cases h:i=j - 1
 ·rw [h]; omega
 ·have:=inc_get r.inc (i:=i) (j:=j - 1) (by omega) (by omega); omega
end Pl
set_option maxHeartbeats 4000000
namespace Sf
open PySem L2 Pl
theorem boot_tuple:bootBuiltins "tuple"=some (.type "tuple"):=by decide +kernel
structure OwnT (mg:Str→Option Value):Prop where
 tuple:mg "tuple"=none
structure OwnR (mg:Str→Option Value):Prop where
 reversed:mg "reversed"=none
theorem nats_of {ms:List Int} {cs:List Nat} (h:ms.Perm (cz cs)):∃ ds:List Nat,ms=cz ds∧ds.Perm cs:=by
 refine ⟨ms.map Int.toNat,?_,?_⟩
 ·unfold cz
  rw [List.map_map]
  conv=>lhs; rw [← List.map_id ms]
  refine List.map_congr_left fun x hx=>?_
  obtain ⟨c,_,rfl⟩:=List.mem_map.mp (h.mem_iff.mp hx)
  simp
 ·have:=h.map Int.toNat
  unfold cz at this
  rw [List.map_map] at this
  have e:cs.map (Int.toNat ∘ fun (c:Nat)=>(c:Int))=cs:=by
   conv=>rhs; rw [← List.map_id cs]
   exact List.map_congr_left fun c _=>by simp
  rw [e] at this
  exact this
theorem rise_sorted {ms:List Int} {cs:List Nat} (h:ms.Perm (cz cs)) (so:ms.Pairwise (·≤·)) (nd:cs.Nodup):∃ ds:List Nat,ms=cz ds∧Rise (fun c=>c∈cs) ds∧ds.length=cs.length:=by
 obtain ⟨ds,rfl,pd⟩:=nats_of h
 refine ⟨ds,rfl,⟨fun c=>pd.mem_iff,?_⟩,pd.length_eq⟩
 have nd':ds.Nodup:=pd.nodup_iff.mpr nd
 have so':ds.Pairwise (·≤·):=(List.pairwise_map.mp so).imp fun h=>by omega
 exact List.Pairwise.imp₂ (fun a b (h1:a≤b) (h2:a≠b)=>by omega) so' nd'
theorem in_cv (c:Nat) (cs:List Nat):inV (.int (c:Int)) (cv cs)=decide (c∈cs):=by
 unfold inV
 rw [List.any_map,List.any_map]
 refine Bool.eq_iff_iff.mpr ?_
 rw [List.any_eq_true,decide_eq_true_eq]
 constructor
 ·rintro ⟨x,hx,e⟩
  have e':((x:Int) == (c:Int))=true:=e
  have:x=c:=by
   have:=beq_iff_eq.mp e'
   omega
  rw [← this]
  exact hx
 ·intro h
  exact ⟨c,h,show ((c:Int) == (c:Int))=true from beq_self_eq_true _⟩
theorem flat_cv (cs:List Nat):(cv cs).all flatV=true:=flat_ints _
theorem cv_length (cs:List Nat):(cv cs).length=cs.length:=by rw [List.length_map,List.length_map]
theorem cv_append (a b:List Nat):cv a++cv b=cv (a++b):=by
 show (cz a).map V.int++(cz b).map V.int=(cz (a++b)).map V.int
 rw [← List.map_append]
 congr 1
 exact List.map_append.symm
theorem take_flat {steps:List (List Nat)} {i:Nat} {s:List Nat} (h:steps[i]?=some s):(steps.take (i+1)).flatten=(steps.take i).flatten++s:=by
 rw [List.take_succ,h]
 simp
theorem sub_flat {steps:List (List Nat)} (i:Nat) {c:Nat} (h:c∈(steps.take i).flatten):c∈steps.flatten:=by
 obtain ⟨s,hs,hc⟩:=List.mem_flatten.mp h
 exact List.mem_flatten.mpr ⟨s,List.mem_of_mem_take hs,hc⟩
theorem nodup_flat {steps:List (List Nat)} (nd:steps.flatten.Nodup) (i:Nat):(steps.take i).flatten.Nodup:=by
 have e:steps.flatten=(steps.take i).flatten++(steps.drop i).flatten:=by rw [← List.flatten_append,List.take_append_drop]
 rw [e] at nd
 exact (List.nodup_append.mp nd).1
theorem step_new {steps:List (List Nat)} (nd:steps.flatten.Nodup) {i:Nat} {s:List Nat} (h:steps[i]?=some s):s.Nodup∧∀ c∈s,c∉(steps.take i).flatten:=by
 have:=nodup_flat nd (i+1)
 rw [take_flat h] at this
 obtain ⟨_,h2,h3⟩:=List.nodup_append.mp this
 exact ⟨h2,fun c hc hc'=>h3 c hc' c hc rfl⟩
def spStep (K:PySem.W.Frag):Sp:=fun vs H Q _=>∃ (t ll:Addr) (n:Nat) (s cs:List Nat),vs=[.ref t,.int (n:Int),.ref ll]∧H t=some (.tup (cv s))∧SqL K H ll (cv cs)∧((∃ a,s=[a])∨∃ a b,s=[a,b]∧a<b)∧(∀ c∈s,c+1<n)∧(∀ c∈s,c∉cs)∧∀ H',Same H H'→Q (.bl true) H'
section
variable {P:Program} {w:World} {K:PySem.W.Frag} {mg:Str→Option Value} {base:Heap}
theorem scStep:FnScope ["_law_step_here","_law_size_here","_law_loose","_law_crease"] ["_law_step_here","_law_size_here","_law_loose"] (defScope s_law_step):=⟨rfl,rfl,rfl,by decide +kernel,rfl,by decide +kernel,by decide +kernel⟩
theorem ok_step {f fCo:Addr} {fd fdCo:FuncData} (D:Def K mg "_law_step" s_law_step ["_law_step_here","_law_size_here","_law_loose"] f fd) (DCo:Def K mg "_law_counts" sCounts ["_law_thing"] fCo fdCo) (T:Own mg) (U:OwnT mg) :
  FnOk P w K mg base CX0 2 f fd ["_law_step_here","_law_size_here","_law_loose"] (spStep K):=by
 have GCo:FnOk P w K mg base CX0 1 fCo fdCo ["_law_thing"] spCounts:=ok_counts DCo T
 refine D.fn.ok scStep (fun vs H Q E h=>?_) (fun cdv A outer s H vs Q E hr h=>?_)
 ·obtain ⟨t,ll,n,s,cs,rfl,_⟩:=h
  rfl
 ·obtain ⟨t,ll,n,s,cs,rfl,ht,hl,hsh,hb,hno,k⟩:=h
  refine ⟨_,pss_cons (ps_if (pw_or (pt_not (pt_val (pe_callB call_isinst (by rfl) T.isinstance boot_isinstance (pa_cons (pv 0) (pa_cons (pe_bltn (by rfl) U.tuple boot_tuple (v:=.ty "tuple") rfl) pa_nil)))))
     (pw_or1 (pt_cmpR op_notIn_seq (pe_callB call_len_seq (by rfl) T.len PySem.boot_len (pa_cons (pv 0) pa_nil)) (pe_tup (pa_cons pe_int (pa_cons pe_int pa_nil))) rfl))).pt (pss_one (ps_ret pe_bl)) pss_nil)
   (pss_cons (ps_for PassesOwn.never rfl (pi_tup (pv 0)) (pg_name (i:=3) scStep.nd rfl (Or.inl rfl))
    (pss_one (ps_if (pw_or (pt_not (pt_val (pe_call GCo hr (by rfl) DCo.at_ DCo.fn.kp DCo.bd .nil pass0 (pa_cons (pv 3) pa_nil)))) (pw_or (pt_cmpR op_lt (pv 3) pe_int (nomark _)) (pw_or (pt_cmpR op_gt (pv 3) (pe_op op_sub (pv 1) pe_int) (nomark _))
      (pw_or1 (pt_cmpR op_in_seq (pv 3) (pv 2) rfl))))).pt (pss_one (ps_ret pe_bl)) pss_nil)))
   (pss_one (ps_ret (pe_or (pe_cmpR op_eq (pe_callB call_len_seq (by rfl) T.len PySem.boot_len (pa_cons (pv 0) pa_nil)) pe_int (nomark _)) (pe_one (pe_cmpR op_lt (pe_ix ix_tup (pv 0) pe_int (fun _ _=>rfl)) (pe_ix ix_tup (pv 0) pe_int (fun _ _=>rfl)) (nomark _))))))),?_⟩
  have l12:s.length=1∨s.length=2:=by
   rcases hsh with ⟨a,rfl⟩ | ⟨a,b,rfl,_⟩
   ·exact .inl rfl
   ·exact .inr rfl
  refine ⟨_,rfl,_,"tuple",_,true,rfl,.tup ht,rfl,true,rfl,iteF ?_⟩
  refine ⟨_,rfl,t,_,rfl,.inr (SqT.of ht),small_line (by show 2≤1000; decide),fun l2 hl2=>⟨l2,_,rfl,.inr (SqT.of upd_same),rfl,rfl,_,rfl,?_⟩⟩
  have s2:=same_new (o:=.tup [V.int 1,V.int 2]) hl2
  have e12:(if true=true then !inV (V.int ((cv s).length:Int)) [V.int 1,V.int 2] else inV (V.int ((cv s).length:Int)) [V.int 1,V.int 2])=false:=by
   rw [cv_length]
   rcases l12 with e | e <;> rw [e] <;> rfl
  rw [e12]
  refine iteF ?_
  refine ⟨_,rfl,t,rfl,⟨_,sameT s2 (SqT.of ht)⟩,for_tup (K:=K) (a:=t) (xs:=cv s) (fun i σ H2=>∃ (v:Option V),σ=[some (.ref t),some (.int (n:Int)),some (.ref ll),v]∧Same H H2)
   ⟨none,rfl,s2⟩ (fun i σ H2 _ ⟨_,_,s3⟩=>sameT s3 (SqT.of ht)) ?_ ?_⟩
  ·rintro i x σ H2 hx ⟨v,rfl,s3⟩
   rw [List.getElem?_map,List.getElem?_map] at hx
   cases e:s[i]? with
   | none=>rw [e] at hx; cases hx
   | some c =>
    rw [e] at hx
    obtain rfl:x=V.int (c:Int):=(Option.some.inj hx).symm
    have hc:=List.mem_of_getElem? e
    have hcb:=hb c hc
    refine ⟨_,rfl,_,rfl,true,rfl,iteF ?_⟩
    refine ⟨_,rfl,_,_,rfl,rfl,_,rfl,?_⟩
    refine ite2 (fun z=>?_) (fun _=>?_)
    ·have:=of_decide_eq_true z
     omega
    refine ⟨_,rfl,_,rfl,_,_,rfl,rfl,_,_,rfl,rfl,_,rfl,?_⟩
    refine ite2 (fun z=>?_) (fun _=>?_)
    ·have:=of_decide_eq_true z
     omega
    refine ⟨_,rfl,_,rfl,ll,_,rfl,.inl (s3.seq hl),rfl,flat_cv _,_,rfl,?_⟩
    show if inV (V.int (c:Int)) (cv cs)=true then _ else _
    rw [in_cv,decide_eq_false (hno c hc)]
    exact iteF ⟨_,rfl,s3⟩
  ·rintro σ H2 ⟨v,rfl,s3⟩
   have qt:=sameT (K:=K) s3 (SqT.of ht)
   refine ⟨_,rfl,t,_,rfl,.inr qt,rfl,_,rfl,?_⟩
   refine ite2 (fun _=>k H2 s3) (fun z=>?_)
   rcases hsh with ⟨a,rfl⟩ | ⟨a,b,rfl,hab⟩
   ·exact absurd (decide_eq_true rfl) z
   ·refine ⟨_,rfl,t,_,_,_,rfl,rfl,qt,rfl,_,rfl,t,_,_,_,rfl,rfl,qt,rfl,_,_,rfl,rfl,?_⟩
    have:decide ((a:Int)<(b:Int))=true:=decide_eq_true (by omega)
    show Q (V.bl (decide ((a:Int)<(b:Int)))) H2
    rw [this]
    exact k H2 s3
end
def spPartsN (B:BP):Sp:=fun vs H Q _=>∃ (n:Nat) (b:Addr) (ns:List Int) (L:Nat→Prop) (own:Addr→Prop) (ms:List Nat),ns.Perm (iota n)∧n≤60∧vs=[.ref b]∧B H b ns L own∧Rise L ms ∧
 ∀ (l:Addr) (as:List Addr) H',Same H H'→H l=none→H' l=some (.lst (as.map V.ref))→as.length=ms.length+1→as.Nodup→(∀ a∈as,H a=none∧a≠l)→(∀ (i:Nat) (a:Addr) (p:List Int),as[i]?=some a→(partsL ns 0 ms)[i]?=some p→H' a=some (.lst (p.map V.int)))→Q (.ref l) H'
structure BMs (P:Program) (w:World) (K:PySem.W.Frag) (mg:Str→Option Value) (base:Heap) (C:Addr) (B:BP) (kB:Nat):Prop where
 cl:Cls K C
 ok:BenchOk C B
 at_:mg "Bench"=some (.ref C)
 init:∃ f fd ps,Mk K C f∧Binds K fd ps []∧FnOk P w K mg base CX0 kB f fd ps (spInit K C B)
 draw:∃ f fd ps,Meth K C "draw" f∧Binds K fd ps []∧FnOk P w K mg base CX0 kB f fd ps (spDraw K B)
 press:∃ f fd ps,Meth K C "press" f∧Binds K fd ps []∧FnOk P w K mg base CX0 kB f fd ps (spPress K B)
 loose:∃ f fd ps,Meth K C "loose" f∧Binds K fd ps []∧FnOk P w K mg base CX0 kB f fd ps (spLoose B)
 parts:∃ f fd ps,Meth K C "parts" f∧Binds K fd ps []∧FnOk P w K mg base CX0 kB f fd ps (spPartsN B)
structure Moves (own own':Addr→Prop) (H H':Hp):Prop where
 stay:Beside own H H'
 grew:∀ y,own' y→own y∨H y=none
theorem Moves.refl {own:Addr→Prop} {H:Hp}:Moves own own H H:=⟨fun _ _ h _=>h,fun _ h=>.inl h⟩
theorem Moves.none {own own':Addr→Prop} {H H':Hp} (m:Moves own own' H H') {y:Addr} (h:H' y=none):own y∨H y=none:=by
 cases e:H y with
 | none=>exact .inr rfl
 | some o =>
  by_cases q:own y
  ·exact .inl q
  ·rw [m.stay y o e q] at h
   cases h
theorem Moves.not {own own':Addr→Prop} {H H':Hp} (m:Moves own own' H H') {y:Addr} {o:HO} (h:H y=some o) (n:¬ own y):¬ own' y:=fun q=>by
 rcases m.grew y q with z | z
 ·exact n z
 ·rw [h] at z; cases z
theorem Moves.same {own own':Addr→Prop} {H H1 H2:Hp} (m:Moves own own' H H1) (s:Same H1 H2):Moves own own' H H2:=⟨fun y o h n=>s y o (m.stay y o h n),m.grew⟩
theorem Moves.trans {own own1 own2:Addr→Prop} {H H1 H2:Hp} (m:Moves own own1 H H1) (m':Moves own1 own2 H1 H2):Moves own own2 H H2 :=
 ⟨fun y o h n=>m'.stay y o (m.stay y o h n) (m.not h n),fun y h=>by
  rcases m'.grew y h with z | z
  ·exact m.grew y z
  ·exact m.none z⟩
structure Laid (own:Addr→Prop) (H:Hp) (l:Addr) (as:List Addr) (steps:List (List Nat)):Prop where
 lst:H l=some (.lst (as.map V.ref))
 nl:¬ own l
 len:as.length=steps.length
 tup:∀ (i:Nat) (a:Addr) (s:List Nat),as[i]?=some a→steps[i]?=some s→H a=some (.tup (cv s))∧¬ own a
theorem Laid.moved {own own':Addr→Prop} {H H':Hp} {l:Addr} {as:List Addr} {steps:List (List Nat)} (x:Laid own H l as steps) (m:Moves own own' H H'):Laid own' H' l as steps :=
 ⟨m.stay _ _ x.lst x.nl,m.not x.lst x.nl,x.len,fun i a s h1 h2=>let ⟨q1,q2⟩:=x.tup i a s h1 h2; ⟨m.stay _ _ q1 q2,m.not q1 q2⟩⟩
def spApart (K:PySem.W.Frag) (B:BP):Sp:=fun vs H Q _=>∃ (b la l:Addr) (ns:List Int) (n:Nat) (own:Addr→Prop) (as:List Addr) (steps:List (List Nat)),vs=[.ref b,.ref la,.ref l]∧B H b ns (fun _=>False) own∧H la=some (.lst ((plc ns).map V.int))∧¬ own la∧Laid own H l as steps∧Steps (plc ns) n steps∧ns.Perm (iota n)∧1≤n∧n≤60∧NoX (plc ns) ∧
 ∀ own' H',Moves own own' H H'→B H' b ns (fun c=>c∈steps.flatten) own'→Q (.bl true) H'
def spPressed (K:PySem.W.Frag) (B:BP):Sp:=fun vs H Q _=>∃ (b la l:Addr) (ns:List Int) (n:Nat) (own:Addr→Prop) (as:List Addr) (steps:List (List Nat)),vs=[.ref b,.ref la,.ref l]∧B H b ns (fun c=>c∈steps.flatten) own∧H la=some (.lst ((plc ns).map V.int))∧¬ own la∧Laid own H l as steps∧Steps (plc ns) n steps∧ns.Perm (iota n)∧1≤n∧n≤60∧NoX (plc ns) ∧
 ∀ own' H',Moves own own' H H'→B H' b ns (fun _=>False) own'→Q (.bl true) H'
section
variable {P:Program} {w:World} {K:PySem.W.Frag} {mg:Str→Option Value} {base:Heap} {C:Addr} {B:BP} {kB:Nat}
abbrev nmApart:List Str:=["_law_bench","_law_at","_law_steps","_law_loose","_law_step_here","_law_parts","_law_k"]
theorem scApart:FnScope nmApart ["_law_bench","_law_at","_law_steps"] (defScope s_law_apart):=⟨rfl,rfl,rfl,by decide +kernel,rfl,by decide +kernel,by decide +kernel⟩
theorem ok_apart {f fSt fCo fLF fH fW fR:Addr} {fd fdSt fdCo fdLF fdH fdW fdR:FuncData} (BM:BMs P w K mg base C B kB) (hkB:kB≤27) (D:Def K mg "_law_apart" s_law_apart ["_law_bench","_law_at","_law_steps"] f fd)
  (DSt:Def K mg "_law_step" s_law_step ["_law_step_here","_law_size_here","_law_loose"] fSt fdSt) (DCo:Def K mg "_law_counts" sCounts ["_law_thing"] fCo fdCo) (DLF:Def K mg "_law_free" sLFree ["_law_at","_law_loose"] fLF fdLF) (DH:Def K mg "_law_held" sHeld nmHeld fH fdH)
  (DW:Def K mg "_law_wraps" sLWraps ["_law_at","_law_crease","_law_stamp"] fW fdW) (DR:Def K mg "_law_row" s_law_row ["_law_found","_law_due"] fR fdR) (T:Own mg) (M:OwnM mg) (U:OwnT mg) :
  FnOk P w K mg base CX0 28 f fd ["_law_bench","_law_at","_law_steps"] (spApart K B):=by
 have GLF:FnOk P w K mg base CX0 3 fLF fdLF ["_law_at","_law_loose"] (spFree K):=ok_lfree DLF DH DW T M
 have GSt:FnOk P w K mg base CX0 2 fSt fdSt ["_law_step_here","_law_size_here","_law_loose"] (spStep K):=ok_step DSt DCo T U
 have GR:FnOk P w K mg base CX0 2 fR fdR ["_law_found","_law_due"] (spSameRow K):=ok_samerow DR DCo T
 have O:=BM.ok
 obtain ⟨fDr,fdDr,psDr,mDr,bDr,GDr⟩:=BM.draw
 obtain ⟨fLo,fdLo,psLo,mLo,bLo,GLo⟩:=BM.loose
 obtain ⟨fPa,fdPa,psPa,mPa,bPa,GPa⟩:=BM.parts
 refine D.fn.ok scApart (fun vs H Q E h=>?_) (fun cdv A outer s H vs Q E hr h=>?_)
 ·obtain ⟨b,la,l,ns,n,own,as,steps,rfl,_⟩:=h
  rfl
 ·obtain ⟨b,la,l,ns,n,own,as,steps,rfl,hB,ha,na,LA,ST,pm,n1,n2,nx,k⟩:=h
  have nl:=perm_len pm
  have pl:=plc_length ns
  have hr2:=hr.mono (show 2≤27 by decide)
  have hr3:=hr.mono (show 3≤27 by decide)
  have hrB:=hr.mono hkB
  have ri:Rise (fun c=>c∈steps.flatten) (List.range (n - 1)):=⟨fun c=>by
   rw [List.mem_range]
   exact ⟨fun h=>ST.all c (by omega),fun h=>by have:=ST.bnd c h; omega⟩,List.pairwise_lt_range⟩
  have lfl:steps.flatten.length=n - 1:=by
   have p:steps.flatten.Perm (List.range (n - 1)):=(List.perm_ext_iff_of_nodup ST.nd List.nodup_range).mpr fun c=>(ri.mem c).symm
   rw [p.length_eq,List.length_range]
  have lenF:∀ i,(steps.take i).flatten.length≤59:=fun i=>by
   have e:steps.flatten=(steps.take i).flatten++(steps.drop i).flatten:=by rw [← List.flatten_append,List.take_append_drop]
   have:=congrArg List.length e
   rw [List.length_append] at this
   omega
  refine ⟨_,pss_cons (ps_set (i:=3) scApart.nd rfl (Or.inl rfl) (pe_lst pa_nil))
   (pss_cons (ps_for PassesOwn.never rfl (pi_list (pv 2)) (pg_name (i:=4) scApart.nd rfl (Or.inl rfl))
    (pss_cons (ps_if (pt_not (pt_val (pe_call GSt hr2 (by rfl) DSt.at_ DSt.fn.kp DSt.bd .nil pass0 (pa_cons (pv 4) (pa_cons (pe_callB call_len_seq (by rfl) T.len PySem.boot_len (pa_cons (pv 1) pa_nil)) (pa_cons (pv 3) pa_nil)))))) (pss_one (ps_ret pe_bl)) pss_nil)
    (pss_cons (ps_set (i:=3) scApart.nd rfl (Or.inl rfl) (pe_op op_cat (pv 3) (pe_callTy call_list_of (by rfl) T.list boot_list (pa_cons (pv 4) pa_nil))))
    (pss_cons (ps_if (pt_not (pt_val (pe_call GLF hr3 (by rfl) DLF.at_ DLF.fn.kp DLF.bd .nil pass0 (pa_cons (pv 1) (pa_cons (pv 3) pa_nil))))) (pss_one (ps_ret pe_bl)) pss_nil)
    (pss_cons (ps_expr (pe_meth (pv 0) BM.cl mDr GDr hrB bDr .nil pass0 (pa_cons (pv 4) pa_nil)))
    (pss_one (ps_if (pt_not (pt_val (pe_call GR hr2 (by rfl) DR.at_ DR.fn.kp DR.bd .nil pass0 (pa_cons (pe_meth0 (pv 0) BM.cl mLo GLo hrB bLo .nil pass0) (pa_cons (pe_callB call_sorted (by rfl) T.sorted PyProof.Rows.boot_sorted (pa_cons (pv 3) pa_nil)) pa_nil))))) (pss_one (ps_ret pe_bl)) pss_nil)))))))
   (pss_cons (ps_set (i:=5) scApart.nd rfl (Or.inl rfl) (pe_meth0 (pv 0) BM.cl mPa GPa hrB bPa .nil pass0))
   (pss_cons (ps_if (pw_or (pt_cmpR op_ne (pe_callB call_len_seq (by rfl) T.len PySem.boot_len (pa_cons (pv 3) pa_nil)) (pe_op op_sub (pe_callB call_len_seq (by rfl) T.len PySem.boot_len (pa_cons (pv 1) pa_nil)) pe_int) (nomark _))
     (pw_or (pt_not (pt_val (pe_callB call_isinst (by rfl) T.isinstance boot_isinstance (pa_cons (pv 5) (pa_cons (pe_bltn (by rfl) T.list boot_list (v:=.ty "list") rfl) pa_nil)))))
     (pw_or1 (pt_cmpR op_ne (pe_callB call_len_seq (by rfl) T.len PySem.boot_len (pa_cons (pv 5) pa_nil)) (pe_callB call_len_seq (by rfl) T.len PySem.boot_len (pa_cons (pv 1) pa_nil)) (nomark _))))).pt (pss_one (ps_ret pe_bl)) pss_nil)
   (pss_cons (ps_for PassesOwn.never rfl (pi_range1 rfl T.range (pa_cons (pe_callB call_len_seq (by rfl) T.len PySem.boot_len (pa_cons (pv 1) pa_nil)) pa_nil)) (pg_name (i:=6) scApart.nd rfl (Or.inl rfl))
    (pss_one (ps_if (pt_not (pt_val (pe_call GR hr2 (by rfl) DR.at_ DR.fn.kp DR.bd .nil pass0 (pa_cons (pe_ix ix_list (pv 5) (pv 6) (fun _ _=>rfl)) (pa_cons (pe_lst (pa_cons (pv 6) pa_nil)) pa_nil))))) (pss_one (ps_ret pe_bl)) pss_nil)))
   (pss_one (ps_ret pe_bl)))))),?_⟩
  refine ⟨small_line (by decide),fun l0 hl0=>?_⟩
  have t0:=same_new (o:=.lst []) hl0
  refine ⟨_,rfl,l,rfl,⟨_,SqL.of (t0 _ _ LA.lst)⟩,for_list (K:=K) (a:=l) (xs:=as.map V.ref) (fun i σ H2=>∃ (ll:Addr) (own2:Addr→Prop) (v:Option V),σ=[some (.ref b),some (.ref la),some (.ref l),some (.ref ll),v,none,none]∧Moves own own2 H H2∧B H2 b ns (fun c=>c∈(steps.take i).flatten) own2∧H2 ll=some (.lst (cv (steps.take i).flatten))∧¬ own2 ll)
   ⟨l0,own,none,rfl,Moves.refl.same t0,?_,upd_same,fun q=>O.held hB q hl0⟩ (fun i σ H2 _ ⟨_,_,_,_,m,_⟩=>SqL.of (LA.moved m).lst) ?_ ?_⟩
  ·have:=O.same hB t0
   have e:(fun c=>c∈(steps.take 0).flatten)=fun _:Nat=>False:=funext fun c=>propext ⟨fun h=>by simp at h,False.elim⟩
   rw [e]
   exact this
  ·rintro i x σ H2 hx ⟨ll,own2,v,rfl,m2,hB2,hll,nll⟩
   rw [List.getElem?_map] at hx
   cases ei:as[i]? with
   | none=>rw [ei] at hx; cases hx
   | some t =>
    rw [ei] at hx
    cases hx
    have hi:i<steps.length:=by rw [← LA.len]; exact (List.getElem?_eq_some_iff.mp ei).1
    have es:steps[i]?=some steps[i]:=List.getElem?_eq_getElem hi
    generalize steps[i]=st at es
    have L2':=LA.moved m2
    obtain ⟨ht,nt⟩:=L2'.tup i t st ei es
    have ha2:=m2.stay _ _ ha na
    have na2:=m2.not ha na
    have hst:st∈steps:=List.mem_of_getElem? es
    obtain ⟨ndS,newS⟩:=step_new ST.nd es
    have bS:∀ c∈st,c+1<n:=fun c hc=>ST.bnd c (List.mem_flatten.mpr ⟨st,hst,hc⟩)
    have tf:=take_flat es
    refine ⟨_,rfl,_,rfl,la,_,rfl,.inl (SqL.of ha2),_,rfl,t,ll,n,st,_,?_,ht,SqL.of hll,ST.shape st hst,bS,newS,fun H3 s3=>⟨true,rfl,iteF ?_⟩⟩
    ·rw [List.length_map,pl,nl]
     rfl
    refine ⟨_,rfl,_,rfl,t,_,rfl,.inr (SqT.of (s3 _ _ ht)),fun l4 hl4=>?_⟩
    have s4:=s3.trans (same_new (o:=.lst (cv st)) hl4)
    have lF:=lenF i
    have lS:=lenF (i+1)
    rw [tf,List.length_append] at lS
    refine ⟨ll,l4,_,_,rfl,rfl,s4 _ _ hll,upd_same,small_line (by rw [cv_length,cv_length]; omega),fun l5 hl5=>?_⟩
    rw [cv_append,← tf]
    have s5:=s4.trans (same_new (o:=.lst (cv (steps.take (i+1)).flatten)) hl5)
    refine ⟨_,rfl,_,rfl,la,l5,plc ns,(steps.take (i+1)).flatten,rfl,SqL.of (s5 _ _ ha2),SqL.of upd_same,by omega,by omega,by have:=lenF (i+1); omega,nodup_flat ST.nd _,fun c hc=>by rw [pl,nl]; exact ST.bnd c (sub_flat _ hc),fun bb H6 s6 hb=>?_⟩
    rw [hb.mpr (ST.free (i+1) (by omega))]
    refine ⟨true,rfl,iteF ?_⟩
    have s26:=s5.trans s6
    have hB6:=O.same hB2 s26
    obtain ⟨dx,fs,hins,k1,k2,k3,k4⟩:=O.ins hB6
    have m6:=m2.same s26
    have hl56:=s6 _ _ upd_same
    have n5:¬ own2 l5:=fun q=>O.held (O.same hB2 s4) q hl5
    have eU:(fun c=>c∈(steps.take i).flatten∨c∈st)=fun c=>c∈(steps.take (i+1)).flatten:=funext fun c=>propext (by rw [tf,List.mem_append])
    refine ⟨_,rfl,b,dx,fs,rfl,hins,k1,_,rfl,b,t,ns,n,_,own2,st,rfl,hB6,.inr (SqT.of (s26 _ _ ht)),nt,pm,n2,nx,ndS,bS,newS,by rw [eU]; exact ST.free (i+1) (by omega),fun _ own7 H7 stay grew hB7=>?_⟩
    rw [eU] at hB7
    have m67:Moves own2 own7 H6 H7:=⟨stay,grew⟩
    have m7:=m6.trans m67
    have hl57:=stay _ _ hl56 n5
    have n57:=m67.not hl56 n5
    obtain ⟨dx7,fs7,hins7,j1,j2,j3,j4⟩:=O.ins hB7
    refine ⟨_,rfl,b,dx7,fs7,rfl,hins7,j3,b,ns,_,own7,rfl,hB7,fun l8 ms H8 s8 hl80 ri8 hl8=>?_⟩
    refine ⟨_,rfl,l5,cz (steps.take (i+1)).flatten,rfl,SqL.of (s8 _ _ hl57),by rw [List.length_map]; have:=lenF (i+1); omega,fun l9 ms' hl9 pm9 so9=>?_⟩
    obtain ⟨ds,rfl,ri9,dl⟩:=rise_sorted pm9 so9 (nodup_flat ST.nd _)
    have e9:ds=ms:=ri9.unique ri8
    subst e9
    have s9:=same_new (o:=.lst (cv ds)) hl9
    refine ⟨l8,l9,cz ds,rfl,s9 _ _ hl8,SqL.of upd_same,by rw [List.length_map,dl]; have:=lenF (i+1); omega,true,rfl,iteF ?_⟩
    have s79:=s8.trans s9
    exact ⟨l5,own7,_,rfl,m7.same s79,O.same hB7 s79,s79 _ _ hl57,n57⟩
  ·rintro σ H2 ⟨ll,own2,v,rfl,m2,hB2,hll,nll⟩
   rw [List.length_map,LA.len,List.take_length] at hB2 hll
   have ha2:=m2.stay _ _ ha na
   obtain ⟨dx,fs,hins,k1,k2,k3,k4⟩:=O.ins hB2
   refine ⟨_,rfl,b,dx,fs,rfl,hins,k4,n,b,ns,_,own2,List.range (n - 1),pm,n2,rfl,hB2,ri,fun lp ps' H3 s3 hlp0 hlp pl3 ndp frp hps=>?_⟩
   rw [List.length_range] at pl3
   have epa:partsL ns 0 (List.range (n - 1))=(List.range n).map fun i=>[((i:Nat):Int)]:=by
    have:=partsL_all pm n1 (n - 1) 0 (by omega)
    simp only [Nat.zero_add,List.map_id'] at this
    rw [this,show n - 1+1=n by omega]
   refine ⟨_,rfl,ll,_,rfl,.inl (SqL.of (s3 _ _ hll)),_,rfl,la,_,rfl,.inl (SqL.of (s3 _ _ ha2)),_,_,rfl,rfl,rfl,_,rfl,iteNS (by rw [cv_length,lfl,List.length_map,pl,nl]; congr 1; omega) ?_⟩
   refine ⟨_,rfl,_,"list",_,true,rfl,.lst hlp,rfl,true,rfl,iteF ?_⟩
   refine ⟨_,rfl,lp,_,rfl,.inl (SqL.of hlp),_,rfl,la,_,rfl,.inl (SqL.of (s3 _ _ ha2)),rfl,_,rfl,iteNS (by rw [List.length_map,List.length_map,pl,nl,pl3]; congr 1; omega) ?_⟩
   refine ⟨_,rfl,la,_,rfl,.inl (SqL.of (s3 _ _ ha2)),_,rfl,?_,?_,?_⟩
   ·rw [List.length_map]; omega
   ·rw [List.length_map]; omega
   refine for_range (lo:=0) (n:=((((plc ns).map V.int).length:Nat):Int).toNat) (fun i σ H4=>∃ (v:Option V),σ=[some (.ref b),some (.ref la),some (.ref l),some (.ref ll),σ.getD 4 none,some (.ref lp),v]∧Same H3 H4) ⟨none,rfl,Same.refl _⟩ ?_ ?_
   ·rintro i σ H4 hi ⟨v',hσ,s4⟩
    generalize σ.getD 4 none=w4 at hσ
    subst hσ
    rw [List.length_map,pl,nl] at hi
    rw [show (0:Int)+(i:Nat)=(i:Int) by omega]
    have hi':i<ps'.length:=by omega
    have ep:ps'[i]?=some ps'[i]:=List.getElem?_eq_getElem hi'
    generalize ps'[i]=pa at ep
    have hpa:=hps i pa [((i:Nat):Int)] ep (by rw [epa,List.getElem?_map,List.getElem?_range (by omega)]; rfl)
    have gx:atI (ps'.map V.ref) (i:Int)=some (.ref pa):=atI_nat (by rw [List.getElem?_map,ep]; rfl)
    refine ⟨_,rfl,_,rfl,lp,_,_,_,rfl,rfl,SqL.of (s4 _ _ hlp),gx,_,rfl,small_line (by show 1≤1000; decide),fun l5 hl5=>?_⟩
    have s5:=same_new (o:=.lst [V.int (i:Int)]) hl5
    exact ⟨pa,l5,[((i:Nat):Int)],rfl,s5 _ _ (s4 _ _ hpa),SqL.of upd_same,by simp,true,rfl,iteF ⟨_,rfl,s4.trans s5⟩⟩
   ·rintro σ H4 ⟨v',hσ,s4⟩
    have s24:=s3.trans s4
    exact k own2 H4 (m2.same s24) (O.same hB2 s24)
end
end Sf
set_option maxHeartbeats 4000000
namespace Sf
open PySem L2 Pl
theorem boot_setZ:bootBuiltins "set"=some (.type "set"):=by decide +kernel
theorem boot_anyZ:bootBuiltins "any"=some (.builtin "any"):=by decide +kernel
theorem boot_allZ:bootBuiltins "all"=some (.builtin "all"):=by decide +kernel
structure OwnZ (mg:Str→Option Value):Prop where
 set:mg "set"=none
 any:mg "any"=none
 all:mg "all"=none
 zip:mg "zip"=none
structure Prs (H:Hp) (l:Addr) (ts:List Addr) (es:List (Nat×Nat)):Prop where
 lst:H l=some (.lst (ts.map V.ref))
 len:ts.length=es.length
 at_:∀ (i:Nat) (t:Addr) (e:Nat×Nat),ts[i]?=some t→es[i]?=some e→H t=some (.tup [.int (e.1:Int),.int (e.2:Int)])
theorem Prs.same {H H':Hp} {l:Addr} {ts:List Addr} {es:List (Nat×Nat)} (x:Prs H l ts es) (s:Same H H'):Prs H' l ts es:=⟨s _ _ x.lst,x.len,fun i t e h1 h2=>s _ _ (x.at_ i t e h1 h2)⟩
def spFoldP (K:PySem.W.Frag):Sp:=fun vs H Q _=>∃ (p:Addr) (ns:List Int) (n:Nat),vs=[.ref p]∧SqL K H p (ns.map V.int)∧ns.Perm (iota n)∧1≤n∧n≤60∧NoX (plc ns)∧∀ l H',Same H H'→H l=none→H' l=some (.lst ((plc ns).map V.int))→Q (.ref l) H'
def spCheckCr (K:PySem.W.Frag):Sp:=fun vs H Q _=>∃ (q:Addr) (n:Nat) (cs:List Nat),vs=[.int (n:Int),.ref q]∧SqS K H q (cv cs)∧cs.Nodup∧(∀ c∈cs,c+1<n)∧cs.length≤60∧∀ H',Same H H'→Q .non H'
def spEnds:Sp:=fun vs H Q _=>∃ (o:Addr) (n:Nat) (ms:List Nat),vs=[.int (n:Int),.ref o]∧H o=some (.lst (cv ms))∧1≤n∧ms.length≤60 ∧
 ∀ l ts H',Same H H'→H l=none→(∀ t∈ts,H t=none)→Prs H' l ts (endsP n ms)→Q (.ref l) H'
def spLike:Sp:=fun vs H Q _=>∃ side f l:Nat,vs=[.int (side:Int),.int (f:Int),.int (l:Int)]∧l≤1000∧f≤1000∧∀ a H',Same H H'→H a=none→H' a=some (.lst (cv (likeP side f l)))→Q (.ref a) H'
def spWW (K:PySem.W.Frag):Sp:=fun vs H Q _=>∃ (la t:Addr) (ps:List Int) (s side f l:Nat),vs=[.ref la,.int (s:Int),.int (side:Int),.ref t]∧SqL K H la (ps.map V.int)∧SqT K H t [.int (f:Int),.int (l:Int)]∧f≤l∧l<ps.length∧s<ps.length∧ps.length≤60 ∧
 ∀ H',Same H H'→Q (.bl ((likeP side f l).any fun c=>wr ps c s)) H'
def spInner:Sp:=fun vs H Q _=>∃ (l:Addr) (ts:List Addr) (es:List (Nat×Nat)),vs=[.ref l]∧Prs H l ts es∧1≤es.length∧es.length≤101∧(∀ e∈es,e.1≤e.2) ∧
 ∀ (b:Bool) H',Same H H'→(b=true↔∀ j e,1≤j→j+1<es.length→es[j]?=some e→(e.2 - e.1) % 2=0)→Q (.bl b) H'
def spLies (K:PySem.W.Frag):Sp:=fun vs H Q _=>∃ (la o:Addr) (ps:List Int) (ms:List Nat),vs=[.ref la,.ref o]∧SqL K H la (ps.map V.int)∧H o=some (.lst (cv ms))∧1≤ps.length∧ps.length≤60∧ms.Pairwise (·<·)∧(∀ c∈ms,c+1<ps.length)∧ms.length≤60 ∧
 ∀ (b:Bool) H',Same H H'→(b=true↔Fre ps (fun c=>c∈ms))→Q (.bl b) H'
theorem cv_get {ms:List Nat} {j:Nat} (h:j<ms.length):(cv ms)[j]?=some (.int ((ms.getD j 0:Nat):Int)):=by
 rw [List.getElem?_map,List.getElem?_map,List.getElem?_eq_getElem h]
 simp [List.getD,h]
theorem cv_len (ms:List Nat):(cv ms).length=ms.length:=by rw [List.length_map,List.length_map]
theorem cv_flat (ms:List Nat):(cv ms).all flatV=true:=flat_ints _
section
variable {P:Program} {w:World} {K:PySem.W.Frag} {mg:Str→Option Value} {base:Heap}
seal PS PSs PE PA
theorem scFoldP:FnScope ["pile","pair"] ["pile"] (defScope s_foldable_places):=⟨rfl,rfl,rfl,by decide +kernel,rfl,by decide +kernel,by decide +kernel⟩
theorem ok_foldp {f fX fP fC fCr fW:Addr} {fd fdX fdP fdC fdCr fdW:FuncData} (D:Def K mg "foldable_places" s_foldable_places ["pile"] f fd) (DX:Def K mg "crossing" sCrossing ["pile"] fX fdX) (DP:Def K mg "places" sPlaces ["pile"] fP fdP) (DC:Def K mg "check_pile" sCheck ["pile"] fC fdC)
  (DCr:Def K mg "cross" sCross ["at","one","other"] fCr fdCr) (DW:Def K mg "wraps" sWraps ["at","crease","stamp"] fW fdW) (T:Own mg) (M:OwnM mg):FnOk P w K mg base CX0 4 f fd ["pile"] (spFoldP K):=by
 have GX:FnOk P w K mg base CX0 3 fX fdX ["pile"] (spCrossing K):=ok_crossing DX DP DC DCr DW T M
 have GP:FnOk P w K mg base CX0 2 fP fdP ["pile"] (spPlaces K):=ok_places DP DC T
 refine D.fn.ok scFoldP (fun vs H Q E h=>?_) (fun cdv A outer s H vs Q E hr h=>?_)
 ·obtain ⟨p,ns,n,rfl,_⟩:=h
  rfl
 ·obtain ⟨p,ns,n,rfl,hq,hp,h1,h2,nx,k⟩:=h
  have hr2:=hr.mono (show 2≤3 by decide)
  have pl:(plc ns).length=n:=by rw [plc_length,perm_len hp]
  refine ⟨_,pss_cons (ps_set (i:=1) scFoldP.nd rfl (Or.inl rfl) (pe_call GX hr rfl DX.at_ DX.fn.kp DX.bd .nil pass0 (pa_cons (pv 0) pa_nil)))
   (pss_cons (ps_if (pt_cmpR op_notN (pv 1) pe_non (nomark _)) pss_never pss_nil)
   (pss_one (ps_ret (pe_call GP hr2 rfl DP.at_ DP.fn.kp DP.bd .nil pass0 (pa_cons (pv 0) pa_nil))))),?_⟩
  refine ⟨_,rfl,p,ns,n,rfl,hq,hp,h1,h2,fun H1 s1 _=>?_,fun t a b H1 s1 ht _ c1 c2 c3 c4=>?_⟩
  ·refine ⟨_,rfl,rfl,_,rfl,iteF ?_⟩
   exact ⟨_,rfl,p,ns,n,rfl,s1.seq hq,hp,h1,h2,fun l H2 s2 hl hl2=>k l H2 (s1.trans s2) (s1.free hl) hl2⟩
  ·have:=nx a b c1 (by omega) c3
   rw [c4] at this
   cases this
theorem scCheckCr:FnScope ["stamps","creases","crease"] ["stamps","creases"] (defScope s_check_creases):=⟨rfl,rfl,rfl,by decide +kernel,rfl,by decide +kernel,by decide +kernel⟩
theorem ok_checkcr {f:Addr} {fd:FuncData} (D:Def K mg "check_creases" s_check_creases ["stamps","creases"] f fd) (T:Own mg) (Z:OwnZ mg):FnOk P w K mg base CX0 1 f fd ["stamps","creases"] (spCheckCr K):=by
 refine D.fn.ok scCheckCr (fun vs H Q E h=>?_) (fun cdv A outer s H vs Q E hr h=>?_)
 ·obtain ⟨q,n,cs,rfl,_⟩:=h
  rfl
 ·obtain ⟨q,n,cs,rfl,hq,nd,hb,hl,k⟩:=h
  have cl:=cv_len cs
  obtain ⟨t2,h2,r2⟩:∃ t,PSs ((cxOf CX0 P w K mg base ["stamps","creases","crease"] "check_creases" (defScope s_check_creases) f cdv A outer s H E).nox) ((defBody s_check_creases).drop 1) t ∧
    ∀ (D:Ends) (v:Option V),(∀ H',Same H H'→D.nx [some (.int (n:Int)),some (.ref q),v] H')→t D [some (.int (n:Int)),some (.ref q),v] H:=by
   refine ⟨_,pss_one (ps_if (pt_cmpR op_ne (pe_callB call_lenSet (by rfl) T.len PySem.boot_len (pa_cons (pe_callTy (call_setS rfl) (by rfl) Z.set boot_setZ (pa_cons (pv 1) pa_nil)) pa_nil)) (pe_callB call_len_seq (by rfl) T.len PySem.boot_len (pa_cons (pv 1) pa_nil)) (nomark _)) pss_never pss_nil),?_⟩
   intro D v kD
   refine ⟨_,rfl,q,cz cs,rfl,hq,by rw [List.length_map]; omega,fun l S m hl0 _ hm=>?_⟩
   have s1:=same_new (o:=.set S m) hl0
   refine ⟨l,S,m,rfl,upd_same,_,rfl,q,_,rfl,s1.sqs hq,rfl,_,rfl,?_⟩
   refine iteNS ?_ (kD _ s1)
   show V.int _=V.int _
   have nz:(cz cs).Nodup:=by
    unfold List.Nodup
    rw [List.pairwise_map]
    exact nd.imp fun h z=>h (by omega)
   rw [hm.mpr nz,cl,List.length_map]
  refine ⟨_,pss_cons (ps_for PassesOwn.never rfl (pi_seq (pv 1)) (pg_name (i:=2) scCheckCr.nd rfl (Or.inl rfl))
    (pss_one (ps_if (pw_or (pt_cmpR op_lt (pv 2) pe_int (nomark _)) (pw_or1 (pt_cmpR op_gt (pv 2) (pe_op op_sub (pv 0) pe_int) (nomark _)))).pt pss_never pss_nil))) h2,?_⟩
  have val:∀ (i:Nat) (x:V),(cv cs)[i]?=some x→∃ c:Nat,x=.int (c:Int)∧c+1<n:=fun i x e=>by
   have hm:=List.mem_of_getElem? e
   obtain ⟨z,hz,rfl⟩:=List.mem_map.mp hm
   obtain ⟨c,hc,rfl⟩:=List.mem_map.mp hz
   exact ⟨c,rfl,hb c hc⟩
  refine ⟨_,rfl,q,rfl,?_⟩
  rcases hq with hq | hq
  ·refine .inl ⟨⟨_,hq⟩,for_list (K:=K) (a:=q) (xs:=cv cs) (fun i σ H2=>∃ v:Option V,σ=[some (.int (n:Int)),some (.ref q),v]∧H2=H) ⟨none,rfl,rfl⟩ (fun i σ H2 _ ⟨_,_,e⟩=>by rw [e]; exact hq) ?_ ?_⟩
   ·rintro i x σ H2 hi ⟨v,rfl,rfl⟩
    obtain ⟨c,rfl,hc⟩:=val i x hi
    refine ⟨_,rfl,_,_,rfl,rfl,_,rfl,ite2 (fun z=>?_) (fun _=>⟨_,rfl,_,rfl,_,_,rfl,rfl,_,_,rfl,rfl,_,rfl,ite2 (fun z=>?_) (fun _=>⟨_,rfl,rfl⟩)⟩)⟩
    ·have:=of_decide_eq_true z
     omega
    ·have:=of_decide_eq_true z
     omega
   ·rintro σ H2 ⟨v,rfl,rfl⟩
    exact r2 _ v fun H' s'=>k H' s'
  ·refine .inr ⟨⟨_,hq⟩,for_tup (K:=K) (a:=q) (xs:=cv cs) (fun i σ H2=>∃ v:Option V,σ=[some (.int (n:Int)),some (.ref q),v]∧H2=H) ⟨none,rfl,rfl⟩ (fun i σ H2 _ ⟨_,_,e⟩=>by rw [e]; exact hq) ?_ ?_⟩
   ·rintro i x σ H2 hi ⟨v,rfl,rfl⟩
    obtain ⟨c,rfl,hc⟩:=val i x hi
    refine ⟨_,rfl,_,_,rfl,rfl,_,rfl,ite2 (fun z=>?_) (fun _=>⟨_,rfl,_,rfl,_,_,rfl,rfl,_,_,rfl,rfl,_,rfl,ite2 (fun z=>?_) (fun _=>⟨_,rfl,rfl⟩)⟩)⟩
    ·have:=of_decide_eq_true z
     omega
    ·have:=of_decide_eq_true z
     omega
   ·rintro σ H2 ⟨v,rfl,rfl⟩
    exact r2 _ v fun H' s'=>k H' s'
theorem scEnds:FnScope ["stamps","opened","firsts","lasts"] ["stamps","opened"] (defScope s_ends_of_parts):=⟨rfl,rfl,rfl,by decide +kernel,rfl,by decide +kernel,by decide +kernel⟩
theorem ok_ends {f:Addr} {fd:FuncData} (D:Def K mg "ends_of_parts" s_ends_of_parts ["stamps","opened"] f fd) (T:Own mg) (Z:OwnZ mg):FnOk P w K mg base CX0 1 f fd ["stamps","opened"] spEnds:=by
 refine D.fn.ok scEnds (fun vs H Q E h=>?_) (fun cdv A outer s H vs Q E hr h=>?_)
 ·obtain ⟨o,n,ms,rfl,_⟩:=h
  rfl
 ·obtain ⟨o,n,ms,rfl,ho,h1,hl,k⟩:=h
  have cl:=cv_len ms
  refine ⟨_,pss_cons (ps_set (i:=2) scEnds.nd rfl (Or.inl rfl) (pe_op op_cat (pe_lst (pa_cons pe_int pa_nil)) (pe_lcomp (cap:=[]) (caps:=[]) rfl (pi_list (pv 1))
     rfl (by decide +kernel) (by decide +kernel) rfl (by show ∀ y:Str×NameKind,y∈_→y.2=NameKind.free→(defScope s_ends_of_parts).names.lookup y.1=some .cell∨(defScope s_ends_of_parts).names.lookup y.1=some .free; decide +kernel) rfl (fun y hy=>by cases hy) (by decide +kernel)
     (fun cl s₃ H₃ fp=>⟨pifs_nil,pe_op op_add (pv 0) pe_int⟩))))
   (pss_cons (ps_set (i:=3) scEnds.nd rfl (Or.inl rfl) (pe_op op_cat (pv 1) (pe_lst (pa_cons (pe_op op_sub (pv 0) pe_int) pa_nil))))
   (pss_one (ps_ret (pe_listzip rfl (by rfl) T.list boot_list (by rfl) Z.zip (pa_cons (pv 2) (pa_cons (pv 3) pa_nil)))))),?_⟩
  refine ⟨small_line (by decide),fun l0 hl0=>?_⟩
  have t0:=same_new (o:=.lst [V.int 0]) hl0
  refine ⟨_,rfl,o,rfl,⟨_,SqL.of (t0 _ _ ho)⟩,fun l1 hl1=>?_⟩
  refine lc_list_if (p:=fun _=>true) (f:=fun v=>match v with | .int c=>.int (c+1) | _=>.non) (by rw [cl]; omega) hl1 (SqL.of (t0 _ _ ho)) (fun x H2 R _ _ kR=>kR H2 (Same.refl _)) (fun x H2 R hx _ s2 kR=>?_) fun H2 s2 h2=>?_
  ·obtain ⟨z,hz,rfl⟩:=List.mem_map.mp hx
   exact ⟨_,rfl,_,_,rfl,rfl,kR H2 (Same.refl _)⟩
  rw [List.filter_eq_self.mpr (fun _ _=>rfl),List.map_map,List.map_map] at h2
  have e1:ms.map (((fun v=>match v with | .int c=>V.int (c+1) | _=>.non) ∘ V.int) ∘ fun (c:Nat)=>(c:Int))=ms.map fun (c:Nat)=>V.int ((c:Int)+1):=List.map_congr_left fun c _=>rfl
  rw [e1] at h2
  have sm:ms.length+1≤sizeLine:=small_line (by omega)
  refine ⟨l0,l1,_,_,rfl,rfl,s2 _ _ (upd_same),h2,?_,fun l2 hl2=>?_⟩
  ·rw [List.length_map]
   show 1+ms.length≤_
   omega
  have t2:=same_new (o:=.lst ([V.int 0]++ms.map fun (c:Nat)=>V.int ((c:Int)+1))) hl2
  have s02:Same H _:=t0.trans (s2.trans t2)
  refine ⟨_,rfl,_,rfl,_,_,rfl,rfl,small_line (by show 1≤1000; decide),fun l3 hl3=>?_⟩
  have t3:=same_new (o:=.lst [V.int ((n:Int) - 1)]) hl3
  refine ⟨o,l3,_,_,rfl,rfl,t3 _ _ (s02 _ _ ho),upd_same,?_,fun l4 hl4=>?_⟩
  ·rw [cl]
   exact sm
  have t4:=same_new (o:=.lst (cv ms++[V.int ((n:Int) - 1)])) hl4
  have s24:=t3.trans t4
  refine ⟨_,rfl,_,rfl,l2,l4,[V.int 0]++ms.map (fun (c:Nat)=>V.int ((c:Int)+1)),cv ms++[V.int ((n:Int) - 1)],rfl,SqL.of (s24 _ _ upd_same),SqL.of upd_same,?_,?_,fun l ts H5 s5 hl5 h5 tl ht=>?_⟩
  ·rw [List.length_append,List.length_map]
   show 0<1+ms.length
   omega
  ·rw [List.length_append,List.length_append,List.length_map,cl]
   show 1+ms.length≤ms.length+1
   omega
  have s04:=s02.trans s24
  have tl2:ts.length=ms.length+1:=by
   rw [tl,List.length_append,List.length_map]
   show 1+ms.length=_
   omega
  refine k l ts H5 (s04.trans s5) (s04.free hl5) (fun t htm=>?_) ⟨h5,by rw [endsP_length]; exact tl2,fun i t e hi he=>?_⟩
  ·obtain ⟨i,hi⟩:=List.getElem?_of_mem htm
   exact s04.free (ht i t hi).1
  ·obtain ⟨_,x,y,ex,ey,e5⟩:=ht i t hi
   have hil:i≤ms.length:=by have:=(List.getElem?_eq_some_iff.mp hi).1; omega
   rw [endsP_get hil] at he
   obtain rfl:=Option.some.inj he
   rw [e5]
   congr 3
   ·cases i with
    | zero =>
     have:V.int 0=x:=by simpa using ex
     rw [← this]
     rfl
    | succ i =>
     have ex2:(ms.map fun (c:Nat)=>V.int ((c:Int)+1))[i]?=some x:=ex
     rw [List.getElem?_map,List.getElem?_eq_getElem (show i<ms.length by omega)] at ex2
     have:V.int ((ms[i]:Int)+1)=x:=by simpa using ex2
     rw [← this]
     unfold fstP
     rw [if_neg (by omega)]
     simp [List.getD,show i<ms.length by omega]
   ·congr 1
    by_cases hlt:i<ms.length
    ·rw [List.getElem?_append_left (by rw [cl]; exact hlt),cv_get hlt] at ey
     rw [← Option.some.inj ey]
     unfold lstP
     rw [if_pos hlt]
    ·have ei:i=ms.length:=by omega
     subst ei
     rw [List.getElem?_append_right (by rw [cl]; exact Nat.le_refl _),cl,Nat.sub_self] at ey
     have:V.int ((n:Int) - 1)=y:=by simpa using ey
     rw [← this]
     unfold lstP
     rw [if_neg hlt]
     congr 1
     omega
theorem scLike:FnScope ["side","first","last"] ["side","first","last"] (defScope s_creases_like):=⟨rfl,rfl,rfl,by decide +kernel,rfl,by decide +kernel,by decide +kernel⟩
theorem ok_like {f:Addr} {fd:FuncData} (D:Def K mg "creases_like" s_creases_like ["side","first","last"] f fd) (T:Own mg):FnOk P w K mg base CX0 1 f fd ["side","first","last"] spLike:=by
 refine D.fn.ok scLike (fun vs H Q E h=>?_) (fun cdv A outer s H vs Q E hr h=>?_)
 ·obtain ⟨side,f,l,rfl,_⟩:=h
  rfl
 ·obtain ⟨side,fr,la,rfl,hl,hf,k⟩:=h
  refine ⟨_,pss_one (ps_ret (pe_lcomp (cap:=[0]) (caps:=["side"]) rfl (pi_range2 rfl T.range (pa_cons (pv 1) (pa_cons (pv 2) pa_nil)))
     rfl (by decide +kernel) (by decide +kernel) rfl (by show ∀ y:Str×NameKind,y∈_→y.2=NameKind.free→(defScope s_creases_like).names.lookup y.1=some .cell∨(defScope s_creases_like).names.lookup y.1=some .free; decide +kernel) rfl (fun y hy=>by rw [List.mem_singleton.mp hy]; exact ⟨.inl rfl,.inl rfl⟩) (by decide +kernel)
     (fun cl s₃ H₃ fp=>⟨pifs_one (pt_cmpR op_eq (pe_op op_mod (pv 0) pe_int) (pe_op op_mod (pv 1) pe_int) (nomark _)),pv 0⟩))),?_⟩
  refine ⟨_,rfl,_,rfl,(fr:Int),(la:Int),rfl,⟨by omega,by omega,by omega,by omega⟩,fun l1 hl1=>?_⟩
  have en:((la:Int) - (fr:Int)).toNat=la - fr:=by omega
  rw [en]
  refine lc_range_if (p:=fun i=>decide ((fr+i) % 2=side % 2)) (f:=fun i=>V.int ((fr+i:Nat):Int)) (by omega) hl1 (fun i H2 R hi s2 kR=>?_) (fun i H2 R hi _ s2 kR=>?_) fun H2 s2 h2=>?_
  ·refine ⟨_,rfl,_,_,rfl,rfl,(by show (0:Int)<2; decide),_,rfl,_,_,rfl,rfl,(by show (0:Int)<2; decide),rfl,_,rfl,?_⟩
   have e:decide (V.int (((fr:Int)+(i:Nat)) % 2)=V.int ((side:Int) % 2))=decide ((fr+i) % 2=side % 2):=by
    by_cases h:(fr+i) % 2=side % 2
    ·rw [decide_eq_true h,decide_eq_true]
     congr 1
     omega
    ·rw [decide_eq_false h,decide_eq_false]
     intro z
     injection z with z
     omega
   rw [e]
   exact kR H2 (Same.refl _)
  ·refine ⟨_,rfl,?_⟩
   have:=kR H2 (Same.refl _)
   rw [show ((fr+i:Nat):Int)=(fr:Int)+(i:Nat) by omega] at this
   exact this
  ·refine k l1 H2 s2 hl1 (h2.trans ?_)
   congr 2
   unfold likeP
   show _=List.map V.int (List.map (fun (c:Nat)=>(c:Int)) (List.map _ _))
   rw [List.map_map,List.map_map]
   rfl
theorem scWW:FnScope ["at","stamp","side","ends"] ["at","stamp","side","ends"] (defScope s_wrapped_within):=⟨rfl,rfl,rfl,by decide +kernel,rfl,by decide +kernel,by decide +kernel⟩
theorem ok_ww {f fL fW:Addr} {fd fdL fdW:FuncData} (D:Def K mg "wrapped_within" s_wrapped_within ["at","stamp","side","ends"] f fd) (DL:Def K mg "creases_like" s_creases_like ["side","first","last"] fL fdL) (DW:Def K mg "wraps" sWraps ["at","crease","stamp"] fW fdW) (T:Own mg) (M:OwnM mg) (Z:OwnZ mg) :
  FnOk P w K mg base CX0 2 f fd ["at","stamp","side","ends"] (spWW K):=by
 have GL:FnOk P w K mg base CX0 1 fL fdL ["side","first","last"] spLike:=ok_like DL T
 have GW:FnOk P w K mg base CX0 1 fW fdW ["at","crease","stamp"] (spWraps K):=ok_wraps DW M
 refine D.fn.ok scWW (fun vs H Q E h=>?_) (fun cdv A outer s H vs Q E hr h=>?_)
 ·obtain ⟨la,t,ps,s,side,f,l,rfl,_⟩:=h
  rfl
 ·obtain ⟨la,t,ps,st,side,fr,lt,rfl,ha,ht,h1,h2,h3,h4,k⟩:=h
  refine ⟨_,pss_one (ps_ret (pe_callB (call_anyL rfl) (by rfl) Z.any boot_anyZ (pa_cons (pe_lcomp (cap:=[0,1]) (caps:=["at","stamp"]) rfl
     (pi_list (pe_call GL hr rfl DL.at_ DL.fn.kp DL.bd .nil pass0 (pa_cons (pv 2) (pa_cons (pe_ix ix_tup (pv 3) pe_int (fun _ _=>rfl)) (pa_cons (pe_ix ix_tup (pv 3) pe_int (fun _ _=>rfl)) pa_nil)))))
     rfl (by decide +kernel) (by decide +kernel) rfl (by show ∀ y:Str×NameKind,y∈_→y.2=NameKind.free→(defScope s_wrapped_within).names.lookup y.1=some .cell∨(defScope s_wrapped_within).names.lookup y.1=some .free; decide +kernel) rfl
     (fun y hy=>by rcases List.mem_cons.mp hy with rfl | hy; exact ⟨.inl rfl,.inl rfl⟩; rw [List.mem_singleton.mp hy]; exact ⟨.inl rfl,.inl rfl⟩) (by decide +kernel)
     (fun cl s₃ H₃ fp=>⟨pifs_nil,pe_call GW hr rfl DW.at_ DW.fn.kp DW.bd .nil pass0 (pa_cons (pv 1) (pa_cons (pv 0) (pa_cons (pv 2) pa_nil)))⟩)) pa_nil))),?_⟩
  refine ⟨_,rfl,_,rfl,t,_,0,_,rfl,rfl,ht,rfl,_,rfl,t,_,1,_,rfl,rfl,ht,rfl,side,fr,lt,rfl,by omega,by omega,fun a H1 s1 ha0 ha1=>?_⟩
  refine ⟨a,rfl,⟨_,SqL.of ha1⟩,fun l1 hl1=>?_⟩
  have cl:=cv_len (likeP side fr lt)
  have ll:=likeP_length side fr lt
  refine lc_list_if (p:=fun _=>true) (f:=fun v=>match v with | .int c=>.bl (wr ps c.toNat st) | _=>.non) (by rw [cl]; omega) hl1 (SqL.of ha1) (fun x H2 R _ _ kR=>kR H2 (Same.refl _)) (fun x H2 R hx _ s2 kR=>?_) fun H2 s2 h2'=>?_
  ·obtain ⟨z,hz,rfl⟩:=List.mem_map.mp hx
   obtain ⟨c,hc,rfl⟩:=List.mem_map.mp hz
   obtain ⟨c1,c2,c3⟩:=mem_likeP.mp hc
   refine ⟨_,rfl,_,rfl,_,rfl,la,ps,c,st,rfl,(s1.trans s2).seq ha,by omega,h3,?_⟩
   have kk:=kR H2 (Same.refl _)
   change R (V.bl (wr ps (Int.toNat (c:Int)) st)) H2 at kk
   rw [Int.toNat_natCast] at kk
   exact kk
  ·rw [List.filter_eq_self.mpr (fun _ _=>rfl),List.map_map,List.map_map] at h2'
   refine ⟨l1,(likeP side fr lt).map fun c=>wr ps c st,rfl,SqL.of (h2'.trans ?_),?_⟩
   ·congr 2
    rw [List.map_map]
    exact List.map_congr_left fun c _=>rfl
   ·rw [List.any_map]
    exact k H2 (s1.trans s2)
theorem scInner:FnScope ["parts"] ["parts"] (defScope s_inner_parts_odd):=⟨rfl,rfl,rfl,by decide +kernel,rfl,by decide +kernel,by decide +kernel⟩
theorem cut_inner (xs:List V) (h:1≤xs.length):cutV xs (some 1) (some (-1))=(xs.drop 1).take (xs.length - 2):=by
 unfold cutV
 have e1:HT.sIx xs.length 0 (some 1)=1:=by rw [show (some 1:Option Int)=some ((1:Nat):Int) from rfl,HT.sIx_nat]; omega
 have e2:HT.sIx xs.length xs.length (some (-1))=xs.length - 1:=by
  unfold HT.sIx
  simp
  omega
 rw [e1,e2]
 congr 1
theorem cut_one (xs:List V) (h:1≤xs.length):cutV xs (some 1) none=xs.drop 1:=by
 unfold cutV
 have e1:HT.sIx xs.length 0 (some 1)=1:=by rw [show (some 1:Option Int)=some ((1:Nat):Int) from rfl,HT.sIx_nat]; omega
 rw [e1,HT.sIx_none]
 exact List.take_of_length_le (by rw [List.length_drop]; exact Nat.le_refl _)
theorem ok_inner {f:Addr} {fd:FuncData} (D:Def K mg "inner_parts_odd" s_inner_parts_odd ["parts"] f fd) (T:Own mg) (Z:OwnZ mg):FnOk P w K mg base CX0 1 f fd ["parts"] spInner:=by
 refine D.fn.ok scInner (fun vs H Q E h=>?_) (fun cdv A outer s H vs Q E hr h=>?_)
 ·obtain ⟨l,ts,es,rfl,_⟩:=h
  rfl
 ·obtain ⟨l,ts,es,rfl,hp,h1,h2,hle,k⟩:=h
  refine ⟨_,pss_one (ps_ret (pe_callB (call_allL rfl) (by rfl) Z.all boot_allZ (pa_cons (pe_lcomp2 (cap:=[]) (caps:=[]) rfl (pi_list (pe_slice sl_list (pv 0) (po_some pe_int) (po_some (pe_un un_neg pe_int))))
     rfl (by decide +kernel) (by decide +kernel) rfl rfl (by show ∀ y:Str×NameKind,y∈_→y.2=NameKind.free→(defScope s_inner_parts_odd).names.lookup y.1=some .cell∨(defScope s_inner_parts_odd).names.lookup y.1=some .free; decide +kernel) rfl (fun y hy=>by cases hy) (by decide +kernel)
     (fun cl s₃ H₃ fp=>⟨pifs_nil,pe_cmpR op_eq (pe_op op_mod (pe_op op_sub (pv 1) (pv 0)) pe_int) pe_int (nomark _)⟩)) pa_nil))),?_⟩
  refine ⟨_,rfl,_,rfl,_,rfl,_,rfl,l,_,rfl,SqL.of hp.lst,fun p1 hp1=>?_⟩
  have tl:=hp.len
  have ec:cutV (ts.map V.ref) (some 1) (some (-1))=((ts.drop 1).take (ts.length - 2)).map V.ref:=by
   rw [cut_inner _ (by rw [List.length_map]; omega),List.length_map,List.map_take,List.map_drop]
  rw [ec]
  have t1:=same_new (o:=.lst (((ts.drop 1).take (ts.length - 2)).map V.ref)) hp1
  refine ⟨p1,rfl,⟨_,SqL.of upd_same⟩,fun l1 hl1=>?_⟩
  have gi:∀ i,i<ts.length - 2→((ts.drop 1).take (ts.length - 2))[i]?=ts[i+1]?∧((es.drop 1).take (es.length - 2))[i]?=es[i+1]?:=fun i hi=>by
   rw [List.getElem?_take_of_lt hi,List.getElem?_drop,List.getElem?_take_of_lt (by omega),List.getElem?_drop,show 1+i=i+1 by omega]
   exact ⟨rfl,rfl⟩
  have lt1:((ts.drop 1).take (ts.length - 2)).length=ts.length - 2:=by rw [List.length_take,List.length_drop]; omega
  have le1:((es.drop 1).take (es.length - 2)).length=es.length - 2:=by rw [List.length_take,List.length_drop]; omega
  refine lc2_list (ps:=((es.drop 1).take (es.length - 2)).map fun e=>(V.int (e.1:Int),V.int (e.2:Int))) (fun i v _=>∃ e,es[i+1]?=some e∧v=.bl (decide ((e.2 - e.1) % 2=0))) (fun i v H2 H3 z _=>z) (by omega) hl1 (SqL.of upd_same) (by rw [List.length_map,lt1,le1,tl]) ?_ ?_ ?_
  ·intro i t p hi hpi
   have hlt:i<ts.length - 2:=by have:=(List.getElem?_eq_some_iff.mp hi).1; omega
   obtain ⟨g1,g2⟩:=gi i hlt
   rw [g1] at hi
   rw [List.getElem?_map,g2] at hpi
   cases e:es[i+1]? with
   | none=>rw [e] at hpi; cases hpi
   | some q =>
    rw [e] at hpi
    obtain rfl:=Option.some.inj hpi
    exact SqT.of (t1 _ _ (hp.at_ (i+1) t q hi e))
  ·intro i p ys H2 R hpi s2 _ kR
   have hlt:i<es.length - 2:=by have:=(List.getElem?_eq_some_iff.mp hpi).1; rw [List.length_map,le1] at this; exact this
   obtain ⟨g1,g2⟩:=gi i (by omega)
   rw [List.getElem?_map,g2] at hpi
   cases e:es[i+1]? with
   | none=>rw [e] at hpi; cases hpi
   | some q =>
    rw [e] at hpi
    obtain rfl:=Option.some.inj hpi
    have hq:=hle q (List.mem_of_getElem? e)
    refine ⟨_,rfl,_,rfl,_,_,rfl,rfl,_,_,rfl,rfl,(by show (0:Int)<2; decide),rfl,kR _ H2 (Same.refl _) ⟨q,e,?_⟩⟩
    congr 1
    by_cases h:(q.2 - q.1) % 2=0
    ·rw [decide_eq_true h,decide_eq_true]
     have e3:(((q.2:Nat):Int) - ((q.1:Nat):Int)) % 2=0:=by omega
     exact congrArg V.int e3
    ·rw [decide_eq_false h,decide_eq_false]
     intro z
     injection z with z
     omega
  ·intro vs H2 s2 h2l vl hv
   rw [List.length_map,le1] at vl
   have eb:vs=((List.range (es.length - 2)).map fun i=>decide (((es.getD (i+1) (0,0)).2 - (es.getD (i+1) (0,0)).1) % 2=0)).map V.bl:=by
    refine List.ext_getElem? fun i=>?_
    by_cases hi:i<es.length - 2
    ·have hvi:vs[i]?=some vs[i]:=List.getElem?_eq_getElem (by omega)
     obtain ⟨e,e1,e2⟩:=hv i _ hvi
     rw [hvi,e2,List.getElem?_map,List.getElem?_map,List.getElem?_range hi]
     simp [List.getD,e1]
    ·rw [List.getElem?_eq_none (by omega),List.getElem?_eq_none (by rw [List.length_map,List.length_map,List.length_range]; omega)]
   rw [eb] at h2l
   refine ⟨l1,_,rfl,SqL.of h2l,k _ H2 (t1.trans s2) ?_⟩
   rw [List.all_eq_true]
   constructor
   ·intro h j e j1 j2 ej
    have:=h _ (List.mem_map.mpr ⟨j - 1,List.mem_range.mpr (by omega),rfl⟩)
    have:=of_decide_eq_true this
    rw [show j - 1+1=j by omega] at this
    simpa [List.getD,ej] using this
   ·intro h b hb
    obtain ⟨i,hi,rfl⟩:=List.mem_map.mp hb
    have hi:=List.mem_range.mp hi
    have ei:es[i+1]?=some (es[i+1]'(by omega)):=List.getElem?_eq_getElem (by omega)
    have:=h (i+1) _ (by omega) (by omega) ei
    refine decide_eq_true ?_
    simpa [List.getD,ei] using this
theorem scLies:FnScope ["at","opened","parts","crease","before","behind"] ["at","opened"] (defScope s_lies_free):=⟨rfl,rfl,rfl,by decide +kernel,rfl,by decide +kernel,by decide +kernel⟩
theorem ok_lies {f fE fI fWW fL fW:Addr} {fd fdE fdI fdWW fdL fdW:FuncData} (D:Def K mg "lies_free" s_lies_free ["at","opened"] f fd) (DE:Def K mg "ends_of_parts" s_ends_of_parts ["stamps","opened"] fE fdE) (DI:Def K mg "inner_parts_odd" s_inner_parts_odd ["parts"] fI fdI)
  (DWW:Def K mg "wrapped_within" s_wrapped_within ["at","stamp","side","ends"] fWW fdWW) (DL:Def K mg "creases_like" s_creases_like ["side","first","last"] fL fdL) (DW:Def K mg "wraps" sWraps ["at","crease","stamp"] fW fdW) (T:Own mg) (M:OwnM mg) (Z:OwnZ mg):FnOk P w K mg base CX0 3 f fd ["at","opened"] (spLies K):=by
 have GE:FnOk P w K mg base CX0 1 fE fdE ["stamps","opened"] spEnds:=ok_ends DE T Z
 have GI:FnOk P w K mg base CX0 1 fI fdI ["parts"] spInner:=ok_inner DI T Z
 have GW:FnOk P w K mg base CX0 2 fWW fdWW ["at","stamp","side","ends"] (spWW K):=ok_ww DWW DL DW T M Z
 refine D.fn.ok scLies (fun vs H Q E h=>?_) (fun cdv A outer s H vs Q E hr h=>?_)
 ·obtain ⟨la,o,ps,ms,rfl,_⟩:=h
  rfl
 ·obtain ⟨la,o,ps,ms,rfl,ha,ho,p1,p2,inc,bnd,ml,k⟩:=h
  have hr1:=hr.mono (show 1≤2 by decide)
  have LK:=looks_iff (ps:=ps) (n:=ps.length) rfl inc bnd
  refine ⟨_,pss_cons (ps_set (i:=2) scLies.nd rfl (Or.inl rfl) (pe_call GE hr1 rfl DE.at_ DE.fn.kp DE.bd .nil pass0 (pa_cons (pe_callB call_len_seq (by rfl) T.len PySem.boot_len (pa_cons (pv 0) pa_nil)) (pa_cons (pv 1) pa_nil))))
   (pss_cons (ps_if (pt_not (pt_val (pe_call GI hr1 (by rfl) DI.at_ DI.fn.kp DI.bd .nil pass0 (pa_cons (pv 2) pa_nil)))) (pss_one (ps_ret pe_bl)) pss_nil)
   (pss_cons (ps_for PassesOwn.never rfl (pi_zip3 rfl Z.zip (pa_cons (pv 1) (pa_cons (pv 2) (pa_cons (pe_slice sl_list (pv 2) (po_some pe_int) po_none) pa_nil))))
     (pg_tup rfl (pgs_cons (pg_name (i:=3) scLies.nd rfl (Or.inl rfl)) (pgs_cons (pg_name (i:=4) scLies.nd rfl (Or.inl rfl)) (pgs_cons (pg_name (i:=5) scLies.nd rfl (Or.inl rfl)) pgs_nil))))
    (pss_one (ps_if (pw_or (pt_val (pe_call GW hr (by rfl) DWW.at_ DWW.fn.kp DWW.bd .nil pass0 (pa_cons (pv 0) (pa_cons (pv 3) (pa_cons (pv 3) (pa_cons (pv 4) pa_nil)))))) (pw_or1 (pt_val (pe_call GW hr (by rfl) DWW.at_ DWW.fn.kp DWW.bd .nil pass0 (pa_cons (pv 0) (pa_cons (pe_op op_add (pv 3) pe_int) (pa_cons (pv 3) (pa_cons (pv 5) pa_nil)))))))).pt (pss_one (ps_ret pe_bl)) pss_nil)))
   (pss_one (ps_ret pe_bl)))),?_⟩
  refine ⟨_,rfl,la,_,rfl,.inl ha,_,rfl,o,ps.length,ms,?_,ho,p1,by omega,fun l ts H1 s1 hl0 ht0 hp=>?_⟩
  ·show [V.int ((ps.map V.int).length:Int),V.ref o]=[V.int (ps.length:Int),V.ref o]
   rw [List.length_map]
  have el:=endsP_length ps.length ms
  have tl:=hp.len
  have eget:∀ {j},j≤ms.length→(endsP ps.length ms)[j]?=some (fstP ms j,lstP ps.length ms j):=fun h=>endsP_get h
  refine ⟨_,rfl,l,ts,endsP ps.length ms,rfl,hp,by omega,by omega,fun e he=>?_,fun b H2 s2 hb=>?_⟩
  ·obtain ⟨j,hj⟩:=List.getElem?_of_mem he
   have hjl:=(List.getElem?_eq_some_iff.mp hj).1
   rw [eget (by omega)] at hj
   obtain rfl:=Option.some.inj hj
   exact (fst_le inc bnd p1 (by omega)).1
  have hodd:b=true↔∀ j,1≤j→j<ms.length→(lstP ps.length ms j - fstP ms j) % 2=0:=by
   rw [hb]
   constructor
   ·intro h j j1 j2
    exact h j _ j1 (by omega) (eget (by omega))
   ·intro h j e j1 j2 ej
    rw [eget (by omega)] at ej
    obtain rfl:=Option.some.inj ej
    exact h j j1 (by omega)
  refine ⟨b,rfl,?_⟩
  cases b with
  | false =>
   refine iteT ?_
   refine k false H2 (s1.trans s2) ⟨fun z=>(by cases z),fun F=>?_⟩
   exact hodd.mpr (LK.mpr F).odd
  | true =>
   refine iteF ?_
   have odd:=hodd.mp rfl
   have s12:=s1.trans s2
   have hp2:=hp.same s2
   refine ⟨_,rfl,_,rfl,_,rfl,_,rfl,l,_,rfl,SqL.of hp2.lst,fun p3 hp3=>?_⟩
   have ec:cutV (ts.map V.ref) (some 1) none=(ts.drop 1).map V.ref:=by rw [cut_one _ (by rw [List.length_map]; omega),List.map_drop]
   rw [ec]
   have t3:=same_new (o:=.lst ((ts.drop 1).map V.ref)) hp3
   have s13:=s12.trans t3
   have hp4:=hp2.same t3
   refine ⟨o,l,p3,rfl,⟨_,SqL.of (s13 _ _ ho)⟩,⟨_,SqL.of hp4.lst⟩,⟨_,SqL.of upd_same⟩,for_zip3 (K:=K) (xs:=cv ms) (ys:=ts.map V.ref) (zs:=(ts.drop 1).map V.ref)
    (fun i σ H4=>∃ (u v x:Option V),σ=[some (.ref la),some (.ref o),some (.ref l),u,v,x]∧Same (upd H2 p3 (.lst ((ts.drop 1).map V.ref))) H4∧(∀ j,j<i→(∀ d∈likeP (ms.getD j 0) (fstP ms j) (ms.getD j 0),wr ps d (ms.getD j 0)=false)∧∀ d∈likeP (ms.getD j 0) (ms.getD j 0+1) (lstP ps.length ms (j+1)),wr ps d (ms.getD j 0+1)=false))
    ⟨none,none,none,rfl,Same.refl _,fun j hj=>by omega⟩ (fun i σ H4 ⟨_,_,_,_,s4,_⟩=>⟨SqL.of (s4 _ _ (s13 _ _ ho)),SqL.of (s4 _ _ hp4.lst),SqL.of (s4 _ _ upd_same)⟩) (by rw [cv_len,List.length_map]; omega) (by rw [cv_len,List.length_map,List.length_drop]; omega) ?_ ?_⟩
   ·rintro i x y z t σ H4 hx hy hz ht ⟨u,v,x',rfl,s4,inv⟩
    have hi:i<ms.length:=by have:=(List.getElem?_eq_some_iff.mp hx).1; rw [cv_len] at this; exact this
    rw [cv_get hi] at hx
    obtain rfl:=Option.some.inj hx
    have hti:ts[i]?=some (ts[i]'(by omega)):=List.getElem?_eq_getElem (by omega)
    have hti1:ts[i+1]?=some (ts[i+1]'(by omega)):=List.getElem?_eq_getElem (by omega)
    rw [List.getElem?_map,hti] at hy
    obtain rfl:=Option.some.inj hy
    rw [List.getElem?_map,List.getElem?_drop,show 1+i=i+1 by omega,hti1] at hz
    obtain rfl:=Option.some.inj hz
    have t5:=same_new (o:=.tup [V.int ((ms.getD i 0:Nat):Int),V.ref ts[i],V.ref ts[i+1]]) ht
    have s5:=s4.trans t5
    have e0:=s5 _ _ (hp4.at_ i _ _ hti (eget (by omega)))
    have e1:=s5 _ _ (hp4.at_ (i+1) _ _ hti1 (eget (by omega)))
    have ha5:=s5.seq (s13.seq ha)
    have hci:=bnd _ (get_mem hi)
    have f0:=fst_le inc bnd p1 (show i≤ms.length by omega)
    have f1:=fst_le inc bnd p1 (show i+1≤ms.length by omega)
    have el0:lstP ps.length ms i=ms.getD i 0:=by unfold lstP; rw [if_pos hi]
    have ef1:fstP ms (i+1)=ms.getD i 0+1:=by unfold fstP; rw [if_neg (by omega)]; rfl
    rw [el0] at e0 f0
    rw [ef1] at e1 f1
    refine ⟨t,_,rfl,SqT.of upd_same,rfl,_,_,rfl,_,_,rfl,_,_,rfl,rfl,?_⟩
    refine ⟨_,rfl,_,rfl,_,rfl,_,rfl,la,_,ps,ms.getD i 0,ms.getD i 0,fstP ms i,ms.getD i 0,rfl,ha5,SqT.of e0,f0.1,by omega,by omega,p2,fun H6 s6=>⟨_,rfl,?_⟩⟩
    refine ite2 (fun y=>?_) (fun y=>?_)
    ·refine k false H6 (s13.trans (s5.trans s6)) ⟨fun z=>(by cases z),fun F=>?_⟩
     exfalso
     obtain ⟨d,hd,hw⟩:=List.any_eq_true.mp y
     have:=(LK.mpr F).up i hi d hd
     rw [this] at hw
     cases hw
    ·have up:∀ d∈likeP (ms.getD i 0) (fstP ms i) (ms.getD i 0),wr ps d (ms.getD i 0)=false:=fun d hd=>by
      cases q:wr ps d (ms.getD i 0) with
      | false=>rfl
      | true=>exact absurd (List.any_eq_true.mpr ⟨d,hd,q⟩) y
     refine ⟨_,rfl,_,rfl,_,_,rfl,rfl,_,rfl,_,rfl,la,_,ps,ms.getD i 0+1,ms.getD i 0,ms.getD i 0+1,lstP ps.length ms (i+1),rfl,s6.seq ha5,SqT.of (s6 _ _ e1),f1.1,f1.2,by omega,p2,fun H7 s7=>⟨_,rfl,?_⟩⟩
     refine ite2 (fun y2=>?_) (fun y2=>?_)
     ·refine k false H7 (s13.trans (s5.trans (s6.trans s7))) ⟨fun z=>(by cases z),fun F=>?_⟩
      exfalso
      obtain ⟨d,hd,hw⟩:=List.any_eq_true.mp y2
      have:=(LK.mpr F).dn i hi d hd
      rw [this] at hw
      cases hw
     ·refine ⟨_,_,_,rfl,s5.trans (s6.trans s7),fun j hj=>?_⟩
      by_cases ej:j=i
      ·subst ej
       refine ⟨up,fun d hd=>?_⟩
       cases q:wr ps d (ms.getD j 0+1) with
       | false=>rfl
       | true=>exact absurd (List.any_eq_true.mpr ⟨d,hd,q⟩) y2
      ·exact inv j (by omega)
   ·rintro σ H4 ⟨u,v,x,rfl,s4,inv⟩
    rw [cv_len] at inv
    refine k true H4 (s13.trans s4) ⟨fun _=>LK.mp ⟨odd,fun j hj=>(inv j hj).1,fun j hj=>(inv j hj).2⟩,fun _=>rfl⟩
end
end Sf
set_option maxHeartbeats 4000000
namespace Pl
open PySem L2
theorem partsL_get {ns:List Int} {n:Nat} (h:ns.Perm (iota n)):∀ (ms:List Nat) (first j:Nat),j≤ms.length→(partsL ns first ms)[j]?=some (ns.filter fun s=>decide (((if j=0 then first else ms.getD (j - 1) 0+1:Nat):Int)≤s) && decide (s≤(lstP n ms j:Int)))
 | [],first,j,hj=>by
  have e:j=0:=by simpa using hj
  subst e
  show some (ns.filter fun s=>decide ((first:Int)≤s))=_
  congr 1
  refine List.filter_congr fun s hs=>?_
  have:=(perm_mem h).mp hs
  have e2:decide (s≤(lstP n [] 0:Int))=true:=decide_eq_true (by unfold lstP; simp; omega)
  rw [e2,Bool.and_true]
  rfl
 | c::cs,first,j,hj=>by
  cases j with
  | zero =>
   show some (ns.filter fun s=>decide ((first:Int)≤s) && decide (s≤(c:Int)))=_
   have e:lstP n (c::cs) 0=c:=by unfold lstP; simp
   rw [e]
   rfl
  | succ j =>
   have ih:=partsL_get h cs (c+1) j (by simpa using hj)
   show (partsL ns (c+1) cs)[j]?=_
   rw [ih]
   have e1:(if j=0 then c+1 else cs.getD (j - 1) 0+1:Nat)=(if j+1=0 then first else (c::cs).getD (j+1 - 1) 0+1:Nat):=by
    have r:(if j+1=0 then first else (c::cs).getD (j+1 - 1) 0+1:Nat)=(c::cs).getD j 0+1:=if_neg (by omega)
    rw [r]
    cases j with
    | zero=>rfl
    | succ k=>rfl
   have e2:lstP n cs j=lstP n (c::cs) (j+1):=by
    unfold lstP
    by_cases hj2:j<cs.length
    ·rw [if_pos hj2,if_pos (by simpa using hj2)]
     rfl
    ·rw [if_neg hj2,if_neg (by simpa using hj2)]
   rw [e1,e2]
theorem sorted_nat {cs:List Nat} {ms:List Int} (mp:ms.Perm (cs.map fun (c:Nat)=>(c:Int))) (so:ms.Pairwise (·≤·)) (nd:cs.Nodup):∃ rs:List Nat,ms=rs.map (fun (c:Nat)=>(c:Int))∧rs.Pairwise (·<·)∧(∀ c,c∈rs↔c∈cs)∧rs.length=cs.length:=by
 have mz:ms=(ms.map Int.toNat).map (fun (c:Nat)=>(c:Int)):=by
  have e:ms.map ((fun (c:Nat)=>(c:Int)) ∘ Int.toNat)=ms.map id:=List.map_congr_left fun x hx=>by
   obtain ⟨c,_,rfl⟩:=List.mem_map.mp (mp.mem_iff.mp hx)
   show ((Int.toNat (c:Int):Nat):Int)=(c:Int)
   rw [Int.toNat_natCast]
  rw [List.map_map,e,List.map_id]
 have ndz:(cs.map fun (c:Nat)=>(c:Int)).Nodup:=by
  unfold List.Nodup
  rw [List.pairwise_map]
  exact nd.imp fun h z=>h (by omega)
 refine ⟨ms.map Int.toNat,mz,?_,fun c=>?_,by rw [List.length_map,mp.length_eq,List.length_map]⟩
 ·rw [List.pairwise_map]
  refine List.Pairwise.imp_of_mem ?_ (List.pairwise_and_iff.mpr ⟨so,mp.nodup_iff.mpr ndz⟩)
  intro a b ha hb hab
  obtain ⟨ca,_,rfl⟩:=List.mem_map.mp (mp.mem_iff.mp ha)
  obtain ⟨cb,_,rfl⟩:=List.mem_map.mp (mp.mem_iff.mp hb)
  have h1:=hab.1
  have h2:=hab.2
  rw [Int.toNat_natCast,Int.toNat_natCast]
  omega
 ·rw [List.mem_map]
  constructor
  ·rintro ⟨x,hx,rfl⟩
   obtain ⟨c,hc,rfl⟩:=List.mem_map.mp (mp.mem_iff.mp hx)
   rw [Int.toNat_natCast]
   exact hc
  ·intro hc
   exact ⟨(c:Int),mp.mem_iff.mpr (List.mem_map.mpr ⟨c,hc,rfl⟩),by rw [Int.toNat_natCast]⟩
theorem nodup_le:∀ (n:Nat) (l:List Nat),l.Nodup→(∀ c∈l,c<n)→l.length≤n
 | 0,l,_,h=>by
  cases l with
  | nil=>exact Nat.le_refl _
  | cons a r=>exact absurd (h a (List.mem_cons_self ..)) (by omega)
 | n+1,l,nd,h=>by
  have ih:=nodup_le n (l.erase n) (nd.erase n) fun c hc=>by
   have:=(nd.mem_erase_iff).mp hc
   have:=h c this.2
   omega
  by_cases hn:n∈l
  ·rw [List.length_erase_of_mem hn] at ih
   omega
  ·rw [List.erase_of_not_mem hn] at ih
   omega
theorem inv_int {x:Int} (ms:List Int):inV (.int x) (ms.map V.int)=decide (x∈ms):=by
 refine Bool.eq_iff_iff.mpr ?_
 unfold inV
 rw [List.any_eq_true,decide_eq_true_eq]
 constructor
 ·rintro ⟨v,hv,e⟩
  obtain ⟨y,hy,rfl⟩:=List.mem_map.mp hv
  have:eqV (.int y) (.int x)=decide (y=x):=rfl
  rw [this] at e
  rw [← of_decide_eq_true e]
  exact hy
 ·intro h
  exact ⟨.int x,List.mem_map_of_mem h,(decide_eq_true rfl:decide (x=x)=true)⟩
end Pl
namespace Sf
open PySem L2 Pl
abbrev sInit:Stmt:=inClass s_Bench 0
abbrev sDraw:Stmt:=inClass s_Bench 1
abbrev sPress:Stmt:=inClass s_Bench 2
abbrev sSettle:Stmt:=inClass s_Bench 3
abbrev sLoose:Stmt:=inClass s_Bench 4
abbrev sPartsB:Stmt:=inClass s_Bench 5
abbrev sBetween:Stmt:=inClass s_Bench 6
structure BCl (K:PySem.W.Frag) (C:Addr):Prop where
 cl:Cls K C
 nAt:NoAttr K C "at"
 nPi:NoAttr K C "pile"
 nOp:NoAttr K C "opened"
structure MDef (K:PySem.W.Frag) (C:Addr) (x qual:Str) (st:Stmt) (ps:List Str) (f:Addr) (fd:FuncData):Prop where
 fn:Fun K x qual st f fd
 bd:Binds K fd ps []
 me:Meth K C x f
def bFs (la lp lo:Addr):List (Str×V):=[("at",.ref la),("pile",.ref lp),("opened",.ref lo)]
structure BAt (C:Addr) (H:Hp) (b dx la lp lo:Addr) (ns:List Int) (ms:List Nat):Prop where
 ins:H b=some (.ins C dx (bFs la lp lo))
 own:H dx=some (.own b)
 at_:H la=some (.lst ((plc ns).map V.int))
 pi_:H lp=some (.lst (ns.map V.int))
 op_:H lo=some (.lst (cv ms))
def BenchP (C:Addr):BP:=fun H b ns L own=>∃ (dx la lp lo:Addr) (ms:List Nat),BAt C H b dx la lp lo ns ms∧Rise L ms∧(1≤ns.length∧∀ c∈ms,c+1<ns.length)∧∀ y,own y↔(y=b∨y=dx∨y=la∨y=lp∨y=lo)
theorem benchP_ok (C:Addr):BenchOk C (BenchP C) where
 ins:=fun {H b ns L own} ⟨dx,la,lp,lo,ms,B,_⟩=>⟨dx,_,B.ins,rfl,rfl,rfl,rfl⟩
 held:=fun {H b ns L own x} ⟨dx,la,lp,lo,ms,B,_,_,O⟩ hx=>by
  rcases (O x).mp hx with rfl | rfl | rfl | rfl | rfl
  ·rw [B.ins]; simp
  ·rw [B.own]; simp
  ·rw [B.at_]; simp
  ·rw [B.pi_]; simp
  ·rw [B.op_]; simp
 keep:=fun {H H' b ns L own} ⟨dx,la,lp,lo,ms,B,R,bd,O⟩ k =>
  ⟨dx,la,lp,lo,ms,⟨(k b ((O b).mpr (.inl rfl))).trans B.ins,(k dx ((O dx).mpr (.inr (.inl rfl)))).trans B.own,(k la ((O la).mpr (.inr (.inr (.inl rfl))))).trans B.at_,(k lp ((O lp).mpr (.inr (.inr (.inr (.inl rfl)))))).trans B.pi_,(k lo ((O lo).mpr (.inr (.inr (.inr (.inr rfl)))))).trans B.op_⟩,R,bd,O⟩
theorem BAt.same {C:Addr} {H H':Hp} {b dx la lp lo:Addr} {ns:List Int} {ms:List Nat} (B:BAt C H b dx la lp lo ns ms) (s:Same H H'):BAt C H' b dx la lp lo ns ms:=⟨s _ _ B.ins,s _ _ B.own,s _ _ B.at_,s _ _ B.pi_,s _ _ B.op_⟩
theorem BenchP.congr {C:Addr} {H:Hp} {b:Addr} {ns:List Int} {L L':Nat→Prop} {own:Addr→Prop} (h:BenchP C H b ns L own) (e:∀ c,L c↔L' c):BenchP C H b ns L' own:=by
 obtain ⟨dx,la,lp,lo,ms,B,R,bd,O⟩:=h
 exact ⟨dx,la,lp,lo,ms,B,⟨fun c=>(R.mem c).trans (e c),R.inc⟩,bd,O⟩
def spSettle (K:PySem.W.Frag) (C:Addr):Sp:=fun vs H Q _=>∃ (b q dx la lp lo:Addr) (ns:List Int) (n:Nat) (ms cs:List Nat),vs=[.ref b,.ref q]∧BAt C H b dx la lp lo ns ms∧H q=some (.lst (cv cs))∧ns.Perm (iota n)∧1≤n∧n≤60∧cs.Nodup∧(∀ c∈cs,c+1<n)∧cs.length≤60∧Fre (plc ns) (fun c=>c∈cs) ∧
 ∀ (rs:List Nat) (l:Addr) H',(∀ y o,H y=some o→y≠b→H' y=some o)→H l=none→BAt C H' b dx la lp l ns rs→rs.Pairwise (·<·)→(∀ c,c∈rs↔c∈cs)→Q .non H'
def spBetween (C:Addr):Sp:=fun vs H Q _=>∃ (b dx la lp lo:Addr) (ns:List Int) (ms:List Nat) (f l:Nat),vs=[.ref b,.int (f:Int),.int (l:Int)]∧BAt C H b dx la lp lo ns ms∧ns.length≤60 ∧
 ∀ a H',Same H H'→H a=none→H' a=some (.lst ((ns.filter fun s=>decide ((f:Int)≤s) && decide (s≤(l:Int))).map V.int))→Q (.ref a) H'
section
variable {P:Program} {w:World} {K:PySem.W.Frag} {mg:Str→Option Value} {base:Heap}
seal PS PSs PE PA
theorem scInitB:FnScope ["self","pile"] ["self","pile"] (defScope sInit):=⟨rfl,rfl,rfl,by decide +kernel,rfl,by decide +kernel,by decide +kernel⟩
theorem ok_initB {C f fF:Addr} {fd fdF:FuncData} (F:Fun K "__init__" "Bench.__init__" sInit f fd) (BC:BCl K C) (DF:Def K mg "foldable_places" s_foldable_places ["pile"] fF fdF) (GF:FnOk P w K mg base CX0 4 fF fdF ["pile"] (spFoldP K)) (T:Own mg):FnOk P w K mg base CX0 5 f fd ["self","pile"] (spInit K C (BenchP C)):=by
 refine F.ok scInitB (fun vs H Q E h=>?_) (fun cdv A outer s H vs Q E hr h=>?_)
 ·obtain ⟨x,p,dx,ns,n,rfl,_⟩:=h
  rfl
 ·obtain ⟨x,p,dx,ns,n,rfl,hx,hdx,hp,npx,npd,pm,n1,n2,nx,k⟩:=h
  have nl:=perm_len pm
  have l1:∀ {v:V},(putF "at" v []).length<1000:=fun {v}=>Nat.lt_of_le_of_lt (length_putF _ _ _) (by decide)
  have l2:∀ {v u:V},(putF "pile" u (putF "at" v [])).length<1000:=fun {v u}=>Nat.lt_of_le_of_lt (length_putF _ _ _) (Nat.lt_of_le_of_lt (Nat.add_le_add_right (length_putF _ _ _) 1) (by decide))
  refine ⟨_,pss_cons (ps_fld (pv 0) (pe_call GF hr rfl DF.at_ DF.fn.kp DF.bd .nil pass0 (pa_cons (pv 1) pa_nil)) rfl)
   (pss_cons (ps_fld (pv 0) (pe_callTy call_list_of (by rfl) T.list boot_list (pa_cons (pv 1) pa_nil)) rfl)
   (pss_one (ps_fld (pv 0) (pe_lst pa_nil) rfl))),?_⟩
  refine ⟨_,rfl,p,ns,n,rfl,hp,pm,n1,n2,nx,fun la H1 s1 hla0 hla=>?_⟩
  refine ⟨_,rfl,x,C,dx,[],rfl,s1 _ _ hx,BC.cl,BC.nAt,by decide,?_⟩
  have nax:la≠x:=fun z=>by rw [z,hx] at hla0; cases hla0
  have nadx:la≠dx:=fun z=>by rw [z,hdx] at hla0; cases hla0
  have ndx:dx≠x:=fun z=>by rw [z,hx] at hdx; cases hdx
  have k2:∀ y o,H1 y=some o→y≠x→upd H1 x (.ins C dx (putF "at" (.ref la) [])) y=some o:=fun y o e ny=>by rw [upd_ne ny]; exact e
  have hp2:SqL K (upd H1 x (.ins C dx (putF "at" (.ref la) []))) p (ns.map V.int):=by
   rcases s1.seq hp with (h | ⟨o,h⟩) | h
   ·exact .inl (.inl (k2 _ _ h npx))
   ·exact .inl (.inr ⟨o,k2 _ _ h npx⟩)
   ·exact .inr h
  refine ⟨_,rfl,p,_,rfl,.inl hp2,fun lp hlp=>?_⟩
  have t3:=same_new (o:=.lst (ns.map V.int)) hlp
  have nlx:lp≠x:=fun z=>by rw [z,upd_same] at hlp; cases hlp
  have nlp1:H1 lp=none:=by rw [upd_ne nlx] at hlp; exact hlp
  have nlpd:lp≠dx:=fun z=>by rw [z,s1 _ _ hdx] at nlp1; cases nlp1
  have nlpa:lp≠la:=fun z=>by rw [z,hla] at nlp1; cases nlp1
  refine ⟨_,rfl,x,C,dx,_,rfl,t3 _ _ upd_same,BC.cl,BC.nPi,l1,?_⟩
  refine ⟨small_line (by decide),fun lo hlo=>?_⟩
  have t5:=same_new (o:=.lst []) hlo
  refine ⟨_,rfl,x,C,dx,_,rfl,t5 _ _ upd_same,BC.cl,BC.nOp,l2,?_⟩
  have nox:lo≠x:=fun z=>by rw [z,upd_same] at hlo; cases hlo
  have up:∀ y o,upd (upd H1 x (.ins C dx (putF "at" (.ref la) []))) lp (.lst (ns.map V.int)) y=some o→y≠x→_=some o:=fun y o (e:upd (upd H1 x (.ins C dx (putF "at" (.ref la) []))) lp (.lst (ns.map V.int)) y=some o) ny =>
   show upd (upd (upd (upd (upd H1 x (.ins C dx (putF "at" (.ref la) []))) lp (.lst (ns.map V.int))) x (.ins C dx (putF "pile" (.ref lp) (putF "at" (.ref la) [])))) lo (.lst [])) x (.ins C dx (putF "opened" (.ref lo) (putF "pile" (.ref lp) (putF "at" (.ref la) [])))) y=some o by
    rw [upd_ne ny]
    refine t5 _ _ ?_
    rw [upd_ne ny]
    exact e
  have lo1:upd (upd H1 x (.ins C dx (putF "at" (.ref la) []))) lp (.lst (ns.map V.int)) lo=none:=by rw [upd_ne nox] at hlo; exact hlo
  have loH:H lo=none:=by
   have e1:lo≠lp:=fun z=>by rw [z,upd_same] at lo1; cases lo1
   rw [upd_ne e1,upd_ne nox] at lo1
   exact s1.free lo1
  refine k (fun y=>y=x∨y=dx∨y=la∨y=lp∨y=lo) _ (fun y o e ny=>up y o (t3 _ _ (k2 _ _ (s1 _ _ e) ny)) ny) (fun y hy=>?_) ⟨dx,la,lp,lo,[],⟨?_,?_,?_,?_,?_⟩,⟨fun c=>⟨fun z=>(by cases z),fun z=>False.elim z⟩,List.Pairwise.nil⟩,⟨by omega,fun c z=>(by cases z)⟩,fun y=>Iff.rfl⟩
  ·rcases hy with rfl | rfl | rfl | rfl | rfl
   ·exact .inl rfl
   ·exact .inr (.inl rfl)
   ·exact .inr (.inr hla0)
   ·exact .inr (.inr (s1.free nlp1))
   ·exact .inr (.inr loH)
  ·exact upd_same
  ·exact up _ _ (t3 _ _ (k2 _ _ (s1 _ _ hdx) ndx)) ndx
  ·exact up _ _ (t3 _ _ (k2 _ _ hla nax)) nax
  ·exact up _ _ upd_same nlx
  ·rw [upd_ne nox]
   exact upd_same
theorem scSettle:FnScope ["self","creases","rising"] ["self","creases"] (defScope sSettle):=⟨rfl,rfl,rfl,by decide +kernel,rfl,by decide +kernel,by decide +kernel⟩
theorem ok_settle {C f fL:Addr} {fd fdL:FuncData} (D:MDef K C "settle" "Bench.settle" sSettle ["self","creases"] f fd) (BC:BCl K C) (DL:Def K mg "lies_free" s_lies_free ["at","opened"] fL fdL) (GL:FnOk P w K mg base CX0 3 fL fdL ["at","opened"] (spLies K)) (T:Own mg):FnOk P w K mg base CX0 4 f fd ["self","creases"] (spSettle K C):=by
 refine D.fn.ok scSettle (fun vs H Q E h=>?_) (fun cdv A outer s H vs Q E hr h=>?_)
 ·obtain ⟨b,q,dx,la,lp,lo,ns,n,ms,cs,rfl,_⟩:=h
  rfl
 ·obtain ⟨b,q,dx,la,lp,lo,ns,n,ms,cs,rfl,B,hq,pm,n1,n2,nd,hb,hl,F,k⟩:=h
  have pl:(plc ns).length=n:=by rw [plc_length,perm_len pm]
  refine ⟨_,pss_cons (ps_set (i:=2) scSettle.nd rfl (Or.inl rfl) (pe_callB call_sortS (by rfl) T.sorted PyProof.Rows.boot_sorted (pa_cons (pv 1) pa_nil)))
   (pss_cons (ps_if (pt_not (pt_val (pe_call GL hr (by rfl) DL.at_ DL.fn.kp DL.bd .nil pass0 (pa_cons (pe_fld (pv 0) rfl) (pa_cons (pv 2) pa_nil))))) pss_never pss_nil)
   (pss_one (ps_fld (pv 0) (pv 2) rfl))),?_⟩
  refine ⟨_,rfl,q,cz cs,rfl,.inl (SqL.of hq),by rw [List.length_map]; omega,fun l rz hl0 mp so=>?_⟩
  obtain ⟨rs,rfl,inc,mm,rl⟩:=sorted_nat mp so nd
  have t1:=same_new (o:=.lst (cv rs)) hl0
  refine ⟨_,rfl,b,C,dx,_,_,rfl,t1 _ _ B.ins,BC.cl,BC.nAt,rfl,_,rfl,la,l,plc ns,rs,rfl,SqL.of (t1 _ _ B.at_),upd_same,by omega,by omega,inc,fun c hc=>by rw [pl]; exact hb c ((mm c).mp hc),by omega,fun bb H2 s2 hbb=>?_⟩
  have ht:bb=true:=hbb.mpr (F.congr fun c=>(mm c).symm)
  subst ht
  refine ⟨true,rfl,iteF ?_⟩
  have s12:=t1.trans s2
  refine ⟨_,rfl,_,rfl,b,C,dx,_,rfl,s12 _ _ B.ins,BC.cl,BC.nOp,(by show 3<1000; decide),?_⟩
  have up:∀ y o,H2 y=some o→y≠b→upd H2 b (.ins C dx (putF "opened" (.ref l) (bFs la lp lo))) y=some o:=fun y o e ny=>by rw [upd_ne ny]; exact e
  have B2:=B.same s12
  have nb:∀ {y:Addr} {o:HO},H y=some o→(∀ fs,o≠.ins C dx fs)→y≠b:=fun {y o} e no z=>by
   rw [z,B.ins] at e
   exact no _ (Option.some.inj e).symm
  have lb:l≠b:=fun z=>by rw [z,B.ins] at hl0; cases hl0
  refine k rs l _ (fun y o e ny=>up y o (s12 _ _ e) ny) hl0 ⟨upd_same,up _ _ B2.own (nb B.own (by intro _ z; cases z)),up _ _ B2.at_ (nb B.at_ (by intro _ z; cases z)),up _ _ B2.pi_ (nb B.pi_ (by intro _ z; cases z)),up _ _ (s2 _ _ upd_same) lb⟩ inc mm
theorem scDrawB:FnScope ["self","creases"] ["self","creases"] (defScope sDraw):=⟨rfl,rfl,rfl,by decide +kernel,rfl,by decide +kernel,by decide +kernel⟩
theorem ok_drawB {C f fC fS:Addr} {fd fdC fdS:FuncData} (D:MDef K C "draw" "Bench.draw" sDraw ["self","creases"] f fd) (BC:BCl K C) (DC:Def K mg "check_creases" s_check_creases ["stamps","creases"] fC fdC) (DS:MDef K C "settle" "Bench.settle" sSettle ["self","creases"] fS fdS) (GS:FnOk P w K mg base CX0 4 fS fdS ["self","creases"] (spSettle K C)) (T:Own mg) (Z:OwnZ mg) :
  FnOk P w K mg base CX0 5 f fd ["self","creases"] (spDraw K (BenchP C)):=by
 have GC:FnOk P w K mg base CX0 1 fC fdC ["stamps","creases"] (spCheckCr K):=ok_checkcr DC T Z
 refine D.fn.ok scDrawB (fun vs H Q E h=>?_) (fun cdv A outer s H vs Q E hr h=>?_)
 ·obtain ⟨b,q,ns,n,L,own,cs,rfl,_⟩:=h
  rfl
 ·obtain ⟨b,q,ns,n,L,own,cs,rfl,⟨dx,la,lp,lo,ms,B,R,⟨n1',bd⟩,O⟩,hq,hno,pm,n2,nx,nd,hb,hL,F,k⟩:=h
  have hr1:=hr.mono (show 1≤4 by decide)
  have nl:=perm_len pm
  have pl:(plc ns).length=n:=by rw [plc_length,nl]
  have dm:∀ c∈cs,c∉ms:=fun c hc z=>hL c hc ((R.mem c).mp z)
  have csl:cs.length≤60:=by
   have:=nodup_le n cs nd fun c hc=>by have:=hb c hc; omega
   omega
  refine ⟨_,pss_cons (ps_expr (pe_call GC hr1 rfl DC.at_ DC.fn.kp DC.bd .nil pass0 (pa_cons (pe_callB call_len_seq (by rfl) T.len PySem.boot_len (pa_cons (pe_fld (pv 0) rfl) pa_nil)) (pa_cons (pv 1) pa_nil))))
   (pss_cons (ps_if (pt_val (pe_callB (call_anyL rfl) (by rfl) Z.any boot_anyZ (pa_cons (pe_lcomp (cap:=[0]) (caps:=["self"]) rfl (pi_seq (pv 1))
     rfl (by decide +kernel) (by decide +kernel) rfl (by show ∀ y:Str×NameKind,y∈_→y.2=NameKind.free→(defScope sDraw).names.lookup y.1=some .cell∨(defScope sDraw).names.lookup y.1=some .free; decide +kernel) rfl (fun y hy=>by rw [List.mem_singleton.mp hy]; exact ⟨.inl rfl,.inl rfl⟩) (by decide +kernel)
     (fun cl s₃ H₃ fp=>⟨pifs_nil,pe_cmpR (op_in_seqK (K:=K) rfl) (pv 0) (pe_fldK (K:=K) rfl (pv 1) rfl) rfl⟩)) pa_nil))) pss_never pss_nil)
   (pss_one (ps_expr (pe_meth (pv 0) BC.cl DS.me GS hr DS.bd .nil pass0 (pa_cons (pe_op op_cat (pe_fld (pv 0) rfl) (pe_callTy call_list_of (by rfl) T.list boot_list (pa_cons (pv 1) pa_nil))) pa_nil))))),?_⟩
  refine ⟨_,rfl,b,C,dx,_,_,rfl,B.ins,BC.cl,BC.nAt,rfl,la,_,rfl,.inl (SqL.of B.at_),_,rfl,q,n,cs,?_,hq,nd,hb,csl,fun H1 s1=>?_⟩
  ·show [V.int (((plc ns).map V.int).length:Int),V.ref q]=[V.int (n:Int),V.ref q]
   rw [List.length_map,pl]
  have B1:=B.same s1
  have hq1:SqS K H1 q (cv cs):=s1.sqs hq
  have cl:=cv_len cs
  refine ⟨_,rfl,q,rfl,lc_seq_if (xs:=cv cs) (p:=fun _=>true) (f:=fun _=>.bl false) (by rw [cl]; omega) hq1 (fun x H2 R' _ _ kR=>kR H2 (Same.refl _)) (fun x H2 R' hx _ s2 kR=>?_) fun l H2 hl0 s2 h2=>?_⟩
  ·obtain ⟨z,hz,rfl⟩:=List.mem_map.mp hx
   obtain ⟨c,hc,rfl⟩:=List.mem_map.mp hz
   refine ⟨_,rfl,_,rfl,b,C,dx,_,_,rfl,s2 _ _ B1.ins,BC.cl,BC.nOp,rfl,lo,cv ms,rfl,.inl (SqL.of (s2 _ _ B1.op_)),rfl,cv_flat ms,?_⟩
   have:inV (.int (c:Int)) (cv ms)=false:=by
    rw [inv_int]
    refine decide_eq_false fun z=>?_
    obtain ⟨d,hd,e⟩:=List.mem_map.mp z
    have:d=c:=by omega
    exact dm c hc (this ▸ hd)
   show R' (.bl (inV (.int (c:Int)) (cv ms))) H2
   rw [this]
   exact kR H2 (Same.refl _)
  rw [List.filter_eq_self.mpr (fun _ _=>rfl)] at h2
  have hf:(cv cs).map (fun _=>V.bl false)=(cs.map fun _=>false).map V.bl:=by
   rw [List.map_map,List.map_map,List.map_map]
   rfl
  rw [hf] at h2
  have na:(cs.map fun _=>false).any id=false:=by
   rw [List.any_map]
   exact List.any_eq_false.mpr fun _ _=>by simp
  refine ⟨l,_,rfl,SqL.of h2,_,rfl,?_⟩
  rw [na]
  refine iteF ?_
  have B2:=B1.same s2
  have s12:=s1.trans s2
  refine ⟨_,rfl,b,dx,_,rfl,B2.ins,rfl,_,rfl,b,C,dx,_,_,rfl,B2.ins,BC.cl,BC.nOp,rfl,_,rfl,q,_,rfl,s12.sqs hq,fun l3 hl3=>?_⟩
  have t3:=same_new (o:=.lst (cv cs)) hl3
  have ndm:(ms++cs).Nodup:=List.nodup_append.mpr ⟨R.inc.imp fun h=>Nat.ne_of_lt h,nd,fun x hx y hy e=>dm y hy (e ▸ hx)⟩
  have bnd:∀ c∈ms++cs,c+1<n:=fun c hc=>by
   rcases List.mem_append.mp hc with h | h
   ·have:=bd c h; omega
   ·exact hb c h
  have mcl:(ms++cs).length≤60:=by
   have:=nodup_le n (ms++cs) ndm fun c hc=>by have:=bnd c hc; omega
   omega
  refine ⟨lo,l3,_,_,rfl,rfl,t3 _ _ B2.op_,upd_same,?_,fun l4 hl4=>?_⟩
  ·rw [cv_len,cv_len]
   exact small_line (by rw [List.length_append] at mcl; omega)
  have t4:=same_new (o:=.lst (cv ms++cv cs)) hl4
  have B4:=(B2.same t3).same t4
  refine ⟨b,l4,dx,la,lp,lo,ns,n,ms,ms++cs,rfl,B4,?_,pm,by omega,n2,ndm,bnd,mcl,F.congr fun c=>?_,fun rs lr H5 k5 hlr B5 inc mm=>?_⟩
  ·rw [upd_same]
   congr 2
   rw [← List.map_append,← List.map_append]
  ·rw [List.mem_append,R.mem]
  have s14:Same H (upd (upd H2 l3 (.lst (cv cs))) l4 (.lst (cv ms++cv cs))):=s12.trans (t3.trans t4)
  refine k .non (fun y=>y=b∨y=dx∨y=la∨y=lp∨y=lr) H5 (fun y o e ny=>k5 y o (s14 _ _ e) fun z=>ny ((O y).mpr (.inl z))) (fun y hy=>?_) ⟨dx,la,lp,lr,rs,B5,⟨fun c=>?_,inc⟩,⟨n1',fun c hc=>?_⟩,fun y=>Iff.rfl⟩
  ·rcases hy with h | h | h | h | h
   ·exact .inl ((O y).mpr (.inl h))
   ·exact .inl ((O y).mpr (.inr (.inl h)))
   ·exact .inl ((O y).mpr (.inr (.inr (.inl h))))
   ·exact .inl ((O y).mpr (.inr (.inr (.inr (.inl h)))))
   ·rw [h]
    exact .inr (s14.free hlr)
  ·rw [mm,List.mem_append,R.mem]
  ·rw [nl]
   exact bnd c ((mm c).mp hc)
theorem scPressB:FnScope ["self","creases"] ["self","creases"] (defScope sPress):=⟨rfl,rfl,rfl,by decide +kernel,rfl,by decide +kernel,by decide +kernel⟩
theorem ok_pressB {C f fC fS:Addr} {fd fdC fdS:FuncData} (D:MDef K C "press" "Bench.press" sPress ["self","creases"] f fd) (BC:BCl K C) (DC:Def K mg "check_creases" s_check_creases ["stamps","creases"] fC fdC) (DS:MDef K C "settle" "Bench.settle" sSettle ["self","creases"] fS fdS) (GS:FnOk P w K mg base CX0 4 fS fdS ["self","creases"] (spSettle K C)) (T:Own mg) (Z:OwnZ mg) :
  FnOk P w K mg base CX0 5 f fd ["self","creases"] (spPress K (BenchP C)):=by
 have GC:FnOk P w K mg base CX0 1 fC fdC ["stamps","creases"] (spCheckCr K):=ok_checkcr DC T Z
 refine D.fn.ok scPressB (fun vs H Q E h=>?_) (fun cdv A outer s H vs Q E hr h=>?_)
 ·obtain ⟨b,q,ns,n,L,own,cs,rfl,_⟩:=h
  rfl
 ·obtain ⟨b,q,ns,n,L,own,cs,rfl,⟨dx,la,lp,lo,ms,B,R,⟨n1',bd⟩,O⟩,hq,hno,pm,n2,nx,nd,hb,hL,F,k⟩:=h
  have hr1:=hr.mono (show 1≤4 by decide)
  have nl:=perm_len pm
  have pl:(plc ns).length=n:=by rw [plc_length,nl]
  have im:∀ c∈cs,c∈ms:=fun c hc=>(R.mem c).mpr (hL c hc)
  have csl:cs.length≤60:=by
   have:=nodup_le n cs nd fun c hc=>by have:=hb c hc; omega
   omega
  have msl:ms.length≤60:=by
   have:=nodup_le n ms (R.inc.imp fun h=>Nat.ne_of_lt h) fun c hc=>by have:=bd c hc; omega
   omega
  refine ⟨_,pss_cons (ps_expr (pe_call GC hr1 rfl DC.at_ DC.fn.kp DC.bd .nil pass0 (pa_cons (pe_callB call_len_seq (by rfl) T.len PySem.boot_len (pa_cons (pe_fld (pv 0) rfl) pa_nil)) (pa_cons (pv 1) pa_nil))))
   (pss_cons (ps_if (pt_not (pt_val (pe_callB (call_allL rfl) (by rfl) Z.all boot_allZ (pa_cons (pe_lcomp (cap:=[0]) (caps:=["self"]) rfl (pi_seq (pv 1))
     rfl (by decide +kernel) (by decide +kernel) rfl (by show ∀ y:Str×NameKind,y∈_→y.2=NameKind.free→(defScope sPress).names.lookup y.1=some .cell∨(defScope sPress).names.lookup y.1=some .free; decide +kernel) rfl (fun y hy=>by rw [List.mem_singleton.mp hy]; exact ⟨.inl rfl,.inl rfl⟩) (by decide +kernel)
     (fun cl s₃ H₃ fp=>⟨pifs_nil,pe_cmpR (op_in_seqK (K:=K) rfl) (pv 0) (pe_fldK (K:=K) rfl (pv 1) rfl) rfl⟩)) pa_nil)))) pss_never pss_nil)
   (pss_one (ps_expr (pe_meth (pv 0) BC.cl DS.me GS hr DS.bd .nil pass0 (pa_cons (pe_lcomp (cap:=[1]) (caps:=["creases"]) rfl (pi_list (pe_fld (pv 0) rfl))
     rfl (by decide +kernel) (by decide +kernel) rfl (by show ∀ y:Str×NameKind,y∈_→y.2=NameKind.free→(defScope sPress).names.lookup y.1=some .cell∨(defScope sPress).names.lookup y.1=some .free; decide +kernel) rfl (fun y hy=>by rw [List.mem_singleton.mp hy]; exact ⟨.inl rfl,.inl rfl⟩) (by decide +kernel)
     (fun cl s₃ H₃ fp=>⟨pifs_one (pt_cmpR (op_notIn_seqK (K:=K) rfl) (pv 0) (pv 1) rfl),pv 0⟩)) pa_nil))))),?_⟩
  refine ⟨_,rfl,b,C,dx,_,_,rfl,B.ins,BC.cl,BC.nAt,rfl,la,_,rfl,.inl (SqL.of B.at_),_,rfl,q,n,cs,?_,hq,nd,hb,csl,fun H1 s1=>?_⟩
  ·show [V.int (((plc ns).map V.int).length:Int),V.ref q]=[V.int (n:Int),V.ref q]
   rw [List.length_map,pl]
  have B1:=B.same s1
  have hq1:SqS K H1 q (cv cs):=s1.sqs hq
  have cl:=cv_len cs
  refine ⟨_,rfl,q,rfl,lc_seq_if (xs:=cv cs) (p:=fun _=>true) (f:=fun _=>.bl true) (by rw [cl]; omega) hq1 (fun x H2 R' _ _ kR=>kR H2 (Same.refl _)) (fun x H2 R' hx _ s2 kR=>?_) fun l H2 hl0 s2 h2=>?_⟩
  ·obtain ⟨z,hz,rfl⟩:=List.mem_map.mp hx
   obtain ⟨c,hc,rfl⟩:=List.mem_map.mp hz
   refine ⟨_,rfl,_,rfl,b,C,dx,_,_,rfl,s2 _ _ B1.ins,BC.cl,BC.nOp,rfl,lo,cv ms,rfl,.inl (SqL.of (s2 _ _ B1.op_)),rfl,cv_flat ms,?_⟩
   have:inV (.int (c:Int)) (cv ms)=true:=by
    rw [inv_int]
    exact decide_eq_true (List.mem_map.mpr ⟨c,im c hc,rfl⟩)
   show R' (.bl (inV (.int (c:Int)) (cv ms))) H2
   rw [this]
   exact kR H2 (Same.refl _)
  rw [List.filter_eq_self.mpr (fun _ _=>rfl)] at h2
  have hf:(cv cs).map (fun _=>V.bl true)=(cs.map fun _=>true).map V.bl:=by
   rw [List.map_map,List.map_map,List.map_map]
   rfl
  rw [hf] at h2
  have na:(cs.map fun _=>true).all id=true:=by
   rw [List.all_map]
   exact List.all_eq_true.mpr fun _ _=>rfl
  refine ⟨l,_,rfl,SqL.of h2,_,rfl,?_⟩
  rw [na]
  refine iteF ?_
  have B2:=B1.same s2
  have s12:=s1.trans s2
  refine ⟨_,rfl,b,dx,_,rfl,B2.ins,rfl,_,rfl,b,C,dx,_,_,rfl,B2.ins,BC.cl,BC.nOp,rfl,lo,rfl,⟨_,SqL.of B2.op_⟩,fun l3 hl3=>?_⟩
  refine lc_list_if (xs:=cv ms) (p:=fun v=>match v with | .int c=>!decide (c∈cz cs) | _=>false) (f:=id) (by rw [cv_len]; omega) hl3 (SqL.of B2.op_) (fun x H3 R' hx s3 kR=>?_) (fun x H3 R' hx _ s3 kR=>⟨_,rfl,kR H3 (Same.refl _)⟩) fun H3 s3 h3=>?_
  ·obtain ⟨z,hz,rfl⟩:=List.mem_map.mp hx
   refine ⟨_,rfl,_,rfl,q,cv cs,rfl,s3.sqs (s12.sqs hq),rfl,cv_flat cs,_,rfl,?_⟩
   have:=kR H3 (Same.refl _)
   show R' (!inV (.int z) (cv cs)) H3
   rw [inv_int]
   exact this
  have ef:((cv ms).filter (fun v=>match v with | .int c=>!decide (c∈cz cs) | _=>false)).map id=cv (ms.filter fun c=>!decide (c∈cs)):=by
   rw [List.map_id,List.filter_map,List.filter_map]
   congr 2
   refine List.filter_congr fun c _=>?_
   show (!decide ((c:Int)∈cz cs))=(!decide (c∈cs))
   have:((c:Int)∈cz cs)↔c∈cs:=by
    rw [List.mem_map]
    constructor
    ·rintro ⟨d,hd,e⟩
     have:d=c:=by omega
     exact this ▸ hd
    ·exact fun h=>⟨c,h,rfl⟩
   rw [decide_eq_decide.mpr this]
  rw [ef] at h3
  have B3:=B2.same s3
  have mf:∀ c,c∈ms.filter (fun c=>!decide (c∈cs))↔(c∈ms∧c∉cs):=fun c=>by rw [List.mem_filter]; simp
  have s13:=s12.trans s3
  have fl:(ms.filter fun c=>!decide (c∈cs)).length≤60:=Nat.le_trans (List.length_filter_le _ _) msl
  refine ⟨b,l3,dx,la,lp,lo,ns,n,ms,ms.filter (fun c=>!decide (c∈cs)),rfl,B3,h3,pm,by omega,n2,(R.inc.imp fun h=>Nat.ne_of_lt h).sublist List.filter_sublist,fun c hc=>?_,fl,F.congr fun c=>?_,fun rs lr H5 k5 hlr B5 inc mm=>?_⟩
  ·have:=bd c ((mf c).mp hc).1
   omega
  ·rw [mf,R.mem]
  refine k .non (fun y=>y=b∨y=dx∨y=la∨y=lp∨y=lr) H5 (fun y o e ny=>k5 y o (s13 _ _ e) fun z=>ny ((O y).mpr (.inl z))) (fun y hy=>?_) ⟨dx,la,lp,lr,rs,B5,⟨fun c=>?_,inc⟩,⟨n1',fun c hc=>?_⟩,fun y=>Iff.rfl⟩
  ·rcases hy with h | h | h | h | h
   ·exact .inl ((O y).mpr (.inl h))
   ·exact .inl ((O y).mpr (.inr (.inl h)))
   ·exact .inl ((O y).mpr (.inr (.inr (.inl h))))
   ·exact .inl ((O y).mpr (.inr (.inr (.inr (.inl h)))))
   ·rw [h]
    exact .inr (s13.free hlr)
  ·rw [mm,mf,R.mem]
  ·exact bd c ((mf c).mp ((mm c).mp hc)).1
theorem scLooseB:FnScope ["self"] ["self"] (defScope sLoose):=⟨rfl,rfl,rfl,by decide +kernel,rfl,by decide +kernel,by decide +kernel⟩
theorem ok_looseB {C f:Addr} {fd:FuncData} (D:MDef K C "loose" "Bench.loose" sLoose ["self"] f fd) (BC:BCl K C) (T:Own mg):FnOk P w K mg base CX0 1 f fd ["self"] (spLoose (BenchP C)):=by
 refine D.fn.ok scLooseB (fun vs H Q E h=>?_) (fun cdv A outer s H vs Q E hr h=>?_)
 ·obtain ⟨b,ns,L,own,rfl,_⟩:=h
  rfl
 ·obtain ⟨b,ns,L,own,rfl,⟨dx,la,lp,lo,ms,B,R,bd,O⟩,k⟩:=h
  refine ⟨_,pss_one (ps_ret (pe_callTy call_list_of (by rfl) T.list boot_list (pa_cons (pe_fld (pv 0) rfl) pa_nil))),?_⟩
  exact ⟨_,rfl,b,C,dx,_,_,rfl,B.ins,BC.cl,BC.nOp,rfl,lo,_,rfl,.inl (SqL.of B.op_),fun l hl=>k l ms _ (same_new hl) hl R upd_same⟩
theorem scBetween:FnScope ["self","first","last"] ["self","first","last"] (defScope sBetween):=⟨rfl,rfl,rfl,by decide +kernel,rfl,by decide +kernel,by decide +kernel⟩
theorem ok_between {C f:Addr} {fd:FuncData} (D:MDef K C "part_between" "Bench.part_between" sBetween ["self","first","last"] f fd) (BC:BCl K C):FnOk P w K mg base CX0 1 f fd ["self","first","last"] (spBetween C):=by
 refine D.fn.ok scBetween (fun vs H Q E h=>?_) (fun cdv A outer s H vs Q E hr h=>?_)
 ·obtain ⟨b,dx,la,lp,lo,ns,ms,f,l,rfl,_⟩:=h
  rfl
 ·obtain ⟨b,dx,la,lp,lo,ns,ms,fr,lt,rfl,B,hn,k⟩:=h
  refine ⟨_,pss_one (ps_ret (pe_lcomp (cap:=[1,2]) (caps:=["first","last"]) rfl (pi_list (pe_fld (pv 0) rfl))
     rfl (by decide +kernel) (by decide +kernel) rfl (by show ∀ y:Str×NameKind,y∈_→y.2=NameKind.free→(defScope sBetween).names.lookup y.1=some .cell∨(defScope sBetween).names.lookup y.1=some .free; decide +kernel) rfl
     (fun y hy=>by rcases List.mem_cons.mp hy with rfl | hy; exact ⟨.inl rfl,.inl rfl⟩; rw [List.mem_singleton.mp hy]; exact ⟨.inl rfl,.inl rfl⟩) (by decide +kernel)
     (fun cl s₃ H₃ fp=>⟨pifs_one (pw_and (pt_cmpR op_le (pv 1) (pv 0) (nomark _)) (pw_and1 (pt_cmpR op_le (pv 0) (pv 2) (nomark _)))).pt,pv 0⟩))),?_⟩
  refine ⟨_,rfl,b,C,dx,_,_,rfl,B.ins,BC.cl,BC.nPi,rfl,lp,rfl,⟨_,SqL.of B.pi_⟩,fun l1 hl1=>?_⟩
  refine lc_list_if (xs:=ns.map V.int) (p:=fun v=>match v with | .int s=>decide ((fr:Int)≤s) && decide (s≤(lt:Int)) | _=>false) (f:=id) (by rw [List.length_map]; omega) hl1 (SqL.of B.pi_) (fun x H2 R' hx s2 kR=>?_) (fun x H2 R' hx _ s2 kR=>⟨_,rfl,kR H2 (Same.refl _)⟩) fun H2 s2 h2=>?_
  ·obtain ⟨z,hz,rfl⟩:=List.mem_map.mp hx
   have kk:=kR H2 (Same.refl _)
   change R' (decide ((fr:Int)≤z) && decide (z≤(lt:Int))) H2 at kk
   refine ⟨_,rfl,_,rfl,_,_,rfl,rfl,_,rfl,?_⟩
   cases e:decide ((fr:Int)≤z) with
   | false =>
    rw [e,Bool.false_and] at kk
    exact iteF kk
   | true =>
    rw [e,Bool.true_and] at kk
    exact iteT ⟨_,rfl,_,rfl,_,_,rfl,rfl,_,rfl,kk⟩
  ·refine k l1 H2 s2 hl1 (h2.trans ?_)
   rw [List.map_id,List.filter_map]
   rfl
theorem scPartsB:FnScope ["self"] ["self"] (defScope sPartsB):=⟨rfl,rfl,rfl,by decide +kernel,rfl,by decide +kernel,by decide +kernel⟩
theorem ok_partsB {C f fE fB:Addr} {fd fdE fdB:FuncData} (D:MDef K C "parts" "Bench.parts" sPartsB ["self"] f fd) (BC:BCl K C) (DE:Def K mg "ends_of_parts" s_ends_of_parts ["stamps","opened"] fE fdE) (DB:MDef K C "part_between" "Bench.part_between" sBetween ["self","first","last"] fB fdB) (T:Own mg) (Z:OwnZ mg) :
  FnOk P w K mg base CX0 2 f fd ["self"] (fun vs H Q E=>∃ (n:Nat) (b:Addr) (ns:List Int) (L:Nat→Prop) (own:Addr→Prop) (ms:List Nat),ns.Perm (iota n)∧n≤60∧vs=[.ref b]∧BenchP C H b ns L own∧Rise L ms ∧
   ∀ (l:Addr) (as:List Addr) H',Same H H'→H l=none→H' l=some (.lst (as.map V.ref))→as.length=ms.length+1→as.Nodup→(∀ a∈as,H a=none∧a≠l)→(∀ (i:Nat) (a:Addr) (p:List Int),as[i]?=some a→(partsL ns 0 ms)[i]?=some p→H' a=some (.lst (p.map V.int)))→Q (.ref l) H'):=by
 have GE:FnOk P w K mg base CX0 1 fE fdE ["stamps","opened"] spEnds:=ok_ends DE T Z
 have GB:FnOk P w K mg base CX0 1 fB fdB ["self","first","last"] (spBetween C):=ok_between DB BC
 refine D.fn.ok scPartsB (fun vs H Q E h=>?_) (fun cdv A outer s H vs Q E hr h=>?_)
 ·obtain ⟨n,b,ns,L,own,ms,_,_,rfl,_⟩:=h
  rfl
 ·obtain ⟨n,b,ns,L,own,ms',pm,n2,rfl,⟨dx,la,lp,lo,ms,B,R,⟨n1,bd⟩,O⟩,R',k⟩:=h
  obtain rfl:=R'.unique R
  have nl:=perm_len pm
  have pl:(plc ns).length=n:=by rw [plc_length,nl]
  have msl:ms'.length≤60:=by
   have:=nodup_le n ms' (R.inc.imp fun h=>Nat.ne_of_lt h) fun c hc=>by have:=bd c hc; omega
   omega
  refine ⟨_,pss_one (ps_ret (pe_lcomp2 (cap:=[0]) (caps:=["self"]) rfl (pi_list (pe_call GE hr rfl DE.at_ DE.fn.kp DE.bd .nil pass0 (pa_cons (pe_callB call_len_seq (by rfl) T.len PySem.boot_len (pa_cons (pe_fld (pv 0) rfl) pa_nil)) (pa_cons (pe_fld (pv 0) rfl) pa_nil))))
     rfl (by decide +kernel) (by decide +kernel) rfl rfl (by show ∀ y:Str×NameKind,y∈_→y.2=NameKind.free→(defScope sPartsB).names.lookup y.1=some .cell∨(defScope sPartsB).names.lookup y.1=some .free; decide +kernel) rfl (fun y hy=>by rw [List.mem_singleton.mp hy]; exact ⟨.inl rfl,.inl rfl⟩) (by decide +kernel)
     (fun cl s₃ H₃ fp=>⟨pifs_nil,pe_meth (pv 2) BC.cl DB.me GB hr DB.bd .nil pass0 (pa_cons (pv 0) (pa_cons (pv 1) pa_nil))⟩))),?_⟩
  refine ⟨_,rfl,b,C,dx,_,_,rfl,B.ins,BC.cl,BC.nAt,rfl,la,_,rfl,.inl (SqL.of B.at_),_,rfl,b,C,dx,_,_,rfl,B.ins,BC.cl,BC.nOp,rfl,lo,n,ms',?_,B.op_,by omega,msl,fun le ts H1 s1 hle hts hp=>?_⟩
  ·show [V.int (((plc ns).map V.int).length:Int),V.ref lo]=[V.int (n:Int),V.ref lo]
   rw [List.length_map,pl]
  have tl:=hp.len
  rw [endsP_length] at tl
  have B1:=B.same s1
  refine ⟨le,rfl,⟨_,SqL.of hp.lst⟩,fun l hl=>?_⟩
  refine lc2_listN (ps:=(endsP n ms').map fun e=>(V.int (e.1:Int),V.int (e.2:Int))) (fun i v H2=>∃ a,v=.ref a∧H1 a=none∧a≠l∧H2 a=some (.lst ((ns.filter fun s=>decide ((fstP ms' i:Int)≤s) && decide (s≤(lstP n ms' i:Int))).map V.int))) ?_ (by omega) hl (SqL.of hp.lst) (by rw [List.length_map,endsP_length]; exact tl) ?_ ?_ ?_
  ·rintro i v H2 H3 ⟨a,rfl,h1,h2,h3⟩ kp
   exact ⟨a,rfl,h1,h2,kp a _ h2 h3⟩
  ·intro i t p hi hpi
   rw [List.getElem?_map] at hpi
   cases e:(endsP n ms')[i]? with
   | none=>rw [e] at hpi; cases hpi
   | some q =>
    rw [e] at hpi
    obtain rfl:=Option.some.inj hpi
    exact SqT.of (hp.at_ i t q hi e)
  ·intro i p ys H2 R2 hpi s2 h2l hys kR
   have hil:i≤ms'.length:=by
    have:=(List.getElem?_eq_some_iff.mp hpi).1
    rw [List.length_map,endsP_length] at this
    omega
   rw [List.getElem?_map,endsP_get hil] at hpi
   obtain rfl:=Option.some.inj hpi
   refine ⟨_,rfl,b,dx,_,rfl,s2 _ _ B1.ins,rfl,_,rfl,_,rfl,b,dx,la,lp,lo,ns,ms',fstP ms' i,lstP n ms' i,rfl,B1.same s2,by omega,fun a H3 s3 ha0 ha=>?_⟩
   refine kR _ H3 s3 ⟨a,rfl,s2.free ha0,fun z=>?_,ha⟩ fun z=>?_
   ·rw [z,h2l] at ha0
    cases ha0
   ·obtain ⟨j,hj⟩:=List.getElem?_of_mem z
    obtain ⟨a',e',_,_,h4⟩:=hys j _ hj
    cases e'
    rw [h4] at ha0
    cases ha0
  ·intro vs H2 s2 h2l vl nd hv
   rw [List.length_map,endsP_length] at vl
   obtain ⟨as,rfl,g⟩:=keysOf (G:=fun i a=>H1 a=none∧a≠l∧H2 a=some (.lst ((ns.filter fun s=>decide ((fstP ms' i:Int)≤s) && decide (s≤(lstP n ms' i:Int))).map V.int))) fun i v hi=>by
    obtain ⟨a,e,h1,h2,h3⟩:=hv i v hi
    exact ⟨a,e,h1,h2,h3⟩
   rw [List.length_map] at vl
   refine k l as H2 (s1.trans s2) (s1.free hl) h2l vl ?_ (fun a ha=>?_) fun i a p hi hpi=>?_
   ·unfold List.Nodup at nd
    rw [List.pairwise_map] at nd
    exact nd.imp fun h z=>h (by rw [z])
   ·obtain ⟨i,hi⟩:=List.getElem?_of_mem ha
    obtain ⟨h1,h2,_⟩:=g i a hi
    exact ⟨s1.free h1,h2⟩
   ·have hil:i≤ms'.length:=by have:=(List.getElem?_eq_some_iff.mp hi).1; omega
    rw [partsL_get pm ms' 0 i hil] at hpi
    obtain rfl:=Option.some.inj hpi
    exact (g i a hi).2.2
end
end Sf
set_option maxHeartbeats 4000000
namespace Sf
open PySem L2 Pl
abbrev lpos:Pos:=⟨72,52,72,99⟩
abbrev lq:Str:=("widest_like":Str)++".<locals>."++"<lambda>"
def lamA:Stmt→Arguments:=fun s=>match defBody s with | [.Return (some (.Call _ _ [⟨_,.Lambda a _ _ _,_⟩] _)) _]=>a | _=>default
def lamSc:Stmt→Scope:=fun s=>match defBody s with | [.Return (some (.Call _ _ [⟨_,.Lambda _ _ c _,_⟩] _)) _]=>c | _=>default
theorem lamS:LamS (lamA s_widest_like) (lamSc s_widest_like):=⟨rfl,rfl,rfl,by decide +kernel,rfl,rfl,rfl,fun _ _ _ _ _ _ _=>rfl⟩
structure OwnL (mg:Str→Option Value):Prop where
 abs:mg "abs"=none
theorem wid_eq (ps:List Int) (c:Nat):widI ps (c:Int)=wid ps c:=by
 unfold widI wid
 rw [Int.toNat_natCast]
 simp only [Int.max_def,Int.min_def]
 split <;> omega
def spWidest (K:PySem.W.Frag) (T:Addr):Sp:=fun vs H Q _=>∃ (la:Addr) (ps:List Int) (side f l:Nat),vs=[.ref la,.int (side:Int),.int (f:Int),.int (l:Int)]∧SqL K H la (ps.map V.int)∧l<ps.length∧ps.length≤60∧f≤1000∧(∃ d,d∈likeP side f l)∧Tab H T lpos lq ∧
 ∀ (M:Nat) H',SameT H H'→Tab H' T lpos lq→Wst ps side f l M→Q (.int (M:Int)) H'
theorem Fun.okC {P:Program} {w:World} {K:PySem.W.Frag} {mg:Str→Option Value} {base:Heap} {x qual:Str} {st:Stmt} {f:Addr} {fd:FuncData} {N ps:List Str} {k:Nat} {sp:Sp} (F:Fun K x qual st f fd) (S:FnScope N ps (defScope st)) (len:∀ vs H Q E,sp vs H Q E→vs.length=ps.length)
  (hbody:∀ (A:Around) (outer:List Env) (s:Shared) (H:Hp) (vs:List V) (Q:VK) (E:XK),Room k (A.deeper (PyProof.Rows.envOfC qual (defScope st) s.heap.objs.size f fd.code))→sp vs H Q E →
   ∃ t,PSs (cxOf CX0 P w K mg base N qual (defScope st) f fd.code A outer s H E).nox (defBody st) t∧t { nx:=fun _ H'=>Q .non H',rt:=Q } (start N vs) H):FnOk P w K mg base CX0 (k+1) f fd ps sp:=by
 obtain ⟨oc,od,kV,doc,pm,an,cdv,ct,osl,rfl,lk,hcd⟩:=F.ex
 refine fn_of lk hcd S len fun A outer s H vs Q E hr hsp=>?_
 obtain ⟨t,h,q⟩:=hbody A outer s H vs Q E hr hsp
 exact ⟨t,h.nox,q⟩
section
variable {P:Program} {w:World} {K:PySem.W.Frag} {mg:Str→Option Value} {base:Heap} {c T:Addr}
seal PS PSs PE PA
theorem scWide:FnScope ["at","side","first","last"] ["at","side","first","last"] (defScope s_widest_like):=⟨rfl,rfl,rfl,by decide +kernel,rfl,by decide +kernel,by decide +kernel⟩
theorem ok_wide {f fL:Addr} {fd fdL:FuncData} (D:Def K mg "widest_like" s_widest_like ["at","side","first","last"] f fd) (DL:Def K mg "creases_like" s_creases_like ["side","first","last"] fL fdL) (hcode:fd.code=.ref c) (C:PySem.W.CodeHd base c T) (B:Bm mg base) (O:Own mg) (M:OwnM mg) (A0:OwnL mg) :
  FnOk P w K mg base CX0 2 f fd ["at","side","first","last"] (spWidest K T):=by
 have GL:FnOk P w K mg base CX0 1 fL fdL ["side","first","last"] spLike:=ok_like DL O
 refine Fun.okC D.fn scWide (fun vs H Q E h=>?_) (fun A outer s H vs Q E hr h=>?_)
 ·obtain ⟨la,ps,side,f,l,rfl,_⟩:=h
  rfl
 ·obtain ⟨la,ps,side,fr,lt,rfl,ha,h1,h2,h3,⟨d0,hd0⟩,tab,k⟩:=h
  refine ⟨_,pss_one (ps_ret (pe_maxkey (k:=0) (ia:=0) (cA:=s.heap.objs.size+1) (T:=T) (c:=c) hr lamS A0.abs M.max (by rfl) (by rfl) (by rfl) (by rfl) rfl hcode C B
   (pe_call GL hr rfl DL.at_ DL.fn.kp DL.bd .nil pass0 (pa_cons (pv 1) (pa_cons (pv 2) (pa_cons (pv 3) pa_nil)))))),?_⟩
  refine ⟨_,rfl,_,rfl,_,rfl,side,fr,lt,rfl,by omega,by omega,fun a H1 s1 ha0 ha1=>?_⟩
  refine ⟨a,la,cz (likeP side fr lt),ps,rfl,SqL.of ha1,?_,rfl,s1.seq ha,fun n hn=>?_,tab.stay s1,fun M H2 hM hmax st tab2=>?_⟩
  ·rw [List.length_map]
   exact List.length_pos_of_mem hd0
  ·obtain ⟨d,hd,rfl⟩:=List.mem_map.mp hn
   have:=mem_likeP.mp hd
   exact ⟨by omega,by rw [Int.toNat_natCast]; omega⟩
  ·obtain ⟨d,hd,rfl⟩:=List.mem_map.mp hM
   refine k d H2 (fun b o e n=>st b o (s1 b o e) n) tab2 ⟨hd,fun d' hd'=>?_⟩
   have:=hmax _ (List.mem_map.mpr ⟨d',hd',rfl⟩)
   rw [wid_eq,wid_eq] at this
   exact this
end
end Sf
set_option maxHeartbeats 4000000
namespace Sf
open PySem L2 Pl
theorem SameT.of {H H':Hp} (s:Same H H'):SameT H H':=fun b o e _=>s b o e
theorem SameT.new {H H':Hp} (s:SameT H H') {t:Addr} {o:HO} (h:H' t=none):SameT H (upd H' t o):=fun b u e n=>by rw [upd_ne (ne_of_none (s b u e n) h)]; exact s b u e n
theorem Tab.new {H:Hp} {T t:Addr} {o:HO} (x:Tab H T lpos lq) (h:H t=none):Tab (upd H t o) T lpos lq:=x.stay fun b u e=>by rw [upd_ne (ne_of_none e h)]; exact e
def spStepW (K:PySem.W.Frag) (T:Addr):Sp:=fun vs H Q _=>∃ (la:Addr) (ps:List Int) (f l:Nat),vs=[.ref la,.int (f:Int),.int (l:Int)]∧SqL K H la (ps.map V.int)∧f<l∧l<ps.length∧ps.length≤60∧(0<f→l+1<ps.length→(l - f) % 2=0)∧Tab H T lpos lq ∧
 ∀ (t:Addr) (s:List Nat) H',SameT H H'→Tab H' T lpos lq→H' t=some (.tup (cv s))→StepOf ps f l s→Q (.ref t) H'
section
variable {P:Program} {w:World} {K:PySem.W.Frag} {mg:Str→Option Value} {base:Heap} {c T:Addr}
seal PS PSs PE PA
theorem scStW:FnScope ["at","first","last","end","one"] ["at","first","last"] (defScope s_step_within):=⟨rfl,rfl,rfl,by decide +kernel,rfl,by decide +kernel,by decide +kernel⟩
theorem ok_stw {f fW fL:Addr} {fd fdW fdL:FuncData} (D:Def K mg "step_within" s_step_within ["at","first","last"] f fd) (DW:Def K mg "widest_like" s_widest_like ["at","side","first","last"] fW fdW) (DL:Def K mg "creases_like" s_creases_like ["side","first","last"] fL fdL)
  (hcode:fdW.code=.ref c) (C:PySem.W.CodeHd base c T) (B:Bm mg base) (O:Own mg) (M:OwnM mg) (A0:OwnL mg):FnOk P w K mg base CX0 3 f fd ["at","first","last"] (spStepW K T):=by
 have GW:FnOk P w K mg base CX0 2 fW fdW ["at","side","first","last"] (spWidest K T):=ok_wide DW DL hcode C B O M A0
 refine D.fn.ok scStW (fun vs H Q E h=>?_) (fun cdv A outer s H vs Q E hr h=>?_)
 ·obtain ⟨la,ps,f,l,rfl,_⟩:=h
  rfl
 ·obtain ⟨la,ps,fr,lt,rfl,ha,h1,h2,h3,hodd,tab,k⟩:=h
  refine ⟨_,pss_cons (ps_set (i:=3) scStW.nd rfl (Or.inl rfl) (pe_op op_sub (pe_callB call_len_seq (by rfl) O.len PySem.boot_len (pa_cons (pv 0) pa_nil)) pe_int))
   (pss_cons (ps_if (pw_and (pt_cmpR op_gt (pv 1) pe_int (nomark _)) (pw_and1 (pt_cmpR op_lt (pv 2) (pv 3) (nomark _)))).pt
    (pss_cons (ps_set (i:=4) scStW.nd rfl (Or.inl rfl) (pe_call GW hr rfl DW.at_ DW.fn.kp DW.bd .nil pass0 (pa_cons (pv 0) (pa_cons (pv 1) (pa_cons (pv 1) (pa_cons (pv 2) pa_nil))))))
     (pss_one (ps_ret (pe_tup (pa_cons (pv 4) (pa_cons (pe_call GW hr rfl DW.at_ DW.fn.kp DW.bd .nil pass0 (pa_cons (pv 0) (pa_cons (pe_op op_add (pv 4) pe_int) (pa_cons (pe_op op_add (pv 4) pe_int) (pa_cons (pv 2) pa_nil))))) pa_nil)))))) pss_nil)
   (pss_cons (ps_if (pt_cmpR op_lt (pv 2) (pv 3) (nomark _))
    (pss_one (ps_ret (pe_tup (pa_cons (pe_call GW hr rfl DW.at_ DW.fn.kp DW.bd .nil pass0 (pa_cons (pv 0) (pa_cons (pe_op op_add (pv 2) pe_int) (pa_cons (pv 1) (pa_cons (pv 2) pa_nil))))) pa_nil)))) pss_nil)
   (pss_one (ps_ret (pe_tup (pa_cons (pe_call GW hr rfl DW.at_ DW.fn.kp DW.bd .nil pass0 (pa_cons (pv 0) (pa_cons (pv 1) (pa_cons (pv 1) (pa_cons (pv 2) pa_nil))))) pa_nil)))))),?_⟩
  have pl:(ps.map V.int).length=ps.length:=List.length_map _
  have lik:∀ {side f d:Nat},f≤d→d<lt→d % 2=side % 2→∃ d,d∈likeP side f lt:=fun a b c=>⟨_,mem_likeP.mpr ⟨a,b,c⟩⟩
  refine ⟨_,rfl,la,_,rfl,.inl ha,_,_,rfl,rfl,?_⟩
  refine ⟨_,rfl,_,_,rfl,rfl,_,rfl,?_⟩
  refine ite2 (fun z=>?_) (fun z=>?_)
  ·have f0:=of_decide_eq_true z
   refine ⟨_,rfl,_,rfl,_,_,rfl,rfl,_,rfl,?_⟩
   refine ite2 (fun z2=>?_) (fun z2=>?_)
   ·have l0:=of_decide_eq_true z2
    refine ⟨_,rfl,_,rfl,_,rfl,_,rfl,la,ps,fr,fr,lt,rfl,ha,h2,h3,by omega,lik (Nat.le_refl _) h1 rfl,tab,fun j H1 s1 tab1 wj=>?_⟩
    have hj:=mem_likeP.mp wj.1
    have hod:=hodd (by omega) (by omega)
    refine ⟨_,rfl,_,rfl,_,rfl,_,_,rfl,rfl,_,rfl,_,_,rfl,rfl,_,rfl,la,ps,j+1,j+1,lt,rfl,s1.seq ha,h2,h3,by omega,lik (Nat.le_refl _) (by omega) rfl,tab1,fun i H2 s2 tab2 wi=>?_⟩
    refine ⟨small_line (by show 2≤1000; decide),fun t ht=>?_⟩
    exact k t [j,i] _ (SameT.new (s1.trans s2) ht) (Tab.new tab2 ht) upd_same (.inl ⟨by omega,by omega,j,i,rfl,wj,wi⟩)
   ·refine ⟨_,rfl,_,rfl,_,_,rfl,rfl,_,rfl,?_⟩
    refine ite2 (fun z3=>absurd z3 z2) (fun _=>?_)
    have l0:¬ ((lt:Int)<((ps.map V.int).length:Int) - 1):=fun q=>z2 (decide_eq_true q)
    refine ⟨_,rfl,_,rfl,_,rfl,_,rfl,la,ps,fr,fr,lt,rfl,ha,h2,h3,by omega,lik (Nat.le_refl _) h1 rfl,tab,fun j H1 s1 tab1 wj=>?_⟩
    refine ⟨small_line (by show 1≤1000; decide),fun t ht=>?_⟩
    exact k t [j] _ (SameT.new s1 ht) (Tab.new tab1 ht) upd_same (.inr (.inr ⟨by omega,j,rfl,wj⟩))
  ·have f0:¬ (0:Int)<(fr:Int):=fun q=>z (decide_eq_true q)
   refine ⟨_,rfl,_,rfl,_,_,rfl,rfl,_,rfl,?_⟩
   refine ite2 (fun z2=>?_) (fun z2=>?_)
   ·have l0:=of_decide_eq_true z2
    refine ⟨_,rfl,_,rfl,_,_,rfl,rfl,_,rfl,_,rfl,la,ps,lt+1,fr,lt,rfl,ha,h2,h3,by omega,lik (d:=lt - 1) (by omega) (by omega) (by omega),tab,fun j H1 s1 tab1 wj=>?_⟩
    refine ⟨small_line (by show 1≤1000; decide),fun t ht=>?_⟩
    exact k t [j] _ (SameT.new s1 ht) (Tab.new tab1 ht) upd_same (.inr (.inl ⟨by omega,by omega,j,rfl,wj⟩))
   ·have l0:¬ ((lt:Int)<((ps.map V.int).length:Int) - 1):=fun q=>z2 (decide_eq_true q)
    refine ⟨_,rfl,_,rfl,_,rfl,_,rfl,la,ps,fr,fr,lt,rfl,ha,h2,h3,by omega,lik (Nat.le_refl _) h1 rfl,tab,fun j H1 s1 tab1 wj=>?_⟩
    refine ⟨small_line (by show 1≤1000; decide),fun t ht=>?_⟩
    exact k t [j] _ (SameT.new s1 ht) (Tab.new tab1 ht) upd_same (.inr (.inr ⟨by omega,j,rfl,wj⟩))
end
end Sf
set_option maxHeartbeats 4000000
namespace Pl
theorem some_open {n:Nat} {ms:List Nat} (h:ms.length+1<n):∃ j,j≤ms.length∧fstP ms j≠lstP n ms j:=by
 by_cases hx:∃ j,j≤ms.length∧fstP ms j≠lstP n ms j
 ·exact hx
 ·exfalso
  have all:∀ j,j≤ms.length→fstP ms j=lstP n ms j:=fun j hj=>by
   by_cases e:fstP ms j=lstP n ms j
   ·exact e
   ·exact absurd ⟨j,hj,e⟩ hx
  have ind:∀ j,j≤ms.length→lstP n ms j=j:=fun j=>by
   induction j with
   | zero=>intro hj; rw [← all 0 hj]; rfl
   | succ j ih =>
    intro hj
    have h1:=ih (by omega)
    have h2:=all (j+1) hj
    unfold fstP at h2
    rw [if_neg (by omega)] at h2
    unfold lstP at h1
    rw [if_pos (by omega)] at h1
    rw [← h2,Nat.add_sub_cancel,h1]
  have:=ind ms.length (Nat.le_refl _)
  unfold lstP at this
  rw [if_neg (by omega)] at this
  omega
end Pl
namespace Sf
open PySem L2 Pl
theorem Tab.updL {H:Hp} {T l:Addr} {xs ys:List V} (x:Tab H T lpos lq) (h:H l=some (.lst xs)):Tab (upd H l (.lst ys)) T lpos lq:=by
 rcases x with e | ⟨c,e,f⟩
 ·exact .inl (by rw [upd_ne (ne_of e h (by intro z; cases z))]; exact e)
 ·exact .inr ⟨c,by rw [upd_ne (ne_of e h (by intro z; cases z))]; exact e,by rw [upd_ne (ne_of f h (by intro z; cases z))]; exact f⟩
structure Ost (T:Addr) (H0 H:Hp) (la l1 l2:Addr) (ps:List Int) (as:List Addr) (steps:List (List Nat)):Prop where
 same:SameT H0 H
 tab:Tab H T lpos lq
 at_:H la=some (.lst (ps.map V.int))
 st:H l1=some (.lst (as.map V.ref))
 op:H l2=some (.lst (cv steps.flatten))
 len:as.length=steps.length
 tup:∀ (i:Nat) (a:Addr) (s:List Nat),as[i]?=some a→steps[i]?=some s→H a=some (.tup (cv s))
 pre:Pre ps steps
 n12:l1≠l2
 na1:la≠l1
 na2:la≠l2
 f1:H0 l1=none
 f2:H0 l2=none
theorem noT {xs:List V}:∀ ps,HO.lst xs≠.tbl ps:=fun _ z=>by cases z
theorem noU {xs:List V}:∀ ps,HO.tup xs≠.tbl ps:=fun _ z=>by cases z
theorem Ost.move {T:Addr} {H0 H H':Hp} {la l1 l2:Addr} {ps:List Int} {as:List Addr} {steps:List (List Nat)} (x:Ost T H0 H la l1 l2 ps as steps) (s:SameT H H') (t:Tab H' T lpos lq):Ost T H0 H' la l1 l2 ps as steps :=
 ⟨x.same.trans s,t,s _ _ x.at_ noT,s _ _ x.st noT,s _ _ x.op noT,x.len,fun i a st h1 h2=>s _ _ (x.tup i a st h1 h2) noU,x.pre,x.n12,x.na1,x.na2,x.f1,x.f2⟩
theorem Ost.push {T:Addr} {H0 H:Hp} {la l1 l2 t:Addr} {ps:List Int} {as:List Addr} {steps:List (List Nat)} {s:List Nat} (x:Ost T H0 H la l1 l2 ps as steps) (ht:H t=some (.tup (cv s))) (p:Pre ps (steps++[s])) :
  Ost T H0 (upd (upd H l1 (.lst (as.map V.ref++[.ref t]))) l2 (.lst (cv steps.flatten++cv s))) la l1 l2 ps (as++[t]) (steps++[s]):=by
 have nt:∀ {a:Addr} {xs:List V},H a=some (.tup xs)→a≠l1∧a≠l2:=fun h=>⟨ne_of h x.st (by intro z; cases z),ne_of h x.op (by intro z; cases z)⟩
 have e2:(upd H l1 (.lst (as.map V.ref++[.ref t]))) l2=some (.lst (cv steps.flatten)):=by rw [upd_ne x.n12.symm]; exact x.op
 refine ⟨fun b o e n=>?_,Tab.updL (Tab.updL x.tab x.st) e2,by rw [upd_ne x.na2,upd_ne x.na1]; exact x.at_,?_,?_,by simp [x.len],fun i a st h1 h2=>?_,p,x.n12,x.na1,x.na2,x.f1,x.f2⟩
 ·rw [upd_ne (ne_of_none e x.f2),upd_ne (ne_of_none e x.f1)]; exact x.same b o e n
 ·rw [upd_ne x.n12,upd_same]; simp
 ·rw [upd_same,cv_append]; simp
 ·by_cases hi:i<as.length
  ·rw [List.getElem?_append_left hi] at h1
   rw [List.getElem?_append_left (by rw [← x.len]; exact hi)] at h2
   have h3:=x.tup i a st h1 h2
   rw [upd_ne (nt h3).2,upd_ne (nt h3).1]; exact h3
  ·have hi2:i=as.length:=by
    have:=(List.getElem?_eq_some_iff.mp h1).1
    rw [List.length_append,List.length_singleton] at this
    omega
   subst hi2
   rw [List.getElem?_append_right (Nat.le_refl _),Nat.sub_self] at h1
   rw [x.len,List.getElem?_append_right (Nat.le_refl _),Nat.sub_self] at h2
   obtain rfl:t=a:=by simpa using h1
   obtain rfl:s=st:=by simpa using h2
   rw [upd_ne (nt ht).2,upd_ne (nt ht).1]; exact ht
theorem Prs.move {H H':Hp} {l:Addr} {ts:List Addr} {es:List (Nat×Nat)} (x:Prs H l ts es) (s:SameT H H'):Prs H' l ts es:=⟨s _ _ x.lst noT,x.len,fun i t e h1 h2=>s _ _ (x.at_ i t e h1 h2) noU⟩
theorem Prs.upd2 {H:Hp} {l l1 l2:Addr} {ts:List Addr} {es:List (Nat×Nat)} {xs ys:List V} {o1 o2:HO} (x:Prs H l ts es) (h1:H l1=some (.lst xs)) (h2:H l2=some (.lst ys)) (n1:l≠l1) (n2:l≠l2):Prs (upd (upd H l1 o1) l2 o2) l ts es :=
 ⟨by rw [upd_ne n2,upd_ne n1]; exact x.lst,x.len,fun i t e q1 q2=>by
  have h:=x.at_ i t e q1 q2
  rw [upd_ne (ne_of h h2 (by intro z; cases z)),upd_ne (ne_of h h1 (by intro z; cases z))]; exact h⟩
end Sf
set_option maxHeartbeats 4000000
namespace Sf
open PySem L2 Pl
def spOpenT (K:PySem.W.Frag) (T:Addr):Sp:=fun vs H Q _=>∃ (p:Addr) (ns:List Int) (n:Nat),vs=[.ref p]∧SqL K H p (ns.map V.int)∧ns.Perm (iota n)∧1≤n∧n≤60∧NoX (plc ns)∧Tab H T lpos lq ∧
 ∀ (l:Addr) (as:List Addr) (steps:List (List Nat)) H',SameT H H'→Tab H' T lpos lq→H' l=some (.lst (as.map V.ref))→as.length=steps.length→(∀ (i:Nat) (a:Addr) (s:List Nat),as[i]?=some a→steps[i]?=some s→H' a=some (.tup (cv s)))→Steps (plc ns) n steps→Q (.ref l) H'
section
variable {P:Program} {w:World} {K:PySem.W.Frag} {mg:Str→Option Value} {base:Heap} {c T:Addr}
seal PS PSs PE PA
abbrev nmOpen:List Str:=["pile","at","steps","opened","parts","first","last","step"]
theorem scOpen:FnScope nmOpen ["pile"] (defScope s_opening):=⟨rfl,rfl,rfl,by decide +kernel,rfl,by decide +kernel,by decide +kernel⟩
theorem ok_open {f fF fE fS:Addr} {fd fdF fdE fdS:FuncData} (D:Def K mg "opening" s_opening ["pile"] f fd) (DF:Def K mg "foldable_places" s_foldable_places ["pile"] fF fdF) (GF:FnOk P w K mg base CX0 4 fF fdF ["pile"] (spFoldP K)) (DE:Def K mg "ends_of_parts" s_ends_of_parts ["stamps","opened"] fE fdE) (GE:FnOk P w K mg base CX0 1 fE fdE ["stamps","opened"] spEnds)
  (DS:Def K mg "step_within" s_step_within ["at","first","last"] fS fdS) (GS:FnOk P w K mg base CX0 3 fS fdS ["at","first","last"] (spStepW K T)) (O:Own mg):FnOk P w K mg base CX0 5 f fd ["pile"] (spOpenT K T):=by
 refine D.fn.ok scOpen (fun vs H Q E h=>?_) (fun cdv A outer s H vs Q E hr h=>?_)
 ·obtain ⟨p,ns,n,rfl,_⟩:=h
  rfl
 ·obtain ⟨p,ns,n,rfl,hp,pm,n1,n2,nx,tab,k⟩:=h
  have hr1:=hr.mono (show 1≤4 by decide)
  have hr3:=hr.mono (show 3≤4 by decide)
  have nl:=perm_len pm
  have pl:=plc_length ns
  have dis:=dis_plc pm
  refine ⟨_,pss_cons (ps_set (i:=1) scOpen.nd rfl (Or.inl rfl) (pe_call GF hr rfl DF.at_ DF.fn.kp DF.bd .nil pass0 (pa_cons (pv 0) pa_nil)))
   (pss_cons (ps_set (i:=2) scOpen.nd rfl (Or.inl rfl) (pe_lst pa_nil)) (pss_cons (ps_set (i:=3) scOpen.nd rfl (Or.inl rfl) (pe_lst pa_nil))
   (pss_cons (ps_while PassesOwn.never (pt_cmpR op_lt (pe_callB call_len_seq (by rfl) O.len PySem.boot_len (pa_cons (pv 3) pa_nil)) (pe_op op_sub (pe_callB call_len_seq (by rfl) O.len PySem.boot_len (pa_cons (pv 1) pa_nil)) pe_int) (nomark _))
    (pss_cons (ps_set (i:=4) scOpen.nd rfl (Or.inl rfl) (pe_call GE hr1 rfl DE.at_ DE.fn.kp DE.bd .nil pass0 (pa_cons (pe_callB call_len_seq (by rfl) O.len PySem.boot_len (pa_cons (pv 1) pa_nil)) (pa_cons (pe_callB call_sorted (by rfl) O.sorted PyProof.Rows.boot_sorted (pa_cons (pv 3) pa_nil)) pa_nil))))
    (pss_one (ps_for PassesOwn.never rfl (pi_list (pv 4)) (pg_tup rfl (pgs_cons (pg_name (i:=5) scOpen.nd rfl (Or.inl rfl)) (pgs_cons (pg_name (i:=6) scOpen.nd rfl (Or.inl rfl)) pgs_nil)))
     (pss_one (ps_if (pt_cmpR op_lt (pv 5) (pv 6) (nomark _)) (pss_cons (ps_set (i:=7) scOpen.nd rfl (Or.inl rfl) (pe_call GS hr3 rfl DS.at_ DS.fn.kp DS.bd .nil pass0 (pa_cons (pv 1) (pa_cons (pv 5) (pa_cons (pv 6) pa_nil)))))
      (pss_cons (ps_expr (pe_bm PySem.F.plainAttrs_list PySem.F.slot_list_append PySem.F.type_list_append mt_append (pv 2) (pa_cons (pv 7) pa_nil))) (pss_one (ps_expr (pe_bm PySem.F.plainAttrs_list PySem.F.slot_list_extend PySem.F.type_list_extend mt_extT (pv 3) (pa_cons (pv 7) pa_nil)))))) pss_nil))))))
   (pss_one (ps_ret (pv 2)))))),?_⟩
  refine ⟨_,rfl,p,ns,n,rfl,hp,pm,n1,n2,nx,fun la H1 s1 hla0 hla=>?_⟩
  refine ⟨Nat.zero_le _,fun l1 hl1=>?_⟩
  refine ⟨Nat.zero_le _,fun l2 hl2=>?_⟩
  have q1:=same_new (o:=.lst []) hl1
  have q2:=same_new (o:=.lst []) hl2
  have n12:l1≠l2:=fun z=>by rw [← z,upd_same] at hl2; cases hl2
  have hl2':H1 l2=none:=by rw [upd_ne n12.symm] at hl2; exact hl2
  have st0:Ost T H (upd (upd H1 l1 (.lst [])) l2 (.lst [])) la l1 l2 (plc ns) [] []:=by
   have sm:=(s1.trans q1).trans q2
   exact ⟨SameT.of sm,tab.stay sm,q2 _ _ (q1 _ _ hla),q2 _ _ upd_same,upd_same,rfl,fun i a st h1 _=>by simp at h1,Pre.nil,n12,ne_of_none hla hl1,ne_of_none hla hl2',s1.free hl1,s1.free hl2'⟩
  generalize upd (upd H1 l1 (.lst [])) l2 (.lst [])=H2 at st0
  have ml:((plc ns).map V.int).length=n:=by rw [List.length_map,pl,nl]
  refine while_by (fun σ H3=>∃ (as:List Addr) (steps:List (List Nat)) (v4 v5 v6 v7:Option V),σ=[some (.ref p),some (.ref la),some (.ref l1),some (.ref l2),v4,v5,v6,v7]∧Ost T H H3 la l1 l2 (plc ns) as steps)
   (fun _ H3=>match H3 l2 with | some (.lst xs)=>n - xs.length | _=>0) ⟨[],[],none,none,none,none,rfl,st0⟩ ?_ ?_
  ·rintro σ H3 ⟨as,steps,v4,v5,v6,v7,rfl,x⟩
   have fl:(cv steps.flatten).length=steps.flatten.length:=cv_length _
   refine ⟨_,rfl,l2,_,rfl,.inl (SqL.of x.op),_,rfl,la,_,rfl,.inl (SqL.of x.at_),_,_,rfl,rfl,_,_,rfl,rfl,_,rfl,?_⟩
   refine ite2 (fun z=>?_) (fun z=>?_)
   ·have lt:=of_decide_eq_true z
    have bnd:=x.pre.bnd
    have fle:steps.flatten.length+1<n:=by omega
    refine ⟨_,rfl,la,_,rfl,.inl (SqL.of x.at_),_,rfl,l2,cz steps.flatten,rfl,SqL.of x.op,by rw [List.length_map]; omega,fun lo ms hlo pmS so=>?_⟩
    obtain ⟨ds,rfl,ri,dl⟩:=rise_sorted pmS so x.pre.nd
    have q3:=same_new (o:=.lst ((cz ds).map V.int)) hlo
    refine ⟨lo,n,ds,by rw [ml]; rfl,upd_same,n1,by omega,fun lP ts H4 s4 hlP hts prs=>?_⟩
    have x4:=x.move (SameT.of (q3.trans s4)) (x.tab.stay (q3.trans s4))
    have hlP':upd H3 lo (.lst ((cz ds).map V.int)) lP=none:=hlP
    have nP1:lP≠l1:=fun z=>by rw [z] at hlP'; rw [q3 _ _ x.st] at hlP'; cases hlP'
    have nP2:lP≠l2:=fun z=>by rw [z] at hlP'; rw [q3 _ _ x.op] at hlP'; cases hlP'
    have tl:ts.length=ds.length+1:=by rw [prs.len,endsP_length]
    have hLd:∀ c,c∈steps.flatten→c+1<n:=fun c hc=>by have:=bnd c hc; omega
    refine ⟨_,rfl,lP,rfl,⟨_,SqL.of prs.lst⟩,for_list (K:=K) (a:=lP) (xs:=ts.map V.ref) (fun i σ H5=>∃ (as':List Addr) (steps':List (List Nat)) (u5 u6 u7:Option V),σ=[some (.ref p),some (.ref la),some (.ref l1),some (.ref l2),some (.ref lP),u5,u6,u7]∧Ost T H H5 la l1 l2 (plc ns) as' steps'∧Prs H5 lP ts (endsP n ds) ∧
      (∀ c∈steps'.flatten,c∈steps.flatten∨∃ j,j<i∧c<lstP n ds j)∧(∀ c∈steps.flatten,c∈steps'.flatten)∧steps.flatten.length≤steps'.flatten.length∧∀ j,j<i→fstP ds j≠lstP n ds j→steps.flatten.length<steps'.flatten.length)
     ⟨as,steps,v5,v6,v7,rfl,x4,prs,fun c hc=>.inl hc,fun c hc=>hc,Nat.le_refl _,fun j hj=>absurd hj (Nat.not_lt_zero _)⟩ (fun i σ H5 _ ⟨_,_,_,_,_,_,_,prs5,_⟩=>SqL.of prs5.lst) ?_ ?_⟩
    ·rintro i y σ H5 hi ⟨as',steps',u5,u6,u7,rfl,x5,prs5,in5,sub5,le5,pr5⟩
     rw [List.getElem?_map] at hi
     cases e:ts[i]? with
     | none=>rw [e] at hi; cases hi
     | some t =>
      rw [e] at hi
      obtain rfl:V.ref t=y:=Option.some.inj hi
      have hi2:i≤ds.length:=by have:=(List.getElem?_eq_some_iff.mp e).1; omega
      have ht:=prs5.at_ i t _ e (endsP_get hi2)
      have P0:=part_of ri hLd n1 hi2
      have P5:Part (plc ns).length (fun c=>c∈steps'.flatten) (fstP ds i) (lstP n ds i):=by
       rw [pl,nl]
       refine ⟨P0.le,P0.lt,?_,?_,fun e' e1 e2 hc=>?_⟩
       ·rcases P0.fst with z | ⟨c,h1,h2⟩
        ·exact .inl z
        ·exact .inr ⟨c,sub5 c h1,h2⟩
       ·rcases P0.lst with z | z
        ·exact .inl z
        ·exact .inr (sub5 _ z)
       ·rcases in5 e' hc with z | ⟨j,j1,j2⟩
        ·exact P0.no e' e1 e2 z
        ·have:=part_order (n:=n) ri j1 hi2
         omega
      refine ⟨t,_,rfl,SqT.of ht,rfl,_,_,rfl,_,_,rfl,rfl,_,rfl,_,rfl,_,_,rfl,rfl,_,rfl,?_⟩
      refine ite2 (fun z2=>?_) (fun z2=>?_)
      ·have flt:fstP ds i<lstP n ds i:=by have:=of_decide_eq_true z2; simp only at this; omega
       have Fr5:Fre (plc ns) (fun c=>c∈steps'.flatten):=(x5.pre.free _ (Nat.le_refl _)).congr fun c=>by rw [List.take_length]
       have sg:=seg_of x5.pre.bnd Fr5 P5
       refine ⟨_,rfl,_,rfl,_,rfl,la,plc ns,fstP ds i,lstP n ds i,rfl,SqL.of x5.at_,flt,by rw [pl,nl]; exact P0.lt,by omega,fun h1 h2=>sg.odd h1 h2,x5.tab,fun tt st H6 s6 tab6 htt so6=>?_⟩
       obtain ⟨F6,sh6,bd6⟩:=step_fre nx dis Fr5 x5.pre.bnd P5 so6
       have x6:=x5.move s6 tab6
       have P0l:=P0.lt
       have pre6:Pre (plc ns) (steps'++[st]):=x5.pre.push sh6 (fun c hc=>by have:=bd6 c hc; omega) (fun c hc hc2=>P5.no c (bd6 c hc).1 (bd6 c hc).2 hc2) F6
       have x7:=x6.push htt pre6
       have fl5:(cv steps'.flatten).length=steps'.flatten.length:=cv_length _
       have ll:=len_le (n - 1) pre6.nd (fun c hc=>by have:=pre6.bnd c hc; omega)
       have e6:(steps'++[st]).flatten=steps'.flatten++st:=by simp
       have sl:1≤st.length:=by
        rcases sh6 with ⟨a,rfl⟩ | ⟨a,b,rfl,_⟩
        ·exact Nat.le_refl _
        ·exact Nat.le_succ _
       rw [e6,List.length_append] at ll
       have las:=x5.len
       have stl:steps'.length≤steps'.flatten.length:=by
        have:∀ (l:List (List Nat)),(∀ s∈l,(∃ a,s=[a])∨∃ a b,s=[a,b]∧a<b)→l.length≤l.flatten.length:=fun l=>by
         induction l with
         | nil=>intro _; simp
         | cons s r ih =>
          intro hs
          have h1:=ih fun s hs'=>hs s (List.mem_cons_of_mem _ hs')
          have h2:=hs s List.mem_cons_self
          rw [List.flatten_cons,List.length_append,List.length_cons]
          have h3:1≤s.length:=by
           rcases h2 with ⟨a,rfl⟩ | ⟨a,b,rfl,_⟩
           ·exact Nat.le_refl _
           ·exact Nat.le_succ _
          omega
        exact this _ x5.pre.shape
       refine ⟨_,rfl,.inl ⟨rfl,_,SqL.of x6.st⟩,_,rfl,l1,_,_,rfl,rfl,x6.st,small1000 (by rw [List.length_map]; omega),?_⟩
       have hop:(upd H6 l1 (.lst (as'.map V.ref++[.ref tt]))) l2=some (.lst (cv steps'.flatten)):=by rw [upd_ne x6.n12.symm]; exact x6.op
       have htu:(upd H6 l1 (.lst (as'.map V.ref++[.ref tt]))) tt=some (.tup (cv st)):=by rw [upd_ne (ne_of htt x6.st (by intro z; cases z))]; exact htt
       refine ⟨_,rfl,.inl ⟨rfl,_,SqL.of hop⟩,_,rfl,l2,tt,_,_,rfl,rfl,hop,htu,small_line (by rw [cv_length,cv_length]; omega),?_⟩
       refine ⟨as'++[tt],steps'++[st],_,_,_,rfl,x7,(prs5.move s6).upd2 x6.st x6.op nP1 nP2,fun c hc=>?_,fun c hc=>?_,by rw [e6,List.length_append]; omega,fun j hj hne=>by rw [e6,List.length_append]; omega⟩
       ·rw [e6,List.mem_append] at hc
        rcases hc with hc | hc
        ·rcases in5 c hc with z | ⟨j,j1,j2⟩
         ·exact .inl z
         ·exact .inr ⟨j,by omega,j2⟩
        ·exact .inr ⟨i,by omega,(bd6 c hc).2⟩
       ·rw [e6,List.mem_append]
        exact .inl (sub5 c hc)
      ·have nlt:¬ fstP ds i<lstP n ds i:=fun q=>z2 (decide_eq_true (by simp only; omega))
       have le0:=P0.le
       refine ⟨as',steps',_,_,_,rfl,x5,prs5,fun c hc=>?_,sub5,le5,fun j hj hne=>?_⟩
       ·rcases in5 c hc with z | ⟨j,j1,j2⟩
        ·exact .inl z
        ·exact .inr ⟨j,by omega,j2⟩
       ·by_cases hji:j=i
        ·subst hji; omega
        ·exact pr5 j (by omega) hne
    ·rintro σ H5 ⟨as',steps',u5,u6,u7,rfl,x5,prs5,in5,sub5,le5,pr5⟩
     obtain ⟨j,j1,j2⟩:=some_open (n:=n) (ms:=ds) (by omega)
     have gr:=pr5 j (by rw [List.length_map,tl]; omega) j2
     refine ⟨⟨as',steps',_,_,_,_,rfl,x5⟩,?_⟩
     show (match H5 l2 with | some (.lst xs)=>n - xs.length | _=>0)<(match H3 l2 with | some (.lst xs)=>n - xs.length | _=>0)
     rw [x5.op,x.op]
     show n - (cv steps'.flatten).length<n - (cv steps.flatten).length
     rw [cv_length,cv_length]
     omega
   ·have ge:¬ ((cv steps.flatten).length:Int)<(((plc ns).map V.int).length:Int) - 1:=fun q=>z (decide_eq_true q)
    refine ⟨_,rfl,k l1 as steps H3 x.same x.tab x.st x.len x.tup ?_⟩
    have dn:=x.pre.done (by rw [pl,nl]; omega)
    rw [pl,nl] at dn
    exact dn
  ·rintro σ H3 Q1 Q2 hq ⟨v1,h1,a1,b1,h2,h3,v2,h4,a2,b2,h5,h6,i1,j1,h7,h8,i2,j2,h9,h10,b,h11,h12⟩
   exact ⟨v1,h1,a1,b1,h2,h3,v2,h4,a2,b2,h5,h6,i1,j1,h7,h8,i2,j2,h9,h10,b,h11,hq _ _ h12⟩
end
end Sf
set_option maxHeartbeats 4000000
namespace Sf
open PySem L2 Pl
theorem rise_filter {L:Nat→Prop} {ms:List Nat} (h:Rise L ms) (st:List Nat):Rise (fun c=>L c∧c∉st) (ms.filter fun c=>!decide (c∈st)) :=
 ⟨fun c=>by rw [List.mem_filter,h.mem c]; simp,h.inc.sublist List.filter_sublist⟩
theorem filter_cv (ms st:List Nat):(cv ms).filter (fun x=>!inV x (cv st))=cv (ms.filter fun c=>!decide (c∈st)):=by
 show ((cz ms).map V.int).filter _=(cz _).map V.int
 unfold cz
 rw [List.map_map,List.map_map,List.filter_map]
 congr 1
 refine List.filter_congr fun c _=>?_
 show (!inV (V.int (c:Int)) (cv st))=!decide (c∈st)
 rw [in_cv]
theorem iota_cz (n:Nat):iota n=cz (List.range n):=rfl
section
variable {P:Program} {w:World} {K:PySem.W.Frag} {mg:Str→Option Value} {base:Heap} {C:Addr} {B:BP} {kB:Nat}
abbrev nmPressed:List Str:=["_law_bench","_law_at","_law_steps","_law_loose","_law_step_here"]
theorem scPressed:FnScope nmPressed ["_law_bench","_law_at","_law_steps"] (defScope s_law_pressed):=⟨rfl,rfl,rfl,by decide +kernel,rfl,by decide +kernel,by decide +kernel⟩
theorem ok_pressed {f fCo fR:Addr} {fd fdCo fdR:FuncData} (BM:BMs P w K mg base C B kB) (hkB:kB≤27) (D:Def K mg "_law_pressed" s_law_pressed ["_law_bench","_law_at","_law_steps"] f fd)
  (DCo:Def K mg "_law_counts" sCounts ["_law_thing"] fCo fdCo) (DR:Def K mg "_law_row" s_law_row ["_law_found","_law_due"] fR fdR) (T:Own mg) (Z:OwnR mg) :
  FnOk P w K mg base CX0 28 f fd ["_law_bench","_law_at","_law_steps"] (spPressed K B):=by
 have GR:FnOk P w K mg base CX0 2 fR fdR ["_law_found","_law_due"] (spSameRow K):=ok_samerow DR DCo T
 have O:=BM.ok
 obtain ⟨fPr,fdPr,psPr,mPr,bPr,GPr⟩:=BM.press
 obtain ⟨fLo,fdLo,psLo,mLo,bLo,GLo⟩:=BM.loose
 refine D.fn.ok scPressed (fun vs H Q E h=>?_) (fun cdv A outer s H vs Q E hr h=>?_)
 ·obtain ⟨b,la,l,ns,n,own,as,steps,rfl,_⟩:=h
  rfl
 ·obtain ⟨b,la,l,ns,n,own,as,steps,rfl,hB,ha,na,LA,ST,pm,n1,n2,nx,k⟩:=h
  have nl:=perm_len pm
  have pl:=plc_length ns
  have hr2:=hr.mono (show 2≤27 by decide)
  have hrB:=hr.mono hkB
  have ri:Rise (fun c=>c∈steps.flatten) (List.range (n - 1)):=⟨fun c=>by
   rw [List.mem_range]
   exact ⟨fun h=>ST.all c (by omega),fun h=>by have:=ST.bnd c h; omega⟩,List.pairwise_lt_range⟩
  refine ⟨_,pss_cons (ps_set (i:=3) scPressed.nd rfl (Or.inl rfl) (pe_callTy (call_list_rng rfl) (by rfl) T.list boot_list (pa_cons (pe_callTy call_range1 (by rfl) T.range boot_range' (pa_cons (pe_op op_sub (pe_callB call_len_seq (by rfl) T.len PySem.boot_len (pa_cons (pv 1) pa_nil)) pe_int) pa_nil)) pa_nil)))
   (pss_cons (ps_for PassesOwn.never rfl (pi_rev (by rfl) Z.reversed (pa_cons (pv 2) pa_nil)) (pg_name (i:=4) scPressed.nd rfl (Or.inr rfl))
    (pss_cons (ps_expr (pe_meth (pv 0) BM.cl mPr GPr hrB bPr .nil pass0 (pa_cons (pe_callTy call_list_of (by rfl) T.list boot_list (pa_cons (pv 4) pa_nil)) pa_nil)))
    (pss_cons (ps_lcomp (i₀:=3) (cap:=[4]) (caps:=["_law_step_here"]) scPressed.nd rfl (Or.inl rfl) rfl rfl (pi_list (pv 3)) rfl (by decide +kernel) (by decide +kernel) rfl
      (by show ∀ y:Str×NameKind,y∈_→y.2=NameKind.free→(defScope s_law_pressed).names.lookup y.1=some .cell∨(defScope s_law_pressed).names.lookup y.1=some .free; decide +kernel) rfl (fun y hy=>by rw [List.mem_singleton.mp hy]; exact ⟨.inl rfl,.inl rfl⟩) (by decide +kernel)
      (fun cl s₃ H₃ fp=>⟨pifs_one (pt_cmpR (op_notIn_seqK (K:=K) rfl) (pv 0) (pv 1) rfl),pv 0⟩))
    (pss_one (ps_if (pt_not (pt_val (pe_call GR hr2 (by rfl) DR.at_ DR.fn.kp DR.bd .nil pass0 (pa_cons (pe_meth0 (pv 0) BM.cl mLo GLo hrB bLo .nil pass0) (pa_cons (pv 3) pa_nil))))) (pss_one (ps_ret pe_bl)) pss_nil)))))
   (pss_one (ps_ret (pe_cmpR (op_eq_lst hr.units0) (pv 3) (pe_lst pa_nil) (nomark _))))),?_⟩
  refine ⟨_,rfl,la,_,rfl,.inl (SqL.of ha),_,_,rfl,rfl,_,rfl,fun r hr1=>?_⟩
  have s1:=same_new (o:=.rng 0 ((((plc ns).map V.int).length:Int) - 1)) hr1
  have eh:(((plc ns).map V.int).length:Int) - 1=(n:Int) - 1:=by rw [List.length_map,pl,nl]
  rw [eh] at s1 ⊢
  refine ⟨r,0,(n:Int) - 1,rfl,upd_same,by omega,by omega,by omega,by omega,by omega,fun l0 hl0=>?_⟩
  have er:rngV 0 ((n:Int) - 1 - 0).toNat=cv (List.range (n - 1)):=by
   rw [show ((n:Int) - 1 - 0).toNat=n - 1 by omega,rngV_iota,iota_cz]
  rw [er]
  have t0:=s1.trans (same_new (o:=.lst (cv (List.range (n - 1)))) hl0)
  refine ⟨_,rfl,l,as.map V.ref,rfl,SqL.of (t0 _ _ LA.lst),for_rev (K:=K) (a:=l) (xs:=as.map V.ref) (fun i σ H2=>∃ (ll:Addr) (own2:Addr→Prop) (v:Option V) (ms:List Nat),σ=[some (.ref b),some (.ref la),some (.ref l),some (.ref ll),v]∧Moves own own2 H H2∧B H2 b ns (fun c=>c∈(steps.take (steps.length - i)).flatten) own2∧H2 ll=some (.lst (cv ms))∧Rise (fun c=>c∈(steps.take (steps.length - i)).flatten) ms∧ms.length≤59∧¬ own2 ll)
   ⟨l0,own,none,List.range (n - 1),rfl,Moves.refl.same t0,?_,upd_same,?_,by rw [List.length_range]; omega,fun q=>O.held (O.same hB s1) q hl0⟩ (fun i σ H2 _ ⟨_,_,_,_,_,m,_⟩=>SqL.of (LA.moved m).lst) ?_ ?_⟩
  ·rw [Nat.sub_zero,List.take_length]
   exact O.same hB t0
  ·rw [Nat.sub_zero,List.take_length]
   exact ri
  ·rintro i x σ H2 hi hx ⟨ll,own2,v,ms,rfl,m2,hB2,hll,ri2,ml,nll⟩
   rw [List.length_map] at hi hx
   rw [List.getElem?_map] at hx
   cases ei:as[as.length - 1 - i]? with
   | none=>rw [ei] at hx; cases hx
   | some t =>
    rw [ei] at hx
    obtain rfl:x=V.ref t:=(Option.some.inj hx).symm
    have hlen:=LA.len
    have es:steps[as.length - 1 - i]?=some (steps[as.length - 1 - i]'(by omega)):=List.getElem?_eq_getElem _
    generalize (steps[as.length - 1 - i]'(by omega))=st at es
    have L2':=LA.moved m2
    obtain ⟨ht,nt⟩:=L2'.tup _ t st ei es
    have hst:st∈steps:=List.mem_of_getElem? es
    obtain ⟨ndS,newS⟩:=step_new ST.nd es
    have bS:∀ c∈st,c+1<n:=fun c hc=>ST.bnd c (List.mem_flatten.mpr ⟨st,hst,hc⟩)
    have tf:=take_flat es
    rw [show as.length - 1 - i+1=steps.length - i by omega] at tf
    have ej:as.length - 1 - i=steps.length - (i+1):=by omega
    rw [ej] at tf newS
    have eL:(fun c=>c∈(steps.take (steps.length - i)).flatten∧c∉st)=fun c=>c∈(steps.take (steps.length - (i+1))).flatten:=funext fun c=>propext (by
     rw [tf,List.mem_append]
     exact ⟨fun ⟨h1,h2⟩=>h1.resolve_right h2,fun h=>⟨.inl h,fun h2=>newS c h2 h⟩⟩)
    obtain ⟨dx,fs,hins,k1,k2,k3,k4⟩:=O.ins hB2
    refine ⟨_,rfl,b,dx,fs,rfl,hins,k2,_,rfl,t,_,rfl,.inr (SqT.of ht),fun q5 hq5=>?_⟩
    have s5:=same_new (o:=.lst (cv st)) hq5
    have nq:¬ own2 q5:=fun q=>O.held hB2 q hq5
    refine ⟨b,q5,ns,n,_,own2,st,rfl,O.same hB2 s5,.inl (SqL.of upd_same),nq,pm,n2,nx,ndS,bS,fun c hc=>by rw [tf]; exact List.mem_append_right _ hc,by rw [eL]; exact ST.free _ (by omega),fun _ own7 H7 stay grew hB7=>?_⟩
    rw [eL] at hB7
    have m67:Moves own2 own7 _ H7:=⟨stay,grew⟩
    have m7:=(m2.same s5).trans m67
    have hll7:=stay _ _ (s5 _ _ hll) nll
    have ht7:=stay _ _ (s5 _ _ ht) nt
    refine ⟨_,rfl,ll,rfl,⟨_,SqL.of hll7⟩,fun lk hlk=>?_⟩
    refine lc_list_if (K:=K) (xs:=cv ms) (fun x=>!inV x (cv st)) (fun x=>x) (by rw [cv_length]; omega) hlk (SqL.of hll7) (fun x H8 R hx s8 hR=>?_) (fun x H8 R hx _ s8 hR=>?_) fun H8 s8 h8=>?_
    ·obtain ⟨c,hc,rfl⟩:=List.mem_map.mp hx
     exact ⟨_,rfl,_,rfl,t,_,rfl,.inr (SqT.of (s8 _ _ ht7)),rfl,flat_cv _,_,rfl,hR H8 (Same.refl _)⟩
    ·exact ⟨_,rfl,hR H8 (Same.refl _)⟩
    rw [List.map_id',filter_cv] at h8
    have ri8:=rise_filter ri2 st
    rw [eL] at ri8
    have l8:(ms.filter fun c=>!decide (c∈st)).length≤59:=Nat.le_trans (List.length_filter_le _ _) ml
    have hB8:=O.same hB7 s8
    obtain ⟨dx8,fs8,hins8,j1,j2,j3,j4⟩:=O.ins hB8
    refine ⟨_,rfl,b,dx8,fs8,rfl,hins8,j3,b,ns,_,own7,rfl,hB8,fun l9 ms9 H9 s9 hl90 ri9 hl9=>?_⟩
    have e9:=ri8.unique ri9
    subst e9
    refine ⟨_,rfl,l9,lk,cz _,rfl,hl9,SqL.of (s9 _ _ h8),by rw [List.length_map]; omega,true,rfl,iteF ?_⟩
    have s79:=s8.trans s9
    exact ⟨lk,own7,_,_,rfl,m7.same s79,O.same hB7 s79,s9 _ _ h8,ri8,l8,fun q=>O.held hB7 q hlk⟩
  ·rintro σ H2 ⟨ll,own2,v,ms,rfl,m2,hB2,hll,ri2,ml,nll⟩
   rw [List.length_map,LA.len,Nat.sub_self] at hB2 ri2
   have e0:(fun c=>c∈(steps.take 0).flatten)=fun _:Nat=>False:=funext fun c=>propext ⟨fun h=>by simp at h,False.elim⟩
   rw [e0] at hB2 ri2
   have em:ms=[]:=by
    cases ms with
    | nil=>rfl
    | cons c cs=>exact absurd ((ri2.mem c).mp (List.mem_cons_self ..)) id
   subst em
   refine ⟨_,rfl,small_line (by decide),fun le hle=>⟨ll,le,_,_,rfl,rfl,SqL.of (same_new hle _ _ hll),SqL.of upd_same,rfl,rfl,?_⟩⟩
   exact k own2 _ (m2.same (same_new hle)) (O.same hB2 (same_new hle))
def spLaw (K:PySem.W.Frag) (Tb:Addr):Sp:=fun vs H Q _=>∃ (a:Addr) (ns:List Int),vs=[.ref a]∧SqL K H a (ns.map V.int)∧ns.length≤63∧Tab H Tb lpos lq∧∀ H',Q (.bl true) H'
abbrev nmLaw:List Str:=["_law_script","_law_size_here","_law_pile","_law_many","_law_at","_law_handed","_law_steps","_law_bench","_law_parts"]
theorem scLaw:FnScope nmLaw ["_law_script"] (defScope sLaw):=⟨rfl,rfl,rfl,by decide +kernel,rfl,by decide +kernel,by decide +kernel⟩
theorem ok_law {f fOp fD fN fCo fS fLP fF fG fW fH fLF fSt fR fA fPr:Addr} {fd fdOp fdD fdN fdCo fdS fdLP fdF fdG fdW fdH fdLF fdSt fdR fdA fdPr:FuncData} {kO:Nat} {Tb:Addr} (BM:BMs P w K mg base C B kB) (hkB:kB≤27) (hkO:kO≤29) (D:Def K mg "law" sLaw ["_law_script"] f fd) (T:Own mg) (M:OwnM mg) (U:OwnT mg) (Z:OwnR mg)
  (DOp:Def K mg "opening" s_opening ["pile"] fOp fdOp) (GOp:FnOk P w K mg base CX0 kO fOp fdOp ["pile"] (spOpenT K Tb))
  (DD:Def K mg "_law_drawn" sDrawn ["_law_script","_law_k"] fD fdD) (DN:Def K mg "_law_number" sNumber ["_law_script","_law_k"] fN fdN) (DCo:Def K mg "_law_counts" sCounts ["_law_thing"] fCo fdCo) (DS:Def K mg "_law_size" sSize ["_law_cell"] fS fdS)
  (DLP:Def K mg "_law_places" sLPlaces ["_law_pile"] fLP fdLP) (DF:Def K mg "_law_fits" sFits ["_law_at","_law_stamp","_law_gap"] fF fdF) (DG:Def K mg "_law_good" sGood ["_law_script","_law_start","_law_size_here"] fG fdG)
  (DW:Def K mg "_law_wraps" sLWraps ["_law_at","_law_crease","_law_stamp"] fW fdW) (DH:Def K mg "_law_held" sHeld nmHeld fH fdH) (DLF:Def K mg "_law_free" sLFree ["_law_at","_law_loose"] fLF fdLF)
  (DSt:Def K mg "_law_step" s_law_step ["_law_step_here","_law_size_here","_law_loose"] fSt fdSt) (DR:Def K mg "_law_row" s_law_row ["_law_found","_law_due"] fR fdR) (DA:Def K mg "_law_apart" s_law_apart ["_law_bench","_law_at","_law_steps"] fA fdA)
  (DPr:Def K mg "_law_pressed" s_law_pressed ["_law_bench","_law_at","_law_steps"] fPr fdPr):FnOk P w K mg base CX0 30 f fd ["_law_script"] (spLaw K Tb):=by
 have GD:FnOk P w K mg base CX0 1 fD fdD ["_law_script","_law_k"] (spDrawn K):=ok_drawn DD T
 have GS:FnOk P w K mg base CX0 1 fS fdS ["_law_cell"] spSize:=ok_size DS
 have GLP:FnOk P w K mg base CX0 1 fLP fdLP ["_law_pile"] (spLPlaces K):=ok_lplaces DLP T
 have GG:FnOk P w K mg base CX0 2 fG fdG ["_law_script","_law_start","_law_size_here"] (spGood K):=ok_good DG DN DLP DF T M
 have GR:FnOk P w K mg base CX0 2 fR fdR ["_law_found","_law_due"] (spSameRow K):=ok_samerow DR DCo T
 have GA:FnOk P w K mg base CX0 28 fA fdA ["_law_bench","_law_at","_law_steps"] (spApart K B):=ok_apart BM hkB DA DSt DCo DLF DH DW DR T M U
 have GP:FnOk P w K mg base CX0 28 fPr fdPr ["_law_bench","_law_at","_law_steps"] (spPressed K B):=ok_pressed BM hkB DPr DCo DR T Z
 have O:=BM.ok
 obtain ⟨fI,fdI,psI,mkI,bI,GI⟩:=BM.init
 obtain ⟨fPa,fdPa,psPa,mPa,bPa,GPa⟩:=BM.parts
 refine D.fn.ok scLaw (fun vs H Q E h=>?_) (fun cdv A outer s H vs Q E hr h=>?_)
 ·obtain ⟨a,ns,rfl,_⟩:=h
  rfl
 ·obtain ⟨a,ss,rfl,hS,hlen,tab,k⟩:=h
  have hr1:=hr.mono (show 1≤29 by decide)
  have hr2:=hr.mono (show 2≤29 by decide)
  have hr28:=hr.mono (show 28≤29 by decide)
  have hrO:=hr.mono hkO
  have hrB:=hr.mono (show kB≤29 by omega)
  have hrI:=hr.mono (show kB+1≤29 by omega)
  refine ⟨_,pss_cons (ps_set (i:=1) scLaw.nd rfl (Or.inl rfl) (pe_call GS hr1 rfl DS.at_ DS.fn.kp DS.bd .nil pass0 (pa_cons (pe_call GD hr1 rfl DD.at_ DD.fn.kp DD.bd .nil pass0 (pa_cons (pv 0) (pa_cons pe_int pa_nil))) pa_nil)))
   (pss_cons (ps_set (i:=2) scLaw.nd rfl (Or.inl rfl) (pe_call GG hr2 rfl DG.at_ DG.fn.kp DG.bd .nil pass0 (pa_cons (pv 0) (pa_cons pe_int (pa_cons (pv 1) pa_nil)))))
   (pss_cons (ps_set (i:=3) scLaw.nd rfl (Or.inl rfl) (pe_op op_mod (pe_call GD hr1 rfl DD.at_ DD.fn.kp DD.bd .nil pass0 (pa_cons (pv 0) (pa_cons pe_int pa_nil))) (pv 1)))
   (pss_cons (ps_set (i:=2) scLaw.nd rfl (Or.inl rfl) (pe_op op_cat (pe_slice sl_list (pv 2) (po_some (pv 3)) po_none) (pe_slice sl_list (pv 2) po_none (po_some (pv 3)))))
   (pss_cons (ps_set (i:=4) scLaw.nd rfl (Or.inl rfl) (pe_call GLP hr1 rfl DLP.at_ DLP.fn.kp DLP.bd .nil pass0 (pa_cons (pv 2) pa_nil)))
   (pss_cons (ps_set (i:=5) scLaw.nd rfl (Or.inl rfl) (pe_callTy call_list_of (by rfl) T.list boot_list (pa_cons (pv 2) pa_nil)))
   (pss_cons (ps_set (i:=6) scLaw.nd rfl (Or.inl rfl) (pe_call GOp hrO rfl DOp.at_ DOp.fn.kp DOp.bd .nil pass0 (pa_cons (pv 5) pa_nil)))
   (pss_cons (ps_if (pw_or (pt_cmpR (op_ne_lst hr.units0) (pv 5) (pv 2) (nomark _)) (pw_or1 (pt_not (pt_val (pe_callB call_isinst (by rfl) T.isinstance boot_isinstance (pa_cons (pv 6) (pa_cons (pe_bltn (by rfl) T.list boot_list (v:=.ty "list") rfl) pa_nil))))))).pt (pss_one (ps_ret pe_bl)) pss_nil)
   (pss_cons (ps_set (i:=7) scLaw.nd rfl (Or.inl rfl) (pe_make mkI GI hrI rfl BM.at_ bI .nil pass0 (pa_cons (pv 5) pa_nil)))
   (pss_cons (ps_if (pw_or (pt_not (pt_val (pe_call GA hr28 (by rfl) DA.at_ DA.fn.kp DA.bd .nil pass0 (pa_cons (pv 7) (pa_cons (pv 4) (pa_cons (pv 6) pa_nil)))))) (pw_or1 (pt_not (pt_val (pe_call GP hr28 (by rfl) DPr.at_ DPr.fn.kp DPr.bd .nil pass0 (pa_cons (pv 7) (pa_cons (pv 4) (pa_cons (pv 6) pa_nil)))))))).pt (pss_one (ps_ret pe_bl)) pss_nil)
   (pss_cons (ps_set (i:=8) scLaw.nd rfl (Or.inl rfl) (pe_meth0 (pv 7) BM.cl mPa GPa hrB bPa .nil pass0))
   (pss_one (ps_ret (pe_and (pe_callB call_isinst (by rfl) T.isinstance boot_isinstance (pa_cons (pv 8) (pa_cons (pe_bltn (by rfl) T.list boot_list (v:=.ty "list") rfl) pa_nil)))
    (pe_and (pe_cmpR op_eq (pe_callB call_len_seq (by rfl) T.len PySem.boot_len (pa_cons (pv 8) pa_nil)) pe_int (nomark _)) (pe_one (pe_call GR hr2 rfl DR.at_ DR.fn.kp DR.bd .nil pass0 (pa_cons (pe_ix ix_list (pv 8) pe_int (fun _ _=>rfl)) (pa_cons (pv 2) pa_nil)))))))))))))))))),?_⟩
  refine ⟨_,rfl,a,ss,0,rfl,hS,_,rfl,fun n H1 s1 n1 n2=>?_⟩
  refine ⟨_,rfl,_,rfl,a,ss,2,n,rfl,s1.seq hS,by decide,n1,n2,fun lp0 ns0 H2 s2 hlp00 pm0 nx0 hlp0=>?_⟩
  have nl0:=perm_len pm0
  refine ⟨_,rfl,a,ss,1,rfl,(s1.trans s2).seq hS,_,rfl,_,_,rfl,rfl,(by show (0:Int)<(n:Int); omega),?_⟩
  have g0:=Int.emod_nonneg (ss.getD 1 0) (show (n:Int)≠0 by omega)
  have g1:=Int.emod_lt_of_pos (ss.getD 1 0) (show (0:Int)<(n:Int) by omega)
  obtain ⟨g,hg⟩:∃ g:Nat,ss.getD 1 0 % (n:Int)=(g:Int):=⟨(ss.getD 1 0 % (n:Int)).toNat,by omega⟩
  show gName 3 (V.int (ss.getD 1 0 % (n:Int))) _ _ _
  rw [hg]
  have gn:g<n:=by omega
  have gl:g≤(ns0.map V.int).length:=by rw [List.length_map,nl0]; omega
  refine ⟨_,rfl,_,rfl,_,rfl,lp0,_,rfl,SqL.of hlp0,fun p1 hp1=>?_⟩
  rw [cut_drop _ gl]
  have t1:=same_new (o:=.lst ((ns0.map V.int).drop g)) hp1
  refine ⟨_,rfl,_,rfl,_,rfl,lp0,_,rfl,SqL.of (t1 _ _ hlp0),fun p2 hp2=>?_⟩
  rw [cut_take _ gl]
  have t2:=same_new (o:=.lst ((ns0.map V.int).take g)) hp2
  refine ⟨p1,p2,_,_,rfl,rfl,t2 _ _ upd_same,upd_same,?_,fun lp hlp=>?_⟩
  ·refine small_line ?_
   rw [List.length_take,List.length_drop,List.length_map]
   omega
  have ed:(ns0.map V.int).drop g++(ns0.map V.int).take g=(turn ns0 g).map V.int:=by
   unfold turn
   rw [List.map_append,List.map_take,List.map_drop]
  rw [ed]
  have pm:=turn_perm pm0 g
  have nx:=(nox_turn pm0 gn).mpr nx0
  generalize turn ns0 g=ns at pm nx ed ⊢
  have nl:=perm_len pm
  have pl:=plc_length ns
  generalize hH3:upd (upd (upd H2 p1 (.lst ((ns0.map V.int).drop g))) p2 (.lst ((ns0.map V.int).take g))) lp (.lst (ns.map V.int))=H3
  have hlp3:H3 lp=some (.lst (ns.map V.int)):=by rw [← hH3,upd_same]
  have tab3:Tab H3 Tb lpos lq:=by rw [← hH3]; exact ((tab.stay (s1.trans s2)).stay (t1.trans t2)).stay (same_new (o:=.lst (ns.map V.int)) hlp)
  refine ⟨_,rfl,lp,ns,n,rfl,SqL.of hlp3,pm,n2,fun la H4 s4 hla0 hla=>?_⟩
  refine ⟨_,rfl,lp,_,rfl,.inl (SqL.of (s4 _ _ hlp3)),fun lh hlh=>?_⟩
  have s5:=same_new (o:=.lst (ns.map V.int)) hlh
  refine ⟨_,rfl,lh,ns,n,rfl,SqL.of upd_same,pm,n1,n2,nx,(tab3.stay s4).stay s5,fun l as steps H6 s6 tab6 hl len6 tup6 ST=>?_⟩
  have hp6:=s6 _ _ (s5 _ _ (s4 _ _ hlp3)) noT
  have hh6:=s6 _ _ upd_same noT
  have ha6:=s6 _ _ (s5 _ _ hla) noT
  refine ⟨_,rfl,_,rfl,lh,lp,_,_,rfl,rfl,SqL.of hh6,SqL.of hp6,flat_ints _,flat_ints _,_,rfl,?_⟩
  rw [eqVs_ints]
  simp only [decide_true,if_true,Bool.not_true]
  refine iteF ?_
  refine ⟨_,rfl,_,"list",_,true,rfl,.lst hl,rfl,true,rfl,iteF ?_⟩
  refine ⟨_,rfl,fun x dx hx hdx hne=>?_⟩
  have nox:∀ {y:Addr} {o:HO},H6 y=some o→y≠x:=fun h=>ne_of_none h hx
  have nodx:∀ {y:Addr} {o:HO},H6 y=some o→y≠dx:=fun h=>ne_of_none h hdx
  have up:∀ {y:Addr} {o:HO},H6 y=some o→(upd (upd H6 dx (.own x)) x (.ins C dx [])) y=some o:=fun h=>by rw [upd_ne (nox h),upd_ne (nodx h)]; exact h
  refine ⟨x,lh,dx,ns,n,rfl,upd_same,by rw [upd_ne hne,upd_same],SqL.of (up hh6),nox hh6,nodx hh6,pm,n1,n2,nx,fun own H7 stay own7 hB7=>⟨rfl,?_⟩⟩
  have s67:Same H6 H7:=fun y o h=>stay y o (up h) (nox h)
  have no:∀ {y:Addr} {o:HO},H6 y=some o→¬ own y:=fun {y o} h q=>by
   rcases own7 y q with z | z | z
   ·exact nox h z
   ·exact nodx h z
   ·rw [up h] at z; cases z
  have LA:Laid own H7 l as steps:=⟨s67 _ _ hl,no hl,len6,fun i a' st h1 h2=>let q:=tup6 i a' st h1 h2; ⟨s67 _ _ q,no q⟩⟩
  refine ⟨_,rfl,_,rfl,_,rfl,x,la,l,ns,n,own,as,steps,rfl,hB7,s67 _ _ ha6,no ha6,LA,ST,pm,n1,n2,nx,fun own8 H8 m8 hB8=>⟨true,rfl,iteF ?_⟩⟩
  refine ⟨_,rfl,_,rfl,_,rfl,x,la,l,ns,n,own8,as,steps,rfl,hB8,m8.stay _ _ (s67 _ _ ha6) (no ha6),m8.not (s67 _ _ ha6) (no ha6),LA.moved m8,ST,pm,n1,n2,nx,fun own9 H9 m9 hB9=>⟨true,rfl,iteF ?_⟩⟩
  have m79:=m8.trans m9
  have hp9:=m79.stay _ _ (s67 _ _ hp6) (no hp6)
  obtain ⟨dx9,fs9,hins9,j1,j2,j3,j4⟩:=O.ins hB9
  refine ⟨_,rfl,x,dx9,fs9,rfl,hins9,j4,n,x,ns,_,own9,[],pm,n2,rfl,hB9,⟨fun c=>⟨fun h=>(by cases h),fun h=>h.elim⟩,.nil⟩,fun lq qs H10 s10 hq0 hq ql ndq frq hqs=>?_⟩
  match qs,ql with
  | [q0],_ =>
   have hq1:=hqs 0 q0 ns rfl (by rw [partsL_none pm]; rfl)
   refine ⟨_,rfl,_,"list",_,true,rfl,.lst hq,rfl,true,rfl,iteT ?_⟩
   refine ⟨_,rfl,lq,_,rfl,.inl (SqL.of hq),rfl,_,rfl,?_⟩
   refine ite2 (fun _=>?_) (fun z=>absurd (decide_eq_true rfl) z)
   exact ⟨_,rfl,lq,_,_,_,rfl,rfl,SqL.of hq,rfl,_,rfl,q0,lp,ns,rfl,hq1,SqL.of (s10 _ _ hp9),by omega,k H10⟩
end
end Sf
namespace Sf
open PySem L2 Pl
theorem len1 {α:Type _} {p:List α→Prop} (h:∀ a0:α,p [a0]) (us:List α) (e:us.length=1):p us:=by
 match us,e with
 | [a0],_=>exact h a0
theorem len2 {α:Type _} {p:List α→Prop} (h:∀ a0 a1:α,p [a0,a1]) (us:List α) (e:us.length=2):p us:=by
 match us,e with
 | [a0,a1],_=>exact h a0 a1
theorem len3 {α:Type _} {p:List α→Prop} (h:∀ a0 a1 a2:α,p [a0,a1,a2]) (us:List α) (e:us.length=3):p us:=by
 match us,e with
 | [a0,a1,a2],_=>exact h a0 a1 a2
theorem len4 {α:Type _} {p:List α→Prop} (h:∀ a0 a1 a2 a3:α,p [a0,a1,a2,a3]) (us:List α) (e:us.length=4):p us:=by
 match us,e with
 | [a0,a1,a2,a3],_=>exact h a0 a1 a2 a3
theorem len5 {α:Type _} {p:List α→Prop} (h:∀ a0 a1 a2 a3 a4:α,p [a0,a1,a2,a3,a4]) (us:List α) (e:us.length=5):p us:=by
 match us,e with
 | [a0,a1,a2,a3,a4],_=>exact h a0 a1 a2 a3 a4
theorem def_mk {K:PySem.W.Frag} {h:Heap} {mg:Str→Option Value} {x:Str} {st:Stmt} {f:Addr} {oc:Value} {od an:Option Addr} {sl:Array (Option Value)} {kV dc pm cd ct:Value} {ps:List Str} (X:K.In h) (G:h.Ns mainGlobals mg)
  (a:PySem.W.nsIn K mainGlobals x=some (some (.ref f))) (l:K.lookup f=some ⟨oc,od,.func (PySem.W.fnOf x x (defArgs st) (defBody st) (defScope st) .none kV dc pm an cd ct),sl⟩) (c:PySem.W.codeIn K cd x=true) (k:PySem.W.keepIn K (.ref f)=true)
  (hb:∀ (kV doc pm:Value) (an:Option Addr) (cdv ct:Value) (us:List Value),us.length=ps.length→bindArgs (PySem.W.fnOf x x (defArgs st) (defBody st) (defScope st) .none kV doc pm an cdv ct) ⟨us,[]⟩=pure (ps.zip us)) :
  Def K mg x st ps f (PySem.W.fnOf x x (defArgs st) (defBody st) (defScope st) .none kV dc pm an cd ct):=⟨fun_mk l c k,(fun_mk l c k).binds hb,PySem.W.mg_of X G a⟩
end Sf
set_option maxHeartbeats 4000000
namespace Sf
open PySem L2 Pl
theorem all_mk {l:PySem.W.OpenLaw} {w:World} {K:PySem.W.Frag} {h:Heap} {mg:Str→Option Value} {fa f1 f2 f3 f4 f5 f6 f7 f8 f9 f10 f11 f12 f13 f14 f15 f16 f17 f18 f19 f20 f21 f22 f23 f24 f25 f26 f27 f28 f29 f30:Addr} (X:K.In h) (G:h.Ns mainGlobals mg) (hfa:mg "law"=some (.ref fa))
  {od1 an1 od2 an2 od3 an3 od4 an4 od5 an5 od6 an6 od7 an7 od8 an8 od9 an9 od10 an10 od11 an11 od12 an12 od13 an13 od14 an14 od15 an15 od16 an16 od17 an17 od18 an18 od19 an19 od20 an20 od21 an21 od22 an22 od23 an23 od24 an24 od25 an25 od26 an26 od27 an27 od28 an28 od29 an29 od30 an30:Option Addr} {sl1 sl2 sl3 sl4 sl5 sl6 sl7 sl8 sl9 sl10 sl11 sl12 sl13 sl14 sl15 sl16 sl17 sl18 sl19 sl20 sl21 sl22 sl23 sl24 sl25 sl26 sl27 sl28 sl29 sl30:Array (Option Value)} {oc1 kV1 dc1 pm1 cd1 ct1 oc2 kV2 dc2 pm2 cd2 ct2 oc3 kV3 dc3 pm3 cd3 ct3 oc4 kV4 dc4 pm4 cd4 ct4 oc5 kV5 dc5 pm5 cd5 ct5 oc6 kV6 dc6 pm6 cd6 ct6 oc7 kV7 dc7 pm7 cd7 ct7 oc8 kV8 dc8 pm8 cd8 ct8 oc9 kV9 dc9 pm9 cd9 ct9 oc10 kV10 dc10 pm10 cd10 ct10 oc11 kV11 dc11 pm11 cd11 ct11 oc12 kV12 dc12 pm12 cd12 ct12 oc13 kV13 dc13 pm13 cd13 ct13 oc14 kV14 dc14 pm14 cd14 ct14 oc15 kV15 dc15 pm15 cd15 ct15 oc16 kV16 dc16 pm16 cd16 ct16 oc17 kV17 dc17 pm17 cd17 ct17 oc18 kV18 dc18 pm18 cd18 ct18 oc19 kV19 dc19 pm19 cd19 ct19 oc20 kV20 dc20 pm20 cd20 ct20 oc21 kV21 dc21 pm21 cd21 ct21 oc22 kV22 dc22 pm22 cd22 ct22 oc23 kV23 dc23 pm23 cd23 ct23 oc24 kV24 dc24 pm24 cd24 ct24 oc25 kV25 dc25 pm25 cd25 ct25 oc26 kV26 dc26 pm26 cd26 ct26 oc27 kV27 dc27 pm27 cd27 ct27 oc28 kV28 dc28 pm28 cd28 ct28 oc29 kV29 dc29 pm29 cd29 ct29 oc30 kV30 dc30 pm30 cd30 ct30:Value}
  (a1:PySem.W.nsIn K mainGlobals "check_pile"=some (some (.ref f1))) (l1:K.lookup f1=some ⟨oc1,od1,.func (PySem.W.fnOf "check_pile" "check_pile" (defArgs sCheck) (defBody sCheck) (defScope sCheck) .none kV1 dc1 pm1 an1 cd1 ct1),sl1⟩) (c1:PySem.W.codeIn K cd1 "check_pile"=true) (k1:PySem.W.keepIn K (.ref f1)=true)
  (a2:PySem.W.nsIn K mainGlobals "places"=some (some (.ref f2))) (l2:K.lookup f2=some ⟨oc2,od2,.func (PySem.W.fnOf "places" "places" (defArgs sPlaces) (defBody sPlaces) (defScope sPlaces) .none kV2 dc2 pm2 an2 cd2 ct2),sl2⟩) (c2:PySem.W.codeIn K cd2 "places"=true) (k2:PySem.W.keepIn K (.ref f2)=true)
  (a3:PySem.W.nsIn K mainGlobals "wraps"=some (some (.ref f3))) (l3:K.lookup f3=some ⟨oc3,od3,.func (PySem.W.fnOf "wraps" "wraps" (defArgs sWraps) (defBody sWraps) (defScope sWraps) .none kV3 dc3 pm3 an3 cd3 ct3),sl3⟩) (c3:PySem.W.codeIn K cd3 "wraps"=true) (k3:PySem.W.keepIn K (.ref f3)=true)
  (a4:PySem.W.nsIn K mainGlobals "cross"=some (some (.ref f4))) (l4:K.lookup f4=some ⟨oc4,od4,.func (PySem.W.fnOf "cross" "cross" (defArgs sCross) (defBody sCross) (defScope sCross) .none kV4 dc4 pm4 an4 cd4 ct4),sl4⟩) (c4:PySem.W.codeIn K cd4 "cross"=true) (k4:PySem.W.keepIn K (.ref f4)=true)
  (a5:PySem.W.nsIn K mainGlobals "crossing"=some (some (.ref f5))) (l5:K.lookup f5=some ⟨oc5,od5,.func (PySem.W.fnOf "crossing" "crossing" (defArgs sCrossing) (defBody sCrossing) (defScope sCrossing) .none kV5 dc5 pm5 an5 cd5 ct5),sl5⟩) (c5:PySem.W.codeIn K cd5 "crossing"=true) (k5:PySem.W.keepIn K (.ref f5)=true)
  (a6:PySem.W.nsIn K mainGlobals "foldable_places"=some (some (.ref f6))) (l6:K.lookup f6=some ⟨oc6,od6,.func (PySem.W.fnOf "foldable_places" "foldable_places" (defArgs s_foldable_places) (defBody s_foldable_places) (defScope s_foldable_places) .none kV6 dc6 pm6 an6 cd6 ct6),sl6⟩) (c6:PySem.W.codeIn K cd6 "foldable_places"=true) (k6:PySem.W.keepIn K (.ref f6)=true)
  (a7:PySem.W.nsIn K mainGlobals "check_creases"=some (some (.ref f7))) (l7:K.lookup f7=some ⟨oc7,od7,.func (PySem.W.fnOf "check_creases" "check_creases" (defArgs s_check_creases) (defBody s_check_creases) (defScope s_check_creases) .none kV7 dc7 pm7 an7 cd7 ct7),sl7⟩) (c7:PySem.W.codeIn K cd7 "check_creases"=true) (k7:PySem.W.keepIn K (.ref f7)=true)
  (a8:PySem.W.nsIn K mainGlobals "ends_of_parts"=some (some (.ref f8))) (l8:K.lookup f8=some ⟨oc8,od8,.func (PySem.W.fnOf "ends_of_parts" "ends_of_parts" (defArgs s_ends_of_parts) (defBody s_ends_of_parts) (defScope s_ends_of_parts) .none kV8 dc8 pm8 an8 cd8 ct8),sl8⟩) (c8:PySem.W.codeIn K cd8 "ends_of_parts"=true) (k8:PySem.W.keepIn K (.ref f8)=true)
  (a9:PySem.W.nsIn K mainGlobals "creases_like"=some (some (.ref f9))) (l9:K.lookup f9=some ⟨oc9,od9,.func (PySem.W.fnOf "creases_like" "creases_like" (defArgs s_creases_like) (defBody s_creases_like) (defScope s_creases_like) .none kV9 dc9 pm9 an9 cd9 ct9),sl9⟩) (c9:PySem.W.codeIn K cd9 "creases_like"=true) (k9:PySem.W.keepIn K (.ref f9)=true)
  (a10:PySem.W.nsIn K mainGlobals "wrapped_within"=some (some (.ref f10))) (l10:K.lookup f10=some ⟨oc10,od10,.func (PySem.W.fnOf "wrapped_within" "wrapped_within" (defArgs s_wrapped_within) (defBody s_wrapped_within) (defScope s_wrapped_within) .none kV10 dc10 pm10 an10 cd10 ct10),sl10⟩) (c10:PySem.W.codeIn K cd10 "wrapped_within"=true) (k10:PySem.W.keepIn K (.ref f10)=true)
  (a11:PySem.W.nsIn K mainGlobals "inner_parts_odd"=some (some (.ref f11))) (l11:K.lookup f11=some ⟨oc11,od11,.func (PySem.W.fnOf "inner_parts_odd" "inner_parts_odd" (defArgs s_inner_parts_odd) (defBody s_inner_parts_odd) (defScope s_inner_parts_odd) .none kV11 dc11 pm11 an11 cd11 ct11),sl11⟩) (c11:PySem.W.codeIn K cd11 "inner_parts_odd"=true) (k11:PySem.W.keepIn K (.ref f11)=true)
  (a12:PySem.W.nsIn K mainGlobals "lies_free"=some (some (.ref f12))) (l12:K.lookup f12=some ⟨oc12,od12,.func (PySem.W.fnOf "lies_free" "lies_free" (defArgs s_lies_free) (defBody s_lies_free) (defScope s_lies_free) .none kV12 dc12 pm12 an12 cd12 ct12),sl12⟩) (c12:PySem.W.codeIn K cd12 "lies_free"=true) (k12:PySem.W.keepIn K (.ref f12)=true)
  (a13:PySem.W.nsIn K mainGlobals "widest_like"=some (some (.ref f13))) (l13:K.lookup f13=some ⟨oc13,od13,.func (PySem.W.fnOf "widest_like" "widest_like" (defArgs s_widest_like) (defBody s_widest_like) (defScope s_widest_like) .none kV13 dc13 pm13 an13 cd13 ct13),sl13⟩) (c13:PySem.W.codeIn K cd13 "widest_like"=true) (k13:PySem.W.keepIn K (.ref f13)=true)
  (a14:PySem.W.nsIn K mainGlobals "step_within"=some (some (.ref f14))) (l14:K.lookup f14=some ⟨oc14,od14,.func (PySem.W.fnOf "step_within" "step_within" (defArgs s_step_within) (defBody s_step_within) (defScope s_step_within) .none kV14 dc14 pm14 an14 cd14 ct14),sl14⟩) (c14:PySem.W.codeIn K cd14 "step_within"=true) (k14:PySem.W.keepIn K (.ref f14)=true)
  (a15:PySem.W.nsIn K mainGlobals "opening"=some (some (.ref f15))) (l15:K.lookup f15=some ⟨oc15,od15,.func (PySem.W.fnOf "opening" "opening" (defArgs s_opening) (defBody s_opening) (defScope s_opening) .none kV15 dc15 pm15 an15 cd15 ct15),sl15⟩) (c15:PySem.W.codeIn K cd15 "opening"=true) (k15:PySem.W.keepIn K (.ref f15)=true)
  (a16:PySem.W.nsIn K mainGlobals "_law_drawn"=some (some (.ref f16))) (l16:K.lookup f16=some ⟨oc16,od16,.func (PySem.W.fnOf "_law_drawn" "_law_drawn" (defArgs sDrawn) (defBody sDrawn) (defScope sDrawn) .none kV16 dc16 pm16 an16 cd16 ct16),sl16⟩) (c16:PySem.W.codeIn K cd16 "_law_drawn"=true) (k16:PySem.W.keepIn K (.ref f16)=true)
  (a17:PySem.W.nsIn K mainGlobals "_law_number"=some (some (.ref f17))) (l17:K.lookup f17=some ⟨oc17,od17,.func (PySem.W.fnOf "_law_number" "_law_number" (defArgs sNumber) (defBody sNumber) (defScope sNumber) .none kV17 dc17 pm17 an17 cd17 ct17),sl17⟩) (c17:PySem.W.codeIn K cd17 "_law_number"=true) (k17:PySem.W.keepIn K (.ref f17)=true)
  (a18:PySem.W.nsIn K mainGlobals "_law_counts"=some (some (.ref f18))) (l18:K.lookup f18=some ⟨oc18,od18,.func (PySem.W.fnOf "_law_counts" "_law_counts" (defArgs sCounts) (defBody sCounts) (defScope sCounts) .none kV18 dc18 pm18 an18 cd18 ct18),sl18⟩) (c18:PySem.W.codeIn K cd18 "_law_counts"=true) (k18:PySem.W.keepIn K (.ref f18)=true)
  (a19:PySem.W.nsIn K mainGlobals "_law_size"=some (some (.ref f19))) (l19:K.lookup f19=some ⟨oc19,od19,.func (PySem.W.fnOf "_law_size" "_law_size" (defArgs sSize) (defBody sSize) (defScope sSize) .none kV19 dc19 pm19 an19 cd19 ct19),sl19⟩) (c19:PySem.W.codeIn K cd19 "_law_size"=true) (k19:PySem.W.keepIn K (.ref f19)=true)
  (a20:PySem.W.nsIn K mainGlobals "_law_places"=some (some (.ref f20))) (l20:K.lookup f20=some ⟨oc20,od20,.func (PySem.W.fnOf "_law_places" "_law_places" (defArgs sLPlaces) (defBody sLPlaces) (defScope sLPlaces) .none kV20 dc20 pm20 an20 cd20 ct20),sl20⟩) (c20:PySem.W.codeIn K cd20 "_law_places"=true) (k20:PySem.W.keepIn K (.ref f20)=true)
  (a21:PySem.W.nsIn K mainGlobals "_law_fits"=some (some (.ref f21))) (l21:K.lookup f21=some ⟨oc21,od21,.func (PySem.W.fnOf "_law_fits" "_law_fits" (defArgs sFits) (defBody sFits) (defScope sFits) .none kV21 dc21 pm21 an21 cd21 ct21),sl21⟩) (c21:PySem.W.codeIn K cd21 "_law_fits"=true) (k21:PySem.W.keepIn K (.ref f21)=true)
  (a22:PySem.W.nsIn K mainGlobals "_law_good"=some (some (.ref f22))) (l22:K.lookup f22=some ⟨oc22,od22,.func (PySem.W.fnOf "_law_good" "_law_good" (defArgs sGood) (defBody sGood) (defScope sGood) .none kV22 dc22 pm22 an22 cd22 ct22),sl22⟩) (c22:PySem.W.codeIn K cd22 "_law_good"=true) (k22:PySem.W.keepIn K (.ref f22)=true)
  (a23:PySem.W.nsIn K mainGlobals "_law_wraps"=some (some (.ref f23))) (l23:K.lookup f23=some ⟨oc23,od23,.func (PySem.W.fnOf "_law_wraps" "_law_wraps" (defArgs sLWraps) (defBody sLWraps) (defScope sLWraps) .none kV23 dc23 pm23 an23 cd23 ct23),sl23⟩) (c23:PySem.W.codeIn K cd23 "_law_wraps"=true) (k23:PySem.W.keepIn K (.ref f23)=true)
  (a24:PySem.W.nsIn K mainGlobals "_law_held"=some (some (.ref f24))) (l24:K.lookup f24=some ⟨oc24,od24,.func (PySem.W.fnOf "_law_held" "_law_held" (defArgs sHeld) (defBody sHeld) (defScope sHeld) .none kV24 dc24 pm24 an24 cd24 ct24),sl24⟩) (c24:PySem.W.codeIn K cd24 "_law_held"=true) (k24:PySem.W.keepIn K (.ref f24)=true)
  (a25:PySem.W.nsIn K mainGlobals "_law_free"=some (some (.ref f25))) (l25:K.lookup f25=some ⟨oc25,od25,.func (PySem.W.fnOf "_law_free" "_law_free" (defArgs sLFree) (defBody sLFree) (defScope sLFree) .none kV25 dc25 pm25 an25 cd25 ct25),sl25⟩) (c25:PySem.W.codeIn K cd25 "_law_free"=true) (k25:PySem.W.keepIn K (.ref f25)=true)
  (a26:PySem.W.nsIn K mainGlobals "_law_step"=some (some (.ref f26))) (l26:K.lookup f26=some ⟨oc26,od26,.func (PySem.W.fnOf "_law_step" "_law_step" (defArgs s_law_step) (defBody s_law_step) (defScope s_law_step) .none kV26 dc26 pm26 an26 cd26 ct26),sl26⟩) (c26:PySem.W.codeIn K cd26 "_law_step"=true) (k26:PySem.W.keepIn K (.ref f26)=true)
  (a27:PySem.W.nsIn K mainGlobals "_law_row"=some (some (.ref f27))) (l27:K.lookup f27=some ⟨oc27,od27,.func (PySem.W.fnOf "_law_row" "_law_row" (defArgs s_law_row) (defBody s_law_row) (defScope s_law_row) .none kV27 dc27 pm27 an27 cd27 ct27),sl27⟩) (c27:PySem.W.codeIn K cd27 "_law_row"=true) (k27:PySem.W.keepIn K (.ref f27)=true)
  (a28:PySem.W.nsIn K mainGlobals "_law_apart"=some (some (.ref f28))) (l28:K.lookup f28=some ⟨oc28,od28,.func (PySem.W.fnOf "_law_apart" "_law_apart" (defArgs s_law_apart) (defBody s_law_apart) (defScope s_law_apart) .none kV28 dc28 pm28 an28 cd28 ct28),sl28⟩) (c28:PySem.W.codeIn K cd28 "_law_apart"=true) (k28:PySem.W.keepIn K (.ref f28)=true)
  (a29:PySem.W.nsIn K mainGlobals "_law_pressed"=some (some (.ref f29))) (l29:K.lookup f29=some ⟨oc29,od29,.func (PySem.W.fnOf "_law_pressed" "_law_pressed" (defArgs s_law_pressed) (defBody s_law_pressed) (defScope s_law_pressed) .none kV29 dc29 pm29 an29 cd29 ct29),sl29⟩) (c29:PySem.W.codeIn K cd29 "_law_pressed"=true) (k29:PySem.W.keepIn K (.ref f29)=true)
  (a30:PySem.W.nsIn K mainGlobals "law"=some (some (.ref f30))) (l30:K.lookup f30=some ⟨oc30,od30,.func (PySem.W.fnOf "law" "law" (defArgs sLaw) (defBody sLaw) (defScope sLaw) .none kV30 dc30 pm30 an30 cd30 ct30),sl30⟩) (c30:PySem.W.codeIn K cd30 "law"=true) (k30:PySem.W.keepIn K (.ref f30)=true)
  {C g0 g1 g2 g3 g4 g5 g6:Addr} {god0 gan0 god1 gan1 god2 gan2 god3 gan3 god4 gan4 god5 gan5 god6 gan6:Option Addr} {gsl0 gsl1 gsl2 gsl3 gsl4 gsl5 gsl6:Array (Option Value)} {goc0 gkV0 gdc0 gpm0 gcd0 gct0 goc1 gkV1 gdc1 gpm1 gcd1 gct1 goc2 gkV2 gdc2 gpm2 gcd2 gct2 goc3 gkV3 gdc3 gpm3 gcd3 gct3 goc4 gkV4 gdc4 gpm4 gcd4 gct4 goc5 gkV5 gdc5 gpm5 gcd5 gct5 goc6 gkV6 gdc6 gpm6 gcd6 gct6:Value}
  {cT Tb:Addr}
  (aC:PySem.W.nsIn K mainGlobals "Bench"=some (some (.ref C)))
  (ma0:PySem.W.findIn K (.ref C) "__init__"=some (some (.ref g0)))
  (mi0:PySem.W.isFn K (.ref g0)=true)
  (ml0:K.lookup g0=some ⟨goc0,god0,.func (PySem.W.fnOf "__init__" "Bench.__init__" (defArgs sInit) (defBody sInit) (defScope sInit) .none gkV0 gdc0 gpm0 gan0 gcd0 gct0),gsl0⟩)
  (mc0:PySem.W.codeIn K gcd0 "Bench.__init__"=true)
  (mk0:PySem.W.keepIn K (.ref g0)=true)
  (ma1:PySem.W.findIn K (.ref C) "draw"=some (some (.ref g1)))
  (mi1:PySem.W.isFn K (.ref g1)=true)
  (ml1:K.lookup g1=some ⟨goc1,god1,.func (PySem.W.fnOf "draw" "Bench.draw" (defArgs sDraw) (defBody sDraw) (defScope sDraw) .none gkV1 gdc1 gpm1 gan1 gcd1 gct1),gsl1⟩)
  (mc1:PySem.W.codeIn K gcd1 "Bench.draw"=true)
  (mk1:PySem.W.keepIn K (.ref g1)=true)
  (ma2:PySem.W.findIn K (.ref C) "press"=some (some (.ref g2)))
  (mi2:PySem.W.isFn K (.ref g2)=true)
  (ml2:K.lookup g2=some ⟨goc2,god2,.func (PySem.W.fnOf "press" "Bench.press" (defArgs sPress) (defBody sPress) (defScope sPress) .none gkV2 gdc2 gpm2 gan2 gcd2 gct2),gsl2⟩)
  (mc2:PySem.W.codeIn K gcd2 "Bench.press"=true)
  (mk2:PySem.W.keepIn K (.ref g2)=true)
  (ma3:PySem.W.findIn K (.ref C) "settle"=some (some (.ref g3)))
  (mi3:PySem.W.isFn K (.ref g3)=true)
  (ml3:K.lookup g3=some ⟨goc3,god3,.func (PySem.W.fnOf "settle" "Bench.settle" (defArgs sSettle) (defBody sSettle) (defScope sSettle) .none gkV3 gdc3 gpm3 gan3 gcd3 gct3),gsl3⟩)
  (mc3:PySem.W.codeIn K gcd3 "Bench.settle"=true)
  (mk3:PySem.W.keepIn K (.ref g3)=true)
  (ma4:PySem.W.findIn K (.ref C) "loose"=some (some (.ref g4)))
  (mi4:PySem.W.isFn K (.ref g4)=true)
  (ml4:K.lookup g4=some ⟨goc4,god4,.func (PySem.W.fnOf "loose" "Bench.loose" (defArgs sLoose) (defBody sLoose) (defScope sLoose) .none gkV4 gdc4 gpm4 gan4 gcd4 gct4),gsl4⟩)
  (mc4:PySem.W.codeIn K gcd4 "Bench.loose"=true)
  (mk4:PySem.W.keepIn K (.ref g4)=true)
  (ma5:PySem.W.findIn K (.ref C) "parts"=some (some (.ref g5)))
  (mi5:PySem.W.isFn K (.ref g5)=true)
  (ml5:K.lookup g5=some ⟨goc5,god5,.func (PySem.W.fnOf "parts" "Bench.parts" (defArgs sPartsB) (defBody sPartsB) (defScope sPartsB) .none gkV5 gdc5 gpm5 gan5 gcd5 gct5),gsl5⟩)
  (mc5:PySem.W.codeIn K gcd5 "Bench.parts"=true)
  (mk5:PySem.W.keepIn K (.ref g5)=true)
  (ma6:PySem.W.findIn K (.ref C) "part_between"=some (some (.ref g6)))
  (mi6:PySem.W.isFn K (.ref g6)=true)
  (ml6:K.lookup g6=some ⟨goc6,god6,.func (PySem.W.fnOf "part_between" "Bench.part_between" (defArgs sBetween) (defBody sBetween) (defScope sBetween) .none gkV6 gdc6 gpm6 gan6 gcd6 gct6),gsl6⟩)
  (mc6:PySem.W.codeIn K gcd6 "Bench.part_between"=true)
  (mk6:PySem.W.keepIn K (.ref g6)=true)
  (pg:PySem.W.plainGet K C Str.empty=true)
  (hd:PySem.W.hasDictIn K C=true)
  (po:PySem.W.plainOver K C=true)
  (sa:PySem.W.findIn K (.ref C) "__setattr__"=some (some (.builtin "object.__setattr__")))
  (mks:PySem.W.makesIn K C=true)
  (kc:PySem.W.keepIn K (.ref C)=true)
  (n_at:PySem.W.findIn K (.ref C) "at"=some none)
  (n_pile:PySem.W.findIn K (.ref C) "pile"=some none)
  (n_opened:PySem.W.findIn K (.ref C) "opened"=some none)
  (htb:PySem.W.tabIn K (Str.ofString "widest_like")=some (cT,Tb))
  (z1:PySem.W.nsIn K mainGlobals "len"=some none) (z2:PySem.W.nsIn K mainGlobals "sorted"=some none) (z3:PySem.W.nsIn K mainGlobals "list"=some none) (z4:PySem.W.nsIn K mainGlobals "range"=some none) (z5:PySem.W.nsIn K mainGlobals "enumerate"=some none) (z6:PySem.W.nsIn K mainGlobals "isinstance"=some none) (z7:PySem.W.nsIn K mainGlobals "int"=some none) (z8:PySem.W.nsIn K mainGlobals "str"=some none) (z9:PySem.W.nsIn K mainGlobals "min"=some none) (z10:PySem.W.nsIn K mainGlobals "max"=some none) (z11:PySem.W.nsIn K mainGlobals "tuple"=some none) (z12:PySem.W.nsIn K mainGlobals "reversed"=some none) (z13:PySem.W.nsIn K mainGlobals "set"=some none) (z14:PySem.W.nsIn K mainGlobals "any"=some none) (z15:PySem.W.nsIn K mainGlobals "all"=some none) (z16:PySem.W.nsIn K mainGlobals "zip"=some none) (z17:PySem.W.nsIn K mainGlobals "abs"=some none) :
  ∃ fd:FuncData,(∀ (s:Shared) (v:Value),BindsTo s fd ⟨[v],[]⟩ [("_law_script",v)])∧∀ base:Heap,K.In base→base.Ns mainGlobals mg→PySem.W.CodeHd base cT Tb→Bm mg base→FnOk l.prog w K mg base CX0 30 fa fd ["_law_script"] (spLaw K Tb):=by
 have e:=hfa.symm.trans (PySem.W.mg_of X G a30)
 cases e
 have T:Own mg:=⟨PySem.W.mg_none_of X G z1,PySem.W.mg_none_of X G z2,PySem.W.mg_none_of X G z3,PySem.W.mg_none_of X G z4,PySem.W.mg_none_of X G z5,PySem.W.mg_none_of X G z6,PySem.W.mg_none_of X G z7,PySem.W.mg_none_of X G z8⟩
 have M:OwnM mg:=⟨PySem.W.mg_none_of X G z9,PySem.W.mg_none_of X G z10⟩
 have U:OwnT mg:=⟨PySem.W.mg_none_of X G z11⟩
 have Z:OwnR mg:=⟨PySem.W.mg_none_of X G z12⟩
 have Z2:OwnZ mg:=⟨PySem.W.mg_none_of X G z13,PySem.W.mg_none_of X G z14,PySem.W.mg_none_of X G z15,PySem.W.mg_none_of X G z16⟩
 have A0:OwnL mg:=⟨PySem.W.mg_none_of X G z17⟩
 have D1:=def_mk (st:=sCheck) (ps:=["pile"]) X G a1 l1 c1 k1 fun _ _ _ _ _ _=>len1 fun _=>rfl
 have D2:=def_mk (st:=sPlaces) (ps:=["pile"]) X G a2 l2 c2 k2 fun _ _ _ _ _ _=>len1 fun _=>rfl
 have D3:=def_mk (st:=sWraps) (ps:=["at","crease","stamp"]) X G a3 l3 c3 k3 fun _ _ _ _ _ _=>len3 fun _ _ _=>rfl
 have D4:=def_mk (st:=sCross) (ps:=["at","one","other"]) X G a4 l4 c4 k4 fun _ _ _ _ _ _=>len3 fun _ _ _=>rfl
 have D5:=def_mk (st:=sCrossing) (ps:=["pile"]) X G a5 l5 c5 k5 fun _ _ _ _ _ _=>len1 fun _=>rfl
 have D6:=def_mk (st:=s_foldable_places) (ps:=["pile"]) X G a6 l6 c6 k6 fun _ _ _ _ _ _=>len1 fun _=>rfl
 have D7:=def_mk (st:=s_check_creases) (ps:=["stamps","creases"]) X G a7 l7 c7 k7 fun _ _ _ _ _ _=>len2 fun _ _=>rfl
 have D8:=def_mk (st:=s_ends_of_parts) (ps:=["stamps","opened"]) X G a8 l8 c8 k8 fun _ _ _ _ _ _=>len2 fun _ _=>rfl
 have D9:=def_mk (st:=s_creases_like) (ps:=["side","first","last"]) X G a9 l9 c9 k9 fun _ _ _ _ _ _=>len3 fun _ _ _=>rfl
 have D10:=def_mk (st:=s_wrapped_within) (ps:=["at","stamp","side","ends"]) X G a10 l10 c10 k10 fun _ _ _ _ _ _=>len4 fun _ _ _ _=>rfl
 have D11:=def_mk (st:=s_inner_parts_odd) (ps:=["parts"]) X G a11 l11 c11 k11 fun _ _ _ _ _ _=>len1 fun _=>rfl
 have D12:=def_mk (st:=s_lies_free) (ps:=["at","opened"]) X G a12 l12 c12 k12 fun _ _ _ _ _ _=>len2 fun _ _=>rfl
 have D13:=def_mk (st:=s_widest_like) (ps:=["at","side","first","last"]) X G a13 l13 c13 k13 fun _ _ _ _ _ _=>len4 fun _ _ _ _=>rfl
 have D14:=def_mk (st:=s_step_within) (ps:=["at","first","last"]) X G a14 l14 c14 k14 fun _ _ _ _ _ _=>len3 fun _ _ _=>rfl
 have D15:=def_mk (st:=s_opening) (ps:=["pile"]) X G a15 l15 c15 k15 fun _ _ _ _ _ _=>len1 fun _=>rfl
 have D16:=def_mk (st:=sDrawn) (ps:=["_law_script","_law_k"]) X G a16 l16 c16 k16 fun _ _ _ _ _ _=>len2 fun _ _=>rfl
 have D17:=def_mk (st:=sNumber) (ps:=["_law_script","_law_k"]) X G a17 l17 c17 k17 fun _ _ _ _ _ _=>len2 fun _ _=>rfl
 have D18:=def_mk (st:=sCounts) (ps:=["_law_thing"]) X G a18 l18 c18 k18 fun _ _ _ _ _ _=>len1 fun _=>rfl
 have D19:=def_mk (st:=sSize) (ps:=["_law_cell"]) X G a19 l19 c19 k19 fun _ _ _ _ _ _=>len1 fun _=>rfl
 have D20:=def_mk (st:=sLPlaces) (ps:=["_law_pile"]) X G a20 l20 c20 k20 fun _ _ _ _ _ _=>len1 fun _=>rfl
 have D21:=def_mk (st:=sFits) (ps:=["_law_at","_law_stamp","_law_gap"]) X G a21 l21 c21 k21 fun _ _ _ _ _ _=>len3 fun _ _ _=>rfl
 have D22:=def_mk (st:=sGood) (ps:=["_law_script","_law_start","_law_size_here"]) X G a22 l22 c22 k22 fun _ _ _ _ _ _=>len3 fun _ _ _=>rfl
 have D23:=def_mk (st:=sLWraps) (ps:=["_law_at","_law_crease","_law_stamp"]) X G a23 l23 c23 k23 fun _ _ _ _ _ _=>len3 fun _ _ _=>rfl
 have D24:=def_mk (st:=sHeld) (ps:=["_law_at","_law_first","_law_last","_law_crease","_law_stamp"]) X G a24 l24 c24 k24 fun _ _ _ _ _ _=>len5 fun _ _ _ _ _=>rfl
 have D25:=def_mk (st:=sLFree) (ps:=["_law_at","_law_loose"]) X G a25 l25 c25 k25 fun _ _ _ _ _ _=>len2 fun _ _=>rfl
 have D26:=def_mk (st:=s_law_step) (ps:=["_law_step_here","_law_size_here","_law_loose"]) X G a26 l26 c26 k26 fun _ _ _ _ _ _=>len3 fun _ _ _=>rfl
 have D27:=def_mk (st:=s_law_row) (ps:=["_law_found","_law_due"]) X G a27 l27 c27 k27 fun _ _ _ _ _ _=>len2 fun _ _=>rfl
 have D28:=def_mk (st:=s_law_apart) (ps:=["_law_bench","_law_at","_law_steps"]) X G a28 l28 c28 k28 fun _ _ _ _ _ _=>len3 fun _ _ _=>rfl
 have D29:=def_mk (st:=s_law_pressed) (ps:=["_law_bench","_law_at","_law_steps"]) X G a29 l29 c29 k29 fun _ _ _ _ _ _=>len3 fun _ _ _=>rfl
 have D30:=def_mk (st:=sLaw) (ps:=["_law_script"]) X G a30 l30 c30 k30 fun _ _ _ _ _ _=>len1 fun _=>rfl
 have BC:BCl K C:=⟨⟨pg,hd,po,sa⟩,n_at,n_pile,n_opened⟩
 have MF0:=fun_mk (st:=sInit) ml0 mc0 mk0
 have MB0:=MF0.binds (ps:=["self","pile"]) fun _ _ _ _ _ _=>len2 fun _ _=>rfl
 have MF1:=fun_mk (st:=sDraw) ml1 mc1 mk1
 have MB1:=MF1.binds (ps:=["self","creases"]) fun _ _ _ _ _ _=>len2 fun _ _=>rfl
 have MD1:MDef K C "draw" "Bench.draw" sDraw ["self","creases"] g1 _:=⟨MF1,MB1,⟨ma1,mi1,mk1⟩⟩
 have MF2:=fun_mk (st:=sPress) ml2 mc2 mk2
 have MB2:=MF2.binds (ps:=["self","creases"]) fun _ _ _ _ _ _=>len2 fun _ _=>rfl
 have MD2:MDef K C "press" "Bench.press" sPress ["self","creases"] g2 _:=⟨MF2,MB2,⟨ma2,mi2,mk2⟩⟩
 have MF3:=fun_mk (st:=sSettle) ml3 mc3 mk3
 have MB3:=MF3.binds (ps:=["self","creases"]) fun _ _ _ _ _ _=>len2 fun _ _=>rfl
 have MD3:MDef K C "settle" "Bench.settle" sSettle ["self","creases"] g3 _:=⟨MF3,MB3,⟨ma3,mi3,mk3⟩⟩
 have MF4:=fun_mk (st:=sLoose) ml4 mc4 mk4
 have MB4:=MF4.binds (ps:=["self"]) fun _ _ _ _ _ _=>len1 fun _=>rfl
 have MD4:MDef K C "loose" "Bench.loose" sLoose ["self"] g4 _:=⟨MF4,MB4,⟨ma4,mi4,mk4⟩⟩
 have MF5:=fun_mk (st:=sPartsB) ml5 mc5 mk5
 have MB5:=MF5.binds (ps:=["self"]) fun _ _ _ _ _ _=>len1 fun _=>rfl
 have MD5:MDef K C "parts" "Bench.parts" sPartsB ["self"] g5 _:=⟨MF5,MB5,⟨ma5,mi5,mk5⟩⟩
 have MF6:=fun_mk (st:=sBetween) ml6 mc6 mk6
 have MB6:=MF6.binds (ps:=["self","first","last"]) fun _ _ _ _ _ _=>len3 fun _ _ _=>rfl
 have MD6:MDef K C "part_between" "Bench.part_between" sBetween ["self","first","last"] g6 _:=⟨MF6,MB6,⟨ma6,mi6,mk6⟩⟩
 have HC:=PySem.W.law_code X G htb (PySem.W.mg_of X G a13) (X _ _ l13) rfl
 refine ⟨PySem.W.fnOf "law" "law" (defArgs sLaw) (defBody sLaw) (defScope sLaw) .none kV30 dc30 pm30 an30 cd30 ct30,fun s v=>.of_eq rfl,fun base KB GB0 CT BT0=>?_⟩
 have GFO:=ok_foldp (P:=l.prog) (w:=w) (base:=base) D6 D5 D2 D1 D4 D3 T M
 have GLI:=ok_lies (P:=l.prog) (w:=w) (base:=base) D12 D8 D11 D10 D9 D3 T M Z2
 have GS0:=ok_settle (P:=l.prog) (w:=w) (base:=base) MD3 BC D12 GLI T
 have GST:=ok_stw (P:=l.prog) (w:=w) (base:=base) D14 D13 D9 HC CT BT0 T M A0
 have GOP:=ok_open (P:=l.prog) (w:=w) (base:=base) D15 D6 GFO D8 (ok_ends D8 T Z2) D14 GST T
 have BM:BMs l.prog w K mg base C (BenchP C) 5:=⟨⟨pg,hd,po,sa⟩,benchP_ok C,PySem.W.mg_of X G aC,⟨g0,_,_,⟨mks,ma0,mi0,kc⟩,MB0,ok_initB MF0 BC D6 GFO T⟩,⟨g1,_,_,⟨ma1,mi1,mk1⟩,MB1,ok_drawB MD1 BC D7 MD3 GS0 T Z2⟩,⟨g2,_,_,⟨ma2,mi2,mk2⟩,MB2,ok_pressB MD2 BC D7 MD3 GS0 T Z2⟩,⟨g4,_,_,⟨ma4,mi4,mk4⟩,MB4,(ok_looseB MD4 BC T).mono (by decide)⟩,⟨g5,_,_,⟨ma5,mi5,mk5⟩,MB5,(FnOk.imp (ok_partsB MD5 BC D8 MD6 T Z2) (sp':=spPartsN (BenchP C)) fun vs H Q E h=>by obtain ⟨n,b,ns,L,own,ms,h1,h2,h3,h4,h5,h6⟩:=h; exact ⟨n,b,ns,L,own,ms,h1,h2,h3,h4,h5,h6⟩).mono (by decide)⟩⟩
 exact ok_law BM (by decide) (by decide) D30 T M U Z D15 GOP D16 D17 D18 D19 D20 D21 D22 D23 D24 D25 D26 D27 D28 D29
theorem walk {l:PySem.W.OpenLaw} {q:Program} {loose:List Str} {XP:(Str→Option Value)→Heap→Prop} {YP:World→Heap→Prop} {d dT:DefRec} {K:Params→PySem.W.Frag} {cT Tb:Addr} (hn:l.most=some 63) (hdf:d.params.defaults=[])
  (hY:∀ (w:World) (h:Heap),YP w h→(K w.params).In h) (hrec:(PyProof.Rows.recsOf q).find? (fun e=>e.name == (Str.ofString "widest_like"))=some dT) (htab:∀ w:World,PySem.W.tabIn (K w.params) (Str.ofString "widest_like")=some (cT,Tb)) (hno:∀ w:World,PySem.W.noTabs (K w.params)=true)
  (F:∀ (w:World) (mg:Str→Option Value) (fa:Addr) (h:Heap),(K w.params).In h→h.Ns mainGlobals mg→mg d.name=some (.ref fa) →
   ∃ fd:FuncData,(∀ (s:Shared) (u:Value),BindsTo s fd ⟨[u],[]⟩ [("_law_script",u)])∧∀ base:Heap,(K w.params).In base→base.Ns mainGlobals mg→PySem.W.CodeHd base cT Tb→Bm mg base→FnOk l.prog w (K w.params) mg base CX0 30 fa fd ["_law_script"] (spLaw (K w.params) Tb)) :
  PySem.W.WalkO q loose XP YP l.row.toRowW d [] (fun f vs=>PySem.call f vs) :=
 L2.walk_ofT (n:=63) (k:=30) (x:="_law_script") (y:="widest_like") (CX:=fun _=>CX0) (sp:=fun w=>spLaw (K w.params) Tb) hn (by decide) hdf ⟨rfl,by decide,by decide⟩ hY hrec htab hno F (fun _ _ a ns hl _ hT hS=>⟨a,ns,rfl,hS,hl,.inl hT,fun _=>rfl⟩) fun _ _ _ _ _ z=>z
end Sf
namespace Tw
open PySem PySem.W PySem.W.Fast
noncomputable section
noncomputable def st (n : Nat) : Stmt := PySem.Challenge.pw_stripfold_k07_whole_drawn_apart.main.body.getD n (.Pass ⟨0, 0, 0, 0⟩)
noncomputable def sm (n m : Nat) : Stmt := match st n with | .ClassDef (body := l) .. => l.getD m (.Pass ⟨0, 0, 0, 0⟩) | t => t
noncomputable def dA : Stmt → Arguments | .FunctionDef (args := a) .. => a | _ => default
noncomputable def dB : Stmt → List Stmt | .FunctionDef (body := b) .. => b | _ => []
noncomputable def dS : Stmt → Scope | .FunctionDef (scope := c) .. => c | _ => default
noncomputable abbrev vn : Value := .none
noncomputable abbrev vt : Value := .bool true
noncomputable abbrev i (n : Int) (t : Nat) : Value := .int n t
noncomputable abbrev j (n : Int) : Value := .int n 0
noncomputable abbrev s (x : Str) (t : Nat) : Value := .str x t
noncomputable abbrev r (a : Nat) : Value := .ref a
noncomputable abbrev S (x : Str) (t : Nat) : Option Value := some (.str x t)
noncomputable abbrev R (a : Nat) : Option Value := some (.ref a)
noncomputable abbrev y (n : String) : Value := .type n
noncomputable abbrev b (n : String) : Value := .builtin n
noncomputable abbrev D (l : Array Value) : Data := .fields l
noncomputable abbrev en (P : Params) (x : Str) (t : Nat) (v : Value) : DictEntry := ⟨PyData.keyHash P x, .str x t, v⟩
noncomputable abbrev oo (c : Value) (d : Data) : Obj := ⟨c, none, d, #[]⟩
noncomputable abbrev tu (l : List Value) : Obj := ⟨.type "tuple", none, .seq l.toArray 0, #[]⟩
noncomputable abbrev co (l : List Value) : Obj := ⟨.type "code", none, .fields l.toArray, #[]⟩
noncomputable abbrev C (n : Str) (a : Nat) (q : Str) (b c : Nat) (l m : Int) (f : Int) (x : Nat) (z : Bool) (e : Int) (p : Nat) (u v w : Value) (k h : Int) (g : Nat) : Obj := co [s n a, s q b, s "/claim/cut.py" c, j l, j m, j 0, j 0, j f, r x, .bool z, j e, r p, vn, u, v, w, j k, j h, s "/claim/cut.py" g]
noncomputable abbrev fd (n q : Str) (t : Stmt) (g : Nat) (c : List (Str × Nat)) (d k dc pm : Value) (an : Option Nat) (cd ct : Value) (bl : Nat) : Data := .func ⟨n, q, dA t, .stmts (dB t), dS t, g, c, d, k, dc, pm, an, cd, ct, bl⟩
noncomputable abbrev F (n q : Str) (t : Stmt) : Obj := oo vn (fd n q t 0 [] vn vn vn vn none vn vn 0)
noncomputable abbrev G (n q : Str) (t : Stmt) (d : Value) (m : Str) (k c : Nat) : Obj := oo (y "function") (fd n q t 3 [] d vn vn (s m k) none (r c) vn 0)
noncomputable abbrev K (o : Obj) : Params → Obj := fun _ => o
def q43:=K (tu [])
def q44:=K (oo vn (D #[]))
def q45:=K (C "<module>" 182 "<module>" 183 184 1 0 0 11 false 181 12 vn vn vn 185 1 186)
def q46:=K (Obj.mk (y "frame") none Data.plain #[(R 13),(R 3),(R 3),none,(S "__main__" 164),none,(R 0)])
def q49:=fun P:Params=>oo (y "dict") (Data.dict #[(en P "__name__" 165 (s "stripfold.errors" 187)),(en P "__doc__" 166 vn),(en P "__package__" 167 vn),(en P "__loader__" 168 (b "__main__.__loader__#opaque")),(en P "__spec__" 169 vn),(en P "__annotations__" 170 (r 6)),(en P "__builtins__" 171 (r 4)),(en P "__file__" 173 (s "/claim/cut.py" 172)),(en P "__cached__" 174 vn),(en P "StripError" 206 (r 24))] 10)
def q50:=K (oo vn (D #[(j 2),(j 0),(r 20)]))
def q51:=K (tu [(y "ValueError")])
def q52:=K (oo (y "builtin_function_or_method") (D #[(b "type.__prepare__"),(y "type")]))
def q53:=fun P:Params=>oo (y "dict") (Data.dict #[(en P "__module__" 196 (s "stripfold.errors" 187)),(en P "__qualname__" 198 (s "StripError" 197)),(en P "__firstlineno__" 200 (i 2 199)),(en P "__static_attributes__" 201 (r 22))] 4)
def q56:=K (C "StripError" 191 "StripError" 192 193 2 0 0 18 false 181 19 vn vn vn 194 2 195)
def q57:=K (Obj.mk (y "frame") none Data.plain #[(R 20),(R 3),(R 17),none,(S "stripfold.errors" 187),none,(R 0)])
def q59:=fun P:Params=>oo (y "dict") (Data.dict #[(en P "__module__" 196 (s "stripfold.errors" 187)),(en P "__firstlineno__" 200 (i 2 199)),(en P "__static_attributes__" 201 (r 22)),(en P "__weakref__" 203 (r 25)),(en P "__doc__" 204 vn)] 3)
def q60:=K (Obj.mk (y "type") none (Data.cls (ClassData.mk "StripError" [(y "ValueError")] [(r 24),(y "ValueError"),(y "Exception"),(y "BaseException"),(y "object")] 23 "StripError" true [] [] false none false)) #[(R 15),none,(S "StripError" 189),(S "StripError" 197),(some (b "ValueError.__new__")),(some vt)])
def q61:=K (oo (y "getset_descriptor") (D #[(s "__weakref__" 202),(r 24),(b "ExceptionGroup.__weakref__"),vn]))
def q62:=K (oo (y "super") (D #[(r 24),(r 24),(r 24)]))
def q63:=K (oo (y "builtin_function_or_method") (D #[(b "object.__init_subclass__"),(r 24)]))
def q64:=fun P:Params=>oo (y "dict") (Data.dict #[(en P "__name__" 165 (s "stripfold.errors" 187)),(en P "__doc__" 166 vn),(en P "__package__" 167 vn),(en P "__loader__" 168 (b "__main__.__loader__#opaque")),(en P "__spec__" 169 vn),(en P "__annotations__" 170 (r 6)),(en P "__builtins__" 171 (r 4)),(en P "__file__" 173 (s "/claim/cut.py" 172)),(en P "__cached__" 174 vn),(en P "StripError" 206 (r 24)),(en P "NoPile" 222 (r 37))] 11)
def q65:=K (oo vn (D #[(j 2),(j 0),(r 20),(j 4),(j 0),(r 33)]))
def q66:=K (Obj.mk (y "type") none (Data.cls (ClassData.mk "StripError" [(y "ValueError")] [(r 24),(y "ValueError"),(y "Exception"),(y "BaseException"),(y "object")] 23 "StripError" true [] [(r 37)] false none false)) #[(R 15),none,(S "StripError" 189),(S "StripError" 197),(some (b "ValueError.__new__")),(some vt)])
def q67:=K (tu [(r 24)])
def q69:=fun P:Params=>oo (y "dict") (Data.dict #[(en P "__module__" 214 (s "stripfold.errors" 187)),(en P "__qualname__" 216 (s "NoPile" 215)),(en P "__firstlineno__" 218 (i 4 217)),(en P "__static_attributes__" 219 (r 35))] 4)
def q72:=K (C "NoPile" 209 "NoPile" 210 211 4 0 0 31 false 181 32 vn vn vn 212 4 213)
def q73:=K (Obj.mk (y "frame") none Data.plain #[(R 33),(R 3),(R 30),none,(S "stripfold.errors" 187),none,(R 0)])
def q75:=fun P:Params=>oo (y "dict") (Data.dict #[(en P "__module__" 214 (s "stripfold.errors" 187)),(en P "__firstlineno__" 218 (i 4 217)),(en P "__static_attributes__" 219 (r 35)),(en P "__doc__" 220 vn)] 2)
def q76:=K (Obj.mk (y "type") none (Data.cls (ClassData.mk "NoPile" [(r 24)] [(r 37),(r 24),(y "ValueError"),(y "Exception"),(y "BaseException"),(y "object")] 36 "NoPile" true [] [] false none false)) #[(R 28),none,(S "NoPile" 207),(S "NoPile" 215),(some (b "ValueError.__new__")),(some vt)])
def q77:=K (oo (y "super") (D #[(r 37),(r 37),(r 37)]))
def q78:=K (oo (y "builtin_function_or_method") (D #[(b "object.__init_subclass__"),(r 37)]))
def q79:=fun P:Params=>oo (y "dict") (Data.dict #[(en P "__name__" 165 (s "stripfold.errors" 187)),(en P "__doc__" 166 vn),(en P "__package__" 167 vn),(en P "__loader__" 168 (b "__main__.__loader__#opaque")),(en P "__spec__" 169 vn),(en P "__annotations__" 170 (r 6)),(en P "__builtins__" 171 (r 4)),(en P "__file__" 173 (s "/claim/cut.py" 172)),(en P "__cached__" 174 vn),(en P "StripError" 206 (r 24)),(en P "NoPile" 222 (r 37)),(en P "NoCrease" 238 (r 49))] 12)
def q80:=K (oo vn (D #[(j 2),(j 0),(r 20),(j 4),(j 0),(r 33),(j 6),(j 0),(r 45)]))
def q81:=K (Obj.mk (y "type") none (Data.cls (ClassData.mk "StripError" [(y "ValueError")] [(r 24),(y "ValueError"),(y "Exception"),(y "BaseException"),(y "object")] 23 "StripError" true [] [(r 37),(r 49)] false none false)) #[(R 15),none,(S "StripError" 189),(S "StripError" 197),(some (b "ValueError.__new__")),(some vt)])
def q84:=fun P:Params=>oo (y "dict") (Data.dict #[(en P "__module__" 230 (s "stripfold.errors" 187)),(en P "__qualname__" 232 (s "NoCrease" 231)),(en P "__firstlineno__" 234 (i 6 233)),(en P "__static_attributes__" 235 (r 47))] 4)
def q87:=K (C "NoCrease" 225 "NoCrease" 226 227 6 0 0 43 false 181 44 vn vn vn 228 6 229)
def q88:=K (Obj.mk (y "frame") none Data.plain #[(R 45),(R 3),(R 42),none,(S "stripfold.errors" 187),none,(R 0)])
def q90:=fun P:Params=>oo (y "dict") (Data.dict #[(en P "__module__" 230 (s "stripfold.errors" 187)),(en P "__firstlineno__" 234 (i 6 233)),(en P "__static_attributes__" 235 (r 47)),(en P "__doc__" 236 vn)] 2)
def q91:=K (Obj.mk (y "type") none (Data.cls (ClassData.mk "NoCrease" [(r 24)] [(r 49),(r 24),(y "ValueError"),(y "Exception"),(y "BaseException"),(y "object")] 48 "NoCrease" true [] [] false none false)) #[(R 40),none,(S "NoCrease" 223),(S "NoCrease" 231),(some (b "ValueError.__new__")),(some vt)])
def q92:=K (oo (y "super") (D #[(r 49),(r 49),(r 49)]))
def q93:=K (oo (y "builtin_function_or_method") (D #[(b "object.__init_subclass__"),(r 49)]))
def q94:=fun P:Params=>oo (y "dict") (Data.dict #[(en P "__name__" 165 (s "stripfold.errors" 187)),(en P "__doc__" 166 vn),(en P "__package__" 167 vn),(en P "__loader__" 168 (b "__main__.__loader__#opaque")),(en P "__spec__" 169 vn),(en P "__annotations__" 170 (r 6)),(en P "__builtins__" 171 (r 4)),(en P "__file__" 173 (s "/claim/cut.py" 172)),(en P "__cached__" 174 vn),(en P "StripError" 206 (r 24)),(en P "NoPile" 222 (r 37)),(en P "NoCrease" 238 (r 49)),(en P "Stuck" 254 (r 61))] 13)
def q95:=K (oo vn (D #[(j 2),(j 0),(r 20),(j 4),(j 0),(r 33),(j 6),(j 0),(r 45),(j 8),(j 0),(r 57)]))
def q96:=K (Obj.mk (y "type") none (Data.cls (ClassData.mk "StripError" [(y "ValueError")] [(r 24),(y "ValueError"),(y "Exception"),(y "BaseException"),(y "object")] 23 "StripError" true [] [(r 37),(r 49),(r 61)] false none false)) #[(R 15),none,(S "StripError" 189),(S "StripError" 197),(some (b "ValueError.__new__")),(some vt)])
def q99:=fun P:Params=>oo (y "dict") (Data.dict #[(en P "__module__" 246 (s "stripfold.errors" 187)),(en P "__qualname__" 248 (s "Stuck" 247)),(en P "__firstlineno__" 250 (i 8 249)),(en P "__static_attributes__" 251 (r 59))] 4)
def q102:=K (C "Stuck" 241 "Stuck" 242 243 8 0 0 55 false 181 56 vn vn vn 244 8 245)
def q103:=K (Obj.mk (y "frame") none Data.plain #[(R 57),(R 3),(R 54),none,(S "stripfold.errors" 187),none,(R 0)])
def q105:=fun P:Params=>oo (y "dict") (Data.dict #[(en P "__module__" 246 (s "stripfold.errors" 187)),(en P "__firstlineno__" 250 (i 8 249)),(en P "__static_attributes__" 251 (r 59)),(en P "__doc__" 252 vn)] 2)
def q106:=K (Obj.mk (y "type") none (Data.cls (ClassData.mk "Stuck" [(r 24)] [(r 61),(r 24),(y "ValueError"),(y "Exception"),(y "BaseException"),(y "object")] 60 "Stuck" true [] [] false none false)) #[(R 52),none,(S "Stuck" 239),(S "Stuck" 247),(some (b "ValueError.__new__")),(some vt)])
def q107:=K (oo (y "super") (D #[(r 61),(r 61),(r 61)]))
def q108:=K (oo (y "builtin_function_or_method") (D #[(b "object.__init_subclass__"),(r 61)]))
def q109:=fun P:Params=>oo (y "dict") (Data.dict #[(en P "__name__" 165 (s "stripfold.judge" 301)),(en P "__doc__" 166 vn),(en P "__package__" 167 vn),(en P "__loader__" 168 (b "__main__.__loader__#opaque")),(en P "__spec__" 169 vn),(en P "__annotations__" 170 (r 6)),(en P "__builtins__" 171 (r 4)),(en P "__file__" 173 (s "/claim/cut.py" 172)),(en P "__cached__" 174 vn),(en P "StripError" 206 (r 24)),(en P "NoPile" 222 (r 37)),(en P "NoCrease" 238 (r 49)),(en P "Stuck" 254 (r 61)),(en P "Crossing" 281 (r 80)),(en P "check_pile" 290 (r 89)),(en P "places" 300 (r 96)),(en P "wraps" 313 (r 103)),(en P "cross" 322 (r 110))] 18)
def q110:=K (oo vn (D #[(j 2),(j 0),(r 20),(j 4),(j 0),(r 33),(j 6),(j 0),(r 45),(j 8),(j 0),(r 57),(j 10),(j 0),(r 69),(j 17),(j 0),(r 88),(j 20),(j 0),(r 95),(j 27),(j 0),(r 102),(j 31),(j 0),(r 109)]))
def q111:=K (Obj.mk (y "type") none (Data.cls (ClassData.mk "StripError" [(y "ValueError")] [(r 24),(y "ValueError"),(y "Exception"),(y "BaseException"),(y "object")] 23 "StripError" true [] [(r 37),(r 49),(r 61),(r 80)] false none false)) #[(R 15),none,(S "StripError" 189),(S "StripError" 197),(some (b "ValueError.__new__")),(some vt)])
def q114:=fun P:Params=>oo (y "dict") (Data.dict #[(en P "__module__" 262 (s "stripfold.errors" 187)),(en P "__qualname__" 264 (s "Crossing" 263)),(en P "__firstlineno__" 266 (i 10 265)),(en P "__init__" 275 (r 77)),(en P "__static_attributes__" 278 (r 78))] 5)
def q116:=K (oo vn (D #[(j 12),(j 4),(r 76)]))
def q117:=K (C "Crossing" 257 "Crossing" 258 259 10 0 0 67 false 181 68 vn vn vn 260 10 261)
def q118:=K (Obj.mk (y "frame") none Data.plain #[(R 69),(R 3),(R 66),none,(S "stripfold.errors" 187),none,(R 0)])
def q121:=K (tu [(s "self" 270),(s "one" 271),(s "other" 272)])
def q123:=K (F "__init__" "Crossing.__init__" (sm 5 0))
def q124:=K (C "__init__" 267 "Crossing.__init__" 268 269 12 3 3 71 true 181 72 (r 73) (r 74) (r 75) 273 12 274)
def q125:=K (G "__init__" "Crossing.__init__" (sm 5 0) vn "stripfold.errors" 187 76)
def q126:=K (tu [(s "one" 276),(s "other" 277)])
def q127:=fun P:Params=>oo (y "dict") (Data.dict #[(en P "__module__" 262 (s "stripfold.errors" 187)),(en P "__firstlineno__" 266 (i 10 265)),(en P "__init__" 275 (r 77)),(en P "__static_attributes__" 278 (r 78)),(en P "__doc__" 279 vn)] 2)
def q128:=K (Obj.mk (y "type") none (Data.cls (ClassData.mk "Crossing" [(r 24)] [(r 80),(r 24),(y "ValueError"),(y "Exception"),(y "BaseException"),(y "object")] 79 "Crossing" true [] [] false none false)) #[(R 64),none,(S "Crossing" 255),(S "Crossing" 263),(some (b "ValueError.__new__")),(some vt)])
def q129:=K (oo (y "super") (D #[(r 80),(r 80),(r 80)]))
def q130:=K (oo (y "builtin_function_or_method") (D #[(b "object.__init_subclass__"),(r 80)]))
def q133:=K (tu [(s "pile" 287)])
def q135:=K (F "check_pile" "check_pile" (st 7))
def q136:=K (C "check_pile" 284 "check_pile" 285 286 17 1 3 83 true 181 84 (r 85) (r 86) (r 87) 288 17 289)
def q137:=K (G "check_pile" "check_pile" (st 7) vn "stripfold.piles" 282 88)
def q140:=K (tu [(s "pile" 294),(s "found" 295),(s "place" 296),(s "stamp" 297)])
def q142:=K (F "places" "places" (st 8))
def q143:=K (C "places" 291 "places" 292 293 20 1 3 90 true 181 91 (r 92) (r 93) (r 94) 298 20 299)
def q144:=K (G "places" "places" (st 8) vn "stripfold.piles" 282 95)
def q147:=K (tu [(s "at" 306),(s "crease" 307),(s "stamp" 308),(s "low" 309),(s "high" 310)])
def q149:=K (F "wraps" "wraps" (st 10))
def q150:=K (C "wraps" 303 "wraps" 304 305 27 3 3 97 true 181 98 (r 99) (r 100) (r 101) 311 27 312)
def q151:=K (G "wraps" "wraps" (st 10) vn "stripfold.judge" 301 102)
def q154:=K (tu [(s "at" 317),(s "one" 318),(s "other" 319)])
def q156:=K (F "cross" "cross" (st 11))
def q157:=K (C "cross" 314 "cross" 315 316 31 3 3 104 true 181 105 (r 106) (r 107) (r 108) 320 31 321)
def q158:=K (G "cross" "cross" (st 11) vn "stripfold.judge" 301 109)
def q159:=fun P:Params=>oo (y "dict") (Data.dict #[(en P "__name__" 165 (s "stripfold.bench" 425)),(en P "__doc__" 166 vn),(en P "__package__" 167 vn),(en P "__loader__" 168 (b "__main__.__loader__#opaque")),(en P "__spec__" 169 vn),(en P "__annotations__" 170 (r 6)),(en P "__builtins__" 171 (r 4)),(en P "__file__" 173 (s "/claim/cut.py" 172)),(en P "__cached__" 174 vn),(en P "StripError" 206 (r 24)),(en P "NoPile" 222 (r 37)),(en P "NoCrease" 238 (r 49)),(en P "Stuck" 254 (r 61)),(en P "Crossing" 281 (r 80)),(en P "check_pile" 290 (r 89)),(en P "places" 300 (r 96)),(en P "wraps" 313 (r 103)),(en P "cross" 322 (r 110)),(en P "crossing" 333 (r 117)),(en P "foldable_places" 341 (r 124)),(en P "check_creases" 352 (r 131)),(en P "ends_of_parts" 358 (r 136)),(en P "creases_like" 364 (r 141)),(en P "wrapped_within" 370 (r 146)),(en P "inner_parts_odd" 376 (r 151)),(en P "lies_free" 388 (r 158)),(en P "widest_like" 399 (r 165)),(en P "step_within" 410 (r 172)),(en P "opening" 424 (r 179))] 29)
def q160:=K (oo vn (D #[(j 2),(j 0),(r 20),(j 4),(j 0),(r 33),(j 6),(j 0),(r 45),(j 8),(j 0),(r 57),(j 10),(j 0),(r 69),(j 17),(j 0),(r 88),(j 20),(j 0),(r 95),(j 27),(j 0),(r 102),(j 31),(j 0),(r 109),(j 33),(j 0),(r 116),(j 41),(j 0),(r 123),(j 47),(j 0),(r 130),(j 53),(j 0),(r 135),(j 57),(j 0),(r 140),(j 59),(j 0),(r 145),(j 61),(j 0),(r 150),(j 63),(j 0),(r 157),(j 71),(j 0),(r 164),(j 73),(j 0),(r 171),(j 81),(j 0),(r 178)]))
def q163:=K (tu [(s "pile" 326),(s "at" 327),(s "creases" 328),(s "one" 329),(s "other" 330)])
def q165:=K (F "crossing" "crossing" (st 12))
def q166:=K (C "crossing" 323 "crossing" 324 325 33 1 3 111 true 181 112 (r 113) (r 114) (r 115) 331 33 332)
def q167:=K (G "crossing" "crossing" (st 12) vn "stripfold.judge" 301 116)
def q170:=K (tu [(s "pile" 337),(s "pair" 338)])
def q172:=K (F "foldable_places" "foldable_places" (st 13))
def q173:=K (C "foldable_places" 334 "foldable_places" 335 336 41 1 3 118 true 181 119 (r 120) (r 121) (r 122) 339 41 340)
def q174:=K (G "foldable_places" "foldable_places" (st 13) vn "stripfold.judge" 301 123)
def q177:=K (tu [(s "stamps" 347),(s "creases" 348),(s "crease" 349)])
def q179:=K (F "check_creases" "check_creases" (st 15))
def q180:=K (C "check_creases" 344 "check_creases" 345 346 47 2 3 125 true 181 126 (r 127) (r 128) (r 129) 350 47 351)
def q181:=K (G "check_creases" "check_creases" (st 15) vn "stripfold.opening" 342 130)
def q184:=K (F "ends_of_parts" "ends_of_parts" (st 16))
def q185:=K (C "ends_of_parts" 353 "ends_of_parts" 354 355 53 2 3 132 true 181 133 vn vn (r 134) 356 53 357)
def q186:=K (G "ends_of_parts" "ends_of_parts" (st 16) vn "stripfold.opening" 342 135)
def q189:=K (F "creases_like" "creases_like" (st 17))
def q190:=K (C "creases_like" 359 "creases_like" 360 361 57 3 3 137 true 181 138 vn vn (r 139) 362 57 363)
def q191:=K (G "creases_like" "creases_like" (st 17) vn "stripfold.opening" 342 140)
def q194:=K (F "wrapped_within" "wrapped_within" (st 18))
def q195:=K (C "wrapped_within" 365 "wrapped_within" 366 367 59 4 3 142 true 181 143 vn vn (r 144) 368 59 369)
def q196:=K (G "wrapped_within" "wrapped_within" (st 18) vn "stripfold.opening" 342 145)
def q199:=K (F "inner_parts_odd" "inner_parts_odd" (st 19))
def q200:=K (C "inner_parts_odd" 371 "inner_parts_odd" 372 373 61 1 3 147 true 181 148 vn vn (r 149) 374 61 375)
def q201:=K (G "inner_parts_odd" "inner_parts_odd" (st 19) vn "stripfold.opening" 342 150)
def q204:=K (tu [(s "at" 380),(s "opened" 381),(s "parts" 382),(s "crease" 383),(s "before" 384),(s "behind" 385)])
def q206:=K (F "lies_free" "lies_free" (st 20))
def q207:=K (C "lies_free" 377 "lies_free" 378 379 63 2 3 152 true 181 153 (r 154) (r 155) (r 156) 386 63 387)
def q208:=K (G "lies_free" "lies_free" (st 20) vn "stripfold.opening" 342 157)
def q211:=K (tu [(s "at" 392),(s "side" 393),(s "first" 394),(s "last" 395)])
def q212:=K (tu [(s "at" 396)])
def q213:=K (F "widest_like" "widest_like" (st 21))
def q214:=K (C "widest_like" 389 "widest_like" 390 391 71 4 3 159 true 181 160 (r 161) (r 162) (r 163) 397 71 398)
def q215:=K (G "widest_like" "widest_like" (st 21) vn "stripfold.opening" 342 164)
def q218:=K (tu [(s "at" 403),(s "first" 404),(s "last" 405),(s "end" 406),(s "one" 407)])
def q220:=K (F "step_within" "step_within" (st 22))
def q221:=K (C "step_within" 400 "step_within" 401 402 73 3 3 166 true 181 167 (r 168) (r 169) (r 170) 408 73 409)
def q222:=K (G "step_within" "step_within" (st 22) vn "stripfold.opening" 342 171)
def q225:=K (tu [(s "pile" 414),(s "at" 415),(s "steps" 416),(s "opened" 417),(s "parts" 418),(s "first" 419),(s "last" 420),(s "step" 421)])
def q227:=K (F "opening" "opening" (st 23))
def q228:=K (C "opening" 411 "opening" 412 413 81 1 3 173 true 181 174 (r 175) (r 176) (r 177) 422 81 423)
def q229:=K (G "opening" "opening" (st 23) vn "stripfold.opening" 342 178)
def q230:=fun P:Params=>oo (y "dict") (Data.dict #[(en P "__name__" 165 (s "stripfold.bench" 425)),(en P "__doc__" 166 vn),(en P "__package__" 167 vn),(en P "__loader__" 168 (b "__main__.__loader__#opaque")),(en P "__spec__" 169 vn),(en P "__annotations__" 170 (r 6)),(en P "__builtins__" 171 (r 4)),(en P "__file__" 173 (s "/claim/cut.py" 172)),(en P "__cached__" 174 vn),(en P "StripError" 206 (r 24)),(en P "NoPile" 222 (r 37)),(en P "NoCrease" 238 (r 49)),(en P "Stuck" 254 (r 61)),(en P "Crossing" 281 (r 80)),(en P "check_pile" 290 (r 89)),(en P "places" 300 (r 96)),(en P "wraps" 313 (r 103)),(en P "cross" 322 (r 110)),(en P "crossing" 333 (r 117)),(en P "foldable_places" 341 (r 124)),(en P "check_creases" 352 (r 131)),(en P "ends_of_parts" 358 (r 136)),(en P "creases_like" 364 (r 141)),(en P "wrapped_within" 370 (r 146)),(en P "inner_parts_odd" 376 (r 151)),(en P "lies_free" 388 (r 158)),(en P "widest_like" 399 (r 165)),(en P "step_within" 410 (r 172)),(en P "opening" 424 (r 179)),(en P "Bench" 497 (r 230))] 30)
def q231:=K (oo vn (D #[(j 2),(j 0),(r 20),(j 4),(j 0),(r 33),(j 6),(j 0),(r 45),(j 8),(j 0),(r 57),(j 10),(j 0),(r 69),(j 17),(j 0),(r 88),(j 20),(j 0),(r 95),(j 27),(j 0),(r 102),(j 31),(j 0),(r 109),(j 33),(j 0),(r 116),(j 41),(j 0),(r 123),(j 47),(j 0),(r 130),(j 53),(j 0),(r 135),(j 57),(j 0),(r 140),(j 59),(j 0),(r 145),(j 61),(j 0),(r 150),(j 63),(j 0),(r 157),(j 71),(j 0),(r 164),(j 73),(j 0),(r 171),(j 81),(j 0),(r 178),(j 94),(j 0),(r 185)]))
def q234:=fun P:Params=>oo (y "dict") (Data.dict #[(en P "__module__" 434 (s "stripfold.bench" 425)),(en P "__qualname__" 436 (s "Bench" 435)),(en P "__firstlineno__" 438 (i 94 437)),(en P "__init__" 446 (r 193)),(en P "draw" 452 (r 198)),(en P "press" 458 (r 203)),(en P "settle" 467 (r 210)),(en P "loose" 474 (r 217)),(en P "parts" 480 (r 222)),(en P "part_between" 486 (r 227)),(en P "__static_attributes__" 490 (r 228))] 11)
def q236:=K (oo vn (D #[(j 96),(j 4),(r 192),(j 101),(j 4),(r 197),(j 107),(j 4),(r 202),(j 113),(j 4),(r 209),(j 119),(j 4),(r 216),(j 122),(j 4),(r 221),(j 125),(j 4),(r 226)]))
def q237:=K (C "Bench" 429 "Bench" 430 431 94 0 0 183 false 181 184 vn vn vn 432 94 433)
def q238:=K (Obj.mk (y "frame") none Data.plain #[(R 185),(R 3),(R 182),none,(S "stripfold.bench" 425),none,(R 0)])
def q241:=K (tu [(s "self" 442),(s "pile" 443)])
def q243:=K (F "__init__" "Bench.__init__" (sm 25 0))
def q244:=K (C "__init__" 439 "Bench.__init__" 440 441 96 2 3 187 true 181 188 (r 189) (r 190) (r 191) 444 96 445)
def q245:=K (G "__init__" "Bench.__init__" (sm 25 0) vn "stripfold.bench" 425 192)
def q248:=K (F "draw" "Bench.draw" (sm 25 1))
def q249:=K (C "draw" 447 "Bench.draw" 448 449 101 2 3 194 true 181 195 vn vn (r 196) 450 101 451)
def q250:=K (G "draw" "Bench.draw" (sm 25 1) vn "stripfold.bench" 425 197)
def q253:=K (F "press" "Bench.press" (sm 25 2))
def q254:=K (C "press" 453 "Bench.press" 454 455 107 2 3 199 true 181 200 vn vn (r 201) 456 107 457)
def q255:=K (G "press" "Bench.press" (sm 25 2) vn "stripfold.bench" 425 202)
def q258:=K (tu [(s "self" 462),(s "creases" 463),(s "rising" 464)])
def q260:=K (F "settle" "Bench.settle" (sm 25 3))
def q261:=K (C "settle" 459 "Bench.settle" 460 461 113 2 3 204 true 181 205 (r 206) (r 207) (r 208) 465 113 466)
def q262:=K (G "settle" "Bench.settle" (sm 25 3) vn "stripfold.bench" 425 209)
def q265:=K (tu [(s "self" 471)])
def q267:=K (F "loose" "Bench.loose" (sm 25 4))
def q268:=K (C "loose" 468 "Bench.loose" 469 470 119 1 3 211 true 181 212 (r 213) (r 214) (r 215) 472 119 473)
def q269:=K (G "loose" "Bench.loose" (sm 25 4) vn "stripfold.bench" 425 216)
def q272:=K (F "parts" "Bench.parts" (sm 25 5))
def q273:=K (C "parts" 475 "Bench.parts" 476 477 122 1 3 218 true 181 219 vn vn (r 220) 478 122 479)
def q274:=K (G "parts" "Bench.parts" (sm 25 5) vn "stripfold.bench" 425 221)
def q277:=K (F "part_between" "Bench.part_between" (sm 25 6))
def q278:=K (C "part_between" 481 "Bench.part_between" 482 483 125 3 3 223 true 181 224 vn vn (r 225) 484 125 485)
def q279:=K (G "part_between" "Bench.part_between" (sm 25 6) vn "stripfold.bench" 425 226)
def q280:=K (tu [(s "at" 487),(s "opened" 488),(s "pile" 489)])
def q281:=fun P:Params=>oo (y "dict") (Data.dict #[(en P "__module__" 434 (s "stripfold.bench" 425)),(en P "__firstlineno__" 438 (i 94 437)),(en P "__init__" 446 (r 193)),(en P "draw" 452 (r 198)),(en P "press" 458 (r 203)),(en P "settle" 467 (r 210)),(en P "loose" 474 (r 217)),(en P "parts" 480 (r 222)),(en P "part_between" 486 (r 227)),(en P "__static_attributes__" 490 (r 228)),(en P "__dict__" 492 (r 231)),(en P "__weakref__" 494 (r 232)),(en P "__doc__" 495 vn)] 4)
def q282:=K (Obj.mk (y "type") none (Data.cls (ClassData.mk "Bench" [(y "object")] [(r 230),(y "object")] 229 "Bench" true [] [] false none false)) #[none,none,(S "Bench" 427),(S "Bench" 435),(some (b "object.__new__")),(some vt)])
def q283:=K (oo (y "getset_descriptor") (D #[(s "__dict__" 491),(r 230),(b "function.__dict__"),(b "function.__dict__#set")]))
def q284:=K (oo (y "getset_descriptor") (D #[(s "__weakref__" 493),(r 230),(b "ExceptionGroup.__weakref__"),vn]))
def q285:=K (oo (y "super") (D #[(r 230),(r 230),(r 230)]))
def q286:=K (oo (y "builtin_function_or_method") (D #[(b "object.__init_subclass__"),(r 230)]))
def q287:=fun P:Params=>oo (y "dict") (Data.dict #[(en P "__name__" 165 (s "law_stripfold_k07_whole_drawn_apart" 498)),(en P "__doc__" 166 vn),(en P "__package__" 167 vn),(en P "__loader__" 168 (b "__main__.__loader__#opaque")),(en P "__spec__" 169 vn),(en P "__annotations__" 170 (r 6)),(en P "__builtins__" 171 (r 4)),(en P "__file__" 173 (s "/claim/cut.py" 172)),(en P "__cached__" 174 vn),(en P "StripError" 206 (r 24)),(en P "NoPile" 222 (r 37)),(en P "NoCrease" 238 (r 49)),(en P "Stuck" 254 (r 61)),(en P "Crossing" 281 (r 80)),(en P "check_pile" 290 (r 89)),(en P "places" 300 (r 96)),(en P "wraps" 313 (r 103)),(en P "cross" 322 (r 110)),(en P "crossing" 333 (r 117)),(en P "foldable_places" 341 (r 124)),(en P "check_creases" 352 (r 131)),(en P "ends_of_parts" 358 (r 136)),(en P "creases_like" 364 (r 141)),(en P "wrapped_within" 370 (r 146)),(en P "inner_parts_odd" 376 (r 151)),(en P "lies_free" 388 (r 158)),(en P "widest_like" 399 (r 165)),(en P "step_within" 410 (r 172)),(en P "opening" 424 (r 179)),(en P "Bench" 497 (r 230)),(en P "_law_drawn" 507 (r 241)),(en P "_law_number" 516 (r 248)),(en P "_law_counts" 523 (r 255)),(en P "_law_size" 530 (r 262)),(en P "_law_places" 539 (r 269)),(en P "_law_fits" 551 (r 276)),(en P "_law_good" 565 (r 283)),(en P "_law_wraps" 576 (r 290)),(en P "_law_held" 588 (r 297)),(en P "_law_free" 599 (r 304)),(en P "_law_step" 609 (r 311)),(en P "_law_row" 618 (r 318))] 42)
def q288:=K (oo vn (D #[(j 2),(j 0),(r 20),(j 4),(j 0),(r 33),(j 6),(j 0),(r 45),(j 8),(j 0),(r 57),(j 10),(j 0),(r 69),(j 17),(j 0),(r 88),(j 20),(j 0),(r 95),(j 27),(j 0),(r 102),(j 31),(j 0),(r 109),(j 33),(j 0),(r 116),(j 41),(j 0),(r 123),(j 47),(j 0),(r 130),(j 53),(j 0),(r 135),(j 57),(j 0),(r 140),(j 59),(j 0),(r 145),(j 61),(j 0),(r 150),(j 63),(j 0),(r 157),(j 71),(j 0),(r 164),(j 73),(j 0),(r 171),(j 81),(j 0),(r 178),(j 94),(j 0),(r 185),(j 128),(j 0),(r 240),(j 130),(j 0),(r 247),(j 137),(j 0),(r 254),(j 139),(j 0),(r 261),(j 141),(j 0),(r 268),(j 146),(j 0),(r 275),(j 153),(j 0),(r 282),(j 163),(j 0),(r 289),(j 167),(j 0),(r 296),(j 172),(j 0),(r 303),(j 184),(j 0),(r 310),(j 191),(j 0),(r 317)]))
def q291:=K (tu [(s "_law_script" 503),(s "_law_k" 504)])
def q293:=K (F "_law_drawn" "_law_drawn" (st 27))
def q294:=K (C "_law_drawn" 500 "_law_drawn" 501 502 128 2 3 235 true 181 236 (r 237) (r 238) (r 239) 505 128 506)
def q295:=K (G "_law_drawn" "_law_drawn" (st 27) vn "law_stripfold_k07_whole_drawn_apart" 498 240)
def q298:=K (tu [(s "_law_script" 511),(s "_law_k" 512),(s "_law_cell" 513)])
def q300:=K (F "_law_number" "_law_number" (st 28))
def q301:=K (C "_law_number" 508 "_law_number" 509 510 130 2 3 242 true 181 243 (r 244) (r 245) (r 246) 514 130 515)
def q302:=K (G "_law_number" "_law_number" (st 28) vn "law_stripfold_k07_whole_drawn_apart" 498 247)
def q305:=K (tu [(s "_law_thing" 520)])
def q307:=K (F "_law_counts" "_law_counts" (st 29))
def q308:=K (C "_law_counts" 517 "_law_counts" 518 519 137 1 3 249 true 181 250 (r 251) (r 252) (r 253) 521 137 522)
def q309:=K (G "_law_counts" "_law_counts" (st 29) vn "law_stripfold_k07_whole_drawn_apart" 498 254)
def q312:=K (tu [(s "_law_cell" 527)])
def q314:=K (F "_law_size" "_law_size" (st 30))
def q315:=K (C "_law_size" 524 "_law_size" 525 526 139 1 3 256 true 181 257 (r 258) (r 259) (r 260) 528 139 529)
def q316:=K (G "_law_size" "_law_size" (st 30) vn "law_stripfold_k07_whole_drawn_apart" 498 261)
def q319:=K (tu [(s "_law_pile" 534),(s "_law_at" 535),(s "_law_k" 536)])
def q321:=K (F "_law_places" "_law_places" (st 31))
def q322:=K (C "_law_places" 531 "_law_places" 532 533 141 1 3 263 true 181 264 (r 265) (r 266) (r 267) 537 141 538)
def q323:=K (G "_law_places" "_law_places" (st 31) vn "law_stripfold_k07_whole_drawn_apart" 498 268)
def q326:=K (tu [(s "_law_at" 543),(s "_law_stamp" 544),(s "_law_gap" 545),(s "_law_crease" 546),(s "_law_low" 547),(s "_law_high" 548)])
def q328:=K (F "_law_fits" "_law_fits" (st 32))
def q329:=K (C "_law_fits" 540 "_law_fits" 541 542 146 3 3 270 true 181 271 (r 272) (r 273) (r 274) 549 146 550)
def q330:=K (G "_law_fits" "_law_fits" (st 32) vn "law_stripfold_k07_whole_drawn_apart" 498 275)
def q333:=K (tu [(s "_law_script" 555),(s "_law_start" 556),(s "_law_size_here" 557),(s "_law_pile" 558),(s "_law_stamp" 559),(s "_law_at" 560),(s "_law_number_here" 561),(s "_law_gap" 562)])
def q335:=K (F "_law_good" "_law_good" (st 33))
def q336:=K (C "_law_good" 552 "_law_good" 553 554 153 3 3 277 true 181 278 (r 279) (r 280) (r 281) 563 153 564)
def q337:=K (G "_law_good" "_law_good" (st 33) vn "law_stripfold_k07_whole_drawn_apart" 498 282)
def q340:=K (tu [(s "_law_at" 569),(s "_law_crease" 570),(s "_law_stamp" 571),(s "_law_low" 572),(s "_law_high" 573)])
def q342:=K (F "_law_wraps" "_law_wraps" (st 34))
def q343:=K (C "_law_wraps" 566 "_law_wraps" 567 568 163 3 3 284 true 181 285 (r 286) (r 287) (r 288) 574 163 575)
def q344:=K (G "_law_wraps" "_law_wraps" (st 34) vn "law_stripfold_k07_whole_drawn_apart" 498 289)
def q347:=K (tu [(s "_law_at" 580),(s "_law_first" 581),(s "_law_last" 582),(s "_law_crease" 583),(s "_law_stamp" 584),(s "_law_other" 585)])
def q349:=K (F "_law_held" "_law_held" (st 35))
def q350:=K (C "_law_held" 577 "_law_held" 578 579 167 5 3 291 true 181 292 (r 293) (r 294) (r 295) 586 167 587)
def q351:=K (G "_law_held" "_law_held" (st 35) vn "law_stripfold_k07_whole_drawn_apart" 498 296)
def q354:=K (tu [(s "_law_at" 592),(s "_law_loose" 593),(s "_law_end" 594),(s "_law_first" 595),(s "_law_last" 596)])
def q356:=K (F "_law_free" "_law_free" (st 36))
def q357:=K (C "_law_free" 589 "_law_free" 590 591 172 2 3 298 true 181 299 (r 300) (r 301) (r 302) 597 172 598)
def q358:=K (G "_law_free" "_law_free" (st 36) vn "law_stripfold_k07_whole_drawn_apart" 498 303)
def q361:=K (tu [(s "_law_step_here" 603),(s "_law_size_here" 604),(s "_law_loose" 605),(s "_law_crease" 606)])
def q363:=K (F "_law_step" "_law_step" (st 37))
def q364:=K (C "_law_step" 600 "_law_step" 601 602 184 3 3 305 true 181 306 (r 307) (r 308) (r 309) 607 184 608)
def q365:=K (G "_law_step" "_law_step" (st 37) vn "law_stripfold_k07_whole_drawn_apart" 498 310)
def q368:=K (tu [(s "_law_found" 613),(s "_law_due" 614),(s "_law_k" 615)])
def q370:=K (F "_law_row" "_law_row" (st 38))
def q371:=K (C "_law_row" 610 "_law_row" 611 612 191 2 3 312 true 181 313 (r 314) (r 315) (r 316) 616 191 617)
def q372:=K (G "_law_row" "_law_row" (st 38) vn "law_stripfold_k07_whole_drawn_apart" 498 317)
def q373:=fun P:Params=>oo (y "dict") (Data.dict #[(en P "__name__" 165 (s "law_stripfold_k07_whole_drawn_apart" 498)),(en P "__doc__" 166 vn),(en P "__package__" 167 vn),(en P "__loader__" 168 (b "__main__.__loader__#opaque")),(en P "__spec__" 169 vn),(en P "__annotations__" 170 (r 6)),(en P "__builtins__" 171 (r 4)),(en P "__file__" 173 (s "/claim/cut.py" 172)),(en P "__cached__" 174 vn),(en P "StripError" 206 (r 24)),(en P "NoPile" 222 (r 37)),(en P "NoCrease" 238 (r 49)),(en P "Stuck" 254 (r 61)),(en P "Crossing" 281 (r 80)),(en P "check_pile" 290 (r 89)),(en P "places" 300 (r 96)),(en P "wraps" 313 (r 103)),(en P "cross" 322 (r 110)),(en P "crossing" 333 (r 117)),(en P "foldable_places" 341 (r 124)),(en P "check_creases" 352 (r 131)),(en P "ends_of_parts" 358 (r 136)),(en P "creases_like" 364 (r 141)),(en P "wrapped_within" 370 (r 146)),(en P "inner_parts_odd" 376 (r 151)),(en P "lies_free" 388 (r 158)),(en P "widest_like" 399 (r 165)),(en P "step_within" 410 (r 172)),(en P "opening" 424 (r 179)),(en P "Bench" 497 (r 230)),(en P "_law_drawn" 507 (r 241)),(en P "_law_number" 516 (r 248)),(en P "_law_counts" 523 (r 255)),(en P "_law_size" 530 (r 262)),(en P "_law_places" 539 (r 269)),(en P "_law_fits" 551 (r 276)),(en P "_law_good" 565 (r 283)),(en P "_law_wraps" 576 (r 290)),(en P "_law_held" 588 (r 297)),(en P "_law_free" 599 (r 304)),(en P "_law_step" 609 (r 311)),(en P "_law_row" 618 (r 318)),(en P "_law_apart" 631 (r 325)),(en P "_law_pressed" 637 (r 330)),(en P "law" 652 (r 337))] 45)
def q374:=K (oo vn (D #[(j 2),(j 0),(r 20),(j 4),(j 0),(r 33),(j 6),(j 0),(r 45),(j 8),(j 0),(r 57),(j 10),(j 0),(r 69),(j 17),(j 0),(r 88),(j 20),(j 0),(r 95),(j 27),(j 0),(r 102),(j 31),(j 0),(r 109),(j 33),(j 0),(r 116),(j 41),(j 0),(r 123),(j 47),(j 0),(r 130),(j 53),(j 0),(r 135),(j 57),(j 0),(r 140),(j 59),(j 0),(r 145),(j 61),(j 0),(r 150),(j 63),(j 0),(r 157),(j 71),(j 0),(r 164),(j 73),(j 0),(r 171),(j 81),(j 0),(r 178),(j 94),(j 0),(r 185),(j 128),(j 0),(r 240),(j 130),(j 0),(r 247),(j 137),(j 0),(r 254),(j 139),(j 0),(r 261),(j 141),(j 0),(r 268),(j 146),(j 0),(r 275),(j 153),(j 0),(r 282),(j 163),(j 0),(r 289),(j 167),(j 0),(r 296),(j 172),(j 0),(r 303),(j 184),(j 0),(r 310),(j 191),(j 0),(r 317),(j 198),(j 0),(r 324),(j 216),(j 0),(r 329),(j 224),(j 0),(r 336)]))
def q377:=K (tu [(s "_law_bench" 622),(s "_law_at" 623),(s "_law_steps" 624),(s "_law_loose" 625),(s "_law_step_here" 626),(s "_law_parts" 627),(s "_law_k" 628)])
def q379:=K (F "_law_apart" "_law_apart" (st 39))
def q380:=K (C "_law_apart" 619 "_law_apart" 620 621 198 3 3 319 true 181 320 (r 321) (r 322) (r 323) 629 198 630)
def q381:=K (G "_law_apart" "_law_apart" (st 39) vn "law_stripfold_k07_whole_drawn_apart" 498 324)
def q384:=K (F "_law_pressed" "_law_pressed" (st 40))
def q385:=K (C "_law_pressed" 632 "_law_pressed" 633 634 216 3 3 326 true 181 327 vn vn (r 328) 635 216 636)
def q386:=K (G "_law_pressed" "_law_pressed" (st 40) vn "law_stripfold_k07_whole_drawn_apart" 498 329)
def q389:=K (tu [(s "_law_script" 641),(s "_law_size_here" 642),(s "_law_pile" 643),(s "_law_many" 644),(s "_law_at" 645),(s "_law_handed" 646),(s "_law_steps" 647),(s "_law_bench" 648),(s "_law_parts" 649)])
def q391:=K (F "law" "law" (st 41))
def q392:=K (C "law" 638 "law" 639 640 224 1 3 331 true 181 332 (r 333) (r 334) (r 335) 650 224 651)
def q393:=K (G "law" "law" (st 41) vn "law_stripfold_k07_whole_drawn_apart" 498 336)
lay_quick q43 q45 q46 q49 q51 q52 q53 q56 q57 q59 q60 q61 q62 q63 q64 q66 q67 q69 q72 q73 q75 q76 q77 q78 q79 q81 q84 q87 q88 q90 q91 q92 q93 q94 q96 q99 q102 q103 q105 q106 q107 q108 q109 q111 q114 q117 q118 q121 q123 q124 q125 q126 q127 q128 q129 q130 q133 q135 q136 q137 q140 q142 q143 q144 q147 q149 q150 q151 q154 q156 q157 q158 q159 q163 q165 q166 q167 q170 q172 q173 q174 q177 q179 q180 q181 q184 q185 q186 q189 q190 q191 q194 q195 q196 q199 q200 q201 q204 q206 q207 q208 q211 q212 q213 q214 q215 q218 q220 q221 q222 q225 q227 q228 q229 q230 q234 q237 q238 q241 q243 q244 q245 q248 q249 q250 q253 q254 q255 q258 q260 q261 q262 q265 q267 q268 q269 q272 q273 q274 q277 q278 q279 q280 q281 q282 q283 q284 q285 q286 q287 q291 q293 q294 q295 q298 q300 q301 q302 q305 q307 q308 q309 q312 q314 q315 q316 q319 q321 q322 q323 q326 q328 q329 q330 q333 q335 q336 q337 q340 q342 q343 q344 q347 q349 q350 q351 q354 q356 q357 q358 q361 q363 q364 q365 q368 q370 q371 q372 q373 q377 q379 q380 q381 q384 q385 q386 q389 q391 q392 q393
def rh {α : Type} {a b : α} (_ : a = b) : α := b
theorem m {f g : Params → Obj} {l m : Params → List Obj} (h : ∀ P, f P = g P) (k : ∀ P, l P = m P) : ∀ P, f P :: l P = g P :: m P := fun P => by rw [h, k]
theorem w : ∀ _ : Params, ([] : List Obj) = [] := fun _ => rfl
theorem n {f g : Params → Obj} {l m r s : Params → BT} (h : ∀ P, f P = g P) (k : ∀ P, l P = m P) (j : ∀ P, r P = s P) : ∀ P, BT.node (f P) (l P) (r P) = BT.node (g P) (m P) (s P) := fun P => by rw [h, k, j]
theorem z : ∀ _ : Params, BT.nil = BT.nil := fun _ => rfl
theorem cf {f g : Params → Obj} (h : f = g) (P : Params) : f P = g P := by rw [h]
theorem nt (f : Params → Obj) (P : Params) : f P = f P := rfl
theorem hp {l m : Params → List Obj} (h : ∀ P, l P = m P) : (fun P => (⟨⟨l P⟩, (Life.mk [] [] [] 0 [] [] false #[] [] 0 false false false 0 [2000,10,10] false 0 true [] [] 0 false)⟩ : Heap)) = fun P => ⟨⟨m P⟩, (Life.mk [] [] [] 0 [] [] false #[] [] 0 false false false 0 [2000,10,10] false 0 true [] [] 0 false)⟩ := funext fun P => by rw [h]
def a0:=nt boot_o_0
def a1:=nt boot_o_1
def a2:=nt boot_o_2
def a3:=nt boot_o_3
def a4:=nt boot_o_4
def a5:=nt boot_o_5
def a6:=nt boot_o_6
def a7:=nt boot_o_7
def a8:=nt boot_o_8
def a9:=nt boot_o_9
def a10:=nt boot_o_10
def c43:=cf te884463465135415981
def c44:=nt q44
def c45:=cf te13889448576825750436
def c46:=cf te12533817398336138642
def c49:=cf te16279627670941099
def c50:=nt q50
def c51:=cf te4297019359811580518
def c52:=cf te16844969945156303824
def c53:=cf te4802334992162975308
def c56:=cf te14289334829765485849
def c57:=cf te7256263984274327189
def c59:=cf te2753129375794474508
def c60:=cf te13050808220722085565
def c61:=cf te6532128691203176238
def c62:=cf te17352715535294179840
def c63:=cf te6668820910017403409
def c64:=cf te10348655838005251911
def c65:=nt q65
def c66:=cf te2375937244994292034
def c67:=cf te17988935461955160295
def c69:=cf te13161629928981116537
def c72:=cf te15501206670482001998
def c73:=cf te11042884158472414240
def c75:=cf te10938861146790673202
def c76:=cf te14561465598332853518
def c77:=cf te16383302505593775965
def c78:=cf te17076170213902006987
def c79:=cf te557757464067557405
def c80:=nt q80
def c81:=cf te5455144829690826997
def c84:=cf te5006788459804746827
def c87:=cf te12116057069681979322
def c88:=cf te16504209368958856218
def c90:=cf te6445182272017302853
def c91:=cf te3086644993056486840
def c92:=cf te5516631169818262955
def c93:=cf te6148368441850853822
def c94:=cf te89264823975923259
def c95:=nt q95
def c96:=cf te4719992888276855231
def c99:=cf te16322324896641839542
def c102:=cf te15469517520523732924
def c103:=cf te8557487762758881313
def c105:=cf te867525791996690442
def c106:=cf te6876089748002398681
def c107:=cf te8180308965357553462
def c108:=cf te4816854744296236868
def c109:=cf te16468885187641083371
def c110:=nt q110
def c111:=cf te15726727799723306113
def c114:=cf te9990311817161383838
def c116:=nt q116
def c117:=cf te7952191974233954829
def c118:=cf te17200464992696206393
def c121:=cf te7944906550858281225
def c123:=cf te17049568869895294810
def c124:=cf te11458553286115429454
def c125:=cf te6132069593067267442
def c126:=cf te3765700043008552365
def c127:=cf te1511861044665214818
def c128:=cf te6381973497679745362
def c129:=cf te8580412910636205039
def c130:=cf te16165226207152376102
def c133:=cf te5528015336205979717
def c135:=cf te14602985023562998208
def c136:=cf te9009849156974646758
def c137:=cf te2560522633010526231
def c140:=cf te3191710918679290521
def c142:=cf te6186336085682905449
def c143:=cf te17105478978129287953
def c144:=cf te14567402196872240669
def c147:=cf te8342817737060035115
def c149:=cf te10637008693925956560
def c150:=cf te9100753861335082662
def c151:=cf te3285176088630311191
def c154:=cf te13231156790583422697
def c156:=cf te6110967550103944892
def c157:=cf te16414983066438607585
def c158:=cf te1907404263592796263
def c159:=cf te188857792401649437
def c160:=nt q160
def c163:=cf te1426888061352879067
def c165:=cf te9227436569510965670
def c166:=cf te7099783033371393298
def c167:=cf te13384033376921556844
def c170:=cf te2056775939474520990
def c172:=cf te13737227648699636184
def c173:=cf te9698326925945776014
def c174:=cf te2850056106553647998
def c177:=cf te3953332380899834877
def c179:=cf te300536605345428999
def c180:=cf te2776000820745139184
def c181:=cf te12815452770860908140
def c184:=cf te14539139010340545562
def c185:=cf te5527057815357244103
def c186:=cf te17258594932580874607
def c189:=cf te10066175898862140133
def c190:=cf te331611818257093432
def c191:=cf te16716719286346293394
def c194:=cf te7402597537725187143
def c195:=cf te1779170601781167486
def c196:=cf te2803292273962042601
def c199:=cf te2469644411044663213
def c200:=cf te7188404256376251567
def c201:=cf te6816334697508133557
def c204:=cf te9952674999771376108
def c206:=cf te1289518577121191001
def c207:=cf te15150486162329448140
def c208:=cf te11944892734740091240
def c211:=cf te11084935842489568516
def c212:=cf te10925912373772375344
def c213:=cf te18302749432154401247
def c214:=cf te1893038645644406520
def c215:=cf te9143702668017743438
def c218:=cf te13951507642076095378
def c220:=cf te16197044549519110212
def c221:=cf te5344651802939824766
def c222:=cf te4864138060254126494
def c225:=cf te2550275731651291422
def c227:=cf te15875135063794586639
def c228:=cf te3691146251225521428
def c229:=cf te9804618050714092675
def c230:=cf te6898504737866224556
def c231:=nt q231
def c234:=cf te1035715784683155993
def c236:=nt q236
def c237:=cf te2356639241678774876
def c238:=cf te618337919436386983
def c241:=cf te4522178128118085982
def c243:=cf te12540420139296931971
def c244:=cf te10382379189674522793
def c245:=cf te7326176227682047557
def c248:=cf te6403023966621917001
def c249:=cf te915444698750605389
def c250:=cf te7108010164467815216
def c253:=cf te5432926585475506069
def c254:=cf te15972882419367631354
def c255:=cf te2978043831408430548
def c258:=cf te8309981062628410873
def c260:=cf te17108482113312108457
def c261:=cf te5541453115588798187
def c262:=cf te1856982216177908662
def c265:=cf te6588786061930625135
def c267:=cf te16570230819363262865
def c268:=cf te14311289926056901515
def c269:=cf te2522358485647057321
def c272:=cf te2145037787206000212
def c273:=cf te10660662357015325814
def c274:=cf te11169106721081831751
def c277:=cf te2075714394704432748
def c278:=cf te12851020563786618389
def c279:=cf te2651824996201397648
def c280:=cf te799419016859565065
def c281:=cf te11958883465553546976
def c282:=cf te8571216182353817503
def c283:=cf te13946918983905945416
def c284:=cf te9175677528902049523
def c285:=cf te16923617431910551360
def c286:=cf te1909424112481810708
def c287:=cf te8505689701948361730
def c288:=nt q288
def c291:=cf te4805885554869265664
def c293:=cf te13931395393704882967
def c294:=cf te9254707121784753907
def c295:=cf te10875473912043287186
def c298:=cf te14628755995658998400
def c300:=cf te3725203548457552068
def c301:=cf te7876547804723278644
def c302:=cf te15719841521025061640
def c305:=cf te15672359239785704342
def c307:=cf te13099229515124803254
def c308:=cf te3042282534159212890
def c309:=cf te3745424342144281793
def c312:=cf te5983219712244337949
def c314:=cf te11963749924677405888
def c315:=cf te16418107261305253316
def c316:=cf te7897186468155703008
def c319:=cf te11702834867384167531
def c321:=cf te2120768049054789183
def c322:=cf te16979907275946402036
def c323:=cf te4309367098482258962
def c326:=cf te5828196377856005309
def c328:=cf te4993149196915890410
def c329:=cf te4245719456962132969
def c330:=cf te11923364398487559473
def c333:=cf te12009241759722224686
def c335:=cf te7637571256138981099
def c336:=cf te14579669018280487580
def c337:=cf te4229777132484151940
def c340:=cf te1333880055687728422
def c342:=cf te14441488874898847421
def c343:=cf te4538971195933363050
def c344:=cf te1429178100873906855
def c347:=cf te3156544318979863223
def c349:=cf te14510837364944608520
def c350:=cf te1698987028111786765
def c351:=cf te16795145446000564976
def c354:=cf te11829453387300056655
def c356:=cf te9852834894749623162
def c357:=cf te1452837284230297897
def c358:=cf te15776917880792329455
def c361:=cf te6307213021780810704
def c363:=cf te11706016898023016790
def c364:=cf te3550822027299993922
def c365:=cf te13914697180632967988
def c368:=cf te15331017456799179516
def c370:=cf te6865473299764378705
def c371:=cf te6800268168372678727
def c372:=cf te1377492770039171361
def c373:=cf te8646240723522265994
def c374:=nt q374
def c377:=cf te12810614948735356344
def c379:=cf te12982900475190818938
def c380:=cf te5578433074471047533
def c381:=cf te3011817531186489068
def c384:=cf te3918993504606103468
def c385:=cf te15642048496683112712
def c386:=cf te7538660620176255100
def c389:=cf te789197796286188471
def c391:=cf te13084270158988067094
def c392:=cf te4642528535902700481
def c393:=cf te5543939669472915754
def _root_.PySem.W.Fast.te10551232765104794508:=hp (m a0 (m a1 (m a2 (m a3 (m a4 (m a5 (m a6 (m a7 (m a8 (m a9 (m a10 (m c43 (m c44 (m c45 (m c46 (w))))))))))))))))
def _root_.PySem.W.Fast.tw10551232765104794508:=rh te10551232765104794508
def _root_.PySem.W.Fast.te9776064244432135134:=funext (n a0 (n a1 (n a3 (n a7 z z) (n c43 z z)) (n a5 (n a9 z z) (n c45 z z))) (n a2 (n a4 (n a8 z z) (n c44 z z)) (n a6 (n a10 z z) (n c46 z z))))
def _root_.PySem.W.Fast.tw9776064244432135134:=rh te9776064244432135134
def _root_.PySem.W.Fast.te18421048446363836115:=funext (n a0 (n a1 (n c49 (n a7 (n c51 z z) (n c59 z z)) (n c43 (n c44 z z) (n c63 z z))) (n a5 (n a9 (n c53 z z) (n c61 z z)) (n c45 (n c57 z z) z))) (n a2 (n a4 (n a8 (n c52 z z) (n c60 z z)) (n c50 (n c56 z z) z)) (n a6 (n a10 (n c43 z z) (n c62 z z)) (n c46 (n c43 z z) z))))
def _root_.PySem.W.Fast.tw18421048446363836115:=rh te18421048446363836115
def _root_.PySem.W.Fast.te11736363479677122773:=funext (n a0 (n a1 (n c64 (n a7 (n c51 (n c43 z z) z) (n c59 (n c78 z z) z)) (n c43 (n c44 (n c43 z z) z) (n c63 z z))) (n a5 (n a9 (n c53 (n c72 z z) z) (n c61 z z)) (n c45 (n c57 (n c76 z z) z) (n c52 z z)))) (n a2 (n a4 (n a8 (n c52 (n c44 z z) z) (n c66 z z)) (n c65 (n c56 (n c75 z z) z) (n c67 z z))) (n a6 (n a10 (n c43 (n c73 z z) z) (n c62 z z)) (n c46 (n c43 (n c77 z z) z) (n c69 z z)))))
def _root_.PySem.W.Fast.tw11736363479677122773:=rh te11736363479677122773
def _root_.PySem.W.Fast.te16401329729828471599:=funext (n a0 (n a1 (n c79 (n a7 (n c51 (n c43 z z) (n c43 z z)) (n c59 (n c78 z z) z)) (n c43 (n c44 (n c43 z z) (n c93 z z)) (n c63 (n c43 z z) z))) (n a5 (n a9 (n c53 (n c72 z z) (n c91 z z)) (n c61 (n c52 z z) z)) (n c45 (n c57 (n c76 z z) z) (n c52 (n c87 z z) z)))) (n a2 (n a4 (n a8 (n c52 (n c44 z z) (n c90 z z)) (n c81 (n c67 z z) z)) (n c80 (n c56 (n c75 z z) z) (n c67 (n c44 z z) z))) (n a6 (n a10 (n c43 (n c73 z z) (n c92 z z)) (n c62 (n c84 z z) z)) (n c46 (n c43 (n c77 z z) z) (n c69 (n c88 z z) z)))))
def _root_.PySem.W.Fast.tw16401329729828471599:=rh te16401329729828471599
def _root_.PySem.W.Fast.te2141818931670334668:=funext (n a0 (n a1 (n c94 (n a7 (n c51 (n c43 (n c108 z z) z) (n c43 z z)) (n c59 (n c78 z z) (n c43 z z))) (n c43 (n c44 (n c43 z z) (n c93 z z)) (n c63 (n c43 z z) (n c43 z z)))) (n a5 (n a9 (n c53 (n c72 z z) (n c91 z z)) (n c61 (n c52 z z) (n c102 z z))) (n c45 (n c57 (n c76 z z) (n c52 z z)) (n c52 (n c87 z z) (n c106 z z))))) (n a2 (n a4 (n a8 (n c52 (n c44 z z) (n c90 z z)) (n c96 (n c67 z z) (n c44 z z))) (n c95 (n c56 (n c75 z z) (n c67 z z)) (n c67 (n c44 z z) (n c105 z z)))) (n a6 (n a10 (n c43 (n c73 z z) (n c92 z z)) (n c62 (n c84 z z) (n c103 z z))) (n c46 (n c43 (n c77 z z) (n c99 z z)) (n c69 (n c88 z z) (n c107 z z))))))
def _root_.PySem.W.Fast.tw2141818931670334668:=rh te2141818931670334668
def _root_.PySem.W.Fast.te12087374104089978504:=funext (n a0 (n a1 (n c109 (n a7 (n c51 (n c43 (n c108 z z) (n c143 z z)) (n c43 (n c127 z z) z)) (n c59 (n c78 (n c43 z z) (n c151 z z)) (n c43 (n c135 z z) z))) (n c43 (n c44 (n c43 (n c43 z z) (n c147 z z)) (n c93 (n c43 z z) z)) (n c63 (n c43 (n c123 z z) (n c43 z z)) (n c43 (n c44 z z) z)))) (n a5 (n a9 (n c53 (n c72 (n c52 z z) (n c43 z z)) (n c91 (n c129 z z) z)) (n c61 (n c52 (n c121 z z) (n c44 z z)) (n c102 (n c137 z z) z))) (n c45 (n c57 (n c76 (n c117 z z) (n c149 z z)) (n c52 (n c133 z z) z)) (n c52 (n c87 (n c125 z z) (n c157 z z)) (n c106 (n c43 z z) z))))) (n a2 (n a4 (n a8 (n c52 (n c44 (n c67 z z) (n c144 z z)) (n c90 (n c128 z z) z)) (n c111 (n c67 (n c44 z z) (n c43 z z)) (n c44 (n c136 z z) z))) (n c110 (n c56 (n c75 (n c116 z z) (n c43 z z)) (n c67 (n c44 z z) z)) (n c67 (n c44 (n c124 z z) (n c156 z z)) (n c105 (n c140 z z) z)))) (n a6 (n a10 (n c43 (n c73 (n c114 z z) (n c44 z z)) (n c92 (n c130 z z) z)) (n c62 (n c84 (n c43 z z) (n c154 z z)) (n c103 (n c43 z z) z))) (n c46 (n c43 (n c77 (n c118 z z) (n c150 z z)) (n c99 (n c43 z z) z)) (n c69 (n c88 (n c126 z z) (n c158 z z)) (n c107 (n c142 z z) z))))))
def _root_.PySem.W.Fast.tw12087374104089978504:=rh te12087374104089978504
def _root_.PySem.W.Fast.te14523350466703920109:=funext (n a0 (n a1 (n c159 (n a7 (n c51 (n c43 (n c108 (n c177 z z) z) (n c143 (n c43 z z) z)) (n c43 (n c127 (n c44 z z) z) (n c43 (n c225 z z) z))) (n c59 (n c78 (n c43 (n c185 z z) z) (n c151 (n c44 z z) z)) (n c43 (n c135 (n c201 z z) z) (n c44 z z)))) (n c43 (n c44 (n c43 (n c43 (n c181 z z) z) (n c147 (n c213 z z) z)) (n c93 (n c43 (n c43 z z) z) (n c165 (n c229 z z) z))) (n c63 (n c43 (n c123 (n c189 z z) z) (n c43 (n c221 z z) z)) (n c43 (n c44 (n c43 z z) z) (n c173 z z))))) (n a5 (n a9 (n c53 (n c72 (n c52 (n c179 z z) z) (n c43 (n c211 z z) z)) (n c91 (n c129 (n c195 z z) z) (n c163 (n c227 z z) z))) (n c61 (n c52 (n c121 (n c43 z z) z) (n c44 (n c43 z z) z)) (n c102 (n c137 (n c44 z z) z) (n c43 z z)))) (n c45 (n c57 (n c76 (n c117 (n c44 z z) z) (n c149 (n c215 z z) z)) (n c52 (n c133 (n c199 z z) z) (n c167 z z))) (n c52 (n c87 (n c125 (n c191 z z) z) (n c157 (n c43 z z) z)) (n c106 (n c43 (n c207 z z) z) (n c43 z z)))))) (n a2 (n a4 (n a8 (n c52 (n c44 (n c67 (n c43 z z) z) (n c144 (n c44 z z) z)) (n c90 (n c128 (n c194 z z) z) (n c44 (n c43 z z) z))) (n c111 (n c67 (n c44 (n c186 z z) z) (n c43 (n c218 z z) z)) (n c44 (n c136 (n c43 z z) z) (n c170 z z)))) (n c160 (n c56 (n c75 (n c116 (n c43 z z) z) (n c43 (n c214 z z) z)) (n c67 (n c44 (n c44 z z) z) (n c166 z z))) (n c67 (n c44 (n c124 (n c190 z z) z) (n c156 (n c222 z z) z)) (n c105 (n c140 (n c206 z z) z) (n c174 z z))))) (n a6 (n a10 (n c43 (n c73 (n c114 (n c180 z z) z) (n c44 (n c212 z z) z)) (n c92 (n c130 (n c196 z z) z) (n c43 (n c228 z z) z))) (n c62 (n c84 (n c43 (n c44 z z) z) (n c154 (n c220 z z) z)) (n c103 (n c43 (n c204 z z) z) (n c172 z z)))) (n c46 (n c43 (n c77 (n c118 (n c184 z z) z) (n c150 (n c43 z z) z)) (n c99 (n c43 (n c200 z z) z) (n c43 z z))) (n c69 (n c88 (n c126 (n c43 z z) z) (n c158 (n c44 z z) z)) (n c107 (n c142 (n c208 z z) z) (n c44 z z)))))))
def _root_.PySem.W.Fast.tw14523350466703920109:=rh te14523350466703920109
def _root_.PySem.W.Fast.te1155162843906006429:=funext (n a0 (n a1 (n c230 (n a7 (n c51 (n c43 (n c108 (n c177 z z) (n c243 z z)) (n c143 (n c43 z z) (n c43 z z))) (n c43 (n c127 (n c44 z z) (n c43 z z)) (n c43 (n c225 z z) z))) (n c59 (n c78 (n c43 (n c185 z z) (n c43 z z)) (n c151 (n c44 z z) (n c283 z z))) (n c43 (n c135 (n c201 z z) (n c267 z z)) (n c44 (n c43 z z) z)))) (n c43 (n c44 (n c43 (n c43 (n c181 z z) (n c44 z z)) (n c147 (n c213 z z) (n c279 z z))) (n c93 (n c43 (n c43 z z) (n c43 z z)) (n c165 (n c229 z z) z))) (n c63 (n c43 (n c123 (n c189 z z) (n c255 z z)) (n c43 (n c221 z z) z)) (n c43 (n c44 (n c43 z z) (n c44 z z)) (n c173 (n c43 z z) z))))) (n a5 (n a9 (n c53 (n c72 (n c52 (n c179 z z) (n c245 z z)) (n c43 (n c211 z z) (n c277 z z))) (n c91 (n c129 (n c195 z z) (n c261 z z)) (n c163 (n c227 z z) z))) (n c61 (n c52 (n c121 (n c43 z z) (n c253 z z)) (n c44 (n c43 z z) (n c285 z z))) (n c102 (n c137 (n c44 z z) (n c269 z z)) (n c43 (n c237 z z) z)))) (n c45 (n c57 (n c76 (n c117 (n c44 z z) (n c249 z z)) (n c149 (n c215 z z) (n c281 z z))) (n c52 (n c133 (n c199 z z) (n c265 z z)) (n c167 (n c52 z z) z))) (n c52 (n c87 (n c125 (n c191 z z) (n c44 z z)) (n c157 (n c43 z z) z)) (n c106 (n c43 (n c207 z z) (n c273 z z)) (n c43 (n c241 z z) z)))))) (n a2 (n a4 (n a8 (n c52 (n c44 (n c67 (n c43 z z) (n c244 z z)) (n c144 (n c44 z z) (n c44 z z))) (n c90 (n c128 (n c194 z z) (n c260 z z)) (n c44 (n c43 z z) z))) (n c111 (n c67 (n c44 (n c186 z z) (n c44 z z)) (n c43 (n c218 z z) (n c284 z z))) (n c44 (n c136 (n c43 z z) (n c268 z z)) (n c170 (n c236 z z) z)))) (n c231 (n c56 (n c75 (n c116 (n c43 z z) (n c248 z z)) (n c43 (n c214 z z) (n c280 z z))) (n c67 (n c44 (n c44 z z) (n c44 z z)) (n c166 (n c43 z z) z))) (n c67 (n c44 (n c124 (n c190 z z) (n c43 z z)) (n c156 (n c222 z z) z)) (n c105 (n c140 (n c206 z z) (n c272 z z)) (n c174 (n c44 z z) z))))) (n a6 (n a10 (n c43 (n c73 (n c114 (n c180 z z) (n c43 z z)) (n c44 (n c212 z z) (n c278 z z))) (n c92 (n c130 (n c196 z z) (n c262 z z)) (n c43 (n c228 z z) z))) (n c62 (n c84 (n c43 (n c44 z z) (n c254 z z)) (n c154 (n c220 z z) (n c286 z z))) (n c103 (n c43 (n c204 z z) (n c43 z z)) (n c172 (n c238 z z) z)))) (n c46 (n c43 (n c77 (n c118 (n c184 z z) (n c250 z z)) (n c150 (n c43 z z) (n c282 z z))) (n c99 (n c43 (n c200 z z) (n c43 z z)) (n c43 (n c234 z z) z))) (n c69 (n c88 (n c126 (n c43 z z) (n c258 z z)) (n c158 (n c44 z z) z)) (n c107 (n c142 (n c208 z z) (n c274 z z)) (n c44 (n c43 z z) z)))))))
def _root_.PySem.W.Fast.tw1155162843906006429:=rh te1155162843906006429
def _root_.PySem.W.Fast.te6341479466405263364:=funext (n a0 (n a1 (n c287 (n a7 (n c51 (n c43 (n c108 (n c177 (n c309 z z) z) (n c243 z z)) (n c143 (n c43 (n c43 z z) z) (n c43 z z))) (n c43 (n c127 (n c44 (n c44 z z) z) (n c43 z z)) (n c43 (n c225 (n c357 z z) z) (n c293 z z)))) (n c59 (n c78 (n c43 (n c185 (n c43 z z) z) (n c43 z z)) (n c151 (n c44 (n c349 z z) z) (n c283 z z))) (n c43 (n c135 (n c201 (n c333 z z) z) (n c267 z z)) (n c44 (n c43 (n c365 z z) z) (n c301 z z))))) (n c43 (n c44 (n c43 (n c43 (n c181 (n c43 z z) z) (n c44 z z)) (n c147 (n c213 (n c43 z z) z) (n c279 z z))) (n c93 (n c43 (n c43 (n c329 z z) z) (n c43 z z)) (n c165 (n c229 (n c361 z z) z) (n c44 z z)))) (n c63 (n c43 (n c123 (n c189 (n c321 z z) z) (n c255 z z)) (n c43 (n c221 (n c44 z z) z) (n c43 z z))) (n c43 (n c44 (n c43 (n c337 z z) z) (n c44 z z)) (n c173 (n c43 (n c43 z z) z) (n c305 z z)))))) (n a5 (n a9 (n c53 (n c72 (n c52 (n c179 (n c44 z z) z) (n c245 z z)) (n c43 (n c211 (n c343 z z) z) (n c277 z z))) (n c91 (n c129 (n c195 (n c43 z z) z) (n c261 z z)) (n c163 (n c227 (n c43 z z) z) (n c295 z z)))) (n c61 (n c52 (n c121 (n c43 (n c319 z z) z) (n c253 z z)) (n c44 (n c43 (n c351 z z) z) (n c285 z z))) (n c102 (n c137 (n c44 (n c335 z z) z) (n c269 z z)) (n c43 (n c237 (n c44 z z) z) (n c43 z z))))) (n c45 (n c57 (n c76 (n c117 (n c44 (n c315 z z) z) (n c249 z z)) (n c149 (n c215 (n c347 z z) z) (n c281 z z))) (n c52 (n c133 (n c199 (n c43 z z) z) (n c265 z z)) (n c167 (n c52 (n c363 z z) z) (n c43 z z)))) (n c52 (n c87 (n c125 (n c191 (n c323 z z) z) (n c44 z z)) (n c157 (n c43 (n c43 z z) z) (n c291 z z))) (n c106 (n c43 (n c207 (n c44 z z) z) (n c273 z z)) (n c43 (n c241 (n c371 z z) z) (n c307 z z))))))) (n a2 (n a4 (n a8 (n c52 (n c44 (n c67 (n c43 (n c43 z z) z) (n c244 z z)) (n c144 (n c44 (n c342 z z) z) (n c44 z z))) (n c90 (n c128 (n c194 (n c326 z z) z) (n c260 z z)) (n c44 (n c43 (n c358 z z) z) (n c294 z z)))) (n c111 (n c67 (n c44 (n c186 (n c44 z z) z) (n c44 z z)) (n c43 (n c218 (n c350 z z) z) (n c284 z z))) (n c44 (n c136 (n c43 (n c43 z z) z) (n c268 z z)) (n c170 (n c236 (n c43 z z) z) (n c302 z z))))) (n c288 (n c56 (n c75 (n c116 (n c43 (n c314 z z) z) (n c248 z z)) (n c43 (n c214 (n c44 z z) z) (n c280 z z))) (n c67 (n c44 (n c44 (n c330 z z) z) (n c44 z z)) (n c166 (n c43 (n c43 z z) z) (n c298 z z)))) (n c67 (n c44 (n c124 (n c190 (n c322 z z) z) (n c43 z z)) (n c156 (n c222 (n c354 z z) z) (n c44 z z))) (n c105 (n c140 (n c206 (n c43 z z) z) (n c272 z z)) (n c174 (n c44 (n c370 z z) z) (n c43 z z)))))) (n a6 (n a10 (n c43 (n c73 (n c114 (n c180 (n c312 z z) z) (n c43 z z)) (n c44 (n c212 (n c344 z z) z) (n c278 z z))) (n c92 (n c130 (n c196 (n c328 z z) z) (n c262 z z)) (n c43 (n c228 (n c44 z z) z) (n c43 z z)))) (n c62 (n c84 (n c43 (n c44 (n c43 z z) z) (n c254 z z)) (n c154 (n c220 (n c43 z z) z) (n c286 z z))) (n c103 (n c43 (n c204 (n c336 z z) z) (n c43 z z)) (n c172 (n c238 (n c368 z z) z) (n c44 z z))))) (n c46 (n c43 (n c77 (n c118 (n c184 (n c316 z z) z) (n c250 z z)) (n c150 (n c43 (n c43 z z) z) (n c282 z z))) (n c99 (n c43 (n c200 (n c44 z z) z) (n c43 z z)) (n c43 (n c234 (n c364 z z) z) (n c300 z z)))) (n c69 (n c88 (n c126 (n c43 (n c43 z z) z) (n c258 z z)) (n c158 (n c44 (n c356 z z) z) (n c43 z z))) (n c107 (n c142 (n c208 (n c340 z z) z) (n c274 z z)) (n c44 (n c43 (n c372 z z) z) (n c308 z z))))))))
def _root_.PySem.W.Fast.tw6341479466405263364:=rh te6341479466405263364
def _root_.PySem.W.Fast.te5090327594713332109:=funext (n a0 (n a1 (n c373 (n a7 (n c51 (n c43 (n c108 (n c177 (n c309 z z) z) (n c243 (n c43 z z) z)) (n c143 (n c43 (n c43 z z) z) (n c43 z z))) (n c43 (n c127 (n c44 (n c44 z z) z) (n c43 (n c391 z z) z)) (n c43 (n c225 (n c357 z z) z) (n c293 z z)))) (n c59 (n c78 (n c43 (n c185 (n c43 z z) z) (n c43 (n c44 z z) z)) (n c151 (n c44 (n c349 z z) z) (n c283 z z))) (n c43 (n c135 (n c201 (n c333 z z) z) (n c267 z z)) (n c44 (n c43 (n c365 z z) z) (n c301 z z))))) (n c43 (n c44 (n c43 (n c43 (n c181 (n c43 z z) z) (n c44 (n c379 z z) z)) (n c147 (n c213 (n c43 z z) z) (n c279 z z))) (n c93 (n c43 (n c43 (n c329 z z) z) (n c43 z z)) (n c165 (n c229 (n c361 z z) z) (n c44 z z)))) (n c63 (n c43 (n c123 (n c189 (n c321 z z) z) (n c255 (n c43 z z) z)) (n c43 (n c221 (n c44 z z) z) (n c43 z z))) (n c43 (n c44 (n c43 (n c337 z z) z) (n c44 z z)) (n c173 (n c43 (n c43 z z) z) (n c305 z z)))))) (n a5 (n a9 (n c53 (n c72 (n c52 (n c179 (n c44 z z) z) (n c245 (n c377 z z) z)) (n c43 (n c211 (n c343 z z) z) (n c277 z z))) (n c91 (n c129 (n c195 (n c43 z z) z) (n c261 (n c393 z z) z)) (n c163 (n c227 (n c43 z z) z) (n c295 z z)))) (n c61 (n c52 (n c121 (n c43 (n c319 z z) z) (n c253 (n c385 z z) z)) (n c44 (n c43 (n c351 z z) z) (n c285 z z))) (n c102 (n c137 (n c44 (n c335 z z) z) (n c269 z z)) (n c43 (n c237 (n c44 z z) z) (n c43 z z))))) (n c45 (n c57 (n c76 (n c117 (n c44 (n c315 z z) z) (n c249 (n c381 z z) z)) (n c149 (n c215 (n c347 z z) z) (n c281 z z))) (n c52 (n c133 (n c199 (n c43 z z) z) (n c265 z z)) (n c167 (n c52 (n c363 z z) z) (n c43 z z)))) (n c52 (n c87 (n c125 (n c191 (n c323 z z) z) (n c44 (n c389 z z) z)) (n c157 (n c43 (n c43 z z) z) (n c291 z z))) (n c106 (n c43 (n c207 (n c44 z z) z) (n c273 z z)) (n c43 (n c241 (n c371 z z) z) (n c307 z z))))))) (n a2 (n a4 (n a8 (n c52 (n c44 (n c67 (n c43 (n c43 z z) z) (n c244 (n c44 z z) z)) (n c144 (n c44 (n c342 z z) z) (n c44 z z))) (n c90 (n c128 (n c194 (n c326 z z) z) (n c260 (n c392 z z) z)) (n c44 (n c43 (n c358 z z) z) (n c294 z z)))) (n c111 (n c67 (n c44 (n c186 (n c44 z z) z) (n c44 (n c384 z z) z)) (n c43 (n c218 (n c350 z z) z) (n c284 z z))) (n c44 (n c136 (n c43 (n c43 z z) z) (n c268 z z)) (n c170 (n c236 (n c43 z z) z) (n c302 z z))))) (n c374 (n c56 (n c75 (n c116 (n c43 (n c314 z z) z) (n c248 (n c380 z z) z)) (n c43 (n c214 (n c44 z z) z) (n c280 z z))) (n c67 (n c44 (n c44 (n c330 z z) z) (n c44 z z)) (n c166 (n c43 (n c43 z z) z) (n c298 z z)))) (n c67 (n c44 (n c124 (n c190 (n c322 z z) z) (n c43 (n c44 z z) z)) (n c156 (n c222 (n c354 z z) z) (n c44 z z))) (n c105 (n c140 (n c206 (n c43 z z) z) (n c272 z z)) (n c174 (n c44 (n c370 z z) z) (n c43 z z)))))) (n a6 (n a10 (n c43 (n c73 (n c114 (n c180 (n c312 z z) z) (n c43 (n c43 z z) z)) (n c44 (n c212 (n c344 z z) z) (n c278 z z))) (n c92 (n c130 (n c196 (n c328 z z) z) (n c262 z z)) (n c43 (n c228 (n c44 z z) z) (n c43 z z)))) (n c62 (n c84 (n c43 (n c44 (n c43 z z) z) (n c254 (n c386 z z) z)) (n c154 (n c220 (n c43 z z) z) (n c286 z z))) (n c103 (n c43 (n c204 (n c336 z z) z) (n c43 z z)) (n c172 (n c238 (n c368 z z) z) (n c44 z z))))) (n c46 (n c43 (n c77 (n c118 (n c184 (n c316 z z) z) (n c250 (n c43 z z) z)) (n c150 (n c43 (n c43 z z) z) (n c282 z z))) (n c99 (n c43 (n c200 (n c44 z z) z) (n c43 z z)) (n c43 (n c234 (n c364 z z) z) (n c300 z z)))) (n c69 (n c88 (n c126 (n c43 (n c43 z z) z) (n c258 (n c43 z z) z)) (n c158 (n c44 (n c356 z z) z) (n c43 z z))) (n c107 (n c142 (n c208 (n c340 z z) z) (n c274 z z)) (n c44 (n c43 (n c372 z z) z) (n c308 z z))))))))
def _root_.PySem.W.Fast.tw5090327594713332109:=rh te5090327594713332109
def _root_.PySem.W.Fast.te2726132198498852147:=hp (m a0 (m a1 (m a2 (m c373 (m a4 (m a5 (m a6 (m a7 (m a8 (m a9 (m a10 (m c43 (m c374 (m c45 (m c46 (m c51 (m c52 (m c53 (m c43 (m c44 (m c56 (m c57 (m c43 (m c59 (m c111 (m c61 (m c62 (m c63 (m c67 (m c52 (m c69 (m c43 (m c44 (m c72 (m c73 (m c43 (m c75 (m c76 (m c77 (m c78 (m c67 (m c52 (m c84 (m c43 (m c44 (m c87 (m c88 (m c43 (m c90 (m c91 (m c92 (m c93 (m c67 (m c52 (m c99 (m c43 (m c44 (m c102 (m c103 (m c43 (m c105 (m c106 (m c107 (m c108 (m c67 (m c52 (m c114 (m c43 (m c116 (m c117 (m c118 (m c43 (m c44 (m c121 (m c43 (m c123 (m c124 (m c125 (m c126 (m c127 (m c128 (m c129 (m c130 (m c43 (m c44 (m c133 (m c43 (m c135 (m c136 (m c137 (m c43 (m c44 (m c140 (m c43 (m c142 (m c143 (m c144 (m c43 (m c44 (m c147 (m c43 (m c149 (m c150 (m c151 (m c43 (m c44 (m c154 (m c43 (m c156 (m c157 (m c158 (m c43 (m c44 (m c163 (m c43 (m c165 (m c166 (m c167 (m c43 (m c44 (m c170 (m c43 (m c172 (m c173 (m c174 (m c43 (m c44 (m c177 (m c43 (m c179 (m c180 (m c181 (m c43 (m c44 (m c184 (m c185 (m c186 (m c43 (m c44 (m c189 (m c190 (m c191 (m c43 (m c44 (m c194 (m c195 (m c196 (m c43 (m c44 (m c199 (m c200 (m c201 (m c43 (m c44 (m c204 (m c43 (m c206 (m c207 (m c208 (m c43 (m c44 (m c211 (m c212 (m c213 (m c214 (m c215 (m c43 (m c44 (m c218 (m c43 (m c220 (m c221 (m c222 (m c43 (m c44 (m c225 (m c43 (m c227 (m c228 (m c229 (m c43 (m c52 (m c234 (m c43 (m c236 (m c237 (m c238 (m c43 (m c44 (m c241 (m c43 (m c243 (m c244 (m c245 (m c43 (m c44 (m c248 (m c249 (m c250 (m c43 (m c44 (m c253 (m c254 (m c255 (m c43 (m c44 (m c258 (m c43 (m c260 (m c261 (m c262 (m c43 (m c44 (m c265 (m c43 (m c267 (m c268 (m c269 (m c43 (m c44 (m c272 (m c273 (m c274 (m c43 (m c44 (m c277 (m c278 (m c279 (m c280 (m c281 (m c282 (m c283 (m c284 (m c285 (m c286 (m c43 (m c44 (m c291 (m c43 (m c293 (m c294 (m c295 (m c43 (m c44 (m c298 (m c43 (m c300 (m c301 (m c302 (m c43 (m c44 (m c305 (m c43 (m c307 (m c308 (m c309 (m c43 (m c44 (m c312 (m c43 (m c314 (m c315 (m c316 (m c43 (m c44 (m c319 (m c43 (m c321 (m c322 (m c323 (m c43 (m c44 (m c326 (m c43 (m c328 (m c329 (m c330 (m c43 (m c44 (m c333 (m c43 (m c335 (m c336 (m c337 (m c43 (m c44 (m c340 (m c43 (m c342 (m c343 (m c344 (m c43 (m c44 (m c347 (m c43 (m c349 (m c350 (m c351 (m c43 (m c44 (m c354 (m c43 (m c356 (m c357 (m c358 (m c43 (m c44 (m c361 (m c43 (m c363 (m c364 (m c365 (m c43 (m c44 (m c368 (m c43 (m c370 (m c371 (m c372 (m c43 (m c44 (m c377 (m c43 (m c379 (m c380 (m c381 (m c43 (m c44 (m c384 (m c385 (m c386 (m c43 (m c44 (m c389 (m c43 (m c391 (m c392 (m c393 (w)))))))))))))))))))))))))))))))))))))))))))))))))))))))))))))))))))))))))))))))))))))))))))))))))))))))))))))))))))))))))))))))))))))))))))))))))))))))))))))))))))))))))))))))))))))))))))))))))))))))))))))))))))))))))))))))))))))))))))))))))))))))))))))))))))))))))))))))))))))))))))))))))))))))))))))))))))))))))))))))))))))))))))))))))))
def _root_.PySem.W.Fast.tw2726132198498852147:=rh te2726132198498852147
end
end Tw
open PySem PySem.W PyProof.Rows
set_option maxRecDepth 100000 in
set_option maxHeartbeats 0 in
theorem PySem.Challenge.cw_stripfold_k07_whole_drawn_apart_holds : PySem.Challenge.rw_stripfold_k07_whole_drawn_apart.Holds := by
 w_on; o_law; k_head; (case hw => w_witness2)
 k_fill
 refine Sf.walk (l := PySem.Challenge.rw_stripfold_k07_whole_drawn_apart) (cT := 164) (Tb := 160) rfl rfl (fun w h Y => PySem.W.km_in_of Y) rfl (fun w => by kernel_rfl) (fun w => by kernel_rfl) ?F
 case F =>
  intro w mg fa h KX G hmg
  refine' Sf.all_mk KX G hmg ?a1 ?l1 ?c1 ?k1 ?a2 ?l2 ?c2 ?k2 ?a3 ?l3 ?c3 ?k3 ?a4 ?l4 ?c4 ?k4 ?a5 ?l5 ?c5 ?k5 ?a6 ?l6 ?c6 ?k6 ?a7 ?l7 ?c7 ?k7 ?a8 ?l8 ?c8 ?k8 ?a9 ?l9 ?c9 ?k9 ?a10 ?l10 ?c10 ?k10 ?a11 ?l11 ?c11 ?k11 ?a12 ?l12 ?c12 ?k12 ?a13 ?l13 ?c13 ?k13 ?a14 ?l14 ?c14 ?k14 ?a15 ?l15 ?c15 ?k15 ?a16 ?l16 ?c16 ?k16 ?a17 ?l17 ?c17 ?k17 ?a18 ?l18 ?c18 ?k18 ?a19 ?l19 ?c19 ?k19 ?a20 ?l20 ?c20 ?k20 ?a21 ?l21 ?c21 ?k21 ?a22 ?l22 ?c22 ?k22 ?a23 ?l23 ?c23 ?k23 ?a24 ?l24 ?c24 ?k24 ?a25 ?l25 ?c25 ?k25 ?a26 ?l26 ?c26 ?k26 ?a27 ?l27 ?c27 ?k27 ?a28 ?l28 ?c28 ?k28 ?a29 ?l29 ?c29 ?k29 ?a30 ?l30 ?c30 ?k30 ?aC ?ma0 ?mi0 ?ml0 ?mc0 ?mk0 ?ma1 ?mi1 ?ml1 ?mc1 ?mk1 ?ma2 ?mi2 ?ml2 ?mc2 ?mk2 ?ma3 ?mi3 ?ml3 ?mc3 ?mk3 ?ma4 ?mi4 ?ml4 ?mc4 ?mk4 ?ma5 ?mi5 ?ml5 ?mc5 ?mk5 ?ma6 ?mi6 ?ml6 ?mc6 ?mk6 ?pg ?hd ?po ?sa ?mks ?kc ?n_at ?n_pile ?n_opened ?htb ?z1 ?z2 ?z3 ?z4 ?z5 ?z6 ?z7 ?z8 ?z9 ?z10 ?z11 ?z12 ?z13 ?z14 ?z15 ?z16 ?z17
  (case a1 => k_is); (case l1 => k_is); (case c1 => k_is); (case k1 => k_is)
  (case a2 => k_is); (case l2 => k_is); (case c2 => k_is); (case k2 => k_is)
  (case a3 => k_is); (case l3 => k_is); (case c3 => k_is); (case k3 => k_is)
  (case a4 => k_is); (case l4 => k_is); (case c4 => k_is); (case k4 => k_is)
  (case a5 => k_is); (case l5 => k_is); (case c5 => k_is); (case k5 => k_is)
  (case a6 => k_is); (case l6 => k_is); (case c6 => k_is); (case k6 => k_is)
  (case a7 => k_is); (case l7 => k_is); (case c7 => k_is); (case k7 => k_is)
  (case a8 => k_is); (case l8 => k_is); (case c8 => k_is); (case k8 => k_is)
  (case a9 => k_is); (case l9 => k_is); (case c9 => k_is); (case k9 => k_is)
  (case a10 => k_is); (case l10 => k_is); (case c10 => k_is); (case k10 => k_is)
  (case a11 => k_is); (case l11 => k_is); (case c11 => k_is); (case k11 => k_is)
  (case a12 => k_is); (case l12 => k_is); (case c12 => k_is); (case k12 => k_is)
  (case a13 => k_is); (case l13 => k_is); (case c13 => k_is); (case k13 => k_is)
  (case a14 => k_is); (case l14 => k_is); (case c14 => k_is); (case k14 => k_is)
  (case a15 => k_is); (case l15 => k_is); (case c15 => k_is); (case k15 => k_is)
  (case a16 => k_is); (case l16 => k_is); (case c16 => k_is); (case k16 => k_is)
  (case a17 => k_is); (case l17 => k_is); (case c17 => k_is); (case k17 => k_is)
  (case a18 => k_is); (case l18 => k_is); (case c18 => k_is); (case k18 => k_is)
  (case a19 => k_is); (case l19 => k_is); (case c19 => k_is); (case k19 => k_is)
  (case a20 => k_is); (case l20 => k_is); (case c20 => k_is); (case k20 => k_is)
  (case a21 => k_is); (case l21 => k_is); (case c21 => k_is); (case k21 => k_is)
  (case a22 => k_is); (case l22 => k_is); (case c22 => k_is); (case k22 => k_is)
  (case a23 => k_is); (case l23 => k_is); (case c23 => k_is); (case k23 => k_is)
  (case a24 => k_is); (case l24 => k_is); (case c24 => k_is); (case k24 => k_is)
  (case a25 => k_is); (case l25 => k_is); (case c25 => k_is); (case k25 => k_is)
  (case a26 => k_is); (case l26 => k_is); (case c26 => k_is); (case k26 => k_is)
  (case a27 => k_is); (case l27 => k_is); (case c27 => k_is); (case k27 => k_is)
  (case a28 => k_is); (case l28 => k_is); (case c28 => k_is); (case k28 => k_is)
  (case a29 => k_is); (case l29 => k_is); (case c29 => k_is); (case k29 => k_is)
  (case a30 => k_is); (case l30 => k_is); (case c30 => k_is); (case k30 => k_is)
  (case aC => k_is)
  (case ma0 => k_is)
  (case mi0 => k_is)
  (case ml0 => k_is)
  (case mc0 => k_is)
  (case mk0 => k_is)
  (case ma1 => k_is)
  (case mi1 => k_is)
  (case ml1 => k_is)
  (case mc1 => k_is)
  (case mk1 => k_is)
  (case ma2 => k_is)
  (case mi2 => k_is)
  (case ml2 => k_is)
  (case mc2 => k_is)
  (case mk2 => k_is)
  (case ma3 => k_is)
  (case mi3 => k_is)
  (case ml3 => k_is)
  (case mc3 => k_is)
  (case mk3 => k_is)
  (case ma4 => k_is)
  (case mi4 => k_is)
  (case ml4 => k_is)
  (case mc4 => k_is)
  (case mk4 => k_is)
  (case ma5 => k_is)
  (case mi5 => k_is)
  (case ml5 => k_is)
  (case mc5 => k_is)
  (case mk5 => k_is)
  (case ma6 => k_is)
  (case mi6 => k_is)
  (case ml6 => k_is)
  (case mc6 => k_is)
  (case mk6 => k_is)
  (case pg => k_is)
  (case hd => k_is)
  (case po => k_is)
  (case sa => k_is)
  (case mks => k_is)
  (case kc => k_is)
  (case n_at => k_is)
  (case n_pile => k_is)
  (case n_opened => k_is)
  (case htb => kernel_rfl)
  (case z1 => k_is); (case z2 => k_is); (case z3 => k_is); (case z4 => k_is); (case z5 => k_is); (case z6 => k_is); (case z7 => k_is); (case z8 => k_is); (case z9 => k_is); (case z10 => k_is); (case z11 => k_is); (case z12 => k_is); (case z13 => k_is); (case z14 => k_is); (case z15 => k_is); (case z16 => k_is); (case z17 => k_is)
#print axioms PySem.Challenge.cw_stripfold_k07_whole_drawn_apart_holds
