import PyProof.Rows.All
import Wide.All
import OpenK.AllK
import Wide.FinOn
import Lean
import PyProof.EqAt
import PyProof.EqKinds
import PyProof.TupleCall
import KE.LcSums
import KE.KDictList
import KE.KDictSum
import PyProof.Rows.SortWalk
import KE.KRevIter
import PySem.Challenge.RW_passkeep_k43_whole_two_keepers
set_option Elab.async false
set_option linter.all false
set_option maxRecDepth 100000
namespace L2
open PySem PySem.Spec PyProof.Rows
abbrev Key:=Sum Int Str
def keyIs:Key→Value→Bool
 | .inl k,v=>Value.isInt k v
 | .inr x,v=>Value.isStrOf x v
def keyH (w:World):Key→Int
 | .inl k=>hashInt k
 | .inr x=>hashStr w x
theorem keyIs_shape:∀ {k:Key} {v:Value},keyIs k v=true→(∃ i t,k=Sum.inl i∧v=Value.int i t)∨(∃ x t,k=Sum.inr x∧v=Value.str x t)
 | .inl i,v,h=>by
  obtain ⟨t,e⟩:=Value.isInt_shape (k:=i) (v:=v) h
  exact .inl ⟨i,t,rfl,e⟩
 | .inr x,v,h=>by
  obtain ⟨t,e⟩:=Value.isStrOf_shape (x:=x) (v:=v) h
  exact .inr ⟨x,t,rfl,e⟩
theorem keyIs_int (i:Int)(t:Tok):keyIs (.inl i) (.int i t)=true:=by simp [keyIs,Value.isInt]
theorem keyIs_str (x:Str)(t:Tok):keyIs (.inr x) (.str x t)=true:=by simp [keyIs,Value.isStrOf]
theorem key_ll (a b:Int):decide ((Sum.inl a:Key)=Sum.inl b)=(a == b):=by
 by_cases e:a=b
 ·subst e; simp
 ·have h:¬(Sum.inl a:Key)=Sum.inl b:=fun q=>e (Sum.inl.inj q)
  rw [decide_eq_false h]
  exact (beq_eq_false_iff_ne.mpr e).symm
theorem key_rr (a b:Str):decide ((Sum.inr a:Key)=Sum.inr b)=decide (a=b):=by
 by_cases e:a=b
 ·subst e; simp
 ·have h:¬(Sum.inr a:Key)=Sum.inr b:=fun q=>e (Sum.inr.inj q)
  rw [decide_eq_false h,decide_eq_false e]
theorem key_lr (a:Int)(b:Str):decide ((Sum.inl a:Key)=Sum.inr b)=false:=decide_eq_false (fun q=>nomatch q)
theorem key_rl (a:Str)(b:Int):decide ((Sum.inr a:Key)=Sum.inl b)=false:=decide_eq_false (fun q=>nomatch q)
def mixKind (prog:Program)(w:World):PySem.KeyKind prog w Key where
 is:=keyIs
 hash:=keyH w
 inj:=fun v a b ha hb=>by
  rcases keyIs_shape ha with ⟨i,t,rfl,rfl⟩ | ⟨x,t,rfl,rfl⟩
  ·rcases keyIs_shape hb with ⟨j,u,rfl,e⟩ | ⟨y,u,rfl,e⟩
   ·injection e with e1 _; rw [e1]
   ·exact nomatch e
  ·rcases keyIs_shape hb with ⟨j,u,rfl,e⟩ | ⟨y,u,rfl,e⟩
   ·exact nomatch e
   ·injection e with e1 _; rw [e1]
 byValue:=fun k v h=>by
  rcases keyIs_shape h with ⟨i,t,rfl,rfl⟩ | ⟨x,t,rfl,rfl⟩ <;> rfl
 pyHash:=fun hv h=>by
  rcases keyIs_shape hv with ⟨i,t,rfl,rfl⟩ | ⟨x,t,rfl,rfl⟩
  ·exact wpAny_pyHash_int h
  ·exact wpAny_pyHash_str h
 eqBool:=fun hu hv h=>by
  rcases keyIs_shape hu with ⟨i,t,rfl,rfl⟩ | ⟨x,t,rfl,rfl⟩
  ·rcases keyIs_shape hv with ⟨j,u,rfl,rfl⟩ | ⟨y,u,rfl,rfl⟩
   ·rw [key_ll] at h; exact wpAny_eqBool_int h
   ·rw [key_lr] at h; exact SeqAt.EqAt.int_str i t y u _ _ _ _ h
  ·rcases keyIs_shape hv with ⟨j,u,rfl,rfl⟩ | ⟨y,u,rfl,rfl⟩
   ·rw [key_rl] at h; exact SeqAt.EqAt.str_int x t j u _ _ _ _ h
   ·rw [key_rr] at h; exact wpAny_eqBool_str h
 «strs»:=fun k x t v h=>by
  rcases keyIs_shape h with ⟨i,u,rfl,e⟩ | ⟨y,u,rfl,e⟩
  ·exact nomatch e
  ·injection e with e1 _
   subst e1
   cases v <;> rfl
theorem mixKind_int (prog:Program)(w:World)(i:Int)(t:Tok):(mixKind prog w).is (.inl i) (.int i t)=true:=keyIs_int i t
theorem mixKind_str (prog:Program)(w:World)(x:Str)(t:Tok):(mixKind prog w).is (.inr x) (.str x t)=true:=keyIs_str x t
end L2
namespace L2
open PySem PySem.Spec PyProof.Rows
inductive V where
 | non | bl (b:Bool) | int (i:Int) | str (x:Str) | byt (b:Array UInt8) | flt (b:UInt64) | ref (a:Addr) | ty (n:String)
 deriving DecidableEq
def RelV:V→Value→Prop
 | .non,u=>u=Value.none
 | .bl b,u=>u=Value.bool b
 | .int i,u=>∃ t,u=Value.int i t
 | .str x,u=>∃ t,u=Value.str x t
 | .byt b,u=>∃ t,u=Value.bytes b t
 | .flt b,u=>∃ t,u=Value.float b t
 | .ref a,u=>u=Value.ref a
 | .ty n,u=>u=Value.type n
abbrev Vals:List V→List Value→Prop:=Paired RelV
theorem Vals.length {xs:List V}{us:List Value}(r:Vals xs us):xs.length=us.length:=Paired.length r
theorem Vals.get:∀ {xs:List V} {us:List Value} {i:Nat} {x:V},Vals xs us→xs[i]? = some x→∃ u,us[i]? = some u∧RelV x u
 | _,_,_,_,.nil,e=>by simp at e
 | _,_,0,_,.cons r _,e=>by simp at e; subst e; exact ⟨_,rfl,r⟩
 | _,_,i+1,x,.cons _ t,e=>by
  obtain ⟨u,h1,h2⟩:=Vals.get (i:=i) (x:=x) t (by simpa using e)
  exact ⟨u,by simpa using h1,h2⟩
theorem Vals.set {x:V}{u:Value}(r:RelV x u):∀ {xs:List V} {us:List Value} (i:Nat),Vals xs us→Vals (xs.set i x) (us.set i u)
 | _,_,_,.nil=>.nil
 | _,_,0,.cons _ t=>.cons r t
 | _,_,i+1,.cons q t=>.cons q (Vals.set r i t)
theorem Vals.append:∀ {xs ys:List V} {us ws:List Value},Vals xs us→Vals ys ws→Vals (xs++ys) (us++ws)
 | _,_,_,_,.nil,s=>s
 | _,_,_,_,.cons r t,s=>.cons r (Vals.append t s)
theorem Vals.take:∀ {xs:List V} {us:List Value} (n:Nat),Vals xs us→Vals (xs.take n) (us.take n)
 | _,_,0,_=>.nil
 | _,_,_+1,.nil=>.nil
 | _,_,n+1,.cons r t=>.cons r (Vals.take n t)
theorem Vals.drop:∀ {xs:List V} {us:List Value} (n:Nat),Vals xs us→Vals (xs.drop n) (us.drop n)
 | _,_,0,r=>r
 | _,_,_+1,.nil=>.nil
 | _,_,n+1,.cons _ t=>Vals.drop n t
def RelO:Option V→Option Value→Prop
 | some v,some u=>RelV v u
 | none,none=>True
 | _,_=>False
def KV {κ:Type}:List (κ×V)→List (κ×Value)→Prop:=Paired fun (p:κ×V) (q:κ×Value)=>p.1=q.1∧RelV p.2 q.2
def kV:Key→V
 | .inl i=>.int i
 | .inr x=>.str x
inductive HO where
 | lst (xs:List V)
 | tup (xs:List V)
 | dK (kvs:List (Key×V)) | dT (kvs:List (List Key×V))
 | set (S:Int→Bool) (n:Nat)
 | ins (C dx:Addr) (fs:List (Str×V))
 | own (x:Addr)
 | xd (fs:List (Str×V))
 | met (f x:Addr)
 | rng (lo hi:Int)
 | frz (o:Obj) (u:HO)
 | tbl (ps:Array Value)
 | ext (φ:Heap→Prop)
abbrev Hp:=Addr→Option HO
def upd (H:Hp)(a:Addr)(o:HO):Hp:=fun b=>if b=a then some o else H b
theorem upd_same {H:Hp}{a:Addr}{o:HO}:upd H a o a=some o:=by unfold upd; rw [if_pos rfl]
theorem upd_ne {H:Hp}{a b:Addr}{o:HO}(h:b≠a):upd H a o b=H b:=by unfold upd; rw [if_neg h]
theorem ne_of {H:Hp}{a b:Addr}{o u:HO}(h:H a=some o)(h':H b=some u)(d:o≠u):a≠b:=by
 intro e; subst e; rw [h] at h'; exact d (Option.some.inj h')
theorem ne_of_none {H:Hp}{a b:Addr}{o:HO}(h:H a=some o)(h':H b=none):a≠b:=by
 intro e; subst e; rw [h] at h'; cases h'
section
variable (P:Program) (w:World)
def ObjOk (H:Hp)(h:Heap)(a:Addr):HO→Prop
 | .lst xs=>xs.length≤sizeLine∧∃ (its:List Value) (n:Nat),Vals xs its∧h.get? a=some { cls:=.type "list",data:=.seq its.toArray n }
 | .tup xs=>xs.length≤sizeLine∧∃ its:List Value,Vals xs its∧IsTup h a its.toArray
 | .dK kvs=>kvs.length≤sizeLine∧(a == sysModules)=false∧∃ vs,KV kvs vs∧h.DictOf (mixKind P w) a vs
 | .dT kvs=>kvs.length≤sizeLine∧(a == sysModules)=false∧∃ xs:List (List Key×Addr×Value),
   Paired (fun (p:List Key×V) (q:List Key×Addr×Value)=>p.1=q.1∧H q.2.1=some (.tup (p.1.map kV))∧RelV p.2 q.2.2) kvs xs ∧
   ∃ o es ep,h.get? a=some o∧o.ExactDict∧o.data=.dict es ep∧es.toList=xs.map (entryOfKey (tupleKind (mixKind P w)))∧(xs.map (·.1)).Nodup
 | .set S n=>h.SetOf (intKind P w) a S n
 | .ins C dx fs=>H dx=some (.own a)∧fs.length≤1000∧dx≠a∧h.get? a=some (PySem.W.instObj C dx) ∧
   ∃ mA,h.Ns1 dx mA∧(∀ f,RelO (fs.lookup f) (mA f))∧PySem.Within mA (fs.map (·.1))
 | .own _=>∃ o,h.get? a=some o
 | .xd fs=>∃ mA,h.Ns1 a mA∧∀ f,RelO (fs.lookup f) (mA f)
 | .rng lo hi=>∃ t u v,h.get? a=some { cls:=.type "range",data:=.fields #[.int lo t,.int hi u,.int 1 v] }
 | .frz o u=>h.get? a=some o∧ObjOk H h a u
 | .tbl ps=>h.get? a=some { cls:=.none,data:=.fields ps }
 | .met f x=>h.get? a=some (PySem.W.methodObj (.ref f) (.ref x))
 | .ext φ=>φ h∧(∃ o,h.get? a=some o)∧∀ h1 h2:Heap,φ h1→(∀ o,h1.get? a=some o→h2.get? a=some o)→φ h2
def HOk (H:Hp)(h:Heap):Prop:=∀ a o,H a=some o→ObjOk P w H h a o
end
section
variable {P:Program} {w:World} {H H':Hp} {h h':Heap} {a:Addr} {o:HO}
theorem ObjOk.lt (x:ObjOk P w H h a o):a<h.objs.size:=by
 cases o with
 | lst xs=>obtain ⟨_,_,_,_,e⟩:=x; exact Heap.lt_size e
 | tup xs=>obtain ⟨_,_,_,p⟩:=x; exact p.lt
 | dK kvs=>obtain ⟨_,_,_,_,o,_,_,e,_⟩:=x; exact Heap.lt_size e
 | dT kvs=>obtain ⟨_,_,_,_,o,_,_,e,_⟩:=x; exact Heap.lt_size e
 | set S n=>obtain ⟨o,_,_,_,e,_⟩:=x; exact Heap.lt_size e
 | ins C dx fs=>obtain ⟨_,_,_,e,_⟩:=x; exact Heap.lt_size e
 | own y=>obtain ⟨_,e⟩:=x; exact Heap.lt_size e
 | xd fs=>obtain ⟨_,⟨_,_,_,e,_⟩,_⟩:=x; exact Heap.lt_size e
 | rng lo hi=>obtain ⟨_,_,_,e⟩:=x; exact Heap.lt_size e
 | frz ob u=>obtain ⟨e,_⟩:=x; exact Heap.lt_size e
 | tbl ps=>exact Heap.lt_size (show h.get? a=some _ from x)
 | met f y=>exact Heap.lt_size (show h.get? a=some _ from x)
 | ext φ=>obtain ⟨_,⟨_,e⟩,_⟩:=x; exact Heap.lt_size e
theorem Paired.mapP {α β:Type}{F G:α→β→Prop}:∀ {l₁:List α} {l₂:List β},Paired F l₁ l₂→(∀ a b,F a b→G a b)→Paired G l₁ l₂
 | _,_,.nil,_=>.nil
 | _,_,.cons r t,f=>.cons (f _ _ r) (Paired.mapP t f)
theorem ObjOk.stay (x:ObjOk P w H h a o)(k:∀ b u,(b=a∨H b=some (.own a))→h.get? b=some u→h'.get? b=some u)
  (ho:∀ b,H b=some (.own a)→H' b=some (.own a)) (ht:∀ b xs,H b=some (.tup xs)→H' b=some (.tup xs)):ObjOk P w H' h' a o:=by
 induction o with
 | lst xs=>obtain ⟨z,its,n,r,e⟩:=x; exact ⟨z,its,n,r,k _ _ (.inl rfl) e⟩
 | tup xs=>obtain ⟨z,its,r,ob,e,c⟩:=x; exact ⟨z,its,r,ob,k _ _ (.inl rfl) e,c⟩
 | dK kvs=>obtain ⟨z,y,vs,r,ob,es,ep,e,c⟩:=x; exact ⟨z,y,vs,r,ob,es,ep,k _ _ (.inl rfl) e,c⟩
 | dT kvs=>
  obtain ⟨z,y,xs,r,ob,es,ep,e,c⟩:=x
  exact ⟨z,y,xs,Paired.mapP r fun p q z=>⟨z.1,ht _ _ z.2.1,z.2.2⟩,ob,es,ep,k _ _ (.inl rfl) e,c⟩
 | set S n=>obtain ⟨ob,es,ep,t,e,c⟩:=x; exact ⟨ob,es,ep,t,k _ _ (.inl rfl) e,c⟩
 | ins C dx fs=>
  obtain ⟨d,z,ne,e,mA,⟨od,es,ep,e2,c⟩,r⟩:=x
  exact ⟨ho _ d,z,ne,k _ _ (.inl rfl) e,mA,⟨od,es,ep,k _ _ (.inr d) e2,c⟩,r⟩
 | own y=>obtain ⟨ob,e⟩:=x; exact ⟨ob,k _ _ (.inl rfl) e⟩
 | xd fs=>obtain ⟨mA,⟨od,es,ep,e,c⟩,r⟩:=x; exact ⟨mA,⟨od,es,ep,k _ _ (.inl rfl) e,c⟩,r⟩
 | rng lo hi=>obtain ⟨t,u,v,e⟩:=x; exact ⟨t,u,v,k _ _ (.inl rfl) e⟩
 | frz ob u ih=>obtain ⟨e,q⟩:=x; exact ⟨k _ _ (.inl rfl) e,ih q⟩
 | tbl ps=>
  have e:h.get? a=some { cls:=.none,data:=.fields ps }:=x
  show h'.get? a=some { cls:=.none,data:=.fields ps }
  exact k a _ (.inl rfl) e
 | met f y=>
  have e:h.get? a=some (PySem.W.methodObj (.ref f) (.ref y)):=x
  show h'.get? a=some (PySem.W.methodObj (.ref f) (.ref y))
  exact k a _ (.inl rfl) e
 | ext φ=>obtain ⟨p,⟨o,e⟩,st⟩:=x; exact ⟨st _ _ p fun o q=>k _ _ (.inl rfl) q,⟨o,k _ _ (.inl rfl) e⟩,st⟩
theorem HOk.lt (x:HOk P w H h)(e:H a=some o):a<h.objs.size:=(x a o e).lt
theorem HOk.fresh (x:HOk P w H h)(e:h.objs.size≤a):H a=none:=by
 cases q:H a with
 | none=>rfl
 | some u=>exact absurd (Nat.lt_of_lt_of_le (x.lt q) e) (Nat.lt_irrefl _)
theorem HOk.kept (x:HOk P w H h)(k:∀ b u,h.get? b=some u→h'.get? b=some u):HOk P w H h':=fun a o e=>
 (x a o e).stay (fun b u _ q=>k b u q) (fun _ q=>q) fun _ _ q=>q
theorem HOk.laid (x:HOk P w H h)(k:∀ b u,h.get? b=some u→h'.get? b=some u)(hp:h.objs.size≤a)(new:ObjOk P w (upd H a o) h' a o):HOk P w (upd H a o) h':=fun b u e=>by
 have hn:=x.fresh hp
 by_cases hb:b=a
 ·subst hb; rw [upd_same] at e; cases e; exact new
 ·rw [upd_ne hb] at e
  exact (x b u e).stay (fun c v _ q=>k c v q) (fun c q=>by rw [upd_ne (ne_of_none q hn)]; exact q) fun c xs q=>by rw [upd_ne (ne_of_none q hn)]; exact q
end
def Rd (H:Hp)(a:Addr)(u:HO):Prop:=H a=some u∨∃ o,H a=some (.frz o u)
theorem Rd.of {H:Hp}{a:Addr}{u:HO}(h:H a=some u):Rd H a u:=.inl h
theorem Rd.ok {P:Program}{w:World}{H:Hp}{h:Heap}{a:Addr}{u:HO}(r:Rd H a u)(x:HOk P w H h):ObjOk P w H h a u:=by
 rcases r with r | ⟨o,r⟩
 ·exact x a u r
 ·obtain ⟨_,q⟩:=x a _ r
  exact q
def Mut:Option HO→Prop
 | some (.lst _)=>True
 | some (.dK _)=>True
 | some (.dT _)=>True
 | some (.set _ _)=>True
 | some (.ins _ _ _)=>True
 | some (.ext _)=>True
 | _=>False
section
variable {P:Program} {w:World} {H:Hp} {h h':Heap} {x e:Addr} {o':HO}
theorem HOk.write (ok:HOk P w H h)(mu:Mut (H x))(he:e=x∨H e=some (.own x))(k:∀ b u,b≠e→h.get? b=some u→h'.get? b=some u)(heo:∃ u,h'.get? e=some u)
  (new:ObjOk P w (upd H x o') h' x o'):HOk P w (upd H x o') h':=fun b u q=>by
 have nown:∀ c y,H c=some (.own y)→c≠x:=fun c y r z=>by subst z; rw [r] at mu; exact mu
 have ntup:∀ c xs,H c=some (.tup xs)→c≠x:=fun c xs r z=>by subst z; rw [r] at mu; exact mu
 by_cases hb:b=x
 ·subst hb; rw [upd_same] at q; cases q; exact new
 ·rw [upd_ne hb] at q
  by_cases hbe:b=e
  ·have q':H b=some (.own x):=by
    rcases he with z | z
    ·exact absurd (hbe.trans z) hb
    ·rw [hbe]; exact z
   rw [q] at q'; cases q'
   obtain ⟨v,hv⟩:=heo
   exact ⟨v,by rw [hbe]; exact hv⟩
  ·refine (ok b u q).stay (fun c v hc r=>k c v ?_ r) (fun c r=>by rw [upd_ne (nown c b r)]; exact r) fun c xs r=>by rw [upd_ne (ntup c xs r)]; exact r
   rcases hc with rfl | hc
   ·exact hbe
   ·rintro rfl
    rcases he with z | z
    ·exact nown c b hc z
    ·rw [hc] at z; cases z; exact hb rfl
end
structure Un (fs ex:List Addr)(H H':Hp)(h h':Heap):Prop where
 keep:∀ b o,h.get? b=some o→H b=none→b ∉ fs→b ∉ ex→h'.get? b=some o
 slot:∀ b o,h.get? b=some o→H b=none→b∈fs→b ∉ ex→∃ sl,h'.get? b=some { o with slots:=sl }
 free:∀ b o,h.get? b=some o→H b=none→b ∉ ex→H' b=none
 there:∀ b o,h.get? b=some o→b ∉ ex→∃ o',h'.get? b=some o'
 tups:∀ b xs,H b=some (.tup xs)→H' b=some (.tup xs)
 frzs:∀ b o u,H b=some (.frz o u)→H' b=some (.frz o u)
 tbls:∀ b ps,H b=some (.tbl ps)→∃ more,H' b=some (.tbl (ps++more))
section
variable {fs fs' ex ex':List Addr} {H H1 H2:Hp} {h h1 h2 h':Heap} {a x e:Addr} {o:HO}
theorem Un.any (u:Un fs ex H H1 h h1){b:Addr}{ob:Obj}(q:h.get? b=some ob)(n:H b=none)(hx:b ∉ ex):∃ sl,h1.get? b=some { ob with slots:=sl }:=by
 by_cases hb:b∈fs
 ·exact u.slot b ob q n hb hx
 ·exact ⟨ob.slots,u.keep b ob q n hb hx⟩
theorem Un.kept (k:∀ b u,h.get? b=some u→h'.get? b=some u):Un fs ex H H h h':=
 ⟨fun b ob q _ _ _=>k b ob q,fun b ob q _ _ _=>⟨ob.slots,k b ob q⟩,fun _ _ _ n _=>n,fun b ob q _=>⟨ob,k b ob q⟩,fun _ _ q=>q,fun _ _ _ q=>q,fun _ ps q=>⟨#[],by rw [q]; simp⟩⟩
theorem Un.refl:Un fs ex H H h h:=Un.kept fun _ _ q=>q
theorem Un.laid (k:∀ b u,h.get? b=some u→h'.get? b=some u)(hp:h.objs.size≤a)(hn:H a=none):Un fs ex H (upd H a o) h h' where
 keep:=fun b u q _ _ _=>k b u q
 slot:=fun b u q _ _ _=>⟨u.slots,k b u q⟩
 free:=fun b u q n _=>by rw [upd_ne (Nat.ne_of_lt (Nat.lt_of_lt_of_le (Heap.lt_size q) hp))]; exact n
 there:=fun b u q _=>⟨u,k b u q⟩
 tups:=fun b xs q=>by rw [upd_ne (ne_of_none q hn)]; exact q
 frzs:=fun b u xs q=>by rw [upd_ne (ne_of_none q hn)]; exact q
 tbls:=fun b ps q=>⟨#[],by rw [upd_ne (ne_of_none q hn),q]; simp⟩
theorem Un.write (mu:Mut (H x))(he:e=x∨H e=some (.own x))(k:∀ b u,b≠e→h.get? b=some u→h'.get? b=some u)(heo:∃ u,h'.get? e=some u):Un fs ex H (upd H x o) h h':=by
 have hx:∀ b,H b=none→b≠x:=fun b n z=>by subst z; rw [n] at mu; exact mu
 have hb:∀ b,H b=none→b≠e:=fun b n z=>by
  subst z
  rcases he with r | r
  ·exact hx b n r
  ·rw [n] at r; cases r
 have hm:∀ b u,H b=some u→¬Mut (some u)→b≠x:=fun b u q nm z=>by subst z; rw [q] at mu; exact nm mu
 refine ⟨fun b u q n _ _=>k b u (hb b n) q,fun b u q n _ _=>⟨u.slots,k b u (hb b n) q⟩,fun b u q n _=>by rw [upd_ne (hx b n)]; exact n,fun b u q _=>?_,
  fun b xs q=>by rw [upd_ne (hm b _ q fun z=>z)]; exact q,fun b u xs q=>by rw [upd_ne (hm b _ q fun z=>z)]; exact q,fun b ps q=>⟨#[],by rw [upd_ne (hm b _ q fun z=>z),q]; simp⟩⟩
 by_cases hbe:b=e
 ·subst hbe; exact heo
 ·exact ⟨u,k b u hbe q⟩
end
def trk (h:Heap)(H:Hp):List Addr:=(List.range h.objs.size).filter fun a=>(H a).isSome
def hidT (h:Heap)(H:Hp):Heap:=PySem.W.hideAll h (trk h H)
theorem hidT_size (h:Heap)(H:Hp):(hidT h H).objs.size=h.objs.size:=PySem.W.hideAll_size _ _
theorem hidT_get {h:Heap}{H:Hp}{b:Addr}{o:Obj}(e:h.get? b=some o)(n:H b=none):(hidT h H).get? b=some o:=
 PySem.W.hideAll_get _ e fun hm=>by
  have q:(H b).isSome=true:=(List.mem_filter.mp hm).2
  rw [n] at q; simp at q
theorem of_hidT {h:Heap}{H:Hp}{b:Addr}{o:Obj}(e:(hidT h H).get? b=some o):h.get? b=some o∧H b=none:=by
 have e':h.get? b=some o:=PySem.W.of_hideAll (trk h H) e
 refine ⟨e',?_⟩
 cases q:H b with
 | none=>rfl
 | some x=>
  have hm:b∈trk h H:=List.mem_filter.mpr ⟨List.mem_range.mpr (Heap.lt_size e'),by simp [q]⟩
  have z:(hidT h H).get? b=none:=PySem.W.hideAll_none (trk h H) hm
  rw [z] at e; cases e
end L2
namespace L2
open PySem PySem.Spec PyProof.Rows
structure Mod (K:PySem.W.Frag)(mg:Str→Option Value)(base:Heap):Prop where
 kin:K.In base
 glob:base.Ns mainGlobals mg
 blt:∃ mb,base.Ns builtinsNs mb∧∀ x:Str,x≠"__name__"→mb x=bootBuiltins x
 nolimit:base.NoLimit
structure Cx where
 prog:Program
 w:World
 K:PySem.W.Frag
 mg:Str→Option Value
 base:Heap
 A:Around
 N:List Str
 s₀:Shared
 H₀:Hp
 env:Env
 outer:List Env
 stack:List Env
 ex:List Addr
 fn:Str→Bool
 calm:Bool
 pn:List (Addr×Obj)
 xe:Value→Shared→Prop
def frs (l:List Env):List Addr:=l.filterMap (·.frame)
abbrev Cx.fs (X:Cx):List Addr:=frs X.outer
def Vis (sc:Scope)(x:Str):Prop:=sc.names.lookup x=some .local∨sc.names.lookup x=some .cell∨sc.names.lookup x=some .free
def Loc (sc:Scope)(x:Str):Prop:=sc.names.lookup x=some .local∨sc.names.lookup x=some .cell
def Look (env:Env)(h:Heap)(m:Str→Option Value)(x:Str)(u:Value):Prop:=
 (env.kindOf x=some .local∧m x=some u)∨((env.kindOf x=some .cell∨env.kindOf x=some .free)∧∃ c,env.cells.lookup x=some c∧h.IsCell c (some u))
structure Cx.Ok (X:Cx):Prop where
 mod:Mod X.K X.mg X.base
 kind:X.env.scope.kind=.function
 glob:X.env.globals=mainGlobals
 blt:X.env.builtins=builtinsNs
 above:X.s₀.heap.objs.size≤X.env.locals
 inj:∀ x y c,X.env.cells.lookup x=some c→X.env.cells.lookup y=some c→x=y
 has:∀ x,(X.env.kindOf x=some .cell∨X.env.kindOf x=some .free)→∃ c,X.env.cells.lookup x=some c
 cab:∀ x c,X.fn x=true→X.env.cells.lookup x=some c→X.s₀.heap.objs.size≤c
 hd:X.calm=true→X.A.handled=none
 frames:X.A.frames=some X.stack
 stk:X.stack=X.outer∨(X.stack=X.env::X.outer∧X.env.frame=some X.env.locals)
 exf:∀ b∈X.ex,b≠X.env.locals∧∀ x c,X.env.cells.lookup x=some c→c≠b
 bs:∀ b o,X.base.get? b=some o→X.s₀.heap.get? b=some o∧X.H₀ b=none
 bsz:X.base.objs.size≤X.s₀.heap.objs.size
 noex:∀ b o,X.base.get? b=some o→b ∉ X.ex
 exfs:∀ b∈X.ex,b ∉ X.fs
 funs:X.s₀.heap.FunFrames X.base X.outer
 frf:∀ b∈X.fs,X.H₀ b=none
structure Inv (X:Cx)(pins:List (Addr×Obj))(σ:List (Option V))(H:Hp)(s:Shared):Prop where
 ok:X.Ok
 os:s.os=X.s₀.os
 bare:AllBare s.gens
 base:Un X.fs X.ex X.H₀ H X.s₀.heap s.heap
 loc:∃ m,s.heap.Ns X.env.locals m∧∀ (i:Nat) (x:Str) (v:V),X.N[i]? = some x→σ[i]? = some (some v)→Vis X.env.scope x→∃ u,RelV v u∧Look X.env s.heap m x u
 cell:∀ x c,X.env.cells.lookup x=some c→∃ v,s.heap.IsCell c v
 free:H X.env.locals=none
 freeC:∀ x c,X.env.cells.lookup x=some c→H c=none
 pin:∀ p∈X.pn++pins,s.heap.get? p.1=some p.2∧H p.1=none∧p.1≠X.env.locals∧p.1 ∉ X.fs∧∀ v,p.2.data≠.cell v
 hok:HOk X.prog X.w H s.heap
 len:σ.length=X.N.length
section
variable {X:Cx} {pins:List (Addr×Obj)} {σ:List (Option V)} {H H':Hp} {s:Shared} {h':Heap}
theorem Cx.Ok.nofr (ok:X.Ok){b:Addr}{o:Obj}(e:X.base.get? b=some o):b ∉ X.fs:=fun hb=>by
 have:=(ok.funs.mem hb).1
 rw [e] at this; cases this
theorem Inv.bs (I:Inv X pins σ H s):∀ b o,X.base.get? b=some o→s.heap.get? b=some o∧H b=none:=fun b o e=>
 ⟨I.base.keep b o (I.ok.bs b o e).1 (I.ok.bs b o e).2 (I.ok.nofr e) (I.ok.noex b o e),I.base.free b o (I.ok.bs b o e).1 (I.ok.bs b o e).2 (I.ok.noex b o e)⟩
theorem Inv.bk (I:Inv X pins σ H s):∀ b o,X.base.get? b=some o→s.heap.get? b=some o:=fun b o e=>(I.bs b o e).1
theorem Inv.mod (I:Inv X pins σ H s):Mod X.K X.mg X.base:=I.ok.mod
theorem Inv.kIn (I:Inv X pins σ H s):X.K.In s.heap:=I.ok.mod.kin.keeps I.bk
theorem Inv.lt (I:Inv X pins σ H s):X.env.locals<s.heap.objs.size:=let ⟨_,hn,_⟩:=I.loc; hn.lt
theorem Inv.sz (I:Inv X pins σ H s):X.s₀.heap.objs.size≤s.heap.objs.size:=Nat.le_trans I.ok.above (Nat.le_of_lt I.lt)
theorem Inv.nofs (I:Inv X pins σ H s){a:Addr}(h:s.heap.objs.size≤a):a ∉ X.fs:=fun hb=>by
 obtain ⟨_,o,ho,_⟩:=I.ok.funs.mem hb
 exact absurd (Nat.lt_of_lt_of_le (Heap.lt_size ho) (Nat.le_trans I.sz h)) (Nat.lt_irrefl _)
theorem Inv.cne (I:Inv X pins σ H s):∀ x c,X.env.cells.lookup x=some c→c≠X.env.locals:=fun x c e z=>by
 obtain ⟨v,o,ho,hd⟩:=I.cell x c e
 obtain ⟨m,⟨o',es,ep,ho',hd',_⟩,_⟩:=I.loc
 rw [z,ho'] at ho; cases ho; rw [hd'] at hd; cases hd
theorem Inv.funs (I:Inv X pins σ H s):s.heap.FunFrames X.base X.outer:=by
 have all:∀ (l:List Env),(∀ b∈frs l,b∈X.fs)→X.s₀.heap.FunFrames X.base l→s.heap.FunFrames X.base l:=by
  intro l
  induction l with
  | nil=>intro _ _; trivial
  | cons env r ih=>
   intro hs hl
   obtain ⟨hk,⟨L,o,hf,hn,ho,hd⟩,hr⟩:=hl
   have hL:L∈X.fs:=hs L (by unfold frs; rw [List.filterMap_cons,hf]; exact List.mem_cons_self)
   obtain ⟨sl,e⟩:=I.base.slot L o ho (I.ok.frf L hL) hL fun z=>I.ok.exfs L z hL
   exact ⟨hk,⟨L,_,hf,hn,e,hd⟩,ih (fun b hb=>hs b (by unfold frs; rw [List.filterMap_cons,hf]; exact List.mem_cons_of_mem _ hb)) hr⟩
 exact all X.outer (fun _ hb=>hb) I.ok.funs
theorem Inv.stack (I:Inv X pins σ H s):s.heap.FunFrames X.base X.stack:=by
 rcases I.ok.stk with e | ⟨e,hf⟩
 ·rw [e]; exact I.funs
 ·rw [e]
  obtain ⟨m,hn,_⟩:=I.loc
  refine .cons (by rw [I.ok.kind]; decide) hf hn ?_ I.funs
  exact Heap.get?_none_of_le (Nat.le_trans I.ok.bsz I.ok.above)
theorem Inv.stkSub (I:Inv X pins σ H s):∀ b∈frs X.stack,b∈X.env.locals::X.fs:=fun b hb=>by
 rcases I.ok.stk with e | ⟨e,hf⟩
 ·rw [e] at hb; exact List.mem_cons_of_mem _ hb
 ·rw [e] at hb
  unfold frs at hb
  rw [List.filterMap_cons,hf] at hb
  exact hb
theorem Inv.stkFree (I:Inv X pins σ H s):∀ b∈frs X.stack,H b=none:=fun b hb=>by
 rcases List.mem_cons.mp (I.stkSub b hb) with e | hb
 ·rw [e]; exact I.free
 ·obtain ⟨_,o,ho,_⟩:=I.ok.funs.mem hb
  exact I.base.free b o ho (I.ok.frf b hb) fun z=>I.ok.exfs b z hb
theorem Inv.step {g':Array GenState}{t':Nat}{d':Drawn}{ch:List Addr}(I:Inv X pins σ H s)
  (hch:∀ b∈ch,(b∈X.ex∨X.s₀.heap.objs.size≤b)∧b≠X.env.locals∧(∀ x c,X.env.cells.lookup x=some c→c≠b)∧∀ p∈X.pn++pins,p.1≠b)
  (keep:∀ b o,b≠X.env.locals→b ∉ X.fs→b ∉ ch→s.heap.get? b=some o→H b=none→h'.get? b=some o)
  (slot:∀ b o,b≠X.env.locals→b∈X.fs→b ∉ ch→s.heap.get? b=some o→H b=none→∃ sl,h'.get? b=some { o with slots:=sl }) (free:∀ b o,b ∉ ch→s.heap.get? b=some o→H b=none→H' b=none)
  (there:∀ b o,b ∉ ch→s.heap.get? b=some o→∃ o',h'.get? b=some o')
  (tups:∀ b xs,H b=some (.tup xs)→H' b=some (.tup xs)) (frzs:∀ b o u,H b=some (.frz o u)→H' b=some (.frz o u)) (tbls:∀ b ps,H b=some (.tbl ps)→∃ more,H' b=some (.tbl (ps++more)))
  (ns:∀ m,s.heap.Ns X.env.locals m→h'.Ns X.env.locals m) (hok:HOk X.prog X.w H' h') (hg:AllBare g') :
  Inv X pins σ H' { s with heap:=h',gens:=g',drawn:=d',toks:=t' }:=by
 have neL:∀ b o,X.s₀.heap.get? b=some o→b≠X.env.locals:=fun b o e=>Nat.ne_of_lt (Nat.lt_of_lt_of_le (Heap.lt_size e) I.ok.above)
 have neC:∀ b o,X.s₀.heap.get? b=some o→b ∉ X.ex→b ∉ ch:=fun b o e hx hb=>by
  rcases (hch b hb).1 with z | z
  ·exact hx z
  ·exact absurd (Nat.lt_of_lt_of_le (Heap.lt_size e) z) (Nat.lt_irrefl _)
 have cellK:∀ x c,X.env.cells.lookup x=some c→∀ v,s.heap.IsCell c v→h'.IsCell c v:=fun x c e v ⟨o,ho,hd⟩=>by
  have nch:c ∉ ch:=fun z=>(hch c z).2.2.1 x c e rfl
  by_cases hc:c∈X.fs
  ·obtain ⟨sl,q⟩:=slot c o (I.cne x c e) hc nch ho (I.freeC x c e)
   exact ⟨_,q,hd⟩
  ·exact ⟨o,keep c o (I.cne x c e) hc nch ho (I.freeC x c e),hd⟩
 refine ⟨I.ok,I.os,hg,⟨fun b o e n hb hx=>?_,fun b o e n hb hx=>?_,fun b o e n hx=>?_,fun b o e hx=>?_,fun b xs e=>tups b xs (I.base.tups b xs e),fun b o xs e=>frzs b o xs (I.base.frzs b o xs e),fun b ps e=>?_⟩,?_,fun x c e=>?_,?_,fun x c e=>?_,fun p hp=>?_,hok,I.len⟩
 ·exact keep b o (neL b o e) hb (neC b o e hx) (I.base.keep b o e n hb hx) (I.base.free b o e n hx)
 ·obtain ⟨sl,e1⟩:=I.base.slot b o e n hb hx
  obtain ⟨sl',e2⟩:=slot b _ (neL b o e) hb (neC b o e hx) e1 (I.base.free b o e n hx)
  exact ⟨sl',e2⟩
 ·obtain ⟨o',e1⟩:=I.base.there b o e hx
  exact free b o' (neC b o e hx) e1 (I.base.free b o e n hx)
 ·obtain ⟨o',e1⟩:=I.base.there b o e hx
  exact there b o' (neC b o e hx) e1
 ·obtain ⟨m1,e1⟩:=I.base.tbls b ps e
  obtain ⟨m2,e2⟩:=tbls b _ e1
  exact ⟨m1++m2,by rw [e2,Array.append_assoc]⟩
 ·obtain ⟨m,hn,hl⟩:=I.loc
  refine ⟨m,ns m hn,fun i x v e1 e2 e3=>?_⟩
  obtain ⟨u,r,l⟩:=hl i x v e1 e2 e3
  refine ⟨u,r,?_⟩
  rcases l with l | ⟨k,c,e,z⟩
  ·exact .inl l
  ·exact .inr ⟨k,c,e,cellK x c e _ z⟩
 ·obtain ⟨v,z⟩:=I.cell x c e
  exact ⟨v,cellK x c e v z⟩
 ·obtain ⟨m,⟨o,_,_,ho,_⟩,_⟩:=I.loc
  exact free _ o (fun z=>(hch _ z).2.1 rfl) ho I.free
 ·obtain ⟨v,o,ho,hd⟩:=I.cell x c e
  exact free c o (fun z=>(hch c z).2.2.1 x c e rfl) ho (I.freeC x c e)
 ·obtain ⟨e,n,ne,nf,d⟩:=I.pin p hp
  have nch:p.1 ∉ ch:=fun z=>(hch p.1 z).2.2.2 p hp rfl
  exact ⟨keep p.1 p.2 ne nf nch e n,free p.1 p.2 nch e n,ne,nf,d⟩
theorem Inv.un {t':Nat}(I:Inv X pins σ H s)(u:Un X.fs [] H H' s.heap h')(hok:HOk X.prog X.w H' h'):Inv X pins σ H' { s with heap:=h',toks:=t' }:=by
 obtain ⟨m,⟨o,es,ep,ho,r⟩,_⟩:=id I.loc
 obtain ⟨sl,hL⟩:=u.any ho I.free (by simp)
 exact I.step (g':=s.gens) (d':=s.drawn) (ch:=[]) (fun _ z=>nomatch z) (fun b o _ hb _ e n=>u.keep b o e n hb (by simp)) (fun b o _ hb _ e n=>u.slot b o e n hb (by simp)) (fun b o _ e n=>u.free b o e n (by simp)) (fun b o _ e=>u.there b o e (by simp)) u.tups u.frzs u.tbls (fun m' hm=>by
  obtain ⟨o',es',ep',ho',r'⟩:=hm
  rw [ho] at ho'; cases ho'
  exact ⟨_,es',ep',hL,r'⟩) hok I.bare
theorem Inv.call {g':Array GenState}{t':Nat}{d':Drawn}{ch:List Addr}(I:Inv X pins σ H s)(u:Un (frs X.stack) ch H H' s.heap h')(hok:HOk X.prog X.w H' h')(hg:AllBare g')
  (hch:∀ b∈ch,(b∈X.ex∨X.s₀.heap.objs.size≤b)∧b≠X.env.locals∧(∀ x c,X.env.cells.lookup x=some c→c≠b)∧∀ p∈X.pn++pins,p.1≠b) :
  Inv X pins σ H' { s with heap:=h',gens:=g',drawn:=d',toks:=t' }:=by
 obtain ⟨m,⟨o,es,ep,ho,r⟩,_⟩:=id I.loc
 obtain ⟨sl,hL⟩:=u.any ho I.free fun z=>(hch _ z).2.1 rfl
 exact I.step (ch:=ch) hch (fun b o hL hb hc e n=>u.keep b o e n (fun z=>(List.mem_cons.mp (I.stkSub b z)).elim hL hb) hc) (fun b o _ _ hc e n=>u.any e n hc) (fun b o hc e n=>u.free b o e n hc) (fun b o hc e=>u.there b o e hc) u.tups u.frzs u.tbls (fun m' hm=>by
  obtain ⟨o',es',ep',ho',r'⟩:=hm
  rw [ho] at ho'; cases ho'
  exact ⟨_,es',ep',hL,r'⟩) hok hg
theorem Inv.turned {t':Nat}{it:Addr}(I:Inv X pins σ H s)(k:∀ b o,b≠it→s.heap.get? b=some o→h'.get? b=some o)(hn:H it=none)(hL:it≠X.env.locals)
  (h1:it∈X.ex∨X.s₀.heap.objs.size≤it) (h2:∀ x c,X.env.cells.lookup x=some c→c≠it) (h3:∀ p∈X.pn++pins,p.1≠it):Inv X pins σ H { s with heap:=h',toks:=t' }:=by
 have nit:∀ b u,H b=some u→b≠it:=fun b u e z=>by rw [z,hn] at e; cases e
 refine I.step (g':=s.gens) (d':=s.drawn) (ch:=[it]) (fun b hb=>?_) (fun b o _ _ hc e _=>k b o (fun z=>hc (by simp [z])) e) (fun b o _ _ hc e _=>⟨o.slots,k b o (fun z=>hc (by simp [z])) e⟩) (fun _ _ _ _ n=>n)
  (fun b o hc e=>⟨o,k b o (fun z=>hc (by simp [z])) e⟩) (fun _ _ e=>e) (fun _ _ _ e=>e) (fun b ps e=>⟨#[],by rw [e]; simp⟩) (fun m hm=>?_) (fun b u e=>?_) I.bare
 ·have e:b=it:=by simpa using hb
  subst e
  exact ⟨h1,hL,h2,h3⟩
 ·obtain ⟨o,es,ep,ho,r⟩:=hm
  exact ⟨o,es,ep,k _ o (Ne.symm hL) ho,r⟩
 ·refine (I.hok b u e).stay (fun c v hc q=>k c v ?_ q) (fun _ q=>q) fun _ _ q=>q
  rcases hc with z | z
  ·rw [z]; exact nit b u e
  ·exact nit c _ z
theorem Inv.tok (I:Inv X pins σ H s)(t:Nat):Inv X pins σ H { s with toks:=t }:=I.un (h':=s.heap) (t':=t) Un.refl I.hok
theorem Inv.kept {t':Nat}(I:Inv X pins σ H s)(k:∀ b u,s.heap.get? b=some u→h'.get? b=some u):Inv X pins σ H { s with heap:=h',toks:=t' }:=I.un (Un.kept k) (I.hok.kept k)
theorem Inv.laid {a:Addr}{o:HO}{t':Nat}(I:Inv X pins σ H s)(k:∀ b u,s.heap.get? b=some u→h'.get? b=some u)(hp:s.heap.objs.size≤a)(new:ObjOk X.prog X.w (upd H a o) h' a o) :
  Inv X pins σ (upd H a o) { s with heap:=h',toks:=t' }:=I.un (Un.laid k hp (I.hok.fresh hp)) (I.hok.laid k hp new)
theorem Inv.write {x e:Addr}{o:HO}{t':Nat}(I:Inv X pins σ H s)(mu:Mut (H x))(he:e=x∨H e=some (.own x))(k:∀ b u,b≠e→s.heap.get? b=some u→h'.get? b=some u)(heo:∃ u,h'.get? e=some u)
  (new:ObjOk X.prog X.w (upd H x o) h' x o):Inv X pins σ (upd H x o) { s with heap:=h',toks:=t' }:=I.un (Un.write mu he k heo) (I.hok.write mu he k heo new)
theorem Inv.weak {σ':List (Option V)}(I:Inv X pins σ H s)(hl:σ'.length=σ.length)(w:∀ (i:Nat) v,σ'[i]? = some (some v)→σ[i]? = some (some v)):Inv X pins σ' H s:=
 ⟨I.ok,I.os,I.bare,I.base,let ⟨m,hn,hl'⟩:=I.loc; ⟨m,hn,fun i x v e1 e2 e3=>hl' i x v e1 (w i v e2) e3⟩,I.cell,I.free,I.freeC,I.pin,I.hok,hl.trans I.len⟩
theorem Inv.pins_of {pins':List (Addr×Obj)}(I:Inv X pins σ H s)(h:∀ p∈pins',s.heap.get? p.1=some p.2∧H p.1=none∧p.1≠X.env.locals∧p.1 ∉ X.fs∧∀ v,p.2.data≠.cell v):Inv X pins' σ H s:=
 ⟨I.ok,I.os,I.bare,I.base,I.loc,I.cell,I.free,I.freeC,fun p hp=>(List.mem_append.mp hp).elim (fun z=>I.pin p (List.mem_append_left _ z)) (h p),I.hok,I.len⟩
theorem nodup_ix {N:List Str}(hN:N.Nodup){i j:Nat}{x:Str}(a:N[i]? = some x)(b:N[j]? = some x):i=j:=by
 obtain ⟨h1,e1⟩:=List.getElem?_eq_some_iff.mp a
 obtain ⟨h2,e2⟩:=List.getElem?_eq_some_iff.mp b
 exact (List.getElem_inj hN).mp (e1.trans e2.symm)
theorem store_ok2 {M:Model}{A:Around}{E:Value→Shared→Prop}{i:Nat}{x:Str}{v:V}{u:Value}{Q:Unit→Shared→Prop}(I:Inv X pins σ H s)(hN:X.N.Nodup)(hi:X.N[i]? = some x)(hx:Loc X.env.scope x)(r:RelV v u)
  (h:∀ s',Inv X pins (σ.set i (some v)) H s'→(∃ a,Heap.SameBut a s.heap s'.heap∧(a=X.env.locals∨X.env.cells.lookup x=some a))→Q () s') (hf:X.fn x=true∨X.env.scope.names.lookup x=some .local:=by first | exact .inl rfl | exact .inr rfl | assumption):wpAny M A (storeName X.env x u) Q E s:=by
 obtain ⟨m,hn,hl⟩:=id I.loc
 have hcls:(X.env.scope.kind == .class || (X.env.scope.kind == .module && X.env.locals != X.env.globals))=false:=by rw [I.ok.kind]; rfl
 have hiσ:i<σ.length:=by rw [I.len]; exact (List.getElem?_eq_some_iff.mp hi).1
 have cne:=I.cne
 have tracked:∀ {a:Addr} {h':Heap},(∃ o,s.heap.get? a=some o∧H a=none)→Heap.SameBut a s.heap h'→HOk X.prog X.w H h':=fun {a h'} ha hs b ob e=>by
  obtain ⟨_,_,hfree⟩:=ha
  refine (I.hok b ob e).stay (fun c w' hc q=>(hs.2 c ?_).trans q) (fun _ q=>q) fun _ _ q=>q
  rintro rfl
  rcases hc with rfl | hc
  ·rw [hfree] at e; cases e
  ·rw [hfree] at hc; cases hc
 rcases hx with hk | hk
 ·refine wpAny_storeName_local hk hn (fun h' hn' hs=>?_) hcls
  obtain ⟨oL,_,_,hoL,_⟩:=id hn
  refine h _ ⟨I.ok,I.os,I.bare,⟨fun b o e n hb hx=>?_,fun b o e n hb hx=>?_,I.base.free,fun b o e hx=>?_,I.base.tups,I.base.frzs,I.base.tbls⟩,⟨_,hn',fun j y v' e1 e2 e3=>?_⟩,fun y c e=>?_,I.free,I.freeC,fun p hp=>?_,tracked ⟨oL,hoL,I.free⟩ hs,by simpa using I.len⟩ ⟨_,hs,.inl rfl⟩
  ·exact (hs.2 b (Nat.ne_of_lt (Nat.lt_of_lt_of_le (Heap.lt_size e) I.ok.above))).trans (I.base.keep b o e n hb hx)
  ·obtain ⟨sl,e1⟩:=I.base.slot b o e n hb hx
   exact ⟨sl,(hs.2 b (Nat.ne_of_lt (Nat.lt_of_lt_of_le (Heap.lt_size e) I.ok.above))).trans e1⟩
  ·obtain ⟨o',e1⟩:=I.base.there b o e hx
   exact ⟨o',(hs.2 b (Nat.ne_of_lt (Nat.lt_of_lt_of_le (Heap.lt_size e) I.ok.above))).trans e1⟩
  ·by_cases hj:j=i
   ·subst hj
    rw [hi] at e1; cases e1
    rw [List.getElem?_set_self hiσ] at e2
    cases e2
    exact ⟨u,r,.inl ⟨hk,by simp⟩⟩
   ·rw [List.getElem?_set_ne (Ne.symm hj)] at e2
    obtain ⟨u',r',q⟩:=hl j y v' e1 e2 e3
    refine ⟨u',r',?_⟩
    rcases q with ⟨k,e⟩ | ⟨k,c,e,z⟩
    ·refine .inl ⟨k,?_⟩
     have:y≠x:=fun e=>hj (nodup_ix hN e1 (e ▸ hi))
     simp [this,e]
    ·exact .inr ⟨k,c,e,z.sameBut hs (cne y c e)⟩
  ·obtain ⟨w',z⟩:=I.cell y c e
   exact ⟨w',z.sameBut hs (cne y c e)⟩
  ·obtain ⟨e,n,ne,nf,d⟩:=I.pin p hp
   exact ⟨(hs.2 p.1 ne).trans e,n,ne,nf,d⟩
 ·have hfn:X.fn x=true:=by
   rcases hf with z | z
   ·exact z
   ·rw [z] at hk; cases hk
  obtain ⟨c,hc⟩:=I.ok.has x (.inl hk)
  obtain ⟨w',z⟩:=I.cell x c hc
  refine wpAny_storeName_cell I.ok.kind hk hc z (fun h' hc' hs=>?_)
  obtain ⟨oc,hoc,hocd⟩:=id z
  refine h { s with heap:=h' } ⟨I.ok,I.os,I.bare,⟨fun b o e n hb hx=>?_,fun b o e n hb hx=>?_,I.base.free,fun b o e hx=>?_,I.base.tups,I.base.frzs,I.base.tbls⟩,⟨m,hn.sameBut hs (Ne.symm (cne x c hc)),fun j y v' e1 e2 e3=>?_⟩,fun y c' e=>?_,I.free,I.freeC,fun p hp=>?_,tracked ⟨oc,hoc,I.freeC x c hc⟩ hs,by simpa using I.len⟩ ⟨c,hs,.inr hc⟩
  ·exact (hs.2 b (Nat.ne_of_lt (Nat.lt_of_lt_of_le (Heap.lt_size e) (I.ok.cab x c hfn hc)))).trans (I.base.keep b o e n hb hx)
  ·obtain ⟨sl,e1⟩:=I.base.slot b o e n hb hx
   exact ⟨sl,(hs.2 b (Nat.ne_of_lt (Nat.lt_of_lt_of_le (Heap.lt_size e) (I.ok.cab x c hfn hc)))).trans e1⟩
  ·obtain ⟨o',e1⟩:=I.base.there b o e hx
   exact ⟨o',(hs.2 b (Nat.ne_of_lt (Nat.lt_of_lt_of_le (Heap.lt_size e) (I.ok.cab x c hfn hc)))).trans e1⟩
  ·by_cases hj:j=i
   ·subst hj
    rw [hi] at e1; cases e1
    rw [List.getElem?_set_self hiσ] at e2
    cases e2
    exact ⟨u,r,.inr ⟨.inl hk,c,hc,hc'⟩⟩
   ·rw [List.getElem?_set_ne (Ne.symm hj)] at e2
    obtain ⟨u',r',q⟩:=hl j y v' e1 e2 e3
    refine ⟨u',r',?_⟩
    rcases q with q | ⟨k,c',e,z'⟩
    ·exact .inl q
    ·refine .inr ⟨k,c',e,z'.sameBut hs ?_⟩
     rintro rfl
     exact hj (nodup_ix hN e1 (I.ok.inj _ _ _ e hc ▸ hi))
  ·by_cases hcc:c'=c
   ·subst hcc; exact ⟨_,hc'⟩
   ·obtain ⟨w2,z2⟩:=I.cell y c' e
    exact ⟨w2,z2.sameBut hs hcc⟩
  ·obtain ⟨e,n,ne,nf,d⟩:=I.pin p hp
   refine ⟨(hs.2 p.1 ?_).trans e,n,ne,nf,d⟩
   intro q
   rw [q,hoc] at e
   have q':oc=p.2:=Option.some.inj e
   exact d w' (by rw [← q']; exact hocd)
theorem store_ok {M:Model}{A:Around}{E:Value→Shared→Prop}{i:Nat}{x:Str}{v:V}{u:Value}{Q:Unit→Shared→Prop}(I:Inv X pins σ H s)(hN:X.N.Nodup)(hi:X.N[i]? = some x)(hx:Loc X.env.scope x)(r:RelV v u)
  (h:∀ s',Inv X pins (σ.set i (some v)) H s'→Q () s') (hf:X.fn x=true∨X.env.scope.names.lookup x=some .local:=by first | exact .inl rfl | exact .inr rfl | assumption):wpAny M A (storeName X.env x u) Q E s:=
 store_ok2 I hN hi hx r (fun s' I' _=>h s' I') hf
theorem Inv.call' {s':Shared}{ch:List Addr}(I:Inv X pins σ H s)(ho:s'.os=s.os)(u:Un (frs X.stack) ch H H' s.heap s'.heap)(hok:HOk X.prog X.w H' s'.heap)(hg:AllBare s'.gens)
  (hch:∀ b∈ch,(b∈X.ex∨X.s₀.heap.objs.size≤b)∧b≠X.env.locals∧(∀ x c,X.env.cells.lookup x=some c→c≠b)∧∀ p∈X.pn++pins,p.1≠b):Inv X pins σ H' s':=by
 obtain ⟨h',g',d',t',o'⟩:=s'
 have e:o'=s.os:=ho
 subst e
 exact I.call (g':=g') (t':=t') (d':=d') u hok hg hch
end
abbrev XK:=Value→Option Addr→Hp→Prop
abbrev St:=List (Option V)
abbrev VK:=V→Hp→Prop
abbrev TE:=St→Hp→VK→Prop
abbrev TT:=St→Hp→(Bool→Hp→Prop)→Prop
abbrev TA:=St→Hp→(List V→Hp→Prop)→Prop
structure Ends where
 nx:St→Hp→Prop
 rt:VK
 bk:St→Hp→Prop:=fun _ _=>False
 ct:St→Hp→Prop:=fun _ _=>False
abbrev TS:=Ends→St→Hp→Prop
def EP (X:Cx)(pins:List (Addr×Obj))(σ:St)(Q:VK)(u:Value)(s':Shared):Prop:=∃ v H',Inv X pins σ H' s'∧RelV v u∧Q v H'
def TP (X:Cx)(pins:List (Addr×Obj))(σ:St)(Q:Bool→Hp→Prop)(b:Bool)(s':Shared):Prop:=∃ H',Inv X pins σ H' s'∧Q b H'
def AP (X:Cx)(pins:List (Addr×Obj))(σ:St)(Q:List V→Hp→Prop)(us:List Value)(s':Shared):Prop:=∃ vs H',Inv X pins σ H' s'∧Vals vs us∧Q vs H'
def SP (X:Cx)(pins:List (Addr×Obj))(D:Ends)(f:Flow)(s':Shared):Prop:=
 match f with
 | .next=>∃ σ' H',Inv X pins σ' H' s'∧D.nx σ' H'
 | .brk=>∃ σ' H',Inv X pins σ' H' s'∧D.bk σ' H'
 | .cont=>∃ σ' H',Inv X pins σ' H' s'∧D.ct σ' H'
 | .ret u=>∃ v σ' H',Inv X pins σ' H' s'∧RelV v u∧D.rt v H'
def PE (X:Cx)(e:Expr)(t:TE):Prop:=
 ∀ (pins:List (Addr×Obj)) (s:Shared) (σ:St) (H:Hp) (Q:VK),Inv X pins σ H s→t σ H Q→wpAny (model X.prog X.w) X.A (eval e X.env) (EP X pins σ Q) X.xe s
def PT (X:Cx)(e:Expr)(t:TT):Prop:=
 ∀ (pins:List (Addr×Obj)) (s:Shared) (σ:St) (H:Hp) (Q:Bool→Hp→Prop),Inv X pins σ H s→t σ H Q→wpAny (model X.prog X.w) X.A (isTrue e X.env (eval e X.env)) (TP X pins σ Q) X.xe s
def PW (X:Cx)(e:Expr)(t:TT):Prop:=
 ∀ (whole:Sem Value) (pins:List (Addr×Obj)) (s:Shared) (σ:St) (H:Hp) (Q:Bool→Hp→Prop),Inv X pins σ H s→t σ H Q→wpAny (model X.prog X.w) X.A (isTrue e X.env whole) (TP X pins σ Q) X.xe s
theorem PW.pt {X:Cx}{e:Expr}{t:TT}(h:PW X e t):PT X e t:=h _
def PA (X:Cx)(es:List Expr)(t:TA):Prop:=
 ∀ (pos:Pos) (pins:List (Addr×Obj)) (s:Shared) (σ:St) (H:Hp) (Q:List V→Hp→Prop),Inv X pins σ H s→t σ H Q→wpAny (model X.prog X.w) X.A (spliced (backTo pos (starEach es X.env))) (AP X pins σ Q) X.xe s
def PS (X:Cx)(st:Stmt)(t:TS):Prop:=
 ∀ (pins:List (Addr×Obj)) (s:Shared) (σ:St) (H:Hp) (D:Ends),Inv X pins σ H s→t D σ H→wpAny (model X.prog X.w) X.A (exec st X.env) (SP X pins D) X.xe s
def PSs (X:Cx)(st:List Stmt)(t:TS):Prop:=
 ∀ (pins:List (Addr×Obj)) (s:Shared) (σ:St) (H:Hp) (D:Ends),Inv X pins σ H s→t D σ H→wpAny (model X.prog X.w) X.A (execs st X.env) (SP X pins D) X.xe s
theorem thn {α:Type}{t:Sem α}{Q Q':α→Shared→Prop}{M:Model}{A:Around}{E:Value→Shared→Prop}{s:Shared}(h:wpAny M A t Q E s)(hQ:∀ a s,Q a s→Q' a s):wpAny M A t Q' E s:=wpAny_mono h hQ fun _ _ x=>x
end L2
namespace L2
open PySem PySem.Spec PyProof.Rows
section
variable {X:Cx}
def tVar (i:Nat):TE:=fun σ H Q=>∃ v,σ[i]? = some (some v)∧Q v H
def tC (v:V):TE:=fun _ H Q=>Q v H
theorem pe_var {i:Nat}{x:Str}{pos:Pos}(hN:X.N[i]? = some x)(hv:Vis X.env.scope x)(hd:(x == ("__debug__":Str))=false:=by decide)(hcd:(x == ("__classdict__":Str))=false:=by decide):PE X (.Name x pos) (tVar i):=by
 intro pins s σ H Q I h
 obtain ⟨v,e,h⟩:=h
 obtain ⟨m,hn,hl⟩:=I.loc
 obtain ⟨u,r,l⟩:=hl i x v hN e hv
 have fin:EP X pins σ Q u s:=⟨v,H,I,r,h⟩
 rcases l with ⟨hk,hm⟩ | ⟨hk,c,hc,hcell⟩
 ·exact wpAny_Name (wpAny_loadName_local I.ok.kind hk hn hm fin) hd
 ·rcases hk with hk | hk
  ·exact wpAny_Name (wpAny_loadName_cell I.ok.kind hk hc hcell fin) hd
  ·exact wpAny_Name (wpAny_loadName_free I.ok.kind hk hc hcell fin hcd) hd
theorem pe_int {i j pos}:PE X (.Constant (.int i) j pos) (tC (.int i)):=fun _ _ _ H _ I h=>wpAny_Constant_int ⟨.int i,H,I.tok _,⟨_,rfl⟩,h⟩
theorem pe_bl {b j pos}:PE X (.Constant (.bool b) j pos) (tC (.bl b)):=fun _ _ _ H _ I h=>Constant_bool ⟨.bl b,H,I,rfl,h⟩
theorem pe_non {j pos}:PE X (.Constant .none j pos) (tC .non):=fun _ _ _ H _ I h=>Constant_none ⟨.non,H,I,rfl,h⟩
theorem pe_str {x j pos}:PE X (.Constant (.str x) j pos) (tC (.str x)):=fun _ _ _ H _ I h=>Calls.Constant_str ⟨.str x,H,I.tok _,⟨_,rfl⟩,h⟩
def Gl (X:Cx)(x:Str):Prop:=X.env.kindOf x=some .globalImplicit
theorem ld_glob {E:Value→Shared→Prop}{pins:List (Addr×Obj)}{s:Shared}{σ:St}{H:Hp}{x:Str}{u:Value}{pos:Pos}{Q:Value→Shared→Prop}(I:Inv X pins σ H s)(hg:Gl X x)(hm:X.mg x=some u)(h:Q u s)
  (hd:(x == ("__debug__":Str))=false:=by decide):wpAny (model X.prog X.w) X.A (eval (.Name x pos) X.env) Q E s:=
 Calls.Name_function_global I.ok.kind hg (Calls.loadGlobal_global (by rw [I.ok.glob]; exact I.mod.glob.keeps I.bk) hm h) hd
theorem ld_blt {E:Value→Shared→Prop}{pins:List (Addr×Obj)}{s:Shared}{σ:St}{H:Hp}{x:Str}{u:Value}{pos:Pos}{Q:Value→Shared→Prop}(I:Inv X pins σ H s)(hg:Gl X x)(hm:X.mg x=none)(hv:bootBuiltins x=some u)(h:Q u s)
  (hn:x≠"__name__":=by decide) (hd:(x == ("__debug__":Str))=false:=by decide):wpAny (model X.prog X.w) X.A (eval (.Name x pos) X.env) Q E s:=by
 obtain ⟨mb,h1,h2⟩:=I.mod.blt
 exact Calls.Name_function_global I.ok.kind hg (Calls.loadGlobal_builtin (by rw [I.ok.glob]; exact I.mod.glob.keeps I.bk) hm (by rw [I.ok.blt]; exact h1.keeps I.bk) ((h2 x hn).trans hv) h) hd
theorem pe_glob {x:Str}{v:V}{u:Value}{pos:Pos}(hg:Gl X x)(hm:X.mg x=some u)(r:RelV v u)(hd:(x == ("__debug__":Str))=false:=by decide):PE X (.Name x pos) (tC v):=
 fun _ _ _ H _ I h=>ld_glob I hg hm ⟨v,H,I,r,h⟩ hd
theorem pe_bltn {x:Str}{v:V}{u:Value}{pos:Pos}(hg:Gl X x)(hm:X.mg x=none)(hv:bootBuiltins x=some u)(r:RelV v u)(hn:x≠"__name__":=by decide)(hd:(x == ("__debug__":Str))=false:=by decide):PE X (.Name x pos) (tC v):=
 fun _ _ _ H _ I h=>ld_blt I hg hm hv ⟨v,H,I,r,h⟩ hn hd
variable {a b:Expr} {ta tb:TE} {pos:Pos}
def tB (t:TE):TT:=fun σ H Q=>t σ H fun x H1=>∃ c,x=.bl c∧Q c H1
theorem pt_val {e:Expr}{t:TE}(h:PE X e t)(he:∀ whole,isTrue e X.env whole=(do let v ← whole; standAt e.pos; holding [v] (truthy v)):=by intro _; rfl):PT X e (tB t):=by
 intro pins s σ H Q I hw
 refine isTrue_plain (thn (h pins s σ H _ I hw) fun v s1 ⟨x,H1,I1,r1,q1⟩=>?_) (he _)
 obtain ⟨d,rfl,q⟩:=q1
 cases r1
 exact wpAny_truthy_bool ⟨H1,I1,q⟩
variable {tA tB':TT} {rest:List Expr}
def tAnd (t u:TT):TT:=fun σ H Q=>t σ H fun c H1=>if c=true then u σ H1 Q else Q false H1
def tOr (t u:TT):TT:=fun σ H Q=>t σ H fun c H1=>if c=true then Q true H1 else u σ H1 Q
def tNot (t:TT):TT:=fun σ H Q=>t σ H fun c H1=>Q (!c) H1
theorem pw_and1 (ha:PT X a tA):PW X (.BoolOp .And [a] pos) tA:=by
 intro wh pins s σ H Q I h
 refine isTrue_and (thn (ha pins s σ H Q I h) fun c s1 e=>?_)
 cases c with
 | true=>exact isTrue_and_nil e
 | false=>exact e
theorem pw_or1 (ha:PT X a tA):PW X (.BoolOp .Or [a] pos) tA:=by
 intro wh pins s σ H Q I h
 refine isTrue_or (thn (ha pins s σ H Q I h) fun c s1 e=>?_)
 cases c with
 | false=>exact isTrue_or_nil e
 | true=>exact e
theorem pw_and (ha:PT X a tA)(hb:PW X (.BoolOp .And (b::rest) pos) tB'):PW X (.BoolOp .And (a::b::rest) pos) (tAnd tA tB'):=by
 intro wh pins s σ H Q I h
 refine isTrue_and (thn (ha pins s σ H _ I h) fun c s1 ⟨H1,I1,q1⟩=>?_)
 cases c with
 | true=>exact hb wh pins s1 σ H1 Q I1 q1
 | false=>exact ⟨H1,I1,q1⟩
theorem pw_or (ha:PT X a tA)(hb:PW X (.BoolOp .Or (b::rest) pos) tB'):PW X (.BoolOp .Or (a::b::rest) pos) (tOr tA tB'):=by
 intro wh pins s σ H Q I h
 refine isTrue_or (thn (ha pins s σ H _ I h) fun c s1 ⟨H1,I1,q1⟩=>?_)
 cases c with
 | true=>exact ⟨H1,I1,q1⟩
 | false=>exact hb wh pins s1 σ H1 Q I1 q1
theorem pt_not (ha:PT X a tA):PT X (.UnaryOp .Not a pos) (tNot tA):=by
 intro pins s σ H Q I h
 exact isTrue_not (ha pins s σ H (fun c H1=>Q (!c) H1) I h)
def tAndV (ta tb:TE):TE:=fun σ H Q=>ta σ H fun x H1=>∃ c,x=.bl c∧if c=true then tb σ H1 Q else Q (.bl false) H1
def tNotV (ta:TE):TE:=fun σ H Q=>ta σ H fun x H1=>∃ c,x=.bl c∧Q (.bl (!c)) H1
theorem pe_one {op}{t:TE}(h:PE X a t):PE X (.BoolOp op [a] pos) t:=fun pins s σ H Q I hw=>BoolOp_one (h pins s σ H Q I hw)
theorem pe_and (ha:PE X a ta)(hb:PE X (.BoolOp .And (b::rest) pos) tb):PE X (.BoolOp .And (a::b::rest) pos) (tAndV ta tb):=by
 intro pins s σ H Q I h
 refine BoolOp_and (thn (ha pins s σ H _ I h) fun v s1 ⟨x,H1,I1,r1,q1⟩=>?_)
 obtain ⟨c,rfl,q1⟩:=q1
 cases r1
 refine wpAny_truthy_bool ?_
 cases c with
 | true=>exact hb pins s1 σ H1 Q I1 q1
 | false=>exact ⟨.bl false,H1,I1,rfl,q1⟩
theorem pe_not (ha:PE X a ta):PE X (.UnaryOp .Not a pos) (tNotV ta):=by
 intro pins s σ H Q I h
 refine UnaryOp_ (thn (ha pins s σ H _ I h) fun v s1 ⟨x,H1,I1,r1,q1⟩=>?_)
 obtain ⟨c,rfl,q1⟩:=q1
 cases r1
 exact not_of (wpAny_truthy_bool ⟨.bl (!c),H1,I1,rfl,q1⟩)
def tIf (t:TT)(ta tb:TE):TE:=fun σ H Q=>t σ H fun c H1=>if c=true then ta σ H1 Q else tb σ H1 Q
theorem pe_ifExp {c:Expr}(hc:PT X c tA)(ha:PE X a ta)(hb:PE X b tb):PE X (.IfExp c a b pos) (tIf tA ta tb):=by
 intro pins s σ H Q I h
 refine wpAny_IfExp (thn (hc pins s σ H _ I h) fun d s1 ⟨H1,I1,q1⟩=>?_)
 cases d with
 | true=>exact ha pins s1 σ H1 Q I1 q1
 | false=>exact hb pins s1 σ H1 Q I1 q1
end
end L2
namespace L2
open PySem PySem.Spec PyProof.Rows
def SqL (K:PySem.W.Frag)(H:Hp)(a:Addr)(xs:List V):Prop:=
 Rd H a (.lst xs) ∨
  ∃ (o:Obj) (its:Array Value) (n:Nat),K.lookup a=some o∧o.cls=.type "list"∧o.dict=none∧o.data=.seq its n∧its.size≤sizeLine∧Vals xs its.toList
def SqT (K:PySem.W.Frag)(H:Hp)(a:Addr)(xs:List V):Prop:=
 Rd H a (.tup xs) ∨
  ∃ (o:Obj) (its:Array Value) (n:Nat),K.lookup a=some o∧o.cls=.type "tuple"∧o.data=.seq its n∧its.size≤sizeLine∧Vals xs its.toList
def absV:Value→Option V
 | .none=>some .non
 | .bool b=>some (.bl b)
 | .int i _=>some (.int i)
 | .str x _=>some (.str x)
 | .bytes b _=>some (.byt b)
 | .float b _=>some (.flt b)
 | .ref a=>some (.ref a)
 | .type n=>some (.ty n)
 | _=>none
theorem RelV.abs {x:V}{u:Value}(r:RelV x u):absV u=some x:=by
 cases x with
 | non=>cases r; rfl
 | bl _=>cases r; rfl
 | int _=>obtain ⟨t,rfl⟩:=r; rfl
 | str _=>obtain ⟨t,rfl⟩:=r; rfl
 | byt _=>obtain ⟨t,rfl⟩:=r; rfl
 | flt _=>obtain ⟨t,rfl⟩:=r; rfl
 | ref _=>cases r; rfl
 | ty _=>cases r; rfl
theorem RelV.inj {x y:V}{u:Value}(r:RelV x u)(q:RelV y u):x=y:=Option.some.inj (r.abs.symm.trans q.abs)
theorem Vals.inj:∀ {xs ys:List V} {us:List Value},Vals xs us→Vals ys us→xs=ys
 | _,_,_,.nil,.nil=>rfl
 | _,_,_,.cons r t,.cons r' t'=>by rw [r.inj r',Vals.inj t t']
section
variable {X:Cx} {pins:List (Addr×Obj)} {σ:St} {H:Hp} {s:Shared} {a:Addr} {xs ys:List V}
theorem SqL.of {K:PySem.W.Frag}(h:H a=some (.lst xs)):SqL K H a xs:=.inl (.inl h)
theorem SqT.of {K:PySem.W.Frag}(h:H a=some (.tup xs)):SqT K H a xs:=.inl (.inl h)
theorem Inv.list (I:Inv X pins σ H s)(h:SqL X.K H a xs):∃ its:List Value,Vals xs its∧PlainL s.heap a its.toArray∧xs.length≤sizeLine:=by
 rcases h with h | ⟨o,its,n,hk,hc,hd,hs,hz,r⟩
 ·obtain ⟨z,its,n,r,e⟩:=h.ok I.hok
  exact ⟨its,r,⟨_,n,e,rfl,rfl,rfl⟩,z⟩
 ·refine ⟨its.toList,r,⟨o,n,I.kIn a o hk,hc,hd,by simpa using hs⟩,?_⟩
  have e:=r.length
  simp only [Array.length_toList] at e
  omega
theorem Inv.tuple (I:Inv X pins σ H s)(h:SqT X.K H a xs):∃ its:List Value,Vals xs its∧IsTup s.heap a its.toArray∧xs.length≤sizeLine:=by
 rcases h with h | ⟨o,its,n,hk,hc,hs,hz,r⟩
 ·obtain ⟨z,its,r,p⟩:=h.ok I.hok
  exact ⟨its,r,p,z⟩
 ·refine ⟨its.toList,r,⟨o,I.kIn a o hk,hc,n,by simpa using hs⟩,?_⟩
  have e:=r.length
  simp only [Array.length_toList] at e
  omega
theorem Inv.list_inj (I:Inv X pins σ H s)(h:SqL X.K H a xs)(h':SqL X.K H a ys):xs=ys:=by
 obtain ⟨its,r,⟨o,n,e,_,_,d⟩,_⟩:=I.list h
 obtain ⟨its',r',⟨o',n',e',_,_,d'⟩,_⟩:=I.list h'
 rw [e] at e'; cases e'
 rw [d] at d'
 injection d' with d1 _
 have:its=its':=by simpa using congrArg Array.toList d1
 subst this
 exact r.inj r'
theorem Inv.tuple_inj (I:Inv X pins σ H s)(h:SqT X.K H a xs)(h':SqT X.K H a ys):xs=ys:=by
 obtain ⟨its,r,⟨o,e,_,n,d⟩,_⟩:=I.tuple h
 obtain ⟨its',r',⟨o',e',_,n',d'⟩,_⟩:=I.tuple h'
 rw [e] at e'; cases e'
 rw [d] at d'
 injection d' with d1 _
 have:its=its':=by simpa using congrArg Array.toList d1
 subst this
 exact r.inj r'
end
abbrev Cx.wish (X:Cx)(E:Value→Shared→Prop):Cx:={ X with xe:=E }
abbrev Cx.nox (X:Cx):Cx:=X.wish fun _ _=>False
theorem Cx.Ok.wish {X:Cx}(ok:X.Ok)(E:Value→Shared→Prop):(X.wish E).Ok:=
 ⟨ok.mod,ok.kind,ok.glob,ok.blt,ok.above,ok.inj,ok.has,ok.cab,ok.hd,ok.frames,ok.stk,ok.exf,ok.bs,ok.bsz,ok.noex,ok.exfs,ok.funs,ok.frf⟩
theorem Cx.Ok.unwish {X:Cx}{E:Value→Shared→Prop}(ok:(X.wish E).Ok):X.Ok:=
 ⟨ok.mod,ok.kind,ok.glob,ok.blt,ok.above,ok.inj,ok.has,ok.cab,ok.hd,ok.frames,ok.stk,ok.exf,ok.bs,ok.bsz,ok.noex,ok.exfs,ok.funs,ok.frf⟩
section
variable {X:Cx} {pins:List (Addr×Obj)} {σ:St} {H:Hp} {s:Shared} {E:Value→Shared→Prop}
theorem Inv.wish (I:Inv X pins σ H s)(E:Value→Shared→Prop):Inv (X.wish E) pins σ H s:=⟨I.ok.wish E,I.os,I.bare,I.base,I.loc,I.cell,I.free,I.freeC,I.pin,I.hok,I.len⟩
theorem Inv.unwish (I:Inv (X.wish E) pins σ H s):Inv X pins σ H s:=⟨I.ok.unwish,I.os,I.bare,I.base,I.loc,I.cell,I.free,I.freeC,I.pin,I.hok,I.len⟩
theorem SP.unwish {D:Ends}{f:Flow}{s':Shared}(h:SP (X.wish E) pins D f s'):SP X pins D f s':=by
 cases f with
 | next=>obtain ⟨σ',H',I,q⟩:=h; exact ⟨σ',H',I.unwish,q⟩
 | brk=>obtain ⟨σ',H',I,q⟩:=h; exact ⟨σ',H',I.unwish,q⟩
 | cont=>obtain ⟨σ',H',I,q⟩:=h; exact ⟨σ',H',I.unwish,q⟩
 | ret u=>obtain ⟨v,σ',H',I,r,q⟩:=h; exact ⟨v,σ',H',I.unwish,r,q⟩
theorem PSs.nox {st:List Stmt}{t:TS}(h:PSs X.nox st t):PSs X st t:=fun pins s σ H D I hw=>
 wpAny_mono (h pins s σ H D (I.wish _) hw) (fun _ _ q=>q.unwish) fun _ _ z=>False.elim z
end
section
variable {X:Cx} {st:Stmt} {rest:List Stmt} {t u:TS} {e:Expr} {te:TE} {pos:Pos}
def tNext:TS:=fun D σ H=>D.nx σ H
def tSeq (t u:TS):TS:=fun D σ H=>t { D with nx:=u D } σ H
theorem pss_nil:PSs X [] tNext:=fun _ _ σ H _ I h=>wpAny_execs_nil ⟨σ,H,I,h⟩
theorem pss_cons (h1:PS X st t)(h2:PSs X rest u):PSs X (st::rest) (tSeq t u):=by
 intro pins s σ H D I h
 refine wpAny_execs_cons (thn (h1 pins s σ H { D with nx:=u D } I h) fun f s1 q=>?_)
 cases f with
 | next=>
  obtain ⟨σ',H',I',q⟩:=q
  exact h2 pins s1 σ' H' D I' q
 | ret v=>exact q
 | brk=>exact q
 | cont=>exact q
theorem pss_one (h1:PS X st t):PSs X [st] t:=by
 intro pins s σ H D I h
 refine wpAny_execs_cons (thn (h1 pins s σ H D I h) fun f s1 q=>?_)
 cases f with
 | next=>exact wpAny_execs_nil q
 | ret v=>exact q
 | brk=>exact q
 | cont=>exact q
theorem Inv.quiet {pins:List (Addr×Obj)}{σ:St}{H:Hp}{s:Shared}(I:Inv X pins σ H s):interactive X.env=false:=by simp [interactive,I.ok.kind]
def tDrop (te:TE):TS:=fun D σ H=>te σ H fun _ H1=>D.nx σ H1
theorem ps_expr (he:PE X e te)(hs:swapsWith e none pos.line X.env=pure false:=by rfl):PS X (.Expr e pos) (tDrop te):=by
 intro pins s σ H D I h
 exact wpAny_Expr_any (thn (he pins s σ H _ I h) fun v s1 ⟨x,H1,I1,r1,q1⟩=>⟨σ,H1,I1,q1⟩) I.quiet hs
def tRet (te:TE):TS:=fun D σ H=>te σ H D.rt
theorem ps_ret (he:PE X e te):PS X (.Return (some e) pos) (tRet te):=by
 intro pins s σ H D I h
 exact wpAny_Return_some (thn (he pins s σ H _ I h) fun v s1 ⟨x,H1,I1,r1,q1⟩=>⟨x,σ,H1,I1,r1,q1⟩)
def tIfS (c:TT)(t u:TS):TS:=fun D σ H=>c σ H fun b H1=>if b=true then t D σ H1 else u D σ H1
theorem ps_if {c:Expr}{a b:List Stmt}{tc:TT}(hc:PT X c tc)(ha:PSs X a t)(hb:PSs X b u):PS X (.If c a b pos) (tIfS tc t u):=by
 intro pins s σ H D I h
 refine wpAny_If (thn (hc pins s σ H _ I h) fun d s1 ⟨H1,I1,q1⟩=>?_)
 cases d with
 | true=>exact ha pins s1 σ H1 D I1 q1
 | false=>exact hb pins s1 σ H1 D I1 q1
end
abbrev TG:=V→St→Hp→(St→Hp→Prop)→Prop
abbrev TGs:=List V→St→Hp→(St→Hp→Prop)→Prop
def PG (X:Cx)(target:Expr)(t:TG):Prop:=
 ∀ (pins:List (Addr×Obj)) (s:Shared) (σ:St) (H:Hp) (v:V) (u:Value) (Q:St→Hp→Prop),Inv X pins σ H s→RelV v u→t v σ H Q →
  wpAny (model X.prog X.w) X.A (assign target X.env u) (fun _ s'=>∃ σ' H',Inv X pins σ' H' s'∧Q σ' H') X.xe s
def PGs (X:Cx)(ts:List Expr)(t:TGs):Prop:=
 ∀ (pins:List (Addr×Obj)) (s:Shared) (σ:St) (H:Hp) (vs:List V) (us:List Value) (Q:St→Hp→Prop),Inv X pins σ H s→Vals vs us→t vs σ H Q →
  wpAny (model X.prog X.w) X.A (assignInOrder ((assignEach ts X.env).map (·.2)) us) (fun _ s'=>∃ σ' H',Inv X pins σ' H' s'∧Q σ' H') X.xe s
abbrev TSet:=V→V→V→Hp→(Hp→Prop)→Prop
def PSet (X:Cx)(t:TSet):Prop:=
 ∀ (pins:List (Addr×Obj)) (s:Shared) (σ:St) (H:Hp) (o i v:V) (ov iv u:Value) (Q:Hp→Prop),Inv X pins σ H s→RelV o ov→RelV i iv→RelV v u→t o i v H Q →
  wpAny (model X.prog X.w) X.A (setItem ov iv u) (fun _ s'=>∃ H',Inv X pins σ H' s'∧Q H') X.xe s
section
variable {X:Cx} {pos:Pos}
def gName (i:Nat):TG:=fun v σ H Q=>Q (σ.set i (some v)) H
theorem pg_name {i:Nat}{x:Str}(hN:X.N.Nodup)(hi:X.N[i]? = some x)(hx:Loc X.env.scope x)(hf:X.fn x=true∨X.env.scope.names.lookup x=some .local:=by first | exact .inl rfl | exact .inr rfl | assumption):PG X (.Name x pos) (gName i):=by
 intro pins s σ H v u Q I r h
 exact wpAny_assign_Name (store_ok I hN hi hx r (fun s' I'=>⟨_,H,I',h⟩) hf)
def gNil:TGs:=fun vs σ H Q=>vs=[]∧Q σ H
def gCons (t:TG)(u:TGs):TGs:=fun vs σ H Q=>∃ v r,vs=v::r∧t v σ H fun σ' H'=>u r σ' H' Q
theorem pgs_nil:PGs X [] gNil:=by
 intro pins s σ H vs us Q I r h
 obtain ⟨e,h⟩:=h
 subst e
 cases r
 exact assignInOrder_nil ⟨σ,H,I,h⟩
theorem pgs_cons {e:Expr}{es:List Expr}{t:TG}{u:TGs}(h1:PG X e t)(h2:PGs X es u)
  (hs:(assignEach (e::es) X.env).map (·.2)=assign e X.env::(assignEach es X.env).map (·.2):=by rfl):PGs X (e::es) (gCons t u):=by
 intro pins s σ H vs us Q I r h
 obtain ⟨v,vr,e1,h⟩:=h
 subst e1
 cases r with
 | cons r rr=>
  rw [hs]
  refine assignInOrder_cons (thn (h1 pins s σ H _ _ _ I r h) fun _ s1 ⟨σ1,H1,I1,q1⟩=>?_)
  exact h2 pins s1 σ1 H1 _ _ Q I1 rr q1
def gTup (K:PySem.W.Frag)(n:Nat)(t:TGs):TG:=fun v σ H Q=>∃ a xs,v=.ref a∧SqT K H a xs∧xs.length=n∧t xs σ H Q
theorem pg_tup {es:List Expr}{k:Nat}{t:TGs}{n:Nat}(hc:X.calm=true)(h:PGs X es t)
  (hn:(assignEach es X.env).length=n:=by rfl) (hst:(assignEach es X.env).findIdx? (·.1)=none:=by rfl):PG X (.Tuple es k pos) (gTup X.K n t):=by
 intro pins s σ H v u Q I r hw
 obtain ⟨a,xs,e1,hq,hl,hw⟩:=hw
 subst e1
 cases r
 obtain ⟨its,rv,ht,hz⟩:=I.tuple hq
 refine assign_Tuple_tuple (I.ok.hd hc) ht (by simp [hn,← hl,rv.length]) hst fun h' hx=>?_
 have I1:Inv X pins σ H { s with heap:=h' }:=I.kept (t':=s.toks) fun b o e=>hx b o (Nat.ne_of_lt (Heap.lt_size e)) e
 exact h pins _ σ H xs _ Q I1 (by simpa using rv) hw
def gSub (to ti:TE)(t:TSet):TG:=fun v σ H Q=>to σ H fun o H1=>ti σ H1 fun i H2=>t o i v H2 fun H3=>Q σ H3
theorem pg_sub {o i:Expr}{to ti:TE}{t:TSet}(ho:PE X o to)(hi:PE X i ti)(hs:PSet X t)
  (ha:∀ v,assign (.Subscript o i pos) X.env v=(do
   let ov ← holding [v] (eval o X.env)
   let iv ← holding [v,ov] (eval i X.env)
   standAt pos
   holding [v,ov,iv] (setItem ov iv v)
   release [v,ov,iv] []):=by intro _; rfl):PG X (.Subscript o i pos) (gSub to ti t):=by
 intro pins s σ H v u Q I r h
 rw [ha]
 refine wpAny_bind (wpAny_holding (thn (ho pins s σ H _ I h) fun ov s1 ⟨x,H1,I1,r1,q1⟩=>?_))
 refine wpAny_bind (wpAny_holding (thn (hi pins s1 σ H1 _ I1 q1) fun iv s2 ⟨y,H2,I2,r2,q2⟩=>?_))
 refine wpAny_bind (wpAny_standAt (wpAny_bind (wpAny_holding (thn (hs pins s2 σ H2 x y v ov iv u _ I2 r1 r2 r q2) fun _ s3 ⟨H3,I3,q3⟩=>?_))))
 exact wpAny_release ⟨σ,H3,I3,q3⟩
def tAsg (te:TE)(g:TG):TS:=fun D σ H=>te σ H fun x H1=>g x σ H1 D.nx
theorem ps_asg {tg e:Expr}{te:TE}{g:TG}(he:PE X e te)(hg:PG X tg g)(hs:swapsWithSole [tg] e pos.line X.env=pure false:=by rfl)(hw:swappedStores [tg] e X.env=pure none:=by rfl)
  (h1:(assignEach [tg] X.env).map (·.2)=[assign tg X.env]:=by rfl):PS X (.Assign [tg] e pos) (tAsg te g):=by
 intro pins s σ H D I h
 refine wpAny_Assign_stores (thn (he pins s σ H _ I h) fun v s1 ⟨x,H1,I1,r1,q1⟩=>?_) hs hw
 rw [h1]
 exact thn (hg pins s1 σ H1 x v _ I1 r1 q1) fun _ s2 q=>q
theorem ps_set {i:Nat}{x:Str}{e:Expr}{te:TE}{pos':Pos}(hN:X.N.Nodup)(hi:X.N[i]? = some x)(hx:Loc X.env.scope x)(he:PE X e te)(hs:swapsWith e (some (.Name x pos')) pos.line X.env=pure false:=by rfl)(hf:X.fn x=true∨X.env.scope.names.lookup x=some .local:=by first | exact .inl rfl | exact .inr rfl | assumption) :
  PS X (.Assign [.Name x pos'] e pos) (tAsg te (gName i)):=by
 intro pins s σ H D I h
 refine wpAny_Assign_Name (thn (he pins s σ H _ I h) fun v s1 ⟨y,H1,I1,r1,q1⟩=>?_) hs
 exact store_ok I1 hN hi hx r1 (fun s2 I2=>⟨_,H1,I2,q1⟩) hf
end
section
variable {X:Cx} {pos:Pos}
def tWhile (c:TT)(tb:TS):TS:=fun D σ H=>∃ W:Nat→St→Hp→Prop,(∃ m,W m σ H)∧∀ m σ H,W m σ H →
 c σ H fun b H1=>if b=true then ∃ N:St→Hp→Prop,(∀ σ' H',N σ' H'→∃ m',m'<m∧W m' σ' H')∧tb { D with nx:=N,ct:=N,bk:=D.nx } σ H1 else D.nx σ H1
theorem ps_while {c:Expr}{body:List Stmt}{tc:TT}{tb:TS}(hp:PassesOwn (model X.prog X.w) X.A X.env X.xe)(hc:PT X c tc)(hb:PSs X body tb):PS X (.While c body [] pos) (tWhile tc tb):=by
 intro pins s σ H D I h
 obtain ⟨W,⟨m0,w0⟩,turn⟩:=h
 refine wpAny_While (codeAny_whileLoop (fun n s'=>∃ σ' H',Inv X pins σ' H' s'∧W n σ' H') ?_ m0 ⟨σ,H,I,w0⟩)
 rintro n s1 ⟨σ1,H1,I1,w1⟩
 refine wpAny_passesOwn hp (thn (hc pins s1 σ1 H1 _ I1 (turn n σ1 H1 w1)) fun b s2 ⟨H2,I2,q2⟩=>?_)
 cases b with
 | true=>
  obtain ⟨N,hN,q2⟩:=q2
  rw [if_pos rfl]
  refine wpAny_passesOwn hp (thn (hb pins s2 σ1 H2 _ I2 q2) fun f s3 q3=>?_)
  cases f with
  | next=>
   obtain ⟨σ3,H3,I3,n3⟩:=q3
   obtain ⟨m',hm,w3⟩:=hN σ3 H3 n3
   exact ⟨m',hm,σ3,H3,I3,w3⟩
  | cont=>
   obtain ⟨σ3,H3,I3,n3⟩:=q3
   obtain ⟨m',hm,w3⟩:=hN σ3 H3 n3
   exact ⟨m',hm,σ3,H3,I3,w3⟩
  | brk=>exact q3
  | ret v=>exact q3
 | false=>
  rw [if_neg Bool.false_ne_true]
  exact wpAny_execs_nil ⟨σ1,H2,I2,q2⟩
end
structure It where
 go:Nat→Hp→Prop
 yld:Nat→Hp→V→Hp→Prop
 stop:Nat→Hp→Prop
def FpOk (X:Cx)(pins:List (Addr×Obj))(H:Hp)(b:Addr):Prop:=
 H b=none∧b≠X.env.locals∧b ∉ X.fs∧(b∈X.ex∨X.s₀.heap.objs.size≤b)∧(∀ x c,X.env.cells.lookup x=some c→c≠b)∧∀ p∈X.pn++pins,p.1≠b
theorem Inv.fpOk {X:Cx}{pins:List (Addr×Obj)}{σ:St}{H H':Hp}{s:Shared}{b:Addr}(I:Inv X pins σ H s)(hb:s.heap.objs.size≤b)(hn:H' b=none):FpOk X pins H' b:=by
 refine ⟨hn,Nat.ne_of_gt (Nat.lt_of_lt_of_le I.lt hb),I.nofs hb,.inr (Nat.le_trans I.sz hb),fun x c e z=>?_,fun p hp z=>?_⟩
 ·obtain ⟨v,q⟩:=I.cell x c e
  exact absurd (Nat.lt_of_lt_of_le q.lt (by rw [z]; exact hb)) (Nat.lt_irrefl _)
 ·exact absurd (Nat.lt_of_lt_of_le (Heap.lt_size (I.pin p hp).1) (by rw [z]; exact hb)) (Nat.lt_irrefl _)
structure Turn (P:Program)(w:World)(K:PySem.W.Frag)(tg:Expr)(J:It)(fp:List Addr)(it:Addr)(tn:Nat→Heap→Prop):Prop where
 mem:it∈fp
 obj:∀ i h,tn i h→∀ b∈fp,∃ o,h.get? b=some o∧∀ v,o.data≠.cell v
 keep:∀ i h h',tn i h→(∀ b∈fp,∀ o,h.get? b=some o→h'.get? b=some o)→tn i h'
 item:∀ (X:Cx),X.prog=P→X.w=w→X.K=K→X.calm=true→∀ (i:Nat) (pins:List (Addr×Obj)) (s:Shared) (σ:St) (H:Hp) (E:Value→Shared→Prop),Inv X pins σ H s→(∀ b∈fp,FpOk X pins H b)→tn i s.heap→J.go i H →
  wpAny (model P w) X.A (pyNext (.ref it)) (fun r s1=>∃ u,r=some u ∧
   wpAny (model P w) X.A (letOwnedTupleGo tg (.ref it) u) (fun _ s2=>∃ x H',Inv X pins σ H' s2∧RelV x u∧J.yld i H x H'∧tn (i+1) s2.heap∧∀ b∈fp,H' b=none) E s1) E s
 done:∀ (X:Cx),X.prog=P→X.w=w→X.K=K→X.calm=true→∀ (i:Nat) (pins:List (Addr×Obj)) (s:Shared) (σ:St) (H:Hp) (E:Value→Shared→Prop),Inv X pins σ H s→(∀ b∈fp,FpOk X pins H b)→tn i s.heap→J.stop i H →
  wpAny (model P w) X.A (pyNext (.ref it)) (fun r s1=>r=none∧Inv X pins σ H s1) E s
 self:∀ (A:Around) (i:Nat) (s:Shared) (Q:Value→Shared→Prop) (E:Value→Shared→Prop),tn i s.heap→Q (.ref it) s→wpAny (model P w) A (pyIter (.ref it)) Q E s
abbrev TI:=St→Hp→(It→Hp→Prop)→Prop
def PIE (X:Cx)(pins:List (Addr×Obj))(σ:St)(tg:Expr)(R:It→Hp→Prop)(itv:Value)(s2:Shared):Prop:=
 ∃ (it:Addr) (fp:List Addr) (tn:Nat→Heap→Prop) (J:It) (H':Hp),itv=.ref it∧Inv X pins σ H' s2∧Turn X.prog X.w X.K tg J fp it tn∧tn 0 s2.heap∧(∀ b∈fp,FpOk X pins H' b)∧R J H'
def PI (X:Cx)(tg iter:Expr)(wi:TI):Prop:=
 ∀ (pins:List (Addr×Obj)) (s:Shared) (σ:St) (H:Hp) (R:It→Hp→Prop),Inv X pins σ H s→wi σ H R →
  wpAny (model X.prog X.w) X.A (eval iter X.env) (fun v s1=>wpAny (model X.prog X.w) X.A (pyIter v) (PIE X pins σ tg R) X.xe s1) X.xe s
theorem go_of {M:Model}{A:Around}{E:Value→Shared→Prop}{s:Shared}{tg:Expr}{it:Addr}{u:Value}{o:Obj}{n:String}{vs:Array Value}{Q:Unit→Shared→Prop}(ho:s.heap.get? it=some o)(hc:o.cls=.type n)(hd:o.data=.fields vs)
    (hn:["enumerate","zip","dict_itemiterator","dict_reverseitemiterator","odict_iterator","itertools.zip_longest","itertools.pairwise"].contains n=false) (hQ:Q () s):wpAny M A (letOwnedTupleGo tg (.ref it) u) Q E s:=by
  unfold letOwnedTupleGo
  cases tg <;> first
    | exact wpAny_pure hQ
    | (cases u <;> first
        | exact wpAny_pure hQ
        | (refine wpAny_bind (wpAny_load ho ?_)
           rw [hc,hd]
           show wpAny M A (if (["enumerate","zip","dict_itemiterator","dict_reverseitemiterator","odict_iterator","itertools.zip_longest","itertools.pairwise"].contains n && vs[0]? == some (rawInt _))=true then _ else _) Q E s
           rw [if_neg (by intro h; rw [hn,Bool.false_and] at h; cases h)]
           exact wpAny_pure hQ))
def Itl (K:PySem.W.Frag)(a:Addr):It:=
 ⟨fun i H=>∃ xs x,SqL K H a xs∧xs[i]? = some x,fun i H x H'=>H'=H∧∀ xs,SqL K H a xs→xs[i]? = some x,fun i H=>∃ xs,SqL K H a xs∧xs.length≤i⟩
def Itt (K:PySem.W.Frag)(a:Addr):It:=
 ⟨fun i H=>∃ xs x,SqT K H a xs∧xs[i]? = some x,fun i H x H'=>H'=H∧∀ xs,SqT K H a xs→xs[i]? = some x,fun i H=>∃ xs,SqT K H a xs∧xs.length≤i⟩
def Itr (lo:Int)(n:Nat):It:=⟨fun i _=>i<n,fun i H x H'=>H'=H∧x=.int (lo+i),fun i _=>n≤i⟩
theorem turn_list {P:Program}{w:World}{K:PySem.W.Frag}{tg:Expr}(a it:Addr):Turn P w K tg (Itl K a) [it] it (fun i h=>h.IsListIter it a i) where
 mem:=by simp
 obj:=fun i h st b hb=>by
  have e:b=it:=by simpa using hb
  subst e
  obtain ⟨o,e,c,d⟩:=st
  exact ⟨o,e,fun v z=>by rw [d] at z; cases z⟩
 keep:=fun i h h' st k=>st.at fun o e=>k it (by simp) o e
 item:=by
  intro X hP hw hK hc i pins s σ H E I hf st hg
  subst hP hw hK
  obtain ⟨xs,x,hq,hx⟩:=hg
  obtain ⟨its,rv,p,hz⟩:=I.list hq
  obtain ⟨u,hu,ru⟩:=rv.get hx
  obtain ⟨f0,f1,f2,f3,f4,f5⟩:=hf it (by simp)
  refine wpAny_pyNext_list_item st p.isList (x:=u) (by simpa using hu) fun h' st' sb=>?_
  have I1:Inv X pins σ H { s with heap:=h' }:=I.turned (t':=s.toks) (fun b o hb e=>(sb.2 b hb).trans e) f0 f1 f3 f4 f5
  obtain ⟨o,e,c,d⟩:=id st'
  exact ⟨u,rfl,go_of (s:={ s with heap:=h' }) e c d (by decide) ⟨x,H,I1,ru,⟨rfl,fun ys hy=>by rw [I.list_inj hy hq]; exact hx⟩,st',fun b hb=>(hf b hb).1⟩⟩
 done:=by
  intro X hP hw hK hc i pins s σ H E I hf st hg
  subst hP hw hK
  obtain ⟨xs,hq,hx⟩:=hg
  obtain ⟨its,rv,p,hz⟩:=I.list hq
  obtain ⟨f0,f1,f2,f3,f4,f5⟩:=hf it (by simp)
  have hl:=rv.length
  exact wpAny_pyNext_list_end (I.ok.hd hc) st p.isList (by simp; omega) fun h' eb=>⟨rfl,I.turned (t':=s.toks) (fun b o hb e=>eb b o hb e) f0 f1 f3 f4 f5⟩
 self:=fun _ _ _ _ _ st h=>wpAny_pyIter_listiter st h
theorem turn_tuple {P:Program}{w:World}{K:PySem.W.Frag}{tg:Expr}(a it:Addr):Turn P w K tg (Itt K a) [it] it (fun i h=>h.IsTupleIter it a i) where
 mem:=by simp
 obj:=fun i h st b hb=>by
  have e:b=it:=by simpa using hb
  subst e
  obtain ⟨o,e,c,d⟩:=st
  exact ⟨o,e,fun v z=>by rw [d] at z; cases z⟩
 keep:=fun i h h' st k=>st.at fun o e=>k it (by simp) o e
 item:=by
  intro X hP hw hK hc i pins s σ H E I hf st hg
  subst hP hw hK
  obtain ⟨xs,x,hq,hx⟩:=hg
  obtain ⟨its,rv,p,hz⟩:=I.tuple hq
  obtain ⟨u,hu,ru⟩:=rv.get hx
  obtain ⟨f0,f1,f2,f3,f4,f5⟩:=hf it (by simp)
  refine wpAny_pyNext_tuple_item st (show s.heap.IsTuple a its.toArray from p) (x:=u) (by simpa using hu) fun h' st' sb=>?_
  have I1:Inv X pins σ H { s with heap:=h' }:=I.turned (t':=s.toks) (fun b o hb e=>(sb.2 b hb).trans e) f0 f1 f3 f4 f5
  obtain ⟨o,e,c,d⟩:=id st'
  exact ⟨u,rfl,go_of (s:={ s with heap:=h' }) e c d (by decide) ⟨x,H,I1,ru,⟨rfl,fun ys hy=>by rw [I.tuple_inj hy hq]; exact hx⟩,st',fun b hb=>(hf b hb).1⟩⟩
 done:=by
  intro X hP hw hK hc i pins s σ H E I hf st hg
  subst hP hw hK
  obtain ⟨xs,hq,hx⟩:=hg
  obtain ⟨its,rv,p,hz⟩:=I.tuple hq
  obtain ⟨f0,f1,f2,f3,f4,f5⟩:=hf it (by simp)
  have hl:=rv.length
  exact wpAny_pyNext_tuple_end (I.ok.hd hc) st (show s.heap.IsTuple a its.toArray from p) (by simp; omega) fun h' eb=>⟨rfl,I.turned (t':=s.toks) (fun b o hb e=>eb b o hb e) f0 f1 f3 f4 f5⟩
 self:=fun _ _ _ _ _ st h=>wpAny_pyIter_tupleiter st h
theorem turn_range {P:Program}{w:World}{K:PySem.W.Frag}{tg:Expr}(it:Addr)(lo:Int)(n:Nat):Turn P w K tg (Itr lo n) [it] it (fun i h=>IsRangeIter h it (lo+(i:Nat) * 1) ((n:Int) - (i:Nat)) 1) where
 mem:=by simp
 obj:=fun i h st b hb=>by
  have e:b=it:=by simpa using hb
  subst e
  exact ⟨_,st,fun v z=>by
   have z':Data.fields _=Data.cell v:=z
   cases z'⟩
 keep:=fun i h h' st k=>k it (by simp) _ st
 item:=by
  intro X hP hw hK hc i pins s σ H E I hf st hg
  subst hP hw hK
  obtain ⟨f0,f1,f2,f3,f4,f5⟩:=hf it (by simp)
  have W:=Walks.range (prog:=X.prog) (w:=X.w) (I.ok.hd hc) it lo 1 n
  refine W.item i s _ _ hg st fun v h' tk hv st' kk=>?_
  obtain ⟨t,rfl⟩:=hv
  have I1:Inv X pins σ H { s with heap:=h',toks:=tk }:=I.turned (fun b o hb e=>kk b o (by simpa using hb) e) f0 f1 f3 f4 f5
  refine ⟨_,rfl,go_of (s:={ s with heap:=h',toks:=tk }) (n:="range_iterator") st' rfl rfl (by decide) ⟨.int (lo+i),H,I1,⟨t,?_⟩,⟨rfl,rfl⟩,st',fun b hb=>(hf b hb).1⟩⟩
  rw [Int.mul_one]
 done:=by
  intro X hP hw hK hc i pins s σ H E I hf st hg
  subst hP hw hK
  obtain ⟨f0,f1,f2,f3,f4,f5⟩:=hf it (by simp)
  exact wpAny_pyNext_range_end (I.ok.hd hc) st (by have:n≤i:=hg; omega) fun h' eb=>⟨rfl,I.turned (t':=s.toks) (fun b o hb e=>eb b o hb e) f0 f1 f3 f4 f5⟩
 self:=fun _ _ _ _ _ st h=>wpAny_pyIter_rangeiter st h
end L2
namespace L2
open PySem PySem.Spec PyProof.Rows
section
variable {X:Cx} {tg:Expr}
def iList (K:PySem.W.Frag)(tl:TE):TI:=fun σ H R=>tl σ H fun x H1=>∃ a,x=.ref a∧(∃ xs,SqL K H1 a xs)∧R (Itl K a) H1
def iTup (K:PySem.W.Frag)(tl:TE):TI:=fun σ H R=>tl σ H fun x H1=>∃ a,x=.ref a∧(∃ xs,SqT K H1 a xs)∧R (Itt K a) H1
theorem pi_list {l:Expr}{tl:TE}(hl:PE X l tl):PI X tg l (iList X.K tl):=by
 intro pins s σ H R I h
 refine thn (hl pins s σ H _ I h) fun v s1 ⟨x,H1,I1,r1,q1⟩=>?_
 obtain ⟨a,e,⟨xs,hq⟩,q⟩:=q1
 subst e
 cases r1
 obtain ⟨its,rv,p,hz⟩:=I1.list hq
 refine wpAny_pyIter_list p.isList ?_
 refine ⟨s1.heap.objs.size,[s1.heap.objs.size],_,_,H1,rfl,I1.kept (t':=s1.toks) fun b o e=>Heap.get?_push_of_some _ e,turn_list a _,⟨_,Heap.get?_push_size _ rfl,rfl,rfl⟩,fun b hb=>?_,q⟩
 have e:b=s1.heap.objs.size:=by simpa using hb
 subst e
 exact I1.fpOk (Nat.le_refl _) (I1.hok.fresh (Nat.le_refl _))
theorem pi_tup {l:Expr}{tl:TE}(hl:PE X l tl):PI X tg l (iTup X.K tl):=by
 intro pins s σ H R I h
 refine thn (hl pins s σ H _ I h) fun v s1 ⟨x,H1,I1,r1,q1⟩=>?_
 obtain ⟨a,e,⟨xs,hq⟩,q⟩:=q1
 subst e
 cases r1
 obtain ⟨its,rv,p,hz⟩:=I1.tuple hq
 refine wpAny_pyIter_tuple (show s1.heap.IsTuple a its.toArray from p) ?_
 refine ⟨s1.heap.objs.size,[s1.heap.objs.size],_,_,H1,rfl,I1.kept (t':=s1.toks) fun b o e=>Heap.get?_push_of_some _ e,turn_tuple a _,⟨_,Heap.get?_push_size _ rfl,rfl,rfl⟩,fun b hb=>?_,q⟩
 have e:b=s1.heap.objs.size:=by simpa using hb
 subst e
 exact I1.fpOk (Nat.le_refl _) (I1.hok.fresh (Nat.le_refl _))
theorem range_it {pins:List (Addr×Obj)}{σ:St}{H:Hp}{s:Shared}{R:It→Hp→Prop}{E:Value→Shared→Prop}{lo hi:Int}{t u v:Tok}{tk:Nat}(I:Inv X pins σ H s)(h1:-(2 ^ 62)≤lo)(h2:lo<2 ^ 62)(h3:-(2 ^ 62)≤hi)(h4:hi<2 ^ 62)
  (q:R (Itr lo (hi - lo).toNat) H):wpAny (model X.prog X.w) X.A (pyIter (.ref s.heap.objs.size)) (PIE X pins σ tg R) E { s with heap:=s.heap.push { cls:=.type "range",data:=.fields #[.int lo t,.int hi u,.int 1 v] },toks:=tk }:=by
 refine wpAny_pyIter_range (IsRange.new ..) (small_one h1 h2 h3 h4) ?_
 have I1:Inv X pins σ H { s with heap:=s.heap.push { cls:=.type "range",data:=.fields #[.int lo t,.int hi u,.int 1 v] },toks:=tk }:=I.kept fun b o e=>Heap.get?_push_of_some _ e
 refine ⟨(s.heap.push { cls:=.type "range",data:=.fields #[.int lo t,.int hi u,.int 1 v] }).objs.size,[(s.heap.push { cls:=.type "range",data:=.fields #[.int lo t,.int hi u,.int 1 v] }).objs.size],_,_,H,rfl,
  I1.kept (t':=tk) fun b o e=>Heap.get?_push_of_some _ e,turn_range _ lo (hi - lo).toNat,?_,fun b hb=>?_,q⟩
 ·have e1:lo+((0:Nat):Int) * 1=lo:=by simp
  have e2:(((hi - lo).toNat:Nat):Int) - ((0:Nat):Int)=Builtin.Range.rangeSize lo hi 1:=by rw [rangeSize_one]; split <;> omega
  show IsRangeIter _ _ (lo+((0:Nat):Int) * 1) ((((hi - lo).toNat:Nat):Int) - ((0:Nat):Int)) 1
  rw [e1,e2]
  exact Heap.get?_push_size _ rfl
 ·have e:b=(s.heap.push { cls:=.type "range",data:=.fields #[.int lo t,.int hi u,.int 1 v] }).objs.size:=by simpa using hb
  subst e
  exact I1.fpOk (Nat.le_refl _) (I1.hok.fresh (Nat.le_refl _))
def iRng1 (ta:TA):TI:=fun σ H R=>ta σ H fun vs H1=>∃ j:Int,vs=[.int j] ∧ -(2 ^ 62)≤j∧j<2 ^ 62∧R (Itr 0 j.toNat) H1
theorem pi_range1 {a:Expr}{ta:TA}{p pos:Pos}(hg:Gl X "range")(hm:X.mg "range"=none)(ha:PA X [a] ta)(hs:starEach [a] X.env=[(false,eval a X.env)]:=by rfl):PI X tg (.Call (.Name "range" p) [a] [] pos) (iRng1 ta):=by
 intro pins s σ H R I h
 refine Call_ (ld_blt I hg hm boot_range (PyProof.Rows.callWith_type1 (thn (ha pos pins s σ H _ I h) fun us s1 ⟨vs,H1,I1,r1,q1⟩=>?_) hs rfl))
 obtain ⟨j,e,q1,q2,q⟩:=q1
 subst e
 cases r1 with
 | cons r rr=>
  cases rr
  obtain ⟨t,rfl⟩:=r
  exact call_range_1 (range_it I1 (by omega) (by omega) q1 q2 (by simpa using q))
def tFor (wi:TI)(g:TG)(tb:TS):TS:=fun D σ H=>wi σ H fun J H1=>∃ W:Nat→Nat→St→Hp→Prop,(∃ m,W 0 m σ H1)∧∀ i m σ H,W i m σ H →
 (J.stop i H∧D.nx σ H)∨(J.go i H∧∃ N:St→Hp→Prop,(∀ σ' H',N σ' H'→∃ m',m'<m∧W (i+1) m' σ' H')∧∀ x H',J.yld i H x H'→g x σ H' fun σ2 H2=>tb { D with nx:=N,ct:=N,bk:=D.nx } σ2 H2)
def pinsAt (fp:List Addr)(h:Heap):List (Addr×Obj):=fp.filterMap fun b=>(h.get? b).map fun o=>(b,o)
theorem mem_pinsAt {fp:List Addr}{h:Heap}{b:Addr}{o:Obj}(hb:b∈fp)(e:h.get? b=some o):(b,o)∈pinsAt fp h:=List.mem_filterMap.mpr ⟨b,hb,by rw [e]; rfl⟩
theorem of_pinsAt {fp:List Addr}{h:Heap}{p:Addr×Obj}(hp:p∈pinsAt fp h):p.1∈fp∧h.get? p.1=some p.2:=by
 obtain ⟨b,hb,e⟩:=List.mem_filterMap.mp hp
 cases q:h.get? b with
 | none=>rw [q] at e; cases e
 | some o=>
  rw [q] at e
  have e':(b,o)=p:=Option.some.inj e
  subst e'
  exact ⟨hb,q⟩
theorem Inv.pinned {pins:List (Addr×Obj)}{σ:St}{H:Hp}{s:Shared}{fp:List Addr}(I:Inv X pins σ H s)(hf:∀ b∈fp,FpOk X pins H b)(ho:∀ b∈fp,∃ o,s.heap.get? b=some o∧∀ v,o.data≠.cell v):Inv X (pins++pinsAt fp s.heap) σ H s:=
 I.pins_of fun p hp=>(List.mem_append.mp hp).elim (fun z=>I.pin p (List.mem_append_right _ z)) fun z=>by
  obtain ⟨hb,e⟩:=of_pinsAt z
  obtain ⟨f0,f1,f2,_⟩:=hf p.1 hb
  obtain ⟨o,e',d⟩:=ho p.1 hb
  rw [e] at e'; cases e'
  exact ⟨e,f0,f1,f2,d⟩
theorem Inv.unpinned {pins pl:List (Addr×Obj)}{σ:St}{H:Hp}{s:Shared}(I:Inv X (pins++pl) σ H s):Inv X pins σ H s:=I.pins_of fun p hp=>I.pin p (List.mem_append_right _ (List.mem_append_left _ hp))
theorem ps_for {iter:Expr}{body:List Stmt}{wi:TI}{g:TG}{tb:TS}{pos:Pos}(hp:PassesOwn (model X.prog X.w) X.A X.env X.xe)(hc:X.calm=true)(hi:PI X tg iter wi)(hg:PG X tg g)(hb:PSs X body tb)
  (hs:∀ x,foldedSetIterable iter X.env x=pure x:=by intro _; rfl):PS X (.For tg iter body [] pos) (tFor wi g tb):=by
 intro pins s σ H D I h
 refine wpAny_For (thn (hi pins s σ H _ I h) fun v s1 h1=>thn h1 fun itv s2 h2=>?_) hs
 obtain ⟨it,fp,tn,J,H2,e,I2,T,st2,f2,W,⟨m0,w0⟩,turn⟩:=h2
 subst e
 have stat:∀ {H':Hp},(∀ b∈fp,H' b=none)→∀ b∈fp,FpOk X pins H' b:=fun hn b hb=>⟨hn b hb,(f2 b hb).2⟩
 refine codeAny_forLoop_any (fun n s'=>∃ i σ' H',Inv X pins σ' H' s'∧tn i s'.heap∧(∀ b∈fp,H' b=none)∧W i n σ' H') ?_ m0 ⟨0,σ,H2,I2,st2,fun b hb=>(f2 b hb).1,w0⟩
 rintro n s3 ⟨i,σ3,H3,I3,st3,fr3,w3⟩
 rcases turn i n σ3 H3 w3 with ⟨stop,qn⟩ | ⟨go,N,hN,step⟩
 ·refine wpAny_passesOwn hp (thn (T.done X rfl rfl rfl hc i pins s3 σ3 H3 X.xe I3 (stat fr3) st3 stop) fun r s4 ⟨hr,I4⟩=>?_)
  subst hr
  exact wpAny_execs_nil ⟨σ3,H3,I4,qn⟩
 ·refine wpAny_passesOwn hp (thn (T.item X rfl rfl rfl hc i pins s3 σ3 H3 X.xe I3 (stat fr3) st3 go) fun r s4 ⟨u,hr,h4⟩=>?_)
  subst hr
  refine wpAny_passesOwn hp (thn h4 fun _ s5 ⟨x,H5,I5,r5,y5,st5,fr5⟩=>?_)
  have I5':=I5.pinned (stat fr5) (T.obj _ _ st5)
  refine wpAny_passesOwn hp (thn (hg _ s5 σ3 H5 x u _ I5' r5 (step x H5 y5)) fun _ s6 ⟨σ6,H6,I6,q6⟩=>?_)
  refine wpAny_passesOwn hp (thn (hb _ s6 σ6 H6 _ I6 q6) fun f s7 q7=>?_)
  have again:∀ {σ7:St} {H7:Hp},Inv X (pins++pinsAt fp s5.heap) σ7 H7 s7→N σ7 H7→∃ m,m<n∧∃ i σ' H',Inv X pins σ' H' s7∧tn i s7.heap∧(∀ b∈fp,H' b=none)∧W i m σ' H':=fun {σ7 H7} I7 n7=>by
   obtain ⟨m',hm,w7⟩:=hN σ7 H7 n7
   refine ⟨m',hm,i+1,σ7,H7,I7.unpinned,T.keep _ _ _ st5 fun b hb o e=>(I7.pin (b,o) (List.mem_append_right _ (List.mem_append_right _ (mem_pinsAt hb e)))).1,fun b hb=>?_,w7⟩
   obtain ⟨o,e,d⟩:=T.obj _ _ st5 b hb
   exact (I7.pin (b,o) (List.mem_append_right _ (List.mem_append_right _ (mem_pinsAt hb e)))).2.1
  cases f with
  | next=>obtain ⟨σ7,H7,I7,n7⟩:=q7; exact again I7 n7
  | cont=>obtain ⟨σ7,H7,I7,n7⟩:=q7; exact again I7 n7
  | brk=>obtain ⟨σ7,H7,I7,q7⟩:=q7; exact ⟨σ7,H7,I7.unpinned,q7⟩
  | ret v=>obtain ⟨x7,σ7,H7,I7,r7,q7⟩:=q7; exact ⟨x7,σ7,H7,I7.unpinned,r7,q7⟩
end
end L2
namespace L2
open PySem PySem.Spec PyProof.Rows
abbrev R2:=V→V→Hp→VK→Prop
def OpR (X:Cx)(f:Value→Value→Sem Value)(r:R2):Prop:=
 ∀ (pins:List (Addr×Obj)) (s:Shared) (σ:St) (H:Hp) (x y:V) (v u:Value) (Q:VK),Inv X pins σ H s→RelV x v→RelV y u→r x y H Q →
  wpAny (model X.prog X.w) X.A (f v u) (EP X pins σ Q) X.xe s
def CallR (X:Cx)(f:Value)(r:List V→Hp→VK→Prop):Prop:=
 ∀ (pins:List (Addr×Obj)) (s:Shared) (σ:St) (H:Hp) (xs:List V) (us:List Value) (Q:VK),Inv X pins σ H s→Vals xs us→r xs H Q →
  wpAny (model X.prog X.w) X.A (call f us) (EP X pins σ Q) X.xe s
def TruR (X:Cx)(r:V→Hp→(Bool→Hp→Prop)→Prop):Prop:=
 ∀ (pins:List (Addr×Obj)) (s:Shared) (σ:St) (H:Hp) (x:V) (v:Value) (Q:Bool→Hp→Prop),Inv X pins σ H s→RelV x v→r x H Q →
  wpAny (model X.prog X.w) X.A (truthy v) (TP X pins σ Q) X.xe s
def tOp (r:R2)(ta tb:TE):TE:=fun σ H Q=>ta σ H fun x H1=>tb σ H1 fun y H2=>r x y H2 Q
def rI (C:Int→Int→Prop)(g:Int→Int→V):R2:=fun x y H Q=>∃ i j,x=.int i∧y=.int j∧C i j∧Q (g i j) H
def rI0 (g:Int→Int→V):R2:=fun x y H Q=>∃ i j,x=.int i∧y=.int j∧Q (g i j) H
section
variable {X:Cx} {a b c:Expr} {ta tb tc:TE} {pos:Pos}
theorem binT (ha:PE X a ta)(hb:PE X b tb){pins:List (Addr×Obj)}{s:Shared}{σ:St}{H:Hp}{R:V→V→Hp→Prop}(I:Inv X pins σ H s)
  (h:ta σ H fun x H1=>tb σ H1 fun y H2=>R x y H2) {Q:Value→Shared→Prop} {f:Value→Value→Sem Value}
  (hf:∀ v u s2 x y H2,Inv X pins σ H2 s2→RelV x v→RelV y u→R x y H2→wpAny (model X.prog X.w) X.A (f v u) Q X.xe s2) :
  wpAny (model X.prog X.w) X.A (eval a X.env) (fun v s₁=>wpAny (model X.prog X.w) X.A (eval b X.env) (fun u s₂=>wpAny (model X.prog X.w) X.A (f v u) Q X.xe s₂) X.xe s₁) X.xe s:=by
 refine thn (ha pins s σ H _ I h) fun v s1 ⟨x,H1,I1,r1,q1⟩=>?_
 refine thn (hb pins s1 σ H1 _ I1 q1) fun u s2 ⟨y,H2,I2,r2,q2⟩=>?_
 exact hf v u s2 x y H2 I2 r1 r2 q2
theorem pe_op {op:Operator}{r:R2}(ho:OpR X (binaryOp op) r)(ha:PE X a ta)(hb:PE X b tb):PE X (.BinOp a op b pos) (tOp r ta tb):=by
 intro pins s σ H Q I h
 exact wpAny_BinOp (binT ha hb I h fun v u s2 x y H2 I2 rx ry q=>ho pins s2 σ H2 x y v u Q I2 rx ry q)
theorem opI {f:Value→Value→Sem Value}{C:Int→Int→Prop}{g:Int→Int→Int}
  (rule:∀ (i j:Int) (t u:Tok) (s:Shared) (Q:Value→Shared→Prop) (E:Value→Shared→Prop),C i j→Q (.int (g i j) s.toks) { s with toks:=s.toks+1 }→wpAny (model X.prog X.w) X.A (f (.int i t) (.int j u)) Q E s) :
  OpR X f (rI C fun i j=>.int (g i j)):=by
 intro pins s σ H x y v u Q I rx ry h
 obtain ⟨i,j,rfl,rfl,hc,q⟩:=h
 obtain ⟨t,rfl⟩:=rx
 obtain ⟨t',rfl⟩:=ry
 exact rule i j t t' s _ _ hc ⟨.int (g i j),H,I.tok _,⟨_,rfl⟩,q⟩
theorem opI0 {f:Value→Value→Sem Value}{g:Int→Int→Int}
  (rule:∀ (i j:Int) (t u:Tok) (s:Shared) (Q:Value→Shared→Prop) (E:Value→Shared→Prop),Q (.int (g i j) s.toks) { s with toks:=s.toks+1 }→wpAny (model X.prog X.w) X.A (f (.int i t) (.int j u)) Q E s) :
  OpR X f (rI0 fun i j=>.int (g i j)):=by
 intro pins s σ H x y v u Q I rx ry h
 obtain ⟨i,j,rfl,rfl,q⟩:=h
 obtain ⟨t,rfl⟩:=rx
 obtain ⟨t',rfl⟩:=ry
 exact rule i j t t' s _ _ ⟨.int (g i j),H,I.tok _,⟨_,rfl⟩,q⟩
theorem opB0 {f:Value→Value→Sem Value}{g:Int→Int→Bool}
  (rule:∀ (i j:Int) (t u:Tok) (s:Shared) (Q:Value→Shared→Prop) (E:Value→Shared→Prop),Q (.bool (g i j)) s→wpAny (model X.prog X.w) X.A (f (.int i t) (.int j u)) Q E s) :
  OpR X f (rI0 fun i j=>.bl (g i j)):=by
 intro pins s σ H x y v u Q I rx ry h
 obtain ⟨i,j,rfl,rfl,q⟩:=h
 obtain ⟨t,rfl⟩:=rx
 obtain ⟨t',rfl⟩:=ry
 exact rule i j t t' s _ _ ⟨.bl (g i j),H,I,rfl,q⟩
def CDiv (i j:Int):Prop:=0<j∧j<1073741824
def CMul (i j:Int):Prop:=(-(2 ^ 64)<i∧i<2 ^ 64)∨(-(2 ^ 64)<j∧j<2 ^ 64)
theorem CMul.ok {i j:Int}(h:CMul i j):IntMulOk i j:=by
 rcases h with ⟨h1,h2⟩ | ⟨h1,h2⟩
 ·exact .of_left (intBits_le_64 h1 h2)
 ·exact .of_right (intBits_le_64 h1 h2)
theorem op_add:OpR X (binaryOp .Add) (rI0 fun i j=>.int (i+j)):=opI0 fun _ _ _ _ _ _ _ q=>add_int q
theorem op_sub:OpR X (binaryOp .Sub) (rI0 fun i j=>.int (i - j)):=opI0 fun _ _ _ _ _ _ _ q=>sub_int q
theorem op_mul:OpR X (binaryOp .Mult) (rI CMul fun i j=>.int (i * j)):=opI fun _ _ _ _ _ _ _ hc q=>mul_int q hc.ok
theorem op_fdiv:OpR X (binaryOp .FloorDiv) (rI CDiv fun i j=>.int (i / j)):=opI fun i j _ _ _ _ _ hc q=>by
 have h1:(0:Int)<j:=hc.1
 have h2:j<1073741824:=hc.2
 exact floordiv_int (by omega) (by rw [Int.fdiv_eq_ediv_of_nonneg i (by omega)]; exact q) (.inl (PyProof.noPylong_small (by omega)))
theorem op_mod:OpR X (binaryOp .Mod) (rI (fun _ j=>0<j) fun i j=>.int (i % j)):=opI fun i j _ _ _ _ _ hc q=>by
 have h1:(0:Int)<j:=hc
 exact mod_int' (by omega) (by rw [Int.fmod_eq_emod_of_nonneg i (by omega)]; exact q)
end
section
variable {X:Cx} {a b c:Expr} {ta tb tc:TE} {pos:Pos}
theorem fin_bl {pins:List (Addr×Obj)}{σ:St}{H:Hp}{s:Shared}{Q:VK}{k k':Bool}(I:Inv X pins σ H s)(q:Q (.bl k) H)(e:k=k'):EP X pins σ Q (.bool k') s:=by
 subst e
 exact ⟨.bl k,H,I,rfl,q⟩
theorem op_le:OpR X (compareOp .LtE) (rI0 fun i j=>.bl (decide (i≤j))):=opB0 fun _ _ _ _ _ _ _ q=>le_int q
theorem op_gt:OpR X (compareOp .Gt) (rI0 fun i j=>.bl (decide (j<i))):=opB0 fun _ _ _ _ _ _ _ q=>gt_int q
theorem op_ge:OpR X (compareOp .GtE) (rI0 fun i j=>.bl (decide (j≤i))):=opB0 fun _ _ _ _ _ _ _ q=>ge_int q
theorem op_in_str:OpR X (compareOp .In) (fun x y H Q=>∃ i j,x=.str i∧y=.str j∧Q (.bl (!(Builtin.Str.occurrences j i 0 j.length 1).isEmpty)) H):=by
 intro pins s σ H x y v u Q I rx ry h
 obtain ⟨i,j,rfl,rfl,q⟩:=h
 obtain ⟨t,rfl⟩:=rx
 obtain ⟨t',rfl⟩:=ry
 exact in_str (fin_bl I q rfl)
theorem op_isN:OpR X (compareOp .Is) (fun x y H Q=>y=.non∧Q (.bl (decide (x=.non))) H):=by
 intro pins s σ H x y v u Q I rx ry h
 obtain ⟨rfl,q⟩:=h
 cases ry
 refine is_none_gen (fin_bl I q ?_)
 cases x <;> first
  | (cases rx; rfl)
  | (obtain ⟨t,rfl⟩:=rx; rfl)
theorem op_notN:OpR X (compareOp .IsNot) (fun x y H Q=>y=.non∧Q (.bl (!decide (x=.non))) H):=by
 intro pins s σ H x y v u Q I rx ry h
 obtain ⟨rfl,q⟩:=h
 cases ry
 refine isnot_none_gen (fin_bl I q ?_)
 cases x <;> first
  | (cases rx; rfl)
  | (obtain ⟨t,rfl⟩:=rx; rfl)
theorem OpR.or {f:Value→Value→Sem Value}{r r':R2}(h:OpR X f r)(h':OpR X f r'):OpR X f (fun x y H Q=>r x y H Q∨r' x y H Q):=by
 intro pins s σ H x y v u Q I rx ry q
 rcases q with q | q
 ·exact h pins s σ H x y v u Q I rx ry q
 ·exact h' pins s σ H x y v u Q I rx ry q
theorem nomark (b:Expr){op:CmpOp}(h:op≠.In:=by decide)(h2:op≠.NotIn:=by decide):behindInMarks op b=false:=by
 have e1:(op == CmpOp.In)=false:=by cases op <;> first | rfl | exact absurd rfl h
 have e2:(op == CmpOp.NotIn)=false:=by cases op <;> first | rfl | exact absurd rfl h2
 cases b <;> simp [behindInMarks,e1,e2]
theorem pe_cmpR {op:CmpOp}{r:R2}(ho:OpR X (compareOp op) r)(ha:PE X a ta)(hb:PE X b tb)(hm:behindInMarks op b=false):PE X (.Compare a [op] [b] pos) (tOp r ta tb):=by
 intro pins s σ H Q I h
 exact wpAny_Compare1 (binT ha hb I h fun v u s2 x y H2 I2 rx ry q=>ho pins s2 σ H2 x y v u Q I2 rx ry q) hm
def tTest (t:TE):TT:=fun σ H Q=>t σ H fun x H'=>∃ k,x=.bl k∧Q k H'
theorem pt_cmpR {op:CmpOp}{r:R2}(ho:OpR X (compareOp op) r)(ha:PE X a ta)(hb:PE X b tb)(hm:behindInMarks op b=false):PT X (.Compare a [op] [b] pos) (tTest (tOp r ta tb)):=by
 intro pins s σ H Q I h
 refine wpAny_isTrue_Compare1 (thn (ha pins s σ H _ I h) fun v s1 ⟨x,H1,I1,r1,q1⟩=>thn (hb pins s1 σ H1 _ I1 q1) fun u s2 ⟨y,H2,I2,r2,q2⟩=>
  thn (ho pins s2 σ H2 x y v u _ I2 r1 r2 q2) fun c s3 ⟨z,H3,I3,r3,k,e,q3⟩=>?_) hm
 subst e
 cases r3
 exact wpAny_truthy_bool ⟨H3,I3,q3⟩
def tChain (r r':R2)(ta tb tc:TE):TE:=fun σ H Q=>ta σ H fun x H1=>tb σ H1 fun y H2=>r x y H2 fun z H3=>∃ k,z=.bl k ∧
 (if k=true then tc σ H3 fun w' H4=>r' y w' H4 Q else Q (.bl false) H3)
theorem pe_chain {op op':CmpOp}{r r':R2}(ho:OpR X (compareOp op) r)(ho':OpR X (compareOp op') r')(ha:PE X a ta)(hb:PE X b tb)(hc:PE X c tc)
  (hm:lastMarks [op,op'] [b,c]=false:=by with_unfolding_all rfl):PE X (.Compare a [op,op'] [b,c] pos) (tChain r r' ta tb tc):=by
 intro pins s σ H Q I h
 refine Compare_chain (thn (ha pins s σ H _ I h) fun v s1 ⟨x,H1,I1,r1,q1⟩=>chain_link (thn (hb pins s1 σ H1 _ I1 q1) fun u s2 ⟨y,H2,I2,r2,q2⟩=>
  thn (ho pins s2 σ H2 x y v u _ I2 r1 r2 q2) fun d s3 ⟨z,H3,I3,r3,k,e,q3⟩=>?_)) hm
 subst e
 cases r3
 refine wpAny_truthy_bool ?_
 cases k with
 | false=>exact ite_ff ⟨.bl false,H3,I3,rfl,q3⟩
 | true=>exact ite_tt (chain_last (thn (hc pins s3 σ H3 _ I3 q3) fun w' s4 ⟨z',H4,I4,r4,q4⟩=>ho' pins s4 σ H4 y z' u w' Q I4 r2 r4 q4))
theorem pt_chain {op op':CmpOp}{r r':R2}(ho:OpR X (compareOp op) r)(ho':OpR X (compareOp op') r')(ha:PE X a ta)(hb:PE X b tb)(hc:PE X c tc)
  (hm:lastMarks [op,op'] [b,c]=false:=by with_unfolding_all rfl):PT X (.Compare a [op,op'] [b,c] pos) (tTest (tChain r r' ta tb tc)):=by
 intro pins s σ H Q I h
 refine isTrue_chain (thn (ha pins s σ H _ I h) fun v s1 ⟨x,H1,I1,r1,q1⟩=>test_link (thn (hb pins s1 σ H1 _ I1 q1) fun u s2 ⟨y,H2,I2,r2,q2⟩=>
  thn (ho pins s2 σ H2 x y v u _ I2 r1 r2 q2) fun d s3 ⟨z,H3,I3,r3,k,e,q3⟩=>?_)) hm
 subst e
 cases r3
 refine wpAny_truthy_bool ?_
 cases k with
 | false=>
  obtain ⟨k',e',q'⟩:=q3
  cases e'
  exact ite_ff ⟨H3,I3,q'⟩
 | true=>
  refine ite_tt (test_last (thn (hc pins s3 σ H3 _ I3 q3) fun w' s4 ⟨z',H4,I4,r4,q4⟩=>thn (ho' pins s4 σ H4 y z' u w' _ I4 r2 r4 q4) fun d' s5 ⟨z2,H5,I5,r5,k2,e2,q5⟩=>?_))
  subst e2
  cases r5
  exact wpAny_truthy_bool ⟨H5,I5,q5⟩
def TruV (K:PySem.W.Frag)(x:V)(H:Hp)(k:Bool):Prop:=
 match x with
 | .non=>k=false
 | .bl b=>k=b
 | .int i=>k=(i != 0)
 | .str y=>y.length≤sizeLine∧k=((y.length:Int) != 0)
 | .byt y=>y.size≤sizeLine∧k=((y.size:Int) != 0)
 | .ref p=>(∃ xs,SqL K H p xs∧k = !xs.isEmpty)∨(∃ xs,SqT K H p xs∧k = !xs.isEmpty)∨∃ kvs,H p=some (.dK kvs)∧k = !kvs.isEmpty
 | _=>False
theorem isEmpty_kv {κ:Type}{kvs:List (κ×V)}{vs:List (κ×Value)}(r:KV kvs vs):(!vs.isEmpty) = !kvs.isEmpty:=by
 cases r <;> rfl
theorem isEmpty_of {xs:List V}{its:List Value}(r:Vals xs its):(!its.toArray.isEmpty) = !xs.isEmpty:=by
 cases r <;> simp
theorem line63:(sizeLine:Nat)<2 ^ 63:=by rw [sizeLine_eq]; decide
theorem tru_ok:TruR X (fun x H Q=>∃ k,TruV X.K x H k∧Q k H):=by
 intro pins s σ H x v Q I rx h
 obtain ⟨k,e,q⟩:=h
 have hl:=line63
 have hs:sizeLine=16777216:=sizeLine_eq
 cases x with
 | non=>
  cases rx
  have e':k=false:=e
  subst e'
  exact truthy_none ⟨H,I,q⟩
 | bl b=>
  cases rx
  have e':k=b:=e
  subst e'
  exact wpAny_truthy_bool ⟨H,I,q⟩
 | int i=>
  obtain ⟨t,rfl⟩:=rx
  have e':k=(i != 0):=e
  subst e'
  exact PySem.P.truthy_int ⟨H,I,q⟩
 | str y=>
  obtain ⟨t,rfl⟩:=rx
  obtain ⟨hy,e'⟩:y.length≤sizeLine∧k=((y.length:Int) != 0):=e
  subst e'
  exact PySem.P.truthy_str (by omega) ⟨H,I.tok _,q⟩
 | byt y=>
  obtain ⟨t,rfl⟩:=rx
  obtain ⟨hy,e'⟩:y.size≤sizeLine∧k=((y.size:Int) != 0):=e
  subst e'
  exact PySem.W.truthy_bytes (by omega) ⟨H,I.tok _,q⟩
 | ref p=>
  cases rx
  have e':(∃ xs,SqL X.K H p xs∧k = !xs.isEmpty)∨(∃ xs,SqT X.K H p xs∧k = !xs.isEmpty)∨∃ kvs,H p=some (.dK kvs)∧k = !kvs.isEmpty:=e
  rcases e' with ⟨xs,hx,e'⟩ | ⟨xs,hx,e'⟩ | ⟨kvs,hx,e'⟩
  ·subst e'
   obtain ⟨its,r,pl,hz⟩:=I.list hx
   have hlen:=r.length
   exact wpAny_truthy_list pl.isList (by simp only [List.size_toArray]; omega) ⟨H,I.tok _,by rw [isEmpty_of r]; exact q⟩
  ·subst e'
   obtain ⟨its,r,pl,hz⟩:=I.tuple hx
   have hlen:=r.length
   exact truthy_tuple pl (by simp only [List.size_toArray]; omega) ⟨H,I.tok _,by rw [isEmpty_of r]; exact q⟩
  ·subst e'
   obtain ⟨hz,hS,vs,r,m⟩:kvs.length≤sizeLine∧(p == sysModules)=false∧∃ vs,KV kvs vs∧s.heap.DictOf (mixKind X.prog X.w) p vs:=I.hok p _ hx
   have hlen:kvs.length=vs.length:=Paired.length r
   exact wpAny_truthy_dict hS m (by omega) ⟨H,I.tok _,by rw [isEmpty_kv r]; exact q⟩
 | _=>exact (show False from e).elim
theorem op_add_str:OpR X (binaryOp .Add) (fun x y H Q=>∃ i j,x=.str i∧y=.str j∧i.length+j.length≤sizeLine∧Q (.str (i++j)) H):=by
 intro pins s σ H x y v u Q I rx ry h
 obtain ⟨i,j,rfl,rfl,hz,q⟩:=h
 obtain ⟨t,rfl⟩:=rx
 obtain ⟨t',rfl⟩:=ry
 exact add_str (fun t' tk=>⟨.str (i++j),H,I.tok _,⟨_,rfl⟩,q⟩) hz
theorem vals1 {x:V}{us:List Value}(r:Vals [x] us):∃ u,us=[u]∧RelV x u:=by
 cases r with
 | cons r1 r2=>cases r2; exact ⟨_,rfl,r1⟩
theorem call_int1:CallR X (.type "int") (fun xs H Q=>(∃ i,xs=[.int i]∧Q (.int i) H)∨∃ k,xs=[.bl k]∧Q (.int (if k then 1 else 0)) H):=by
 intro pins s σ H xs us Q I r h
 rcases h with ⟨i,rfl,q⟩ | ⟨k,rfl,q⟩
 ·obtain ⟨u,rfl,t,rfl⟩:=vals1 r
  exact call_int_int ⟨.int i,H,I,⟨_,rfl⟩,q⟩
 ·obtain ⟨u,rfl,r1⟩:=vals1 r
  cases r1
  exact call_int_bool ⟨.int (if k then 1 else 0),H,I.tok _,⟨_,rfl⟩,q⟩
def LenV (K:PySem.W.Frag)(x:V)(H:Hp)(n:Nat):Prop:=
 match x with
 | .str y=>y.length≤sizeLine∧n=y.length
 | .byt y=>y.size≤sizeLine∧n=y.size
 | .ref p=>(∃ xs,SqL K H p xs∧n=xs.length)∨∃ xs,SqT K H p xs∧n=xs.length
 | _=>False
theorem call_len:CallR X (.builtin "len") (fun xs H Q=>∃ x n,xs=[x]∧LenV X.K x H n∧Q (.int n) H):=by
 intro pins s σ H xs us Q I r h
 obtain ⟨x,n,rfl,e,q⟩:=h
 obtain ⟨u,rfl,rx⟩:=vals1 r
 have hl:=line63
 have hs:sizeLine=16777216:=sizeLine_eq
 cases x with
 | str y=>
  obtain ⟨t,rfl⟩:=rx
  obtain ⟨hy,e'⟩:y.length≤sizeLine∧n=y.length:=e
  subst e'
  exact len_str (by omega) ⟨.int _,H,I.tok _,⟨_,rfl⟩,q⟩
 | byt y=>
  obtain ⟨t,rfl⟩:=rx
  obtain ⟨hy,e'⟩:y.size≤sizeLine∧n=y.size:=e
  subst e'
  exact PySem.W.len_bytes (by omega) ⟨.int _,H,I.tok _,⟨_,rfl⟩,q⟩
 | ref p=>
  cases rx
  have e':(∃ xs,SqL X.K H p xs∧n=xs.length)∨∃ xs,SqT X.K H p xs∧n=xs.length:=e
  rcases e' with ⟨xs,hx,e'⟩ | ⟨xs,hx,e'⟩
  ·subst e'
   obtain ⟨its,r',pl,hz⟩:=I.list hx
   have hlen:=r'.length
   exact Calls.call_len_list pl.isList (by simp only [List.size_toArray]; omega) ⟨.int xs.length,H,I.tok _,⟨_,by simp only [List.size_toArray]; rw [hlen]⟩,q⟩
  ·subst e'
   obtain ⟨its,r',pl,hz⟩:=I.tuple hx
   have hlen:=r'.length
   exact len_tuple pl (by simp only [List.size_toArray]; omega) ⟨.int xs.length,H,I.tok _,⟨_,by simp only [List.size_toArray]; rw [hlen]⟩,q⟩
 | _=>exact (show False from e).elim
end
end L2
namespace L2
open PySem PySem.Spec PyProof.Rows
structure ObjM (h:Heap)(x dx C:Addr)(mA:Str→Option Value):Prop where
 obj:h.get? x=some (PySem.W.instObj C dx)
 ns:h.Ns1 dx mA
 ne:dx≠x
theorem lookIn_ns {h:Heap}{dx:Addr}{mA:Str→Option Value}(n:h.Ns1 dx mA):∃ od,h.get? dx=some od∧∀ name,PySem.W.lookIn name od=some (mA name):=by
 obtain ⟨o,es,ep,ho,hd,hk,_,hm⟩:=n
 refine ⟨o,ho,fun name=>?_⟩
 have e:=hm name
 unfold nsFind findBy at e
 rw [← Array.find?_toList] at e
 unfold PySem.W.lookIn
 rw [hd]
 dsimp only
 split
 ·rename_i y q
  rw [q] at e
  exact congrArg some e
 ·rename_i q
  rw [q] at e
  have a:es.toList.any (·.refKey)=false:=by
   rw [List.any_eq_false]
   intro y hy
   obtain ⟨z,t,hkey⟩:=hk y (Array.mem_toList_iff.mp hy)
   simp [DictEntry.refKey,hkey]
  have a':¬es.toList.any (·.refKey)=true:=by rw [a]; exact Bool.false_ne_true
  rw [if_neg a']
  exact congrArg some e
theorem ObjM.look {h:Heap}{x dx C:Addr}{mA:Str→Option Value}(I:ObjM h x dx C mA):∃ od,PySem.W.InstAt h x (PySem.W.instObj C dx) C (some od)∧∀ name,PySem.W.lookIn name od=some (mA name):=
 let ⟨od,ho,hl⟩:=lookIn_ns I.ns
 ⟨od,⟨I.obj,rfl,rfl,ho⟩,hl⟩
section
variable {prog:Program} {w:World} {A:Around} {E:Value→Shared→Prop} {s:Shared} {K:PySem.W.Frag} {x dx C f:Addr} {mA:Str→Option Value} {name:Str} {v:Value}
theorem get_map {expr:Bool}{Q:Value→Shared→Prop}(X:K.In s.heap)(I:ObjM s.heap x dx C mA)(hg:PySem.W.plainGet K C name=true)(hh:PySem.W.hasDictIn K C=true)
  (ha:PySem.W.findIn K (.ref C) name=some none) (hv:mA name=some v) (hv':PySem.W.handedIn v=true) (h:Q v { s with toks:=s.toks+1 }) :
  wpAny (model prog w) A (getAttr (.ref x) name expr) Q E s:=by
 obtain ⟨od,J,hl⟩:=I.look
 exact PySem.W.get_value X J (PySem.W.plainGet_of hg).1 (PySem.W.findObj_own hh ha rfl (by rw [hl,hv])) hv' h
theorem get_meth {pl:Sem Bool}{Q:Value×List Value→Shared→Prop}(X:K.In s.heap)(I:ObjM s.heap x dx C mA)(hg:PySem.W.plainGet K C name=true)
  (hf:PySem.W.findIn K (.ref C) name=some (some (.ref f))) (ht:PySem.W.isFn K (.ref f)=true) (hv:mA name=none) (h:Q (.ref f,[.ref x]) s) :
  wpAny (model prog w) A (getMethod (.ref x) name pl) Q E s:=by
 obtain ⟨od,J,hl⟩:=I.look
 exact PySem.W.method_fn X J (PySem.W.plainGet_of hg).1 (PySem.W.plainGet_of hg).2 hf (beq_iff_eq.mp ht) (by show (PySem.W.lookIn name od).map (·.isSome)=some false; rw [hl,hv]; rfl) h
theorem set_map {ns:List Str}{Q:Unit→Shared→Prop}(X:K.In s.heap)(I:ObjM s.heap x dx C mA)
  (hs:PySem.W.findIn K (.ref C) "__setattr__"=some (some (.builtin "object.__setattr__"))) (hp:PySem.W.plainOver K C=true) (ht:PySem.W.takerIn K C name=some none) (hh:PySem.W.hasDictIn K C=true)
  (hw:PySem.Within mA ns) (hsz:ns.length≤sizeLine)
  (h:∀ h',ObjM h' x dx C (fun y=>if y=name then some v else mA y)→Heap.SameBut dx s.heap h'→Q () { s with heap:=h',toks:=s.toks+2 }) :
  wpAny (model prog w) A (setAttr (.ref x) name v) Q E s:=by
 obtain ⟨od,J,hl⟩:=I.look
 refine PySem.W.set_plain X J hs (PySem.W.osa_open (s:={ s with toks:=s.toks+1 }) (r:=none) X J hp ht fun b=>?_)
 obtain ⟨cd,hc,hd'⟩:=PySem.W.any_some hh
 have hx:s.heap.get? x=some ⟨.ref C,some dx,.plain,#[]⟩:=I.obj
 refine wpAny_bind (wpAny_pure (wpAny_bind (wpAny_bind (wpAny_loadPart hx (wpAny_bind (PySem.W.Looks.here (s:={ s with toks:=s.toks+1 }) (PySem.W.looks_clsIn X hc) ?_))))))
 rw [hd']
 refine wpAny_pure (a:=some dx) (wpAny_bind (wpAny_pure (wpAny_bind ?_)))
 refine wpAny_nsSet1 (s:={ s with toks:=s.toks+1 }) I.ns fun h' hn2 hs2=>?_
 obtain ⟨oD,esD,epD,hoD,hdD,hcD⟩:=hn2.count (PySem.Within.cons name v hw)
 refine wpAny_bind (wpAny_lookBehind hoD (by rw [hdD]; exact pastItsLine_dict (Nat.le_trans hcD (by rw [List.length_cons]; omega))) ?_)
 exact wpAny_pure (h _ ⟨(hs2.2 _ (Ne.symm I.ne)).trans I.obj,hn2,I.ne⟩ hs2)
theorem make_map {R:Result→Shared→Prop}{vs:List Value}{kw:List (Str×Value)}(X:K.In s.heap)(hm:PySem.W.makesIn K C=true)
  (hi:PySem.W.findIn K (.ref C) "__init__"=some (some (.ref f))) (hf:PySem.W.typeIn K (.ref f)=some (.type "function"))
  (h:codeAny (model prog w) (A.under (.builtin "type.__call__" ⟨.ref C::vs,kw⟩)) (.call (.ref f) ⟨.ref (s.heap.objs.size+1)::vs,kw⟩) (PySem.W.InitBack (s.heap.objs.size+1) R)
   { s with heap:=(s.heap.push PySem.W.emptyDict).push (PySem.W.instObj C s.heap.objs.size) }) :
  codeAny (model prog w) A (.call (.ref C) ⟨vs,kw⟩) R s:=by
 obtain ⟨hh,g,d,t,os⟩:=s
 exact PySem.W.make_core (PySem.W.makes_of X hm) (PySem.W.looks_findIn X hi) (fun self=>PySem.W.bind_fn X self hf) (.inl rfl) h
end
def putF (f:Str)(v:V):List (Str×V)→List (Str×V)
 | []=>[(f,v)]
 | (g,x)::r=>if g=f then (g,v)::r else (g,x)::putF f v r
theorem lookup_putF (f g:Str)(v:V):∀ fs:List (Str×V),(putF f v fs).lookup g=if g=f then some v else fs.lookup g
 | []=>by
  show List.lookup g [(f,v)]=_
  by_cases h:g=f
  ·have hb:(g == f)=true:=beq_iff_eq.mpr h
   simp only [List.lookup,hb,if_pos h]
  ·have hb:(g == f)=false:=beq_eq_false_iff_ne.mpr h
   simp only [List.lookup,hb,if_neg h]
 | (k,x)::r=>by
  have ih:=lookup_putF f g v r
  rw [show putF f v ((k,x)::r)=(if k=f then (k,v)::r else (k,x)::putF f v r) from rfl]
  by_cases hk:k=f
  ·rw [if_pos hk]
   by_cases h:g=k
   ·have hb:(g == k)=true:=beq_iff_eq.mpr h
    simp only [List.lookup,hb,if_pos (h.trans hk)]
   ·have hb:(g == k)=false:=beq_eq_false_iff_ne.mpr h
    simp only [List.lookup,hb,if_neg (fun e:g=f=>h (e.trans hk.symm))]
  ·rw [if_neg hk]
   by_cases h:g=k
   ·have hb:(g == k)=true:=beq_iff_eq.mpr h
    simp only [List.lookup,hb,if_neg (fun e:g=f=>hk (h.symm.trans e))]
   ·have hb:(g == k)=false:=beq_eq_false_iff_ne.mpr h
    simp only [List.lookup,hb]
    exact ih
theorem keys_putF (f:Str)(v:V):∀ fs:List (Str×V),f∈(putF f v fs).map (·.1)∧∀ g,g∈fs.map (·.1)→g∈(putF f v fs).map (·.1)
 | []=>⟨by simp [putF],fun g h=>by simp at h⟩
 | (k,x)::r=>by
  obtain ⟨i1,i2⟩:=keys_putF f v r
  rw [show putF f v ((k,x)::r)=(if k=f then (k,v)::r else (k,x)::putF f v r) from rfl]
  by_cases hk:k=f
  ·rw [if_pos hk]
   subst hk
   exact ⟨by simp,fun g h=>by simpa using h⟩
  ·rw [if_neg hk]
   refine ⟨?_,fun g h=>?_⟩
   ·rw [List.map_cons]
    exact List.mem_cons_of_mem _ i1
   ·rw [List.map_cons] at h ⊢
    rcases List.mem_cons.mp h with e | e
    ·exact List.mem_cons.mpr (.inl e)
    ·exact List.mem_cons_of_mem _ (i2 g e)
theorem length_putF (f:Str)(v:V):∀ fs:List (Str×V),(putF f v fs).length≤fs.length+1
 | []=>by simp [putF]
 | (k,x)::r=>by
  have ih:=length_putF f v r
  rw [show putF f v ((k,x)::r)=(if k=f then (k,v)::r else (k,x)::putF f v r) from rfl]
  by_cases hk:k=f
  ·rw [if_pos hk,List.length_cons,List.length_cons]; omega
  ·rw [if_neg hk,List.length_cons,List.length_cons]; omega
theorem RelO.some_of {v:V}{o:Option Value}(r:RelO (some v) o):∃ u,o=some u∧RelV v u:=by
 cases o with
 | none=>exact (show False from r).elim
 | some u=>exact ⟨u,rfl,r⟩
theorem RelO.none_of {o:Option Value}(r:RelO none o):o=none:=by
 cases o with
 | none=>rfl
 | some u=>exact (show False from r).elim
theorem handed_of {v:V}{u:Value}(r:RelV v u):PySem.W.handedIn u=true:=by
 cases v with
 | non=>cases (show u=Value.none from r); rfl
 | bl b=>cases (show u=Value.bool b from r); rfl
 | int i=>obtain ⟨t,e⟩:=(show ∃ t,u=Value.int i t from r); cases e; rfl
 | str x=>obtain ⟨t,e⟩:=(show ∃ t,u=Value.str x t from r); cases e; rfl
 | byt b=>obtain ⟨t,e⟩:=(show ∃ t,u=Value.bytes b t from r); cases e; rfl
 | flt b=>obtain ⟨t,e⟩:=(show ∃ t,u=Value.float b t from r); cases e; rfl
 | ref a=>cases (show u=Value.ref a from r); rfl
 | ty n=>cases (show u=Value.type n from r); rfl
section
variable {P:Program} {w:World} {H H':Hp} {h h':Heap} {a C dx:Addr} {fs fs':List (Str×V)}
theorem ins_get (hok:HOk P w H h)(e:H a=some (.ins C dx fs)):∃ mA,ObjM h a dx C mA∧(∀ f,RelO (fs.lookup f) (mA f))∧PySem.Within mA (fs.map (·.1))∧fs.length≤1000∧H dx=some (.own a):=by
 obtain ⟨d,z,ne,ob,mA,n,r,q⟩:=(show ObjOk P w H h a (.ins C dx fs) from hok a _ e)
 exact ⟨mA,⟨ob,n,ne⟩,r,q,z,d⟩
end
structure Cls (K:PySem.W.Frag)(C:Addr):Prop where
 pg:PySem.W.plainGet K C Str.empty=true
 hd:PySem.W.hasDictIn K C=true
 po:PySem.W.plainOver K C=true
 sa:PySem.W.findIn K (.ref C) "__setattr__"=some (some (.builtin "object.__setattr__"))
theorem Cls.get {K:PySem.W.Frag}{C:Addr}(c:Cls K C)(f:Str):PySem.W.plainGet K C f=true:=c.pg
def NoAttr (K:PySem.W.Frag)(C:Addr)(f:Str):Prop:=PySem.W.findIn K (.ref C) f=some none
theorem NoAttr.taker {K:PySem.W.Frag}{C:Addr}{f:Str}(n:NoAttr K C f):PySem.W.takerIn K C f=some none:=by
 unfold PySem.W.takerIn
 rw [show PySem.W.findIn K (.ref C) f=some none from n]
 rfl
structure Meth (K:PySem.W.Frag)(C:Addr)(m:Str)(f:Addr):Prop where
 at_:PySem.W.findIn K (.ref C) m=some (some (.ref f))
 fn:PySem.W.isFn K (.ref f)=true
 kp:PySem.W.keepIn K (.ref f)=true
section
variable {X:Cx} {pins:List (Addr×Obj)} {σ:St} {H:Hp} {s:Shared} {a C dx:Addr} {fs:List (Str×V)} {f:Str} {v:V} {A:Around} {E:Value→Shared→Prop}
theorem getattr_ok {b:Bool}{Q:Value→Shared→Prop}(I:Inv X pins σ H s)(e:H a=some (.ins C dx fs))(c:Cls X.K C)(n:NoAttr X.K C f)(l:fs.lookup f=some v)
  (h:∀ u s',Inv X pins σ H s'→RelV v u→Q u s'):wpAny (model X.prog X.w) A (getAttr (.ref a) f b) Q E s:=by
 obtain ⟨mA,O,r,_,_,_⟩:=ins_get I.hok e
 obtain ⟨u,hu,ru⟩:=RelO.some_of (v:=v) (o:=mA f) (by rw [← l]; exact r f)
 exact get_map I.kIn O (c.get f) c.hd n hu (handed_of ru) (h u _ (I.tok _) ru)
theorem getmeth_ok {m:Str}{g:Addr}{pl:Sem Bool}{Q:Value×List Value→Shared→Prop}(I:Inv X pins σ H s)(e:H a=some (.ins C dx fs))(c:Cls X.K C)(k:Meth X.K C m g)(l:fs.lookup m=none)
  (h:Q (.ref g,[.ref a]) s):wpAny (model X.prog X.w) A (getMethod (.ref a) m pl) Q E s:=by
 obtain ⟨mA,O,r,_,_,_⟩:=ins_get I.hok e
 have hn:mA m=none:=RelO.none_of (by rw [← l]; exact r m)
 exact get_meth I.kIn O (c.get m) k.at_ k.fn hn h
theorem setattr_ok {y:V}{u:Value}{Q:Unit→Shared→Prop}(I:Inv X pins σ H s)(e:H a=some (.ins C dx fs))(c:Cls X.K C)(n:NoAttr X.K C f)(hl:fs.length<1000)(ry:RelV y u)
  (h:∀ s',Inv X pins σ (upd H a (.ins C dx (putF f y fs))) s'→Q () s'):wpAny (model X.prog X.w) A (setAttr (.ref a) f u) Q E s:=by
 obtain ⟨mA,O,r,wi,_,ho⟩:=ins_get I.hok e
 have hz:(fs.map (·.1)).length≤sizeLine:=by rw [List.length_map,sizeLine_eq]; omega
 refine set_map I.kIn O c.sa c.po n.taker c.hd wi hz fun h' O' sb=>h _ ?_
 have hd:∃ o,h'.get? dx=some o:=let ⟨o,_,_,e',_⟩:=O'.ns; ⟨o,e'⟩
 refine I.write (x:=a) (e:=dx) (by rw [e]; exact True.intro) (.inr ho) (fun b q hb z=>(sb.2 b hb).trans z) hd ?_
 refine ⟨by rw [upd_ne O.ne]; exact ho,?_,O.ne,O'.obj,_,O'.ns,fun g=>?_,fun g hg=>?_⟩
 ·have:=length_putF f y fs; omega
 ·show RelO ((putF f y fs).lookup g) (if g=f then some u else mA g)
  rw [lookup_putF]
  by_cases q:g=f
  ·rw [if_pos q,if_pos q]; exact ry
  ·rw [if_neg q,if_neg q]; exact r g
 ·by_cases q:g=f
  ·rw [q]; exact (keys_putF f y fs).1
  ·refine (keys_putF f y fs).2 g (wi g fun z=>hg ?_)
   show (if g=f then some u else mA g)=none
   rw [if_neg q]; exact z
theorem Inv.made (I:Inv X pins σ H s):Inv X pins σ (upd (upd H s.heap.objs.size (.own (s.heap.objs.size+1))) (s.heap.objs.size+1) (.ins C s.heap.objs.size []))
  { s with heap:=(s.heap.push PySem.W.emptyDict).push (PySem.W.instObj C s.heap.objs.size) }:=by
 have e1:(s.heap.push PySem.W.emptyDict).get? s.heap.objs.size=some PySem.W.emptyDict:=Heap.get?_push_size s.heap rfl
 have e2:((s.heap.push PySem.W.emptyDict).push (PySem.W.instObj C s.heap.objs.size)).get? (s.heap.objs.size+1)=some (PySem.W.instObj C s.heap.objs.size):=by
  have:=Heap.get?_push_size (s.heap.push PySem.W.emptyDict) (o:=PySem.W.instObj C s.heap.objs.size) rfl
  rwa [Heap.size_push] at this
 have e3:(s.heap.push PySem.W.emptyDict).Ns s.heap.objs.size (fun _=>none):=⟨PySem.W.emptyDict,#[],_,e1,rfl,(fun e he=>absurd he (by simp)),fun _=>rfl⟩
 have I1:=I.laid (a:=s.heap.objs.size) (o:=.own (s.heap.objs.size+1)) (h':=s.heap.push PySem.W.emptyDict) (t':=s.toks) (fun b u q=>Heap.get?_push_of_some _ q) (Nat.le_refl _) ⟨_,e1⟩
 refine I1.laid (a:=s.heap.objs.size+1) (o:=.ins C s.heap.objs.size []) (t':=s.toks) (fun b u q=>Heap.get?_push_of_some _ q) (Nat.le_of_eq (Heap.size_push _ _)) ?_
 have ne:s.heap.objs.size≠s.heap.objs.size+1:=Nat.ne_of_lt (Nat.lt_succ_self _)
 refine ⟨by rw [upd_ne ne,upd_same],Nat.zero_le _,ne,e2,fun _=>none,(Heap.Ns1.of_empty e3).at fun o q=>Heap.get?_push_of_some _ q,fun _=>True.intro,fun y hy=>absurd rfl hy⟩
theorem attr_of {prog:Program}{w:World}{env:Env}{e:Expr}{f:Str}{pos:Pos}{s:Shared}{Q:Value→Shared→Prop}(hb:attributeBase e f env (eval e env)=eval e env)
  (h:wpAny (model prog w) A (eval e env) (fun o s₁=>wpAny (model prog w) A (getAttr o f true) Q E s₁) E s):wpAny (model prog w) A (eval (.Attribute e f pos) env) Q E s:=
 Attribute_any_ h (by rw [arm_eval_Attribute,hb])
end
def tFld (K:PySem.W.Frag)(ta:TE)(f:Str):TE:=fun σ H Q=>ta σ H fun x H1=>∃ a C dx fs v,x=.ref a∧H1 a=some (.ins C dx fs)∧Cls K C∧NoAttr K C f∧fs.lookup f=some v∧Q v H1
def sFld (K:PySem.W.Frag)(ta tv:TE)(f:Str):TS:=fun D σ H=>tv σ H fun y H1=>ta σ H1 fun x H2=>∃ a C dx fs,x=.ref a∧H2 a=some (.ins C dx fs)∧Cls K C∧NoAttr K C f∧fs.length<1000 ∧
 D.nx σ (upd H2 a (.ins C dx (putF f y fs)))
section
variable {X:Cx} {o e value:Expr} {f:Str} {pos pos' tpos:Pos} {ta tv:TE}
theorem pe_fld (he:PE X e ta)(hb:attributeBase e f X.env (eval e X.env)=eval e X.env):PE X (.Attribute e f pos) (tFld X.K ta f):=by
 intro pins s σ H Q I h
 refine attr_of hb (thn (he pins s σ H _ I h) fun u s1 ⟨x,H1,I1,rx,a,C,dx,fs,v,ex,ea,c,n,l,q⟩=>?_)
 subst ex
 obtain rfl:u=Value.ref a:=rx
 exact getattr_ok I1 ea c n l fun u' s2 I2 ru=>⟨v,H1,I2,ru,q⟩
theorem ps_fld (ha:PE X o ta)(hv:PE X value tv)(hs:swapsWith value (some (.Attribute o f pos')) pos.line X.env=pure false):PS X (.Assign [.Attribute o f pos'] value pos) (sFld X.K ta tv f):=by
 intro pins s σ H D I h
 refine plainObj_wpAny_Assign_Attribute (thn (hv pins s σ H _ I h) fun u s1 ⟨y,H1,I1,ry,q⟩=>thn (ha pins s1 σ H1 _ I1 q) fun ov s2 ⟨x,H2,I2,rx,a,C,dx,fs,ex,ea,c,n,l,q2⟩=>?_) hs
 subst ex
 obtain rfl:ov=Value.ref a:=rx
 exact setattr_ok I2 ea c n l ry fun s3 I3=>⟨σ,_,I3,q2⟩
end
section
variable {X:Cx} {pins:List (Addr×Obj)} {σ:St} {H:Hp} {s:Shared} {A:Around} {E:Value→Shared→Prop} {Q:Value→Shared→Prop} {c:Value} {b:Bool}
inductive TyOf (K:PySem.W.Frag) (H:Hp):V→Value→Prop where
 | non:TyOf K H .non (.type "NoneType")
 | bl (x:Bool):TyOf K H (.bl x) (.type "bool")
 | int (i:Int):TyOf K H (.int i) (.type "int")
 | str (x:Str):TyOf K H (.str x) (.type "str")
 | flt (x:UInt64):TyOf K H (.flt x) (.type "float")
 | lst {a:Addr} {xs:List V} (e:H a=some (.lst xs)):TyOf K H (.ref a) (.type "list")
 | frz {a:Addr} {o:Obj} {xs:List V} (e:H a=some (.frz o (.lst xs))):TyOf K H (.ref a) (.type "list")
 | tup {a:Addr} {xs:List V} (e:H a=some (.tup xs)):TyOf K H (.ref a) (.type "tuple")
 | dK {a:Addr} {kvs:List (Key×V)} (e:H a=some (.dK kvs)):TyOf K H (.ref a) (.type "dict")
 | dT {a:Addr} {kvs:List (List Key×V)} (e:H a=some (.dT kvs)):TyOf K H (.ref a) (.type "dict")
 | ins {a C dx:Addr} {fs:List (Str×V)} (e:H a=some (.ins C dx fs)) (cl:Cls K C) (ha:PySem.W.findIn K (.ref C) "__class__"=some (some (.builtin "object.__class__")))
   (hn:PySem.W.specialIn K (.builtin "object.__class__") "__get__"=some (some (.builtin "getset_descriptor.__get__"))) (htk:PySem.W.takesIn K (.builtin "object.__class__")=some true)
   (hm:PySem.W.mroIn K C (.type "object")=some true):TyOf K H (.ref a) (.ref C)
end
end L2
namespace L2
open PySem PySem.Spec PyProof.Rows
structure Room (k:Nat)(A:Around):Prop where
 dp:A.depth+3 * k+5<recursionLimit
 un:A.units+16 * k+200<cLine
theorem Room.mono {j k:Nat}{A:Around}(r:Room k A)(h:j≤k):Room j A:=⟨by have:=r.dp; omega,by have:=r.un; omega⟩
theorem Room.deeper {k:Nat}{A:Around}(r:Room (k+1) A)(env:Env):Room k (A.deeper env):=
 ⟨by have:=r.dp; show A.depth+1+3 * k+5<_; omega,by have:=r.un; show A.units+3+16 * k+200<_; omega⟩
theorem make_depth {A:Around}{C:Addr}{us:List Value}{kw:List (Str×Value)}:(A.under (.builtin "type.__call__" ⟨.ref C::us,kw⟩)).depth=A.depth+1:=by
 first | rfl | simp [Around.under,Code.weight,Code.isCreation,Code.isGuard,Code.isCaller,Code.frames,Code.isFrame,guardIds]
theorem make_units {A:Around}{C:Addr}{us:List Value}{kw:List (Str×Value)}:(A.under (.builtin "type.__call__" ⟨.ref C::us,kw⟩)).units=A.units+1:=by
 first | rfl | simp [Around.under,Code.cUnits,Code.frames,Code.isFrame]
theorem Room.make {k:Nat}{A:Around}(r:Room (k+1) A)(C:Addr)(us:List Value)(kw:List (Str×Value)):Room k (A.under (.builtin "type.__call__" ⟨.ref C::us,kw⟩)):=
 ⟨by have:=r.dp; rw [make_depth]; omega,by have:=r.un; rw [make_units]; omega⟩
theorem Room.depth {k:Nat}{A:Around}(r:Room k A):A.depth<recursionLimit:=by have:=r.dp; omega
theorem Room.units {k:Nat}{A:Around}(r:Room k A):A.units+64<cLine:=by have:=r.un; omega
def tNil:TA:=fun _ H Q=>Q [] H
def tCons (ta:TE)(tr:TA):TA:=fun σ H Q=>ta σ H fun x H1=>tr σ H1 fun xs H2=>Q (x::xs) H2
section
variable {X:Cx} {e:Expr} {es:List Expr} {te:TE} {t:TA} {pos:Pos}
theorem pa_nil:PA X [] tNil:=fun _ _ _ _ H Q I h=>Calls.spliced_nil ⟨[],H,I,.nil,h⟩
theorem pa_cons (ha:PE X e te)(hr:PA X es t)(hs:starEach (e::es) X.env=(false,eval e X.env)::starEach es X.env:=by rfl):PA X (e::es) (tCons te t):=by
 intro pos pins s σ H Q I h
 rw [hs]
 show wpAny _ _ (spliced ((false,eval e X.env)::backTo pos (starEach es X.env))) _ _ s
 refine Calls.spliced_cons (thn (ha pins s σ H _ I h) fun u s1 ⟨x,H1,I1,r1,q1⟩=>?_)
 exact thn (hr pos pins s1 σ H1 _ I1 q1) fun us s2 ⟨xs,H2,I2,r2,q2⟩=>⟨x::xs,H2,I2,.cons r1 r2,q2⟩
def tTup (t:TA):TE:=fun σ H Q=>t σ H fun xs H1=>xs.length≤sizeLine∧∀ p,H1 p=none→Q (.ref p) (upd H1 p (.tup xs))
def tLst (t:TA):TE:=fun σ H Q=>t σ H fun xs H1=>xs.length≤sizeLine∧∀ p,H1 p=none→Q (.ref p) (upd H1 p (.lst xs))
theorem pe_tup {x1}(h:PA X es t):PE X (.Tuple es x1 pos) (tTup t):=by
 intro pins s σ H Q I hq
 refine wpAny_Tuple_spliced (thn (h pos pins s σ H _ I hq) fun us s1 ⟨xs,H1,I1,r,z,q⟩=>⟨by rw [← r.length]; exact z,?_⟩)
 have hf:H1 s1.heap.objs.size=none:=I1.hok.fresh (Nat.le_refl _)
 refine ⟨.ref s1.heap.objs.size,upd H1 s1.heap.objs.size (.tup xs),I1.laid (t':=s1.toks) (fun b u e=>Heap.get?_push_of_some _ e) (Nat.le_refl _) ?_,rfl,q _ hf⟩
 exact ⟨z,us,r,⟨_,Heap.get?_push_size _ rfl,rfl,_,rfl⟩⟩
theorem pe_lst (h:PA X es t):PE X (.List es pos) (tLst t):=by
 intro pins s σ H Q I hq
 refine wpAny_List_spliced (thn (h pos pins s σ H _ I hq) fun us s1 ⟨xs,H1,I1,r,z,q⟩=>⟨by rw [← r.length]; exact z,?_⟩)
 have hf:H1 s1.heap.objs.size=none:=I1.hok.fresh (Nat.le_refl _)
 refine ⟨.ref s1.heap.objs.size,upd H1 s1.heap.objs.size (.lst xs),I1.laid (t':=s1.toks) (fun b u e=>Heap.get?_push_of_some _ e) (Nat.le_refl _) ?_,rfl,q _ hf⟩
 exact ⟨z,us,0,r,Heap.get?_push_size _ rfl⟩
end
abbrev Sp:=List V→Hp→VK→XK→Prop
structure CXT where
 ct:List Env→Hp→Shared→XK→Value→Shared→Prop
 q:Bool
instance:CoeFun CXT fun _=>List Env→Hp→Shared→XK→Value→Shared→Prop:=⟨CXT.ct⟩
structure Env0 (P:Program)(w:World)(K:PySem.W.Frag)(mg:Str→Option Value)(base:Heap)(A:Around)(outer:List Env)(s:Shared)(H:Hp):Prop where
 frames:A.frames=some outer
 mod:Mod K mg base
 bs:∀ b o,base.get? b=some o→s.heap.get? b=some o∧H b=none
 bsz:base.objs.size≤s.heap.objs.size
 funs:s.heap.FunFrames base outer
 frf:∀ b∈frs outer,H b=none
 hok:HOk P w H s.heap
 bare:AllBare s.gens
def CE (outer:List Env)(P:Program)(w:World)(H:Hp)(s:Shared)(Q:VK)(u:Value)(s':Shared):Prop:=
 ∃ v H',s'.os=s.os∧AllBare s'.gens∧Un (frs outer) [] H H' s.heap s'.heap∧HOk P w H' s'.heap∧RelV v u∧Q v H'
def CR (CX:CXT)(outer:List Env)(P:Program)(w:World)(H:Hp)(s:Shared)(Q:VK)(E:XK)(r:Result)(s':Shared):Prop:=
 match r with
 | .ok (.ret u)=>CE outer P w H s Q u s'
 | .ok _=>False
 | .error e=>CX outer H s E e s'
structure FnOk (P:Program)(w:World)(K:PySem.W.Frag)(mg:Str→Option Value)(base:Heap)(CX:CXT)(k:Nat)(f:Addr)(fd:FuncData)(ps:List Str)(sp:Sp):Prop where
 len:∀ vs H Q E,sp vs H Q E→vs.length=ps.length
 run:∀ (A:Around) (outer:List Env) (s:Shared) (H:Hp) (args:Args) (us:List Value) (vs:List V) (Q:VK) (E:XK),Room k A→(CX.q=true→A.handled=none)→Env0 P w K mg base A outer s H→BindsTo s fd args (ps.zip us)→Vals vs us→sp vs H Q E →
  codeAny (model P w) A (.call (.ref f) args) (CR CX outer P w H s Q E) s
theorem FnOk.imp {P:Program}{w:World}{K:PySem.W.Frag}{mg:Str→Option Value}{base:Heap}{CX:CXT}{k:Nat}{f:Addr}{fd:FuncData}{ps:List Str}{sp sp':Sp}(F:FnOk P w K mg base CX k f fd ps sp)
  (h:∀ vs H Q E,sp' vs H Q E→sp vs H Q E):FnOk P w K mg base CX k f fd ps sp':=
 ⟨fun vs H Q E q=>F.len vs H Q E (h _ _ _ _ q),fun A outer s H args us vs Q E hr hq he hb hv hs=>F.run A outer s H args us vs Q E hr hq he hb hv (h _ _ _ _ hs)⟩
theorem Env0.make {P:Program}{w:World}{K:PySem.W.Frag}{mg:Str→Option Value}{base:Heap}{A:Around}{outer:List Env}{s:Shared}{H:Hp}(e:Env0 P w K mg base A outer s H)(C:Addr)(us:List Value)(kw:List (Str×Value)) :
  Env0 P w K mg base (A.under (.builtin "type.__call__" ⟨.ref C::us,kw⟩)) outer s H:=⟨by first | exact e.frames | (simpa [Around.under,Code.envs,Code.isFrame,pushEnvs] using e.frames),e.mod,e.bs,e.bsz,e.funs,e.frf,e.hok,e.bare⟩
section
variable {X:Cx} {pins:List (Addr×Obj)} {σ:St} {H:Hp} {s s':Shared}
theorem Inv.env0 (I:Inv X pins σ H s):Env0 X.prog X.w X.K X.mg X.base X.A X.stack s H:=
 ⟨I.ok.frames,I.ok.mod,I.bs,Nat.le_trans I.ok.bsz I.sz,I.stack,I.stkFree,I.hok,I.bare⟩
theorem Inv.after {Q:VK}{u:Value}(I:Inv X pins σ H s)(h:CE X.stack X.prog X.w H s Q u s'):EP X pins σ Q u s':=by
 obtain ⟨v,H',os,bare,un,hok,r,q⟩:=h
 obtain ⟨hh,g,d,t,os'⟩:=s'
 obtain rfl:os'=s.os:=os
 exact ⟨v,H',I.call (h':=hh) (g':=g) (d':=d) (t':=t) (ch:=[]) un hok bare (fun b z=>absurd z (by simp)),r,q⟩
end
def tCall (sp:Sp)(dvs:List V)(E:XK)(t:TA):TE:=fun σ H Q=>t σ H fun vs H1=>sp (vs++dvs) H1 Q E
def tMake (C:Addr)(sp:Sp)(dvs:List V)(E:XK)(t:TA):TE:=fun σ H Q=>t σ H fun vs H1=>∀ x dx,H1 x=none→H1 dx=none→dx≠x →
 sp (.ref x::(vs++dvs)) (upd (upd H1 dx (.own x)) x (.ins C dx [])) (fun v H2=>v=.non∧Q (.ref x) H2) E
def Binds (K:PySem.W.Frag)(fd:FuncData)(ps:List Str)(ds:List Value):Prop:=
 ∀ (s:Shared) (us:List Value),K.In s.heap→(us++ds).length=ps.length→BindsTo s fd ⟨us,[]⟩ (ps.zip (us++ds))
theorem Binds.all {K:PySem.W.Frag}{fd:FuncData}{ps:List Str}(h:∀ us:List Value,us.length=ps.length→bindArgs fd ⟨us,[]⟩=pure (ps.zip us)):Binds K fd ps []:=fun s us _ hl=>by
 rw [List.append_nil] at hl ⊢
 exact .of_eq (h us hl)
def Passes (CX:CXT)(X:Cx)(E:XK):Prop:=(CX.q=true→X.calm=true)∧∀ (pins:List (Addr×Obj)) (σ:St) (H:Hp) (s:Shared) (e:Value) (s':Shared),Inv X pins σ H s→CX X.stack H s E e s'→X.xe e s'
section
variable {X:Cx} {CX:CXT} {k:Nat} {f C:Addr} {fd:FuncData} {ps:List Str} {sp:Sp} {dvs:List V} {ds:List Value} {E:XK} {x m:Str} {p pos apos:Pos} {e o:Expr} {es:List Expr} {ta:TE} {t:TA}
theorem run_fn {pins:List (Addr×Obj)}{σ:St}{H:Hp}{s:Shared}{Q:VK}{us:List Value}{vs:List V}(F:FnOk X.prog X.w X.K X.mg X.base CX k f fd ps sp)(hr:Room k X.A)(hb:Binds X.K fd ps ds)(hd:Vals dvs ds)(hx:Passes CX X E)
  (I:Inv X pins σ H s) (r:Vals vs us) (h:sp (vs++dvs) H Q E):wpAny (model X.prog X.w) X.A (call (.ref f) us) (EP X pins σ Q) X.xe s:=by
 have r2:Vals (vs++dvs) (us++ds):=r.append hd
 have hl:(us++ds).length=ps.length:=by rw [← r2.length]; exact F.len _ _ _ _ h
 refine wpAny_call (codeAny_mono (F.run X.A X.stack s H ⟨us,[]⟩ (us++ds) (vs++dvs) Q E hr (fun z=>I.ok.hd (hx.1 z)) I.env0 (hb s us I.kIn hl) r2 h) fun r s' hq=>?_)
 cases r with
 | error e=>exact hx.2 pins σ H s e s' I hq
 | ok fl=>
  cases fl with
  | ret u=>exact I.after hq
  | next=>exact False.elim hq
  | brk=>exact False.elim hq
  | cont=>exact False.elim hq
theorem pe_call (F:FnOk X.prog X.w X.K X.mg X.base CX k f fd ps sp)(hr:Room k X.A)(hg:Gl X x)(hm:X.mg x=some (.ref f))(hk:PySem.W.keepIn X.K (.ref f)=true)(hb:Binds X.K fd ps ds)(hd:Vals dvs ds)(hx:Passes CX X E)
  (ha:PA X (e::es) t) (hdb:(x == ("__debug__":Str))=false:=by decide) (he:starEach (e::es) X.env=(false,eval e X.env)::starEach es X.env:=by rfl) (hpl:(backTo pos (starEach es X.env)).any (·.1)=false:=by rfl) :
  PE X (.Call (.Name x p) (e::es) [] pos) (tCall sp dvs E t):=by
 intro pins s σ H Q I h
 refine wpAny_Call_Name_kw (ld_glob I hg hm ?_ hdb)
 refine PySem.W.callWith_K (h₀:=X.base) I.ok.mod.kin hk (thn (ha pos pins s σ H _ I h) fun us s1 ⟨vs,H1,I1,r,q⟩=>⟨I1.kIn,?_⟩) he hpl
 exact run_fn F hr hb hd hx I1 r q
structure Mk (K:PySem.W.Frag)(C f:Addr):Prop where
 makes:PySem.W.makesIn K C=true
 init:PySem.W.findIn K (.ref C) "__init__"=some (some (.ref f))
 fn:PySem.W.isFn K (.ref f)=true
 kp:PySem.W.keepIn K (.ref C)=true
theorem run_make {pins:List (Addr×Obj)}{σ:St}{H:Hp}{s:Shared}{Q:VK}{us:List Value}{vs:List V}(M:Mk X.K C f)(F:FnOk X.prog X.w X.K X.mg X.base CX k f fd ps sp)(hr:Room (k+1) X.A)(hb:Binds X.K fd ps ds)(hd:Vals dvs ds)
  (hx:Passes CX X E) (I:Inv X pins σ H s) (r:Vals vs us)
  (h:∀ x dx,H x=none→H dx=none→dx≠x→sp (.ref x::(vs++dvs)) (upd (upd H dx (.own x)) x (.ins C dx [])) (fun v H2=>v=.non∧Q (.ref x) H2) E) :
  wpAny (model X.prog X.w) X.A (call (.ref C) us) (EP X pins σ Q) X.xe s:=by
 have hq:=h (s.heap.objs.size+1) s.heap.objs.size (I.hok.fresh (Nat.le_succ _)) (I.hok.fresh (Nat.le_refl _)) (Nat.ne_of_lt (Nat.lt_succ_self _))
 have I2:=Inv.made (C:=C) I
 have r2:Vals (V.ref (s.heap.objs.size+1)::(vs++dvs)) (Value.ref (s.heap.objs.size+1)::(us++ds)):=.cons rfl (r.append hd)
 have hl:(Value.ref (s.heap.objs.size+1)::us++ds).length=ps.length:=by
  have e:=r2.length
  rw [F.len _ _ _ _ hq] at e
  exact e.symm
 refine wpAny_call (make_map (f:=f) I.kIn M.makes M.init (beq_iff_eq.mp M.fn) (codeAny_mono (F.run _ X.stack _ _ ⟨Value.ref (s.heap.objs.size+1)::us,[]⟩ (Value.ref (s.heap.objs.size+1)::(us++ds)) _ _ E (hr.make C us []) (fun z=>I.ok.hd (hx.1 z))
  (I2.env0.make C us []) (hb _ (Value.ref (s.heap.objs.size+1)::us) I2.kIn hl) r2 hq) fun r s' hq'=>?_))
 cases r with
 | error e=>exact hx.2 pins σ _ _ e s' I2 hq'
 | ok fl=>
  cases fl with
  | ret u=>
   obtain ⟨v,H',I3,rv,ev,q3⟩:=I2.after hq'
   subst ev
   exact ⟨rv,⟨V.ref (s.heap.objs.size+1),H',I3,rfl,q3⟩⟩
  | next=>exact False.elim hq'
  | brk=>exact False.elim hq'
  | cont=>exact False.elim hq'
theorem pe_make0 (M:Mk X.K C f)(F:FnOk X.prog X.w X.K X.mg X.base CX k f fd ps sp)(hr:Room (k+1) X.A)(hg:Gl X x)(hm:X.mg x=some (.ref C))(hb:Binds X.K fd ps ds)(hd:Vals dvs ds)(hx:Passes CX X E)
  (hdb:(x == ("__debug__":Str))=false:=by decide):PE X (.Call (.Name x p) [] [] pos) (tMake C sp dvs E tNil):=by
 intro pins s σ H Q I h
 refine wpAny_Call_Name_kw (ld_glob I hg hm ?_ hdb)
 exact PySem.W.callWith_K0 I.kIn M.kp (run_make (us:=[]) M F hr hb hd hx I .nil h)
end
structure FnScope (N P:List Str)(sc:Scope):Prop where
 kind:sc.kind=.function
 co:sc.isCoroutine=false
 gen:sc.isGenerator=false
 nd:N.Nodup
 pre:N.take P.length=P
 par:∀ x∈P,sc.names.lookup x=some .local∨sc.names.lookup x=some .cell
 nofree:∀ y∈sc.names,y.2≠.free
theorem bindL_out {kindOf:Str→Option NameKind}{x:Str}:∀ {binds:List (Str×Value)} {m:Str→Option Value},(∀ v,(x,v) ∉ binds)→bindL kindOf binds m x=m x
 | [],_,_=>rfl
 | (n,v)::r,m,h=>by
  unfold bindL
  rw [bindL_out fun w hw=>h w (List.mem_cons_of_mem _ hw)]
  split
  ·have:x≠n:=by rintro rfl; exact h v List.mem_cons_self
   simp [this]
  ·rfl
theorem bindC_out {kindOf:Str→Option NameKind}{x:Str}:∀ {binds:List (Str×Value)} {m:Str→Option Value},(∀ v,(x,v) ∉ binds)→bindC kindOf binds m x=m x
 | [],_,_=>rfl
 | (n,v)::r,m,h=>by
  unfold bindC
  rw [bindC_out fun w hw=>h w (List.mem_cons_of_mem _ hw)]
  split
  ·rfl
  ·have:x≠n:=by rintro rfl; exact h v List.mem_cons_self
   simp [this]
theorem bindL_get {kindOf:Str→Option NameKind}{x:Str}{v:Value}:∀ {P:List Str} {vs:List Value} {i:Nat} {m:Str→Option Value},P.Nodup→P[i]? = some x→vs[i]? = some v→kindOf x=some .local →
  bindL kindOf (P.zip vs) m x=some v
 | [],_,_,_,_,h,_,_=>by simp at h
 | _::_,[],_,_,_,_,h,_=>by simp at h
 | p::P,w::vs,0,m,nd,h1,h2,hk=>by
  simp at h1 h2; subst h1; subst h2
  show bindL kindOf ((p,w)::P.zip vs) m p=_
  unfold bindL
  rw [bindL_out fun v hv=>(List.nodup_cons.mp nd).1 (List.of_mem_zip hv).1,if_pos hk]
  simp
 | p::P,w::vs,i+1,m,nd,h1,h2,hk=>by
  show bindL kindOf ((p,w)::P.zip vs) m x=_
  unfold bindL
  exact bindL_get (i:=i) (List.nodup_cons.mp nd).2 (by simpa using h1) (by simpa using h2) hk
theorem bindC_get {kindOf:Str→Option NameKind}{x:Str}{v:Value}:∀ {P:List Str} {vs:List Value} {i:Nat} {m:Str→Option Value},P.Nodup→P[i]? = some x→vs[i]? = some v→kindOf x≠some .local →
  bindC kindOf (P.zip vs) m x=some v
 | [],_,_,_,_,h,_,_=>by simp at h
 | _::_,[],_,_,_,_,h,_=>by simp at h
 | p::P,w::vs,0,m,nd,h1,h2,hk=>by
  simp at h1 h2; subst h1; subst h2
  show bindC kindOf ((p,w)::P.zip vs) m p=_
  unfold bindC
  rw [bindC_out fun v hv=>(List.nodup_cons.mp nd).1 (List.of_mem_zip hv).1,if_neg hk]
  simp
 | p::P,w::vs,i+1,m,nd,h1,h2,hk=>by
  show bindC kindOf ((p,w)::P.zip vs) m x=_
  unfold bindC
  exact bindC_get (i:=i) (List.nodup_cons.mp nd).2 (by simpa using h1) (by simpa using h2) hk
def start (N:List Str)(vs:List V):St:=vs.map some++List.replicate (N.length - vs.length) none
def cxOf (CX:CXT)(P:Program)(w:World)(K:PySem.W.Frag)(mg:Str→Option Value)(base:Heap)(N:List Str)(qual:Str)(scope:Scope)(f:Addr)(cd:Value)(A:Around)(outer:List Env)(s:Shared)(H:Hp)(E:XK):Cx where
 prog:=P
 w:=w
 K:=K
 mg:=mg
 base:=base
 A:=A.deeper (envOfC qual scope s.heap.objs.size f cd)
 N:=N
 s₀:=s
 H₀:=H
 env:=envOfC qual scope s.heap.objs.size f cd
 outer:=outer
 stack:=envOfC qual scope s.heap.objs.size f cd::outer
 ex:=[]
 calm:=CX.q
 fn:=fun _=>true
 pn:=[]
 xe:=fun e s'=>wpAny (model P w) (A.deeper (envOfC qual scope s.heap.objs.size f cd)) (leaving (envOfC qual scope s.heap.objs.size f cd) e) (fun _ s''=>CX outer H s E e s'') (fun e' s''=>CX outer H s E e' s'') s'
theorem cell_has {sc:Scope}{n:Nat}{x:Str}(h:sc.names.lookup x=some .cell):∃ c,(cellsFrom n sc.names []).lookup x=some c:=by
 have q:=PySem.W.cellsFrom_some sc.names n [] (.inl h)
 exact Option.isSome_iff_exists.mp q
theorem inv_start {CX:CXT}{P:Program}{w:World}{K:PySem.W.Frag}{mg:Str→Option Value}{base:Heap}{N ps:List Str}{qual:Str}{scope:Scope}{f:Addr}{cd:Value}{A:Around}{outer:List Env}{s s1:Shared}{H:Hp}{E:XK}{us:List Value}{vs:List V}
  (S:FnScope N ps scope) (hd:CX.q=true→A.handled=none) (e0:Env0 P w K mg base A outer s H) (hl:vs.length=ps.length) (r:Vals vs us)
  (x:InCallC s s.heap.objs.size (bindL (envOfC qual scope s.heap.objs.size f cd).kindOf (ps.zip us) fun _=>none) (cellsFrom (s.heap.objs.size+1) scope.names []) (bindC (envOfC qual scope s.heap.objs.size f cd).kindOf (ps.zip us) fun _=>none) s1) :
  Inv (cxOf CX P w K mg base N qual scope f cd A outer s H E) [] (start N vs) H s1:=by
 have hpl:ps.length≤N.length:=by have:=congrArg List.length S.pre; rw [List.length_take] at this; omega
 obtain ⟨h1,tk,rfl,hk⟩:=x.done
 have noA:∀ b:Addr,b ∉ (cxOf CX P w K mg base N qual scope f cd A outer s H E).ex:=fun b z=>absurd (show b∈([]:List Addr) from z) (by simp)
 refine ⟨⟨e0.mod,S.kind,rfl,rfl,Nat.le_refl _,fun y z c h1 h2=>?_,fun y hy=>?_,fun y c _ h=>?_,hd,Around.frames_deeper e0.frames,.inr ⟨rfl,rfl⟩,fun b z=>absurd z (noA b),e0.bs,e0.bsz,fun b _ _=>noA b,fun b z=>absurd z (noA b),e0.funs,e0.frf⟩,
  rfl,e0.bare,Un.kept hk,⟨_,x.toInCall.ns,fun i y v h1 h2 h3=>?_⟩,fun y c h=>⟨_,x.cell y c h⟩,e0.hok.fresh (Nat.le_refl _),fun y c h=>?_,fun p hp=>absurd (show p∈([]:List (Addr×Obj)) from hp) (by simp),e0.hok.kept hk,?_⟩
 ·exact name_of_addr x.apart (PySem.mem_of_lookup h1) (PySem.mem_of_lookup h2)
 ·have hy:scope.names.lookup y=some .cell∨scope.names.lookup y=some .free:=hy
  rcases hy with hy | hy
  ·exact cell_has hy
  ·exact absurd rfl (S.nofree _ (PySem.mem_of_lookup hy))
 ·exact Nat.le_of_lt (x.above y c (PySem.mem_of_lookup h))
 ·have hi:i<vs.length:=by
   unfold start at h2
   by_cases hi:i<vs.length
   ·exact hi
   ·rw [List.getElem?_append_right (by simpa using hi)] at h2
    rw [List.getElem?_replicate] at h2
    split at h2 <;> cases h2
  have ha:vs[i]? = some v:=by
   unfold start at h2
   rw [List.getElem?_append_left (by simpa using hi),List.getElem?_map] at h2
   cases e:vs[i]? with
   | none=>rw [e] at h2; cases h2
   | some a=>rw [e] at h2; cases h2; rfl
  obtain ⟨u,hu,rv⟩:=r.get ha
  have hp:ps[i]? = some y:=by
   rw [← S.pre,List.getElem?_take_of_lt (by omega)]; exact h1
  have ndP:ps.Nodup:=by rw [← S.pre]; exact S.nd.sublist (List.take_sublist _ _)
  refine ⟨u,rv,?_⟩
  rcases S.par y (List.mem_of_getElem? hp) with k | k
  ·exact .inl ⟨k,bindL_get ndP hp hu k⟩
  ·obtain ⟨c,e⟩:=cell_has (n:=s.heap.objs.size+1) k
   refine .inr ⟨.inl k,c,e,?_⟩
   have q:=x.cell y c e
   rw [bindC_get ndP hp hu (by show scope.names.lookup y≠_; rw [k]; decide)] at q
   exact q
 ·exact e0.hok.fresh (Nat.le_of_lt (x.above y c (PySem.mem_of_lookup h)))
 ·unfold start
  show _=N.length
  rw [List.length_append,List.length_map,List.length_replicate]
  omega
theorem fn_of {CX:CXT}{P:Program}{w:World}{K:PySem.W.Frag}{mg:Str→Option Value}{base:Heap}{k:Nat}{f:Addr}{name qual:Str}{params:Arguments}{body:List Stmt}{scope:Scope}{dV kV doc pm cdv ct oc:Value}{an od:Option Addr}
  {osl:Array (Option Value)} {N ps:List Str} {sp:Sp} (lk:K.lookup f=some ⟨oc,od,.func (PySem.W.fnOf name qual params body scope dV kV doc pm an cdv ct),osl⟩) (hcd:PySem.W.codeIn K cdv qual=true) (S:FnScope N ps scope)
  (len:∀ vs H Q E,sp vs H Q E→vs.length=ps.length)
  (hbody:∀ (A:Around) (outer:List Env) (s:Shared) (H:Hp) (vs:List V) (Q:VK) (E:XK),Room k (A.deeper (envOfC qual scope s.heap.objs.size f cdv))→sp vs H Q E →
   ∃ t,PSs (cxOf CX P w K mg base N qual scope f cdv A outer s H E) body t∧t { nx:=fun _ H'=>Q .non H',rt:=Q } (start N vs) H) :
  FnOk P w K mg base CX (k+1) f (PySem.W.fnOf name qual params body scope dV kV doc pm an cdv ct) ps sp:=by
 refine ⟨len,fun A outer s H args us vs Q E hr hq0 e0 hb r hsp=>?_⟩
 have hl:=len _ _ _ _ hsp
 have KX:K.In s.heap:=e0.mod.kin.keeps fun b o e=>(e0.bs b o e).1
 have lim:s.heap.NoLimit:=e0.mod.nolimit.keeps fun b o e=>(e0.bs b o e).1
 have hkind:∀ y∈ps.zip us,scope.names.lookup y.1=some .local∨(scope.names.lookup y.1=some .cell∧((cellsFrom (s.heap.objs.size+1) scope.names []).lookup y.1).isSome=true):=fun ⟨n,v⟩ hy=>by
  rcases S.par n (List.of_mem_zip hy).1 with q | q
  ·exact .inl q
  ·exact .inr ⟨q,PySem.W.cellsFrom_some _ _ _ (.inl q)⟩
 refine codeAny_call_function hr.depth (KX _ _ lk) rfl S.co S.gen rfl (PySem.W.codeRec_of KX hcd) (hb _ _ _ _ ?_)
 refine wpAny_newFunctionEnv_cells S.kind hkind fun env he s1 x=>?_
 subst he
 refine ⟨lim.keeps x.toInCall.keep,codeAny_func ?_⟩
 obtain ⟨t,ht,hq⟩:=hbody A outer s H vs Q E (hr.deeper _) hsp
 have I:Inv (cxOf CX P w K mg base N qual scope f cdv A outer s H E) [] (start N vs) H s1:=inv_start S hq0 e0 hl r x
 refine wpAny_mono (ht [] s1 (start N vs) H _ I hq) (fun fl s' hs=>?_) fun e s' hs=>hs
 have fin:∀ {σ':St} {H':Hp} {v:V} {u:Value},Inv (cxOf CX P w K mg base N qual scope f cdv A outer s H E) [] σ' H' s'→RelV v u→Q v H'→CE outer P w H s Q u s':=
  fun {σ' H' v u} J rv q=>⟨v,H',J.os,J.bare,J.base,J.hok,rv,q⟩
 cases fl with
 | ret u=>
  obtain ⟨v,σ',H',J,rv,q⟩:=hs
  exact fin J rv q
 | next=>
  obtain ⟨σ',H',J,q⟩:=hs
  exact fin (v:=V.non) (u:=Value.none) J rfl q
 | brk=>
  obtain ⟨_,_,_,q⟩:=hs
  exact False.elim q
 | cont=>
  obtain ⟨_,_,_,q⟩:=hs
  exact False.elim q
end L2
namespace L2
open PySem PySem.Spec PyProof.Rows
section
variable {X:Cx} {x:Str} {p pos:Pos} {e:Expr} {es:List Expr} {t:TA} {id T:String} {r:List V→Hp→VK→Prop}
def tCB (r:List V→Hp→VK→Prop)(t:TA):TE:=fun σ H Q=>t σ H fun vs H1=>r vs H1 Q
theorem pe_callB (hc:CallR X (.builtin id) r)(hg:Gl X x)(hm:X.mg x=none)(hv:bootBuiltins x=some (.builtin id))(ha:PA X (e::es) t)(hn:x≠"__name__":=by decide)(hdb:(x == ("__debug__":Str))=false:=by decide)
  (he:starEach (e::es) X.env=(false,eval e X.env)::starEach es X.env:=by rfl) (hpl:(backTo pos (starEach es X.env)).any (·.1)=false:=by rfl):PE X (.Call (.Name x p) (e::es) [] pos) (tCB r t):=by
 intro pins s σ H Q I h
 refine wpAny_Call_Name_kw (ld_blt I hg hm hv ?_ hn hdb)
 exact PyProof.Rows.callWith_builtin1 (thn (ha pos pins s σ H _ I h) fun us s1 ⟨vs,H1,I1,r1,q1⟩=>hc pins s1 σ H1 vs us Q I1 r1 q1) he hpl
theorem pe_callTy (hc:CallR X (.type T) r)(hg:Gl X x)(hm:X.mg x=none)(hv:bootBuiltins x=some (.type T))(ha:PA X (e::es) t)(hn:x≠"__name__":=by decide)(hdb:(x == ("__debug__":Str))=false:=by decide)
  (he:starEach (e::es) X.env=(false,eval e X.env)::starEach es X.env:=by rfl) (hpl:(backTo pos (starEach es X.env)).any (·.1)=false:=by rfl):PE X (.Call (.Name x p) (e::es) [] pos) (tCB r t):=by
 intro pins s σ H Q I h
 refine wpAny_Call_Name_kw (ld_blt I hg hm hv ?_ hn hdb)
 exact PyProof.Rows.callWith_type1 (thn (ha pos pins s σ H _ I h) fun us s1 ⟨vs,H1,I1,r1,q1⟩=>hc pins s1 σ H1 vs us Q I1 r1 q1) he hpl
end
end L2
namespace HT
open PySem PyProof.Rows
section
variable {prog:Program} {w:World} {A:Around} {E:Value→Shared→Prop} {s:Shared}
def sIx (n d:Nat):Option Int→Nat
 | none=>d
 | some v=>if v<0 then (v+(n:Int)).toNat else min v.toNat n
end
end HT
namespace L2
open PySem PySem.Spec PyProof.Rows
abbrev TO:=St→Hp→(Option Int→Hp→Prop)→Prop
def PO (X:Cx)(e:Option Expr)(t:TO):Prop:=
 ∀ (pins:List (Addr×Obj)) (s:Shared) (σ:St) (H:Hp) (Q:Option Int→Hp→Prop),Inv X pins σ H s→t σ H Q →
  wpAny (model X.prog X.w) X.A (evalPart e X.env) (fun u s'=>∃ o H',Inv X pins σ H' s'∧IsPart u o∧Q o H') X.xe s
def tNoPart:TO:=fun _ H Q=>Q none H
def tPart (t:TE):TO:=fun σ H Q=>t σ H fun x H1=>∃ i,x=.int i∧Q (some i) H1
theorem intsAre_of {ns:List Int}:∀ {us:List Value},Vals (ns.map V.int) us→IntsAre us ns:=by
 induction ns with
 | nil=>intro us r; rw [List.map_nil] at r; cases r; exact .nil
 | cons n ns ih=>
  intro us r
  rw [List.map_cons] at r
  cases r with
  | cons r1 r2=>
   obtain ⟨t,e⟩:=r1
   subst e
   exact .cons n t (ih r2)
section
variable {X:Cx} {e:Expr} {te:TE} {lo hi:Option Expr} {tl th:TO} {pos p2:Pos}
theorem po_none:PO X none tNoPart:=by
 intro pins s σ H Q I h
 rw [evalPart_none]
 exact wpAny_pure ⟨none,H,I,.none,h⟩
theorem po_some (h:PE X e te):PO X (some e) (tPart te):=by
 intro pins s σ H Q I hw
 rw [evalPart_some]
 refine thn (h pins s σ H _ I hw) fun u s1 ⟨x,H1,I1,r1,q1⟩=>?_
 obtain ⟨i,rfl,q⟩:=q1
 obtain ⟨t,rfl⟩:=r1
 exact ⟨some i,H1,I1,.int i t,q⟩
def SlR (X:Cx)(r:V→Option Int→Option Int→Hp→VK→Prop):Prop:=
 ∀ (pins:List (Addr×Obj)) (s:Shared) (σ:St) (H:Hp) (x:V) (v vl vu:Value) (lo hi:Option Int) (sl:Addr) (Q:VK),Inv X pins σ H s→RelV x v→s.heap.IsSliceOf sl vl vu .none→IsPart vl lo→IsPart vu hi→r x lo hi H Q →
  ∃ T id,typeLookup (.type T) "__getitem__"=pure (some (.builtin id))∧s.TypeIs v T∧wpAny (model X.prog X.w) X.A (getItem v (.ref sl)) (EP X pins σ Q) X.xe s
theorem SlR.or {r r':V→Option Int→Option Int→Hp→VK→Prop}(h:SlR X r)(h':SlR X r'):SlR X (fun x lo hi H Q=>r x lo hi H Q∨r' x lo hi H Q):=by
 intro pins s σ H x v vl vu lo hi sl Q I rx hs pl pu q
 rcases q with q | q
 ·exact h pins s σ H x v vl vu lo hi sl Q I rx hs pl pu q
 ·exact h' pins s σ H x v vl vu lo hi sl Q I rx hs pl pu q
def tSl (r:V→Option Int→Option Int→Hp→VK→Prop)(te:TE)(tl th:TO):TE:=fun σ H Q=>te σ H fun x H1=>tl σ H1 fun l H2=>th σ H2 fun u H3=>r x l u H3 Q
theorem pe_slice {r:V→Option Int→Option Int→Hp→VK→Prop}(hr:SlR X r)(he:PE X e te)(hl:PO X lo tl)(hu:PO X hi th):PE X (.Subscript e (.Slice lo hi none p2) pos) (tSl r te tl th):=by
 intro pins s σ H Q I h
 refine Subscript_ (thn (he pins s σ H _ I h) fun v s1 ⟨x,H1,I1,r1,q1⟩=>?_)
 refine wpAny_Slice (thn (hl pins s1 σ H1 _ I1 q1) fun vl s2 ⟨l,H2,I2,pl,q2⟩=>thn (hu pins s2 σ H2 _ I2 q2) fun vu s3 ⟨u,H3,I3,pu,q3⟩=>?_)
 rw [evalPart_none]
 refine wpAny_pure ?_
 have I4:Inv X pins σ H3 { s3 with heap:=s3.heap.push { cls:=.type "slice",data:=.fields #[vl,vu,.none] } }:=I3.kept (t':=s3.toks) fun b ob q=>Heap.get?_push_of_some _ q
 obtain ⟨T,id,hT,ht,hg⟩:=hr pins { s3 with heap:=s3.heap.push { cls:=.type "slice",data:=.fields #[vl,vu,.none] } } σ H3 x v vl vu l u s3.heap.objs.size Q I4 r1 (Heap.IsSliceOf.new ..) pl pu q3
 show wpAny (model X.prog X.w) X.A (subscriptTail e (.Slice lo hi none p2) v (.ref s3.heap.objs.size)) (EP X pins σ Q) X.xe { s3 with heap:=s3.heap.push { cls:=.type "slice",data:=.fields #[vl,vu,.none] } }
 exact tail_any (ops:=[.ref s3.heap.objs.size,v]) ht hT hg (by with_unfolding_all rfl)
def cutV (xs:List V)(lo hi:Option Int):List V:=(xs.drop (HT.sIx xs.length 0 lo)).take (HT.sIx xs.length xs.length hi - HT.sIx xs.length 0 lo)
theorem cutV_length (xs:List V)(lo hi:Option Int):(cutV xs lo hi).length≤xs.length:=by
 unfold cutV
 rw [List.length_take,List.length_drop]
 omega
end
end L2
namespace L2
open PySem PySem.Spec PyProof.Rows
def ixN (n:Nat)(i:Int):Option Nat:=if 0≤i then (if i<n then some i.toNat else none) else if -(n:Int)≤i then some (i+n).toNat else none
def atI {α:Type}(xs:List α)(i:Int):Option α:=(ixN xs.length i).bind fun j=>xs[j]?
theorem ixN_seq {n:Nat}{i:Int}{j:Nat}(h:ixN n i=some j):seqIndex? i n=some j∧j<n ∧ -(n:Int)≤i∧i<n:=by
 unfold ixN at h
 by_cases h0:0≤i
 ·rw [if_pos h0] at h
  by_cases h1:i<n
  ·rw [if_pos h1] at h
   have e:i.toNat=j:=Option.some.inj h
   exact ⟨by rw [seqIndex_of h0 h1,e],by omega,by omega,h1⟩
  ·rw [if_neg h1] at h; cases h
 ·rw [if_neg h0] at h
  by_cases h1:-(n:Int)≤i
  ·rw [if_pos h1] at h
   have e:(i+n).toNat=j:=Option.some.inj h
   exact ⟨by rw [seqIndex_neg (by omega) h1,e],by omega,h1,by omega⟩
  ·rw [if_neg h1] at h; cases h
theorem atI_get {α:Type}{xs:List α}{i:Int}{v:α}(h:atI xs i=some v):∃ j,seqIndex? i xs.length=some j∧xs[j]? = some v∧j<xs.length ∧ -(xs.length:Int)≤i∧i<xs.length:=by
 unfold atI at h
 cases e:ixN xs.length i with
 | none=>rw [e] at h; cases h
 | some j=>
  rw [e] at h
  obtain ⟨h1,h2,h3,h4⟩:=ixN_seq e
  exact ⟨j,h1,h,h2,h3,h4⟩
def PlainIx (b:Expr):Prop:=∀ o i,subscripted b false o i=operate [o,i] (getItem o i)
def IxR (X:Cx)(r:R2):Prop:=
 ∀ (value slice:Expr) (pins:List (Addr×Obj)) (s:Shared) (σ:St) (H:Hp) (x y:V) (v u:Value) (Q:VK),Inv X pins σ H s→RelV x v→RelV y u→r x y H Q →
  subscripted slice false v u=operate [v,u] (getItem v u)→wpAny (model X.prog X.w) X.A (subscriptTail value slice v u) (EP X pins σ Q) X.xe s
def MtR (X:Cx)(id:String)(r:V→List V→Hp→VK→Prop):Prop:=
 ∀ (pins:List (Addr×Obj)) (s:Shared) (σ:St) (H:Hp) (x:V) (xs:List V) (v:Value) (us:List Value) (Q:VK),Inv X pins σ H s→RelV x v→Vals xs us→r x xs H Q →
  wpAny (model X.prog X.w) X.A (call (.builtin id) (v::us)) (EP X pins σ Q) X.xe s
section
variable {X:Cx} {a b:Expr} {ta tb:TE} {pos:Pos}
theorem IxR.or {r r':R2}(h:IxR X r)(h':IxR X r'):IxR X (fun x y H Q=>r x y H Q∨r' x y H Q):=by
 intro value slice pins s σ H x y v u Q I rx ry q hs
 rcases q with q | q
 ·exact h value slice pins s σ H x y v u Q I rx ry q hs
 ·exact h' value slice pins s σ H x y v u Q I rx ry q hs
theorem pe_ix {r:R2}(hr:IxR X r)(ha:PE X a ta)(hb:PE X b tb)(hs:PlainIx b):PE X (.Subscript a b pos) (tOp r ta tb):=by
 intro pins s σ H Q I h
 exact Subscript_ (binT ha hb I h fun v u s2 x y H2 I2 rx ry q=>hr a b pins s2 σ H2 x y v u Q I2 rx ry q (hs _ _))
def rIxL (K:PySem.W.Frag):R2:=fun x y H Q=>∃ p xs i v,x=.ref p∧y=.int i∧SqL K H p xs∧atI xs i=some v∧Q v H
def rIxT (K:PySem.W.Frag):R2:=fun x y H Q=>∃ p xs i v,x=.ref p∧y=.int i∧SqT K H p xs∧atI xs i=some v∧Q v H
def rIxS:R2:=fun x y H Q=>∃ z i c,x=.str z∧y=.int i∧z.length≤sizeLine∧atI z.cps.toList i=some c∧Q (.str ⟨#[c]⟩) H
theorem ix_list:IxR X (rIxL X.K):=by
 intro value slice pins s σ H x y v u Q I rx ry h hs
 obtain ⟨p,xs,i,z,rfl,rfl,hq,he,q⟩:=h
 cases rx
 obtain ⟨t,rfl⟩:=ry
 obtain ⟨its,r,pl,hz⟩:=I.list hq
 obtain ⟨j,h1,h2,h3,h4,h5⟩:=atI_get he
 obtain ⟨w,ew,rw'⟩:=r.get h2
 have hl:=r.length
 have hn:=line63
 have fin:EP X pins σ Q w s:=⟨z,H,I,rw',q⟩
 by_cases h0:0≤i
 ·have hj:i.toNat=j:=by
   rw [seqIndex_of h0 h5] at h1
   exact Option.some.inj h1
  exact item_listR pl.isList h0 (by omega) (by rw [hj]; simpa using ew) fin hs
 ·have hj:(i+(its.toArray.size:Int)).toNat=j:=by
   rw [seqIndex_neg (by omega) h4] at h1
   rw [List.size_toArray,← hl]
   exact Option.some.inj h1
  exact subscriptTail_builtinR (x:=w) pl.isList.typeIs slot_list_getitem.lookup
   (wpAny_getItem_list_neg (Q:=fun r s'=>r=w∧EP X pins σ Q r s') pl.isList (by omega) (by rw [List.size_toArray] <;> omega) (by omega) (by rw [hj]; simpa using ew) ⟨rfl,fin⟩) hs
theorem ix_tup:IxR X (rIxT X.K):=by
 intro value slice pins s σ H x y v u Q I rx ry h hs
 obtain ⟨p,xs,i,z,rfl,rfl,hq,he,q⟩:=h
 cases rx
 obtain ⟨t,rfl⟩:=ry
 obtain ⟨its,r,pl,hz⟩:=I.tuple hq
 obtain ⟨j,h1,h2,h3,h4,h5⟩:=atI_get he
 obtain ⟨w,ew,rw'⟩:=r.get h2
 have hl:=r.length
 have hn:=line63
 have fin:EP X pins σ Q w s:=⟨z,H,I,rw',q⟩
 exact subscriptTail_builtinR (x:=w) pl.typeIs slot_tuple_getitem.lookup
  (getItem_tuple (j:=j) (Q:=fun r s'=>r=w∧EP X pins σ Q r s') pl (by omega) (by omega) (by rw [List.size_toArray,← hl]; exact h1) (by simpa using ew) ⟨rfl,fin⟩) hs
theorem ix_str:IxR X rIxS:=by
 intro value slice pins s σ H x y v u Q I rx ry h hs
 obtain ⟨z,i,c,rfl,rfl,hz,he,q⟩:=h
 obtain ⟨t,rfl⟩:=rx
 obtain ⟨t',rfl⟩:=ry
 obtain ⟨j,h1,h2,h3,h4,h5⟩:=atI_get he
 have hl:z.cps.toList.length=z.length:=by simp [Str.length]
 rw [hl] at h1 h4 h5
 have hn:=line63
 exact tail_any (typeIs_str s z t) slot_str_getitem.lookup (getItem_str (c:=c) (by
  have e1:decide (i < -(2 ^ 63:Int))=false:=decide_eq_false (by omega)
  have e2:decide (i ≥ 2 ^ 63)=false:=decide_eq_false (by omega)
  rw [e1,e2,Bool.or_false]) (by rw [h1]; simpa using h2) ⟨.str ⟨#[c]⟩,H,I.tok _,⟨_,rfl⟩,q⟩) hs
def rIx (K:PySem.W.Frag):R2:=fun x y H Q=>rIxL K x y H Q∨rIxT K x y H Q∨rIxS x y H Q
theorem ix_seq:IxR X (rIx X.K):=ix_list.or (ix_tup.or ix_str)
theorem mapSeq_set (its:List Value)(n j:Nat)(u:Value):Obj.mapSeq (·.setIfInBounds j u) { cls:=.type "list",data:=.seq its.toArray n } = { cls:=.type "list",data:=.seq (its.set j u).toArray n }:=by
 simp [Obj.mapSeq]
theorem Inv.lst {pins:List (Addr×Obj)}{σ:St}{H:Hp}{s:Shared}{p:Addr}{xs:List V}(I:Inv X pins σ H s)(h:H p=some (.lst xs)) :
  ∃ (its:List Value) (n:Nat),Vals xs its∧s.heap.get? p=some { cls:=.type "list",data:=.seq its.toArray n }∧xs.length≤sizeLine:=by
 obtain ⟨z,its,n,r,e⟩:=I.hok p _ h
 exact ⟨its,n,r,e,z⟩
theorem Inv.lstUpd {pins:List (Addr×Obj)}{σ:St}{H:Hp}{s:Shared}{p:Addr}{xs ys:List V}{its its':List Value}{n n':Nat}{f:Obj→Obj}(I:Inv X pins σ H s)(h:H p=some (.lst xs))
  (ho:s.heap.get? p=some { cls:=.type "list",data:=.seq its.toArray n }) (hf:f { cls:=.type "list",data:=.seq its.toArray n } = { cls:=.type "list",data:=.seq its'.toArray n' }) (r:Vals ys its') (hz:ys.length≤sizeLine) (t:Nat) :
  Inv X pins σ (upd H p (.lst ys)) { s with heap:=s.heap.update p f,toks:=t }:=by
 have e:(s.heap.update p f).get? p=some { cls:=.type "list",data:=.seq its'.toArray n' }:=by
  rw [Heap.get?_update_self f ho (by rw [hf] <;> rfl),hf]
 refine I.write (x:=p) (e:=p) (by rw [h]; trivial) (.inl rfl) (fun b u hb q=>(Heap.get?_update_other _ _ (Ne.symm hb)).trans q) ⟨_,e⟩ ?_
 exact ⟨hz,its',n',r,e⟩
def rSetL:V→V→V→Hp→(Hp→Prop)→Prop:=fun o i v H Q=>∃ p xs k j,o=.ref p∧i=.int k∧H p=some (.lst xs)∧ixN xs.length k=some j∧Q (upd H p (.lst (xs.set j v)))
theorem set_list:PSet X rSetL:=by
 intro pins s σ H o i v ov iv u Q I ro ri rv h
 obtain ⟨p,xs,k,j,rfl,rfl,hp,hj,q⟩:=h
 cases ro
 obtain ⟨t,rfl⟩:=ri
 obtain ⟨its,n,r,ho,hz⟩:=I.lst hp
 obtain ⟨h1,h2,h3,h4⟩:=ixN_seq hj
 have hl:=r.length
 have hn:=line63
 have I':Inv X pins σ (upd H p (.lst (xs.set j v))) { s with heap:=s.heap.update p (Obj.mapSeq (·.setIfInBounds j u)) }:=
  I.lstUpd hp ho (mapSeq_set its n j u) (r.set rv j) (by rw [List.length_set]; exact hz) s.toks
 by_cases h0:0≤k
 ·have hk:k.toNat=j:=by
   rw [seqIndex_of h0 h4] at h1
   exact Option.some.inj h1
  exact PySem.W.ki_setAt ho h0 (by omega) (by rw [List.size_toArray,← hl]; exact h4) (by rw [hk]; exact ⟨_,I',q⟩)
 ·have hk:(k+(its.toArray.size:Int)).toNat=j:=by
   rw [seqIndex_neg (by omega) h3] at h1
   rw [List.size_toArray,← hl]
   exact Option.some.inj h1
  exact PySem.W.ki_setBack ho (by omega) (by rw [List.size_toArray,← hl]; exact h3) (by omega) (by rw [hk]; exact ⟨_,I',q⟩)
theorem slice_bounds (lo hi:Option Int)(n:Nat):(sliceBounds lo hi none n).1=((HT.sIx n 0 lo:Nat):Int)∧(sliceBounds lo hi none n).2.1=((HT.sIx n n hi:Nat):Int)∧(sliceBounds lo hi none n).2.2=1:=by
 refine ⟨?_,?_,rfl⟩
 ·cases lo with
  | none=>simp [sliceBounds,HT.sIx]
  | some i=>
   simp only [sliceBounds,HT.sIx,Option.getD_none,show (1:Int) > 0 by decide,if_true]
   by_cases h:i<0
   ·simp only [h,if_true] <;> omega
   ·simp only [h,if_false] <;> omega
 ·cases hi with
  | none=>simp [sliceBounds,HT.sIx]
  | some i=>
   simp only [sliceBounds,HT.sIx,Option.getD_none,show (1:Int) > 0 by decide,if_true]
   by_cases h:i<0
   ·simp only [h,if_true] <;> omega
   ·simp only [h,if_false] <;> omega
theorem slicePick_cut (its:List Value)(lo hi:Option Int):slicePick its.toArray lo hi none=((its.drop (HT.sIx its.length 0 lo)).take (HT.sIx its.length its.length hi - HT.sIx its.length 0 lo)).toArray:=by
 obtain ⟨h1,h2,h3⟩:=slice_bounds lo hi its.toArray.size
 unfold slicePick
 rw [h1,h2,h3]
 simp only [sliceRange_one,pick_run,List.size_toArray] <;> rfl
def rSlL (K:PySem.W.Frag):V→Option Int→Option Int→Hp→VK→Prop:=fun x lo hi H Q=>∃ a xs,x=.ref a∧SqL K H a xs∧∀ p,H p=none→Q (.ref p) (upd H p (.lst (cutV xs lo hi)))
theorem sl_list:SlR X (rSlL X.K):=by
 intro pins s σ H x v vl vu lo hi sl Q I rx hs pl pu h
 obtain ⟨a,xs,rfl,hx,q⟩:=h
 cases rx
 obtain ⟨its,r,ht,hz⟩:=I.list hx
 have hlen:=r.length
 refine ⟨"list",_,slot_list_getitem.lookup,ht.isList.typeIs,?_⟩
 refine wpAny_getItem_list_slice ht.isList hs pl pu .none (by simp) ?_ (by rw [List.size_toArray] <;> omega)
 rw [slicePick_cut,← hlen]
 refine ⟨.ref s.heap.objs.size,_,I.laid (t':=s.toks) (o:=.lst (cutV xs lo hi)) (fun b ob q=>Heap.get?_push_of_some _ q) (Nat.le_refl _) ?_,rfl,q _ (I.hok.fresh (Nat.le_refl _))⟩
 exact ⟨Nat.le_trans (cutV_length xs lo hi) hz,_,0,(r.drop (HT.sIx xs.length 0 lo)).take (HT.sIx xs.length xs.length hi - HT.sIx xs.length 0 lo),Heap.get?_push_size _ rfl⟩
def flatV:V→Bool
 | .non=>true
 | .bl _=>true
 | .int _=>true
 | .str _=>true
 | _=>false
def eqV:V→V→Bool
 | .non,.non=>true
 | .bl a,.bl b=>a == b
 | .bl a,.int b=>(if a then 1 else 0) == b
 | .int a,.bl b=>a == (if b then 1 else 0)
 | .int a,.int b=>a == b
 | .str a,.str b=>a == b
 | _,_=>false
theorem eqAt_V {A:Around}{s:Shared}{y x:V}{u v:Value}(ry:RelV y u)(rx:RelV x v)(fy:flatV y=true)(fx:flatV x=true):SeqAt.EqAt A s u v (eqV y x):=by
 cases y with
 | non=>
  cases ry
  cases x with
  | non=>cases rx; exact SeqAt.EqAt.same _
  | bl b=>cases rx; exact SeqAt.EqAt.none_bool b
  | int b=>obtain ⟨t,rfl⟩:=rx; exact SeqAt.EqAt.none_int b t
  | str b=>obtain ⟨t,rfl⟩:=rx; exact SeqAt.EqAt.none_str b t
  | _=>exact absurd (show false=true from fx) Bool.false_ne_true
 | bl a=>
  cases ry
  cases x with
  | non=>cases rx; exact SeqAt.EqAt.bool_none a
  | bl b=>cases rx; exact SeqAt.EqAt.bool_bool a b
  | int b=>obtain ⟨t,rfl⟩:=rx; exact SeqAt.EqAt.bool_int a b t
  | str b=>obtain ⟨t,rfl⟩:=rx; exact SeqAt.EqAt.bool_str a b t
  | _=>exact absurd (show false=true from fx) Bool.false_ne_true
 | int a=>
  obtain ⟨t',rfl⟩:=ry
  cases x with
  | non=>cases rx; exact SeqAt.EqAt.int_none a t'
  | bl b=>cases rx; exact SeqAt.EqAt.int_bool a t' b
  | int b=>obtain ⟨t,rfl⟩:=rx; exact SeqAt.EqAt.int_int a t' b t
  | str b=>obtain ⟨t,rfl⟩:=rx; exact SeqAt.EqAt.int_str a t' b t
  | _=>exact absurd (show false=true from fx) Bool.false_ne_true
 | str a=>
  obtain ⟨t',rfl⟩:=ry
  cases x with
  | non=>cases rx; exact SeqAt.EqAt.str_none a t'
  | bl b=>cases rx; exact SeqAt.EqAt.str_bool a t' b
  | int b=>obtain ⟨t,rfl⟩:=rx; exact SeqAt.EqAt.str_int a t' b t
  | str b=>obtain ⟨t,rfl⟩:=rx; exact SeqAt.EqAt.str_str a t' b t
  | _=>exact absurd (show false=true from fx) Bool.false_ne_true
 | _=>exact absurd (show false=true from fy) Bool.false_ne_true
def eqU (x:V)(u:Value):Bool:=match u with
 | .none=>eqV .non x
 | .bool b=>eqV (.bl b) x
 | .int i _=>eqV (.int i) x
 | .str z _=>eqV (.str z) x
 | _=>false
theorem eqU_of {x y:V}{u:Value}(r:RelV y u)(f:flatV y=true):eqU x u=eqV y x:=by
 cases y with
 | non=>cases r; rfl
 | bl b=>cases r; rfl
 | int i=>obtain ⟨t,rfl⟩:=r; rfl
 | str z=>obtain ⟨t,rfl⟩:=r; rfl
 | _=>exact absurd (show false=true from f) Bool.false_ne_true
theorem any_eqU {x:V}:∀ {xs:List V} {us:List Value},Vals xs us→xs.all flatV=true→us.any (eqU x)=xs.any fun y=>eqV y x
 | _,_,.nil,_=>rfl
 | y::xs,u::us,.cons r t,f=>by
  rw [List.all_cons,Bool.and_eq_true] at f
  rw [List.any_cons,List.any_cons,eqU_of r f.1,any_eqU t f.2]
theorem mem_eqAt {A:Around}{s:Shared}{x:V}{v:Value}(rx:RelV x v)(fx:flatV x=true):∀ {xs:List V} {us:List Value},Vals xs us→xs.all flatV=true→∀ u∈us,SeqAt.EqAt A s u v (eqU x u)
 | _,_,.nil,_=>fun u hu=>by cases hu
 | y::xs,u::us,.cons r t,f=>fun u' hu=>by
  rw [List.all_cons,Bool.and_eq_true] at f
  rcases List.mem_cons.mp hu with rfl | hu
  ·rw [eqU_of r f.1]; exact eqAt_V r rx f.1 fx
  ·exact mem_eqAt rx fx t f.2 u' hu
def inV (x:V)(xs:List V):Bool:=xs.any fun y=>eqV y x
def rIn (K:PySem.W.Frag)(neg:Bool):R2:=fun x y H Q=>∃ p xs,y=.ref p∧(SqL K H p xs∨SqT K H p xs)∧flatV x=true∧xs.all flatV=true∧Q (.bl (if neg then !inV x xs else inV x xs)) H
theorem op_in_seq:OpR X (compareOp .In) (rIn X.K false):=by
 intro pins s σ H x y v u Q I rx ry h
 obtain ⟨p,xs,rfl,hq,fx,fs,q⟩:=h
 cases ry
 rcases hq with hq | hq
 ·obtain ⟨its,r,pl,hz⟩:=I.list hq
  refine SeqAt.in_listAt (eqU x) pl.isList (fun w hw=>mem_eqAt rx fx r fs w (by simpa using hw)) ⟨.bl _,H,I,rfl,?_⟩
  rw [show its.toArray.any (eqU x)=its.any (eqU x) by simp,any_eqU r fs]
  exact q
 ·obtain ⟨its,r,pl,hz⟩:=I.tuple hq
  refine SeqAt.in_tupleAt (eqU x) pl (fun w hw=>mem_eqAt rx fx r fs w (by simpa using hw)) ⟨.bl _,H,I,rfl,?_⟩
  rw [show its.toArray.any (eqU x)=its.any (eqU x) by simp,any_eqU r fs]
  exact q
theorem op_notIn_seq:OpR X (compareOp .NotIn) (rIn X.K true):=by
 intro pins s σ H x y v u Q I rx ry h
 obtain ⟨p,xs,rfl,hq,fx,fs,q⟩:=h
 cases ry
 rcases hq with hq | hq
 ·obtain ⟨its,r,pl,hz⟩:=I.list hq
  refine SeqAt.notIn_listAt (eqU x) pl.isList (fun w hw=>mem_eqAt rx fx r fs w (by simpa using hw)) ⟨.bl _,H,I,rfl,?_⟩
  rw [show its.toArray.any (eqU x)=its.any (eqU x) by simp,any_eqU r fs]
  exact q
 ·obtain ⟨its,r,pl,hz⟩:=I.tuple hq
  refine SeqAt.notIn_tupleAt (eqU x) pl (fun w hw=>mem_eqAt rx fx r fs w (by simpa using hw)) ⟨.bl _,H,I,rfl,?_⟩
  rw [show its.toArray.any (eqU x)=its.any (eqU x) by simp,any_eqU r fs]
  exact q
theorem op_notIn_str:OpR X (compareOp .NotIn) (fun x y H Q=>∃ i j,x=.str i∧y=.str j∧Q (.bl (!(!(Builtin.Str.occurrences j i 0 j.length 1).isEmpty))) H):=by
 intro pins s σ H x y v u Q I rx ry h
 obtain ⟨i,j,rfl,rfl,q⟩:=h
 obtain ⟨t,rfl⟩:=rx
 obtain ⟨t',rfl⟩:=ry
 exact notIn_str ⟨.bl _,H,I,rfl,q⟩
theorem CallR.or {f:Value}{r r':List V→Hp→VK→Prop}(h:CallR X f r)(h':CallR X f r'):CallR X f (fun xs H Q=>r xs H Q∨r' xs H Q):=by
 intro pins s σ H xs us Q I rs q
 rcases q with q | q
 ·exact h pins s σ H xs us Q I rs q
 ·exact h' pins s σ H xs us Q I rs q
def tyV (K:PySem.W.Frag)(T:String)(x:V)(H:Hp):Prop:=match x with
 | .str _=>T="str"
 | .int _=>T="int"
 | .ref p=>(T="list"∧∃ xs,SqL K H p xs)∨(T="tuple"∧∃ o,K.lookup p=some o∧o.cls=.type "tuple"∧o.dict=none) ∨
   (T="dict"∧((∃ kvs,H p=some (.dK kvs))∨∃ kvs,H p=some (.dT kvs)))∨(T="set"∧∃ S n,H p=some (.set S n))
 | _=>False
theorem tyV_is {pins:List (Addr×Obj)}{σ:St}{H:Hp}{s:Shared}{T:String}{x:V}{v:Value}(I:Inv X pins σ H s)(r:RelV x v)(ty:tyV X.K T x H) :
  s.TypeIs v T∧∀ a,v=.ref a→∃ ob,s.heap.get? a=some ob∧ob.dict=none:=by
 cases x with
 | str z=>
  obtain ⟨t,rfl⟩:=r
  cases (show T="str" from ty)
  exact ⟨typeIs_str s z t,fun _ e=>nomatch e⟩
 | int i=>
  obtain ⟨t,rfl⟩:=r
  cases (show T="int" from ty)
  exact ⟨typeIs_int s i t,fun _ e=>nomatch e⟩
 | ref p=>
  cases r
  rcases ty with ⟨rfl,xs,hq⟩ | ⟨rfl,o,hk,hc,hd⟩ | ⟨rfl,hk⟩ | ⟨rfl,S,n,hk⟩
  ·obtain ⟨its,_,pl,_⟩:=I.list hq
   refine ⟨pl.isList.typeIs,fun a e=>?_⟩
   cases e
   obtain ⟨o,n,e,c,hd,_⟩:=pl
   exact ⟨o,e,hd⟩
  ·refine ⟨⟨o,I.kIn p o hk,hc⟩,fun a e=>?_⟩
   cases e
   exact ⟨o,I.kIn _ o hk,hd⟩
  ·have z:∃ o,s.heap.get? p=some o∧o.ExactDict:=by
    rcases hk with ⟨kvs,hk⟩ | ⟨kvs,hk⟩
    ·obtain ⟨_,_,_,_,o,_,_,e,ex,_⟩:=I.hok p _ hk
     exact ⟨o,e,ex⟩
    ·obtain ⟨_,_,_,_,o,_,_,e,ex,_⟩:=I.hok p _ hk
     exact ⟨o,e,ex⟩
   obtain ⟨o,e,ex⟩:=z
   refine ⟨⟨o,e,ex.1⟩,fun a e2=>?_⟩
   cases e2
   exact ⟨o,e,ex.2.1⟩
  ·obtain ⟨o,_,_,_,e,ex,_⟩:=I.hok p _ hk
   refine ⟨⟨o,e,ex.1⟩,fun a e2=>?_⟩
   cases e2
   exact ⟨o,e,ex.2.1⟩
 | _=>exact False.elim ty
def tBM (K:PySem.W.Frag)(T:String)(r:V→List V→Hp→VK→Prop)(to:TE)(t:TA):TE:=fun σ H Q=>to σ H fun x H1=>tyV K T x H1∧t σ H1 fun xs H2=>r x xs H2 Q
variable {o e:Expr} {es:List Expr} {to:TE} {t:TA} {name:Str} {apos cpos:Pos} {T id:String} {r:V→List V→Hp→VK→Prop}
theorem pe_bm (pa:PlainAttrs T)(slot:Slot T name id)(hty:typeOf (.builtin id)=pure (.type "method_descriptor"))(hm:MtR X id r)(ho:PE X o to)(ha:PA X (e::es) t)
  (hbase:attributeBase o name X.env (eval o X.env)=eval o X.env:=by rfl)
  (hfew:((backTo cpos (starEach (e::es) X.env)).all (fun x=>!x.1) && (backToKw cpos (keywordEach [] X.env)).all (fun x=>x.1.isSome)
   && decide ((e::es).length+([]:List Keyword).length+(if ([]:List Keyword).isEmpty then 0 else 1)<30))=true:=by rfl)
  (hline:(apos.endLine == cpos.line)=true:=by rfl) (hs:starEach (e::es) X.env=(false,eval e X.env)::starEach es X.env:=by rfl) (hplain:(backTo cpos (starEach es X.env)).any (·.1)=false:=by rfl) :
  PE X (.Call (.Attribute o name apos) (e::es) [] cpos) (tBM X.K T r to t):=by
 intro pins s σ H Q I h
 refine wpAny_Call_method_late hbase hfew hline rfl (thn (ho pins s σ H _ I h) fun v s1 ⟨x,H1,I1,r1,ty,q1⟩=>?_)
 obtain ⟨h1,h2⟩:=tyV_is I1 r1 ty
 refine ⟨T,id,pa,slot,hty,h1,h2,?_⟩
 have hA:=ha cpos pins s1 σ H1 _ I1 q1
 rw [hs] at hA ⊢
 refine Calls.callWith_builtin (by show (false || (backTo cpos (starEach es X.env)).any (·.1))=false; rw [hplain] <;> rfl) (Calls.evalArgs_plain ?_)
 exact thn hA fun us s2 ⟨vs,H2,I2,r2,q2⟩=>hm pins s2 σ H2 x vs v us Q I2 r1 r2 q2
end
end L2
namespace L2
open PySem PySem.Spec PyProof.Rows
def MtM (X:Cx)(id:String)(r:V→List V→Hp→VK→Prop):Prop:=
 ∀ (pins:List (Addr×Obj)) (s:Shared) (σ:St) (H:Hp) (x:V) (xs:List V) (v:Value) (us:List Value) (Q:VK),Inv X pins σ H s→RelV x v→Vals xs us→r x xs H Q →
  wpAny (model X.prog X.w) X.A (call (.builtin id) (v::us)) (EP X pins σ Q) X.xe s
theorem Vals.one:∀ {x:V} {us:List Value},Vals [x] us→∃ u,us=[u]∧RelV x u
 | _,_,.cons r .nil=>⟨_,rfl,r⟩
theorem Vals.rep {xs:List V}{us:List Value}(h:Vals xs us):∀ k:Nat,Vals (List.replicate k xs).flatten (List.replicate k us).flatten
 | 0=>.nil
 | k+1=>by
  rw [List.replicate_succ,List.replicate_succ,List.flatten_cons,List.flatten_cons]
  exact Vals.append h (Vals.rep h k)
theorem foldl_rep (its:List Value):∀ (k:Nat) (acc:List Value),
  List.foldl (fun x1 x2=>x1++x2) acc.toArray (List.replicate k its.toArray)=(acc++(List.replicate k its).flatten).toArray
 | 0,acc=>by simp
 | k+1,acc=>by
  have e:acc.toArray++its.toArray=(acc++its).toArray:=by simp
  have e2:(acc++its)++(List.replicate k its).flatten=acc++(List.replicate (k+1) its).flatten:=by
   rw [List.replicate_succ,List.flatten_cons,List.append_assoc]
  rw [← e2,← foldl_rep its k (acc++its),← e,List.replicate_succ,List.foldl_cons]
section
variable {X:Cx} {pins:List (Addr×Obj)} {σ:St} {H:Hp} {s:Shared} {l b:Addr} {xs ys zs:List V}
theorem Inv.lset {its its':List Value}{n:Nat}{f:Array Value→Array Value}{t':Nat}(I:Inv X pins σ H s)(hH:H l=some (.lst xs))
  (e:s.heap.get? l=some { cls:=.type "list",data:=.seq its.toArray n }) (hf:f its.toArray=its'.toArray) (hv:Vals ys its') (hz:ys.length≤sizeLine) :
  Inv X pins σ (upd H l (.lst ys)) { s with heap:=s.heap.update l (Obj.mapSeq f),toks:=t' }:=by
 have q:=PySem.IsL.update e f
 rw [hf] at q
 refine I.write (x:=l) (e:=l) (by rw [hH]; exact trivial) (.inl rfl) (fun b' u hb hu=>(Heap.get?_update_other s.heap (Obj.mapSeq f) (Ne.symm hb)).trans hu) ⟨_,q⟩ ?_
 exact ⟨hz,its',_,hv,q⟩
theorem Inv.lnew {its:List Value}{t':Nat}(I:Inv X pins σ H s)(hv:Vals ys its)(hz:ys.length≤sizeLine) :
  Inv X pins σ (upd H s.heap.objs.size (.lst ys)) { s with heap:=s.heap.push { cls:=.type "list",data:=.seq its.toArray },toks:=t' }:=
 I.laid (fun _ _ q=>Heap.get?_push_of_some _ q) (Nat.le_refl _) ⟨hz,its,0,hv,Heap.get?_push_size _ rfl⟩
theorem Inv.fresh (I:Inv X pins σ H s):H s.heap.objs.size=none:=I.hok.fresh (Nat.le_refl _)
theorem Inv.lstM (I:Inv X pins σ H s)(hH:H l=some (.lst xs)):xs.length≤sizeLine∧∃ (its:List Value) (n:Nat),Vals xs its∧xs.length=its.length∧s.heap.get? l=some { cls:=.type "list",data:=.seq its.toArray n }:=by
 obtain ⟨z,its,n,r,e⟩:=I.hok l _ hH
 exact ⟨z,its,n,r,r.length,e⟩
theorem notLongL {n:Nat}(h:n≤sizeLine):Builtin.List.listTooLong n=false:=by
 unfold Builtin.List.listTooLong
 exact decide_eq_false (by omega)
end
section
variable {X:Cx}
def rAppend:V→List V→Hp→VK→Prop:=fun x vs H Q=>∃ l xs y,x=.ref l∧vs=[y]∧H l=some (.lst xs)∧xs.length<sizeLine∧Q .non (upd H l (.lst (xs++[y])))
theorem mt_append:MtM X "list.append" rAppend:=by
 intro pins s σ H x vs v us Q I rx rv h
 obtain ⟨l,xs,y,rfl,rfl,hH,hz,q⟩:=h
 cases rx
 obtain ⟨u,rfl,ru⟩:=rv.one
 obtain ⟨z,its,n,r,hl,e⟩:=I.lstM hH
 refine call_meets F.slot_list_append ⟨_,e,rfl⟩ F.entry_list_append (F.args_list_append_2 _ _) (PySem.list_append l its.toArray n u (by rw [List.size_toArray]; omega)) ⟨e,?_⟩
 refine ⟨.non,_,I.lset (its':=its++[u]) hH e (by simp) (r.append (.cons ru .nil)) ?_,rfl,q⟩
 rw [List.length_append,List.length_singleton]
 omega
def rExtend:V→List V→Hp→VK→Prop:=fun x vs H Q=>∃ l b xs zs,x=.ref l∧vs=[.ref b]∧H l=some (.lst xs)∧H b=some (.lst zs)∧xs.length+zs.length≤sizeLine∧Q .non (upd H l (.lst (xs++zs)))
theorem mt_extend:MtM X "list.extend" rExtend:=by
 intro pins s σ H x vs v us Q I rx rv h
 obtain ⟨l,b,xs,zs,rfl,rfl,hH,hB,hz,q⟩:=h
 cases rx
 obtain ⟨u,rfl,ru⟩:=rv.one
 cases ru
 obtain ⟨z,its,n,r,hl,e⟩:=I.lstM hH
 obtain ⟨z2,its2,n2,r2,hl2,e2⟩:=I.lstM hB
 have hsz:its.toArray.size+its2.toArray.size≤sizeLine:=by rw [List.size_toArray,List.size_toArray]; omega
 have hlong:¬(!its.toArray.isEmpty && Builtin.List.listTooLong (its.toArray.size+its2.toArray.size))=true:=by
  rw [notLongL hsz,Bool.and_false]
  exact Bool.false_ne_true
 refine call_meets F.slot_list_extend ⟨_,e,rfl⟩ F.entry_list_extend (F.args_list_extend_2 _ _)
  (AutoSeq1.list_extend_list_list_0 l its.toArray n b its2.toArray n2 hlong (by rw [List.size_toArray]; omega) (by omega)) ⟨e,e2,?_⟩
 refine ⟨.non,_,I.lset (its':=its++its2) hH e (by simp) (r.append r2) ?_,rfl,q⟩
 rw [List.length_append]
 omega
def rRep:R2:=fun x y H Q=>∃ l k xs,x=.ref l∧y=.int k∧H l=some (.lst xs) ∧ -(2 ^ 63)≤k∧k<2 ^ 63∧xs.length * k.toNat≤sizeLine ∧
 ∀ p,H p=none→Q (.ref p) (upd H p (.lst (List.replicate k.toNat xs).flatten))
theorem len_rep {α:Type}(xs:List α)(k:Nat):(List.replicate k xs).flatten.length=k * xs.length:=by
 induction k with
 | zero=>simp
 | succ k ih=>rw [List.replicate_succ,List.flatten_cons,List.length_append,ih,Nat.succ_mul,Nat.add_comm]
theorem op_rep:OpR X (binaryOp .Mult) rRep:=by
 intro pins s σ H x y v u Q I rx ry h
 obtain ⟨l,k,xs,rfl,rfl,hH,h1,h2,hz,q⟩:=h
 cases rx
 obtain ⟨t,rfl⟩:=ry
 obtain ⟨z,its,n,r,hl,e⟩:=I.lstM hH
 have hlen:its.toArray.size * k.toNat≤sizeLine:=by rw [List.size_toArray,← hl]; exact hz
 have hcap:¬its.toArray.size * k.toNat > (2 ^ 63 - 1) / 8:=by
  have:(sizeLine:Nat)≤(2 ^ 63 - 1) / 8:=by decide
  omega
 have hfit:¬(!Builtin.List.listFitsIndex k)=true:=by
  rw [fitsIndex_both h1 h2]
  exact Bool.false_ne_true
 have hlong:¬Builtin.List.listTooLong (its.toArray.size * k.toNat)=true:=by
  rw [notLongL hlen]
  exact Bool.false_ne_true
 have hnew:List.foldl (fun x1 x2=>x1++x2) #[] (List.replicate (if its.toArray.isEmpty=true then 0 else k.toNat) its.toArray)=(List.replicate k.toNat its).flatten.toArray:=by
  have f0:∀ m:Nat,List.foldl (fun x1 x2=>x1++x2) #[] (List.replicate m its.toArray)=(List.replicate m its).flatten.toArray:=fun m=>by
   have:=foldl_rep its m []
   rw [List.nil_append] at this
   exact this
  rw [f0]
  cases its with
  | nil=>simp
  | cons a r'=>rw [if_neg (by simp)]
 refine wpAny_binaryOp_repeat_ref (T:="list") (U:="int") (by decide) ⟨_,e,rfl⟩ (fun s'=>typeIs_int s' k t) noFill_list_mul F.fills_int_mul F.slot_int_rmul repeat_list F.slot_int_index.lookup
  (call_meets F.slot_int_rmul (typeIs_int s k t) F.entry_int_rmul (F.args_int_rmul_2 _ _) (int___rmul___int_list k t l its.toArray n)
   ⟨e,rfl,⟨_,e,rfl⟩,call_meets F.slot_list_mul ⟨_,e,rfl⟩ F.entry_list_mul (F.args_list_mul_2 _ _) (AutoListH.list___mul___list_int_3 l its.toArray n k t hfit hcap hlong) ⟨e,?_⟩⟩)
 rw [hnew]
 exact ⟨.ref _,_,I.lnew (t':=s.toks) (r.rep k.toNat) (by rw [len_rep,Nat.mul_comm]; exact hz),rfl,q _ I.fresh⟩
end
end L2
namespace L2
open PySem PySem.Spec PyProof.Rows
section
variable {κ:Type} [DecidableEq κ]
def valV (kvs:List (κ×V))(k:κ):Option V:=(kvs.find? fun kv=>decide (kv.1=k)).map (·.2)
def putK (kvs:List (κ×V))(k:κ)(v:V):List (κ×V):=
 if (kvs.any fun kv=>decide (kv.1=k))=true then kvs.map (fun kv=>if kv.1=k then (kv.1,v) else kv) else kvs++[(k,v)]
def dropK (kvs:List (κ×V))(k:κ):List (κ×V):=kvs.filter fun kv=>decide (kv.1≠k)
theorem valV_pos {p:κ×V}{r:List (κ×V)}{k:κ}(e:p.1=k):valV (p::r) k=some p.2:=by simp [valV,List.find?_cons,e]
theorem valV_neg {p:κ×V}{r:List (κ×V)}{k:κ}(e:¬p.1=k):valV (p::r) k=valV r k:=by simp [valV,List.find?_cons,e]
theorem valV_any (k:κ):∀ kvs:List (κ×V),(kvs.any fun kv=>decide (kv.1=k))=(valV kvs k).isSome
 | []=>rfl
 | p::r=>by
  rw [List.any_cons]
  by_cases e:p.1=k
  ·simp only [valV_pos e,decide_eq_true e,Bool.true_or,Option.isSome_some]
  ·rw [valV_neg e,decide_eq_false e,Bool.false_or]; exact valV_any k r
theorem length_putK (kvs:List (κ×V))(k:κ)(v:V):(putK kvs k v).length≤kvs.length+1:=by
 unfold putK
 split
 ·rw [List.length_map]; omega
 ·rw [List.length_append,List.length_cons,List.length_nil]; omega
theorem RelO.isSome_eq {o:Option V}{u:Option Value}(r:RelO o u):o.isSome=u.isSome:=by
 cases o with
 | none=>cases u with
  | none=>rfl
  | some _=>exact (show False from r).elim
 | some _=>cases u with
  | none=>exact (show False from r).elim
  | some _=>rfl
theorem KV.val {kvs:List (κ×V)}{vs:List (κ×Value)}(r:KV kvs vs)(k:κ):RelO (valV kvs k) (valueAt vs k):=by
 unfold KV at r
 induction r with
 | nil=>exact True.intro
 | @cons p q ps qs h t ih=>
  obtain ⟨h1,h2⟩:=h
  by_cases e:p.1=k
  ·have e':q.1=k:=h1.symm.trans e
   have b:valueAt (q::qs) k=some q.2:=by simp [valueAt,List.find?_cons,e']
   rw [valV_pos e,b]; exact h2
  ·have e':¬q.1=k:=fun z=>e (h1.trans z)
   have b:valueAt (q::qs) k=valueAt qs k:=by simp [valueAt,List.find?_cons,e']
   rw [valV_neg e,b]; exact ih
theorem KV.any {kvs:List (κ×V)}{vs:List (κ×Value)}(r:KV kvs vs)(k:κ):(kvs.any fun kv=>decide (kv.1=k))=vs.any fun kv=>decide (kv.1=k):=by
 unfold KV at r
 induction r with
 | nil=>rfl
 | cons h t ih=>rw [List.any_cons,List.any_cons,ih,h.1]
theorem KV.repl {kvs:List (κ×V)}{vs:List (κ×Value)}(r:KV kvs vs)(k:κ){y:V}{u:Value}(ry:RelV y u) :
  KV (kvs.map fun kv=>if kv.1=k then (kv.1,y) else kv) (vs.map fun kv=>if kv.1=k then (kv.1,u) else kv):=by
 unfold KV at r ⊢
 induction r with
 | nil=>exact .nil
 | @cons p q ps qs h t ih=>
  rw [List.map_cons,List.map_cons]
  refine .cons ?_ ih
  obtain ⟨h1,h2⟩:=h
  by_cases e:p.1=k
  ·rw [if_pos e,if_pos (h1.symm.trans e)]; exact ⟨h1,ry⟩
  ·rw [if_neg e,if_neg (fun z=>e (h1.trans z))]; exact ⟨h1,h2⟩
theorem KV.put {kvs:List (κ×V)}{vs:List (κ×Value)}(r:KV kvs vs)(k:κ){y:V}{u:Value}(ry:RelV y u):KV (putK kvs k y) (stored vs k u):=by
 unfold putK stored
 rw [r.any k]
 by_cases e:(vs.any fun kv=>decide (kv.1=k))=true
 ·rw [if_pos e,if_pos e]; exact r.repl k ry
 ·rw [if_neg e,if_neg e]; exact Paired.snoc r ⟨rfl,ry⟩
theorem KV.drop {kvs:List (κ×V)}{vs:List (κ×Value)}(r:KV kvs vs)(k:κ):KV (dropK kvs k) (without vs k):=by
 unfold KV at r ⊢
 unfold dropK without
 induction r with
 | nil=>exact .nil
 | @cons p q ps qs h t ih=>
  obtain ⟨h1,h2⟩:=h
  rw [List.filter_cons,List.filter_cons]
  by_cases e:p.1=k
  ·have a:¬decide (p.1≠k)=true:=by simp [e]
   have b:¬decide (q.1≠k)=true:=by simp [h1.symm.trans e]
   rw [if_neg a,if_neg b]; exact ih
  ·have e':¬q.1=k:=fun z=>e (h1.trans z)
   have a:decide (p.1≠k)=true:=by simp [e]
   have b:decide (q.1≠k)=true:=by simp [e']
   rw [if_pos a,if_pos b]; exact .cons ⟨h1,h2⟩ ih
theorem KV.length {kvs:List (κ×V)}{vs:List (κ×Value)}(r:KV kvs vs):kvs.length=vs.length:=Paired.length r
theorem dropK_le (kvs:List (κ×V))(k:κ):(dropK kvs k).length≤kvs.length:=List.length_filter_le _ _
end
theorem kV_is {P:Program}{w:World}{k:Key}{u:Value}(r:RelV (kV k) u):(mixKind P w).is k u=true:=by
 cases k with
 | inl i=>obtain ⟨t,e⟩:=(show ∃ t,u=Value.int i t from r); subst e; exact mixKind_int P w i t
 | inr x=>obtain ⟨t,e⟩:=(show ∃ t,u=Value.str x t from r); subst e; exact mixKind_str P w x t
theorem items_are {P:Program}{w:World}:∀ {ks:List Key} {us:List Value},Vals (ks.map kV) us→ItemsAre (mixKind P w) ks us
 | [],_,r=>by rw [List.map_nil] at r; cases r; exact .nil
 | k::ks,_,r=>by
  rw [List.map_cons] at r
  cases r with
  | cons h t=>exact .cons (kV_is h) (items_are t)
abbrev KT (H:Hp):List (List Key×V)→List (List Key×Addr×Value)→Prop:=Paired fun p q=>p.1=q.1∧H q.2.1=some (.tup (p.1.map kV))∧RelV p.2 q.2.2
theorem KT.val {H:Hp}{kvs:List (List Key×V)}{xs:List (List Key×Addr×Value)}(r:KT H kvs xs)(k:List Key):RelO (valV kvs k) ((atKey xs k).map (·.2)):=by
 induction r with
 | nil=>exact True.intro
 | @cons p q ps qs h t ih=>
  obtain ⟨h1,_,h2⟩:=h
  by_cases e:p.1=k
  ·have e':q.1=k:=h1.symm.trans e
   have b:atKey (q::qs) k=some q.2:=by simp [atKey,List.find?_cons,e']
   rw [valV_pos e,b]; exact h2
  ·have e':¬q.1=k:=fun z=>e (h1.trans z)
   have b:atKey (q::qs) k=atKey qs k:=by simp [atKey,List.find?_cons,e']
   rw [valV_neg e,b]; exact ih
theorem KT.repl {H:Hp}{kvs:List (List Key×V)}{xs:List (List Key×Addr×Value)}(r:KT H kvs xs)(k:List Key){y:V}{u:Value}(ry:RelV y u) :
  KT H (kvs.map fun kv=>if kv.1=k then (kv.1,y) else kv) (xs.map (putAt k u)):=by
 induction r with
 | nil=>exact .nil
 | @cons p q ps qs h t ih=>
  rw [List.map_cons,List.map_cons]
  refine .cons ?_ ih
  obtain ⟨h1,h2,h3⟩:=h
  unfold putAt
  by_cases e:p.1=k
  ·rw [if_pos e,if_pos (h1.symm.trans e)]; exact ⟨h1,h2,ry⟩
  ·rw [if_neg e,if_neg (fun z=>e (h1.trans z))]; exact ⟨h1,h2,h3⟩
theorem KT.put {H:Hp}{kvs:List (List Key×V)}{xs:List (List Key×Addr×Value)}(r:KT H kvs xs)(k:List Key){b:Addr}{y:V}{u:Value}(hb:H b=some (.tup (k.map kV)))(ry:RelV y u) :
  KT H (putK kvs k y) (storedH xs k b u):=by
 have e:(kvs.any fun kv=>decide (kv.1=k))=(atKey xs k).isSome:=by
  rw [valV_any,(r.val k).isSome_eq,Option.isSome_map]
 unfold putK storedH
 rw [e]
 by_cases q:(atKey xs k).isSome=true
 ·rw [if_pos q,if_pos q]; exact r.repl k ry
 ·rw [if_neg q,if_neg q]; exact Paired.snoc r ⟨rfl,hb,ry⟩
theorem KT.keeps {H H':Hp}{kvs:List (List Key×V)}{xs:List (List Key×Addr×Value)}(r:KT H kvs xs)(ht:∀ b ys,H b=some (.tup ys)→H' b=some (.tup ys)):KT H' kvs xs:=
 Paired.mapP r fun _ _ z=>⟨z.1,ht _ _ z.2.1,z.2.2⟩
section
variable {P:Program} {w:World} {H:Hp} {h:Heap} {a:Addr}
theorem rd_of {u:HO}(ok:HOk P w H h)(e:Rd H a u):ObjOk P w H h a u:=e.ok ok
theorem dk_rd {kvs:List (Key×V)}(ok:HOk P w H h)(e:Rd H a (.dK kvs)):kvs.length≤sizeLine∧(a == sysModules)=false∧∃ vs,KV kvs vs∧h.DictOf (mixKind P w) a vs:=
 show ObjOk P w H h a (.dK kvs) from rd_of ok e
theorem dk_of {kvs:List (Key×V)}(ok:HOk P w H h)(e:H a=some (.dK kvs)):kvs.length≤sizeLine∧(a == sysModules)=false∧∃ vs,KV kvs vs∧h.DictOf (mixKind P w) a vs:=dk_rd ok (.inl e)
theorem key_of {ks:List Key}(ok:HOk P w H h)(e:H a=some (.tup (ks.map kV))):(tupleKind (mixKind P w)).is h ks a:=by
 obtain ⟨_,its,r,o,h1,h2,n,h3⟩:=(show ObjOk P w H h a (.tup (ks.map kV)) from ok a _ e)
 exact ⟨o,its.toArray,n,h1,h2,h3,by simpa using items_are r⟩
theorem dt_rd {kvs:List (List Key×V)}(ok:HOk P w H h)(e:Rd H a (.dT kvs)):kvs.length≤sizeLine∧(a == sysModules)=false ∧
  ∃ xs,KT H kvs xs∧h.DictOfH (tupleKind (mixKind P w)) a xs:=by
 obtain ⟨z,y,xs,r,o,es,ep,h1,h2,h3,h4,h5⟩:=(show ObjOk P w H h a (.dT kvs) from rd_of ok e)
 refine ⟨z,y,xs,r,o,es,ep,h1,h2,h3,h4,fun x hx=>?_,h5⟩
 have all:∀ {l:List (List Key×V)} {m:List (List Key×Addr×Value)},KT H l m→∀ x∈m,(tupleKind (mixKind P w)).is h x.1 x.2.1:=by
  intro l m q
  induction q with
  | nil=>intro x hx; exact nomatch hx
  | @cons p q ps qs hq t ih=>
   intro x hx
   rcases List.mem_cons.mp hx with e | hx
   ·subst e
    exact key_of ok (by rw [← hq.1]; exact hq.2.1)
   ·exact ih x hx
 exact all r x hx
theorem dt_of {kvs:List (List Key×V)}(ok:HOk P w H h)(e:H a=some (.dT kvs)):kvs.length≤sizeLine∧(a == sysModules)=false ∧
  ∃ xs,KT H kvs xs∧h.DictOfH (tupleKind (mixKind P w)) a xs:=dt_rd ok (.inl e)
end
def DGet (H:Hp)(a:Addr)(y:V)(r:Option V):Prop:=
 (∃ kvs k,Rd H a (.dK kvs)∧y=kV k∧r=valV kvs k)∨∃ kvs k b,Rd H a (.dT kvs)∧y=.ref b∧H b=some (.tup (k.map kV))∧r=valV kvs k
def DPut (H:Hp)(a:Addr)(y v:V)(H':Hp):Prop:=
 (∃ kvs k,H a=some (.dK kvs)∧y=kV k∧kvs.length<sizeLine∧H'=upd H a (.dK (putK kvs k v))) ∨
 ∃ kvs k b,H a=some (.dT kvs)∧y=.ref b∧H b=some (.tup (k.map kV))∧kvs.length<sizeLine∧H'=upd H a (.dT (putK kvs k v))
theorem DGet.k {H:Hp}{a:Addr}{kvs:List (Key×V)}{k:Key}(e:H a=some (.dK kvs)):DGet H a (kV k) (valV kvs k):=.inl ⟨kvs,k,.inl e,rfl,rfl⟩
theorem DPut.k {H:Hp}{a:Addr}{kvs:List (Key×V)}{k:Key}{v:V}(e:H a=some (.dK kvs))(hl:kvs.length<sizeLine):DPut H a (kV k) v (upd H a (.dK (putK kvs k v))):=.inl ⟨kvs,k,e,rfl,hl,rfl⟩
section
variable {X:Cx} {pins:List (Addr×Obj)} {σ:St} {H:Hp} {s:Shared} {a:Addr} {y v:V} {u r:Value} {o:Option V} {A:Around} {E:Value→Shared→Prop}
theorem Inv.big (I:Inv X pins σ H s):sysModules<s.heap.objs.size:=by
 have h:mainGlobals<s.heap.objs.size:=(I.mod.glob.keeps I.bk).lt
 exact Nat.lt_trans (by decide) h
theorem d_getItem {Q:Value→Shared→Prop}(hu:A.units+1<cLine)(I:Inv X pins σ H s)(g:DGet H a y (some v))(ry:RelV y u)(h:∀ w' s',Inv X pins σ H s'→RelV v w'→Q w' s') :
  wpAny (model X.prog X.w) A (getItem (.ref a) u) Q E s:=by
 rcases g with ⟨kvs,k,e,ey,l⟩ | ⟨kvs,k,b,e,ey,eb,l⟩
 ·subst ey
  obtain ⟨z,hd,vs,rel,dd⟩:=dk_rd I.hok e
  obtain ⟨w',hw,rw'⟩:=RelO.some_of (v:=v) (o:=valueAt vs k) (by rw [l]; exact rel.val k)
  exact wpAny_getItem_of (kV_is ry) dd.mapOf hw (h w' _ (I.tok _) rw')
 ·subst ey
  cases (show u=Value.ref b from ry)
  obtain ⟨z,hd,xs,rel,dd⟩:=dt_rd I.hok e
  obtain ⟨w',hw,rw'⟩:=RelO.some_of (v:=v) (o:=(atKey xs k).map (·.2)) (by rw [l]; exact rel.val k)
  obtain ⟨p,hp,hp2⟩:=Option.map_eq_some_iff.mp hw
  refine wpAny_getItem_heap (tupleKind_room_in1 hu) (key_of I.hok eb) dd hp ?_
  rw [hp2]
  exact h w' _ (I.tok _) rw'
theorem d_in {Q:Value→Shared→Prop}(hu:A.units+1<cLine)(I:Inv X pins σ H s)(g:DGet H a y o)(ry:RelV y u)(h:∀ s',Inv X pins σ H s'→Q (.bool o.isSome) s') :
  wpAny (model X.prog X.w) A (compareOp .In u (.ref a)) Q E s:=by
 rcases g with ⟨kvs,k,e,ey,l⟩ | ⟨kvs,k,b,e,ey,eb,l⟩
 ·subst ey
  obtain ⟨z,hd,vs,rel,dd⟩:=dk_rd I.hok e
  refine wpAny_in_of (kV_is ry) hd dd.mapOf ?_
  rw [← (rel.val k).isSome_eq,← l]
  exact h _ (I.tok _)
 ·subst ey
  cases (show u=Value.ref b from ry)
  obtain ⟨z,hd,xs,rel,dd⟩:=dt_rd I.hok e
  refine wpAny_in_heap (tupleKind_room_in1 hu) (key_of I.hok eb) hd dd ?_
  have q:=(rel.val k).isSome_eq
  rw [Option.isSome_map] at q
  rw [← q,← l]
  exact h _ (I.tok _)
theorem d_notIn {Q:Value→Shared→Prop}(hu:A.units+1<cLine)(I:Inv X pins σ H s)(g:DGet H a y o)(ry:RelV y u)(h:∀ s',Inv X pins σ H s'→Q (.bool (!o.isSome)) s') :
  wpAny (model X.prog X.w) A (compareOp .NotIn u (.ref a)) Q E s:=by
 rcases g with ⟨kvs,k,e,ey,l⟩ | ⟨kvs,k,b,e,ey,eb,l⟩
 ·subst ey
  obtain ⟨z,hd,vs,rel,dd⟩:=dk_rd I.hok e
  refine wpAny_notIn_of (kV_is ry) hd dd.mapOf ?_
  rw [← (rel.val k).isSome_eq,← l]
  exact h _ (I.tok _)
 ·subst ey
  cases (show u=Value.ref b from ry)
  obtain ⟨z,hd,xs,rel,dd⟩:=dt_rd I.hok e
  refine wpAny_notIn_heap (tupleKind_room_in1 hu) (key_of I.hok eb) hd dd ?_
  have q:=(rel.val k).isSome_eq
  rw [Option.isSome_map] at q
  rw [← q,← l]
  exact h _ (I.tok _)
theorem d_write {h':Heap}{t':Nat}{ob:HO}(I:Inv X pins σ H s)(mu:Mut (H a))(hs:Heap.SameBut a s.heap h')(he:∃ q,h'.get? a=some q)(new:ObjOk X.prog X.w (upd H a ob) h' a ob) :
  Inv X pins σ (upd H a ob) { s with heap:=h',toks:=t' }:=
 I.write (x:=a) (e:=a) mu (.inl rfl) (fun b q hb z=>(hs.2 b hb).trans z) he new
theorem dk_new {P:Program}{w:World}{H':Hp}{h':Heap}{kvs:List (Key×V)}{vs:List (Key×Value)}(z:kvs.length≤sizeLine)(hd:(a == sysModules)=false)(rel:KV kvs vs)(dd:h'.DictOf (mixKind P w) a vs) :
  ObjOk P w H' h' a (.dK kvs):=⟨z,hd,vs,rel,dd⟩
theorem d_setItem {H':Hp}{Q:Unit→Shared→Prop}(hu:A.units+1<cLine)(I:Inv X pins σ H s)(g:DPut H a y v H')(ry:RelV y u)(rv:RelV v r)(h:∀ s',Inv X pins σ H' s'→Q () s') :
  wpAny (model X.prog X.w) A (setItem (.ref a) u r) Q E s:=by
 rcases g with ⟨kvs,k,e,ey,l,eH⟩ | ⟨kvs,k,b,e,ey,eb,l,eH⟩
 ·subst ey eH
  obtain ⟨z,hd,vs,rel,dd⟩:=dk_of I.hok e
  have hz:vs.length≤sizeLine:=by rw [← rel.length]; exact z
  have hl:(putK kvs k v).length≤sizeLine:=by have:=length_putK kvs k v; omega
  refine wpAny_setItem_pairs (hsz:=hz) (kV_is ry) dd fun h' dd' hs=>h _ ?_
  have he:∃ q,h'.get? a=some q:=let ⟨q,_,_,hq,_⟩:=dd'; ⟨q,hq⟩
  exact d_write I (by rw [e]; exact True.intro) hs he (dk_new hl hd (rel.put k rv) dd')
 ·subst ey eH
  cases (show u=Value.ref b from ry)
  obtain ⟨z,hd,xs,rel,dd⟩:=dt_of I.hok e
  have hz:xs.length≤sizeLine:=by rw [← Paired.length rel]; exact z
  have hl:(putK kvs k v).length≤sizeLine:=by have:=length_putK kvs k v; omega
  refine wpAny_setItem_heap (hsz:=hz) (tupleKind_room_in1 hu) (key_of I.hok eb) dd fun h' dd' hs=>h _ ?_
  obtain ⟨q,es,ep,hq,h2,h3,h4,_,h5⟩:=dd'
  refine d_write I (by rw [e]; exact True.intro) hs ⟨q,hq⟩ ⟨hl,hd,_,(rel.put k eb rv).keeps fun c ys ec=>?_,q,es,ep,hq,h2,h3,h4,h5⟩
  rw [upd_ne (ne_of ec e (fun z=>nomatch z))]
  exact ec
end
section
variable {X:Cx} {pins:List (Addr×Obj)} {σ:St} {H:Hp} {s:Shared} {a:Addr} {kvs:List (Key×V)} {k:Key} {u:Value} {A:Around} {E:Value→Shared→Prop}
theorem d_pop {v:V}{more:List Value}{Q:Value→Shared→Prop}(I:Inv X pins σ H s)(e:H a=some (.dK kvs))(ry:RelV (kV k) u)(l:valV kvs k=some v)(hm:more=[]∨∃ x,more=[x])
  (h:∀ w' s',Inv X pins σ (upd H a (.dK (dropK kvs k))) s'→RelV v w'→Q w' s'):wpAny (model X.prog X.w) A (call (.builtin "dict.pop") (.ref a::u::more)) Q E s:=by
 obtain ⟨z,hd,vs,rel,dd⟩:=dk_of I.hok e
 obtain ⟨w',hw,rw'⟩:=RelO.some_of (v:=v) (o:=valueAt vs k) (by rw [← l]; exact rel.val k)
 have hp:(keyPart u).isSome=true:=by
  cases k with
  | inl i=>obtain ⟨t,q⟩:=(show ∃ t,u=Value.int i t from ry); subst q; rfl
  | inr x=>obtain ⟨t,q⟩:=(show ∃ t,u=Value.str x t from ry); subst q; rfl
 have ha:argsOk "dict.pop" ⟨.ref a::u::more,[]⟩:=by
  rcases hm with q | ⟨x,q⟩
  ·subst q; exact PySem.F.args_dict_pop_2 _ _
  ·subst q; exact PySem.F.args_dict_pop_3 _ _ _
 refine call_meetsIn PySem.F.slot_dict_pop dd.typeIs PySem.F.entry_dict_pop ha (meets_dict_pop_there (mixKind X.prog X.w) a (kV_is ry) more hm hp)
  ⟨vs,w',dd,by rw [← rel.length]; exact z,hw,fun h' dd' hs=>h w' _ ?_ rw'⟩
 have he:∃ q,h'.get? a=some q:=let ⟨q,_,_,hq,_⟩:=dd'; ⟨q,hq⟩
 exact d_write I (by rw [e]; exact True.intro) hs he (dk_new (Nat.le_trans (dropK_le kvs k) z) hd (rel.drop k) dd')
theorem d_len {Q:Value→Shared→Prop}(I:Inv X pins σ H s)(e:Rd H a (.dK kvs))(h:∀ t s',Inv X pins σ H s'→Q (.int kvs.length t) s'):wpAny (model X.prog X.w) A (call (.builtin "len") [.ref a]) Q E s:=by
 obtain ⟨z,hd,vs,rel,dd⟩:=dk_rd I.hok e
 refine call_len_dict hd dd (by rw [← rel.length]; rw [sizeLine_eq] at z; omega) ?_
 rw [← rel.length]
 exact h _ _ (I.tok _)
end
def NoSl (i:Expr):Prop:=∀ ov iv,subscripted i false ov iv=operate [ov,iv] (getItem ov iv)
theorem subD_of {prog:Program}{w:World}{A:Around}{E:Value→Shared→Prop}{s:Shared}{env:Env}{value slice:Expr}{pos:Pos}{T id:String}{Q:Value→Shared→Prop}
  (hl:typeLookup (.type T) "__getitem__"=pure (some (.builtin id))) (hs:NoSl slice)
  (h:wpAny (model prog w) A (eval value env) (fun o s₁=>wpAny (model prog w) A (eval slice env) (fun i s₂=>s₂.TypeIs o T∧wpAny (model prog w) A (getItem o i) Q E s₂) E s₁) E s) :
  wpAny (model prog w) A (eval (.Subscript value slice pos) env) Q E s:=by
 refine Subscript_ (wpAny_mono h (fun o s₁ h₁=>wpAny_mono h₁ (fun i s₂ h₂=>?_) fun _ _ x=>x) fun _ _ x=>x)
 obtain ⟨hT,h₂⟩:=h₂
 unfold subscriptTail
 refine wpAny_bind ?_
 rw [getitemInPython_of_ne hT.not_modules]
 refine wpAny_bind (wpAny_specialOf hT hl ?_)
 have fin:wpAny (model prog w) A (subscripted slice false o i) (fun r s₃=>wpAny (model prog w) A (letTemporaryGo value o r >>= fun _=>pure r) Q E s₃) E s₂:=by
  rw [hs o i]
  exact wpAny_operating (wpAny_mono h₂ (fun r s₃ h₃=>wpAny_bind (wpAny_letTemporaryGo (wpAny_pure h₃))) fun _ _ x=>x)
 first
  | exact wpAny_pure (wpAny_bind fin)
  | exact wpAny_bind (wpAny_pure (wpAny_bind fin))
  | exact wpAny_bind fin
theorem dict_typeIs {X:Cx}{pins:List (Addr×Obj)}{σ:St}{H:Hp}{s:Shared}{a:Addr}{y:V}{o:Option V}(I:Inv X pins σ H s)(g:DGet H a y o):s.TypeIs (.ref a) "dict":=by
 rcases g with ⟨kvs,k,e,_,_⟩ | ⟨kvs,k,b,e,_,_,_⟩
 ·obtain ⟨_,_,vs,_,dd⟩:=dk_rd I.hok e
  exact dd.typeIs
 ·obtain ⟨_,_,xs,_,dd⟩:=dt_rd I.hok e
  exact dd.typeIs
def tDGet (td ty:TE):TE:=fun σ H Q=>td σ H fun x H1=>ty σ H1 fun y H2=>∃ a v,x=.ref a∧DGet H2 a y (some v)∧Q v H2
def sDPut (td ty tv:TE):TS:=fun D σ H=>tv σ H fun v H1=>td σ H1 fun x H2=>ty σ H2 fun y H3=>∃ a H4,x=.ref a∧DPut H3 a y v H4∧D.nx σ H4
section
variable {X:Cx} {o i e value:Expr} {pos pos' tpos:Pos} {td ty tv:TE}
theorem pe_dget (hu:X.A.units+1<cLine)(ho:PE X o td)(hi:PE X i ty)(hs:NoSl i):PE X (.Subscript o i pos) (tDGet td ty):=by
 intro pins s σ H Q I h
 refine subD_of PySem.F.slot_dict_getitem.lookup hs (thn (ho pins s σ H _ I h) fun u s1 ⟨x,H1,I1,rx,q1⟩=>thn (hi pins s1 σ H1 _ I1 q1) fun iv s2 ⟨y,H2,I2,ry,a,v,ex,g,q2⟩=>?_)
 subst ex
 obtain rfl:u=Value.ref a:=rx
 exact ⟨dict_typeIs I2 g,d_getItem hu I2 g ry fun w' s3 I3 rw'=>⟨v,H2,I3,rw',q2⟩⟩
theorem ps_dput (hu:X.A.units+1<cLine)(ho:PE X o td)(hi:PE X i ty)(hv:PE X value tv)(hs:swapsWith value (some (.Subscript o i pos')) pos.line X.env=pure false) :
  PS X (.Assign [.Subscript o i pos'] value pos) (sDPut td ty tv):=by
 intro pins s σ H D I h
 refine wpAny_Assign_Subscript (thn (hv pins s σ H _ I h) fun r s1 ⟨v,H1,I1,rv,q1⟩=>thn (ho pins s1 σ H1 _ I1 q1) fun u s2 ⟨x,H2,I2,rx,q2⟩=>thn (hi pins s2 σ H2 _ I2 q2) fun iv s3 ⟨y,H3,I3,ry,a,H4,ex,g,q3⟩=>?_) hs
 subst ex
 obtain rfl:u=Value.ref a:=rx
 exact d_setItem hu I3 g ry rv fun s4 I4=>⟨σ,H4,I4,q3⟩
end
theorem dk_empty {P:Program}{w:World}{H:Hp}(h:Heap)(hb:sysModules<h.objs.size):ObjOk P w H (h.push { cls:=.type "dict",data:=.dict #[] }) h.objs.size (.dK []):=
 ⟨Nat.zero_le _,beq_eq_false_iff_ne.mpr (Ne.symm (Nat.ne_of_lt hb)),[],.nil,Heap.DictOf.new h⟩
def tDNewK:TE:=fun _ H Q=>∀ p,H p=none→Q (.ref p) (upd H p (.dK []))
section
variable {X:Cx} {pos:Pos}
theorem pe_dnewK:PE X (.Dict [] [] pos) tDNewK:=fun pins s σ H Q I h=>
 wpAny_Dict_empty ⟨.ref s.heap.objs.size,_,I.laid (a:=s.heap.objs.size) (o:=.dK []) (t':=s.toks) (fun _ _ q=>Heap.get?_push_of_some _ q) (Nat.le_refl _) (dk_empty s.heap I.big),rfl,h _ (I.hok.fresh (Nat.le_refl _))⟩
end
def tPairs:List (TE×TE)→St→Hp→(List (V×V)→Hp→Prop)→Prop
 | [],_,H,Q=>Q [] H
 | (tk,tv)::r,σ,H,Q=>tk σ H fun x H1=>tv σ H1 fun y H2=>tPairs r σ H2 fun ps H3=>Q ((x,y)::ps) H3
abbrev VV:List (V×V)→List (Value×Value)→Prop:=Paired fun p q=>RelV p.1 q.1∧RelV p.2 q.2
def PPs (X:Cx)(pos:Pos)(keys:List (Option Expr))(values:List Expr)(trs:List (TE×TE)):Prop:=
 ∀ (pins:List (Addr×Obj)) (s:Shared) (σ:St) (H:Hp) (Q:List (V×V)→Hp→Prop),Inv X pins σ H s→tPairs trs σ H Q →
  wpAny (model X.prog X.w) X.A (evalPairs (pairTrees keys values X.env pos)) (fun vs s'=>∃ ps H',Inv X pins σ H' s'∧VV ps vs∧Q ps H') X.xe s
theorem pps_nil {X:Cx}{pos:Pos}:PPs X pos [] [] []:=fun pins s σ H Q I h=>pairTrees_nil_walk ⟨[],H,I,.nil,h⟩
theorem pps_cons {X:Cx}{pos:Pos}{k v:Expr}{ks:List (Option Expr)}{vs:List Expr}{tk tv:TE}{trs:List (TE×TE)}(hk:PE X k tk)(hv:PE X v tv)(hr:PPs X pos ks vs trs) :
  PPs X pos (some k::ks) (v::vs) ((tk,tv)::trs):=fun pins s σ H Q I h=>
 pairTrees_cons_walk (thn (hk pins s σ H _ I h) fun u s1 ⟨x,H1,I1,rx,q1⟩=>thn (hv pins s1 σ H1 _ I1 q1) fun w2 s2 ⟨y,H2,I2,ry,q2⟩=>
  thn (hr pins s2 σ H2 _ I2 q2) fun ws s3 ⟨ps,H3,I3,rel,q3⟩=>⟨(x,y)::ps,H3,I3,.cons ⟨rx,ry⟩ rel,q3⟩)
def mergeK (kvs more:List (Key×V)):List (Key×V):=more.foldl (fun acc kv=>putK acc kv.1 kv.2) kvs
theorem KV.merge:∀ {more:List (Key×V)} {rs:List (Key×Value)} {kvs:List (Key×V)} {vs:List (Key×Value)},KV more rs→KV kvs vs→KV (mergeK kvs more) (merged vs rs):=by
 intro more rs kvs vs r
 unfold KV at r
 induction r generalizing kvs vs with
 | nil=>intro q; exact q
 | @cons p q ps qs h t ih=>
  intro r0
  have e:KV (putK kvs p.1 p.2) (stored vs q.1 q.2):=by
   have:=r0.put p.1 h.2
   rw [← h.1]; exact this
  exact ih e
theorem length_mergeK:∀ (more kvs:List (Key×V)),(mergeK kvs more).length≤kvs.length+more.length
 | [],kvs=>by show kvs.length≤kvs.length+0; omega
 | p::r,kvs=>by
  have h1:=length_mergeK r (putK kvs p.1 p.2)
  have h2:=length_putK kvs p.1 p.2
  show (mergeK (putK kvs p.1 p.2) r).length≤_
  rw [List.length_cons]; omega
theorem carries_of {P:Program}{w:World}:∀ {kvs:List (Key×V)} {ws:List (Value×Value)},VV (kvs.map fun kv=>(kV kv.1,kv.2)) ws→∃ rs,Carries (mixKind P w) ws rs∧KV kvs rs
 | [],_,r=>by rw [List.map_nil] at r; cases r; exact ⟨[],True.intro,.nil⟩
 | p::kvs,_,r=>by
  rw [List.map_cons] at r
  cases r with
  | @cons a b as bs h t=>
   obtain ⟨rs,c,q⟩:=carries_of (P:=P) (w:=w) t
   obtain ⟨b1,b2⟩:=b
   exact ⟨(p.1,b2)::rs,⟨kV_is h.1,rfl,c⟩,.cons ⟨rfl,h.2⟩ q⟩
def tDisp (trs:List (TE×TE)):TE:=fun σ H Q=>∀ p,H p=none→tPairs trs σ (upd H p (.dK [])) fun ps H2=>H2 p=some (.dK [])∧∃ kvs:List (Key×V),ps=kvs.map (fun kv=>(kV kv.1,kv.2))∧kvs.length≤15∧Q (.ref p) (upd H2 p (.dK (mergeK [] kvs)))
theorem pe_disp {X:Cx}{pos:Pos}{keys:List (Option Expr)}{values:List Expr}{trs:List (TE×TE)}(h:PPs X pos keys values trs)(hall:keys.all (·.isSome)=true)(hl:keys.length=values.length)(h0:keys≠[])
  (h15:keys.length≤15):PE X (.Dict keys values pos) (tDisp trs):=by
 intro pins s σ H Q I q
 have hn:=I.hok.fresh (Nat.le_refl s.heap.objs.size)
 have I1:=I.laid (a:=s.heap.objs.size) (o:=.dK []) (h':=s.heap.push { cls:=.type "dict",data:=.dict #[] }) (t':=s.toks) (fun _ _ q=>Heap.get?_push_of_some _ q) (Nat.le_refl _) (dk_empty s.heap I.big)
 refine wpAny_Dict_walk (knd:=mixKind X.prog X.w) hall hl h0 h15 (thn (h pins _ σ _ _ I1 (q _ hn)) fun ws s2 ⟨ps,H2,I2,rel,e,kvs,ep,lk,q2⟩=>?_)
 subst ep
 obtain ⟨rs,c,rk⟩:=carries_of (P:=X.prog) (w:=X.w) rel
 obtain ⟨z,hd,vs0,r0,dd⟩:=dk_of I2.hok e
 cases r0
 refine ⟨rs,c,dd,fun h' dd' hs=>⟨.ref s.heap.objs.size,_,?_,rfl,q2⟩⟩
 have hz:(mergeK [] kvs).length≤sizeLine:=by
  have h1:=length_mergeK kvs []
  rw [List.length_nil] at h1
  rw [sizeLine_eq]; omega
 have he:∃ q,h'.get? s.heap.objs.size=some q:=let ⟨q,_,_,hq,_⟩:=dd'; ⟨q,hq⟩
 exact d_write I2 (by rw [e]; exact True.intro) hs he (dk_new hz hd (rk.merge .nil) dd')
structure M1 (X:Cx)(o:Expr)(m:Str)(apos:Pos)(e:Expr)(cpos:Pos):Prop where
 base:attributeBase o m X.env (eval o X.env)=eval o X.env
 few:((backTo cpos (starEach [e] X.env)).all (fun x=>!x.1) && (backToKw cpos (keywordEach [] X.env)).all (fun x=>x.1.isSome)
  && decide (([e]:List Expr).length+([]:List Keyword).length+(if ([]:List Keyword).isEmpty then 0 else 1)<30))=true
 line:(apos.endLine == cpos.line)=true
 trees:backTo cpos (starEach [e] X.env)=[(false,eval e X.env)]
def IsD (H:Hp)(a:Addr):Prop:=(∃ kvs,Rd H a (.dK kvs))∨∃ kvs,Rd H a (.dT kvs)
theorem isD_at {X:Cx}{pins:List (Addr×Obj)}{σ:St}{H:Hp}{s:Shared}{a:Addr}(I:Inv X pins σ H s)(d:IsD H a) :
  s.TypeIs (.ref a) "dict"∧(∀ b,Value.ref a=.ref b→∃ ob,s.heap.get? b=some ob∧ob.dict=none)∧(a == sysModules)=false:=by
 rcases d with ⟨kvs,e⟩ | ⟨kvs,e⟩
 ·obtain ⟨_,hd,vs,_,dd⟩:=dk_rd I.hok e
  refine ⟨dd.typeIs,fun b q=>?_,hd⟩
  cases q
  obtain ⟨ob,_,_,h1,h2,_⟩:=dd
  exact ⟨ob,h1,h2.2.1⟩
 ·obtain ⟨_,hd,xs,_,dd⟩:=dt_rd I.hok e
  refine ⟨dd.typeIs,fun b q=>?_,hd⟩
  cases q
  obtain ⟨ob,_,_,h1,h2,_⟩:=dd
  exact ⟨ob,h1,h2.2.1⟩
def tDPop1 (td ty:TE):TE:=fun σ H Q=>td σ H fun x H1=>∃ a,x=.ref a∧IsD H1 a∧ty σ H1 fun y H2=>∃ kvs k v,H2 a=some (.dK kvs)∧y=kV k∧valV kvs k=some v∧Q v (upd H2 a (.dK (dropK kvs k)))
section
variable {X:Cx} {o e f:Expr} {apos cpos:Pos} {td ty tx:TE}
theorem pe_dpop1 (ho:PE X o td)(he:PE X e ty)(m:M1 X o "pop" apos e cpos):PE X (.Call (.Attribute o "pop" apos) [e] [] cpos) (tDPop1 td ty):=by
 intro pins s σ H Q I h
 refine wpAny_Call_method m.base m.few m.line PySem.F.plainAttrs_dict PySem.F.slot_dict_pop PySem.F.type_dict_pop (thn (ho pins s σ H _ I h) fun u s1 ⟨x,H1,I1,rx,a,ex,d,q1⟩=>?_)
 subst ex
 obtain rfl:u=Value.ref a:=rx
 obtain ⟨t1,t2,_⟩:=isD_at I1 d
 refine ⟨t1,t2,?_⟩
 rw [m.trees]
 refine Calls.callWith_builtin rfl (Calls.evalArgs_plain (Calls.spliced_cons (thn (he pins s1 σ H1 _ I1 q1) fun iv s2 ⟨y,H2,I2,ry,kvs,k,v,ea,ey,l,q2⟩=>Calls.spliced_nil ?_)))
 subst ey
 exact d_pop I2 ea ry l (.inl rfl) fun w' s3 I3 rw'=>⟨v,_,I3,rw',q2⟩
end
end L2
namespace Att
open PySem PySem.W PySem.Calls PyProof.Rows
theorem ints_of_wellAll {P:Params}{h:Heap}:∀ (ns:List Int) (vs:List Value),WellAll P h vs (ns.map WData.int)→IntsAre vs ns:=by
 intro ns
 induction ns with
 | nil=>
  intro vs w
  rw [List.map_nil] at w
  cases w
  exact .nil
 | cons n ns ih=>
  intro vs w
  rw [List.map_cons] at w
  cases w with
  | cons a b=>
   cases a
   exact .cons _ _ (ih _ b)
theorem script_of {l:OpenLaw}{n:Nat}(hn:l.most=some n){P:Params}{h:Heap}{args:List WData}{vals:List Value}
  (hpre:l.row.toRowW.claim.pre args=true) (hwl:WellAll P h vals args) :
  ∃ a vs ns,vals=[Value.ref a]∧args=[WData.list (ns.map WData.int)]∧h.get? a=some { cls:=.type "list",data:=.seq vs.toArray }∧IntsAre vs ns∧ns.length≤n:=by
 have hsh:WShape.hasAll [] args [.list .int]=true:=(pre_splitW hpre).1
 have hc:l.pre.holds [] { args:=args }=true:=(pre_splitW hpre).2
 obtain ⟨d,r,rfl,h1,h2⟩:=hasAllW_cons hsh
 obtain rfl:=hasAllW_nil h2
 obtain ⟨xs,rfl,h3⟩:=hasW_list h1
 obtain ⟨ns,rfl⟩:=items_int h3
 have hlen:ns.length≤n:=by
  unfold OpenLaw.pre at hc
  have h4:(WTm.not (.lt (.lit (.int (n:Int))) (.len (.arg 0)))).holds [] { args:=[.list (ns.map .int)] }=true:=by
   have h4:=(holds_andW hc).1
   rw [hn] at h4
   exact h4
  have h5:=condW_of h4 (w_not (w_lt w_lit (w_len_list (w_arg rfl))))
  rw [List.length_map] at h5
  refine Nat.le_of_not_lt fun q=>?_
  have q':(n:Int)<((ns.length:Nat):Int):=by omega
  first
   | (rw [decide_eq_true q'] at h5; exact absurd h5 (by decide))
   | (simp at h5; omega)
 cases hwl with
 | cons w1 w2=>
  cases w2
  cases w1 with
  | list ho hall=>exact ⟨_,_,ns,rfl,rfl,ho,ints_of_wellAll ns _ hall,hlen⟩
theorem post_true (l:OpenLaw)(args:List WData):l.row.toRowW.claim.post args (.bool true) args=true:=
 postW_of (r:=l.row.toRowW) (X:=(true == true))
  (show WShape.has [] (.bool true) .bool=true by first | rfl | decide | simp [WShape.has,WShape.arms,WShape.armsAll])
  (show (WTm.eq .res (.lit (.bool true))).value [] { args:=args,res:=some (.bool true),after:=args }=some (.bool (true == true)) from w_eq_bool (w_res rfl) w_lit) rfl
theorem attach_call {l:OpenLaw}{n:Nat}{q:Program}{loose:List Str}{XP:(Str→Option Value)→Heap→Prop}{YP:World→Heap→Prop}{d:DefRec}
  (hn:l.most=some n) (hdf:d.params.defaults=[])
  (call:∀ (w:World) (s₀ s₁:Shared) (mg mb:Str→Option Value) (fa:Addr) (o:Obj) (pm cd doc:Value) (a:Addr) (vs:List Value) (ns:List Int),
   Ground q loose [] XP w s₀ mg mb s₁.heap→YP w s₁.heap →
   s₁.heap.get? fa=some o→o.data=.func (docDef d.name d.params d.body d.scope pm cd doc)→s₁.heap.CodeRec cd d.name→mg d.name=some (.ref fa) →
   s₁.heap.get? a=some { cls:=.type "list",data:=.seq vs.toArray }→IntsAre vs ns→ns.length≤n→s₁.gens = #[] →
   codeAny (model l.prog w) callerA (.call (.ref fa) ⟨[.ref a],[]⟩) (fun r s'=>r=.ok (.ret (.bool true))∧OldK s₁.heap s'.heap∧s'.os=s₁.os∧AllBare s'.gens) s₁) :
  WalkO q loose XP YP l.row.toRowW d [] (fun f vs=>PySem.call f vs):=by
 intro w s₀ s₁ mg mb G Y fa o pm cd doc dV kV ho hd hcd hD hmg hg args vals as hpre hlay hrd hwl hlo
 obtain rfl:dV=.none:=Dflts.none hD hdf
 obtain rfl:kV=.none:=Dflts.noKw hD
 obtain ⟨a,vs,ns,rfl,rfl,hobj,hints,hlen⟩:=script_of hn hpre hwl
 refine enter_call (codeAny_mono (call w s₀ s₁ mg mb fa o pm cd doc a vs ns G Y ho (fd_plain hd) hcd hmg hobj hints hlen hg) fun r s' hq=>?_)
 obtain ⟨rfl,h2,h3,h4⟩:=hq
 exact ⟨.inl ⟨.bool true,.bool true,[],rfl,fun _=>rfl,.bool true,post_true l _,fun _=>⟨List.Pairwise.nil,fun _ hm=>(nomatch hm)⟩⟩,h2,h3,h4⟩
end Att
namespace L2
open PySem PySem.Spec PyProof.Rows
theorem vals_ints:∀ {vs:List Value} {ns:List Int},IntsAre vs ns→Vals (ns.map V.int) vs
 | _,_,.nil=>.nil
 | _,_,.cons n t h=>.cons ⟨t,rfl⟩ (vals_ints h)
def Only (H:Hp):Prop:=∀ b,H b=none∨∃ o xs,H b=some (.frz o (.lst xs))
theorem law_call {P:Program}{w:World}{K:PySem.W.Frag}{mg mb:Str→Option Value}{CX:CXT}{k:Nat}{fa a:Addr}{fd:FuncData}{x:Str}{sp:Sp}{s₁:Shared}{vs:List Value}{ns:List Int}
  (KX:K.In s₁.heap) (hns:s₁.heap.Ns mainGlobals mg) (hb:s₁.heap.Ns builtinsNs mb) (hbb:∀ x:Str,x≠"__name__"→mb x=bootBuiltins x) (hlim:s₁.heap.NoLimit) (hg:s₁.gens = #[])
  (ha:s₁.heap.get? a=some { cls:=.type "list",data:=.seq vs.toArray }) (hi:IntsAre vs ns) (hl:ns.length≤sizeLine) (hr:Room k callerA)
  (F:∀ base:Heap,K.In base→base.Ns mainGlobals mg→FnOk P w K mg base CX k fa fd [x] sp) (hbind:∀ (s:Shared) (u:Value),BindsTo s fd ⟨[u],[]⟩ [(x,u)])
  (hsp:∀ H:Hp,Only H→SqL K H a (ns.map V.int)→sp [.ref a] H (fun v _=>v=.bl true) fun _ _ _=>False)
  (hCX:∀ H e s',CX [] H s₁ (fun _ _ _=>False) e s'→False) :
  codeAny (model P w) callerA (.call (.ref fa) ⟨[.ref a],[]⟩) (fun r s'=>r=.ok (.ret (.bool true))∧OldK s₁.heap s'.heap∧s'.os=s₁.os∧AllBare s'.gens) s₁:=by
 have rv:=vals_ints hi
 have lenV:=hi.length
 have core:∀ H:Hp,Only H→SqL K H a (ns.map V.int)→HOk P w H s₁.heap→(∀ b,H b≠none→b=a)→(H a≠none→K.lookup a=none) →
   codeAny (model P w) callerA (.call (.ref fa) ⟨[.ref a],[]⟩) (fun r s'=>r=.ok (.ret (.bool true))∧OldK s₁.heap s'.heap∧s'.os=s₁.os∧AllBare s'.gens) s₁:=by
  intro H hO hS hok hA hK
  have base_of:∀ {b:Addr} {o:Obj},s₁.heap.get? b=some o→H b=none→(hidT s₁.heap H).get? b=some o:=fun e n=>hidT_get e n
  have noA:∀ {b:Addr} {o:Obj} {es:Array DictEntry} {ep:Nat},s₁.heap.get? b=some o→o.data=.dict es ep→H b=none:=fun {b o es ep} e d=>by
   cases q:H b with
   | none=>rfl
   | some u=>
    have e':b=a:=hA b (by rw [q]; simp)
    subst e'
    rw [ha] at e; cases e
    have d':Data.seq vs.toArray _=Data.dict es ep:=d
    cases d'
  have nsK:∀ {b:Addr} {m:Str→Option Value},s₁.heap.Ns b m→(hidT s₁.heap H).Ns b m:=fun {b m} ⟨o,es,ep,e,d,r⟩=>⟨o,es,ep,base_of e (noA e d),d,r⟩
  have hKb:K.In (hidT s₁.heap H):=fun b o e=>base_of (KX b o e) (by
   cases q:H b with
   | none=>rfl
   | some u=>
    have e':b=a:=hA b (by rw [q]; simp)
    subst e'
    rw [hK (by rw [q]; simp)] at e; cases e)
  have hM:Mod K mg (hidT s₁.heap H):=⟨hKb,nsK hns,⟨mb,nsK hb,hbb⟩,let ⟨mc,h1,h2⟩:=hlim; ⟨mc,nsK h1,h2⟩⟩
  have e0:Env0 P w K mg (hidT s₁.heap H) callerA [] s₁ H:=⟨rfl,hM,fun b o e=>of_hidT e,Nat.le_of_eq (hidT_size _ _),trivial,fun b hb=>absurd (show b∈([]:List Addr) from hb) (by simp),hok,.of_eq hg⟩
  refine codeAny_mono ((F _ hKb (nsK hns)).run callerA [] s₁ H ⟨[.ref a],[]⟩ [.ref a] [.ref a] _ _ hr (fun _=>rfl) e0 (hbind s₁ (.ref a)) (.cons rfl .nil) (hsp H hO hS)) fun r s' h=>?_
  cases r with
  | error e=>exact (hCX H e s' h).elim
  | ok fl=>
   cases fl with
   | next=>exact False.elim h
   | brk=>exact False.elim h
   | cont=>exact False.elim h
   | ret u=>
    obtain ⟨v,H',os,bare,un,hok',r',q⟩:=h
    have q':v=.bl true:=q
    subst q'
    obtain rfl:u=Value.bool true:=r'
    refine ⟨rfl,OldK.of_keep fun b o e=>?_,os,bare⟩
    cases q:H b with
    | none=>exact un.keep b o e q (by intro z; exact absurd (show b∈([]:List Addr) from z) (by simp)) (by simp)
    | some u=>
     rcases hO b with z | ⟨ob,xs,z⟩
     ·rw [q] at z; cases z
     ·have z2:=un.frzs b ob _ z
      obtain ⟨e1,_⟩:=hok b _ z
      obtain ⟨e2,_⟩:=hok' b _ z2
      rw [e] at e1; cases e1
      exact e2
 cases hk:K.lookup a with
 | some o=>
  have e:=KX a o hk
  rw [ha] at e
  cases e
  refine core (fun _=>none) (fun _=>.inl rfl) (.inr ⟨_,vs.toArray,_,hk,rfl,rfl,rfl,by rw [List.size_toArray,lenV]; exact hl,by simpa using rv⟩) (fun b u z=>by have z':(none:Option HO)=some u:=z; cases z') (fun b z=>absurd rfl z) fun z=>absurd rfl z
 | none=>
  refine core (fun b=>if b=a then some (.frz { cls:=.type "list",data:=.seq vs.toArray } (.lst (ns.map V.int))) else none) (fun b=>?_) (.inl (.inr ⟨{ cls:=.type "list",data:=.seq vs.toArray },if_pos rfl⟩)) (fun b u z=>?_) (fun b z=>?_) fun _=>hk
  ·by_cases hb:b=a
   ·exact .inr ⟨_,_,if_pos hb⟩
   ·exact .inl (if_neg hb)
  ·by_cases hb:b=a
   ·have z':=(if_pos hb).symm.trans z
    cases z'
    subst hb
    exact ⟨ha,by rw [List.length_map]; exact hl,vs,_,rv,ha⟩
   ·have z':=(if_neg hb).symm.trans z
    cases z'
  ·by_cases hb:b=a
   ·exact hb
   ·exact absurd (if_neg hb) z
end L2
namespace L2
open PySem PySem.Spec PyProof.Rows
abbrev KOf {K:PySem.W.Frag}{h:Heap}(_:K.In h):PySem.W.Frag:=K
theorem walk_of {l:PySem.W.OpenLaw}{n k:Nat}{q:Program}{loose:List Str}{XP:(Str→Option Value)→Heap→Prop}{YP:World→Heap→Prop}{d:DefRec}{K:Params→PySem.W.Frag}{CX:World→CXT}{sp:World→Sp}{x:Str}
  (hn:l.most=some n) (hn2:n≤sizeLine) (hdf:d.params.defaults=[]) (hr:Room k callerA)
  (hY:∀ (w:World) (h:Heap),YP w h→(K w.params).In h)
  (F:∀ (w:World) (mg:Str→Option Value) (fa:Addr) (h:Heap),(K w.params).In h→h.Ns mainGlobals mg→mg d.name=some (.ref fa) →
   ∃ fd:FuncData,(∀ (s:Shared) (u:Value),BindsTo s fd ⟨[u],[]⟩ [(x,u)]) ∧
    ∀ base:Heap,(K w.params).In base→base.Ns mainGlobals mg→FnOk l.prog w (K w.params) mg base (CX w) k fa fd [x] (sp w))
  (hsp:∀ (w:World) (H:Hp) (a:Addr) (ns:List Int),ns.length≤n→Only H→SqL (K w.params) H a (ns.map V.int)→sp w [.ref a] H (fun v _=>v=.bl true) fun _ _ _=>False)
  (hCX:∀ (w:World) (H:Hp) (s:Shared) (e:Value) (s':Shared),CX w [] H s (fun _ _ _=>False) e s'→False) :
  PySem.W.WalkO q loose XP YP l.row.toRowW d [] (fun f vs=>PySem.call f vs):=by
 refine Att.attach_call hn hdf fun w s₀ s₁ mg mb fa o pm cd doc a vs ns G Y ho hd hcd hmg hobj hints hlen hg=>?_
 have KX:=hY w _ Y
 obtain ⟨fd,hb,hF⟩:=F w mg fa _ KX G.T.g hmg
 exact law_call KX G.T.g G.T.b G.T.builtins G.T.nolimit hg hobj hints (Nat.le_trans hlen hn2) hr hF hb (fun H hO hS=>hsp w H a ns hlen hO hS) fun H e s'=>hCX w H s₁ e s'
end L2
namespace L2
open PySem PySem.Spec PyProof.Rows
def inClass (s:Stmt)(j:Nat):Stmt:=match s with
 | .ClassDef _ _ _ body _ _ _ _ _ _ _=>body.getD j (.Pass ⟨0,0,0,0⟩)
 | _=>.Pass ⟨0,0,0,0⟩
def defArgs (s:Stmt):Arguments:=match s with
 | .FunctionDef _ a _ _ _ _ _ _ _ _=>a
 | _=>{ posonlyargs:=[],args:=[],vararg:=none,kwonlyargs:=[],kw_defaults:=[],kwarg:=none,defaults:=[] }
def defBody (s:Stmt):List Stmt:=match s with
 | .FunctionDef _ _ b _ _ _ _ _ _ _=>b
 | _=>[]
def defScope (s:Stmt):Scope:=match s with
 | .FunctionDef _ _ _ _ _ _ sc _ _ _=>sc
 | _=>{ kind:=.function,names:=[],isGenerator:=false,isCoroutine:=false }
abbrev CX0:CXT:=⟨fun _ _ _ _ _ _=>False,true⟩
abbrev E0:XK:=fun _ _ _=>False
theorem pass0 {X:Cx}(hc:X.calm=true):Passes CX0 X E0:=⟨fun _=>hc,fun _ _ _ _ _ _ _ h=>False.elim h⟩
structure Fun (K:PySem.W.Frag)(x qual:Str)(st:Stmt)(f:Addr)(fd:FuncData):Prop where
 ex:∃ (oc:Value) (od:Option Addr) (kV doc pm:Value) (an:Option Addr) (cdv ct:Value) (osl:Array (Option Value)),
  fd=PySem.W.fnOf x qual (defArgs st) (defBody st) (defScope st) .none kV doc pm an cdv ct∧K.lookup f=some ⟨oc,od,.func fd,osl⟩∧PySem.W.codeIn K cdv qual=true
 kp:PySem.W.keepIn K (.ref f)=true
section
variable {P:Program} {w:World} {K:PySem.W.Frag} {mg:Str→Option Value} {base:Heap}
theorem Fun.ok {x qual:Str}{st:Stmt}{f:Addr}{fd:FuncData}{N ps:List Str}{k:Nat}{sp:Sp}(F:Fun K x qual st f fd)(S:FnScope N ps (defScope st))(len:∀ vs H Q E,sp vs H Q E→vs.length=ps.length)
  (hbody:∀ (cdv:Value) (A:Around) (outer:List Env) (s:Shared) (H:Hp) (vs:List V) (Q:VK) (E:XK),Room k (A.deeper (envOfC qual (defScope st) s.heap.objs.size f cdv))→sp vs H Q E →
   ∃ t,PSs (cxOf CX0 P w K mg base N qual (defScope st) f cdv A outer s H E).nox (defBody st) t∧t { nx:=fun _ H'=>Q .non H',rt:=Q } (start N vs) H):FnOk P w K mg base CX0 (k+1) f fd ps sp:=by
 obtain ⟨oc,od,kV,doc,pm,an,cdv,ct,osl,rfl,lk,hcd⟩:=F.ex
 refine fn_of lk hcd S len fun A outer s H vs Q E hr hsp=>?_
 obtain ⟨t,h,q⟩:=hbody cdv A outer s H vs Q E hr hsp
 exact ⟨t,h.nox,q⟩
theorem Fun.binds {x qual:Str}{st:Stmt}{f:Addr}{fd:FuncData}{ps:List Str}(F:Fun K x qual st f fd)
  (h:∀ (kV doc pm:Value) (an:Option Addr) (cdv ct:Value) (us:List Value),us.length=ps.length→bindArgs (PySem.W.fnOf x qual (defArgs st) (defBody st) (defScope st) .none kV doc pm an cdv ct) ⟨us,[]⟩=pure (ps.zip us)):Binds K fd ps []:=by
 obtain ⟨oc,od,kV,doc,pm,an,cdv,ct,osl,rfl,lk,hcd⟩:=F.ex
 exact .all (h kV doc pm an cdv ct)
theorem fun_mk {x qual:Str}{st:Stmt}{f:Addr}{oc:Value}{od an:Option Addr}{osl:Array (Option Value)}{kV doc pm cdv ct:Value}(l:K.lookup f=some ⟨oc,od,.func (PySem.W.fnOf x qual (defArgs st) (defBody st) (defScope st) .none kV doc pm an cdv ct),osl⟩)
  (c:PySem.W.codeIn K cdv qual=true) (k:PySem.W.keepIn K (.ref f)=true):Fun K x qual st f (PySem.W.fnOf x qual (defArgs st) (defBody st) (defScope st) .none kV doc pm an cdv ct):=⟨⟨oc,od,kV,doc,pm,an,cdv,ct,osl,rfl,l,c⟩,k⟩
end
theorem hu_of {A:Around}{k:Nat}(hr:Room k A):A.units+1<cLine:=Nat.lt_of_le_of_lt (Nat.add_le_add_left (by decide:1≤64) _) hr.units
section
variable {X:Cx}
theorem call_lenD:CallR X (.builtin "len") (fun xs H Q=>∃ a kvs,xs=[V.ref a]∧H a=some (.dK kvs)∧Q (.int kvs.length) H):=by
 intro pins s σ H xs us Q I r h
 obtain ⟨a,kvs,rfl,ha,q⟩:=h
 obtain ⟨u,rfl,ru⟩:=vals1 r
 cases ru
 exact d_len I (.inl ha) fun t s' I'=>⟨.int kvs.length,H,I',⟨t,rfl⟩,q⟩
end
theorem iteF {A B:Prop}(h:B):if false=true then A else B:=by
 rw [if_neg Bool.false_ne_true]
 exact h
theorem iteT {A B:Prop}(h:A):if true=true then A else B:=by
 rw [if_pos rfl]
 exact h
def Same (H H':Hp):Prop:=∀ b o,H b=some o→H' b=some o
theorem Same.free {H H':Hp}(e:Same H H'){l:Addr}(h:H' l=Option.none):H l=Option.none:=by
 cases q:H l with
 | none=>rfl
 | some o=>
  rw [e l o q] at h
  cases h
end L2
namespace L2
open PySem PySem.Spec PyProof.Rows
theorem boot_ty_int:bootBuiltins "int"=some (.type "int"):=by decide +kernel
theorem boot_ty_bool:bootBuiltins "bool"=some (.type "bool"):=by decide +kernel
theorem boot_ty_str:bootBuiltins "str"=some (.type "str"):=by decide +kernel
theorem boot_ty_list:bootBuiltins "list"=some (.type "list"):=by decide +kernel
theorem boot_ty_ValueError:bootBuiltins "ValueError"=some (.type "ValueError"):=by decide +kernel
theorem boot_b_len:bootBuiltins "len"=some (.builtin "len"):=by decide +kernel
theorem boot_b_isinstance:bootBuiltins "isinstance"=some (.builtin "isinstance"):=by decide +kernel
theorem boot_b_sum:bootBuiltins "sum"=some (.builtin "sum"):=by decide +kernel
theorem boot_b_all:bootBuiltins "all"=some (.builtin "all"):=by decide +kernel
theorem boot_b_sorted:bootBuiltins "sorted"=some (.builtin "sorted"):=by decide +kernel
def DefAt (K:PySem.W.Frag)(mg:Str→Option Value)(x:Str)(st:Stmt):Prop:=∃ f fd,Fun K x x st f fd∧mg x=some (.ref f)
def FnAt (P:Program)(w:World)(K:PySem.W.Frag)(mg:Str→Option Value)(base:Heap)(CX:CXT)(k:Nat)(x:Str)(sp:Sp):Prop:=
 ∃ f fd ps,FnOk P w K mg base CX k f fd ps sp∧mg x=some (.ref f)∧PySem.W.keepIn K (.ref f)=true∧Binds K fd ps []
def BindsAll (x qual:Str)(st:Stmt)(ps:List Str):Prop:=∀ (kV doc pm:Value) (an:Option Addr) (cdv ct:Value) (us:List Value),us.length=ps.length →
 bindArgs (PySem.W.fnOf x qual (defArgs st) (defBody st) (defScope st) .none kV doc pm an cdv ct) ⟨us,[]⟩=pure (ps.zip us)
section
variable {X:Cx} {CX:CXT} {k j:Nat} {sp:Sp} {E:XK} {x:Str} {p pos:Pos} {e:Expr} {es:List Expr} {t:TA}
theorem pe_fn (G:FnAt X.prog X.w X.K X.mg X.base CX k x sp)(hr:Room j X.A)(hkj:k≤j)(hg:Gl X x)(hx:Passes CX X E)
  (ha:PA X (e::es) t) (hdb:(x == ("__debug__":Str))=false:=by decide) (he:starEach (e::es) X.env=(false,eval e X.env)::starEach es X.env:=by rfl) (hpl:(backTo pos (starEach es X.env)).any (·.1)=false:=by rfl) :
  PE X (.Call (.Name x p) (e::es) [] pos) (tCall sp [] E t):=by
 obtain ⟨f,fd,ps,F,hm,hk,hb⟩:=G
 exact pe_call F (hr.mono hkj) hg hm hk hb .nil hx ha hdb he hpl
def GC (mg:Str→Option Value)(x:Str)(v:V):Prop:=∃ u,mg x=some u∧RelV v u
theorem pe_gc {v:V}(hg:Gl X x)(h:GC X.mg x v)(hd:(x == ("__debug__":Str))=false:=by decide):PE X (.Name x p) (tC v):=by
 obtain ⟨u,hm,r⟩:=h
 exact pe_glob hg hm r hd
theorem pe_ty (n:String)(hg:Gl X x)(hm:X.mg x=none)(hv:bootBuiltins x=some (.type n))(hn:x≠"__name__":=by decide)(hd:(x == ("__debug__":Str))=false:=by decide):PE X (.Name x p) (tC (.ty n)):=
 pe_bltn hg hm hv rfl hn hd
def clsV:V→Value→Prop
 | .ty n,c=>c=.type n
 | .ref a,c=>c=.ref a
 | _,_=>False
end
section
variable {K:PySem.W.Frag} {h:Heap} {mg:Str→Option Value}
theorem def_mk {x:Str}{st:Stmt}{f:Addr}{oc:Value}{od an:Option Addr}{osl:Array (Option Value)}{kV doc pm cdv ct:Value}(X:K.In h)(G:h.Ns mainGlobals mg)(a:PySem.W.nsIn K mainGlobals x=some (some (.ref f)))
  (l:K.lookup f=some ⟨oc,od,.func (PySem.W.fnOf x x (defArgs st) (defBody st) (defScope st) .none kV doc pm an cdv ct),osl⟩) (c:PySem.W.codeIn K cdv x=true) (k:PySem.W.keepIn K (.ref f)=true):DefAt K mg x st:=
 ⟨f,_,fun_mk l c k,PySem.W.mg_of X G a⟩
theorem gc_mk {x:Str}{u:Value}{v:V}(X:K.In h)(G:h.Ns mainGlobals mg)(a:PySem.W.nsIn K mainGlobals x=some (some u))(r:RelV v u):GC mg x v:=⟨u,PySem.W.mg_of X G a,r⟩
theorem law_mk {P:Program}{w:World}{CX:CXT}{k:Nat}{sp:Sp}{st:Stmt}{fa:Addr}{x:Str}(R:DefAt K mg "law" st)(hmg:mg "law"=some (.ref fa))(hb:BindsAll "law" "law" st [x])
  (F:∀ (f:Addr) (fd:FuncData),Fun K "law" "law" st f fd→∀ base:Heap,FnOk P w K mg base CX k f fd [x] sp) :
  ∃ fd:FuncData,(∀ (s:Shared) (u:Value),BindsTo s fd ⟨[u],[]⟩ [(x,u)])∧∀ base:Heap,K.In base→base.Ns mainGlobals mg→FnOk P w K mg base CX k fa fd [x] sp:=by
 obtain ⟨f,fd,F1,hm⟩:=R
 have e:=hmg.symm.trans hm
 cases e
 refine ⟨fd,fun s u=>?_,fun base _ _=>F fa fd F1 base⟩
 obtain ⟨oc,od,kV,doc,pm,an,cdv,ct,osl,rfl,lk,hcd⟩:=F1.ex
 exact .of_eq (hb kV doc pm an cdv ct [u] rfl)
end
def sp_law (K:PySem.W.Frag):Sp:=fun vs H Q _=>∃ (a:Addr) (ns:List Int),vs=[.ref a]∧SqL K H a (ns.map V.int)∧ns.length≤63∧Only H∧∀ H',Q (.bl true) H'
theorem walk0 {l:PySem.W.OpenLaw}{k:Nat}{q:Program}{loose:List Str}{XP:(Str→Option Value)→Heap→Prop}{YP:World→Heap→Prop}{d:DefRec}{K:Params→PySem.W.Frag}{x:Str}(hn:l.most=some 63)(hdf:d.params.defaults=[])(hr:Room k callerA)
  (hY:∀ (w:World) (h:Heap),YP w h→(K w.params).In h)
  (F:∀ (w:World) (mg:Str→Option Value) (fa:Addr) (h:Heap),(K w.params).In h→h.Ns mainGlobals mg→mg d.name=some (.ref fa) →
   ∃ fd:FuncData,(∀ (s:Shared) (u:Value),BindsTo s fd ⟨[u],[]⟩ [(x,u)])∧∀ base:Heap,(K w.params).In base→base.Ns mainGlobals mg→FnOk l.prog w (K w.params) mg base CX0 k fa fd [x] (sp_law (K w.params))) :
  PySem.W.WalkO q loose XP YP l.row.toRowW d [] (fun f vs=>PySem.call f vs):=
 walk_of (n:=63) (k:=k) (x:=x) (CX:=fun _=>CX0) (sp:=fun w=>sp_law (K w.params)) hn (by decide) hdf hr hY F (fun _ H a ns hl hO hS=>⟨a,ns,rfl,hS,hl,hO,fun _=>rfl⟩) fun _ _ _ _ _ z=>z
theorem Same.tup {K:PySem.W.Frag}{H H':Hp}{a:Addr}{xs:List V}(e:Same H H')(h:SqT K H a xs):SqT K H' a xs:=by
 rcases h with (h | ⟨o,h⟩) | h
 ·exact .inl (.inl (e _ _ h))
 ·exact .inl (.inr ⟨o,e _ _ h⟩)
 ·exact .inr h
end L2
namespace L2
open PySem PySem.Spec PyProof.Rows
def lstAt (H:Hp)(a:Addr):Option (List V):=match H a with
 | some (.lst xs)=>some xs
 | some (.frz _ (.lst xs))=>some xs
 | _=>none
def tupAt (H:Hp)(a:Addr):Option (List V):=match H a with
 | some (.tup xs)=>some xs
 | _=>none
theorem lstAt_rd {H:Hp}{a:Addr}{xs:List V}(h:lstAt H a=some xs):Rd H a (.lst xs):=by
 unfold lstAt at h
 split at h
 ·rename_i e; cases h; exact .inl e
 ·rename_i e; cases h; exact .inr ⟨_,e⟩
 ·cases h
theorem lstAt_sq {K:PySem.W.Frag}{H:Hp}{a:Addr}{xs:List V}(h:lstAt H a=some xs):SqL K H a xs:=.inl (lstAt_rd h)
theorem tupAt_eq {H:Hp}{a:Addr}{xs:List V}(h:tupAt H a=some xs):H a=some (.tup xs):=by
 unfold tupAt at h
 split at h
 ·rename_i e; cases h; exact e
 ·cases h
theorem tupAt_sq {K:PySem.W.Frag}{H:Hp}{a:Addr}{xs:List V}(h:tupAt H a=some xs):SqT K H a xs:=.inl (.inl (tupAt_eq h))
theorem lstAt_of {H:Hp}{a:Addr}{xs:List V}(h:H a=some (.lst xs)):lstAt H a=some xs:=by unfold lstAt; rw [h]
theorem tupAt_of {H:Hp}{a:Addr}{xs:List V}(h:H a=some (.tup xs)):tupAt H a=some xs:=by unfold tupAt; rw [h]
def need {α:Type}(o:Option α)(k:α→Prop):Prop:=match o with
 | some a=>k a
 | none=>False
theorem need_ex {α:Type}{o:Option α}{k:α→Prop}(h:need o k):∃ a,o=some a∧k a:=by
 cases o with
 | none=>exact h.elim
 | some a=>exact ⟨a,rfl,h⟩
def seqAt (H:Hp)(a:Addr):Option (List V):=match H a with
 | some (.lst xs)=>some xs
 | some (.frz _ (.lst xs))=>some xs
 | some (.tup xs)=>some xs
 | _=>none
theorem seqAt_or {H:Hp}{a:Addr}{xs:List V}(h:seqAt H a=some xs):lstAt H a=some xs∨tupAt H a=some xs:=by
 unfold seqAt at h
 unfold lstAt tupAt
 split at h
 ·rename_i e; cases h; left; rw [e]
 ·rename_i e; cases h; left; rw [e]
 ·rename_i e; cases h; right; rw [e]
 ·cases h
def ixV:R2:=fun x y H Q=>match x,y with
 | .ref p,.int i=>need (seqAt H p) fun xs=>need (atI xs i) fun v=>Q v H
 | .str z,.int i=>z.length≤sizeLine∧need (atI z.cps.toList i) fun c=>Q (.str ⟨#[c]⟩) H
 | _,_=>False
section
variable {X:Cx} {a b c:Expr} {ta tb tc:TE} {pos:Pos}
theorem IxR.imp {r r':R2}(h:IxR X r)(i:∀ x y H Q,r' x y H Q→r x y H Q):IxR X r':=fun value slice pins s σ H x y v u Q I rx ry q hs=>h value slice pins s σ H x y v u Q I rx ry (i _ _ _ _ q) hs
theorem OpR.imp {f:Value→Value→Sem Value}{r r':R2}(h:OpR X f r)(i:∀ x y H Q,r' x y H Q→r x y H Q):OpR X f r':=fun pins s σ H x y v u Q I rx ry q=>h pins s σ H x y v u Q I rx ry (i _ _ _ _ q)
theorem CallR.imp {f:Value}{r r':List V→Hp→VK→Prop}(h:CallR X f r)(i:∀ xs H Q,r' xs H Q→r xs H Q):CallR X f r':=fun pins s σ H xs us Q I rx q=>h pins s σ H xs us Q I rx (i _ _ _ q)
theorem SlR.imp {r r':V→Option Int→Option Int→Hp→VK→Prop}(h:SlR X r)(i:∀ x l u H Q,r' x l u H Q→r x l u H Q):SlR X r':=fun pins s σ H x v vl vu lo hi sl Q I rx h1 h2 h3 q=>h pins s σ H x v vl vu lo hi sl Q I rx h1 h2 h3 (i _ _ _ _ _ q)
theorem ix_any:IxR X ixV:=by
 refine (ix_seq (X:=X)).imp fun x y H Q h=>?_
 unfold ixV at h
 split at h
 ·rename_i p i
  obtain ⟨xs,e,h⟩:=need_ex h
  obtain ⟨v,e2,h⟩:=need_ex h
  rcases seqAt_or e with e | e
  ·exact .inl ⟨p,xs,i,v,rfl,rfl,lstAt_sq e,e2,h⟩
  ·exact .inr (.inl ⟨p,xs,i,v,rfl,rfl,tupAt_sq e,e2,h⟩)
 ·rename_i z i
  obtain ⟨hz,h⟩:=h
  obtain ⟨c,e2,h⟩:=need_ex h
  exact .inr (.inr ⟨z,i,c,rfl,rfl,hz,e2,h⟩)
 ·exact h.elim
theorem Inv.lstR {pins:List (Addr×Obj)}{s:Shared}{σ:St}{H:Hp}{l:Addr}{xs:List V}(I:Inv X pins σ H s)(hH:lstAt H l=some xs) :
  xs.length≤sizeLine∧∃ (its:List Value) (n:Nat),Vals xs its∧xs.length=its.length∧s.heap.get? l=some { cls:=.type "list",data:=.seq its.toArray n }:=by
 obtain ⟨z,its,n,r,e⟩:=(lstAt_rd hH).ok I.hok
 exact ⟨z,its,n,r,r.length,e⟩
def catV:R2:=fun x y H Q=>match x,y with
 | .ref l,.ref b=>need (lstAt H l) fun xs=>need (lstAt H b) fun zs=>xs.length+zs.length≤sizeLine∧∀ p,H p=none→Q (.ref p) (upd H p (.lst (xs++zs)))
 | _,_=>False
theorem op_catV:OpR X (binaryOp .Add) catV:=by
 intro pins s σ H x y v u Q I rx ry h
 unfold catV at h
 split at h
 ·obtain ⟨xs,hH,h⟩:=need_ex h
  obtain ⟨zs,hB,hz,q⟩:=need_ex h
  cases rx
  cases ry
  obtain ⟨z,its,n,r,hl,e⟩:=I.lstR hH
  obtain ⟨z2,its2,n2,r2,hl2,e2⟩:=I.lstR hB
  refine PySem.P.add_list e e2 ?_ (by rw [List.size_toArray,List.size_toArray]; omega)
  have ea:its.toArray++its2.toArray=(its++its2).toArray:=by simp
  rw [ea]
  exact ⟨.ref _,_,I.lnew (t':=s.toks) (r.append r2) (by rw [List.length_append]; omega),rfl,q _ I.fresh⟩
 ·exact h.elim
def addV:R2:=fun x y H Q=>match x,y with
 | .int i,.int j=>Q (.int (i+j)) H
 | .str i,.str j=>i.length+j.length≤sizeLine∧Q (.str (i++j)) H
 | .ref l,.ref b=>catV (.ref l) (.ref b) H Q
 | _,_=>False
theorem op_addV:OpR X (binaryOp .Add) addV:=by
 refine ((op_add (X:=X)).or ((op_add_str (X:=X)).or (op_catV (X:=X)))).imp fun x y H Q h=>?_
 unfold addV at h
 split at h
 ·exact .inl ⟨_,_,rfl,rfl,h⟩
 ·exact .inr (.inl ⟨_,_,rfl,rfl,h.1,h.2⟩)
 ·exact .inr (.inr h)
 ·exact h.elim
def slL:V→Option Int→Option Int→Hp→VK→Prop:=fun x lo hi H Q=>match x with
 | .ref a=>need (lstAt H a) fun xs=>∀ p,H p=none→Q (.ref p) (upd H p (.lst (cutV xs lo hi)))
 | _=>False
theorem sl_lstV:SlR X slL:=by
 refine (sl_list (X:=X)).imp fun x l u H Q h=>?_
 unfold slL at h
 split at h
 ·obtain ⟨xs,e,h⟩:=need_ex h
  exact ⟨_,xs,rfl,lstAt_sq e,h⟩
 ·exact h.elim
def lenV:List V→Hp→VK→Prop:=fun xs H Q=>match xs with
 | [.str z]=>z.length≤sizeLine∧Q (.int z.length) H
 | [.ref p]=>(match H p with
  | some (.dK kvs)=>Q (.int kvs.length) H
  | _=>need (seqAt H p) fun ys=>Q (.int ys.length) H)
 | _=>False
theorem call_lenV:CallR X (.builtin "len") lenV:=by
 refine ((call_len (X:=X)).or (call_lenD (X:=X))).imp fun xs H Q h=>?_
 unfold lenV at h
 split at h
 ·exact .inl ⟨_,_,rfl,⟨h.1,rfl⟩,h.2⟩
 ·rename_i p
  split at h
  ·rename_i e
   exact .inr ⟨p,_,rfl,e,h⟩
  ·obtain ⟨ys,e,h⟩:=need_ex h
   rcases seqAt_or e with e | e
   ·exact .inl ⟨_,_,rfl,.inl ⟨ys,lstAt_sq e,rfl⟩,h⟩
   ·exact .inl ⟨_,_,rfl,.inr ⟨ys,tupAt_sq e,rfl⟩,h⟩
 ·exact h.elim
end
end L2
set_option maxHeartbeats 1000000
namespace L2
open PySem PySem.Spec PyProof.Rows
def clFrom (cells:List (Str×Addr)):List (Str×NameKind)→List (Str×Addr)→List (Str×Addr)
 | [],acc=>acc
 | (n,k)::r,acc=>if (k == .free)=true then (match cells.lookup n with
   | some c=>clFrom cells r ((n,c)::acc)
   | none=>clFrom cells r acc) else clFrom cells r acc
theorem forIn_closure {env:Env}:∀ (names:List (Str×NameKind)) (acc:List (Str×Addr)),(∀ x∈names,x.2=.free→∃ c,env.cells.lookup x.1=some c) →
  (forIn names acc fun (x:Str×NameKind) (cs:List (Str×Addr))=>(match x with
   | (name,kind)=>if (kind == NameKind.free)=true then do let a ← cellOf env name; pure (ForInStep.yield ((name,a)::cs)) else pure (ForInStep.yield cs):Sem (ForInStep (List (Str×Addr)))))=pure (clFrom env.cells names acc)
 | [],acc,_=>rfl
 | (n,k)::r,acc,h=>by
  have ih:=fun a=>forIn_closure (env:=env) r a fun x hx=>h x (List.mem_cons_of_mem _ hx)
  rw [List.forIn_cons]
  by_cases hk:(k == NameKind.free)=true
  ·obtain ⟨c,hc⟩:=h (n,k) List.mem_cons_self (by simpa using hk)
   have e1:cellOf env n=pure c:=by unfold cellOf; rw [hc]
   simp only [hk,if_true,e1,clFrom,hc]
   exact ih _
  ·simp only [hk,if_false,clFrom]
   exact ih _
theorem closure_eq {scope:Scope}{env:Env}(h:∀ x∈scope.names,x.2=.free→∃ c,env.cells.lookup x.1=some c):closureFor scope env=pure (clFrom env.cells scope.names []):=by
 unfold closureFor
 simp only []
 have:=forIn_closure (env:=env) scope.names [] h
 rw [show (forIn scope.names [] fun x r=>(match x with
   | (name,kind)=>if (kind == NameKind.free)=true then do let __do_lift ← cellOf env name; pure (ForInStep.yield ((name,__do_lift)::r)) else pure (ForInStep.yield r):Sem (ForInStep (List (Str×Addr)))))=pure (clFrom env.cells scope.names []) from this]
 rfl
theorem clFrom_sub {cells:List (Str×Addr)}{x:Str}{c:Addr}:∀ (names:List (Str×NameKind)) (acc:List (Str×Addr)),(∀ y d,acc.lookup y=some d→cells.lookup y=some d)→(clFrom cells names acc).lookup x=some c→cells.lookup x=some c
 | [],acc,ha,h=>ha x c h
 | (n,k)::r,acc,ha,h=>by
  unfold clFrom at h
  split at h
  ·split at h
   ·rename_i d hd
    refine clFrom_sub r _ (fun y e hy=>?_) h
    rw [List.lookup_cons] at hy
    cases hb:y == n with
    | true=>
     rw [hb] at hy
     have:y=n:=eq_of_beq hb
     subst this
     cases hy
     exact hd
    | false=>
     rw [hb] at hy
     exact ha y e hy
   ·exact clFrom_sub r acc ha h
  ·exact clFrom_sub r acc ha h
theorem clFrom_old {cells:List (Str×Addr)}{x:Str}{c:Addr}(hx:cells.lookup x=some c):∀ (names:List (Str×NameKind)) (acc:List (Str×Addr)),acc.lookup x=some c→(clFrom cells names acc).lookup x=some c
 | [],_,h=>h
 | (n,k)::r,acc,h=>by
  unfold clFrom
  split
  ·split
   ·rename_i d hd
    refine clFrom_old hx r _ ?_
    rw [List.lookup_cons]
    cases hb:x == n with
    | true=>
     have:x=n:=eq_of_beq hb
     subst this
     rw [hx] at hd
     cases hd
     rfl
    | false=>exact h
   ·exact clFrom_old hx r acc h
  ·exact clFrom_old hx r acc h
theorem clFrom_has {cells:List (Str×Addr)}{x:Str}{c:Addr}(hx:cells.lookup x=some c):∀ (names:List (Str×NameKind)) (acc:List (Str×Addr)),names.lookup x=some .free→(clFrom cells names acc).lookup x=some c
 | [],_,h=>by simp at h
 | (n,k)::r,acc,h=>by
  rw [List.lookup_cons] at h
  unfold clFrom
  cases hb:x == n with
  | true=>
   rw [hb] at h
   cases h
   have:x=n:=eq_of_beq hb
   subst this
   rw [if_pos (show (NameKind.free == NameKind.free)=true by decide),hx]
   exact clFrom_old hx r _ (by rw [List.lookup_cons,beq_self_eq_true])
  | false=>
   rw [hb] at h
   split
   ·split
    ·exact clFrom_has hx r _ h
    ·exact clFrom_has hx r acc h
   ·exact clFrom_has hx r acc h
def compOk (osc:Scope)(N own fr:List Str)(ix:List Nat)(scope:Scope):Bool:=
 scope.kind == .function && scope.names.all (fun y=>y.2 != .cell) && scope.names.all (fun y=>y.2 != .local || scope.names.lookup y.1 == some .local) &&
 scope.names.all (fun y=>y.2 != .free || osc.names.lookup y.1 == some .cell) && own.all (fun x=>scope.names.lookup x == some .local) && fr.all (fun x=>scope.names.lookup x == some .free) && decide (ix.map (fun j=>N[j]?)=fr.map some) && decide ((own++fr).Nodup) && own.all (fun x=>scope.names.all fun y=>y.2 != .free || decide (y.1≠x))
def cxComp (X:Cx)(own fr:List Str)(scope:Scope)(C:Addr)(s:Shared)(H:Hp)(pins:List (Addr×Obj))(fp:List Addr):Cx where
 prog:=X.prog
 w:=X.w
 K:=X.K
 mg:=X.mg
 base:=X.base
 A:=X.A
 N:=own++fr
 s₀:=s
 H₀:=H
 env:=compEnvC scope (clFrom X.env.cells scope.names []) C X.env
 outer:=X.stack
 stack:=X.stack
 ex:=fp
 calm:=true
 fn:=fun x=>decide (x∈own)
 pn:=X.pn++pins
 xe:=fun _ _=>False
def σC (own:List Str)(ix:List Nat)(σ:St):St:=List.replicate own.length none++ix.map fun j=>(σ[j]?).join
theorem lookup_relabel_free {env:Env}:∀ {names:List (Str×NameKind)} {x:Str} {k:NameKind},(names.map fun (n,k)=>if (k == NameKind.free && env.scope.kind == .function && env.kindOf n == some .cell) then (n,NameKind.cell) else (n,k)).lookup x=some k →
  names.lookup x=some k∨(k=.cell∧names.lookup x=some .free)
 | [],_,_,h=>by simp at h
 | (n,k')::r,x,k,h=>by
  have ih:=@lookup_relabel_free env r x k
  have h:List.lookup x ((if (k' == NameKind.free && env.scope.kind == .function && env.kindOf n == some .cell)=true then (n,NameKind.cell) else (n,k'))::_)=_:=h
  by_cases hc:(k' == NameKind.free && env.scope.kind == .function && env.kindOf n == some .cell)=true
  ·rw [if_pos hc,List.lookup_cons] at h
   have hk:k'=.free:=by
    have h0:=hc
    rw [Bool.and_eq_true,Bool.and_eq_true] at h0
    have:=h0.1.1
    cases k' <;> first | rfl | cases this
   rw [List.lookup_cons]
   cases hx:x == n with
   | true=>
    rw [hx] at h
    cases h
    exact .inr ⟨rfl,by rw [hk]⟩
   | false=>
    rw [hx] at h
    exact ih h
  ·rw [if_neg hc,List.lookup_cons] at h
   rw [List.lookup_cons]
   cases hx:x == n with
   | true=>
    rw [hx] at h
    exact .inl h
   | false=>
    rw [hx] at h
    exact ih h
theorem lookup_relabel_of_free {env:Env}:∀ {names:List (Str×NameKind)} {x:Str},names.lookup x=some .free →
  (names.map fun (n,k)=>if (k == NameKind.free && env.scope.kind == .function && env.kindOf n == some .cell) then (n,NameKind.cell) else (n,k)).lookup x=some .cell ∨
  (names.map fun (n,k)=>if (k == NameKind.free && env.scope.kind == .function && env.kindOf n == some .cell) then (n,NameKind.cell) else (n,k)).lookup x=some .free
 | [],_,h=>by simp at h
 | (n,k')::r,x,h=>by
  have ih:=@lookup_relabel_of_free env r x
  show List.lookup x ((if (k' == NameKind.free && env.scope.kind == .function && env.kindOf n == some .cell)=true then (n,NameKind.cell) else (n,k'))::_)=_∨List.lookup x ((if (k' == NameKind.free && env.scope.kind == .function && env.kindOf n == some .cell)=true then (n,NameKind.cell) else (n,k'))::_)=_
  rw [List.lookup_cons] at h
  by_cases hc:(k' == NameKind.free && env.scope.kind == .function && env.kindOf n == some .cell)=true
  ·rw [if_pos hc]; simp only [List.lookup_cons]
   cases hx:x == n with
   | true=>exact .inl rfl
   | false=>rw [hx] at h; exact ih h
  ·rw [if_neg hc]; simp only [List.lookup_cons]
   cases hx:x == n with
   | true=>rw [hx] at h; exact .inr h
   | false=>rw [hx] at h; exact ih h
structure CompScope (osc:Scope)(N own fr:List Str)(ix:List Nat)(scope:Scope):Prop where
 kind:scope.kind=.function
 nocell:∀ y∈scope.names,y.2≠.cell
 loc:∀ y∈scope.names,y.2=.local→scope.names.lookup y.1=some .local
 free:∀ y∈scope.names,y.2=.free→osc.names.lookup y.1=some .cell
 ow:∀ x∈own,scope.names.lookup x=some .local
 fe:∀ x∈fr,scope.names.lookup x=some .free
 ic:ix.map (fun j=>N[j]?)=fr.map some
 nd:(own++fr).Nodup
 lf:∀ x∈own,∀ y∈scope.names,y.2=.free→y.1≠x
theorem compOk.of {osc:Scope}{N own fr:List Str}{ix:List Nat}{scope:Scope}(h:compOk osc N own fr ix scope=true):CompScope osc N own fr ix scope:=by
 unfold compOk at h
 simp only [Bool.and_eq_true,decide_eq_true_eq] at h
 obtain ⟨⟨⟨⟨⟨⟨⟨⟨h1,h2⟩,h3⟩,h4⟩,h5⟩,h6⟩,h7⟩,h8⟩,h9⟩:=h
 refine ⟨?_,fun y hy e=>?_,fun y hy e=>?_,fun y hy e=>?_,fun x hx=>?_,fun x hx=>?_,h7,h8,fun x hx y hy e=>?_⟩
 ·revert h1; cases scope.kind <;> first | (intro _; rfl) | (intro z; cases z)
 ·have:=List.all_eq_true.mp h2 y hy
  rw [e] at this
  exact absurd this (by decide)
 ·have:=List.all_eq_true.mp h3 y hy
  rw [e] at this
  have q:(scope.names.lookup y.1 == some NameKind.local)=true:=by simpa using this
  exact eq_of_beq q
 ·have:=List.all_eq_true.mp h4 y hy
  rw [e] at this
  have q:(osc.names.lookup y.1 == some NameKind.cell)=true:=by simpa using this
  exact eq_of_beq q
 ·exact eq_of_beq (List.all_eq_true.mp h5 x hx)
 ·exact eq_of_beq (List.all_eq_true.mp h6 x hx)
 ·have:=List.all_eq_true.mp (List.all_eq_true.mp h9 x hx) y hy
  rw [e] at this
  simpa using this
section
variable {X:Cx} {pins:List (Addr×Obj)} {σ:St} {H H':Hp} {s:Shared} {own fr:List Str} {ix:List Nat} {scope:Scope} {fp:List Addr} {osc:Scope} {N:List Str}
theorem Inv.cellAt (I:Inv X pins σ H s){x:Str}(h:X.env.scope.names.lookup x=some .cell):∃ c,X.env.cells.lookup x=some c:=I.ok.has x (.inl h)
theorem comp_ok (I:Inv X pins σ H s)(S:CompScope X.env.scope X.N own fr ix scope)(hc:X.calm=true)(hf:∀ b∈fp,FpOk X pins H b)(hx:∀ b∈fp,b<s.heap.objs.size) :
  (cxComp X own fr scope s.heap.objs.size s H pins fp).Ok:=by
 have sub:∀ x c,(clFrom X.env.cells scope.names []).lookup x=some c→X.env.cells.lookup x=some c:=fun x c h=>clFrom_sub scope.names [] (fun y d q=>by simp at q) h
 have frees:∀ x,scope.names.lookup x=some .free→∃ c,(clFrom X.env.cells scope.names []).lookup x=some c:=fun x h=>by
  obtain ⟨c,hc'⟩:=I.cellAt (S.free (x,.free) (PySem.mem_of_lookup h) rfl)
  exact ⟨c,clFrom_has hc' scope.names [] h⟩
 refine ⟨I.ok.mod,S.kind,I.ok.glob,I.ok.blt,Nat.le_refl _,fun x y c h1 h2=>I.ok.inj x y c (sub x c h1) (sub y c h2),fun x hx'=>?_,fun x c h1 h2=>?_,fun _=>I.ok.hd hc,I.ok.frames,.inl rfl,fun b hb=>?_,I.bs,Nat.le_trans I.ok.bsz I.sz,fun b o e hb=>?_,fun b hb hs=>?_,I.stack,I.stkFree⟩
 ·have hx':(relabel scope X.env).names.lookup x=some .cell∨(relabel scope X.env).names.lookup x=some .free:=hx'
  rcases hx' with h | h
  ·rcases lookup_relabel_free h with q | ⟨_,q⟩
   ·exact absurd rfl (S.nocell (x,.cell) (PySem.mem_of_lookup q))
   ·exact frees x q
  ·rcases lookup_relabel_free h with q | ⟨z,_⟩
   ·exact frees x q
   ·cases z
 ·exfalso
  have h1:x∈own:=of_decide_eq_true h1
  have h3:=S.ow x h1
  have:∀ (names:List (Str×NameKind)) (acc:List (Str×Addr)),acc.lookup x=none→(∀ y∈names,y.2=.free→y.1≠x)→(clFrom X.env.cells names acc).lookup x=none:=by
   intro names
   induction names with
   | nil=>intro acc ha _; exact ha
   | cons y r ih=>
    intro acc ha hn
    obtain ⟨n,k⟩:=y
    unfold clFrom
    split
    ·rename_i hk
     have hk:k=.free:=by cases k <;> first | rfl | cases hk
     split
     ·refine ih _ ?_ fun z hz=>hn z (List.mem_cons_of_mem _ hz)
      rw [List.lookup_cons]
      have:(x == n)=false:=by
       have:=hn (n,k) List.mem_cons_self hk
       exact beq_eq_false_iff_ne.mpr fun z=>this z.symm
      rw [this]
      exact ha
     ·exact ih _ ha fun z hz=>hn z (List.mem_cons_of_mem _ hz)
    ·exact ih _ ha fun z hz=>hn z (List.mem_cons_of_mem _ hz)
  by_cases hm:∃ y∈scope.names,y.2=.free∧y.1=x
  ·obtain ⟨y,hy,e1,e2⟩:=hm
   exact S.lf x h1 y hy e1 e2
  ·have h5:=this scope.names [] (by simp) (fun y hy e z=>hm ⟨y,hy,e,z⟩)
   have h2:(clFrom X.env.cells scope.names []).lookup x=some c:=h2
   rw [h5] at h2
   cases h2
 ·refine ⟨Nat.ne_of_lt (hx b hb),fun x c h z=>?_⟩
  exact (hf b hb).2.2.2.2.1 x c (sub x c h) z
 ·rcases (hf b hb).2.2.2.1 with z | z
  ·exact I.ok.noex b o e z
  ·exact absurd (Nat.lt_of_lt_of_le (Heap.lt_size e) (Nat.le_trans I.ok.bsz z)) (Nat.lt_irrefl _)
 ·obtain ⟨_,h1,h2,_⟩:=hf b hb
  rcases List.mem_cons.mp (I.stkSub b hs) with z | z
  ·exact h1 z
  ·exact h2 z
theorem comp_start (I:Inv X pins σ H s)(S:CompScope X.env.scope X.N own fr ix scope)(hc:X.calm=true)(hf:∀ b∈fp,FpOk X pins H b)(hx:∀ b∈fp,b<s.heap.objs.size){h1:Heap}{tk:Nat}{m:Str→Option Value}
  (hns:h1.Ns s.heap.objs.size m) (hk:∀ b o,s.heap.get? b=some o→h1.get? b=some o) :
  Inv (cxComp X own fr scope s.heap.objs.size s H pins fp) [] (σC own ix σ) H { s with heap:=h1,toks:=tk }:=by
 have sub:∀ x c,(clFrom X.env.cells scope.names []).lookup x=some c→X.env.cells.lookup x=some c:=fun x c h=>clFrom_sub scope.names [] (fun y d q=>by simp at q) h
 have hl:ix.length=fr.length:=by
  have:=congrArg List.length S.ic
  simpa using this
 refine ⟨comp_ok I S hc hf hx,rfl,I.bare,Un.kept hk,⟨m,hns,fun i x v h1' h2 h3=>?_⟩,fun x c h=>?_,I.hok.fresh (Nat.le_refl _),fun x c h=>I.freeC x c (sub x c h),fun p hp=>?_,I.hok.kept hk,?_⟩
 ·have h1':(own++fr)[i]? = some x:=h1'
  have hi:own.length≤i:=by
   by_cases z:i<own.length
   ·unfold σC at h2
    rw [List.getElem?_append_left (by simpa using z),List.getElem?_replicate] at h2
    split at h2 <;> cases h2
   ·omega
  unfold σC at h2
  rw [List.getElem?_append_right (by simpa using hi),List.length_replicate,List.getElem?_map] at h2
  rw [List.getElem?_append_right hi] at h1'
  cases e:ix[i - own.length]? with
  | none=>rw [e] at h2; cases h2
  | some j=>
   rw [e] at h2
   have h2:(σ[j]?).join=some v:=Option.some.inj h2
   have e2:σ[j]? = some (some v):=by
    cases q:σ[j]? with
    | none=>rw [q] at h2; cases h2
    | some o=>rw [q] at h2; exact congrArg some h2
   have e3:X.N[j]? = some x:=by
    have q:=congrArg (fun l=>l[i - own.length]?) S.ic
    simp only [List.getElem?_map,e,h1'] at q
    simpa using q
   have hfr:=S.fe x (List.mem_of_getElem? h1')
   have ho:=S.free (x,.free) (PySem.mem_of_lookup hfr) rfl
   obtain ⟨m0,_,hl0⟩:=I.loc
   obtain ⟨u,r,l⟩:=hl0 j x v e3 e2 (.inr (.inl ho))
   refine ⟨u,r,.inr ⟨?_,?_⟩⟩
   ·exact lookup_relabel_of_free hfr
   ·rcases l with ⟨k,_⟩ | ⟨_,c,hcl,hcell⟩
    ·have k:X.env.scope.names.lookup x=some .local:=k
     rw [ho] at k; cases k
    ·refine ⟨c,clFrom_has hcl scope.names [] hfr,?_⟩
     obtain ⟨o,q1,q2⟩:=hcell
     exact ⟨o,hk c o q1,q2⟩
 ·obtain ⟨v,o,q1,q2⟩:=I.cell x c (sub x c h)
  exact ⟨v,o,hk c o q1,q2⟩
 ·have hp:p∈(X.pn++pins)++[]:=hp
  rw [List.append_nil] at hp
  obtain ⟨e,n,ne,nf,d⟩:=I.pin p hp
  refine ⟨hk _ _ e,n,Nat.ne_of_lt (Heap.lt_size e),fun z=>?_,d⟩
  rcases List.mem_cons.mp (I.stkSub p.1 z) with q | q
  ·exact ne q
  ·exact nf q
 ·show (σC own ix σ).length=(own++fr).length
  unfold σC
  simp [hl]
theorem comp_back (I:Inv X pins σ H s){pins':List (Addr×Obj)}{σ':St}{s':Shared}(J:Inv (cxComp X own fr scope s.heap.objs.size s H pins fp) pins' σ' H' s')(hf:∀ b∈fp,FpOk X pins H b):Inv X pins σ H' s':=
 I.call' (ch:=fp) J.os J.base J.hok J.bare fun b hb=>⟨(hf b hb).2.2.2.1,(hf b hb).2.1,(hf b hb).2.2.2.2.1,(hf b hb).2.2.2.2.2⟩
theorem comp_gone (I:Inv X pins σ H s){pins':List (Addr×Obj)}{σ':St}{s':Shared}(J:Inv (cxComp X own fr scope s.heap.objs.size s H pins fp) pins' σ' H' s')(hf:∀ b∈fp,FpOk X pins H b){h':Heap}(hs:Heap.SameBut s.heap.objs.size s'.heap h') :
  Inv X pins σ H' { s' with heap:=h' }:=by
 have I':=comp_back I J hf
 have f:=I.fpOk (H':=H') (Nat.le_refl _) J.free
 exact I'.turned (t':=s'.toks) (it:=s.heap.objs.size) (fun b o hb e=>hs.extBut b o hb e) f.1 f.2.1 f.2.2.2.1 f.2.2.2.2.1 f.2.2.2.2.2
end
end L2
namespace L2
open PySem PySem.Spec PyProof.Rows
def leS:St→St→Prop
 | [],[]=>True
 | none::a,_::b=>leS a b
 | some x::a,y::b=>y=some x∧leS a b
 | _,_=>False
theorem leS.len:∀ {a b:St},leS a b→a.length=b.length
 | [],[],_=>rfl
 | none::a,_::b,h=>by have:=leS.len (a:=a) (b:=b) h; simp [this]
 | some x::a,y::b,h=>by have:=leS.len (a:=a) (b:=b) h.2; simp [this]
 | [],_::_,h=>h.elim
 | none::_,[],h=>h.elim
 | some _::_,[],h=>h.elim
theorem leS.get:∀ {a b:St} {i:Nat} {v:V},leS a b→a[i]? = some (some v)→b[i]? = some (some v)
 | [],[],_,_,_,e=>by simp at e
 | none::a,_::b,0,_,_,e=>by simp at e
 | none::a,_::b,i+1,v,h,e=>by
  have:=leS.get (a:=a) (b:=b) (i:=i) (v:=v) h (by simpa using e)
  simpa using this
 | some x::a,y::b,0,v,h,e=>by
  simp at e; subst e
  simpa using h.1
 | some x::a,y::b,i+1,v,h,e=>by
  have:=leS.get (a:=a) (b:=b) (i:=i) (v:=v) h.2 (by simpa using e)
  simpa using this
 | [],_::_,_,_,h,_=>h.elim
 | none::_,[],_,_,h,_=>h.elim
 | some _::_,[],_,_,h,_=>h.elim
section
variable {X:Cx} {pins:List (Addr×Obj)} {σ σ':St} {H:Hp} {s:Shared}
theorem Inv.less (I:Inv X pins σ' H s)(h:leS σ σ'):Inv X pins σ H s:=I.weak h.len fun _ _ e=>h.get e
def PCs (X:Cx)(ifs:List Expr)(t:TT):Prop:=
 ∀ (pins:List (Addr×Obj)) (s:Shared) (σ:St) (H:Hp) (Q:Bool→Hp→Prop),Inv X pins σ H s→t σ H Q →
  wpAny (model X.prog X.w) X.A (forIn ifs true fun c r=>if r=true then do let ok ← isTrue c X.env (eval c X.env); pure (ForInStep.yield ok) else pure (ForInStep.yield r)) (TP X pins σ Q) X.xe s
def tYes:TT:=fun _ H Q=>Q true H
theorem pcs_nil:PCs X [] tYes:=fun pins s σ H Q I h=>wpAny_pure ⟨H,I,h⟩
theorem forIn_no {env:Env}:∀ (ifs:List Expr),(forIn ifs false fun c r=>if r=true then do let ok ← isTrue c env (eval c env); pure (ForInStep.yield ok) else pure (ForInStep.yield r):Sem Bool)=pure false
 | []=>rfl
 | c::r=>by
  rw [List.forIn_cons]
  simp only [Bool.false_eq_true,if_false]
  exact forIn_no r
theorem pcs_cons {c:Expr}{r:List Expr}{t u:TT}(h:PT X c t)(h':PCs X r u):PCs X (c::r) (tAnd t u):=by
 intro pins s σ H Q I q
 rw [List.forIn_cons]
 simp only [if_true]
 refine wpAny_bind (wpAny_bind (thn (h pins s σ H _ I q) fun b s1 ⟨H1,I1,q1⟩=>wpAny_pure ?_))
 cases b with
 | true=>
  rw [if_pos rfl] at q1
  exact h' pins s1 σ H1 Q I1 q1
 | false=>
  rw [if_neg (by simp)] at q1
  show wpAny _ _ (forIn r false _) _ _ _
  rw [forIn_no]
  exact wpAny_pure ⟨H1,I1,q1⟩
end
theorem comp_loop {prog:Program}{w:World}{A:Around}{R:Result→Shared→Prop}{s:Shared}{elt target iter:Expr}{ifs:List Expr}{scope:Scope}{pos:Pos}{it acc:Value}{env:Env}(I:Nat→Shared→Prop)
  (turn:∀ n s,I n s→wpAny (model prog w) A (pyNext it) (fun r s₁=>match r with
   | none=>R (.ok .next) s₁
   | some v=>wpAny (model prog w) A (letOwnedTupleGo target it v) (fun _ s₁'=>wpAny (model prog w) A (assign target env v) (fun _ s₂=>
     wpAny (model prog w) A (forIn ifs true fun c r=>if r=true then do let ok ← isTrue c env (eval c env); pure (ForInStep.yield ok) else pure (ForInStep.yield r)) (fun ok s₃=>
      if ok=true then wpAny (model prog w) A (eval elt env) (fun x s₄=>
       wpAny (model prog w) A (call (.builtin "list.append") [acc,x]) (fun _ s₅=>∃ m,m<n∧I m s₅) (fun _ _=>False) s₄) (fun _ _=>False) s₃
      else ∃ m,m<n∧I m s₃) (fun _ _=>False) s₂) (fun _ _=>False) s₁') (fun _ _=>False) s₁) (fun _ _=>False) s)
  (n:Nat) (h:I n s):codeAny (model prog w) A (.compLoop (.ListComp elt [⟨target,iter,ifs,0⟩] scope pos) 0 it acc env) R s:=by
 have mo:∀ {α:Type} {t:Sem α} {Q:α→Shared→Prop} {E:Value→Shared→Prop} {s:Shared},wpAny (model prog w) A t Q (fun _ _=>False) s→wpAny (model prog w) A t Q E s:=fun h=>wpAny_mono h (fun _ _ q=>q) fun _ _ z=>z.elim
 refine codeAny_loop rfl I (fun n s hI=>?_) n h
 show wpAny _ A ((compTurn (.ListComp elt [⟨target,iter,ifs,0⟩] scope pos) 0 it acc env).onRaise (fun x=>do noteFrame x env; theTreesLotGoes x)) _ _ s
 refine wpAny_noted ?_
 rw [compTurn_list]
 refine wpAny_bind (wpAny_standAt (wpAny_bind (mo (thn (turn n s hI) fun r s₁ h₁=>?_))))
 cases r with
 | none=>exact wpAny_pure h₁
 | some v=>
  refine wpAny_bind (mo (thn h₁ fun _ s₁' h₁'=>wpAny_bind (mo (thn h₁' fun _ s₂ h₂=>wpAny_bind (mo (thn h₂ fun ok s₃ h₃=>?_))))))
  cases ok with
  | false=>exact wpAny_pure ⟨rfl,h₃⟩
  | true=>exact wpAny_bind (wpAny_bind (mo (thn h₃ fun x s₄ h₄=>wpAny_bind (mo (thn h₄ fun _ s₅ h₅=>wpAny_pure (wpAny_pure ⟨rfl,h₅⟩))))))
def tBlock (J:It)(σ0:St)(acc:Addr)(g:TG)(tt:TT)(te:TE)(Q:Hp→Prop)(H:Hp):Prop:=
 ∃ W:Nat→Nat→Hp→Prop,(∃ m,W 0 m H)∧∀ i m H,W i m H→(J.stop i H∧Q H) ∨
  (J.go i H∧∀ x H',J.yld i H x H'→g x σ0 H' fun σ2 H2=>leS σ0 σ2∧tt σ2 H2 fun b H3=>if b=true then te σ2 H3 fun y H4=>∃ ys,H4 acc=some (.lst ys)∧ys.length<sizeLine∧∃ m',m'<m∧W (i+1) m' (upd H4 acc (.lst (ys++[y])))
   else ∃ m',m'<m∧W (i+1) m' H3)
def tComp (own:List Str)(ix:List Nat)(wi:TI)(g:TG)(tt:TT)(te:TE):TE:=fun σ H Q=>wi σ H fun J H1=>∀ acc,H1 acc=none→tBlock J (σC own ix σ) acc g tt te (fun H2=>Q (.ref acc) H2) (upd H1 acc (.lst []))
def tSetC (own:List Str)(ix:List Nat)(i:Nat)(wi:TI)(g:TG)(tt:TT)(te:TE):TS:=fun D σ H=>wi σ H fun J H1=>∀ acc,H1 acc=none→tBlock J (σC own ix σ) acc g tt te (fun H2=>D.nx (σ.set i (some (.ref acc))) H2) (upd H1 acc (.lst []))
abbrev InC (X:Cx)(own fr:List Str)(scope:Scope)(p:Cx→Prop):Prop:=∀ (C:Addr) (s:Shared) (H:Hp) (pins:List (Addr×Obj)) (fp:List Addr),p (cxComp X own fr scope C s H pins fp)
section
variable {X:Cx} {osc:Scope} {N own fr:List Str} {ix:List Nat} {scope:Scope} {tg iter elt:Expr} {ifs:List Expr} {pos:Pos} {wi:TI} {g:TG} {tt:TT} {te:TE}
theorem comp_block {pins:List (Addr×Obj)}{s:Shared}{σ:St}{H:Hp}{it:Addr}{fp:List Addr}{tn:Nat→Heap→Prop}{J:It}{E:Value→Shared→Prop}{Qf:Addr→Hp→Prop}(S:CompScope X.env.scope X.N own fr ix scope)(hc:X.calm=true)
  (hg:InC X own fr scope fun Y=>PG Y tg g) (ht:InC X own fr scope fun Y=>PCs Y ifs tt) (he:InC X own fr scope fun Y=>PE Y elt te)
  (I:Inv X pins σ H s) (T:Turn X.prog X.w X.K tg J fp it tn) (st:tn 0 s.heap) (hf:∀ b∈fp,FpOk X pins H b) (h:∀ acc,H acc=none→tBlock J (σC own ix σ) acc g tt te (Qf acc) (upd H acc (.lst [])))
  {RR:Value→Addr→Result→Shared→Prop}
  (hR:∀ (acc C:Addr) (s₃:Shared) (H₃ H':Hp) (fp':List Addr) (s':Shared),C=s₃.heap.objs.size→s₃.os=s.os→Inv X pins σ H₃ s₃→(∀ b∈fp',FpOk X pins H₃ b)→Inv (cxComp X own fr scope C s₃ H₃ pins fp') [] (σC own ix σ) H' s'→Qf acc H'→(∃ m,s'.heap.Ns C m)→RR (.ref acc) C (.ok .next) s') :
  wpAny (model X.prog X.w) X.A (newList []) (fun acc s₃=>wpAny (model X.prog X.w) X.A (newFunctionEnv scope X.env.globals (clFrom X.env.cells scope.names []) [] X.env.qual none .none (some X.env)) (fun cenv s₄=>
   codeAny (model X.prog X.w) X.A (.compStart (.ListComp elt [⟨tg,iter,ifs,0⟩] scope pos) 0 (.ref it) acc { cenv with scope:=relabel scope X.env }) (RR acc cenv.locals) s₄) E s₃) E s:=by
 refine wpAny_newObj_type (wpAny_newFunctionEnv S.nocell (by intro y hy; simp at hy) (fun h₁ hns₁ hsb₁=>?_) S.kind)
 dsimp only at hns₁ hsb₁ ⊢
 have hfree:H s.heap.objs.size=none:=I.fresh
 have I3:Inv X pins σ (upd H s.heap.objs.size (.lst [])) { s with heap:=s.heap.push { cls:=.type "list",dict:=none,data:=.seq ([]:List Value).toArray },toks:=s.toks }:=
  I.lnew (its:=[]) (t':=s.toks) .nil (Nat.zero_le _)
 generalize hs3:({ s with heap:=s.heap.push { cls:=.type "list",dict:=none,data:=.seq ([]:List Value).toArray },toks:=s.toks }:Shared)=s3 at I3
 have eh:s.heap.push { cls:=.type "list",dict:=none,data:=.seq ([]:List Value).toArray }=s3.heap:=by rw [← hs3]
 have eo:s3.os=s.os:=by rw [← hs3]
 have es:({ s with heap:=h₁,toks:=s.toks+([]:List (Str×Value)).length }:Shared) = { s3 with heap:=h₁,toks:=s.toks }:=by rw [← hs3]; rfl
 rw [eh] at hns₁ hsb₁ ⊢
 have ek:∀ b o,s.heap.get? b=some o→s3.heap.get? b=some o:=fun b o e=>by rw [← eh]; exact Heap.get?_push_of_some _ e
 have hk1:∀ b o,s3.heap.get? b=some o→h₁.get? b=some o:=fun b o e=>hsb₁.extBut b o (Nat.ne_of_lt (Heap.lt_size e)) (Heap.get?_push_of_some _ e)
 have hobj:∀ b∈fp,∃ o,s.heap.get? b=some o∧∀ v,o.data≠.cell v:=T.obj 0 _ st
 have hx:∀ b∈fp,b<s3.heap.objs.size:=fun b hb=>by
  obtain ⟨o,e,_⟩:=hobj b hb
  exact Heap.lt_size (ek b o e)
 have hf3:∀ b∈fp,FpOk X pins (upd H s.heap.objs.size (.lst [])) b:=fun b hb=>by
  obtain ⟨o,e,_⟩:=hobj b hb
  refine ⟨?_,(hf b hb).2⟩
  rw [upd_ne (Nat.ne_of_lt (Heap.lt_size e))]
  exact (hf b hb).1
 have st3:tn 0 h₁:=T.keep 0 _ _ st fun b hb o e=>hk1 b o (ek b o e)
 have J0:=comp_start (tk:=s.toks) I3 S hc hf3 hx hns₁ hk1
 generalize hY:cxComp X own fr scope s3.heap.objs.size s3 (upd H s.heap.objs.size (.lst [])) pins fp=Y at J0
 have hgY:PG Y tg g:=hY ▸ hg _ _ _ _ _
 have htY:PCs Y ifs tt:=hY ▸ ht _ _ _ _ _
 have heY:PE Y elt te:=hY ▸ he _ _ _ _ _
 have y1:Y.prog=X.prog:=by rw [← hY]; rfl
 have y2:Y.w=X.w:=by rw [← hY]; rfl
 have y3:Y.K=X.K:=by rw [← hY]; rfl
 have y4:Y.calm=true:=by rw [← hY]; rfl
 have y5:Y.A=X.A:=by rw [← hY]; rfl
 have y6:Y.env=compEnvC scope (clFrom X.env.cells scope.names []) s3.heap.objs.size X.env:=by rw [← hY]; rfl
 have y7:Y.xe=fun _ _=>False:=by rw [← hY]; rfl
 have hloc:Y.env.locals=s3.heap.objs.size:=by rw [y6]; rfl
 have stat:∀ {H':Hp},(∀ b∈fp,H' b=none)→∀ b∈fp,FpOk Y [] H' b:=fun hn b hb=>by
  refine ⟨hn b hb,by rw [hloc]; exact Nat.ne_of_lt (hx b hb),?_,?_,?_,?_⟩
  ·rw [← hY]
   intro z
   rcases List.mem_cons.mp (I.stkSub b z) with q | q
   ·exact (hf b hb).2.1 q
   ·exact (hf b hb).2.2.1 q
  ·rw [← hY]; exact .inl hb
  ·rw [y6]
   intro x c e
   exact (hf b hb).2.2.2.2.1 x c (clFrom_sub scope.names [] (fun y d q=>by simp at q) e)
  ·rw [← hY]
   intro p hp
   have hp:p∈(X.pn++pins)++[]:=hp
   rw [List.append_nil] at hp
   exact (hf b hb).2.2.2.2.2 p hp
 obtain ⟨W,⟨m0,w0⟩,turn⟩:=h s.heap.objs.size hfree
 have loop:codeAny (model X.prog X.w) X.A (.compLoop (.ListComp elt [⟨tg,iter,ifs,0⟩] scope pos) 0 (.ref it) (.ref s.heap.objs.size) (compEnvC scope (clFrom X.env.cells scope.names []) s3.heap.objs.size X.env)) (RR (.ref s.heap.objs.size) s3.heap.objs.size) { s3 with heap:=h₁,toks:=s.toks }:=by
  refine comp_loop (fun n s'=>∃ i H',Inv Y [] (σC own ix σ) H' s'∧tn i s'.heap∧(∀ b∈fp,H' b=none)∧W i n H') ?_ m0 ⟨0,_,J0,st3,fun b hb=>(hf3 b hb).1,w0⟩
  rintro n s4 ⟨i,H4,I4,st4,fr4,w4⟩
  rcases turn i n H4 w4 with ⟨stop,qn⟩ | ⟨go,step⟩
  ·have e0:=T.done Y y1 y2 y3 y4 i [] s4 _ H4 (fun _ _=>False) I4 (stat fr4) st4 stop
   rw [y5] at e0
   refine thn e0 fun r s5 ⟨hr,I5⟩=>?_
   subst hr
   have ns5:∃ m,s5.heap.Ns s3.heap.objs.size m:=by
    obtain ⟨m,hm,_⟩:=I5.loc
    rw [hloc] at hm
    exact ⟨m,hm⟩
   exact hR s.heap.objs.size s3.heap.objs.size s3 _ H4 fp s5 rfl eo I3 hf3 (by rw [hY]; exact I5) qn ns5
  ·have e0:=T.item Y y1 y2 y3 y4 i [] s4 _ H4 (fun _ _=>False) I4 (stat fr4) st4 go
   rw [y5] at e0
   refine thn e0 fun r s5 ⟨u,hr,h5⟩=>?_
   subst hr
   refine thn h5 fun _ s6 ⟨x,H6,I6,r6,y6',st6,fr6⟩=>?_
   have I6':=I6.pinned (stat fr6) (T.obj _ _ st6)
   have e1:=hgY _ s6 _ H6 x u _ I6' r6 (step x H6 y6')
   rw [y7,y6,y5,y2,y1] at e1
   refine thn e1 fun _ s7 ⟨σ7,H7,I7,le7,q7⟩=>?_
   have e2:=htY _ s7 σ7 H7 _ I7 q7
   rw [y7,y6,y5,y2,y1] at e2
   refine thn e2 fun b s8 ⟨H8,I8,q8⟩=>?_
   have again:∀ {m':Nat} {H9:Hp} {s9:Shared},Inv Y (([]:List (Addr×Obj))++pinsAt fp s6.heap) σ7 H9 s9→m'<n→W (i+1) m' H9→∃ m,m<n∧∃ i H',Inv Y [] (σC own ix σ) H' s9∧tn i s9.heap∧(∀ b∈fp,H' b=none)∧W i m H':=fun {m' H9 s9} I9 hm w9=>by
    refine ⟨m',hm,i+1,H9,(I9.less le7).unpinned,T.keep _ _ _ st6 fun b hb o e=>(I9.pin (b,o) (List.mem_append_right _ (List.mem_append_right _ (mem_pinsAt hb e)))).1,fun b hb=>?_,w9⟩
    obtain ⟨o,e,d⟩:=T.obj _ _ st6 b hb
    exact (I9.pin (b,o) (List.mem_append_right _ (List.mem_append_right _ (mem_pinsAt hb e)))).2.1
   cases b with
   | false=>
    rw [if_neg (by simp)] at q8 ⊢
    obtain ⟨m',hm,w9⟩:=q8
    exact again I8 hm w9
   | true=>
    rw [if_pos rfl] at q8 ⊢
    have e3:=heY _ s8 σ7 H8 _ I8 q8
    rw [y7,y6,y5,y2,y1] at e3
    refine thn e3 fun v s9 ⟨y,H9,I9,r9,ys,ha,hz,m',hm,w9⟩=>?_
    have e4:=mt_append (X:=Y) _ s9 σ7 H9 (.ref s.heap.objs.size) [y] (.ref s.heap.objs.size) [v] (fun v' H'=>v'=.non∧H'=upd H9 s.heap.objs.size (.lst (ys++[y]))) I9 rfl (.cons r9 .nil) ⟨_,ys,y,rfl,rfl,ha,hz,rfl,rfl⟩
    rw [y7,y5,y2,y1] at e4
    refine thn e4 fun v' s10 ⟨v'',H10,I10,r10,_,eH⟩=>?_
    subst eH
    exact again I10 hm w9
 rw [es]
 exact codeAny_compStart_list loop (T.self X.A 0 _ _ _ st3 loop)
theorem pe_comp (hc:X.calm=true)(ho:X.env.scope=osc)(hN:X.N=N)(hk:compOk osc N own fr ix scope=true)(hi:PI X tg iter wi)
  (hg:InC X own fr scope fun Y=>PG Y tg g) (ht:InC X own fr scope fun Y=>PCs Y ifs tt) (he:InC X own fr scope fun Y=>PE Y elt te) (hs:∀ x,foldedSetIterable iter X.env x=pure x:=by intro _; rfl) :
  PE X (.ListComp elt [⟨tg,iter,ifs,0⟩] scope pos) (tComp own ix wi g tt te):=by
 subst ho hN
 have S:=compOk.of hk
 intro pins s σ H Q I h
 rw [eval_ListComp]
 have hclos:closureFor scope X.env=pure (clFrom X.env.cells scope.names []):=closure_eq fun x hx e=>I.cellAt (S.free x hx e)
 refine wpAny_comprehension_free (use:=none) rfl hs hclos S.kind S.loc (thn (hi pins s σ H _ I h) fun v s1 h1=>thn h1 fun itv s2 h2=>?_)
 obtain ⟨it,fp,tn,J,H2,e,I2,T,st2,f2,q⟩:=h2
 subst e
 refine comp_block (Qf:=fun acc H'=>Q (.ref acc) H') (RR:=fun acc C=>compPost (model X.prog X.w) X.A X.xe none (EP X pins σ Q) acc C) S hc hg ht he I2 T st2 f2 q ?_
 intro acc C s3 H3 H' fp' s' eC _ I3 hf3 J' q' ⟨m,hm⟩
 subst eC
 exact ⟨m,hm,fun h' hs'=>⟨.ref acc,H',comp_gone I3 J' hf3 hs',rfl,q'⟩⟩
theorem ps_setc {i:Nat}{x:Str}{px spos:Pos}(hnd:X.N.Nodup)(hi':X.N[i]? = some x)(hl:X.env.scope.names.lookup x=some .local)(hc:X.calm=true)(ho:X.env.scope=osc)(hN:X.N=N)(hk:compOk osc N own fr ix scope=true)(hi:PI X tg iter wi)
  (hg:InC X own fr scope fun Y=>PG Y tg g) (ht:InC X own fr scope fun Y=>PCs Y ifs tt) (he:InC X own fr scope fun Y=>PE Y elt te) (hs:∀ x,foldedSetIterable iter X.env x=pure x:=by intro _; rfl)
  (hsw:swapsWith (.ListComp elt [⟨tg,iter,ifs,0⟩] scope pos) (some (.Name x px)) spos.line X.env=pure true:=by rfl) :
  PS X (.Assign [.Name x px] (.ListComp elt [⟨tg,iter,ifs,0⟩] scope pos) spos) (tSetC own ix i wi g tt te):=by
 subst ho hN
 have S:=compOk.of hk
 intro pins s σ H D I h
 rw [exec_Assign_Name_used _ _ _ _ hsw]
 refine wpAny_bind (wpAny_standAt (wpAny_bind ?_))
 show wpAny _ X.A (do let _ ← comprehension (.ListComp elt [⟨tg,iter,ifs,0⟩] scope pos) scope X.env _ (newList []) false (eval iter X.env) (some (assign (.Name x px) X.env))) _ _ s
 have hclos:closureFor scope X.env=pure (clFrom X.env.cells scope.names []):=closure_eq fun x hx e=>I.cellAt (S.free x hx e)
 refine wpAny_bind (wpAny_mono (wpAny_comprehension_free (use:=some (assign (.Name x px) X.env)) (Q:=fun _ s'=>SP X pins D .next s') rfl hs hclos S.kind S.loc (thn (hi pins s σ H _ I h) fun v s1 h1=>thn h1 fun itv s2 h2=>?_)) (fun _ s' hq=>wpAny_pure (wpAny_pure hq)) fun _ _ e=>e)
 obtain ⟨it,fp,tn,J,H2,e,I2,T,st2,f2,q⟩:=h2
 subst e
 refine comp_block (Qf:=fun acc H'=>D.nx (σ.set i (some (.ref acc))) H') (RR:=fun acc C=>compPost (model X.prog X.w) X.A X.xe (some (assign (.Name x px) X.env)) (fun _ s'=>SP X pins D .next s') acc C) S hc hg ht he I2 T st2 f2 q ?_
 intro acc C s3 H3 H' fp' s' eC _ I3 hf3 J' q' ⟨m,hm⟩
 subst eC
 have I':=comp_back I3 J' hf3
 have f:=I3.fpOk (H':=H') (Nat.le_refl _) J'.free
 obtain ⟨oC,es,ep,hoC,hdC,r⟩:=id hm
 have IP:Inv X (pins++[(s3.heap.objs.size,oC)]) σ H' s':=I'.pins_of fun p hp=>by
  rcases List.mem_append.mp hp with z | z
  ·exact I'.pin p (List.mem_append_right _ z)
  ·have e:p=(s3.heap.objs.size,oC):=by simpa using z
   subst e
   exact ⟨hoC,f.1,f.2.1,f.2.2.1,fun v z=>by have z:oC.data=.cell v:=z; rw [hdC] at z; cases z⟩
 show wpAny _ X.A (assign (.Name x px) X.env (.ref acc)) _ _ _
 refine wpAny_assign_Name (store_ok IP hnd hi' (.inl hl) (v:=.ref acc) rfl (fun s'' I''=>?_) (.inr hl))
 have kC:=(I''.pin (s3.heap.objs.size,oC) (List.mem_append_right _ (List.mem_append_right _ (by simp)))).1
 refine ⟨m,⟨oC,es,ep,kC,hdC,r⟩,fun h' hs'=>?_⟩
 have I5:Inv X pins (σ.set i (some (.ref acc))) H' s'':=I''.unpinned
 exact ⟨_,H',I5.turned (t':=s''.toks) (it:=s3.heap.objs.size) (fun b o hb e=>hs'.extBut b o hb e) f.1 f.2.1 f.2.2.2.1 f.2.2.2.2.1 f.2.2.2.2.2,q'⟩
theorem pg_cn (i:Nat){x:Str}{p:Pos}{C:Addr}{s:Shared}{H:Hp}{pins:List (Addr×Obj)}{fp:List Addr}(hnd:(own++fr).Nodup)(hi:(own++fr)[i]? = some x)(hx:x∈own)(hl:scope.names.lookup x=some .local):PG (cxComp X own fr scope C s H pins fp) (.Name x p) (gName i):=
 pg_name (X:=cxComp X own fr scope C s H pins fp) hnd hi (.inl (lookup_relabel_local hl)) (.inl (decide_eq_true hx))
end
end L2
namespace L2
open PySem PySem.Spec PyProof.Rows
theorem atI_get' {α:Type}{l:List α}{i:Int}(h0:0≤i):atI l i=l[i.toNat]?:=by
 unfold atI ixN
 rw [if_pos h0]
 by_cases h:i<l.length
 ·rw [if_pos h]; rfl
 ·rw [if_neg h]
  have:l.length≤i.toNat:=by omega
  simp [List.getElem?_eq_none this]
theorem atI_0 {α:Type}{a:α}{l:List α}:atI (a::l) 0=some a:=by rw [atI_get' (by decide)]; rfl
theorem atI_1 {α:Type}{a b:α}{l:List α}:atI (a::b::l) 1=some b:=by rw [atI_get' (by decide)]; rfl
theorem atI_2 {α:Type}{a b c:α}{l:List α}:atI (a::b::c::l) 2=some c:=by rw [atI_get' (by decide)]; rfl
theorem atI_3 {α:Type}{a b c d:α}{l:List α}:atI (a::b::c::d::l) 3=some d:=by rw [atI_get' (by decide)]; rfl
theorem seqAt_lst {H:Hp}{a:Addr}{xs:List V}(h:H a=some (.lst xs)):seqAt H a=some xs:=by unfold seqAt; rw [h]
theorem seqAt_tup {H:Hp}{a:Addr}{xs:List V}(h:H a=some (.tup xs)):seqAt H a=some xs:=by unfold seqAt; rw [h]
end L2
namespace L2
open PySem PySem.Spec PyProof.Rows
def allF (f:V→V→Option Bool):List V→List V→Option Bool
 | x::xs,y::ys=>match f x y,allF f xs ys with
  | some a,some b=>some (a && b)
  | _,_=>none
 | _,_=>some true
def eAt (f:V→V→Option Bool)(xs ys:List V)(j:Nat):Bool:=match xs[j]?,ys[j]? with
 | some x,some y=>(f x y).getD false
 | _,_=>true
theorem allF_spec {f:V→V→Option Bool}:∀ {xs ys:List V} {b:Bool},allF f xs ys=some b →
  (∀ (j:Nat) x y,xs[j]? = some x→ys[j]? = some y→f x y=some (eAt f xs ys j))∧b=(List.range (min xs.length ys.length)).all (eAt f xs ys)
 | [],ys,b,h=>by
  cases h
  exact ⟨fun j x y e _=>by simp at e,by simp⟩
 | x::xs,[],b,h=>by
  cases h
  exact ⟨fun j x y _ e=>by simp at e,by simp⟩
 | x::xs,y::ys,b,h=>by
  unfold allF at h
  cases e1:f x y with
  | none=>rw [e1] at h; cases h
  | some a=>
   cases e2:allF f xs ys with
   | none=>rw [e1,e2] at h; cases h
   | some c=>
    rw [e1,e2] at h
    cases h
    obtain ⟨h1,h2⟩:=allF_spec e2
    refine ⟨fun j x' y' ex ey=>?_,?_⟩
    ·cases j with
     | zero=>
      simp at ex ey
      subst ex ey
      simp [eAt,e1]
     | succ j=>
      have:=h1 j x' y' (by simpa using ex) (by simpa using ey)
      rw [this]
      simp [eAt]
    ·have em:min (x::xs).length (y::ys).length=min xs.length ys.length+1:=by simp
     rw [em,List.range_succ_eq_map,List.all_cons,List.all_map,h2]
     have e0:eAt f (x::xs) (y::ys) 0=a:=by simp [eAt,e1]
     have e3:(eAt f (x::xs) (y::ys) ∘ Nat.succ)=eAt f xs ys:=by
      funext j
      simp [eAt]
     rw [e0,e3]
def eqF (H:Hp):Nat→V→V→Option Bool
 | 0,x,y=>if (flatV x && flatV y)=true then some (eqV x y) else none
 | n+1,x,y=>if (flatV x && flatV y)=true then some (eqV x y) else match x,y with
  | .ref a,.ref b=>(match lstAt H a,lstAt H b with
   | some xs,some ys=>if xs.length=ys.length then allF (eqF H n) xs ys else some false
   | none,none=>(match tupAt H a,tupAt H b with
    | some xs,some ys=>(allF (eqF H n) xs ys).map (· && decide (xs.length=ys.length))
    | _,_=>none)
   | some _,none=>if (tupAt H b).isSome=true then some false else none
   | none,some _=>if (tupAt H a).isSome=true then some false else none)
  | .ref a,y=>if ((seqAt H a).isSome && flatV y)=true then some false else none
  | x,.ref b=>if ((seqAt H b).isSome && flatV x)=true then some false else none
  | _,_=>none
theorem eqV_self {x:V}(h:flatV x=true):eqV x x=true:=by
 cases x <;> first | rfl | (simp [eqV]; done) | (simp [flatV] at h)
theorem allF_self {f:V→V→Option Bool}(hf:∀ x b,f x x=some b→b=true):∀ {xs:List V} {b:Bool},allF f xs xs=some b→b=true
 | [],b,h=>by cases h; rfl
 | x::xs,b,h=>by
  unfold allF at h
  cases e1:f x x with
  | none=>rw [e1] at h; cases h
  | some a=>
   cases e2:allF f xs xs with
   | none=>rw [e1,e2] at h; cases h
   | some c=>
    rw [e1,e2] at h
    cases h
    rw [hf x a e1,allF_self hf e2]
    rfl
theorem eqF_self {H:Hp}:∀ {n:Nat} {x:V} {b:Bool},eqF H n x x=some b→b=true
 | 0,x,b,h=>by
  unfold eqF at h
  split at h
  ·rename_i hf
   cases h
   rw [Bool.and_self] at hf
   exact eqV_self hf
  ·cases h
 | n+1,x,b,h=>by
  unfold eqF at h
  split at h
  ·rename_i hf
   cases h
   rw [Bool.and_self] at hf
   exact eqV_self hf
  ·rename_i hf
   cases x with
   | ref a=>
    simp only at h
    cases e1:lstAt H a with
    | some xs=>
     rw [e1] at h
     simp only [if_true] at h
     exact allF_self (fun x b h=>eqF_self h) h
    | none=>
     rw [e1] at h
     simp only at h
     cases e2:tupAt H a with
     | some xs=>
      rw [e2] at h
      simp only [decide_true,Bool.and_true] at h
      cases e3:allF (eqF H n) xs xs with
      | none=>rw [e3] at h; cases h
      | some c=>
       rw [e3] at h
       cases h
       exact allF_self (fun x b h=>eqF_self h) e3
     | none=>
      rw [e2] at h
      cases h
   | _=>first | (simp [flatV] at hf; done) | (simp only at h; cases h)
theorem rcAt_V {A:Around}{s:Shared}{y x:V}{u v:Value}(ry:RelV y u)(rx:RelV x v)(fy:flatV y=true)(fx:flatV x=true):SeqAt.RcAt A s u v (eqV y x):=by
 cases y with
 | non=>
  cases ry
  cases x with
  | non=>cases rx; exact SeqAt.RcAt.none_none
  | bl b=>cases rx; exact SeqAt.RcAt.none_bool b
  | int b=>obtain ⟨t,rfl⟩:=rx; exact SeqAt.RcAt.none_int b t
  | str b=>obtain ⟨t,rfl⟩:=rx; exact SeqAt.RcAt.none_str b t
  | _=>exact absurd (show false=true from fx) Bool.false_ne_true
 | bl a=>
  cases ry
  cases x with
  | non=>cases rx; exact SeqAt.RcAt.bool_none a
  | bl b=>cases rx; exact SeqAt.RcAt.bool_bool a b
  | int b=>obtain ⟨t,rfl⟩:=rx; exact SeqAt.RcAt.bool_int a b t
  | str b=>obtain ⟨t,rfl⟩:=rx; exact SeqAt.RcAt.bool_str a b t
  | _=>exact absurd (show false=true from fx) Bool.false_ne_true
 | int a=>
  obtain ⟨t',rfl⟩:=ry
  cases x with
  | non=>cases rx; exact SeqAt.RcAt.int_none a t'
  | bl b=>cases rx; exact SeqAt.RcAt.int_bool a t' b
  | int b=>obtain ⟨t,rfl⟩:=rx; exact SeqAt.RcAt.int_int a t' b t
  | str b=>obtain ⟨t,rfl⟩:=rx; exact SeqAt.RcAt.int_str a t' b t
  | _=>exact absurd (show false=true from fx) Bool.false_ne_true
 | str a=>
  obtain ⟨t',rfl⟩:=ry
  cases x with
  | non=>cases rx; exact SeqAt.RcAt.str_none a t'
  | bl b=>cases rx; exact SeqAt.RcAt.str_bool a t' b
  | int b=>obtain ⟨t,rfl⟩:=rx; exact SeqAt.RcAt.str_int a t' b t
  | str b=>obtain ⟨t,rfl⟩:=rx; exact SeqAt.RcAt.str_str a t' b t
  | _=>exact absurd (show false=true from fx) Bool.false_ne_true
 | _=>exact absurd (show false=true from fy) Bool.false_ne_true
theorem rnAt_V {A:Around}{s:Shared}{y x:V}{u v:Value}(ry:RelV y u)(rx:RelV x v)(fy:flatV y=true)(fx:flatV x=true):SeqAt.RcNeAt A s u v (!eqV y x):=by
 cases y with
 | non=>
  cases ry
  cases x with
  | non=>cases rx; exact SeqAt.RcNeAt.none_none
  | bl b=>cases rx; exact SeqAt.RcNeAt.none_bool b
  | int b=>obtain ⟨t,rfl⟩:=rx; exact SeqAt.RcNeAt.none_int b t
  | str b=>obtain ⟨t,rfl⟩:=rx; exact SeqAt.RcNeAt.none_str b t
  | _=>exact absurd (show false=true from fx) Bool.false_ne_true
 | bl a=>
  cases ry
  cases x with
  | non=>cases rx; exact SeqAt.RcNeAt.bool_none a
  | bl b=>cases rx; exact SeqAt.RcNeAt.bool_bool a b
  | int b=>obtain ⟨t,rfl⟩:=rx; exact SeqAt.RcNeAt.bool_int a b t
  | str b=>obtain ⟨t,rfl⟩:=rx; exact SeqAt.RcNeAt.bool_str a b t
  | _=>exact absurd (show false=true from fx) Bool.false_ne_true
 | int a=>
  obtain ⟨t',rfl⟩:=ry
  cases x with
  | non=>cases rx; exact SeqAt.RcNeAt.int_none a t'
  | bl b=>cases rx; exact SeqAt.RcNeAt.int_bool a t' b
  | int b=>obtain ⟨t,rfl⟩:=rx; exact SeqAt.RcNeAt.int_int a t' b t
  | str b=>obtain ⟨t,rfl⟩:=rx; exact SeqAt.RcNeAt.int_str a t' b t
  | _=>exact absurd (show false=true from fx) Bool.false_ne_true
 | str a=>
  obtain ⟨t',rfl⟩:=ry
  cases x with
  | non=>cases rx; exact SeqAt.RcNeAt.str_none a t'
  | bl b=>cases rx; exact SeqAt.RcNeAt.str_bool a t' b
  | int b=>obtain ⟨t,rfl⟩:=rx; exact SeqAt.RcNeAt.str_int a t' b t
  | str b=>obtain ⟨t,rfl⟩:=rx; exact SeqAt.RcNeAt.str_str a t' b t
  | _=>exact absurd (show false=true from fx) Bool.false_ne_true
 | _=>exact absurd (show false=true from fy) Bool.false_ne_true
structure EqOk (A:Around)(s:Shared)(u v:Value)(b:Bool):Prop where
 rc:SeqAt.RcAt A s u v b
 rn:SeqAt.RcNeAt A s u v (!b)
 eq:SeqAt.EqAt A s u v b
theorem EqOk.flat {A:Around}{s:Shared}{y x:V}{u v:Value}(ry:RelV y u)(rx:RelV x v)(fy:flatV y=true)(fx:flatV x=true):EqOk A s u v (eqV y x):=⟨rcAt_V ry rx fy fx,rnAt_V ry rx fy fx,eqAt_V ry rx fy fx⟩
theorem EqOk.list_flat {A:Around}{s:Shared}{l:Addr}{items:Array Value}{x:V}{v:Value}(hl:s.heap.IsList l items)(hu:A.units<cLine)(rx:RelV x v)(fx:flatV x=true):EqOk A s (.ref l) v false:=by
 cases x with
 | non=>cases rx; exact ⟨SeqAt.RcAt.list_none hl hu,SeqAt.RcNeAt.list_none hl hu,SeqAt.EqAt.list_none hl hu⟩
 | bl b=>cases rx; exact ⟨SeqAt.RcAt.list_bool b hl hu,SeqAt.RcNeAt.list_bool b hl hu,SeqAt.EqAt.list_bool b hl hu⟩
 | int b=>obtain ⟨t,rfl⟩:=rx; exact ⟨SeqAt.RcAt.list_int b t hl hu,SeqAt.RcNeAt.list_int b t hl hu,SeqAt.EqAt.list_int b t hl hu⟩
 | str b=>obtain ⟨t,rfl⟩:=rx; exact ⟨SeqAt.RcAt.list_str b t hl hu,SeqAt.RcNeAt.list_str b t hl hu,SeqAt.EqAt.list_str b t hl hu⟩
 | _=>exact absurd (show false=true from fx) Bool.false_ne_true
theorem EqOk.flat_list {A:Around}{s:Shared}{l:Addr}{items:Array Value}{x:V}{v:Value}(hl:s.heap.IsList l items)(hu:A.units<cLine)(rx:RelV x v)(fx:flatV x=true):EqOk A s v (.ref l) false:=by
 cases x with
 | non=>cases rx; exact ⟨SeqAt.RcAt.none_list hl hu,SeqAt.RcNeAt.none_list hl hu,SeqAt.EqAt.none_list hl hu⟩
 | bl b=>cases rx; exact ⟨SeqAt.RcAt.bool_list b hl hu,SeqAt.RcNeAt.bool_list b hl hu,SeqAt.EqAt.bool_list b hl hu⟩
 | int b=>obtain ⟨t,rfl⟩:=rx; exact ⟨SeqAt.RcAt.int_list b t hl hu,SeqAt.RcNeAt.int_list b t hl hu,SeqAt.EqAt.int_list b t hl hu⟩
 | str b=>obtain ⟨t,rfl⟩:=rx; exact ⟨SeqAt.RcAt.str_list b t hl hu,SeqAt.RcNeAt.str_list b t hl hu,SeqAt.EqAt.str_list b t hl hu⟩
 | _=>exact absurd (show false=true from fx) Bool.false_ne_true
theorem EqOk.tuple_flat {A:Around}{s:Shared}{l:Addr}{items:Array Value}{x:V}{v:Value}(hl:s.heap.IsTuple l items)(hu:A.units<cLine)(rx:RelV x v)(fx:flatV x=true):EqOk A s (.ref l) v false:=by
 cases x with
 | non=>cases rx; exact ⟨SeqAt.RcAt.tuple_none hl hu,SeqAt.RcNeAt.tuple_none hl hu,SeqAt.EqAt.tuple_none hl hu⟩
 | bl b=>cases rx; exact ⟨SeqAt.RcAt.tuple_bool b hl hu,SeqAt.RcNeAt.tuple_bool b hl hu,SeqAt.EqAt.tuple_bool b hl hu⟩
 | int b=>obtain ⟨t,rfl⟩:=rx; exact ⟨SeqAt.RcAt.tuple_int b t hl hu,SeqAt.RcNeAt.tuple_int b t hl hu,SeqAt.EqAt.tuple_int b t hl hu⟩
 | str b=>obtain ⟨t,rfl⟩:=rx; exact ⟨SeqAt.RcAt.tuple_str b t hl hu,SeqAt.RcNeAt.tuple_str b t hl hu,SeqAt.EqAt.tuple_str b t hl hu⟩
 | _=>exact absurd (show false=true from fx) Bool.false_ne_true
theorem EqOk.flat_tuple {A:Around}{s:Shared}{l:Addr}{items:Array Value}{x:V}{v:Value}(hl:s.heap.IsTuple l items)(hu:A.units<cLine)(rx:RelV x v)(fx:flatV x=true):EqOk A s v (.ref l) false:=by
 cases x with
 | non=>cases rx; exact ⟨SeqAt.RcAt.none_tuple hl hu,SeqAt.RcNeAt.none_tuple hl hu,SeqAt.EqAt.none_tuple hl hu⟩
 | bl b=>cases rx; exact ⟨SeqAt.RcAt.bool_tuple b hl hu,SeqAt.RcNeAt.bool_tuple b hl hu,SeqAt.EqAt.bool_tuple b hl hu⟩
 | int b=>obtain ⟨t,rfl⟩:=rx; exact ⟨SeqAt.RcAt.int_tuple b t hl hu,SeqAt.RcNeAt.int_tuple b t hl hu,SeqAt.EqAt.int_tuple b t hl hu⟩
 | str b=>obtain ⟨t,rfl⟩:=rx; exact ⟨SeqAt.RcAt.str_tuple b t hl hu,SeqAt.RcNeAt.str_tuple b t hl hu,SeqAt.EqAt.str_tuple b t hl hu⟩
 | _=>exact absurd (show false=true from fx) Bool.false_ne_true
theorem IsTup.isTuple {h:Heap}{a:Addr}{items:Array Value}(x:IsTup h a items):h.IsTuple a items:=let ⟨o,ho,hc,n,hd⟩:=x; ⟨o,ho,hc,n,hd⟩
section
variable {X:Cx} {pins:List (Addr×Obj)} {σ:St} {H:Hp} {s:Shared}
theorem Vals.at {xs:List V}{us:List Value}(r:Vals xs us){j:Nat}(h:j<us.toArray.size):∃ x,xs[j]? = some x∧RelV x us.toArray[j]:=by
 have hl:=r.length
 have hj:j<us.length:=by simpa using h
 have hx:j<xs.length:=by omega
 obtain ⟨u,e,q⟩:=r.get (i:=j) (x:=xs[j]) (by simp [hx])
 refine ⟨xs[j],by simp [hx],?_⟩
 have:us.toArray[j]=u:=by
  rw [List.getElem_toArray]
  rw [List.getElem?_eq_getElem hj] at e
  exact Option.some.inj e
 rw [this]
 exact q
theorem eqF_ok (I:Inv X pins σ H s):∀ (n:Nat) (A:Around) {x y:V} {u v:Value} {b:Bool},A.units+n<cLine→eqF H n x y=some b→RelV x u→RelV y v→EqOk A s u v b
 | 0,A,x,y,u,v,b,hu,h,rx,ry=>by
  unfold eqF at h
  split at h
  ·rename_i hf
   cases h
   rw [Bool.and_eq_true] at hf
   exact .flat rx ry hf.1 hf.2
  ·cases h
 | n+1,A,x,y,u,v,b,hu,h,rx,ry=>by
  have ih:=fun {x y u v b}=>eqF_ok I n A.in1 (x:=x) (y:=y) (u:=u) (v:=v) (b:=b) (by show A.units+1+n<cLine; omega)
  have hu0:A.units<cLine:=by omega
  have h0:=h
  unfold eqF at h
  split at h
  ·rename_i hf
   cases h
   rw [Bool.and_eq_true] at hf
   exact .flat rx ry hf.1 hf.2
  ·split at h
   ·rename_i p q _
    cases rx
    cases ry
    have fin:SeqAt.RcAt A s (.ref p) (.ref q) b→SeqAt.RcNeAt A s (.ref p) (.ref q) (!b)→EqOk A s (.ref p) (.ref q) b:=fun h1 h2=>by
     refine ⟨h1,h2,?_⟩
     by_cases e:p=q
     ·subst e
      rw [eqF_self h0]
      exact SeqAt.EqAt.same _
     ·exact SeqAt.EqAt.of_refs e h1
    split at h
    ·rename_i xs ys e1 e2
     obtain ⟨its,r1,p1,z1⟩:=I.list (lstAt_sq (K:=X.K) e1)
     obtain ⟨its2,r2,p2,z2⟩:=I.list (lstAt_sq (K:=X.K) e2)
     have l1:=r1.length
     have l2:=r2.length
     split at h
     ·rename_i el
      obtain ⟨s1,s2⟩:=allF_spec h
      have hsz:its.toArray.size=its2.toArray.size:=by simp; omega
      have hm:min xs.length ys.length=its.toArray.size:=by simp; omega
      have he:∀ j (h1:j<its.toArray.size) (h2:j<its2.toArray.size),SeqAt.EqAt A.in1 s its.toArray[j] its2.toArray[j] (eAt (eqF H n) xs ys j):=fun j h1 h2=>by
       obtain ⟨x',ex,qx⟩:=r1.at h1
       obtain ⟨y',ey,qy⟩:=r2.at h2
       exact (ih (s1 j x' y' ex ey) qx qy).eq
      rw [hm] at s2
      subst s2
      exact fin (SeqAt.RcAt.lists p1.isList p2.isList hsz hu0 he) (SeqAt.RcNeAt.lists p1.isList p2.isList hsz hu0 he)
     ·rename_i el
      cases h
      have hsz:(its.toArray.size != its2.toArray.size)=true:=by
       simp only [List.size_toArray,bne_iff_ne,ne_eq]; omega
      exact fin (SeqAt.RcAt.lists_lengths p1.isList p2.isList hsz hu0) (SeqAt.RcNeAt.lists_lengths p1.isList p2.isList hsz hu0)
    ·rename_i e1 e2
     split at h
     ·rename_i xs ys e3 e4
      obtain ⟨its,r1,p1,z1⟩:=I.tuple (tupAt_sq (K:=X.K) e3)
      obtain ⟨its2,r2,p2,z2⟩:=I.tuple (tupAt_sq (K:=X.K) e4)
      have l1:=r1.length
      have l2:=r2.length
      cases ea:allF (eqF H n) xs ys with
      | none=>rw [ea] at h; cases h
      | some c=>
       rw [ea] at h
       cases h
       obtain ⟨s1,s2⟩:=allF_spec ea
       have hm:min xs.length ys.length=min its.toArray.size its2.toArray.size:=by simp; omega
       have hd:decide (xs.length=ys.length)=(its.toArray.size == its2.toArray.size):=by
        rw [Bool.eq_iff_iff]; simp; omega
       have he:∀ j (h1:j<its.toArray.size) (h2:j<its2.toArray.size),SeqAt.EqAt A.in1 s its.toArray[j] its2.toArray[j] (eAt (eqF H n) xs ys j):=fun j h1 h2=>by
        obtain ⟨x',ex,qx⟩:=r1.at h1
        obtain ⟨y',ey,qy⟩:=r2.at h2
        exact (ih (s1 j x' y' ex ey) qx qy).eq
       rw [hm] at s2
       rw [s2,hd] at fin ⊢
       exact fin (SeqAt.RcAt.tuples (IsTup.isTuple p1) (IsTup.isTuple p2) hu0 he) (SeqAt.RcNeAt.tuples (IsTup.isTuple p1) (IsTup.isTuple p2) hu0 he)
     ·cases h
    ·rename_i xs e1 e2
     split at h
     ·rename_i e3
      cases h
      obtain ⟨ys,e4⟩:=Option.isSome_iff_exists.mp e3
      obtain ⟨its,r1,p1,z1⟩:=I.list (lstAt_sq (K:=X.K) e1)
      obtain ⟨its2,r2,p2,z2⟩:=I.tuple (tupAt_sq (K:=X.K) e4)
      exact fin (SeqAt.RcAt.list_tuple p1.isList (IsTup.isTuple p2) hu0) (SeqAt.RcNeAt.list_tuple p1.isList (IsTup.isTuple p2) hu0)
     ·cases h
    ·rename_i ys e1 e2
     split at h
     ·rename_i e3
      cases h
      obtain ⟨xs,e4⟩:=Option.isSome_iff_exists.mp e3
      obtain ⟨its,r1,p1,z1⟩:=I.tuple (tupAt_sq (K:=X.K) e4)
      obtain ⟨its2,r2,p2,z2⟩:=I.list (lstAt_sq (K:=X.K) e2)
      exact fin (SeqAt.RcAt.tuple_list (IsTup.isTuple p1) p2.isList hu0) (SeqAt.RcNeAt.tuple_list (IsTup.isTuple p1) p2.isList hu0)
     ·cases h
   ·rename_i p _ _
    cases rx
    split at h
    ·rename_i e1
     cases h
     rw [Bool.and_eq_true] at e1
     obtain ⟨xs,e2⟩:=Option.isSome_iff_exists.mp e1.1
     rcases seqAt_or e2 with e3 | e3
     ·obtain ⟨its,r1,p1,z1⟩:=I.list (lstAt_sq (K:=X.K) e3)
      exact .list_flat p1.isList hu0 ry e1.2
     ·obtain ⟨its,r1,p1,z1⟩:=I.tuple (tupAt_sq (K:=X.K) e3)
      exact .tuple_flat (IsTup.isTuple p1) hu0 ry e1.2
    ·cases h
   ·rename_i p _ _
    cases ry
    split at h
    ·rename_i e1
     cases h
     rw [Bool.and_eq_true] at e1
     obtain ⟨xs,e2⟩:=Option.isSome_iff_exists.mp e1.1
     rcases seqAt_or e2 with e3 | e3
     ·obtain ⟨its,r1,p1,z1⟩:=I.list (lstAt_sq (K:=X.K) e3)
      exact .flat_list p1.isList hu0 rx e1.2
     ·obtain ⟨its,r1,p1,z1⟩:=I.tuple (tupAt_sq (K:=X.K) e3)
      exact .flat_tuple (IsTup.isTuple p1) hu0 rx e1.2
    ·cases h
   ·cases h
def rEqF:R2:=fun x y H Q=>need (eqF H 4 x y) fun b=>Q (.bl b) H
def rNeF:R2:=fun x y H Q=>need (eqF H 4 x y) fun b=>Q (.bl (!b)) H
theorem op_eqF {k:Nat}(hr:Room k X.A):OpR X (compareOp .Eq) rEqF:=by
 intro pins s σ H x y v u Q I rx ry h
 obtain ⟨b,e,q⟩:=need_ex h
 refine PySem.W.cmp_ofEq ((eqF_ok I 4 X.A ?_ e rx ry).rc _ _ _ _ ⟨.bl b,H,I,rfl,q⟩)
 have:=hr.un
 omega
theorem op_neF {k:Nat}(hr:Room k X.A):OpR X (compareOp .NotEq) rNeF:=by
 intro pins s σ H x y v u Q I rx ry h
 obtain ⟨b,e,q⟩:=need_ex h
 refine PySem.W.cmp_ofNotEq ((eqF_ok I 4 X.A ?_ e rx ry).rn _ _ _ _ ⟨.bl (!b),H,I,rfl,q⟩)
 have:=hr.un
 omega
end
end L2
namespace L2
open PySem PySem.Spec PyProof.Rows
def strsOf:List V→Option (List Str)
 | []=>some []
 | .str x::r=>(strsOf r).map (x :: ·)
 | _::_=>none
def intsOf:List V→Option (List Int)
 | []=>some []
 | .int x::r=>(intsOf r).map (x :: ·)
 | _::_=>none
def bolsOf:List V→Option (List Bool)
 | []=>some []
 | .bl x::r=>(bolsOf r).map (x :: ·)
 | _::_=>none
theorem strsOf_eq:∀ {xs:List V} {ts:List Str},strsOf xs=some ts→xs=ts.map V.str
 | [],ts,h=>by cases h; rfl
 | x::r,ts,h=>by
  cases x with
  | str y=>
   unfold strsOf at h
   cases e:strsOf r with
   | none=>rw [e] at h; cases h
   | some t=>rw [e] at h; cases h; rw [strsOf_eq e]; rfl
  | _=>cases h
theorem intsOf_eq:∀ {xs:List V} {ts:List Int},intsOf xs=some ts→xs=ts.map V.int
 | [],ts,h=>by cases h; rfl
 | x::r,ts,h=>by
  cases x with
  | int y=>
   unfold intsOf at h
   cases e:intsOf r with
   | none=>rw [e] at h; cases h
   | some t=>rw [e] at h; cases h; rw [intsOf_eq e]; rfl
  | _=>cases h
theorem bolsOf_eq:∀ {xs:List V} {ts:List Bool},bolsOf xs=some ts→xs=ts.map V.bl
 | [],ts,h=>by cases h; rfl
 | x::r,ts,h=>by
  cases x with
  | bl y=>
   unfold bolsOf at h
   cases e:bolsOf r with
   | none=>rw [e] at h; cases h
   | some t=>rw [e] at h; cases h; rw [bolsOf_eq e]; rfl
  | _=>cases h
theorem vals_strs:∀ {ts:List Str} {us:List Value},Vals (ts.map V.str) us→∃ l:List (Str×Tok),us=strValues l∧l.map (·.1)=ts
 | [],us,h=>by cases h; exact ⟨[],rfl,rfl⟩
 | t::ts,us,h=>by
  cases h with
  | cons r h=>
   obtain ⟨tk,rfl⟩:=r
   obtain ⟨l,rfl,rfl⟩:=vals_strs h
   exact ⟨(t,tk)::l,rfl,rfl⟩
section
variable {X:Cx} {o e:Expr} {to te:TE} {t:TA} {apos cpos:Pos}
def rJoin:V→List V→Hp→VK→Prop:=fun x vs H Q=>match x,vs with
 | .str sep,[.ref p]=>need (lstAt H p) fun xs=>need (strsOf xs) fun ts=>JoinOk sep ts=true∧Q (.str (Txt.join sep ts)) H
 | _,_=>False
theorem mt_join:MtM X "str.join" rJoin:=by
 intro pins s σ H x vs v us Q I rx rv h
 unfold rJoin at h
 split at h
 ·obtain ⟨xs,e1,h⟩:=need_ex h
  obtain ⟨ts,e2,hk,q⟩:=need_ex h
  obtain ⟨tk,rfl⟩:=rx
  obtain ⟨u,rfl,ru⟩:=rv.one
  cases ru
  obtain ⟨its,r,pl,z⟩:=I.list (lstAt_sq (K:=X.K) e1)
  rw [strsOf_eq e2] at r
  obtain ⟨l,rfl,el⟩:=vals_strs r
  exact SC.join pl.isList el hk fun t' k=>⟨.str _,H,I.tok k,⟨t',rfl⟩,q⟩
 ·exact h.elim
def sumV:List V→Hp→VK→Prop:=fun vs H Q=>match vs with
 | [.ref p]=>need (lstAt H p) fun xs=>need (intsOf xs) fun ns=>Q (.int ns.sum) H
 | _=>False
theorem call_sum (hc:X.calm=true):CallR X (.builtin "sum") sumV:=by
 intro pins s σ H xs us Q I rv h
 unfold sumV at h
 split at h
 ·obtain ⟨xs,e1,h⟩:=need_ex h
  obtain ⟨ns,e2,q⟩:=need_ex h
  obtain ⟨u,rfl,ru⟩:=rv.one
  cases ru
  obtain ⟨its,r,pl,z⟩:=I.list (lstAt_sq (K:=X.K) e1)
  rw [intsOf_eq e2] at r
  have hi:=intsAre_of r
  obtain ⟨ps,hx⟩:=hi.allInts.items
  have hn:numsOf its.toArray.toList=ns:=by rw [show its.toArray.toList=its from rfl,hi.numsOf]
  have hl:=pl.isList
  rw [hx] at hl hn
  rw [nums_intItems] at hn
  refine sum_intListG (I.ok.hd hc) hl fun h' tk t' hk=>?_
  rw [preSum_eq,List.take_of_length_le (by simp),hn]
  exact ⟨.int ns.sum,H,I.kept (t':=tk) hk,⟨_,rfl⟩,q⟩
 ·exact h.elim
def slS:V→Option Int→Option Int→Hp→VK→Prop:=fun x lo hi H Q=>match x with
 | .str z=>z.length≤sizeLine∧Q (.str (Txt.slice z lo hi)) H
 | _=>False
theorem sl_str:SlR X slS:=by
 intro pins s σ H x v vl vu lo hi sl Q I rx hs pl pu h
 unfold slS at h
 split at h
 ·rename_i z
  obtain ⟨hz,q⟩:=h
  obtain ⟨tk,rfl⟩:=rx
  refine ⟨"str",_,F.slot_str_getitem.lookup,typeIs_str _ _ _,?_⟩
  have fin:∀ (l u:Option (Int×Tok)),vl=partValue l→vu=partValue u→lo=l.map (·.1)→hi=u.map (·.1)→wpAny (model X.prog X.w) X.A (getItem (.str z tk) (.ref sl)) (EP X pins σ Q) X.xe s:=fun l u e1 e2 e3 e4=>by
   subst e1 e2 e3 e4
   obtain ⟨o,ho,hc,hd⟩:=hs
   exact wpAny_getItem_str_slice (l:=l) (u:=u) (st:=none) ⟨o,ho,hc,hd⟩ rfl
    (post_val_or_str ⟨Nat.le_trans (Txt.slice_le z _ _) hz,fun t' k=>⟨.str _,H,I.tok k,⟨t',rfl⟩,q⟩⟩)
  cases pl with
  | none=>cases pu with
   | none=>exact fin none none rfl rfl rfl rfl
   | int j t=>exact fin none (some (j,t)) rfl rfl rfl rfl
  | int i t'=>cases pu with
   | none=>exact fin (some (i,t')) none rfl rfl rfl rfl
   | int j t=>exact fin (some (i,t')) (some (j,t)) rfl rfl rfl rfl
 ·exact h.elim
end
end L2
namespace L2
theorem eqF_flat4 {H:Hp}{n:Nat}{x y:V}(h:(flatV x && flatV y)=true):eqF H n x y=some (eqV x y):=by
 cases n <;> (unfold eqF; rw [if_pos h])
end L2
namespace L2
open PySem PySem.Spec PyProof.Rows
section
variable {X:Cx} {a:Expr} {ta:TE} {pos:Pos}
def truF (H:Hp):V→(Bool→Prop)→Prop
 | .non,k=>k false
 | .bl b,k=>k b
 | .int i,k=>k (decide (i≠0))
 | .str y,k=>y.length≤sizeLine∧k (decide (y.length≠0))
 | .ref p,k=>(match H p with
  | some (.dK kvs)=>k (!kvs.isEmpty)
  | _=>need (seqAt H p) fun xs=>k (!xs.isEmpty))
 | _,_=>False
def tTru (ta:TE):TT:=fun σ H Q=>ta σ H fun x H'=>truF H' x fun k=>Q k H'
theorem truF_ok {K:PySem.W.Frag}{H:Hp}{x:V}{k:Bool→Prop}(h:truF H x k):∃ b,TruV K x H b∧k b:=by
 cases x with
 | non=>exact ⟨false,rfl,h⟩
 | bl b=>exact ⟨b,rfl,h⟩
 | int i=>exact ⟨_,by show decide (i≠0)=(i != 0); rw [Bool.eq_iff_iff]; simp,h⟩
 | str y=>exact ⟨_,⟨h.1,by rw [Bool.eq_iff_iff]; simp⟩,h.2⟩
 | ref p=>
  simp only [truF] at h
  split at h
  ·rename_i kvs e
   exact ⟨_,.inr (.inr ⟨kvs,e,rfl⟩),h⟩
  ·obtain ⟨xs,e,h⟩:=need_ex h
   rcases seqAt_or e with e | e
   ·exact ⟨_,.inl ⟨xs,lstAt_sq e,rfl⟩,h⟩
   ·exact ⟨_,.inr (.inl ⟨xs,tupAt_sq e,rfl⟩),h⟩
 | _=>exact h.elim
theorem pt_tru (ha:PE X a ta)(he:∀ whole,isTrue a X.env whole=(do let v ← whole; standAt a.pos; holding [v] (truthy v))):PT X a (tTru ta):=by
 intro pins s σ H Q I h
 exact isTrue_plain (thn (ha pins s σ H _ I h) fun v s1 ⟨x,H1,I1,r1,q1⟩=>tru_ok pins s1 σ H1 x v Q I1 r1 (truF_ok q1)) (he _)
def gTupV (n:Nat)(t:TGs):TG:=fun v σ H Q=>match v with
 | .ref a=>need (tupAt H a) fun xs=>xs.length=n∧t xs σ H Q
 | _=>False
theorem pg_tupV {es:List Expr}{k:Nat}{t:TGs}{n:Nat}(hc:X.calm=true)(h:PGs X es t)
  (hn:(assignEach es X.env).length=n:=by rfl) (hst:(assignEach es X.env).findIdx? (·.1)=none:=by rfl):PG X (.Tuple es k pos) (gTupV n t):=by
 intro pins s σ H v u Q I r hw
 refine pg_tup hc h hn hst pins s σ H v u Q I r ?_
 unfold gTupV at hw
 split at hw
 ·obtain ⟨xs,e,hl,q⟩:=need_ex hw
  exact ⟨_,xs,rfl,tupAt_sq e,hl,q⟩
 ·exact hw.elim
end
end L2
namespace L2
open PySem PySem.Spec PyProof.Rows
theorem lstAt_upd_l {H:Hp}{p:Addr}{xs:List V}:lstAt (upd H p (.lst xs)) p=some xs:=lstAt_of upd_same
theorem atI_4 {α:Type}{a b c d e:α}{l:List α}:atI (a::b::c::d::e::l) 4=some e:=by rw [atI_get' (by decide)]; rfl
end L2
namespace L2
open PySem PySem.Spec PyProof.Rows
theorem eqF_lists {H:Hp}{n:Nat}{a b:Addr}{xs ys:List V}(h1:lstAt H a=some xs)(h2:lstAt H b=some ys):eqF H (n+1) (.ref a) (.ref b)=if xs.length=ys.length then allF (eqF H n) xs ys else some false:=by
 unfold eqF
 rw [if_neg (by simp [flatV])]
 simp only [h1,h2]
theorem eqF_tuples {H:Hp}{n:Nat}{a b:Addr}{xs ys:List V}(h1:tupAt H a=some xs)(h2:tupAt H b=some ys):eqF H (n+1) (.ref a) (.ref b)=(allF (eqF H n) xs ys).map (· && decide (xs.length=ys.length)):=by
 have l1:lstAt H a=none:=by unfold lstAt; rw [tupAt_eq h1]
 have l2:lstAt H b=none:=by unfold lstAt; rw [tupAt_eq h2]
 unfold eqF
 rw [if_neg (by simp [flatV])]
 simp only [h1,h2,l1,l2]
end L2
namespace L2
open PySem PySem.Spec PyProof.Rows
end L2
namespace L2
open PySem PySem.Spec PyProof.Rows
section
variable {X:Cx} {o e:Expr} {to:TE} {t:TA} {apos cpos:Pos}
def rAppendV:V→List V→Hp→VK→Prop:=fun x vs H Q=>match x,vs with
 | .ref l,[y]=>(match H l with
  | some (.lst xs)=>xs.length<sizeLine∧Q .non (upd H l (.lst (xs++[y])))
  | _=>False)
 | _,_=>False
theorem mt_appendV:MtM X "list.append" rAppendV:=by
 intro pins s σ H x vs v us Q I rx rv h
 unfold rAppendV at h
 split at h
 ·split at h
  ·rename_i xs e
   exact mt_append pins s σ H _ _ v us Q I rx rv ⟨_,xs,_,rfl,rfl,e,h.1,h.2⟩
  ·exact h.elim
 ·exact h.elim
end
end L2
namespace M
open PySem PySem.Spec PyProof.Rows L2
inductive W where
 | non | bl (b:Bool) | int (i:Int) | str (x:Str) | ty (n:String) | cls (c:Str) | ref (n:Nat)
 | tup (ws:List W) | tl (ws:List W) | td (ks:List Key) (ws:List W) | ti (c:Str) (fs:List Str) (ws:List W) | exc (c:Str) (fs:List Str) (ws:List W)
inductive O where
 | lst (ws:List W) | dic (kvs:List (Key×W)) | ins (c:Str) (fs:List (Str×W))
 | fdic (kvs:List (Key×W))
abbrev Mem:=List O
abbrev Sg:=List (Option W)
structure CTb where
 t:Str→Option Addr
 x:Str→Option Addr
 o:Str→Option Addr
def CTb.any (T:CTb)(c:Str):Option Addr:=match T.t c with
 | some C=>some C
 | none=>(match T.x c with
  | some C=>some C
  | none=>T.o c)
instance:CoeFun CTb fun _=>Str→Option Addr:=⟨CTb.t⟩
theorem CTb.any_t {T:CTb}{c:Str}{C:Addr}(h:T c=some C):T.any c=some C:=by unfold CTb.any; rw [show T.t c=some C from h]
abbrev St:=L2.St
def XShape (e C:Addr)(d:Option Addr)(h:Heap):Prop:=∃ o vs,h.get? e=some o∧o.cls=.ref C∧o.data=.fields vs∧o.dict=d
section
variable (T:CTb) (φ:List Addr) (H:Hp)
mutual
def RW:W→V→Prop
 | .non,v=>v=.non
 | .bl b,v=>v=.bl b
 | .int i,v=>v=.int i
 | .str x,v=>v=.str x
 | .ty n,v=>v=.ty n
 | .cls c,v=>∃ C,T.any c=some C∧v=.ref C
 | .ref n,v=>∃ a,φ[n]? = some a∧v=.ref a
 | .tup ws,v=>∃ p vs,v=.ref p∧p ∉ φ∧H p=some (.tup vs)∧RWs ws vs
 | .tl ws,v=>∃ p vs,v=.ref p∧p ∉ φ∧lstAt H p=some vs∧RWs ws vs
 | .td ks ws,v=>∃ p vs,v=.ref p∧p ∉ φ∧H p=some (.dK (ks.zip vs))∧ks.length=ws.length∧RWs ws vs
 | .ti c fs ws,v=>∃ p C dx vs,v=.ref p∧p ∉ φ∧T c=some C∧H p=some (.ins C dx (fs.zip vs))∧fs.length=ws.length∧RWs ws vs
 | .exc c fs ws,v=>∃ e C d vs,v=.ref e∧e ∉ φ∧T.x c=some C∧H e=some (.ext (XShape e C d))∧fs.length=ws.length∧(match d with
  | some da=>da ∉ φ∧H da=some (.xd (fs.zip vs))
  | none=>fs=[])∧RWs ws vs
def RWs:List W→List V→Prop
 | [],vs=>vs=[]
 | w::ws,vs=>∃ v r,vs=v::r∧RW w v∧RWs ws r
end
def RP {κ:Type}:List (κ×W)→List (κ×V)→Prop:=Paired fun p q=>p.1=q.1∧RW T φ H p.2 q.2
def RO:O→HO→Prop
 | .lst ws,o=>∃ vs,o=.lst vs∧RWs T φ H ws vs
 | .dic kvs,o=>∃ kv,o=.dK kv∧RP T φ H kvs kv
 | .ins c fs,o=>∃ C dx fv,o=.ins C dx fv∧T c=some C∧RP T φ H fs fv
 | .fdic kvs,o=>∃ ob kv,o=.frz ob (.dK kv)∧RP T φ H kvs kv
end
structure Step0 (φ:List Addr)(H:Hp)(φ':List Addr)(H':Hp):Prop where
 pre:φ <+: φ'
 keep:∀ a o,H a=some o→a ∉ φ→H' a=some o
 new:∀ a,a∈φ'→a ∉ φ→H a=none
structure Step (φ:List Addr)(H:Hp)(φ':List Addr)(H':Hp):Prop extends Step0 φ H φ' H' where
 fr:∀ a o u,H a=some (.frz o u)→H' a=some (.frz o u)
theorem Step.refl (φ:List Addr)(H:Hp):Step φ H φ H:=⟨⟨List.prefix_refl _,fun _ _ e _=>e,fun _ h n=>absurd h n⟩,fun _ _ _ e=>e⟩
theorem Step0.out {φ φ':List Addr}{H H':Hp}(s:Step0 φ H φ' H'){a:Addr}{o:HO}(e:H a=some o)(n:a ∉ φ):a ∉ φ':=fun z=>by rw [s.new a z n] at e; cases e
theorem Step0.trans {φ φ' φ'':List Addr}{H H' H'':Hp}(s:Step0 φ H φ' H')(t:Step0 φ' H' φ'' H''):Step0 φ H φ'' H'':=
 ⟨s.pre.trans t.pre,fun a o e n=>t.keep a o (s.keep a o e n) (s.out e n),fun a h n=>by
  by_cases z:a∈φ'
  ·exact s.new a z n
  ·cases e:H a with
   | none=>rfl
   | some o=>have:=t.new a h z; rw [s.keep a o e n] at this; cases this⟩
theorem Step.trans {φ φ' φ'':List Addr}{H H' H'':Hp}(s:Step φ H φ' H')(t:Step φ' H' φ'' H''):Step φ H φ'' H'':=⟨s.toStep0.trans t.toStep0,fun a o u e=>t.fr a o u (s.fr a o u e)⟩
theorem Step0.get {φ φ':List Addr}{H H':Hp}(s:Step0 φ H φ' H'){n:Nat}{a:Addr}(e:φ[n]? = some a):φ'[n]? = some a:=by
 obtain ⟨t,rfl⟩:=s.pre
 rw [List.getElem?_append_left (List.getElem?_eq_some_iff.mp e).1]
 exact e
theorem lstAt_cases {H:Hp}{p:Addr}{vs:List V}(h:lstAt H p=some vs):∃ o,H p=some o∧∀ H':Hp,H' p=some o→lstAt H' p=some vs:=by
 rcases lstAt_rd h with q | ⟨o,q⟩
 ·exact ⟨_,q,fun H' e=>lstAt_of e⟩
 ·exact ⟨_,q,fun H' e=>by unfold lstAt; rw [e]⟩
section
variable {T:CTb} {φ φ':List Addr} {H H':Hp}
mutual
theorem RW.step0 (s:Step0 φ H φ' H'):∀ {w:W} {v:V},RW T φ H w v→RW T φ' H' w v
 | .non,v,h=>by unfold RW at h ⊢; exact h
 | .bl b,v,h=>by unfold RW at h ⊢; exact h
 | .int i,v,h=>by unfold RW at h ⊢; exact h
 | .str x,v,h=>by unfold RW at h ⊢; exact h
 | .ty n,v,h=>by unfold RW at h ⊢; exact h
 | .cls c,v,h=>by unfold RW at h ⊢; exact h
 | .ref n,v,h=>by
  unfold RW at h ⊢
  obtain ⟨a,e,q⟩:=h
  exact ⟨a,s.get e,q⟩
 | .tup ws,v,h=>by
  unfold RW at h ⊢
  obtain ⟨p,vs,e,n,q,r⟩:=h
  exact ⟨p,vs,e,s.out q n,s.keep _ _ q n,RWs.step0 s r⟩
 | .tl ws,v,h=>by
  unfold RW at h ⊢
  obtain ⟨p,vs,e,n,q,r⟩:=h
  obtain ⟨o,ho,k⟩:=lstAt_cases q
  exact ⟨p,vs,e,s.out ho n,k _ (s.keep _ _ ho n),RWs.step0 s r⟩
 | .td ks ws,v,h=>by
  unfold RW at h ⊢
  obtain ⟨p,vs,e,n,q,l,r⟩:=h
  exact ⟨p,vs,e,s.out q n,s.keep _ _ q n,l,RWs.step0 s r⟩
 | .ti c fs ws,v,h=>by
  unfold RW at h ⊢
  obtain ⟨p,C,dx,vs,e,n,c,q,l,r⟩:=h
  exact ⟨p,C,dx,vs,e,s.out q n,c,s.keep _ _ q n,l,RWs.step0 s r⟩
 | .exc c fs ws,v,h=>by
  unfold RW at h ⊢
  obtain ⟨e,C,d,vs,q,n,c,x,l,m,r⟩:=h
  refine ⟨e,C,d,vs,q,s.out x n,c,s.keep _ _ x n,l,?_,RWs.step0 s r⟩
  cases d with
  | none=>exact m
  | some da=>exact ⟨s.out m.2 m.1,s.keep _ _ m.2 m.1⟩
theorem RWs.step0 (s:Step0 φ H φ' H'):∀ {ws:List W} {vs:List V},RWs T φ H ws vs→RWs T φ' H' ws vs
 | [],vs,h=>by unfold RWs at h ⊢; exact h
 | w::ws,vs,h=>by
  unfold RWs at h ⊢
  obtain ⟨v,r,e,a,b⟩:=h
  exact ⟨v,r,e,RW.step0 s a,RWs.step0 s b⟩
end
theorem RW.step (s:Step φ H φ' H'){w:W}{v:V}(h:RW T φ H w v):RW T φ' H' w v:=h.step0 s.toStep0
theorem RWs.step (s:Step φ H φ' H'){ws:List W}{vs:List V}(h:RWs T φ H ws vs):RWs T φ' H' ws vs:=h.step0 s.toStep0
theorem paired_step0 {κ:Type}(s:Step0 φ H φ' H'){ps:List (κ×W)}{qs:List (κ×V)}(h:RP T φ H ps qs):RP T φ' H' ps qs:=Paired.mapP h fun _ _ q=>⟨q.1,q.2.step0 s⟩
theorem RO.step0 (s:Step0 φ H φ' H'){o:O}{ho:HO}(h:RO T φ H o ho):RO T φ' H' o ho:=by
 cases o with
 | lst ws=>obtain ⟨vs,e,r⟩:=h; exact ⟨vs,e,r.step0 s⟩
 | dic kvs=>obtain ⟨kv,e,r⟩:=h; exact ⟨kv,e,paired_step0 s r⟩
 | ins c fs=>obtain ⟨C,dx,fv,e,c,r⟩:=h; exact ⟨C,dx,fv,e,c,paired_step0 s r⟩
 | fdic kvs=>obtain ⟨ob,kv,e,r⟩:=h; exact ⟨ob,kv,e,paired_step0 s r⟩
theorem RO.step (s:Step φ H φ' H'){o:O}{ho:HO}(h:RO T φ H o ho):RO T φ' H' o ho:=h.step0 s.toStep0
end
structure RH (T:CTb)(φ:List Addr)(h:Mem)(H:Hp):Prop where
 len:φ.length=h.length
 nd:φ.Nodup
 obj:∀ (n:Nat) o a,h[n]? = some o→φ[n]? = some a→∃ ho,H a=some ho∧RO T φ H o ho
structure RS (T:CTb)(φ:List Addr)(H:Hp)(ρ:Sg)(σ:St):Prop where
 len:ρ.length=σ.length
 var:∀ (i:Nat) w,ρ[i]? = some (some w)→∃ v,σ[i]? = some (some v)∧RW T φ H w v
section
variable {T:CTb} {φ φ':List Addr} {H H':Hp} {h:Mem} {ρ:Sg} {σ:St}
theorem RS.step (s:Step φ H φ' H')(r:RS T φ H ρ σ):RS T φ' H' ρ σ:=⟨r.len,fun i w e=>by
 obtain ⟨v,a,b⟩:=r.var i w e
 exact ⟨v,a,b.step s⟩⟩
theorem RS.set {i:Nat}{w:W}{v:V}(r:RS T φ H ρ σ)(q:RW T φ H w v):RS T φ H (ρ.set i (some w)) (σ.set i (some v)):=⟨by simp [r.len],fun j u e=>by
 rw [List.getElem?_set] at e ⊢
 split at e
 ·rename_i hij
  subst hij
  split at e
  ·rename_i hl
   rw [if_pos rfl,if_pos (by rw [← r.len]; exact hl)]
   cases e
   exact ⟨v,rfl,q⟩
  ·cases e
 ·rename_i hij
  rw [if_neg hij]
  exact r.var j u e⟩
theorem RH.at (r:RH T φ h H){n:Nat}{o:O}(e:h[n]? = some o):∃ a ho,φ[n]? = some a∧H a=some ho∧RO T φ H o ho:=by
 have hn:n<φ.length:=by rw [r.len]; exact (List.getElem?_eq_some_iff.mp e).1
 obtain ⟨ho,q,x⟩:=r.obj n o φ[n] e (by simp [hn])
 exact ⟨φ[n],ho,by simp [hn],q,x⟩
theorem RH.there (r:RH T φ h H){a:Addr}(m:a∈φ):∃ ho,H a=some ho:=by
 obtain ⟨n,hn,e⟩:=List.getElem_of_mem m
 have hl:n<h.length:=by rw [← r.len]; exact hn
 obtain ⟨ho,q,_⟩:=r.obj n h[n] a (by simp [hl]) (by simp [hn,e])
 exact ⟨ho,q⟩
theorem RH.fresh (r:RH T φ h H){p:Addr}(hp:H p=none):p ∉ φ:=fun m=>by
 obtain ⟨ho,q⟩:=r.there m
 rw [hp] at q; cases q
theorem step_tmp {p:Addr}{ho:HO}(hp:H p=none):Step φ H φ (upd H p ho):=⟨⟨List.prefix_refl _,fun a o e _=>by rw [upd_ne (ne_of_none e hp)]; exact e,fun _ m n=>absurd m n⟩,fun a o u e=>by rw [upd_ne (ne_of_none e hp)]; exact e⟩
theorem RH.stay (r:RH T φ h H)(s:Step φ H φ H')(k:∀ a∈φ,H' a=H a):RH T φ h H':=⟨r.len,r.nd,fun n o a e q=>by
 obtain ⟨ho,x,y⟩:=r.obj n o a e q
 exact ⟨ho,by rw [k a (List.mem_of_getElem? q)]; exact x,y.step s⟩⟩
theorem RH.tmp (r:RH T φ h H){p:Addr}{ho:HO}(hp:H p=none):RH T φ h (upd H p ho):=r.stay (step_tmp hp) fun a m=>upd_ne fun z=>by subst z; exact r.fresh hp m
theorem step_new {p:Addr}{ho:HO}(hp:H p=none):Step φ H (φ++[p]) (upd H p ho):=⟨⟨List.prefix_append _ _,fun a o e _=>by rw [upd_ne (ne_of_none e hp)]; exact e,fun a m n=>by
 rcases List.mem_append.mp m with m | m
 ·exact absurd m n
 ·have:a=p:=by simpa using m
  subst this; exact hp⟩,fun a o u e=>by rw [upd_ne (ne_of_none e hp)]; exact e⟩
theorem RH.new (r:RH T φ h H){p:Addr}{o:O}{ho:HO}(hp:H p=none)(x:RO T φ H o ho):RH T (φ++[p]) (h++[o]) (upd H p ho):=by
 have s:=step_new (φ:=φ) (ho:=ho) hp
 refine ⟨by simp [r.len],?_,fun n u a e q=>?_⟩
 ·rw [List.nodup_append]
  refine ⟨r.nd,by simp,fun a m b k z=>?_⟩
  have:b=p:=by simpa using k
  subst z this
  exact r.fresh hp m
 ·by_cases hn:n<h.length
  ·rw [List.getElem?_append_left hn] at e
   rw [List.getElem?_append_left (by rw [r.len]; exact hn)] at q
   obtain ⟨hu,y,z⟩:=r.obj n u a e q
   exact ⟨hu,by rw [upd_ne (fun z=>by subst z; exact r.fresh hp (List.mem_of_getElem? q))]; exact y,z.step s⟩
  ·have hn':h.length≤n:=Nat.le_of_not_lt hn
   rw [List.getElem?_append_right hn'] at e
   rw [List.getElem?_append_right (by rw [r.len]; exact hn'),r.len] at q
   have:n - h.length=0:=by
    have:=(List.getElem?_eq_some_iff.mp e).1
    simp at this; omega
   rw [this] at e q
   simp at e q
   subst e q
   exact ⟨ho,upd_same,x.step s⟩
theorem step_set0 {a:Addr}{ho:HO}(m:a∈φ):Step0 φ H φ (upd H a ho):=⟨List.prefix_refl _,fun b o e n=>by rw [upd_ne (fun z=>by subst z; exact n m)]; exact e,fun _ m n=>absurd m n⟩
def NoFrz (x:Option HO):Prop:=∀ o u,x≠some (.frz o u)
theorem nf_lst {xs:List V}{x:Option HO}(e:x=some (.lst xs)):NoFrz x:=fun o u z=>by rw [e] at z; cases z
theorem nf_dK {xs:List (Key×V)}{x:Option HO}(e:x=some (.dK xs)):NoFrz x:=fun o u z=>by rw [e] at z; cases z
theorem nf_ins {C dx:Addr}{xs:List (Str×V)}{x:Option HO}(e:x=some (.ins C dx xs)):NoFrz x:=fun o u z=>by rw [e] at z; cases z
theorem step_set {a:Addr}{ho:HO}(m:a∈φ)(nf:NoFrz (H a)):Step φ H φ (upd H a ho):=⟨step_set0 m,fun b o u e=>by
 by_cases z:b=a
 ·subst z; exact absurd e (nf o u)
 ·rw [upd_ne z]; exact e⟩
theorem RH.set (r:RH T φ h H){n:Nat}{a:Addr}{o:O}{ho:HO}(q:φ[n]? = some a)(x:RO T φ H o ho):RH T φ (h.set n o) (upd H a ho):=by
 have s:=step_set0 (H:=H) (ho:=ho) (List.mem_of_getElem? q)
 refine ⟨by simp [r.len],r.nd,fun k u b e q'=>?_⟩
 rw [List.getElem?_set] at e
 split at e
 ·rename_i hk
  subst hk
  rw [q] at q'
  cases q'
  split at e
  ·cases e
   exact ⟨ho,upd_same,x.step0 s⟩
  ·cases e
 ·rename_i hk
  obtain ⟨hu,y,z⟩:=r.obj k u b e q'
  refine ⟨hu,?_,z.step0 s⟩
  rw [upd_ne]
  ·exact y
  ·intro z
   subst z
   exact hk ((List.getElem?_inj (List.getElem?_eq_some_iff.mp q).1 r.nd).mp (q.trans q'.symm))
end
end M
namespace M
open PySem PySem.Spec PyProof.Rows L2
inductive Res where
 | ok (w:W) (h:Mem) | ex (w:W) (h:Mem) | no
inductive RsL where
 | ok (ws:List W) (h:Mem) | ex (w:W) (h:Mem) | no
abbrev Ex:=Sg→Mem→Res
abbrev Exs:=Sg→Mem→RsL
def Res.bind (r:Res)(k:W→Mem→Res):Res:=match r with
 | .ok w h=>k w h
 | .ex w h=>.ex w h
 | .no=>.no
def Res.of (o:Option W)(h:Mem):Res:=match o with
 | some w=>.ok w h
 | none=>.no
def Res.post (r:Res)(k:W→Mem→Prop)(e:W→Mem→Prop):Prop:=match r with
 | .ok w h=>k w h
 | .ex w h=>e w h
 | .no=>False
def RsL.post (r:RsL)(k:List W→Mem→Prop)(e:W→Mem→Prop):Prop:=match r with
 | .ok w h=>k w h
 | .ex w h=>e w h
 | .no=>False
theorem Res.post.mono {r:Res}{k k':W→Mem→Prop}{e:W→Mem→Prop}(h:r.post k e)(i:∀ w m,k w m→k' w m):r.post k' e:=by
 cases r <;> first | exact i _ _ h | exact h
structure Zc where
 T:CTb
 φ:List Addr
 H:Hp
 sg:St→Prop
 xw:W→Mem→Prop
structure Here (Z:Zc)(σ:St)(H:Hp)(φ:List Addr)(h:Mem)(ρ:Sg):Prop where
 sg:Z.sg σ
 st:Step Z.φ Z.H φ H
 rh:RH Z.T φ h H
 rs:RS Z.T φ H ρ σ
theorem Here.step {Z:Zc}{σ:St}{H H':Hp}{φ φ':List Addr}{h h':Mem}{ρ:Sg}(x:Here Z σ H φ h ρ)(s:Step φ H φ' H')(r:RH Z.T φ' h' H'):Here Z σ H' φ' h' ρ:=⟨x.sg,x.st.trans s,r,x.rs.step s⟩
def Kv (T:CTb)(φ:List Addr)(H:Hp)(Q:VK):W→Mem→Prop:=fun w h'=>∀ φ' H' v,Step φ H φ' H'→RH T φ' h' H'→RW T φ' H' w v→Q v H'
def Kvs (T:CTb)(φ:List Addr)(H:Hp)(Q:List V→Hp→Prop):List W→Mem→Prop:=fun ws h'=>∀ φ' H' vs,Step φ H φ' H'→RH T φ' h' H'→RWs T φ' H' ws vs→Q vs H'
theorem Kv.step {T:CTb}{φ φ':List Addr}{H H':Hp}{Q:VK}{w:W}{h:Mem}(k:Kv T φ H Q w h)(s:Step φ H φ' H'):Kv T φ' H' Q w h:=fun φ2 H2 v t r x=>k φ2 H2 v (s.trans t) r x
def tH (Z:Zc)(f:Ex):TE:=fun σ H Q=>∃ φ h ρ,Here Z σ H φ h ρ∧(f ρ h).post (Kv Z.T φ H Q) Z.xw
def tHA (Z:Zc)(f:Exs):TA:=fun σ H Q=>∃ φ h ρ,Here Z σ H φ h ρ∧(f ρ h).post (Kvs Z.T φ H Q) Z.xw
def tHT (Z:Zc)(f:Ex):TT:=fun σ H Q=>∃ φ h ρ,Here Z σ H φ h ρ∧(f ρ h).post (fun w h'=>∃ b,w=.bl b∧∀ φ' H',Step φ H φ' H'→RH Z.T φ' h' H'→Q b H') Z.xw
section
variable {X:Cx} {e a b c:Expr} {es:List Expr}
theorem _root_.L2.PE.imp {t t':TE}(h:PE X e t)(i:∀ σ H Q,t' σ H Q→t σ H Q):PE X e t':=fun pins s σ H Q I q=>h pins s σ H Q I (i σ H Q q)
theorem _root_.L2.PT.imp {t t':TT}(h:PT X e t)(i:∀ σ H Q,t' σ H Q→t σ H Q):PT X e t':=fun pins s σ H Q I q=>h pins s σ H Q I (i σ H Q q)
theorem _root_.L2.PW.imp {t t':TT}(h:PW X e t)(i:∀ σ H Q,t' σ H Q→t σ H Q):PW X e t':=fun w pins s σ H Q I q=>h w pins s σ H Q I (i σ H Q q)
theorem _root_.L2.PA.imp {t t':TA}(h:PA X es t)(i:∀ σ H Q,t' σ H Q→t σ H Q):PA X es t':=fun pos pins s σ H Q I q=>h pos pins s σ H Q I (i σ H Q q)
end
def xVar (i:Nat):Ex:=fun ρ h=>match ρ[i]? with
 | some (some w)=>.ok w h
 | _=>.no
def xC (w:W):Ex:=fun _ h=>.ok w h
def xNil:Exs:=fun _ h=>.ok [] h
def xCons (f:Ex)(g:Exs):Exs:=fun ρ h=>match f ρ h with
 | .ok w h1=>(match g ρ h1 with
  | .ok ws h2=>.ok (w::ws) h2
  | r=>r)
 | .ex w h1=>.ex w h1
 | .no=>.no
def xBin (op:Mem→W→W→Option W)(f g:Ex):Ex:=fun ρ h=>(f ρ h).bind fun a h1=>(g ρ h1).bind fun b h2=>.of (op h2 a b) h2
def xUn (op:Mem→W→Option W)(f:Ex):Ex:=fun ρ h=>(f ρ h).bind fun a h1=>.of (op h1 a) h1
def xCb (op:Mem→List W→Option W)(f:Exs):Ex:=fun ρ h=>match f ρ h with
 | .ok ws h1=>.of (op h1 ws) h1
 | .ex w h1=>.ex w h1
 | .no=>.no
def xAnd (f g:Ex):Ex:=fun ρ h=>(f ρ h).bind fun w h1=>match w with
 | .bl true=>g ρ h1
 | .bl false=>.ok (.bl false) h1
 | _=>.no
def xOr (f g:Ex):Ex:=fun ρ h=>(f ρ h).bind fun w h1=>match w with
 | .bl true=>.ok (.bl true) h1
 | .bl false=>g ρ h1
 | _=>.no
def xNot (f:Ex):Ex:=fun ρ h=>(f ρ h).bind fun w h1=>match w with
 | .bl b=>.ok (.bl (!b)) h1
 | _=>.no
def xIf (c f g:Ex):Ex:=fun ρ h=>(c ρ h).bind fun w h1=>match w with
 | .bl true=>f ρ h1
 | .bl false=>g ρ h1
 | _=>.no
def xChain (op op':Mem→W→W→Option W)(f g k:Ex):Ex:=fun ρ h=>(f ρ h).bind fun a h1=>(g ρ h1).bind fun b h2=>match op h2 a b with
 | some (.bl true)=>(k ρ h2).bind fun c h3=>(match op' h3 b c with
  | some (.bl z)=>.ok (.bl z) h3
  | _=>.no)
 | some (.bl false)=>.ok (.bl false) h2
 | _=>.no
def xTup (f:Exs):Ex:=fun ρ h=>match f ρ h with
 | .ok ws h1=>if ws.length≤sizeLine then .ok (.tup ws) h1 else .no
 | .ex w h1=>.ex w h1
 | .no=>.no
def xLst (f:Exs):Ex:=fun ρ h=>match f ρ h with
 | .ok ws h1=>if ws.length≤sizeLine then .ok (.tl ws) h1 else .no
 | .ex w h1=>.ex w h1
 | .no=>.no
def xLstN (f:Exs):Ex:=fun ρ h=>match f ρ h with
 | .ok ws h1=>if ws.length≤sizeLine then .ok (.ref h1.length) (h1++[.lst ws]) else .no
 | .ex w h1=>.ex w h1
 | .no=>.no
def OpW (T:CTb)(op:Mem→W→W→Option W)(r:R2):Prop:=∀ φ h H a b u v w Q,RH T φ h H→RW T φ H a u→RW T φ H b v→op h a b=some w→(∀ H' x,Step φ H φ H'→RH T φ h H'→RW T φ H' w x→Q x H')→r u v H Q
def UnW (T:CTb)(op:Mem→W→Option W)(r:V→Hp→VK→Prop):Prop:=∀ φ h H a u w Q,RH T φ h H→RW T φ H a u→op h a=some w→(∀ H' x,Step φ H φ H'→RH T φ h H'→RW T φ H' w x→Q x H')→r u H Q
def CbW (T:CTb)(op:Mem→List W→Option W)(r:List V→Hp→VK→Prop):Prop:=∀ φ h H ws vs w Q,RH T φ h H→RWs T φ H ws vs→op h ws=some w→(∀ H' x,Step φ H φ H'→RH T φ h H'→RW T φ H' w x→Q x H')→r vs H Q
def BmW (T:CTb)(op:Mem→W→List W→Option W)(r:V→List V→Hp→VK→Prop):Prop:=∀ φ h H a u ws vs w Q,RH T φ h H→RW T φ H a u→RWs T φ H ws vs→op h a ws=some w→(∀ H' x,Step φ H φ H'→RH T φ h H'→RW T φ H' w x→Q x H')→r u vs H Q
section
variable {X:Cx} {Z:Zc} {f g k:Ex} {fa:Exs} {e a b c:Expr} {es rest:List Expr} {pos:Pos}
theorem bindP {r:Res}{k:W→Mem→Res}{K:W→Mem→Prop}{E:W→Mem→Prop}:(r.bind k).post K E↔r.post (fun w h=>(k w h).post K E) E:=by cases r <;> rfl
theorem ofP {o:Option W}{h:Mem}{K:W→Mem→Prop}{E:W→Mem→Prop}(q:(Res.of o h).post K E):∃ w,o=some w∧K w h:=by
 cases o with
 | none=>exact q.elim
 | some w=>exact ⟨w,rfl,q⟩
theorem Kv.end {T:CTb}{φ:List Addr}{H:Hp}{Q:VK}{w:W}{h:Mem}(k:Kv T φ H Q w h):∀ H' x,Step φ H φ H'→RH T φ h H'→RW T φ H' w x→Q x H':=fun H' x s r y=>k φ H' x s r y
theorem ph_var (i:Nat)(h:PE X e (tVar i)):PE X e (tH Z (xVar i)):=h.imp fun σ H Q ⟨φ,m,ρ,x,q⟩=>by
 unfold xVar at q
 split at q
 ·rename_i w e
  obtain ⟨v,hv,r⟩:=x.rs.var i w e
  exact ⟨v,hv,q φ H v (Step.refl _ _) x.rh r⟩
 ·exact q.elim
theorem ph_c {w:W}{v:V}(h:PE X e (tC v))(r:∀ φ H,RW Z.T φ H w v):PE X e (tH Z (xC w)):=h.imp fun σ H Q ⟨φ,m,ρ,x,q⟩=>q φ H v (Step.refl _ _) x.rh (r φ H)
theorem ph_int {i j pos}:PE X (.Constant (.int i) j pos) (tH Z (xC (.int i))):=ph_c pe_int fun _ _=>by unfold RW; rfl
theorem ph_bl {b j pos}:PE X (.Constant (.bool b) j pos) (tH Z (xC (.bl b))):=ph_c pe_bl fun _ _=>by unfold RW; rfl
theorem ph_non {j pos}:PE X (.Constant .none j pos) (tH Z (xC .non)):=ph_c pe_non fun _ _=>by unfold RW; rfl
theorem ph_str {x j pos}:PE X (.Constant (.str x) j pos) (tH Z (xC (.str x))):=ph_c pe_str fun _ _=>by unfold RW; rfl
theorem two {σ:St}{H:Hp}{φ:List Addr}{h:Mem}{ρ:Sg}{k:W→W→Mem→Res}{Q:VK}(x:Here Z σ H φ h ρ)(q:((f ρ h).bind fun a h1=>(g ρ h1).bind fun b h2=>k a b h2).post (Kv Z.T φ H Q) Z.xw)
  {R:V→V→Hp→Prop} (i:∀ φ2 H2 h2 u v a b,Step φ H φ2 H2→Here Z σ H2 φ2 h2 ρ→RW Z.T φ2 H2 a u→RW Z.T φ2 H2 b v→(k a b h2).post (Kv Z.T φ2 H2 Q) Z.xw→R u v H2) :
  tH Z f σ H fun u H1=>tH Z g σ H1 fun v H2=>R u v H2:=by
 refine ⟨φ,h,ρ,x,?_⟩
 rw [bindP] at q
 refine q.mono fun a h1 q1=>fun φ1 H1 u s1 r1 ra=>?_
 refine ⟨φ1,h1,ρ,x.step s1 r1,?_⟩
 rw [bindP] at q1
 refine q1.mono fun b h2 q2=>fun φ2 H2 v s2 r2 rb=>?_
 exact i φ2 H2 h2 u v a b (s1.trans s2) ((x.step s1 r1).step s2 r2) (ra.step s2) rb (q2.mono fun w m k=>k.step (s1.trans s2))
theorem ph_bin {op:Operator}{o:Mem→W→W→Option W}{r:R2}(ho:OpR X (binaryOp op) r)(hw:OpW Z.T o r)(ha:PE X a (tH Z f))(hb:PE X b (tH Z g)):PE X (.BinOp a op b pos) (tH Z (xBin o f g)):=
 (pe_op ho ha hb).imp fun σ H Q ⟨φ,m,ρ,x,q⟩=>two x q fun φ2 H2 h2 u v a b s y ra rb q2=>by
  obtain ⟨w,e,k⟩:=ofP q2
  exact hw φ2 h2 H2 a b u v w Q y.rh ra rb e k.end
theorem ph_cmp {op:CmpOp}{o:Mem→W→W→Option W}{r:R2}(ho:OpR X (compareOp op) r)(hw:OpW Z.T o r)(ha:PE X a (tH Z f))(hb:PE X b (tH Z g))(hm:behindInMarks op b=false):PE X (.Compare a [op] [b] pos) (tH Z (xBin o f g)):=
 (pe_cmpR ho ha hb hm).imp fun σ H Q ⟨φ,m,ρ,x,q⟩=>two x q fun φ2 H2 h2 u v a b s y ra rb q2=>by
  obtain ⟨w,e,k⟩:=ofP q2
  exact hw φ2 h2 H2 a b u v w Q y.rh ra rb e k.end
theorem ph_ix {o:Mem→W→W→Option W}{r:R2}(ho:IxR X r)(hw:OpW Z.T o r)(ha:PE X a (tH Z f))(hb:PE X b (tH Z g))(hs:PlainIx b):PE X (.Subscript a b pos) (tH Z (xBin o f g)):=
 (pe_ix ho ha hb hs).imp fun σ H Q ⟨φ,m,ρ,x,q⟩=>two x q fun φ2 H2 h2 u v a b s y ra rb q2=>by
  obtain ⟨w,e,k⟩:=ofP q2
  exact hw φ2 h2 H2 a b u v w Q y.rh ra rb e k.end
theorem bl_rw {T:CTb}{φ:List Addr}{H:Hp}{v:V}{c:Bool}(h:RW T φ H (.bl c) v):v=.bl c:=by unfold RW at h; exact h
theorem tHT_B {σ:St}{H:Hp}{Q:Bool→Hp→Prop}(h:tHT Z f σ H Q):tB (tH Z f) σ H Q:=by
 obtain ⟨φ,m,ρ,x,q⟩:=h
 refine ⟨φ,m,ρ,x,q.mono ?_⟩
 rintro w h1 ⟨b,rfl,k⟩ φ1 H1 v s1 r1 rw1
 exact ⟨b,bl_rw rw1,k φ1 H1 s1 r1⟩
theorem pth_val (h:PE X e (tH Z f))(he:∀ whole,isTrue e X.env whole=(do let v ← whole; standAt e.pos; holding [v] (truthy v)):=by intro _; rfl):PT X e (tHT Z f):=(pt_val h he).imp fun σ H Q q=>tHT_B q
theorem pth_cmp {op:CmpOp}{o:Mem→W→W→Option W}{r:R2}(ho:OpR X (compareOp op) r)(hw:OpW Z.T o r)(ha:PE X a (tH Z f))(hb:PE X b (tH Z g))(hm:behindInMarks op b=false):PT X (.Compare a [op] [b] pos) (tHT Z (xBin o f g)):=
 (pt_cmpR ho ha hb hm).imp fun σ H Q ⟨φ,m,ρ,x,q⟩=>by
  have q':(xBin o f g ρ m).post (Kv Z.T φ H fun v H'=>∃ k,v=.bl k∧Q k H') Z.xw:=q.mono (by
   rintro w h1 ⟨b,rfl,k⟩ φ1 H1 v s1 r1 rw1
   exact ⟨b,bl_rw rw1,k φ1 H1 s1 r1⟩)
  exact two x q' fun φ2 H2 h2 u v a b s y ra rb q2=>by
   obtain ⟨w,e,k⟩:=ofP q2
   exact hw φ2 h2 H2 a b u v w _ y.rh ra rb e k.end
theorem tHT_and {σ:St}{H:Hp}{Q:Bool→Hp→Prop}(h:tHT Z (xAnd f g) σ H Q):tAnd (tHT Z f) (tHT Z g) σ H Q:=by
 obtain ⟨φ,m,ρ,x,q⟩:=h
 refine ⟨φ,m,ρ,x,?_⟩
 unfold xAnd at q
 rw [bindP] at q
 refine q.mono fun w h1 q1=>?_
 split at q1
 ·exact ⟨true,rfl,fun φ1 H1 s1 r1=>iteT ⟨φ1,h1,ρ,x.step s1 r1,q1.mono fun w h2 ⟨b,e,k⟩=>⟨b,e,fun φ2 H2 s2 r2=>k φ2 H2 (s1.trans s2) r2⟩⟩⟩
 ·obtain ⟨b,e,k⟩:=q1
  cases e
  exact ⟨false,rfl,fun φ1 H1 s1 r1=>iteF (k φ1 H1 s1 r1)⟩
 ·exact q1.elim
theorem tHT_or {σ:St}{H:Hp}{Q:Bool→Hp→Prop}(h:tHT Z (xOr f g) σ H Q):tOr (tHT Z f) (tHT Z g) σ H Q:=by
 obtain ⟨φ,m,ρ,x,q⟩:=h
 refine ⟨φ,m,ρ,x,?_⟩
 unfold xOr at q
 rw [bindP] at q
 refine q.mono fun w h1 q1=>?_
 split at q1
 ·obtain ⟨b,e,k⟩:=q1
  cases e
  exact ⟨true,rfl,fun φ1 H1 s1 r1=>iteT (k φ1 H1 s1 r1)⟩
 ·exact ⟨false,rfl,fun φ1 H1 s1 r1=>iteF ⟨φ1,h1,ρ,x.step s1 r1,q1.mono fun w h2 ⟨b,e,k⟩=>⟨b,e,fun φ2 H2 s2 r2=>k φ2 H2 (s1.trans s2) r2⟩⟩⟩
 ·exact q1.elim
theorem tHT_not {σ:St}{H:Hp}{Q:Bool→Hp→Prop}(h:tHT Z (xNot f) σ H Q):tNot (tHT Z f) σ H Q:=by
 obtain ⟨φ,m,ρ,x,q⟩:=h
 refine ⟨φ,m,ρ,x,?_⟩
 unfold xNot at q
 rw [bindP] at q
 refine q.mono fun w h1 q1=>?_
 split at q1
 ·obtain ⟨b,e,k⟩:=q1
  cases e
  exact ⟨_,rfl,k⟩
 ·exact q1.elim
theorem pth_not (h:PT X a (tHT Z f)):PT X (.UnaryOp .Not a pos) (tHT Z (xNot f)):=(pt_not h).imp fun _ _ _ q=>tHT_not q
theorem pwh_and1 (h:PT X a (tHT Z f)):PW X (.BoolOp .And [a] pos) (tHT Z f):=pw_and1 h
theorem pwh_or1 (h:PT X a (tHT Z f)):PW X (.BoolOp .Or [a] pos) (tHT Z f):=pw_or1 h
theorem pwh_and (ha:PT X a (tHT Z f))(hb:PW X (.BoolOp .And (b::rest) pos) (tHT Z g)):PW X (.BoolOp .And (a::b::rest) pos) (tHT Z (xAnd f g)):=(pw_and ha hb).imp fun _ _ _ q=>tHT_and q
theorem pwh_or (ha:PT X a (tHT Z f))(hb:PW X (.BoolOp .Or (b::rest) pos) (tHT Z g)):PW X (.BoolOp .Or (a::b::rest) pos) (tHT Z (xOr f g)):=(pw_or ha hb).imp fun _ _ _ q=>tHT_or q
theorem ph_and (ha:PE X a (tH Z f))(hb:PE X (.BoolOp .And (b::rest) pos) (tH Z g)):PE X (.BoolOp .And (a::b::rest) pos) (tH Z (xAnd f g)):=
 (pe_and ha hb).imp fun σ H Q ⟨φ,m,ρ,x,q⟩=>⟨φ,m,ρ,x,by
  unfold xAnd at q
  rw [bindP] at q
  refine q.mono fun w h1 q1=>fun φ1 H1 v s1 r1 rw1=>?_
  split at q1
  ·exact ⟨true,bl_rw rw1,iteT (⟨φ1,h1,ρ,x.step s1 r1,q1.mono fun w h2 k=>k.step s1⟩)⟩
  ·exact ⟨false,bl_rw rw1,iteF (q1 φ1 H1 _ s1 r1 (by unfold RW; rfl))⟩
  ·exact q1.elim⟩
theorem ph_one {op}(h:PE X a (tH Z f)):PE X (.BoolOp op [a] pos) (tH Z f):=pe_one h
theorem ph_not (ha:PE X a (tH Z f)):PE X (.UnaryOp .Not a pos) (tH Z (xNot f)):=
 (pe_not ha).imp fun σ H Q ⟨φ,m,ρ,x,q⟩=>⟨φ,m,ρ,x,by
  unfold xNot at q
  rw [bindP] at q
  refine q.mono fun w h1 q1=>fun φ1 H1 v s1 r1 rw1=>?_
  split at q1
  ·exact ⟨_,bl_rw rw1,q1 φ1 H1 _ s1 r1 (by unfold RW; rfl)⟩
  ·exact q1.elim⟩
theorem ph_if (hc:PT X c (tHT Z k))(ha:PE X a (tH Z f))(hb:PE X b (tH Z g)):PE X (.IfExp c a b pos) (tH Z (xIf k f g)):=
 (pe_ifExp hc ha hb).imp fun σ H Q ⟨φ,m,ρ,x,q⟩=>⟨φ,m,ρ,x,by
  unfold xIf at q
  rw [bindP] at q
  refine q.mono fun w h1 q1=>?_
  split at q1
  ·exact ⟨true,rfl,fun φ1 H1 s1 r1=>iteT (⟨φ1,h1,ρ,x.step s1 r1,q1.mono fun w h2 k=>k.step s1⟩)⟩
  ·exact ⟨false,rfl,fun φ1 H1 s1 r1=>iteF (⟨φ1,h1,ρ,x.step s1 r1,q1.mono fun w h2 k=>k.step s1⟩)⟩
  ·exact q1.elim⟩
theorem pah_nil:PA X [] (tHA Z xNil):=pa_nil.imp fun σ H Q ⟨φ,m,ρ,x,q⟩=>q φ H [] (Step.refl _ _) x.rh (by unfold RWs; rfl)
theorem pah_cons (ha:PE X e (tH Z f))(hr:PA X es (tHA Z fa))(hs:starEach (e::es) X.env=(false,eval e X.env)::starEach es X.env:=by rfl):PA X (e::es) (tHA Z (xCons f fa)):=
 (pa_cons ha hr hs).imp fun σ H Q ⟨φ,m,ρ,x,q⟩=>⟨φ,m,ρ,x,by
  unfold xCons at q
  cases e1:f ρ m with
  | no=>rw [e1] at q; exact q.elim
  | ex w h1=>rw [e1] at q; exact q
  | ok w h1=>
   rw [e1] at q
   intro φ1 H1 v s1 r1 rw1
   refine ⟨φ1,h1,ρ,x.step s1 r1,?_⟩
   simp only at q
   cases e2:fa ρ h1 with
   | no=>rw [e2] at q; exact q.elim
   | ex w2 h2=>rw [e2] at q; exact q
   | ok ws h2=>
    rw [e2] at q
    intro φ2 H2 vs s2 r2 rw2
    refine q φ2 H2 (v::vs) (s1.trans s2) r2 ?_
    unfold RWs
    exact ⟨v,vs,rfl,rw1.step s2,rw2⟩⟩
theorem RWs.length {T:CTb}{φ:List Addr}{H:Hp}:∀ {ws:List W} {vs:List V},RWs T φ H ws vs→ws.length=vs.length
 | [],vs,h=>by unfold RWs at h; subst h; rfl
 | w::ws,vs,h=>by
  unfold RWs at h
  obtain ⟨v,r,rfl,_,h⟩:=h
  simp [RWs.length h]
theorem ph_tup {x1}(h:PA X es (tHA Z fa)):PE X (.Tuple es x1 pos) (tH Z (xTup fa)):=
 (pe_tup h).imp fun σ H Q ⟨φ,m,ρ,x,q⟩=>⟨φ,m,ρ,x,by
  unfold xTup at q
  cases e1:fa ρ m with
  | no=>rw [e1] at q; exact q.elim
  | ex w h1=>rw [e1] at q; exact q
  | ok ws h1=>
   rw [e1] at q
   simp only at q
   split at q
   ·rename_i hz
    intro φ1 H1 vs s1 r1 rw1
    refine ⟨by rw [← rw1.length]; exact hz,fun p hp=>?_⟩
    have s2:=step_tmp (φ:=φ1) (ho:=.tup vs) hp
    refine q φ1 _ _ (s1.trans s2) (r1.tmp hp) ?_
    unfold RW
    exact ⟨p,vs,rfl,r1.fresh hp,upd_same,rw1.step s2⟩
   ·exact q.elim⟩
theorem ph_lst (h:PA X es (tHA Z fa)):PE X (.List es pos) (tH Z (xLst fa)):=
 (pe_lst h).imp fun σ H Q ⟨φ,m,ρ,x,q⟩=>⟨φ,m,ρ,x,by
  unfold xLst at q
  cases e1:fa ρ m with
  | no=>rw [e1] at q; exact q.elim
  | ex w h1=>rw [e1] at q; exact q
  | ok ws h1=>
   rw [e1] at q
   simp only at q
   split at q
   ·rename_i hz
    intro φ1 H1 vs s1 r1 rw1
    refine ⟨by rw [← rw1.length]; exact hz,fun p hp=>?_⟩
    have s2:=step_tmp (φ:=φ1) (ho:=.lst vs) hp
    refine q φ1 _ _ (s1.trans s2) (r1.tmp hp) ?_
    unfold RW
    exact ⟨p,vs,rfl,r1.fresh hp,lstAt_upd_l,rw1.step s2⟩
   ·exact q.elim⟩
theorem ph_lstN (h:PA X es (tHA Z fa)):PE X (.List es pos) (tH Z (xLstN fa)):=
 (pe_lst h).imp fun σ H Q ⟨φ,m,ρ,x,q⟩=>⟨φ,m,ρ,x,by
  unfold xLstN at q
  cases e1:fa ρ m with
  | no=>rw [e1] at q; exact q.elim
  | ex w h1=>rw [e1] at q; exact q
  | ok ws h1=>
   rw [e1] at q
   simp only at q
   split at q
   ·rename_i hz
    intro φ1 H1 vs s1 r1 rw1
    refine ⟨by rw [← rw1.length]; exact hz,fun p hp=>?_⟩
    refine q (φ1++[p]) _ _ (s1.trans (step_new hp)) (r1.new hp (by unfold RO; exact ⟨vs,rfl,rw1⟩)) ?_
    unfold RW
    exact ⟨p,by rw [← r1.len]; simp,rfl⟩
   ·exact q.elim⟩
theorem ph_cb {r:List V→Hp→VK→Prop}{o:Mem→List W→Option W}(hw:CbW Z.T o r)(h:∀ {t:TA},PA X es t→PE X e (tCB r t))(ha:PA X es (tHA Z fa)):PE X e (tH Z (xCb o fa)):=
 (h ha).imp fun σ H Q ⟨φ,m,ρ,x,q⟩=>⟨φ,m,ρ,x,by
  unfold xCb at q
  cases e1:fa ρ m with
  | no=>rw [e1] at q; exact q.elim
  | ex w h1=>rw [e1] at q; exact q
  | ok ws h1=>
   rw [e1] at q
   intro φ1 H1 vs s1 r1 rw1
   obtain ⟨w,e,k⟩:=ofP q
   exact hw φ1 h1 H1 ws vs w Q r1 rw1 e (k.step s1).end⟩
end
end M
namespace M
open PySem PySem.Spec PyProof.Rows L2
inductive Out where
 | nx (ρ:Sg) (h:Mem) | rt (w:W) (h:Mem) | bk (ρ:Sg) (h:Mem) | ct (ρ:Sg) (h:Mem) | ex (w:W) (h:Mem) | no
abbrev Sm:=Sg→Mem→Out
def Ks (Z:Zc)(φ:List Addr)(H:Hp)(n:St→Hp→Prop):Sg→Mem→Prop:=fun ρ' h'=>∀ φ' H' σ',Step φ H φ' H'→RH Z.T φ' h' H'→RS Z.T φ' H' ρ' σ'→Z.sg σ'→n σ' H'
def Out.post (Z:Zc)(φ:List Addr)(H:Hp)(D:Ends):Out→Prop
 | .nx ρ h=>Ks Z φ H D.nx ρ h
 | .rt w h=>Kv Z.T φ H D.rt w h
 | .bk ρ h=>Ks Z φ H D.bk ρ h
 | .ct ρ h=>Ks Z φ H D.ct ρ h
 | .ex w h=>Z.xw w h
 | .no=>False
theorem Ks.step {Z:Zc}{φ φ':List Addr}{H H':Hp}{n:St→Hp→Prop}{ρ:Sg}{h:Mem}(k:Ks Z φ H n ρ h)(s:Step φ H φ' H'):Ks Z φ' H' n ρ h:=fun φ2 H2 σ t r x g=>k φ2 H2 σ (s.trans t) r x g
theorem post_step {Z:Zc}{φ φ':List Addr}{H H':Hp}{D:Ends}{o:Out}(k:o.post Z φ H D)(s:Step φ H φ' H'):o.post Z φ' H' D:=by
 cases o with
 | nx ρ h=>exact Ks.step k s
 | rt w h=>exact Kv.step k s
 | bk ρ h=>exact Ks.step k s
 | ct ρ h=>exact Ks.step k s
 | ex w h=>exact k
 | no=>exact k
def tHS (Z:Zc)(F:Sm):TS:=fun D σ H=>∃ φ h ρ,Here Z σ H φ h ρ∧(F ρ h).post Z φ H D
def xNext:Sm:=fun ρ h=>.nx ρ h
def xSeq (F G:Sm):Sm:=fun ρ h=>match F ρ h with
 | .nx ρ' h'=>G ρ' h'
 | o=>o
def xIfS (c:Ex)(F G:Sm):Sm:=fun ρ h=>match c ρ h with
 | .ok (.bl true) h'=>F ρ h'
 | .ok (.bl false) h'=>G ρ h'
 | .ex w h'=>.ex w h'
 | _=>.no
def xRet (f:Ex):Sm:=fun ρ h=>match f ρ h with
 | .ok w h'=>.rt w h'
 | .ex w h'=>.ex w h'
 | .no=>.no
def xDrop (f:Ex):Sm:=fun ρ h=>match f ρ h with
 | .ok _ h'=>.nx ρ h'
 | .ex w h'=>.ex w h'
 | .no=>.no
abbrev Tg:=W→Sg→Option Sg
def gN (i:Nat):Tg:=fun w ρ=>some (ρ.set i (some w))
def TgW (Z:Zc)(g:TG)(G:Tg):Prop:=∀ σ H φ h ρ w v ρ' Q,Here Z σ H φ h ρ→RW Z.T φ H w v→G w ρ=some ρ'→(∀ σ',RS Z.T φ H ρ' σ'→Z.sg σ'→Q σ' H)→g v σ H Q
theorem tg_name {Z:Zc}{i:Nat}(hsg:∀ σ v,Z.sg σ→Z.sg (σ.set i (some v))):TgW Z (gName i) (gN i):=fun σ H φ h ρ w v ρ' Q x r e k=>by
 cases e
 exact k _ (x.rs.set r) (hsg _ _ x.sg)
def xAsg (G:Tg)(f:Ex):Sm:=fun ρ h=>match f ρ h with
 | .ok w h'=>(match G w ρ with
  | some ρ'=>.nx ρ' h'
  | none=>.no)
 | .ex w h'=>.ex w h'
 | .no=>.no
def xLoop (G:Tg)(B:Sm):List W→Sm
 | [],ρ,h=>.nx ρ h
 | w::r,ρ,h=>match G w ρ with
  | none=>.no
  | some ρ1=>(match B ρ1 h with
   | .nx ρ' h'=>xLoop G B r ρ' h'
   | .ct ρ' h'=>xLoop G B r ρ' h'
   | .bk ρ' h'=>.nx ρ' h'
   | o=>o)
inductive RsI where
 | ok (src:Option Nat) (ws:List W) (h:Mem) | ex (w:W) (h:Mem) | no
abbrev Ei:=Sg→Mem→RsI
def srcP (src:Option Nat)(ws:List W)(h:Mem):Prop:=match src with
 | none=>True
 | some n=>h[n]? = some (.lst ws)
structure ItOk (T:CTb)(φ:List Addr)(H:Hp)(J:It)(ws:List W)(P:Mem→Prop):Prop where
 go:∀ φ2 H2 h2 (i:Nat) w,Step φ H φ2 H2→RH T φ2 h2 H2→P h2→ws[i]? = some w→J.go i H2
 yld:∀ φ2 H2 h2 (i:Nat) w x H',Step φ H φ2 H2→RH T φ2 h2 H2→P h2→ws[i]? = some w→J.yld i H2 x H'→H'=H2∧RW T φ2 H2 w x
 stop:∀ φ2 H2 h2,Step φ H φ2 H2→RH T φ2 h2 H2→P h2→J.stop ws.length H2
def tHI (Z:Zc)(f:Ei):TI:=fun σ H R=>∃ φ h ρ,Here Z σ H φ h ρ∧match f ρ h with
 | .ok src ws h'=>∀ φ' H' J,Step φ H φ' H'→RH Z.T φ' h' H'→srcP src ws h'→ItOk Z.T φ' H' J ws (srcP src ws)→R J H'
 | .ex w h'=>Z.xw w h'
 | .no=>False
def xFor (f:Ei)(G:Tg)(B:Sm):Sm:=fun ρ h=>match f ρ h with
 | .ok none ws h'=>xLoop G B ws ρ h'
 | .ex w h'=>.ex w h'
 | _=>.no
section
variable {X:Cx} {Z:Zc} {f g k:Ex} {fa:Exs} {e a b c:Expr} {es:List Expr} {pos:Pos} {F G B:Sm} {st:Stmt} {rest sts body:List Stmt} {fi:Ei} {tg iter:Expr}
theorem _root_.L2.PS.imp {t t':TS}(h:PS X st t)(i:∀ D σ H,t' D σ H→t D σ H):PS X st t':=fun pins s σ H D I q=>h pins s σ H D I (i D σ H q)
theorem _root_.L2.PSs.imp {t t':TS}(h:PSs X sts t)(i:∀ D σ H,t' D σ H→t D σ H):PSs X sts t':=fun pins s σ H D I q=>h pins s σ H D I (i D σ H q)
theorem _root_.L2.PI.imp {t t':TI}(h:PI X tg iter t)(i:∀ σ H R,t' σ H R→t σ H R):PI X tg iter t':=fun pins s σ H R I q=>h pins s σ H R I (i σ H R q)
theorem Here.nx {σ:St}{H:Hp}{φ:List Addr}{h:Mem}{ρ:Sg}{n:St→Hp→Prop}(x:Here Z σ H φ h ρ)(q:Ks Z φ H n ρ h):n σ H:=q φ H σ (Step.refl _ _) x.rh x.rs x.sg
theorem pssh_nil:PSs X [] (tHS Z xNext):=pss_nil.imp fun D σ H ⟨φ,h,ρ,x,q⟩=>x.nx q
theorem seq_ok {D:Ends}{σ:St}{H:Hp}(h:tHS Z (xSeq F G) D σ H):tSeq (tHS Z F) (tHS Z G) D σ H:=by
 obtain ⟨φ,h,ρ,x,q⟩:=h
 refine ⟨φ,h,ρ,x,?_⟩
 unfold xSeq at q
 cases e:F ρ h with
 | nx ρ' h'=>
  rw [e] at q
  intro φ1 H1 σ1 s1 r1 rs1 g1
  exact ⟨φ1,h',ρ',⟨g1,x.st.trans s1,r1,rs1⟩,post_step q s1⟩
 | rt w h'=>rw [e] at q; exact q
 | bk ρ' h'=>rw [e] at q; exact q
 | ct ρ' h'=>rw [e] at q; exact q
 | ex w h'=>rw [e] at q; exact q
 | no=>rw [e] at q; exact q
theorem pssh_cons (h1:PS X st (tHS Z F))(h2:PSs X rest (tHS Z G)):PSs X (st::rest) (tHS Z (xSeq F G)):=(pss_cons h1 h2).imp fun D σ H q=>seq_ok q
theorem pssh_one (h1:PS X st (tHS Z F)):PSs X [st] (tHS Z F):=pss_one h1
theorem psh_ret (he:PE X e (tH Z f)):PS X (.Return (some e) pos) (tHS Z (xRet f)):=(ps_ret he).imp fun D σ H ⟨φ,h,ρ,x,q⟩=>⟨φ,h,ρ,x,by
 unfold xRet at q
 cases e:f ρ h with
 | ok w h'=>rw [e] at q; exact q
 | ex w h'=>rw [e] at q; exact q
 | no=>rw [e] at q; exact q⟩
theorem psh_expr (he:PE X e (tH Z f))(hs:swapsWith e none pos.line X.env=pure false:=by rfl):PS X (.Expr e pos) (tHS Z (xDrop f)):=(ps_expr he hs).imp fun D σ H ⟨φ,h,ρ,x,q⟩=>⟨φ,h,ρ,x,by
 unfold xDrop at q
 cases e:f ρ h with
 | ok w h'=>rw [e] at q; exact fun φ1 H1 v s1 r1 _=>q φ1 H1 σ s1 r1 (x.rs.step s1) x.sg
 | ex w h'=>rw [e] at q; exact q
 | no=>rw [e] at q; exact q⟩
theorem psh_if (hc:PT X c (tHT Z f))(ha:PSs X sts (tHS Z F))(hb:PSs X rest (tHS Z G)):PS X (.If c sts rest pos) (tHS Z (xIfS f F G)):=(ps_if hc ha hb).imp fun D σ H ⟨φ,h,ρ,x,q⟩=>⟨φ,h,ρ,x,by
 unfold xIfS at q
 cases e:f ρ h with
 | ok w h'=>
  rw [e] at q
  cases w with
  | bl b=>
   cases b with
   | true=>exact ⟨true,rfl,fun φ1 H1 s1 r1=>iteT ⟨φ1,h',ρ,x.step s1 r1,post_step q s1⟩⟩
   | false=>exact ⟨false,rfl,fun φ1 H1 s1 r1=>iteF ⟨φ1,h',ρ,x.step s1 r1,post_step q s1⟩⟩
  | _=>exact q.elim
 | ex w h'=>rw [e] at q; exact q
 | no=>rw [e] at q; exact q⟩
theorem asg_ok {gg:TG}{Gt:Tg}(hw:TgW Z gg Gt){D:Ends}{σ:St}{H:Hp}(h:tHS Z (xAsg Gt f) D σ H):tAsg (tH Z f) gg D σ H:=by
 obtain ⟨φ,h,ρ,x,q⟩:=h
 refine ⟨φ,h,ρ,x,?_⟩
 unfold xAsg at q
 cases e:f ρ h with
 | ok w h'=>
  rw [e] at q
  intro φ1 H1 v s1 r1 rw1
  simp only at q
  cases e2:Gt w ρ with
  | none=>rw [e2] at q; exact q.elim
  | some ρ'=>
   rw [e2] at q
   exact hw σ H1 φ1 h' ρ w v ρ' _ (x.step s1 r1) rw1 e2 fun σ' rs g=>q φ1 H1 σ' s1 r1 rs g
 | ex w h'=>rw [e] at q; exact q
 | no=>rw [e] at q; exact q
theorem psh_set {i:Nat}{x:Str}{pos':Pos}(hN:X.N.Nodup)(hi:X.N[i]? = some x)(hx:Loc X.env.scope x)(hsg:∀ σ v,Z.sg σ→Z.sg (σ.set i (some v)))(he:PE X e (tH Z f))(hs:swapsWith e (some (.Name x pos')) pos.line X.env=pure false:=by rfl)
  (hf:X.fn x=true∨X.env.scope.names.lookup x=some .local:=by first | exact .inl rfl | exact .inr rfl | assumption):PS X (.Assign [.Name x pos'] e pos) (tHS Z (xAsg (gN i) f)):=(ps_set hN hi hx he hs hf).imp fun D σ H q=>asg_ok (tg_name hsg) q
theorem loop_ok {gg:TG}{Gt:Tg}(hw:TgW Z gg Gt){J:It}{D:Ends}{ws:List W}{φ1:List Addr}{H1:Hp}{h1:Mem}{σ:St}{ρ:Sg}(x:Here Z σ H1 φ1 h1 ρ)(it:ItOk Z.T φ1 H1 J ws fun _=>True)(q:(xLoop Gt B ws ρ h1).post Z φ1 H1 D) :
  ∃ Wd:Nat→Nat→St→Hp→Prop,(∃ m,Wd 0 m σ H1)∧∀ i m σ H,Wd i m σ H→(J.stop i H∧D.nx σ H)∨(J.go i H∧∃ N:St→Hp→Prop,(∀ σ' H',N σ' H'→∃ m',m'<m∧Wd (i+1) m' σ' H') ∧
   ∀ v H',J.yld i H v H'→gg v σ H' fun σ2 H2=>tHS Z B { D with nx:=N,ct:=N,bk:=D.nx } σ2 H2):=by
 refine ⟨fun i m σ H=>m=ws.length - i∧i≤ws.length∧∃ φ h ρ,Step φ1 H1 φ H∧Here Z σ H φ h ρ∧(xLoop Gt B (ws.drop i) ρ h).post Z φ H D,⟨ws.length,by simp,Nat.zero_le _,φ1,h1,ρ,Step.refl _ _,x,q⟩,?_⟩
 rintro i m σ H ⟨rfl,hi,φ,h,ρ,s,y,q⟩
 by_cases hlt:i<ws.length
 ·have ed:ws.drop i=ws[i]::ws.drop (i+1):=List.drop_eq_getElem_cons hlt
  have ei:ws[i]? = some ws[i]:=by simp [hlt]
  refine .inr ⟨it.go φ H h i _ s y.rh trivial ei,fun σ' H'=>i+1≤ws.length∧∃ φ h ρ,Step φ1 H1 φ H'∧Here Z σ' H' φ h ρ∧(xLoop Gt B (ws.drop (i+1)) ρ h).post Z φ H' D,fun σ' H' p=>⟨ws.length - (i+1),by omega,rfl,p⟩,fun v H' yl=>?_⟩
  obtain ⟨rfl,rw1⟩:=it.yld φ H h i _ v H' s y.rh trivial ei yl
  rw [ed] at q
  unfold xLoop at q
  cases e2:Gt ws[i] ρ with
  | none=>rw [e2] at q; exact q.elim
  | some ρ'=>
   rw [e2] at q
   simp only at q
   refine hw σ H' φ h ρ _ v ρ' _ y rw1 e2 fun σ' rs g=>⟨φ,h,ρ',⟨g,y.st,y.rh,rs⟩,?_⟩
   cases e3:B ρ' h with
   | nx ρ2 h2=>
    rw [e3] at q
    exact fun φ2 H2 σ2 s2 r2 rs2 g2=>⟨hlt,φ2,h2,ρ2,s.trans s2,⟨g2,y.st.trans s2,r2,rs2⟩,post_step q s2⟩
   | ct ρ2 h2=>
    rw [e3] at q
    exact fun φ2 H2 σ2 s2 r2 rs2 g2=>⟨hlt,φ2,h2,ρ2,s.trans s2,⟨g2,y.st.trans s2,r2,rs2⟩,post_step q s2⟩
   | bk ρ2 h2=>rw [e3] at q; exact q
   | rt w2 h2=>rw [e3] at q; exact q
   | ex w2 h2=>rw [e3] at q; exact q
   | no=>rw [e3] at q; exact q.elim
 ·have e:i=ws.length:=by omega
  subst e
  rw [List.drop_length] at q
  exact .inl ⟨it.stop φ H h s y.rh trivial,y.nx q⟩
theorem for_ok {gg:TG}{Gt:Tg}(hw:TgW Z gg Gt){D:Ends}{σ:St}{H:Hp}(h:tHS Z (xFor fi Gt B) D σ H):tFor (tHI Z fi) gg (tHS Z B) D σ H:=by
 obtain ⟨φ,h,ρ,x,q⟩:=h
 refine ⟨φ,h,ρ,x,?_⟩
 unfold xFor at q
 cases e:fi ρ h with
 | no=>rw [e] at q; exact q.elim
 | ex w h'=>rw [e] at q; exact q
 | ok src ws h'=>
  rw [e] at q
  cases src with
  | some n=>exact q.elim
  | none=>exact fun φ1 H1 J s1 r1 _ it=>loop_ok hw (x.step s1 r1) it (post_step q s1)
theorem psh_for {gg:TG}{Gt:Tg}(hw:TgW Z gg Gt)(hp:PassesOwn (model X.prog X.w) X.A X.env X.xe)(hc:X.calm=true)(hi:PI X tg iter (tHI Z fi))(hg:PG X tg gg)(hb:PSs X body (tHS Z B))(hs:∀ x,foldedSetIterable iter X.env x=pure x:=by intro _; rfl) :
  PS X (.For tg iter body [] pos) (tHS Z (xFor fi Gt B)):=(ps_for hp hc hi hg hb hs).imp fun D σ H q=>for_ok hw q
def xIl (f:Ex):Ei:=fun ρ h=>match f ρ h with
 | .ok (.tl ws) h'=>.ok none ws h'
 | .ok (.ref n) h'=>(match h'[n]? with
  | some (.lst ws)=>.ok (some n) ws h'
  | _=>.no)
 | .ex w h'=>.ex w h'
 | _=>.no
theorem rws_get {T:CTb}{φ:List Addr}{H:Hp}:∀ {ws:List W} {vs:List V} {i:Nat} {w:W},RWs T φ H ws vs→ws[i]? = some w→∃ v,vs[i]? = some v∧RW T φ H w v
 | [],_,_,_,_,e=>by simp at e
 | w::ws,vs,i,u,h,e=>by
  unfold RWs at h
  obtain ⟨v,r,rfl,a,b⟩:=h
  cases i with
  | zero=>simp at e; subst e; exact ⟨v,by simp,a⟩
  | succ i=>
   obtain ⟨x,p,q⟩:=rws_get (i:=i) b (by simpa using e)
   exact ⟨x,by simpa using p,q⟩
theorem phi_list (h:PE X iter (tH Z f)):PI X tg iter (tHI Z (xIl f)):=by
 intro pins s σ H R I q
 have base:∀ b o,X.base.get? b=some o→H b=none:=fun b o e=>(I.bs b o e).2
 refine pi_list h pins s σ H R I ?_
 obtain ⟨φ,m,ρ,x,q⟩:=q
 refine ⟨φ,m,ρ,x,?_⟩
 unfold xIl at q
 cases e:f ρ m with
 | no=>rw [e] at q; exact q.elim
 | ex w h'=>rw [e] at q; exact q
 | ok w h'=>
  rw [e] at q
  intro φ1 H1 v s1 r1 rw1
  cases w with
  | tl ws=>
   unfold RW at rw1
   obtain ⟨p,vs,rfl,np,hp,rws⟩:=rw1
   refine ⟨p,rfl,⟨vs,lstAt_sq hp⟩,q φ1 H1 _ s1 r1 trivial ?_⟩
   obtain ⟨o,ho,ko⟩:=lstAt_cases hp
   refine ⟨fun φ2 H2 h2 i w s2 r2 _ ei=>?_,fun φ2 H2 h2 i w y H' s2 r2 _ ei yl=>?_,fun φ2 H2 h2 s2 r2 _=>?_⟩
   ·obtain ⟨v,ev,_⟩:=rws_get rws ei
    exact ⟨vs,v,lstAt_sq (ko H2 (s2.keep _ _ ho np)),ev⟩
   ·obtain ⟨v,ev,rv⟩:=rws_get rws ei
    obtain ⟨rfl,z⟩:=yl
    have:=z vs (lstAt_sq (ko _ (s2.keep _ _ ho np)))
    rw [ev] at this; cases this
    exact ⟨rfl,rv.step s2⟩
   ·exact ⟨vs,lstAt_sq (ko H2 (s2.keep _ _ ho np)),by rw [rws.length]; exact Nat.le_refl _⟩
  | ref n=>
   simp only at q
   cases e2:h'[n]? with
   | none=>rw [e2] at q; exact q.elim
   | some o=>
    rw [e2] at q
    cases o with
    | lst ws=>
     simp only at q
     unfold RW at rw1
     obtain ⟨p,hp,rfl⟩:=rw1
     have rd:∀ φ2 H2 h2,Step φ1 H1 φ2 H2→RH Z.T φ2 h2 H2→h2[n]? = some (.lst ws)→∃ vs,H2 p=some (.lst vs)∧RWs Z.T φ2 H2 ws vs:=fun φ2 H2 h2 s2 r2 e3=>by
      obtain ⟨ho,y1,y2⟩:=r2.obj n _ p e3 (s2.get hp)
      obtain ⟨vs,rfl,y3⟩:=y2
      exact ⟨vs,y1,y3⟩
     obtain ⟨vs,hv,rws⟩:=rd φ1 H1 h' (Step.refl _ _) r1 e2
     refine ⟨p,rfl,⟨vs,lstAt_sq (lstAt_of hv)⟩,q φ1 H1 _ s1 r1 e2 ⟨fun φ2 H2 h2 i w s2 r2 e3 ei=>?_,fun φ2 H2 h2 i w y H' s2 r2 e3 ei yl=>?_,fun φ2 H2 h2 s2 r2 e3=>?_⟩⟩
     ·obtain ⟨vs2,hv2,rws2⟩:=rd φ2 H2 h2 s2 r2 e3
      obtain ⟨v,ev,_⟩:=rws_get rws2 ei
      exact ⟨vs2,v,lstAt_sq (lstAt_of hv2),ev⟩
     ·obtain ⟨vs2,hv2,rws2⟩:=rd φ2 H2 h2 s2 r2 e3
      obtain ⟨v,ev,rv⟩:=rws_get rws2 ei
      obtain ⟨rfl,z⟩:=yl
      have:=z vs2 (lstAt_sq (lstAt_of hv2))
      rw [ev] at this; cases this
      exact ⟨rfl,rv⟩
     ·obtain ⟨vs2,hv2,rws2⟩:=rd φ2 H2 h2 s2 r2 e3
      exact ⟨vs2,lstAt_sq (lstAt_of hv2),by rw [rws2.length]; exact Nat.le_refl _⟩
    | _=>exact q.elim
  | _=>exact q.elim
def xIt (f:Ex):Ei:=fun ρ h=>match f ρ h with
 | .ok (.tup ws) h'=>.ok none ws h'
 | .ex w h'=>.ex w h'
 | _=>.no
theorem phi_tup (h:PE X iter (tH Z f)):PI X tg iter (tHI Z (xIt f)):=(pi_tup h).imp fun σ H R ⟨φ,m,ρ,x,q⟩=>⟨φ,m,ρ,x,by
 unfold xIt at q
 cases e:f ρ m with
 | no=>rw [e] at q; exact q.elim
 | ex w h'=>rw [e] at q; exact q
 | ok w h'=>
  rw [e] at q
  intro φ1 H1 v s1 r1 rw1
  cases w with
  | tup ws=>
   unfold RW at rw1
   obtain ⟨p,vs,rfl,np,hp,rws⟩:=rw1
   refine ⟨p,rfl,⟨vs,tupAt_sq (tupAt_of hp)⟩,q φ1 H1 _ s1 r1 trivial ?_⟩
   refine ⟨fun φ2 H2 h2 i w s2 r2 _ ei=>?_,fun φ2 H2 h2 i w y H' s2 r2 _ ei yl=>?_,fun φ2 H2 h2 s2 r2 _=>?_⟩
   ·obtain ⟨v,ev,_⟩:=rws_get rws ei
    exact ⟨vs,v,tupAt_sq (tupAt_of (s2.keep _ _ hp np)),ev⟩
   ·obtain ⟨v,ev,rv⟩:=rws_get rws ei
    obtain ⟨rfl,z⟩:=yl
    have:=z vs (tupAt_sq (tupAt_of (s2.keep _ _ hp np)))
    rw [ev] at this; cases this
    exact ⟨rfl,rv.step s2⟩
   ·exact ⟨vs,tupAt_sq (tupAt_of (s2.keep _ _ hp np)),by rw [rws.length]; exact Nat.le_refl _⟩
  | _=>exact q.elim⟩
def rngW (lo:Int)(n:Nat):List W:=(List.range n).map fun (i:Nat)=>.int (lo+(i:Int))
theorem rngW_get {lo:Int}{n i:Nat}{w:W}(h:(rngW lo n)[i]? = some w):i<n∧w=.int (lo+i):=by
 unfold rngW at h
 rw [List.getElem?_map] at h
 by_cases hi:i<n
 ·rw [List.getElem?_range hi] at h
  simp at h
  exact ⟨hi,h.symm⟩
 ·rw [List.getElem?_eq_none (by simpa using hi)] at h
  cases h
theorem it_rng {T:CTb}{φ:List Addr}{H:Hp}{lo:Int}{n:Nat}{P:Mem→Prop}:ItOk T φ H (Itr lo n) (rngW lo n) P:=
 ⟨fun φ2 H2 h2 i w s2 r2 _ ei=>(rngW_get ei).1,fun φ2 H2 h2 i w y H' s2 r2 _ ei yl=>⟨yl.1,by rw [(rngW_get ei).2,yl.2]; unfold RW; rfl⟩,fun φ2 H2 h2 s2 r2 _=>by show n≤_; simp [rngW]⟩
def xIr1 (f:Ex):Ei:=fun ρ h=>match f ρ h with
 | .ok (.int j) h'=>cond (decide (-(2 ^ 62)≤j) && decide (j<2 ^ 62)) (.ok none (rngW 0 j.toNat) h') .no
 | .ex w h'=>.ex w h'
 | _=>.no
theorem int_rw {T:CTb}{φ:List Addr}{H:Hp}{v:V}{c:Int}(h:RW T φ H (.int c) v):v=.int c:=by unfold RW at h; exact h
theorem str_rw {T:CTb}{φ:List Addr}{H:Hp}{v:V}{c:Str}(h:RW T φ H (.str c) v):v=.str c:=by unfold RW at h; exact h
theorem phi_range1 {p:Pos}(hg:Gl X "range")(hm:X.mg "range"=none)(ha:PE X a (tH Z f))(hs:starEach [a] X.env=[(false,eval a X.env)]:=by rfl):PI X tg (.Call (.Name "range" p) [a] [] pos) (tHI Z (xIr1 f)):=
 (pi_range1 hg hm (pa_cons ha pa_nil hs) hs).imp fun σ H R ⟨φ,m,ρ,x,q⟩=>⟨φ,m,ρ,x,by
  unfold xIr1 at q
  cases e:f ρ m with
  | no=>rw [e] at q; exact q.elim
  | ex w h'=>rw [e] at q; exact q
  | ok w h'=>
   rw [e] at q
   intro φ1 H1 v s1 r1 rw1
   cases w with
   | int j=>
    simp only at q
    cases hj:(decide (-(2 ^ 62)≤j) && decide (j<2 ^ 62)) with
    | true=>
     rw [hj] at q
     simp only [Bool.and_eq_true,decide_eq_true_eq] at hj
     rw [int_rw rw1]
     exact ⟨j,rfl,hj.1,hj.2,q φ1 H1 _ s1 r1 trivial it_rng⟩
    | false=>
     rw [hj] at q
     exact q.elim
   | _=>exact q.elim⟩
end
end M
namespace M
open PySem PySem.Spec PyProof.Rows L2
mutual
def ltW (k:Nat):W→Bool
 | .ref n=>decide (n<k)
 | .tup ws=>ltWs k ws
 | .tl ws=>ltWs k ws
 | .td _ ws=>ltWs k ws
 | .ti _ _ ws=>ltWs k ws
 | .exc _ _ ws=>ltWs k ws
 | .non=>true
 | .bl _=>true
 | .int _=>true
 | .str _=>true
 | .ty _=>true
 | .cls _=>true
def ltWs (k:Nat):List W→Bool
 | []=>true
 | w::ws=>ltW k w && ltWs k ws
end
def ltO (k:Nat):O→Bool
 | .lst ws=>ltWs k ws
 | .dic kvs=>ltWs k (kvs.map (·.2))
 | .fdic kvs=>ltWs k (kvs.map (·.2))
 | .ins _ fs=>ltWs k (fs.map (·.2))
section
variable {T:CTb} {φ φ':List Addr} {H H':Hp}
mutual
theorem RW.lt:∀ {w:W} {v:V},RW T φ H w v→ltW φ.length w=true
 | .non,v,h=>by unfold ltW; rfl
 | .bl b,v,h=>by unfold ltW; rfl
 | .int i,v,h=>by unfold ltW; rfl
 | .str x,v,h=>by unfold ltW; rfl
 | .ty n,v,h=>by unfold ltW; rfl
 | .cls c,v,h=>by unfold ltW; rfl
 | .ref n,v,h=>by
  unfold RW at h; unfold ltW
  obtain ⟨a,e,q⟩:=h
  exact decide_eq_true (List.getElem?_eq_some_iff.mp e).1
 | .tup ws,v,h=>by
  unfold RW at h; unfold ltW
  obtain ⟨p,vs,e,n,q,r⟩:=h
  exact RWs.lt r
 | .tl ws,v,h=>by
  unfold RW at h; unfold ltW
  obtain ⟨p,vs,e,n,q,r⟩:=h
  exact RWs.lt r
 | .td ks ws,v,h=>by
  unfold RW at h; unfold ltW
  obtain ⟨p,vs,e,n,q,l,r⟩:=h
  exact RWs.lt r
 | .ti c fs ws,v,h=>by
  unfold RW at h; unfold ltW
  obtain ⟨p,C,dx,vs,e,n,c,q,l,r⟩:=h
  exact RWs.lt r
 | .exc c fs ws,v,h=>by
  unfold RW at h; unfold ltW
  obtain ⟨e,C,d,vs,q,n,c,x,l,m,r⟩:=h
  exact RWs.lt r
theorem RWs.lt:∀ {ws:List W} {vs:List V},RWs T φ H ws vs→ltWs φ.length ws=true
 | [],vs,h=>by unfold ltWs; rfl
 | w::ws,vs,h=>by
  unfold RWs at h; unfold ltWs
  obtain ⟨v,r,e,a,b⟩:=h
  rw [RW.lt a,RWs.lt b]; rfl
end
mutual
theorem RW.narrow (pre:φ <+: φ'):∀ {w:W} {v:V},ltW φ.length w=true→RW T φ' H w v→RW T φ H w v
 | .non,v,l,h=>by unfold RW at h ⊢; exact h
 | .bl b,v,l,h=>by unfold RW at h ⊢; exact h
 | .int i,v,l,h=>by unfold RW at h ⊢; exact h
 | .str x,v,l,h=>by unfold RW at h ⊢; exact h
 | .ty n,v,l,h=>by unfold RW at h ⊢; exact h
 | .cls c,v,l,h=>by unfold RW at h ⊢; exact h
 | .ref n,v,l,h=>by
  unfold RW at h ⊢; unfold ltW at l
  obtain ⟨a,e,q⟩:=h
  refine ⟨a,?_,q⟩
  obtain ⟨t,rfl⟩:=pre
  rw [List.getElem?_append_left (of_decide_eq_true l)] at e
  exact e
 | .tup ws,v,l,h=>by
  unfold RW at h ⊢; unfold ltW at l
  obtain ⟨p,vs,e,n,q,r⟩:=h
  exact ⟨p,vs,e,fun z=>n (pre.subset z),q,RWs.narrow pre l r⟩
 | .tl ws,v,l,h=>by
  unfold RW at h ⊢; unfold ltW at l
  obtain ⟨p,vs,e,n,q,r⟩:=h
  exact ⟨p,vs,e,fun z=>n (pre.subset z),q,RWs.narrow pre l r⟩
 | .td ks ws,v,l,h=>by
  unfold RW at h ⊢; unfold ltW at l
  obtain ⟨p,vs,e,n,q,g,r⟩:=h
  exact ⟨p,vs,e,fun z=>n (pre.subset z),q,g,RWs.narrow pre l r⟩
 | .ti c fs ws,v,l,h=>by
  unfold RW at h ⊢; unfold ltW at l
  obtain ⟨p,C,dx,vs,e,n,c,q,g,r⟩:=h
  exact ⟨p,C,dx,vs,e,fun z=>n (pre.subset z),c,q,g,RWs.narrow pre l r⟩
 | .exc c fs ws,v,l,h=>by
  unfold RW at h ⊢; unfold ltW at l
  obtain ⟨e,C,d,vs,q,n,c,x,g,m,r⟩:=h
  refine ⟨e,C,d,vs,q,fun z=>n (pre.subset z),c,x,g,?_,RWs.narrow pre l r⟩
  cases d with
  | none=>exact m
  | some da=>exact ⟨fun z=>m.1 (pre.subset z),m.2⟩
theorem RWs.narrow (pre:φ <+: φ'):∀ {ws:List W} {vs:List V},ltWs φ.length ws=true→RWs T φ' H ws vs→RWs T φ H ws vs
 | [],vs,l,h=>by unfold RWs at h ⊢; exact h
 | w::ws,vs,l,h=>by
  unfold RWs at h ⊢; unfold ltWs at l
  rw [Bool.and_eq_true] at l
  obtain ⟨v,r,e,a,b⟩:=h
  exact ⟨v,r,e,RW.narrow pre l.1 a,RWs.narrow pre l.2 b⟩
end
theorem rp_lt {κ:Type}{ps:List (κ×W)}{qs:List (κ×V)}(h:RP T φ H ps qs):ltWs φ.length (ps.map (·.2))=true:=by
 induction h with
 | nil=>unfold ltWs; rfl
 | cons a _ ih=>rw [List.map_cons]; unfold ltWs; rw [RW.lt a.2,ih]; rfl
theorem rp_narrow {κ:Type}(pre:φ <+: φ'){ps:List (κ×W)}{qs:List (κ×V)}(l:ltWs φ.length (ps.map (·.2))=true)(h:RP T φ' H ps qs):RP T φ H ps qs:=by
 induction h with
 | nil=>exact .nil
 | cons a _ ih=>
  rw [List.map_cons] at l; unfold ltWs at l
  rw [Bool.and_eq_true] at l
  exact .cons ⟨a.1,RW.narrow pre l.1 a.2⟩ (ih l.2)
theorem RO.lt {o:O}{ho:HO}(h:RO T φ H o ho):ltO φ.length o=true:=by
 cases o with
 | lst ws=>obtain ⟨vs,e,r⟩:=h; exact RWs.lt r
 | dic kvs=>obtain ⟨kv,e,r⟩:=h; exact rp_lt r
 | ins c fs=>obtain ⟨C,dx,fv,e,c,r⟩:=h; exact rp_lt r
 | fdic kvs=>obtain ⟨ob,kv,e,r⟩:=h; exact rp_lt r
theorem RO.narrow (pre:φ <+: φ'){o:O}{ho:HO}(l:ltO φ.length o=true)(h:RO T φ' H o ho):RO T φ H o ho:=by
 cases o with
 | lst ws=>obtain ⟨vs,e,r⟩:=h; exact ⟨vs,e,RWs.narrow pre l r⟩
 | dic kvs=>obtain ⟨kv,e,r⟩:=h; exact ⟨kv,e,rp_narrow pre l r⟩
 | ins c fs=>obtain ⟨C,dx,fv,e,c,r⟩:=h; exact ⟨C,dx,fv,e,c,rp_narrow pre l r⟩
 | fdic kvs=>obtain ⟨ob,kv,e,r⟩:=h; exact ⟨ob,kv,e,rp_narrow pre l r⟩
def Wf (h:Mem):Prop:=∀ o∈h,ltO h.length o=true
theorem RH.wf {h:Mem}(r:RH T φ h H):Wf h:=fun o m=>by
 obtain ⟨n,hn,e⟩:=List.getElem_of_mem m
 obtain ⟨a,ho,_,_,x⟩:=r.at (n:=n) (o:=o) (by simp [hn,e])
 rw [← r.len]
 exact x.lt
theorem RH.drop {h g:Mem}(r:RH T φ' (h++g) H)(w:Wf h):∃ φ,φ <+: φ'∧φ.length=h.length∧RH T φ h H:=by
 have hl:=r.len
 rw [List.length_append] at hl
 have hk:(φ'.take h.length).length=h.length:=by rw [List.length_take]; omega
 refine ⟨φ'.take h.length,List.take_prefix _ _,hk,hk,r.nd.sublist (List.take_sublist _ _),fun n o a e q=>?_⟩
 have hn:n<h.length:=(List.getElem?_eq_some_iff.mp e).1
 rw [List.getElem?_take_of_lt hn] at q
 obtain ⟨ho,x,y⟩:=r.obj n o a (by rw [List.getElem?_append_left hn]; exact e) q
 refine ⟨ho,x,y.narrow (List.take_prefix _ _) ?_⟩
 rw [hk]
 exact w o (List.mem_of_getElem? e)
end
theorem pre_eq {φ φ':List Addr}(p:φ <+: φ')(h:φ'.length=φ.length):φ'=φ:=by
 obtain ⟨t,rfl⟩:=p
 have:t=[]:=List.length_eq_zero_iff.mp (by simpa using h)
 rw [this,List.append_nil]
def ρC (own:Nat)(ix:List Nat)(ρ:Sg):Sg:=List.replicate own none++ix.map fun j=>(ρ[j]?).join
def xBlk (G:Tg)(c el:Ex)(ρ0:Sg)(h:Mem):List W→List W→Option (List W)
 | [],acc=>some acc
 | w::r,acc=>match G w ρ0 with
  | none=>none
  | some ρ=>(match c ρ (h++[.lst acc]) with
   | .ok (.bl true) _=>(match el ρ (h++[.lst acc]) with
    | .ok x _=>if ltW h.length x=true then xBlk G c el ρ0 h r (acc++[x]) else none
    | _=>none)
   | .ok (.bl false) _=>xBlk G c el ρ0 h r acc
   | _=>none)
def xComp (fi:Ei)(own:Nat)(ix:List Nat)(G:Tg)(c el:Ex):Ex:=fun ρ h=>match fi ρ h with
 | .ok _ ws h1=>if ws.length<sizeLine then (match xBlk G c el (ρC own ix ρ) h1 ws [] with
  | some out=>.ok (.tl out) h1
  | none=>.no) else .no
 | .ex w h1=>.ex w h1
 | .no=>.no
class Pu (f:Ex):Prop where
 pu:∀ ρ h w h',f ρ h=.ok w h'→h'=h
class PuS (f:Exs):Prop where
 pu:∀ ρ h w h',f ρ h=.ok w h'→h'=h
def Zb (T:CTb)(own:List Str)(ix:List Nat)(σ:St):Zc:=⟨T,[],fun _=>none,fun σ'=>leS (σC own ix σ) σ',fun _ _=>False⟩
theorem step_nil {φ:List Addr}{H:Hp}:Step [] (fun _=>none) φ H:=⟨⟨List.nil_prefix,fun _ _ e=>(by cases e),fun _ _ _=>rfl⟩,fun _ _ _ e=>by cases e⟩
theorem leS_refl:∀ (σ:St),leS σ σ
 | []=>trivial
 | none::r=>leS_refl r
 | some x::r=>⟨rfl,leS_refl r⟩
theorem leS_set:∀ {σ σ':St} {i:Nat} {o:Option V},leS σ σ'→σ[i]? = some none→leS σ (σ'.set i o)
 | [],_,_,_,h,e=>by simp at e
 | none::r,[],_,_,h,_=>h.elim
 | some x::r,[],_,_,h,_=>h.elim
 | none::r,y::s,0,o,h,_=>h
 | some x::r,y::s,0,o,h,e=>by simp at e
 | none::r,y::s,i+1,o,h,e=>leS_set (σ:=r) (σ':=s) h (by simpa using e)
 | some x::r,y::s,i+1,o,h,e=>⟨h.1,leS_set (σ:=r) (σ':=s) h.2 (by simpa using e)⟩
theorem zb_set {T:CTb}{own:List Str}{ix:List Nat}{σ:St}{i:Nat}(hi:i<own.length):∀ σ' v,(Zb T own ix σ).sg σ'→(Zb T own ix σ).sg (σ'.set i (some v)):=fun σ' v h=>leS_set h (by
 unfold σC
 rw [List.getElem?_append_left (by simpa using hi)]
 simp [hi])
theorem rs_C {T:CTb}{φ:List Addr}{H:Hp}{ρ:Sg}{σ:St}{own:List Str}{ix:List Nat}(r:RS T φ H ρ σ):RS T φ H (ρC own.length ix ρ) (σC own ix σ):=by
 refine ⟨by simp [ρC,σC],fun i w e=>?_⟩
 unfold ρC at e
 unfold σC
 by_cases hi:i<own.length
 ·rw [List.getElem?_append_left (by simpa using hi)] at e
  simp [hi] at e
 ·rw [List.getElem?_append_right (by simpa using hi),List.length_replicate,List.getElem?_map] at e
  rw [List.getElem?_append_right (by simpa using hi),List.length_replicate,List.getElem?_map]
  cases q:ix[i - own.length]? with
  | none=>rw [q] at e; cases e
  | some j=>
   rw [q] at e
   have e:(ρ[j]?).join=some w:=Option.some.inj e
   have e2:ρ[j]? = some (some w):=by
    cases z:ρ[j]? with
    | none=>rw [z] at e; cases e
    | some o=>rw [z] at e; exact congrArg some e
   obtain ⟨v,a,b⟩:=r.var j w e2
   exact ⟨v,by rw [Option.map_some,a]; rfl,b⟩
theorem rws_snoc {T:CTb}{φ:List Addr}{H:Hp}{w:W}{v:V}:∀ {ws:List W} {vs:List V},RWs T φ H ws vs→RW T φ H w v→RWs T φ H (ws++[w]) (vs++[v])
 | [],vs,h,q=>by unfold RWs at h; subst h; unfold RWs; exact ⟨v,[],rfl,q,by unfold RWs; rfl⟩
 | x::ws,vs,h,q=>by
  unfold RWs at h
  obtain ⟨y,r,rfl,a,b⟩:=h
  rw [List.cons_append,List.cons_append]
  unfold RWs
  exact ⟨y,_,rfl,a,rws_snoc b q⟩
section
variable {X:Cx} {Z:Zc} {f g k:Ex} {fa:Exs} {fi:Ei} {osc:Scope} {N own fr:List Str} {ix:List Nat} {scope:Scope} {tg iter elt:Expr} {ifs:List Expr} {pos:Pos} {e c:Expr}
theorem pcsh_nil:PCs X [] (tHT Z (xC (.bl true))):=fun pins s σ H Q I ⟨φ,h,ρ,x,b,e,k⟩=>by
 cases e
 exact pcs_nil pins s σ H Q I (k φ H (Step.refl _ _) x.rh)
theorem pcsh_one (h:PT X c (tHT Z f)):PCs X [c] (tHT Z f):=fun pins s σ H Q I q=>by
 refine pcs_cons h pcs_nil pins s σ H Q I ?_
 obtain ⟨φ,h,ρ,x,q⟩:=q
 exact ⟨φ,h,ρ,x,q.mono fun w h' ⟨b,e,k⟩=>⟨b,e,fun φ' H' s r=>by
  cases b with
  | true=>exact iteT (k φ' H' s r)
  | false=>exact iteF (k φ' H' s r)⟩⟩
theorem blk_ok {gg:TG}{G:Tg}{cc el:Ex}{T:CTb}{σ:St}{ρ:Sg}{φ1:List Addr}{H1:Hp}{h1:Mem}{J:It}{ws out:List W}{src:Option Nat}(hG:TgW (Zb T own ix σ) gg G)[hc:Pu cc][he:Pu el](hz:ws.length<sizeLine)
  (r1:RH T φ1 h1 H1) (rs:RS T φ1 H1 ρ σ) (sp:srcP src ws h1) (it:ItOk T φ1 H1 J ws (srcP src ws)) (q:xBlk G cc el (ρC own.length ix ρ) h1 ws []=some out) (acc:Addr) (ha:H1 acc=none) {Q:Hp→Prop}
  (k:∀ H',Step φ1 H1 φ1 H'→RH T φ1 h1 H'→RW T φ1 H' (.tl out) (.ref acc)→Q H') :
  tBlock J (σC own ix σ) acc gg (tHT (Zb T own ix σ) cc) (tH (Zb T own ix σ) el) Q (upd H1 acc (.lst [])):=by
 have s0:=step_new (φ:=φ1) (ho:=.lst []) ha
 have rb:=r1.new (o:=.lst []) ha (by unfold RO; exact ⟨[],rfl,by unfold RWs; rfl⟩)
 have lenb:(φ1++[acc]).length=φ1.length+1:=by simp
 have spb:∀ aw,srcP src ws (h1++[O.lst aw]):=fun aw=>by
  cases src with
  | none=>trivial
  | some n=>
   have sp:h1[n]? = some (.lst ws):=sp
   show (h1++[O.lst aw])[n]? = some (.lst ws)
   rw [List.getElem?_append_left (List.getElem?_eq_some_iff.mp sp).1]
   exact sp
 refine ⟨fun i m H=>m=ws.length - i∧i≤ws.length∧∃ aw,Step (φ1++[acc]) (upd H1 acc (.lst [])) (φ1++[acc]) H∧RH T (φ1++[acc]) (h1++[.lst aw]) H∧aw.length≤i∧ltWs h1.length aw=true∧xBlk G cc el (ρC own.length ix ρ) h1 (ws.drop i) aw=some out,
  ⟨ws.length,by simp,Nat.zero_le _,[],Step.refl _ _,rb,Nat.le_refl _,by unfold ltWs; rfl,q⟩,?_⟩
 rintro i m H ⟨rfl,hi,aw,sH,rH,al,lt,q⟩
 have hn:(φ1++[acc])[h1.length]? = some acc:=by rw [← r1.len]; simp
 by_cases hlt:i<ws.length
 ·have ed:ws.drop i=ws[i]::ws.drop (i+1):=List.drop_eq_getElem_cons hlt
  have ei:ws[i]? = some ws[i]:=by simp [hlt]
  refine .inr ⟨it.go _ H _ i _ (s0.trans sH) rH (spb aw) ei,fun x H' yl=>?_⟩
  obtain ⟨rfl,rwx⟩:=it.yld _ H _ i _ x H' (s0.trans sH) rH (spb aw) ei yl
  rw [ed] at q
  unfold xBlk at q
  cases e2:G ws[i] (ρC own.length ix ρ) with
  | none=>rw [e2] at q; cases q
  | some ρ'=>
   rw [e2] at q
   simp only at q
   have x0:Here (Zb T own ix σ) (σC own ix σ) H' (φ1++[acc]) (h1++[.lst aw]) (ρC own.length ix ρ):=⟨leS_refl _,step_nil,rH,rs_C (rs.step (s0.trans sH))⟩
   refine hG _ _ _ _ _ _ x ρ' _ x0 rwx e2 fun σ' rs' le=>⟨le,?_⟩
   have x1:Here (Zb T own ix σ) σ' H' (φ1++[acc]) (h1++[.lst aw]) ρ':=⟨le,step_nil,rH,rs'⟩
   refine ⟨_,_,ρ',x1,?_⟩
   cases e3:cc ρ' (h1++[.lst aw]) with
   | no=>rw [e3] at q; cases q
   | ex w h2=>rw [e3] at q; cases q
   | ok w h2=>
    have eh:=hc.pu _ _ _ _ e3
    subst eh
    rw [e3] at q
    cases w with
    | bl b=>
     refine ⟨b,rfl,fun φ3 H3 s3 r3=>?_⟩
     have e4:φ3=φ1++[acc]:=pre_eq s3.pre (by rw [r3.len,rH.len])
     subst e4
     cases b with
     | false=>
      refine iteF ⟨ws.length - (i+1),by omega,rfl,hlt,aw,sH.trans s3,r3,by omega,lt,q⟩
     | true=>
      refine iteT ⟨_,_,ρ',x1.step s3 r3,?_⟩
      simp only at q
      cases e5:el ρ' (h1++[.lst aw]) with
      | no=>rw [e5] at q; cases q
      | ex w h2=>rw [e5] at q; cases q
      | ok y h2=>
       have eh:=he.pu _ _ _ _ e5
       subst eh
       rw [e5] at q
       simp only at q
       split at q
       ·rename_i ly
        intro φ4 H4 v s4 r4 rw4
        have e4:φ4=φ1++[acc]:=pre_eq s4.pre (by rw [r4.len,rH.len])
        subst e4
        obtain ⟨ho,y1,ys,rfl,y2⟩:=r4.obj h1.length (.lst aw) acc (by simp) hn
        have lw:=y2.length
        have s5:=step_set (H:=H4) (ho:=.lst (ys++[v])) (List.mem_of_getElem? hn) (nf_lst y1)
        have r5:=r4.set (o:=.lst (aw++[y])) (ho:=.lst (ys++[v])) hn (by unfold RO; exact ⟨_,rfl,rws_snoc y2 rw4⟩)
        rw [List.set_append_right _ _ (Nat.le_refl _),Nat.sub_self,List.set_cons_zero] at r5
        refine ⟨ys,y1,by omega,ws.length - (i+1),by omega,rfl,hlt,aw++[y],(sH.trans s3).trans (s4.trans s5),r5,by simp; omega,?_,q⟩
        have snoc:∀ (l:List W),ltWs h1.length l=true→ltWs h1.length (l++[y])=true:=by
         intro l
         induction l with
         | nil=>intro _; show ltWs _ [y]=true; unfold ltWs; rw [ly]; unfold ltWs; rfl
         | cons z r ih=>
          intro hz
          rw [List.cons_append]
          unfold ltWs at hz ⊢
          rw [Bool.and_eq_true] at hz
          rw [hz.1,ih hz.2]; rfl
        exact snoc aw lt
       ·cases q
    | _=>cases q
 ·have e:i=ws.length:=by omega
  subst e
  rw [List.drop_length] at q
  unfold xBlk at q
  have q:=Option.some.inj q
  subst q
  refine .inl ⟨it.stop _ H _ (s0.trans sH) rH (spb _),?_⟩
  have s2:Step φ1 H1 φ1 H:=⟨⟨List.prefix_refl _,fun a o e n=>(s0.trans sH).keep a o e n,fun _ m n=>absurd m n⟩,fun a o u e=>(s0.trans sH).fr a o u e⟩
  obtain ⟨φ2,p2,l2,r2⟩:=rH.drop r1.wf
  have e2:φ2=φ1:=by
   have:=List.prefix_of_prefix_length_le p2 (List.prefix_append φ1 [acc]) (by rw [l2,← r1.len]; exact Nat.le_refl _)
   exact (pre_eq this (by rw [l2,← r1.len])).symm
  subst e2
  obtain ⟨ho,y1,ys,rfl,y2⟩:=rH.obj h1.length (.lst aw) acc (by simp) hn
  refine k H s2 r2 ?_
  unfold RW
  exact ⟨acc,ys,rfl,r1.fresh ha,lstAt_of y1,y2.narrow (List.prefix_append _ _) (by rw [r1.len]; exact lt)⟩
theorem ph_comp {gg:TG}{G:Tg}{cc el:Ex}(hcalm:X.calm=true)(ho:X.env.scope=osc)(hN:X.N=N)(hk:compOk osc N own fr ix scope=true)(hi:PI X tg iter (tHI Z fi))(hG:∀ σ,TgW (Zb Z.T own ix σ) gg G)[hc:Pu cc][he:Pu el]
  (hg:InC X own fr scope fun Y=>PG Y tg gg) (ht:∀ σ,InC X own fr scope fun Y=>PCs Y ifs (tHT (Zb Z.T own ix σ) cc)) (hel:∀ σ,InC X own fr scope fun Y=>PE Y elt (tH (Zb Z.T own ix σ) el)) (hs:∀ x,foldedSetIterable iter X.env x=pure x:=by intro _; rfl) :
  PE X (.ListComp elt [⟨tg,iter,ifs,0⟩] scope pos) (tH Z (xComp fi own.length ix G cc el)):=by
 intro pins s σ H Q I q
 refine pe_comp hcalm ho hN hk hi hg (ht σ) (hel σ) hs pins s σ H Q I ?_
 obtain ⟨φ,h,ρ,x,q⟩:=q
 refine ⟨φ,h,ρ,x,?_⟩
 unfold xComp at q
 cases e:fi ρ h with
 | no=>rw [e] at q; exact q.elim
 | ex w h'=>rw [e] at q; exact q
 | ok src ws h1=>
  rw [e] at q
  simp only at q
  split at q
  ·rename_i hz
   cases e2:xBlk G cc el (ρC own.length ix ρ) h1 ws [] with
   | none=>rw [e2] at q; exact q.elim
   | some out=>
    rw [e2] at q
    intro φ1 H1 J s1 r1 sp it acc ha
    exact blk_ok (hG σ) hz r1 (x.rs.step s1) sp it e2 acc ha fun H' s2 r2 w2=>q φ1 H' _ (s1.trans s2) r2 w2
  ·exact q.elim
theorem psh_setc {gg:TG}{G:Tg}{cc el:Ex}{i:Nat}{x:Str}{px spos:Pos}(hnd:X.N.Nodup)(hi':X.N[i]? = some x)(hl:X.env.scope.names.lookup x=some .local)(hsg:∀ σ v,Z.sg σ→Z.sg (σ.set i (some v)))(hcalm:X.calm=true)(ho:X.env.scope=osc)(hN:X.N=N)
  (hk:compOk osc N own fr ix scope=true) (hi:PI X tg iter (tHI Z fi)) (hG:∀ σ,TgW (Zb Z.T own ix σ) gg G) [hc:Pu cc] [he:Pu el]
  (hg:InC X own fr scope fun Y=>PG Y tg gg) (ht:∀ σ,InC X own fr scope fun Y=>PCs Y ifs (tHT (Zb Z.T own ix σ) cc)) (hel:∀ σ,InC X own fr scope fun Y=>PE Y elt (tH (Zb Z.T own ix σ) el)) (hs:∀ x,foldedSetIterable iter X.env x=pure x:=by intro _; rfl)
  (hsw:swapsWith (.ListComp elt [⟨tg,iter,ifs,0⟩] scope pos) (some (.Name x px)) spos.line X.env=pure true:=by rfl) :
  PS X (.Assign [.Name x px] (.ListComp elt [⟨tg,iter,ifs,0⟩] scope pos) spos) (tHS Z (xAsg (gN i) (xComp fi own.length ix G cc el))):=by
 intro pins s σ H D I q
 refine ps_setc hnd hi' hl hcalm ho hN hk hi hg (ht σ) (hel σ) hs hsw pins s σ H D I ?_
 obtain ⟨φ,h,ρ,x,q⟩:=q
 refine ⟨φ,h,ρ,x,?_⟩
 unfold xAsg xComp at q
 cases e:fi ρ h with
 | no=>rw [e] at q; exact q.elim
 | ex w h'=>rw [e] at q; exact q
 | ok src ws h1=>
  rw [e] at q
  simp only at q
  by_cases hz:ws.length<sizeLine
  ·rw [if_pos hz] at q
   cases e2:xBlk G cc el (ρC own.length ix ρ) h1 ws [] with
   | none=>rw [e2] at q; exact q.elim
   | some out=>
    rw [e2] at q
    intro φ1 H1 J s1 r1 sp it acc ha
    exact blk_ok (hG σ) hz r1 (x.rs.step s1) sp it e2 acc ha fun H' s2 r2 w2=>q φ1 H' _ (s1.trans s2) r2 ((x.rs.step (s1.trans s2)).set w2) (hsg _ _ x.sg)
  ·rw [if_neg hz] at q
   exact q.elim
end
end M
namespace M
open PySem PySem.Spec PyProof.Rows L2
def RX (T:CTb)(φ:List Addr)(H:Hp)(w:W)(cv:Value)(da:Option Addr):Prop:=match w with
 | .exc c fs ws=>∃ C vs,T.x c=some C∧cv=.ref C∧fs.length=ws.length∧RWs T φ H ws vs∧(match da with
  | some d=>d ∉ φ∧H d=some (.xd (fs.zip vs))
  | none=>fs=[])
 | _=>False
abbrev Fm:=List W→Mem→Res
def spH (T:CTb)(F:Fm):Sp:=fun vs H Q E=>∃ φ h ws,RH T φ h H∧RWs T φ H ws vs∧(F ws h).post (Kv T φ H Q) (fun w h'=>∀ φ' H' cv da,Step φ H φ' H'→RH T φ' h' H'→RX T φ' H' w cv da→E cv da H')
def startW (n:Nat)(ws:List W):Sg:=ws.map some++List.replicate (n - ws.length) none
def Out.res:Out→Res
 | .rt w h=>.ok w h
 | .nx _ h=>.ok .non h
 | .ex w h=>.ex w h
 | _=>.no
def runB (n:Nat)(B:Sm)(ws:List W)(h:Mem):Res:=(B (startW n ws) h).res
def Fits (k:Nat)(r r':Res):Prop:=match r,r' with
 | .ok w h,.ok w' h'=>∀ T φ' H' v,RH T φ' h' H'→RW T φ' H' w' v→∃ φ1,φ1 <+: φ'∧k≤φ1.length∧RH T φ1 h H'∧RW T φ1 H' w v
 | .ex w h,.ex w' h'=>∀ T φ' H' cv da,RH T φ' h' H'→RX T φ' H' w' cv da→∃ φ1,φ1 <+: φ'∧k≤φ1.length∧RH T φ1 h H'∧RX T φ1 H' w cv da
 | .no,_=>True
 | _,_=>False
theorem fits_ok {k:Nat}{w:W}{h:Mem}(hk:k≤h.length):Fits k (.ok w h) (.ok w h):=fun T φ' H' v r x=>⟨φ',List.prefix_refl _,by rw [r.len]; exact hk,r,x⟩
theorem fits_is {k:Nat}{w:W}{h:Mem}{r:Res}(e:r=.ok w h)(hk:k≤h.length):Fits k (.ok w h) r:=by rw [e]; exact fits_ok hk
theorem fits_ex {k:Nat}{w:W}{h:Mem}(hk:k≤h.length):Fits k (.ex w h) (.ex w h):=fun T φ' H' cv da r x=>⟨φ',List.prefix_refl _,by rw [r.len]; exact hk,r,x⟩
theorem fits_drop {k:Nat}{w:W}{h g:Mem}(hk:k≤h.length)(wf:Wf h)(lt:ltW h.length w=true):Fits k (.ok w h) (.ok w (h++g)):=fun T φ' H' v r x=>by
 obtain ⟨φ1,p1,l1,r1⟩:=r.drop wf
 exact ⟨φ1,p1,by rw [l1]; exact hk,r1,x.narrow p1 (by rw [l1]; exact lt)⟩
def Zf (T:CTb)(φ:List Addr)(H:Hp):Zc:=⟨T,φ,H,fun _=>True,fun _ _=>False⟩
theorem rs_start {T:CTb}{φ:List Addr}{H:Hp}{ws:List W}{vs:List V}{N:List Str}(r:RWs T φ H ws vs):RS T φ H (startW N.length ws) (L2.start N vs):=by
 have hl:=r.length
 refine ⟨by simp [startW,L2.start,hl],fun i w e=>?_⟩
 unfold startW at e
 unfold L2.start
 by_cases hi:i<ws.length
 ·rw [List.getElem?_append_left (by simpa using hi),List.getElem?_map] at e
  cases q:ws[i]? with
  | none=>rw [q] at e; cases e
  | some u=>
   rw [q] at e
   cases e
   obtain ⟨v,a,b⟩:=rws_get r q
   exact ⟨v,by rw [List.getElem?_append_left (by simpa [← hl] using hi),List.getElem?_map,a]; rfl,b⟩
 ·rw [List.getElem?_append_right (by simpa using hi),List.getElem?_replicate] at e
  split at e <;> cases e
theorem step_fits {φ φ' φ1:List Addr}{H H':Hp}(s:Step φ H φ' H')(p:φ1 <+: φ')(l:φ.length≤φ1.length):Step φ H φ1 H':=
 ⟨⟨List.prefix_of_prefix_length_le s.pre p l,s.keep,fun a m n=>s.new a (p.subset m) n⟩,s.fr⟩
theorem body_ok {T:CTb}{φ:List Addr}{H:Hp}{h:Mem}{o:Out}{r:Res}{Q:VK}{E:W→Mem→Prop}(hl:φ.length=h.length)(ft:Fits h.length r o.res)(q:r.post (Kv T φ H Q) E)(hE:∀ w m w' m',r=.ex w m→o=.ex w' m'→False) :
  o.post (Zf T φ H) φ H { nx:=fun _ H'=>Q .non H',rt:=Q }:=by
 cases r with
 | no=>exact q.elim
 | ex w m=>
  cases o with
  | ex w' m'=>exact (hE _ _ _ _ rfl rfl).elim
  | _=>exact ft.elim
 | ok w m=>
  cases o with
  | rt w' m'=>
   intro φ' H' v s r x
   obtain ⟨φ1,p1,l1,r1,x1⟩:=ft T φ' H' v r x
   exact q φ1 H' v (step_fits s p1 (by rw [hl]; exact l1)) r1 x1
  | nx ρ' m'=>
   intro φ' H' σ' s r rs _
   obtain ⟨φ1,p1,l1,r1,x1⟩:=ft T φ' H' .non r (by unfold RW; rfl)
   exact q φ1 H' .non (step_fits s p1 (by rw [hl]; exact l1)) r1 x1
  | _=>exact ft.elim
section
variable {P:Program} {w:World} {K:PySem.W.Frag} {mg:Str→Option Value} {base:Heap} {T:CTb}
def Told (n m:Nat)(B:Sm)(F:Fm):Prop:=∀ ws h,Wf h→ltWs h.length ws=true→F ws h=.no∨(ws.length=n∧Fits h.length (F ws h) (runB m B ws h))
theorem fun0 {x:Str}{st:Stmt}{N ps:List Str}{k:Nat}{F:Fm}{f:Addr}{fd:FuncData}{B:Sm}(R:Fun K x x st f fd)(S:FnScope N ps (defScope st))
  (hB:∀ (cdv:Value) (A:Around) (outer:List Env) (s:Shared) (H:Hp) (E:XK) (φ0:List Addr) (H0:Hp),Room k (A.deeper (envOfC x (defScope st) s.heap.objs.size f cdv))→PSs (cxOf CX0 P w K mg base N x (defScope st) f cdv A outer s H E).nox (defBody st) (tHS (Zf T φ0 H0) B))
  (hx:∀ ws h w m,F ws h≠.ex w m) (hF:Told ps.length N.length B F):FnOk P w K mg base CX0 (k+1) f fd ps (spH T F):=by
 refine R.ok S (fun vs H Q E h=>?_) (fun cdv A outer s H vs Q E hr h=>?_)
 ·obtain ⟨φ,h,ws,r,rv,q⟩:=h
  rcases hF ws h r.wf (by rw [← r.len]; exact rv.lt) with e | ⟨e,_⟩
  ·rw [e] at q; exact q.elim
  ·rw [← rv.length]; exact e
 ·obtain ⟨φ,h,ws,r,rv,q⟩:=h
  refine ⟨_,hB cdv A outer s H E φ H hr,φ,h,startW N.length ws,⟨trivial,Step.refl _ _,r,rs_start rv⟩,?_⟩
  rcases hF ws h r.wf (by rw [← r.len]; exact rv.lt) with e | ⟨e,ft⟩
  ·rw [e] at q; exact q.elim
  ·exact body_ok r.len ft q fun _ _ _ _ e _=>hx _ _ _ _ e
theorem def0 {x:Str}{st:Stmt}{N ps:List Str}{k:Nat}{F:Fm}{B:Sm}(R:DefAt K mg x st)(S:FnScope N ps (defScope st))(hb:BindsAll x x st ps)
  (hB:∀ (f:Addr) (cdv:Value) (A:Around) (outer:List Env) (s:Shared) (H:Hp) (E:XK) (φ0:List Addr) (H0:Hp),Room k (A.deeper (envOfC x (defScope st) s.heap.objs.size f cdv))→PSs (cxOf CX0 P w K mg base N x (defScope st) f cdv A outer s H E).nox (defBody st) (tHS (Zf T φ0 H0) B))
  (hx:∀ ws h w m,F ws h≠.ex w m) (hF:Told ps.length N.length B F):FnAt P w K mg base CX0 (k+1) x (spH T F):=by
 obtain ⟨f,fd,R,hm⟩:=R
 exact ⟨f,fd,ps,fun0 R S (hB f) hx hF,hm,R.kp,R.binds hb⟩
end
def xCall0 (F:Fm)(f:Exs):Ex:=fun ρ h=>match f ρ h with
 | .ok ws h1=>(match F ws h1 with
  | .ok w h2=>.ok w h2
  | _=>.no)
 | .ex w h1=>.ex w h1
 | .no=>.no
section
variable {X:Cx} {Z:Zc} {fa:Exs} {k j:Nat} {F:Fm} {x:Str} {p pos:Pos} {e:Expr} {es:List Expr}
theorem call0_ok {E:XK}{σ:St}{H:Hp}{Q:VK}(q:tH Z (xCall0 F fa) σ H Q):tCall (spH Z.T F) [] E (tHA Z fa) σ H Q:=by
 obtain ⟨φ,h,ρ,x,q⟩:=q
 refine ⟨φ,h,ρ,x,?_⟩
 unfold xCall0 at q
 cases e:fa ρ h with
 | no=>rw [e] at q; exact q.elim
 | ex w h'=>rw [e] at q; exact q
 | ok ws h1=>
  rw [e] at q
  intro φ1 H1 vs s1 r1 rw1
  rw [List.append_nil]
  refine ⟨φ1,h1,ws,r1,rw1,?_⟩
  simp only at q
  cases e2:F ws h1 with
  | no=>rw [e2] at q; exact q.elim
  | ex w h'=>rw [e2] at q; exact q.elim
  | ok w h2=>rw [e2] at q; exact Kv.step q s1
theorem ph_fn0 (G:FnAt X.prog X.w X.K X.mg X.base CX0 k x (spH Z.T F))(hr:Room j X.A)(hkj:k≤j)(hg:Gl X x)(ha:PA X (e::es) (tHA Z fa))(hdb:(x == ("__debug__":Str))=false:=by decide)
  (he:starEach (e::es) X.env=(false,eval e X.env)::starEach es X.env:=by rfl) (hpl:(backTo pos (starEach es X.env)).any (·.1)=false:=by rfl) (hcl:X.calm=true:=by rfl):PE X (.Call (.Name x p) (e::es) [] pos) (tH Z (xCall0 F fa)):=
 (pe_fn G hr hkj hg (pass0 hcl) ha hdb he hpl).imp fun σ H Q q=>call0_ok q
end
class PuF (F:Fm):Prop where
 pu:∀ ws h w h',F ws h=.ok w h'→h'=h
instance pu_var {i:Nat}:Pu (xVar i):=⟨fun ρ h w h' e=>by
 unfold xVar at e
 split at e
 ·cases e; rfl
 ·cases e⟩
instance pu_c {w:W}:Pu (xC w):=⟨fun ρ h w h' e=>by cases e; rfl⟩
theorem bind_ok {r:Res}{k:W→Mem→Res}{w:W}{h:Mem}(e:r.bind k=.ok w h):∃ a h1,r=.ok a h1∧k a h1=.ok w h:=by
 cases r with
 | ok a h1=>exact ⟨a,h1,rfl,e⟩
 | ex _ _=>cases e
 | no=>cases e
theorem of_ok {o:Option W}{h h':Mem}{w:W}(e:Res.of o h=.ok w h'):o=some w∧h'=h:=by
 cases o with
 | none=>cases e
 | some x=>cases e; exact ⟨rfl,rfl⟩
instance pu_bin {o:Mem→W→W→Option W}{f g:Ex}[hf:Pu f][hg:Pu g]:Pu (xBin o f g):=⟨fun ρ h w h' e=>by
 obtain ⟨a,h1,e1,e⟩:=bind_ok e
 obtain ⟨b,h2,e2,e⟩:=bind_ok e
 rw [(of_ok e).2,hg.pu _ _ _ _ e2,hf.pu _ _ _ _ e1]⟩
instance pu_nil:PuS xNil:=⟨fun ρ h w h' e=>by cases e; rfl⟩
instance pu_cons {f:Ex}{g:Exs}[hf:Pu f][hg:PuS g]:PuS (xCons f g):=⟨fun ρ h w h' e=>by
 unfold xCons at e
 cases e1:f ρ h with
 | no=>rw [e1] at e; cases e
 | ex _ _=>rw [e1] at e; cases e
 | ok a h1=>
  rw [e1] at e
  simp only at e
  cases e2:g ρ h1 with
  | no=>rw [e2] at e; cases e
  | ex _ _=>rw [e2] at e; cases e
  | ok b h2=>
   rw [e2] at e
   cases e
   rw [hg.pu _ _ _ _ e2,hf.pu _ _ _ _ e1]⟩
instance pu_chain {o o':Mem→W→W→Option W}{f g k:Ex}[hf:Pu f][hg:Pu g][hk:Pu k]:Pu (xChain o o' f g k):=⟨fun ρ h w h' e=>by
 obtain ⟨a,h1,e1,e⟩:=bind_ok e
 obtain ⟨b,h2,e2,e⟩:=bind_ok e
 split at e
 ·obtain ⟨c,h3,e3,e⟩:=bind_ok e
  split at e
  ·cases e; rw [hk.pu _ _ _ _ e3,hg.pu _ _ _ _ e2,hf.pu _ _ _ _ e1]
  ·cases e
 ·cases e; rw [hg.pu _ _ _ _ e2,hf.pu _ _ _ _ e1]
 ·cases e⟩
instance pu_tup {f:Exs}[hf:PuS f]:Pu (xTup f):=⟨fun ρ h w h' e=>by
 unfold xTup at e
 cases e1:f ρ h with
 | no=>rw [e1] at e; cases e
 | ex _ _=>rw [e1] at e; cases e
 | ok a h1=>
  rw [e1] at e
  simp only at e
  split at e
  ·cases e; exact hf.pu _ _ _ _ e1
  ·cases e⟩
instance pu_call0 {F:Fm}{f:Exs}[hF:PuF F][hf:PuS f]:Pu (xCall0 F f):=⟨fun ρ h w h' e=>by
 unfold xCall0 at e
 cases e1:f ρ h with
 | no=>rw [e1] at e; cases e
 | ex _ _=>rw [e1] at e; cases e
 | ok a h1=>
  rw [e1] at e
  simp only at e
  cases e2:F a h1 with
  | no=>rw [e2] at e; cases e
  | ex _ _=>rw [e2] at e; cases e
  | ok b h2=>
   rw [e2] at e
   cases e
   rw [hF.pu _ _ _ _ e2,hf.pu _ _ _ _ e1]⟩
def noList (K:PySem.W.Frag):Bool:=K.all fun p=>match p.2.cls with
 | .type n=>n != "list"
 | _=>true
theorem lookup_mem {α β:Type}[BEq α][LawfulBEq α]{a:α}{b:β}:∀ {l:List (α×β)},l.lookup a=some b→(a,b)∈l
 | [],h=>by simp at h
 | (x,y)::r,h=>by
  rw [List.lookup_cons] at h
  cases e:a == x with
  | true=>
   rw [e] at h
   cases h
   rw [eq_of_beq e]
   exact List.mem_cons_self
  | false=>
   rw [e] at h
   exact List.mem_cons_of_mem _ (lookup_mem h)
theorem noList_of {K:PySem.W.Frag}(h:noList K=true){a:Addr}{o:Obj}(e:K.lookup a=some o):o.cls≠.type "list":=fun z=>by
 have:=List.all_eq_true.mp h (a,o) (lookup_mem e)
 simp [z] at this
theorem script_rw {K:PySem.W.Frag}(hK:noList K=true){T:CTb}{H:Hp}{a:Addr}{ns:List Int}(hS:SqL K H a (ns.map V.int)):RW T [] H (.tl (ns.map W.int)) (.ref a):=by
 unfold RW
 rcases hS with hS | ⟨o,its,n,e,c,_⟩
 ·refine ⟨a,ns.map V.int,rfl,by simp,?_,?_⟩
  ·rcases hS with q | ⟨o,q⟩
   ·exact lstAt_of q
   ·unfold lstAt; rw [q]
  ·induction ns with
   | nil=>unfold RWs; rfl
   | cons x r ih=>
    have:∀ (l:List Int),RWs T [] H (l.map W.int) (l.map V.int):=by
     intro l
     induction l with
     | nil=>unfold RWs; rfl
     | cons y s ih=>rw [List.map_cons,List.map_cons]; unfold RWs; exact ⟨_,_,rfl,by unfold RW; rfl,ih⟩
    exact this _
 ·exact absurd c (noList_of hK e)
theorem rh_nil {T:CTb}{H:Hp}:RH T [] [] H:=⟨rfl,List.nodup_nil,fun n o a e=>by simp at e⟩
theorem law_sp {K:PySem.W.Frag}{T:CTb}{F:Fm}(hK:noList K=true)(hF:∀ ns:List Int,ns.length≤63→∃ h,F [.tl (ns.map W.int)] []=.ok (.bl true) h):∀ vs H Q E,sp_law K vs H Q E→spH T F vs H Q E:=by
 rintro vs H Q E ⟨a,ns,rfl,hS,hl,_,q⟩
 obtain ⟨h,e⟩:=hF ns hl
 refine ⟨[],[],[.tl (ns.map W.int)],rh_nil,?_,?_⟩
 ·unfold RWs; exact ⟨_,[],rfl,script_rw hK hS,by unfold RWs; rfl⟩
 ·rw [e]
  exact fun φ' H' v s r x=>by rw [bl_rw x]; exact q H'
end M
namespace M
open PySem PySem.Spec PyProof.Rows L2
def items (h:Mem):W→Option (List W)
 | .tl ws=>some ws
 | .ref n=>(match h[n]? with
  | some (.lst ws)=>some ws
  | _=>none)
 | _=>none
def seqs (h:Mem):W→Option (List W)
 | .tup ws=>some ws
 | w=>items h w
section
variable {T:CTb} {φ:List Addr} {H:Hp} {h:Mem} {w:W} {v:V} {ws:List W}
theorem items_ok (r:RH T φ h H)(x:RW T φ H w v)(e:items h w=some ws):∃ p vs,v=.ref p∧lstAt H p=some vs∧RWs T φ H ws vs:=by
 cases w with
 | tl us=>
  have e:some us=some ws:=e
  cases e
  unfold RW at x
  obtain ⟨p,vs,a,b,c,d⟩:=x
  exact ⟨p,vs,a,c,d⟩
 | ref n=>
  unfold items at e
  unfold RW at x
  obtain ⟨p,a,rfl⟩:=x
  cases q:h[n]? with
  | none=>simp [q] at e
  | some o=>
   cases o with
   | lst us=>
    simp [q] at e
    subst e
    obtain ⟨ho,y,vs,rfl,z⟩:=r.obj n _ p q a
    exact ⟨p,vs,rfl,lstAt_of y,z⟩
   | _=>simp [q] at e
 | _=>cases e
theorem seqs_ok (r:RH T φ h H)(x:RW T φ H w v)(e:seqs h w=some ws):∃ p vs,v=.ref p∧seqAt H p=some vs∧RWs T φ H ws vs:=by
 cases w with
 | tup us=>
  have e:some us=some ws:=e
  cases e
  unfold RW at x
  obtain ⟨p,vs,a,b,c,d⟩:=x
  exact ⟨p,vs,a,seqAt_tup c,d⟩
 | _=>
  obtain ⟨p,vs,a,b,c⟩:=items_ok r x e
  refine ⟨p,vs,a,?_,c⟩
  rcases lstAt_rd b with q | ⟨o,q⟩
  ·exact seqAt_lst q
  ·unfold seqAt; rw [q]
theorem rws_append:∀ {ws us:List W} {vs xs:List V},RWs T φ H ws vs→RWs T φ H us xs→RWs T φ H (ws++us) (vs++xs)
 | [],us,vs,xs,h,q=>by unfold RWs at h; subst h; exact q
 | w::ws,us,vs,xs,h,q=>by
  unfold RWs at h
  obtain ⟨v,r,rfl,a,b⟩:=h
  rw [List.cons_append,List.cons_append]
  unfold RWs
  exact ⟨v,_,rfl,a,rws_append b q⟩
theorem rws_take:∀ (n:Nat) {ws:List W} {vs:List V},RWs T φ H ws vs→RWs T φ H (ws.take n) (vs.take n)
 | 0,ws,vs,h=>by simp; unfold RWs; rfl
 | n+1,[],vs,h=>by unfold RWs at h; subst h; simp; unfold RWs; rfl
 | n+1,w::ws,vs,h=>by
  unfold RWs at h
  obtain ⟨v,r,rfl,a,b⟩:=h
  rw [List.take_succ_cons,List.take_succ_cons]
  unfold RWs
  exact ⟨v,_,rfl,a,rws_take n b⟩
theorem rws_drop:∀ (n:Nat) {ws:List W} {vs:List V},RWs T φ H ws vs→RWs T φ H (ws.drop n) (vs.drop n)
 | 0,ws,vs,h=>h
 | n+1,[],vs,h=>by unfold RWs at h; subst h; simp; unfold RWs; rfl
 | n+1,w::ws,vs,h=>by
  unfold RWs at h
  obtain ⟨v,r,rfl,a,b⟩:=h
  rw [List.drop_succ_cons,List.drop_succ_cons]
  exact rws_drop n b
theorem new_tl {p:Addr}{vs:List V}{Q:VK}(r:RH T φ h H)(hp:H p=none)(x:RWs T φ H ws vs)(k:∀ H' u,Step φ H φ H'→RH T φ h H'→RW T φ H' (.tl ws) u→Q u H'):Q (.ref p) (upd H p (.lst vs)):=by
 have s:=step_tmp (φ:=φ) (ho:=.lst vs) hp
 refine k _ _ s (r.tmp hp) ?_
 unfold RW
 exact ⟨p,vs,rfl,r.fresh hp,lstAt_upd_l,x.step s⟩
theorem here_k {Q:VK}(r:RH T φ h H)(x:RW T φ H w v)(k:∀ H' u,Step φ H φ H'→RH T φ h H'→RW T φ H' w u→Q u H'):Q v H:=k H v (Step.refl _ _) r x
end
section
variable {X:Cx} {T:CTb}
def iop (g:Int→Int→W)(_:Mem):W→W→Option W
 | .int i,.int j=>some (g i j)
 | _,_=>none
theorem iop_ok {g:Int→Int→W}{gv:Int→Int→V}(hg:∀ φ H i j,RW T φ H (g i j) (gv i j)):OpW T (iop g) (rI0 gv):=by
 intro φ h H a b u v w Q r ra rb e k
 unfold iop at e
 split at e
 ·cases e
  exact ⟨_,_,int_rw ra,int_rw rb,here_k r (hg φ H _ _) k⟩
 ·cases e
def iopC (C:Int→Int→Bool)(g:Int→Int→W)(_:Mem):W→W→Option W
 | .int i,.int j=>cond (C i j) (some (g i j)) none
 | _,_=>none
theorem iopC_ok {C:Int→Int→Bool}{Cp:Int→Int→Prop}{g:Int→Int→W}{gv:Int→Int→V}(hC:∀ i j,C i j=true→Cp i j)(hg:∀ φ H i j,RW T φ H (g i j) (gv i j)):OpW T (iopC C g) (rI Cp gv):=by
 intro φ h H a b u v w Q r ra rb e k
 unfold iopC at e
 split at e
 ·rename_i i j
  cases hc:C i j with
  | true=>
   rw [hc] at e
   cases e
   exact ⟨_,_,int_rw ra,int_rw rb,hC _ _ hc,here_k r (hg φ H _ _) k⟩
  | false=>rw [hc] at e; cases e
 ·cases e
theorem rw_int {φ:List Addr}{H:Hp}{i:Int}:RW T φ H (.int i) (.int i):=by unfold RW; rfl
theorem rw_b {φ:List Addr}{H:Hp}{i:Bool}:RW T φ H (.bl i) (.bl i):=by unfold RW; rfl
theorem rw_s {φ:List Addr}{H:Hp}{i:Str}:RW T φ H (.str i) (.str i):=by unfold RW; rfl
def subM:=iop fun i j=>.int (i - j)
theorem subM_ok:OpW T subM (rI0 fun i j=>.int (i - j)):=iop_ok fun _ _ _ _=>rw_int
def divM:=iopC (fun _ j=>decide (0<j) && decide (j<1073741824)) fun i j=>.int (i / j)
theorem divM_ok:OpW T divM (rI CDiv fun i j=>.int (i / j)):=iopC_ok (fun i j h=>by unfold CDiv; simp only [Bool.and_eq_true,decide_eq_true_eq] at h; exact h) fun _ _ _ _=>rw_int
def modM:=iopC (fun _ j=>decide (0<j)) fun i j=>.int (i % j)
theorem modM_ok:OpW T modM (rI (fun _ j=>0<j) fun i j=>.int (i % j)):=iopC_ok (fun i j h=>of_decide_eq_true h) fun _ _ _ _=>rw_int
def mulM:=iopC (fun i j=>(decide (-(2 ^ 64)<i) && decide (i<2 ^ 64)) || (decide (-(2 ^ 64)<j) && decide (j<2 ^ 64))) fun i j=>.int (i * j)
theorem mulM_ok:OpW T mulM (rI CMul fun i j=>.int (i * j)):=iopC_ok (fun i j h=>by unfold CMul; simp only [Bool.or_eq_true,Bool.and_eq_true,decide_eq_true_eq] at h; exact h) fun _ _ _ _=>rw_int
def gtM:=iop fun i j=>.bl (decide (j<i))
theorem gtM_ok:OpW T gtM (rI0 fun i j=>.bl (decide (j<i))):=iop_ok fun _ _ _ _=>rw_b
def geM:=iop fun i j=>.bl (decide (j≤i))
theorem geM_ok:OpW T geM (rI0 fun i j=>.bl (decide (j≤i))):=iop_ok fun _ _ _ _=>rw_b
def rLe:R2:=fun x y H Q=>rI0 (fun i j=>.bl (decide (i≤j))) x y H Q∨∃ i j,x=.str i∧y=.str j∧Q (.bl (!decide (j.cps.toList<i.cps.toList))) H
theorem op_leS:OpR X (compareOp .LtE) rLe:=by
 refine OpR.or op_le ?_
 intro pins s σ H x y v u Q I rx ry h
 obtain ⟨i,j,rfl,rfl,q⟩:=h
 obtain ⟨t,rfl⟩:=rx
 obtain ⟨t',rfl⟩:=ry
 exact PySem.P.le_str (fin_bl I q rfl)
def strLe (i j:Str):Bool:=!decide (j.cps.toList<i.cps.toList)
def leM (_:Mem):W→W→Option W
 | .int i,.int j=>some (.bl (decide (i≤j)))
 | .str i,.str j=>some (.bl (strLe i j))
 | _,_=>none
theorem leM_ok:OpW T leM rLe:=by
 intro φ h H a b u v w Q r ra rb e k
 unfold leM at e
 split at e
 ·cases e
  exact .inl ⟨_,_,int_rw ra,int_rw rb,here_k r rw_b k⟩
 ·cases e
  exact .inr ⟨_,_,str_rw ra,str_rw rb,here_k r rw_b k⟩
 ·cases e
def addM (h:Mem)(a b:W):Option W:=match a,b with
 | .int i,.int j=>some (.int (i+j))
 | .str x,.str y=>if x.length+y.length≤sizeLine then some (.str (x++y)) else none
 | a,b=>(match items h a,items h b with
  | some xs,some ys=>if xs.length+ys.length≤sizeLine then some (.tl (xs++ys)) else none
  | _,_=>none)
theorem addM_ok:OpW T addM addV:=by
 intro φ h H a b u v w Q r ra rb e k
 unfold addM at e
 split at e
 ·cases e
  rw [int_rw ra,int_rw rb]
  exact here_k r rw_int k
 ·split at e
  ·rename_i hz
   cases e
   rw [str_rw ra,str_rw rb]
   exact ⟨hz,here_k r rw_s k⟩
  ·cases e
 ·split at e
  ·rename_i xs ys e1 e2
   obtain ⟨p,vs,rfl,q1,q2⟩:=items_ok r ra e1
   obtain ⟨p',vs',rfl,q3,q4⟩:=items_ok r rb e2
   split at e
   ·rename_i hz
    cases e
    show need (lstAt H p) _
    rw [q1]
    show need (lstAt H p') _
    rw [q3]
    exact ⟨by rw [← q2.length,← q4.length]; exact hz,fun z hp=>new_tl r hp (rws_append q2 q4) k⟩
   ·cases e
  ·cases e
def ixM (h:Mem)(a b:W):Option W:=match b with
 | .int i=>(match a with
  | .str z=>if z.length≤sizeLine then (atI z.cps.toList i).map fun c=>.str ⟨#[c]⟩ else none
  | a=>(seqs h a).bind fun xs=>atI xs i)
 | _=>none
theorem rws_atI {φ:List Addr}{H:Hp}{ws:List W}{vs:List V}{i:Int}{w:W}(r:RWs T φ H ws vs)(e:atI ws i=some w):∃ v,atI vs i=some v∧RW T φ H w v:=by
 unfold atI at e ⊢
 rw [← r.length]
 cases q:ixN ws.length i with
 | none=>rw [q] at e; cases e
 | some j=>
  rw [q] at e
  exact rws_get r e
theorem ixM_ok:OpW T ixM ixV:=by
 intro φ h H a b u v w Q r ra rb e k
 unfold ixM at e
 split at e
 ·rw [int_rw rb]
  split at e
  ·split at e
   ·rename_i hz
    rw [str_rw ra]
    cases q:atI _ _ with
    | none=>rw [q] at e; cases e
    | some c=>
     rw [q] at e
     cases e
     refine ⟨hz,?_⟩
     show need (atI _ _) _
     rw [q]
     exact here_k r rw_s k
   ·cases e
  ·cases q:seqs h a with
   | none=>rw [q] at e; cases e
   | some xs=>
    rw [q] at e
    obtain ⟨p,vs,rfl,q1,q2⟩:=seqs_ok r ra q
    obtain ⟨x,q3,q4⟩:=rws_atI q2 e
    show need (seqAt H p) _
    rw [q1]
    show need (atI vs _) _
    rw [q3]
    exact here_k r q4 k
 ·cases e
def flatW:W→Bool
 | .non=>true
 | .bl _=>true
 | .int _=>true
 | .str _=>true
 | _=>false
def eqFl:W→W→Bool
 | .non,.non=>true
 | .bl a,.bl b=>decide (a=b)
 | .bl a,.int b=>decide ((if a then 1 else 0)=b)
 | .int a,.bl b=>decide (a=(if b then 1 else 0))
 | .int a,.int b=>decide (a=b)
 | .str a,.str b=>decide (a=b)
 | _,_=>false
def allM (f:W→W→Option Bool):List W→List W→Option Bool
 | x::xs,y::ys=>match f x y,allM f xs ys with
  | some a,some b=>some (a && b)
  | _,_=>none
 | _,_=>some true
def sq (h:Mem):W→Option (Bool×List W)
 | .tup ws=>some (false,ws)
 | w=>(items h w).map fun ws=>(true,ws)
def eqM (h:Mem):Nat→W→W→Option Bool
 | 0,a,b=>if (flatW a && flatW b)=true then some (eqFl a b) else none
 | n+1,a,b=>if (flatW a && flatW b)=true then some (eqFl a b) else match sq h a,sq h b with
  | some (true,xs),some (true,ys)=>if xs.length=ys.length then allM (eqM h n) xs ys else some false
  | some (false,xs),some (false,ys)=>(allM (eqM h n) xs ys).map (· && decide (xs.length=ys.length))
  | some (true,_),some (false,_)=>some false
  | some (false,_),some (true,_)=>some false
  | some _,none=>if flatW b=true then some false else none
  | none,some _=>if flatW a=true then some false else none
  | none,none=>none
theorem flat_ok {φ:List Addr}{H:Hp}{a:W}{u:V}(r:RW T φ H a u)(f:flatW a=true):flatV u=true∧∀ {b:W} {v:V},RW T φ H b v→flatW b=true→eqV u v=eqFl a b:=by
 cases a with
 | non=>
  unfold RW at r; subst r
  refine ⟨rfl,fun {b v} q f=>?_⟩
  cases b <;> first | (unfold RW at q; subst q; first | rfl | (simp [eqV,eqFl,Bool.beq_eq_decide_eq]; done)) | cases f
 | bl x=>
  unfold RW at r; subst r
  refine ⟨rfl,fun {b v} q f=>?_⟩
  cases b <;> first | (unfold RW at q; subst q; first | rfl | (simp [eqV,eqFl,Bool.beq_eq_decide_eq]; done)) | cases f
 | int x=>
  unfold RW at r; subst r
  refine ⟨rfl,fun {b v} q f=>?_⟩
  cases b <;> first | (unfold RW at q; subst q; first | rfl | (simp [eqV,eqFl,Bool.beq_eq_decide_eq]; done)) | cases f
 | str x=>
  unfold RW at r; subst r
  refine ⟨rfl,fun {b v} q f=>?_⟩
  cases b <;> first | (unfold RW at q; subst q; first | rfl | (simp [eqV,eqFl,Bool.beq_eq_decide_eq]; done)) | cases f
 | _=>cases f
theorem allM_ok {φ:List Addr}{H:Hp}{f:W→W→Option Bool}{g:V→V→Option Bool}(hf:∀ a b u v c,f a b=some c→RW T φ H a u→RW T φ H b v→g u v=some c) :
  ∀ {ws us:List W} {vs xs:List V} {c:Bool},allM f ws us=some c→RWs T φ H ws vs→RWs T φ H us xs→allF g vs xs=some c
 | [],us,vs,xs,c,e,r,q=>by
  unfold RWs at r; subst r
  cases e; rfl
 | w::ws,[],vs,xs,c,e,r,q=>by
  unfold RWs at q; subst q
  cases e
  cases vs <;> rfl
 | w::ws,u::us,vs,xs,c,e,r,q=>by
  unfold RWs at r q
  obtain ⟨v,vr,rfl,r1,r2⟩:=r
  obtain ⟨x,xr,rfl,q1,q2⟩:=q
  unfold allM at e
  cases e1:f w u with
  | none=>rw [e1] at e; cases e
  | some a=>
   cases e2:allM f ws us with
   | none=>rw [e1,e2] at e; cases e
   | some b=>
    rw [e1,e2] at e
    cases e
    unfold allF
    rw [hf _ _ _ _ _ e1 r1 q1,allM_ok hf e2 r2 q2]
theorem sq_ok {φ:List Addr}{H:Hp}{h:Mem}{a:W}{u:V}{b:Bool}{ws:List W}(r:RH T φ h H)(x:RW T φ H a u)(e:sq h a=some (b,ws)):∃ p vs,u=.ref p∧RWs T φ H ws vs∧(b=true→lstAt H p=some vs)∧(b=false→tupAt H p=some vs∧lstAt H p=none):=by
 cases a with
 | tup us=>
  have e:some (false,us)=some (b,ws):=e
  cases e
  unfold RW at x
  obtain ⟨p,vs,y,_,c,d⟩:=x
  exact ⟨p,vs,y,d,fun z=>(by cases z),fun _=>⟨tupAt_of c,by unfold lstAt; rw [c]⟩⟩
 | _=>
  unfold sq at e
  simp only [Option.map_eq_some_iff] at e
  obtain ⟨us,e1,e2⟩:=e
  cases e2
  obtain ⟨p,vs,y,c,d⟩:=items_ok r x e1
  exact ⟨p,vs,y,d,fun _=>c,fun z=>by cases z⟩
theorem eqM_ok {φ:List Addr}{H:Hp}{h:Mem}(r:RH T φ h H):∀ (n:Nat) (a b:W) (u v:V) (c:Bool),eqM h n a b=some c→RW T φ H a u→RW T φ H b v→eqF H n u v=some c
 | 0,a,b,u,v,c,e,ra,rb=>by
  unfold eqM at e
  split at e
  ·rename_i hf
   cases e
   rw [Bool.and_eq_true] at hf
   have f1:=flat_ok ra hf.1
   have f2:=flat_ok rb hf.2
   unfold eqF
   rw [f1.1,f2.1,f1.2 rb hf.2]; rfl
  ·cases e
 | n+1,a,b,u,v,c,e,ra,rb=>by
  have ih:=fun a b u v c=>eqM_ok r n a b u v c
  unfold eqM at e
  split at e
  ·rename_i hf
   cases e
   rw [Bool.and_eq_true] at hf
   have f1:=flat_ok ra hf.1
   have f2:=flat_ok rb hf.2
   rw [eqF_flat4 (by rw [f1.1,f2.1]; rfl),f1.2 rb hf.2]
  ·split at e
   ·rename_i xs ys e1 e2
    obtain ⟨p,vs,rfl,q1,q2,_⟩:=sq_ok r ra e1
    obtain ⟨p',vs',rfl,q3,q4,_⟩:=sq_ok r rb e2
    rw [eqF_lists (q2 rfl) (q4 rfl),← q1.length,← q3.length]
    split at e
    ·rename_i hl
     rw [if_pos hl]
     exact allM_ok ih e q1 q3
    ·rename_i hl
     rw [if_neg hl]; exact e
   ·rename_i xs ys e1 e2
    obtain ⟨p,vs,rfl,q1,_,q2⟩:=sq_ok r ra e1
    obtain ⟨p',vs',rfl,q3,_,q4⟩:=sq_ok r rb e2
    rw [eqF_tuples (q2 rfl).1 (q4 rfl).1,← q1.length,← q3.length]
    cases e3:allM (eqM h n) xs ys with
    | none=>rw [e3] at e; cases e
    | some d=>
     rw [e3] at e
     rw [allM_ok ih e3 q1 q3]
     exact e
   ·rename_i xs ys e1 e2
    cases e
    obtain ⟨p,vs,rfl,q1,q2,_⟩:=sq_ok r ra e1
    obtain ⟨p',vs',rfl,q3,_,q4⟩:=sq_ok r rb e2
    unfold eqF
    rw [if_neg (by simp [flatV])]
    simp [q2 rfl,(q4 rfl).1,(q4 rfl).2]
   ·rename_i xs ys e1 e2
    cases e
    obtain ⟨p,vs,rfl,q1,_,q2⟩:=sq_ok r ra e1
    obtain ⟨p',vs',rfl,q3,q4,_⟩:=sq_ok r rb e2
    unfold eqF
    rw [if_neg (by simp [flatV])]
    simp [q4 rfl,(q2 rfl).1,(q2 rfl).2]
   ·rename_i x e1 e2
    split at e
    ·rename_i hf
     cases e
     obtain ⟨bb,xs⟩:=x
     obtain ⟨p,vs,rfl,q1,q2,q3⟩:=sq_ok r ra e1
     have f2:=(flat_ok rb hf).1
     have hs:(seqAt H p).isSome=true:=by
      cases bb with
      | true=>
       rcases lstAt_rd (q2 rfl) with z | ⟨o,z⟩ <;> (unfold seqAt; rw [z]; rfl)
      | false=>rw [seqAt_tup (tupAt_eq (q3 rfl).1)]; rfl
     unfold eqF
     rw [if_neg (by simp [flatV])]
     cases v <;> first | (simp [hs,f2]; done) | (simp [flatV] at f2)
    ·cases e
   ·rename_i x e1 e2
    split at e
    ·rename_i hf
     cases e
     obtain ⟨bb,xs⟩:=x
     obtain ⟨p,vs,rfl,q1,q2,q3⟩:=sq_ok r rb e2
     have f2:=(flat_ok ra hf).1
     have hs:(seqAt H p).isSome=true:=by
      cases bb with
      | true=>
       rcases lstAt_rd (q2 rfl) with z | ⟨o,z⟩ <;> (unfold seqAt; rw [z]; rfl)
      | false=>rw [seqAt_tup (tupAt_eq (q3 rfl).1)]; rfl
     unfold eqF
     rw [if_neg (by simp [flatV])]
     cases u <;> first | (simp [hs,f2]; done) | (simp [flatV] at f2)
    ·cases e
   ·cases e
def eqO (h:Mem)(a b:W):Option W:=(eqM h 4 a b).map .bl
def neO (h:Mem)(a b:W):Option W:=(eqM h 4 a b).map fun c=>.bl (!c)
theorem eqO_ok:OpW T eqO rEqF:=by
 intro φ h H a b u v w Q r ra rb e k
 unfold eqO at e
 cases q:eqM h 4 a b with
 | none=>rw [q] at e; cases e
 | some c=>
  rw [q] at e
  cases e
  unfold rEqF
  rw [eqM_ok r 4 a b u v c q ra rb]
  exact here_k r rw_b k
theorem neO_ok:OpW T neO rNeF:=by
 intro φ h H a b u v w Q r ra rb e k
 unfold neO at e
 cases q:eqM h 4 a b with
 | none=>rw [q] at e; cases e
 | some c=>
  rw [q] at e
  cases e
  unfold rNeF
  rw [eqM_ok r 4 a b u v c q ra rb]
  exact here_k r rw_b k
abbrev Ty:=Sum String Str
def tyN (h:Mem):W→Option Ty
 | .non=>some (.inl "NoneType")
 | .bl _=>some (.inl "bool")
 | .int _=>some (.inl "int")
 | .str _=>some (.inl "str")
 | .tup _=>some (.inl "tuple")
 | .tl _=>some (.inl "list")
 | .td _ _=>some (.inl "dict")
 | .ti c _ _=>some (.inr c)
 | .ref n=>(match h[n]? with
  | some (.lst _)=>some (.inl "list")
  | some (.dic _)=>some (.inl "dict")
  | some (.ins c _)=>some (.inr c)
  | some (.fdic _)=>none
  | none=>none)
 | _=>none
def TV (T:CTb):Ty→Value→Prop
 | .inl n,v=>v=.type n
 | .inr c,v=>∃ C,T.any c=some C∧v=.ref C
abbrev Kit:=List ((Ty×Ty)×Bool)
def KitOk (K:PySem.W.Frag)(T:CTb)(kit:Kit):Prop:=∀ e∈kit,∃ tv cv,TV T e.1.1 tv∧TV T e.1.2 cv∧PySem.W.kitOne K tv cv=some e.2
structure InsTy (K:PySem.W.Frag)(C:Addr):Prop where
 cl:Cls K C
 ha:PySem.W.findIn K (.ref C) "__class__"=some (some (.builtin "object.__class__"))
 hn:PySem.W.specialIn K (.builtin "object.__class__") "__get__"=some (some (.builtin "getset_descriptor.__get__"))
 htk:PySem.W.takesIn K (.builtin "object.__class__")=some true
 hm:PySem.W.mroIn K C (.type "object")=some true
def InsOk (K:PySem.W.Frag)(T:CTb):Prop:=∀ c C,T c=some C→InsTy K C
def Kit.get (kit:Kit)(t c:Ty):Option Bool:=(kit.find? fun e=>decide (e.1=(t,c))).map (·.2)
theorem Kit.mem {kit:Kit}{t c:Ty}{b:Bool}(h:kit.get t c=some b):((t,c),b)∈kit:=by
 unfold Kit.get at h
 rw [Option.map_eq_some_iff] at h
 obtain ⟨⟨e1,e2⟩,e,rfl⟩:=h
 have:=List.find?_some e
 have q:e1=(t,c):=of_decide_eq_true this
 subst q
 exact List.mem_of_find?_eq_some e
theorem tyN_ok {K:PySem.W.Frag}(hI:InsOk K T){φ:List Addr}{H:Hp}{h:Mem}{w:W}{v:V}{t:Ty}{tv:Value}(r:RH T φ h H)(x:RW T φ H w v)(e:tyN h w=some t)(ht:TV T t tv):TyOf K H v tv:=by
 cases w with
 | non=>cases e; cases ht; unfold RW at x; subst x; exact .non
 | bl b=>cases e; cases ht; unfold RW at x; subst x; exact .bl b
 | int b=>cases e; cases ht; unfold RW at x; subst x; exact .int b
 | str b=>cases e; cases ht; unfold RW at x; subst x; exact .str b
 | tup b=>cases e; cases ht; unfold RW at x; obtain ⟨p,vs,rfl,_,c,_⟩:=x; exact .tup c
 | tl b=>
  cases e; cases ht; unfold RW at x
  obtain ⟨p,vs,rfl,_,c,_⟩:=x
  rcases lstAt_rd c with q | ⟨o,q⟩
  ·exact .lst q
  ·exact .frz q
 | td k b=>cases e; cases ht; unfold RW at x; obtain ⟨p,vs,rfl,_,c,_⟩:=x; exact .dK c
 | ti c f b=>
  cases e; unfold RW at x
  obtain ⟨p,C,dx,vs,rfl,_,c1,c2,_⟩:=x
  obtain ⟨C',c3,rfl⟩:=ht
  rw [CTb.any_t c1] at c3; cases c3
  have i:=hI _ _ c1
  exact .ins c2 i.cl i.ha i.hn i.htk i.hm
 | ref n=>
  unfold tyN at e
  unfold RW at x
  obtain ⟨p,a,rfl⟩:=x
  cases q:h[n]? with
  | none=>simp [q] at e
  | some o=>
   obtain ⟨ho,y,z⟩:=r.obj n o p q a
   cases o with
   | lst us=>simp [q] at e; subst e; cases ht; obtain ⟨vs,rfl,_⟩:=z; exact .lst y
   | dic us=>simp [q] at e; subst e; cases ht; obtain ⟨vs,rfl,_⟩:=z; exact .dK y
   | ins c fs=>
    simp [q] at e; subst e
    obtain ⟨C,dx,fv,rfl,c1,_⟩:=z
    obtain ⟨C',c3,rfl⟩:=ht
    rw [CTb.any_t c1] at c3; cases c3
    have i:=hI _ _ c1
    exact .ins y i.cl i.ha i.hn i.htk i.hm
   | fdic us=>simp [q] at e
 | ty n=>cases e
 | cls n=>cases e
 | exc _ _ _=>cases e
end
section
variable {X:Cx} {Z:Zc} {f g k:Ex} {a b c:Expr} {pos:Pos} {op op':CmpOp} {o o':Mem→W→W→Option W} {r r':R2}
theorem chain_ok (hw:OpW Z.T o r)(hw':OpW Z.T o' r'){σ:St}{H:Hp}{Q:VK}(q:tH Z (xChain o o' f g k) σ H Q):tChain r r' (tH Z f) (tH Z g) (tH Z k) σ H Q:=by
 obtain ⟨φ,h,ρ,x,q⟩:=q
 unfold xChain at q
 refine two x q fun φ2 H2 h2 u v a b s y ra rb q2=>?_
 cases e:o h2 a b with
 | none=>simp [e] at q2; exact q2.elim
 | some w=>
  refine hw φ2 h2 H2 a b u v w _ y.rh ra rb e fun H3 x3 s3 r3 rw3=>?_
  cases w with
  | bl z=>
   refine ⟨z,bl_rw rw3,?_⟩
   cases z with
   | false=>
    simp only [e] at q2
    exact iteF (q2 φ2 H3 _ s3 r3 rw_b)
   | true=>
    simp only [e] at q2
    refine iteT ⟨φ2,h2,ρ,y.step s3 r3,?_⟩
    rw [bindP] at q2
    refine q2.mono fun w4 h4 q4=>fun φ4 H4 v4 s4 r4 rw4=>?_
    cases e5:o' h4 b w4 with
    | none=>simp [e5] at q4; exact q4.elim
    | some w5=>
     refine hw' φ4 h4 H4 b w4 v v4 w5 _ r4 ((rb.step s3).step s4) rw4 e5 fun H5 x5 s5 r5 rw5=>?_
     cases w5 with
     | bl z=>
      simp only [e5] at q4
      rw [bl_rw rw5]
      first
       | exact ⟨z,rfl,q4 φ4 H5 _ ((s3.trans s4).trans s5) r5 rw_b⟩
       | exact q4 φ4 H5 _ ((s3.trans s4).trans s5) r5 rw_b
     | _=>simp [e5] at q4; exact q4.elim
  | _=>simp [e] at q2; exact q2.elim
theorem ph_chain (ho:OpR X (compareOp op) r)(ho':OpR X (compareOp op') r')(hw:OpW Z.T o r)(hw':OpW Z.T o' r')(ha:PE X a (tH Z f))(hb:PE X b (tH Z g))(hc:PE X c (tH Z k))(hm:lastMarks [op,op'] [b,c]=false:=by with_unfolding_all rfl) :
  PE X (.Compare a [op,op'] [b,c] pos) (tH Z (xChain o o' f g k)):=(pe_chain ho ho' ha hb hc hm).imp fun σ H Q q=>chain_ok hw hw' q
theorem pth_chain (ho:OpR X (compareOp op) r)(ho':OpR X (compareOp op') r')(hw:OpW Z.T o r)(hw':OpW Z.T o' r')(ha:PE X a (tH Z f))(hb:PE X b (tH Z g))(hc:PE X c (tH Z k))(hm:lastMarks [op,op'] [b,c]=false:=by with_unfolding_all rfl) :
  PT X (.Compare a [op,op'] [b,c] pos) (tHT Z (xChain o o' f g k)):=(pt_chain ho ho' ha hb hc hm).imp fun σ H Q ⟨φ,m,ρ,x,q⟩=>
 chain_ok (Q:=fun v H'=>∃ k,v=.bl k∧Q k H') hw hw' ⟨φ,m,ρ,x,q.mono (by
  rintro w h1 ⟨b,rfl,k⟩ φ1 H1 v s1 r1 rw1
  exact ⟨b,bl_rw rw1,k φ1 H1 s1 r1⟩)⟩
end
section
variable {X:Cx} {Z:Zc} {f g:Ex} {x:Str} {p pos:Pos} {a:Expr} {st:Stmt}
theorem ph_gci {i:Int}(hg:Gl X x)(h:GC X.mg x (.int i))(hd:(x == ("__debug__":Str))=false:=by decide):PE X (.Name x p) (tH Z (xC (.int i))):=ph_c (pe_gc hg h hd) fun _ _=>rw_int
theorem ph_ty (n:String)(hg:Gl X x)(hm:X.mg x=none)(hv:bootBuiltins x=some (.type n))(hn:x≠"__name__":=by decide)(hd:(x == ("__debug__":Str))=false:=by decide):PE X (.Name x p) (tH Z (xC (.ty n))):=ph_c (pe_ty n hg hm hv hn hd) fun _ _=>by unfold RW; rfl
theorem ph_cls {C:Addr}(hg:Gl X x)(h:GC X.mg x (.ref C))(hT:Z.T.any x=some C)(hd:(x == ("__debug__":Str))=false:=by decide):PE X (.Name x p) (tH Z (xC (.cls x))):=ph_c (pe_gc hg h hd) fun _ _=>by unfold RW; exact ⟨C,hT,rfl⟩
def xNo:Sm:=fun _ _=>.no
end
end M
namespace M
open PySem PySem.Spec PyProof.Rows L2
inductive RsO where
 | ok (o:Option Int) (h:Mem) | ex (w:W) (h:Mem) | no
abbrev Eo:=Sg→Mem→RsO
def tHO (Z:Zc)(f:Eo):TO:=fun σ H Q=>∃ φ h ρ,Here Z σ H φ h ρ∧match f ρ h with
 | .ok o h'=>∀ φ' H',Step φ H φ' H'→RH Z.T φ' h' H'→Q o H'
 | .ex w h'=>Z.xw w h'
 | .no=>False
def xPn:Eo:=fun _ h=>.ok none h
def xPs (f:Ex):Eo:=fun ρ h=>match f ρ h with
 | .ok (.int i) h'=>.ok (some i) h'
 | .ex w h'=>.ex w h'
 | _=>.no
def xSl (op:Mem→W→Option Int→Option Int→Option W)(f:Ex)(l u:Eo):Ex:=fun ρ h=>(f ρ h).bind fun a h1=>match l ρ h1 with
 | .ok lo h2=>(match u ρ h2 with
  | .ok hi h3=>.of (op h3 a lo hi) h3
  | .ex w h3=>.ex w h3
  | .no=>.no)
 | .ex w h2=>.ex w h2
 | .no=>.no
def SlW (T:CTb)(op:Mem→W→Option Int→Option Int→Option W)(r:V→Option Int→Option Int→Hp→VK→Prop):Prop:=
 ∀ φ h H a v lo hi w Q,RH T φ h H→RW T φ H a v→op h a lo hi=some w→(∀ H' x,Step φ H φ H'→RH T φ h H'→RW T φ H' w x→Q x H')→r v lo hi H Q
section
variable {X:Cx} {Z:Zc} {f:Ex} {l u:Eo} {e:Expr} {lo hi:Option Expr} {pos p2:Pos}
theorem poh_none:PO X none (tHO Z xPn):=fun pins s σ H Q I ⟨φ,h,ρ,x,q⟩=>po_none pins s σ H Q I (q φ H (Step.refl _ _) x.rh)
theorem poh_some (h:PE X e (tH Z f)):PO X (some e) (tHO Z (xPs f)):=fun pins s σ H Q I ⟨φ,m,ρ,x,q⟩=>by
 refine po_some h pins s σ H Q I ⟨φ,m,ρ,x,?_⟩
 unfold xPs at q
 cases e1:f ρ m with
 | no=>rw [e1] at q; exact q.elim
 | ex w h'=>rw [e1] at q; exact q
 | ok w h'=>
  rw [e1] at q
  intro φ1 H1 v s1 r1 rw1
  cases w with
  | int i=>exact ⟨i,int_rw rw1,q φ1 H1 s1 r1⟩
  | _=>exact q.elim
theorem ph_sl {op:Mem→W→Option Int→Option Int→Option W}{r:V→Option Int→Option Int→Hp→VK→Prop}(hr:SlR X r)(hw:SlW Z.T op r)(he:PE X e (tH Z f))(hl:PO X lo (tHO Z l))(hu:PO X hi (tHO Z u)) :
  PE X (.Subscript e (.Slice lo hi none p2) pos) (tH Z (xSl op f l u)):=(pe_slice hr he hl hu).imp fun σ H Q ⟨φ,m,ρ,x,q⟩=>⟨φ,m,ρ,x,by
 unfold xSl at q
 rw [bindP] at q
 refine q.mono fun a h1 q1=>fun φ1 H1 v s1 r1 ra=>⟨φ1,h1,ρ,x.step s1 r1,?_⟩
 cases e2:l ρ h1 with
 | no=>simp only [e2] at q1; exact q1.elim
 | ex w h'=>simp only [e2] at q1; exact q1
 | ok lo h2=>
  simp only [e2] at q1
  intro φ2 H2 s2 r2
  refine ⟨φ2,h2,ρ,(x.step s1 r1).step s2 r2,?_⟩
  cases e3:u ρ h2 with
  | no=>simp only [e3] at q1; exact q1.elim
  | ex w h'=>simp only [e3] at q1; exact q1
  | ok hi h3=>
   simp only [e3] at q1
   intro φ3 H3 s3 r3
   obtain ⟨w,e4,k⟩:=ofP q1
   exact hw φ3 h3 H3 a v lo hi w Q r3 ((ra.step s2).step s3) e4 (k.step ((s1.trans s2).trans s3)).end⟩
end
def cutW (xs:List W)(lo hi:Option Int):List W:=(xs.drop (HT.sIx xs.length 0 lo)).take (HT.sIx xs.length xs.length hi - HT.sIx xs.length 0 lo)
theorem cut_rw {T:CTb}{φ:List Addr}{H:Hp}{ws:List W}{vs:List V}{lo hi:Option Int}(r:RWs T φ H ws vs):RWs T φ H (cutW ws lo hi) (cutV vs lo hi):=by
 unfold cutW cutV
 rw [← r.length]
 exact rws_take _ (rws_drop _ r)
def slAny:V→Option Int→Option Int→Hp→VK→Prop:=fun x lo hi H Q=>slL x lo hi H Q∨slS x lo hi H Q
theorem sl_any {X:Cx}:SlR X slAny:=SlR.or sl_lstV sl_str
def slM (h:Mem)(a:W)(lo hi:Option Int):Option W:=match a with
 | .str z=>if z.length≤sizeLine then some (.str (Txt.slice z lo hi)) else none
 | a=>(items h a).map fun ws=>.tl (cutW ws lo hi)
theorem slM_ok {T:CTb}:SlW T slM slAny:=by
 intro φ h H a v lo hi w Q r ra e k
 unfold slM at e
 split at e
 ·split at e
  ·rename_i hz
   cases e
   rw [str_rw ra]
   exact .inr ⟨hz,here_k r rw_s k⟩
  ·cases e
 ·rw [Option.map_eq_some_iff] at e
  obtain ⟨ws,e,rfl⟩:=e
  obtain ⟨p,vs,rfl,q1,q2⟩:=items_ok r ra e
  refine .inl ?_
  show need (lstAt H p) _
  rw [q1]
  exact fun z hp=>new_tl r hp (cut_rw q2) k
section
variable {X:Cx} {T:CTb}
theorem rws_one {φ:List Addr}{H:Hp}{w:W}{vs:List V}(x:RWs T φ H [w] vs):∃ v,vs=[v]∧RW T φ H w v:=by
 unfold RWs at x
 obtain ⟨v1,r1,rfl,x1,x2⟩:=x
 unfold RWs at x2; subst x2
 exact ⟨v1,rfl,x1⟩
theorem rws_two {φ:List Addr}{H:Hp}{w w':W}{vs:List V}(x:RWs T φ H [w,w'] vs):∃ v v',vs=[v,v']∧RW T φ H w v∧RW T φ H w' v':=by
 unfold RWs at x
 obtain ⟨v1,r1,rfl,x1,x2⟩:=x
 obtain ⟨v2,rfl,x3⟩:=rws_one x2
 exact ⟨v1,v2,rfl,x1,x3⟩
def lenM (h:Mem):List W→Option W
 | [.str z]=>if z.length≤sizeLine then some (.int z.length) else none
 | [.td ks _]=>some (.int ks.length)
 | [.ref n]=>(match h[n]? with
  | some (.dic kvs)=>some (.int kvs.length)
  | some (.lst ws)=>some (.int ws.length)
  | _=>none)
 | [w]=>(seqs h w).map fun ws=>.int ws.length
 | _=>none
theorem rp_length {κ:Type}{φ:List Addr}{H:Hp}{ps:List (κ×W)}{qs:List (κ×V)}(h:RP T φ H ps qs):ps.length=qs.length:=Paired.length h
theorem lenM_ok:CbW T lenM lenV:=by
 intro φ h H ws vs w Q r x e k
 have seqc:∀ (a:W) (u:V) (us:List W),RW T φ H a u→seqs h a=some us→(∀ p kvs,u=.ref p→H p≠some (.dK kvs))→Q (.int us.length) H→lenV [u] H Q:=by
  intro a u us ra e nd q
  obtain ⟨p,vs,rfl,q1,q2⟩:=seqs_ok r ra e
  show (match H p with | some (.dK kvs)=>Q (.int kvs.length) H | _=>need (seqAt H p) fun ys=>Q (.int ys.length) H)
  split
  ·rename_i kvs ek
   exact absurd ek (nd p kvs rfl)
  ·rw [q1]
   show Q (.int vs.length) H
   rw [← q2.length]; exact q
 unfold lenM at e
 split at e
 ·obtain ⟨v,rfl,y0⟩:=rws_one x
  split at e
  ·rename_i hz
   cases e
   rw [str_rw y0]
   exact ⟨hz,here_k r rw_int k⟩
  ·cases e
 ·obtain ⟨v,rfl,y0⟩:=rws_one x
  cases e
  unfold RW at y0
  obtain ⟨p,vs,rfl,_,c,l,rr⟩:=y0
  show (match H p with | some (.dK kvs)=>Q (.int kvs.length) H | _=>need (seqAt H p) fun ys=>Q (.int ys.length) H)
  rw [c]
  show Q (.int ((_:List _).length:Nat)) H
  rw [List.length_zip,← rr.length,← l,Nat.min_self]
  exact here_k r rw_int k
 ·obtain ⟨v,rfl,y0⟩:=rws_one x
  rename_i n
  have x0:=y0
  unfold RW at y0
  obtain ⟨p,a,rfl⟩:=y0
  split at e
  ·rename_i kvs q
   cases e
   obtain ⟨ho,y,kv,rfl,z⟩:=r.obj n _ p q a
   show (match H p with | some (.dK kvs)=>Q (.int kvs.length) H | _=>need (seqAt H p) fun ys=>Q (.int ys.length) H)
   rw [y]
   show Q (.int kv.length) H
   rw [← rp_length z]
   exact here_k r rw_int k
  ·rename_i us q
   cases e
   refine seqc (.ref n) (.ref p) us x0 (by show items h (.ref n)=_; simp [items,q]) (fun p' kvs e1 e2=>?_) (here_k r rw_int k)
   cases e1
   obtain ⟨ho,y,kv,rfl,z⟩:=r.obj n _ p q a
   rw [y] at e2; cases e2
  ·cases e
 ·obtain ⟨v,rfl,y0⟩:=rws_one x
  rename_i _ w1 n1 n2 n3
  rw [Option.map_eq_some_iff] at e
  obtain ⟨us,e,rfl⟩:=e
  refine seqc w1 v us y0 e (fun p kvs e1 e2=>?_) (here_k r rw_int k)
  subst e1
  cases w1 with
  | tup a=>unfold RW at y0; obtain ⟨q,vs,e3,_,c,_⟩:=y0; cases e3; rw [e2] at c; cases c
  | tl a=>
   unfold RW at y0
   obtain ⟨q,vs,e3,_,c,_⟩:=y0
   cases e3
   rcases lstAt_rd c with z | ⟨o,z⟩ <;> (rw [e2] at z; cases z)
  | ref n=>exact n3 n rfl
  | _=>cases e
 ·cases e
def truM (h:Mem):W→Option W
 | .non=>some (.bl false)
 | .bl b=>some (.bl b)
 | .int i=>some (.bl (decide (i≠0)))
 | .str y=>if y.length≤sizeLine then some (.bl (decide (y.length≠0))) else none
 | .tup ws=>some (.bl (!ws.isEmpty))
 | .tl ws=>some (.bl (!ws.isEmpty))
 | _=>none
theorem rws_isEmpty {φ:List Addr}{H:Hp}{ws:List W}{vs:List V}(r:RWs T φ H ws vs):vs.isEmpty=ws.isEmpty:=by
 cases ws with
 | nil=>unfold RWs at r; subst r; rfl
 | cons w ws=>unfold RWs at r; obtain ⟨v,s,rfl,_⟩:=r; rfl
theorem truM_ok {φ:List Addr}{H:Hp}{h:Mem}{a:W}{v:V}{b:Bool}{k:Bool→Prop}(x:RW T φ H a v)(e:truM h a=some (.bl b))(q:k b):truF H v k:=by
 cases a with
 | non=>cases e; unfold RW at x; subst x; exact q
 | bl c=>cases e; unfold RW at x; subst x; exact q
 | int c=>cases e; unfold RW at x; subst x; exact q
 | str c=>
  unfold RW at x; subst x
  by_cases hz:c.length≤sizeLine
  ·simp only [truM,hz,if_true] at e
   cases e; exact ⟨hz,q⟩
  ·simp [truM,hz] at e
 | tup ws=>
  cases e
  unfold RW at x
  obtain ⟨p,vs,rfl,_,c,d⟩:=x
  show (match H p with | some (.dK kvs)=>k (!kvs.isEmpty) | _=>need (seqAt H p) fun xs=>k (!xs.isEmpty))
  rw [c]
  show need (seqAt H p) _
  rw [seqAt_tup c]
  show k (!vs.isEmpty)
  rw [rws_isEmpty d]; exact q
 | tl ws=>
  cases e
  unfold RW at x
  obtain ⟨p,vs,rfl,_,c,d⟩:=x
  show (match H p with | some (.dK kvs)=>k (!kvs.isEmpty) | _=>need (seqAt H p) fun xs=>k (!xs.isEmpty))
  rcases lstAt_rd c with z | ⟨o,z⟩
  ·rw [z]
   show need (seqAt H p) _
   rw [seqAt_lst z]
   show k (!vs.isEmpty)
   rw [rws_isEmpty d]; exact q
  ·rw [z]
   have:seqAt H p=some vs:=by unfold seqAt; rw [z]
   show need (seqAt H p) _
   rw [this]
   show k (!vs.isEmpty)
   rw [rws_isEmpty d]; exact q
 | _=>cases e
end
section
variable {X:Cx} {Z:Zc} {f:Ex} {a:Expr}
theorem pth_tru (ha:PE X a (tH Z f))(he:∀ whole,isTrue a X.env whole=(do let v ← whole; standAt a.pos; holding [v] (truthy v))):PT X a (tHT Z (xUn truM f)):=(pt_tru ha he).imp fun σ H Q ⟨φ,m,ρ,x,q⟩=>⟨φ,m,ρ,x,by
 unfold xUn at q
 rw [bindP] at q
 refine q.mono fun a h1 q1=>fun φ1 H1 v s1 r1 ra=>?_
 obtain ⟨w,e,b,rfl,k⟩:=ofP q1
 exact truM_ok (b:=b) ra e (k φ1 H1 s1 r1)⟩
end
section
variable {X:Cx} {T:CTb}
def intW:List W→Option (List Int)
 | []=>some []
 | .int i::r=>(intW r).map (i :: ·)
 | _::_=>none
theorem intW_ok {φ:List Addr}{H:Hp}:∀ {ws:List W} {vs:List V} {ns:List Int},RWs T φ H ws vs→intW ws=some ns→intsOf vs=some ns
 | [],vs,ns,r,e=>by cases e; unfold RWs at r; subst r; rfl
 | w::ws,vs,ns,r,e=>by
  unfold RWs at r
  obtain ⟨v,s,rfl,a,b⟩:=r
  cases w with
  | int i=>
   unfold intW at e
   rw [Option.map_eq_some_iff] at e
   obtain ⟨ms,e,rfl⟩:=e
   rw [int_rw a]
   unfold intsOf
   rw [intW_ok b e]; rfl
  | _=>cases e
theorem intW_map (ns:List Int):intW (ns.map W.int)=some ns:=by
 induction ns with
 | nil=>rfl
 | cons x r ih=>rw [List.map_cons]; unfold intW; rw [ih]; rfl
def sumM (h:Mem):List W→Option W
 | [w]=>((items h w).bind intW).map fun ns=>.int ns.sum
 | _=>none
theorem sumM_ok:CbW T sumM sumV:=by
 intro φ h H ws vs w Q r x e k
 unfold sumM at e
 split at e
 ·obtain ⟨v,rfl,y0⟩:=rws_one x
  rw [Option.map_eq_some_iff] at e
  obtain ⟨ns,e,rfl⟩:=e
  rw [Option.bind_eq_some_iff] at e
  obtain ⟨us,e1,e2⟩:=e
  obtain ⟨p,vs,rfl,q1,q2⟩:=items_ok r y0 e1
  show need (lstAt H p) _
  rw [q1]
  show need (intsOf vs) _
  rw [intW_ok q2 e2]
  exact here_k r rw_int k
 ·cases e
def intM (_:Mem):List W→Option W
 | [.int i]=>some (.int i)
 | [.bl b]=>some (.int (if b then 1 else 0))
 | _=>none
theorem intM_ok:CbW T intM (fun xs H Q=>(∃ i,xs=[.int i]∧Q (.int i) H)∨∃ k,xs=[.bl k]∧Q (.int (if k then 1 else 0)) H):=by
 intro φ h H ws vs w Q r x e k
 unfold intM at e
 split at e
 ·obtain ⟨v,rfl,y0⟩:=rws_one x
  cases e
  rw [int_rw y0]
  exact .inl ⟨_,rfl,here_k r rw_int k⟩
 ·obtain ⟨v,rfl,y0⟩:=rws_one x
  cases e
  rw [bl_rw y0]
  exact .inr ⟨_,rfl,here_k r rw_int k⟩
 ·cases e
def isNonW:W→Bool
 | .non=>true
 | _=>false
def isNM (_:Mem)(a b:W):Option W:=match b with
 | .non=>some (.bl (isNonW a))
 | _=>none
def notNM (_:Mem)(a b:W):Option W:=match b with
 | .non=>some (.bl (!isNonW a))
 | _=>none
theorem non_rw {φ:List Addr}{H:Hp}{v:V}(h:RW T φ H .non v):v=.non:=by unfold RW at h; exact h
theorem non_iff {φ:List Addr}{H:Hp}{a:W}{v:V}(h:RW T φ H a v):decide (v=.non)=isNonW a:=by
 cases a with
 | non=>rw [non_rw h]; rfl
 | cls c=>unfold RW at h; obtain ⟨_,_,rfl⟩:=h; rfl
 | ref c=>unfold RW at h; obtain ⟨_,_,rfl⟩:=h; rfl
 | tup c=>unfold RW at h; obtain ⟨_,_,rfl,_⟩:=h; rfl
 | tl c=>unfold RW at h; obtain ⟨_,_,rfl,_⟩:=h; rfl
 | td c d=>unfold RW at h; obtain ⟨_,_,rfl,_⟩:=h; rfl
 | ti c d f=>unfold RW at h; obtain ⟨_,_,_,_,rfl,_⟩:=h; rfl
 | exc c d f=>unfold RW at h; obtain ⟨_,_,_,_,rfl,_⟩:=h; rfl
 | _=>unfold RW at h; subst h; rfl
theorem isNM_ok:OpW T isNM (fun x y H Q=>y=.non∧Q (.bl (decide (x=.non))) H):=by
 intro φ h H a b u v w Q r ra rb e k
 unfold isNM at e
 split at e
 ·cases e
  exact ⟨non_rw rb,by rw [non_iff ra]; exact here_k r rw_b k⟩
 ·cases e
theorem notNM_ok:OpW T notNM (fun x y H Q=>y=.non∧Q (.bl (!decide (x=.non))) H):=by
 intro φ h H a b u v w Q r ra rb e k
 unfold notNM at e
 split at e
 ·cases e
  exact ⟨non_rw rb,by rw [non_iff ra]; exact here_k r rw_b k⟩
 ·cases e
def strW:List W→Option (List Str)
 | []=>some []
 | .str i::r=>(strW r).map (i :: ·)
 | _::_=>none
theorem strW_ok {φ:List Addr}{H:Hp}:∀ {ws:List W} {vs:List V} {ns:List Str},RWs T φ H ws vs→strW ws=some ns→strsOf vs=some ns
 | [],vs,ns,r,e=>by cases e; unfold RWs at r; subst r; rfl
 | w::ws,vs,ns,r,e=>by
  unfold RWs at r
  obtain ⟨v,s,rfl,a,b⟩:=r
  cases w with
  | str i=>
   unfold strW at e
   rw [Option.map_eq_some_iff] at e
   obtain ⟨ms,e,rfl⟩:=e
   rw [str_rw a]
   unfold strsOf
   rw [strW_ok b e]; rfl
  | _=>cases e
theorem strW_map (ns:List Str):strW (ns.map W.str)=some ns:=by
 induction ns with
 | nil=>rfl
 | cons x r ih=>rw [List.map_cons]; unfold strW; rw [ih]; rfl
def joinM (h:Mem)(a:W)(ws:List W):Option W:=match a,ws with
 | .str sep,[w]=>((items h w).bind strW).bind fun ts=>if JoinOk sep ts=true then some (.str (Txt.join sep ts)) else none
 | _,_=>none
theorem joinM_ok:BmW T joinM rJoin:=by
 intro φ h H a u ws vs w Q r ra x e k
 unfold joinM at e
 split at e
 ·obtain ⟨v,rfl,y0⟩:=rws_one x
  rw [Option.bind_eq_some_iff] at e
  obtain ⟨ts,e,e3⟩:=e
  rw [Option.bind_eq_some_iff] at e
  obtain ⟨us,e1,e2⟩:=e
  obtain ⟨p,vs,rfl,q1,q2⟩:=items_ok r y0 e1
  split at e3
  ·rename_i hj
   cases e3
   rw [str_rw ra]
   show need (lstAt H p) _
   rw [q1]
   show need (strsOf vs) _
   rw [strW_ok q2 e2]
   exact ⟨hj,here_k r rw_s k⟩
  ·cases e3
 ·cases e
end
section
variable {X:Cx} {Z:Zc} {f:Ex} {fa:Exs} {o e:Expr} {apos cpos:Pos}
def xBmS (op:Mem→W→List W→Option W)(f:Ex)(g:Exs):Ex:=fun ρ h=>(f ρ h).bind fun a h1=>match a with
 | .str z=>(match g ρ h1 with
  | .ok ws h2=>.of (op h2 (.str z) ws) h2
  | .ex w h2=>.ex w h2
  | .no=>.no)
 | _=>.no
theorem bmS_ok {op:Mem→W→List W→Option W}{r:V→List V→Hp→VK→Prop}(hw:BmW Z.T op r){K:PySem.W.Frag}{σ:St}{H:Hp}{Q:VK}(q:tH Z (xBmS op f fa) σ H Q):tBM K "str" r (tH Z f) (tHA Z fa) σ H Q:=by
 obtain ⟨φ,m,ρ,x,q⟩:=q
 refine ⟨φ,m,ρ,x,?_⟩
 unfold xBmS at q
 rw [bindP] at q
 refine q.mono fun a h1 q1=>fun φ1 H1 u s1 r1 ra=>?_
 cases a with
 | str z=>
  rw [str_rw ra]
  refine ⟨rfl,φ1,h1,ρ,x.step s1 r1,?_⟩
  simp only at q1
  cases e2:fa ρ h1 with
  | no=>rw [e2] at q1; exact q1.elim
  | ex w h2=>rw [e2] at q1; exact q1
  | ok ws h2=>
   rw [e2] at q1
   intro φ2 H2 vs s2 r2 rw2
   obtain ⟨w,e,k⟩:=ofP q1
   exact hw φ2 h2 H2 (.str z) (.str z) ws vs w Q r2 rw_s rw2 e (k.step (s1.trans s2)).end
 | _=>exact q1.elim
theorem BH_join (ho:PE X o (tH Z f))(ha:PA X [e] (tHA Z fa))(hbase:attributeBase o "join" X.env (eval o X.env)=eval o X.env:=by rfl)
  (hfew:((backTo cpos (starEach [e] X.env)).all (fun x=>!x.1) && (backToKw cpos (keywordEach [] X.env)).all (fun x=>x.1.isSome)
   && decide (([e]:List Expr).length+([]:List Keyword).length+(if ([]:List Keyword).isEmpty then 0 else 1)<30))=true:=by rfl)
  (hline:(apos.endLine == cpos.line)=true:=by rfl) (hs:starEach [e] X.env=(false,eval e X.env)::starEach [] X.env:=by rfl) (hplain:(backTo cpos (starEach [] X.env)).any (·.1)=false:=by rfl) :
  PE X (.Call (.Attribute o "join" apos) [e] [] cpos) (tH Z (xBmS joinM f fa)):=
 (pe_bm PySem.F.plainAttrs_str PySem.F.slot_str_join PySem.F.type_str_join mt_join ho ha hbase hfew hline hs hplain).imp fun σ H Q q=>bmS_ok joinM_ok q
end
end M
namespace M
open PySem PySem.Spec PyProof.Rows L2
structure QE (X:Cx)(Z:Zc)(e:Expr)(f:Ex):Prop where
 pe:PE X e (tH Z f)
structure QT (X:Cx)(Z:Zc)(e:Expr)(f:Ex):Prop where
 pt:PT X e (tHT Z f)
structure QW (X:Cx)(Z:Zc)(e:Expr)(f:Ex):Prop where
 pw:PW X e (tHT Z f)
structure QA (X:Cx)(Z:Zc)(es:List Expr)(f:Exs):Prop where
 pa:PA X es (tHA Z f)
structure QO (X:Cx)(Z:Zc)(e:Option Expr)(f:Eo):Prop where
 po:PO X e (tHO Z f)
structure QI (X:Cx)(Z:Zc)(tg iter:Expr)(f:Ei):Prop where
 pi:PI X tg iter (tHI Z f)
structure QC (X:Cx)(Z:Zc)(ifs:List Expr)(f:Ex):Prop where
 pc:PCs X ifs (tHT Z f)
structure QG (X:Cx)(tg:Expr)(g:TG):Prop where
 pg:PG X tg g
structure QGs (X:Cx)(tgs:List Expr)(g:TGs):Prop where
 pg:PGs X tgs g
structure QS (X:Cx)(Z:Zc)(st:Stmt)(F:Sm):Prop where
 ps:PS X st (tHS Z F)
structure QB (X:Cx)(Z:Zc)(sts:List Stmt)(F:Sm):Prop where
 ps:PSs X sts (tHS Z F)
section
variable {X:Cx} {Z:Zc} {f g k:Ex} {fa:Exs} {fi:Ei} {l u:Eo} {e a b c:Expr} {es rest:List Expr} {pos p p2:Pos} {F G B:Sm} {st:Stmt} {sts more:List Stmt} {tg iter:Expr} {x:Str} {gg:TG} {Gt:Tg}
theorem q_var (i:Nat){pos:Pos}(hN:X.N[i]? = some x:=by rfl)(hv:Vis X.env.scope x:=by first | exact Or.inl rfl | exact Or.inr (Or.inl rfl) | exact Or.inr (Or.inr rfl))(hd:(x == ("__debug__":Str))=false:=by decide)
  (hcd:(x == ("__classdict__":Str))=false:=by decide):QE X Z (.Name x pos) (xVar i):=⟨ph_var i (pe_var hN hv hd hcd)⟩
theorem q_int {i j pos}:QE X Z (.Constant (.int i) j pos) (xC (.int i)):=⟨ph_int⟩
theorem q_bl {b j pos}:QE X Z (.Constant (.bool b) j pos) (xC (.bl b)):=⟨ph_bl⟩
theorem q_non {j pos}:QE X Z (.Constant .none j pos) (xC .non):=⟨ph_non⟩
theorem q_str {x j pos}:QE X Z (.Constant (.str x) j pos) (xC (.str x)):=⟨ph_str⟩
theorem q_gci {i:Int}(hg:Gl X x)(h:GC X.mg x (.int i))(hd:(x == ("__debug__":Str))=false:=by decide):QE X Z (.Name x p) (xC (.int i)):=⟨ph_gci hg h hd⟩
theorem q_ty (n:String)(hg:Gl X x)(hm:X.mg x=none)(hv:bootBuiltins x=some (.type n))(hn:x≠"__name__":=by decide)(hd:(x == ("__debug__":Str))=false:=by decide):QE X Z (.Name x p) (xC (.ty n)):=⟨ph_ty n hg hm hv hn hd⟩
theorem q_cls {C:Addr}(hg:Gl X x)(h:GC X.mg x (.ref C))(hT:Z.T.any x=some C)(hd:(x == ("__debug__":Str))=false:=by decide):QE X Z (.Name x p) (xC (.cls x)):=⟨ph_cls hg h hT hd⟩
theorem q_bin {op:Operator}{o:Mem→W→W→Option W}{r:R2}(ho:OpR X (binaryOp op) r)(hw:OpW Z.T o r)(ha:QE X Z a f)(hb:QE X Z b g):QE X Z (.BinOp a op b pos) (xBin o f g):=⟨ph_bin ho hw ha.pe hb.pe⟩
theorem q_cmp {op:CmpOp}{o:Mem→W→W→Option W}{r:R2}(ho:OpR X (compareOp op) r)(hw:OpW Z.T o r)(ha:QE X Z a f)(hb:QE X Z b g)(hm:behindInMarks op b=false):QE X Z (.Compare a [op] [b] pos) (xBin o f g):=⟨ph_cmp ho hw ha.pe hb.pe hm⟩
theorem qt_cmp {op:CmpOp}{o:Mem→W→W→Option W}{r:R2}(ho:OpR X (compareOp op) r)(hw:OpW Z.T o r)(ha:QE X Z a f)(hb:QE X Z b g)(hm:behindInMarks op b=false):QT X Z (.Compare a [op] [b] pos) (xBin o f g):=⟨pth_cmp ho hw ha.pe hb.pe hm⟩
theorem q_chain {op op':CmpOp}{o o':Mem→W→W→Option W}{r r':R2}(ho:OpR X (compareOp op) r)(ho':OpR X (compareOp op') r')(hw:OpW Z.T o r)(hw':OpW Z.T o' r')(ha:QE X Z a f)(hb:QE X Z b g)(hc:QE X Z c k)(hm:lastMarks [op,op'] [b,c]=false:=by with_unfolding_all rfl) :
  QE X Z (.Compare a [op,op'] [b,c] pos) (xChain o o' f g k):=⟨ph_chain ho ho' hw hw' ha.pe hb.pe hc.pe hm⟩
theorem qt_chain {op op':CmpOp}{o o':Mem→W→W→Option W}{r r':R2}(ho:OpR X (compareOp op) r)(ho':OpR X (compareOp op') r')(hw:OpW Z.T o r)(hw':OpW Z.T o' r')(ha:QE X Z a f)(hb:QE X Z b g)(hc:QE X Z c k)(hm:lastMarks [op,op'] [b,c]=false:=by with_unfolding_all rfl) :
  QT X Z (.Compare a [op,op'] [b,c] pos) (xChain o o' f g k):=⟨pth_chain ho ho' hw hw' ha.pe hb.pe hc.pe hm⟩
theorem q_ix {o:Mem→W→W→Option W}{r:R2}(ho:IxR X r)(hw:OpW Z.T o r)(ha:QE X Z a f)(hb:QE X Z b g)(hs:PlainIx b):QE X Z (.Subscript a b pos) (xBin o f g):=⟨ph_ix ho hw ha.pe hb.pe hs⟩
theorem qt_val (h:QE X Z e f)(he:∀ whole,isTrue e X.env whole=(do let v ← whole; standAt e.pos; holding [v] (truthy v)):=by intro _; rfl):QT X Z e f:=⟨pth_val h.pe he⟩
theorem qt_tru (h:QE X Z e f)(he:∀ whole,isTrue e X.env whole=(do let v ← whole; standAt e.pos; holding [v] (truthy v)):=by intro _; rfl):QT X Z e (xUn truM f):=⟨pth_tru h.pe he⟩
theorem qt_not (h:QT X Z a f):QT X Z (.UnaryOp .Not a pos) (xNot f):=⟨pth_not h.pt⟩
theorem qt_w (h:QW X Z e f):QT X Z e f:=⟨h.pw.pt⟩
theorem qw_and1 (h:QT X Z a f):QW X Z (.BoolOp .And [a] pos) f:=⟨pwh_and1 h.pt⟩
theorem qw_or1 (h:QT X Z a f):QW X Z (.BoolOp .Or [a] pos) f:=⟨pwh_or1 h.pt⟩
theorem qw_and (ha:QT X Z a f)(hb:QW X Z (.BoolOp .And (b::rest) pos) g):QW X Z (.BoolOp .And (a::b::rest) pos) (xAnd f g):=⟨pwh_and ha.pt hb.pw⟩
theorem qw_or (ha:QT X Z a f)(hb:QW X Z (.BoolOp .Or (b::rest) pos) g):QW X Z (.BoolOp .Or (a::b::rest) pos) (xOr f g):=⟨pwh_or ha.pt hb.pw⟩
theorem q_and (ha:QE X Z a f)(hb:QE X Z (.BoolOp .And (b::rest) pos) g):QE X Z (.BoolOp .And (a::b::rest) pos) (xAnd f g):=⟨ph_and ha.pe hb.pe⟩
theorem q_one {op}(h:QE X Z a f):QE X Z (.BoolOp op [a] pos) f:=⟨ph_one h.pe⟩
theorem q_not (h:QE X Z a f):QE X Z (.UnaryOp .Not a pos) (xNot f):=⟨ph_not h.pe⟩
theorem q_if (hc:QT X Z c k)(ha:QE X Z a f)(hb:QE X Z b g):QE X Z (.IfExp c a b pos) (xIf k f g):=⟨ph_if hc.pt ha.pe hb.pe⟩
theorem qa_nil:QA X Z [] xNil:=⟨pah_nil⟩
theorem qa_cons (ha:QE X Z e f)(hr:QA X Z es fa)(hs:starEach (e::es) X.env=(false,eval e X.env)::starEach es X.env:=by rfl):QA X Z (e::es) (xCons f fa):=⟨pah_cons ha.pe hr.pa hs⟩
theorem q_tup {x1}(h:QA X Z es fa):QE X Z (.Tuple es x1 pos) (xTup fa):=⟨ph_tup h.pa⟩
theorem q_lst (h:QA X Z es fa):QE X Z (.List es pos) (xLst fa):=⟨ph_lst h.pa⟩
theorem q_lstN (h:QA X Z es fa):QE X Z (.List es pos) (xLstN fa):=⟨ph_lstN h.pa⟩
theorem q_cb {r:List V→Hp→VK→Prop}{o:Mem→List W→Option W}{id:String}(hw:CbW Z.T o r)(hc:CallR X (.builtin id) r)(hg:Gl X x)(hm:X.mg x=none)(hv:bootBuiltins x=some (.builtin id))(ha:QA X Z (e::es) fa)(hn:x≠"__name__":=by decide)(hdb:(x == ("__debug__":Str))=false:=by decide)
  (he:starEach (e::es) X.env=(false,eval e X.env)::starEach es X.env:=by rfl) (hpl:(backTo pos (starEach es X.env)).any (·.1)=false:=by rfl):QE X Z (.Call (.Name x p) (e::es) [] pos) (xCb o fa):=
 ⟨ph_cb hw (fun h=>pe_callB hc hg hm hv h hn hdb he hpl) ha.pa⟩
theorem q_cty {r:List V→Hp→VK→Prop}{o:Mem→List W→Option W}{id:String}(hw:CbW Z.T o r)(hc:CallR X (.type id) r)(hg:Gl X x)(hm:X.mg x=none)(hv:bootBuiltins x=some (.type id))(ha:QA X Z (e::es) fa)(hn:x≠"__name__":=by decide)(hdb:(x == ("__debug__":Str))=false:=by decide)
  (he:starEach (e::es) X.env=(false,eval e X.env)::starEach es X.env:=by rfl) (hpl:(backTo pos (starEach es X.env)).any (·.1)=false:=by rfl):QE X Z (.Call (.Name x p) (e::es) [] pos) (xCb o fa):=
 ⟨ph_cb hw (fun h=>pe_callTy hc hg hm hv h hn hdb he hpl) ha.pa⟩
theorem q_fn0 {kk j:Nat}{Fm':Fm}(Gf:FnAt X.prog X.w X.K X.mg X.base CX0 kk x (spH Z.T Fm'))(hr:Room j X.A)(hkj:kk≤j)(hg:Gl X x)(ha:QA X Z (e::es) fa)(hdb:(x == ("__debug__":Str))=false:=by decide)
  (he:starEach (e::es) X.env=(false,eval e X.env)::starEach es X.env:=by rfl) (hpl:(backTo pos (starEach es X.env)).any (·.1)=false:=by rfl) (hcl:X.calm=true:=by rfl):QE X Z (.Call (.Name x p) (e::es) [] pos) (xCall0 Fm' fa):=⟨ph_fn0 Gf hr hkj hg ha.pa hdb he hpl hcl⟩
theorem qo_none:QO X Z none xPn:=⟨poh_none⟩
theorem qo_some (h:QE X Z e f):QO X Z (some e) (xPs f):=⟨poh_some h.pe⟩
theorem q_sl {lo hi:Option Expr}{op:Mem→W→Option Int→Option Int→Option W}{r:V→Option Int→Option Int→Hp→VK→Prop}(hr:SlR X r)(hw:SlW Z.T op r)(he:QE X Z e f)(hl:QO X Z lo l)(hu:QO X Z hi u):QE X Z (.Subscript e (.Slice lo hi none p2) pos) (xSl op f l u):=⟨ph_sl hr hw he.pe hl.po hu.po⟩
theorem q_join {o:Expr}{apos cpos:Pos}(ho:QE X Z o f)(ha:QA X Z [e] fa)(hbase:attributeBase o "join" X.env (eval o X.env)=eval o X.env:=by rfl)
  (hfew:((backTo cpos (starEach [e] X.env)).all (fun x=>!x.1) && (backToKw cpos (keywordEach [] X.env)).all (fun x=>x.1.isSome)
   && decide (([e]:List Expr).length+([]:List Keyword).length+(if ([]:List Keyword).isEmpty then 0 else 1)<30))=true:=by rfl)
  (hline:(apos.endLine == cpos.line)=true:=by rfl) (hs:starEach [e] X.env=(false,eval e X.env)::starEach [] X.env:=by rfl) (hplain:(backTo cpos (starEach [] X.env)).any (·.1)=false:=by rfl) :
  QE X Z (.Call (.Attribute o "join" apos) [e] [] cpos) (xBmS joinM f fa):=⟨BH_join ho.pe ha.pa hbase hfew hline hs hplain⟩
theorem qg_name {i:Nat}(hN:X.N.Nodup)(hi:X.N[i]? = some x)(hx:Loc X.env.scope x)(hf:X.fn x=true∨X.env.scope.names.lookup x=some .local:=by first | exact .inl rfl | exact .inr rfl | assumption):QG X (.Name x pos) (gName i):=⟨pg_name hN hi hx hf⟩
theorem qg_cn {own fr:List Str}{scope:Scope}(i:Nat){C:Addr}{s:Shared}{H:Hp}{pins:List (Addr×Obj)}{fp:List Addr}(hnd:(own++fr).Nodup)(hi:(own++fr)[i]? = some x)(hx:x∈own)(hl:scope.names.lookup x=some .local):QG (cxComp X own fr scope C s H pins fp) (.Name x p) (gName i):=⟨pg_cn i hnd hi hx hl⟩
theorem qgs_nil:QGs X [] gNil:=⟨pgs_nil⟩
theorem qi_list (h:QE X Z iter f):QI X Z tg iter (xIl f):=⟨phi_list h.pe⟩
theorem qi_tup (h:QE X Z iter f):QI X Z tg iter (xIt f):=⟨phi_tup h.pe⟩
theorem qi_range1 (hg:Gl X "range")(hm:X.mg "range"=none)(ha:QE X Z a f)(hs:starEach [a] X.env=[(false,eval a X.env)]:=by rfl):QI X Z tg (.Call (.Name "range" p) [a] [] pos) (xIr1 f):=⟨phi_range1 hg hm ha.pe hs⟩
theorem qc_nil:QC X Z [] (xC (.bl true)):=⟨pcsh_nil⟩
theorem qc_one (h:QT X Z c f):QC X Z [c] f:=⟨pcsh_one h.pt⟩
theorem q_comp {osc:Scope}{N own fr:List Str}{ix:List Nat}{scope:Scope}{elt:Expr}{ifs:List Expr}{cc el:Ex}(hcalm:X.calm=true)(ho:X.env.scope=osc)(hN:X.N=N)(hk:compOk osc N own fr ix scope=true)(hi:QI X Z tg iter fi)(hG:∀ σ,TgW (Zb Z.T own ix σ) gg Gt)[hc:Pu cc][he:Pu el]
  (hg:InC X own fr scope fun Y=>QG Y tg gg) (ht:∀ σ,InC X own fr scope fun Y=>QC Y (Zb Z.T own ix σ) ifs cc) (hel:∀ σ,InC X own fr scope fun Y=>QE Y (Zb Z.T own ix σ) elt el) (hs:∀ x,foldedSetIterable iter X.env x=pure x:=by intro _; rfl) :
  QE X Z (.ListComp elt [⟨tg,iter,ifs,0⟩] scope pos) (xComp fi own.length ix Gt cc el):=⟨ph_comp hcalm ho hN hk hi.pi hG (fun a b c d e=>(hg a b c d e).pg) (fun σ a b c d e=>(ht σ a b c d e).pc) (fun σ a b c d e=>(hel σ a b c d e).pe) hs⟩
theorem qb_nil:QB X Z [] xNext:=⟨pssh_nil⟩
theorem qb_cons (h1:QS X Z st F)(h2:QB X Z sts G):QB X Z (st::sts) (xSeq F G):=⟨pssh_cons h1.ps h2.ps⟩
theorem qb_one (h1:QS X Z st F):QB X Z [st] F:=⟨pssh_one h1.ps⟩
theorem qs_ret (he:QE X Z e f):QS X Z (.Return (some e) pos) (xRet f):=⟨psh_ret he.pe⟩
theorem qs_expr (he:QE X Z e f)(hs:swapsWith e none pos.line X.env=pure false:=by rfl):QS X Z (.Expr e pos) (xDrop f):=⟨psh_expr he.pe hs⟩
theorem qs_if (hc:QT X Z c f)(ha:QB X Z sts F)(hb:QB X Z more G):QS X Z (.If c sts more pos) (xIfS f F G):=⟨psh_if hc.pt ha.ps hb.ps⟩
theorem qs_set {i:Nat}{pos':Pos}(hN:X.N.Nodup)(hi:X.N[i]? = some x)(hx:Loc X.env.scope x)(hsg:∀ σ v,Z.sg σ→Z.sg (σ.set i (some v)))(he:QE X Z e f)(hs:swapsWith e (some (.Name x pos')) pos.line X.env=pure false:=by rfl)
  (hf:X.fn x=true∨X.env.scope.names.lookup x=some .local:=by first | exact .inl rfl | exact .inr rfl | assumption):QS X Z (.Assign [.Name x pos'] e pos) (xAsg (gN i) f):=⟨psh_set hN hi hx hsg he.pe hs hf⟩
theorem qs_setc {osc:Scope}{N own fr:List Str}{ix:List Nat}{scope:Scope}{elt:Expr}{ifs:List Expr}{cc el:Ex}{i:Nat}{px spos:Pos}(hnd:X.N.Nodup)(hi':X.N[i]? = some x)(hl:X.env.scope.names.lookup x=some .local)(hsg:∀ σ v,Z.sg σ→Z.sg (σ.set i (some v)))(hcalm:X.calm=true)(ho:X.env.scope=osc)(hN:X.N=N)
  (hk:compOk osc N own fr ix scope=true) (hi:QI X Z tg iter fi) (hG:∀ σ,TgW (Zb Z.T own ix σ) gg Gt) [hc:Pu cc] [he:Pu el]
  (hg:InC X own fr scope fun Y=>QG Y tg gg) (ht:∀ σ,InC X own fr scope fun Y=>QC Y (Zb Z.T own ix σ) ifs cc) (hel:∀ σ,InC X own fr scope fun Y=>QE Y (Zb Z.T own ix σ) elt el) (hs:∀ x,foldedSetIterable iter X.env x=pure x:=by intro _; rfl)
  (hsw:swapsWith (.ListComp elt [⟨tg,iter,ifs,0⟩] scope pos) (some (.Name x px)) spos.line X.env=pure true:=by rfl) :
  QS X Z (.Assign [.Name x px] (.ListComp elt [⟨tg,iter,ifs,0⟩] scope pos) spos) (xAsg (gN i) (xComp fi own.length ix Gt cc el)):=
 ⟨psh_setc hnd hi' hl hsg hcalm ho hN hk hi.pi hG (fun a b c d e=>(hg a b c d e).pg) (fun σ a b c d e=>(ht σ a b c d e).pc) (fun σ a b c d e=>(hel σ a b c d e).pe) hs hsw⟩
theorem qs_for (hw:TgW Z gg Gt)(hp:PassesOwn (model X.prog X.w) X.A X.env X.xe)(hc:X.calm=true)(hi:QI X Z tg iter fi)(hg:QG X tg gg)(hb:QB X Z sts B)(hs:∀ x,foldedSetIterable iter X.env x=pure x:=by intro _; rfl) :
  QS X Z (.For tg iter sts [] pos) (xFor fi Gt B):=⟨psh_for hw hp hc hi.pi hg.pg hb.ps hs⟩
end
section
variable {P:Program} {w:World} {K:PySem.W.Frag} {mg:Str→Option Value} {base:Heap} {T:CTb}
theorem fun0q {x:Str}{st:Stmt}{N ps:List Str}{k:Nat}{F:Fm}{f:Addr}{fd:FuncData}{B:Sm}(R:Fun K x x st f fd)(S:FnScope N ps (defScope st))
  (hB:∀ (cdv:Value) (A:Around) (outer:List Env) (s:Shared) (H:Hp) (E:XK) (φ0:List Addr) (H0:Hp),Room k (A.deeper (envOfC x (defScope st) s.heap.objs.size f cdv))→QB (cxOf CX0 P w K mg base N x (defScope st) f cdv A outer s H E).nox (Zf T φ0 H0) (defBody st) B)
  (hx:∀ ws h w m,F ws h≠.ex w m) (hF:Told ps.length N.length B F):FnOk P w K mg base CX0 (k+1) f fd ps (spH T F):=fun0 R S (fun a b c d e g h i j=>(hB a b c d e g h i j).ps) hx hF
theorem def0q {x:Str}{st:Stmt}{N ps:List Str}{k:Nat}{F:Fm}{B:Sm}(R:DefAt K mg x st)(S:FnScope N ps (defScope st))(hb:BindsAll x x st ps)
  (hB:∀ (f:Addr) (cdv:Value) (A:Around) (outer:List Env) (s:Shared) (H:Hp) (E:XK) (φ0:List Addr) (H0:Hp),Room k (A.deeper (envOfC x (defScope st) s.heap.objs.size f cdv))→QB (cxOf CX0 P w K mg base N x (defScope st) f cdv A outer s H E).nox (Zf T φ0 H0) (defBody st) B)
  (hx:∀ ws h w m,F ws h≠.ex w m) (hF:Told ps.length N.length B F):FnAt P w K mg base CX0 (k+1) x (spH T F):=def0 R S hb (fun z a b c d e g h i j=>(hB z a b c d e g h i j).ps) hx hF
end
end M
namespace M
open PySem PySem.Spec PyProof.Rows L2
theorem intW_eq:∀ {ws:List W} {ns:List Int},intW ws=some ns→ws=ns.map W.int
 | [],ns,e=>by cases e; rfl
 | w::ws,ns,e=>by
  cases w with
  | int i=>
   unfold intW at e
   rw [Option.map_eq_some_iff] at e
   obtain ⟨ms,e,rfl⟩:=e
   rw [intW_eq e]; rfl
  | _=>cases e
theorem xLoop_nx {G:Tg}{B:Sm}(I:Sg→Mem→Prop):∀ (ws:List W) (ρ:Sg) (h:Mem),I ρ h →
  (∀ w∈ws,∀ ρ h,I ρ h→∃ ρ1,G w ρ=some ρ1∧∃ ρ' h',(B ρ1 h=.nx ρ' h'∨B ρ1 h=.ct ρ' h')∧I ρ' h')→∃ ρ' h',xLoop G B ws ρ h=.nx ρ' h'∧I ρ' h'
 | [],ρ,h,i,_=>⟨ρ,h,rfl,i⟩
 | w::r,ρ,h,i,hb=>by
  obtain ⟨ρ1,e1,ρ',h',e2,i2⟩:=hb w List.mem_cons_self ρ h i
  obtain ⟨ρ2,h2,e3,i3⟩:=xLoop_nx I r ρ' h' i2 fun w m=>hb w (List.mem_cons_of_mem _ m)
  refine ⟨ρ2,h2,?_,i3⟩
  unfold xLoop
  rw [e1]
  rcases e2 with e2 | e2 <;> (simp only [e2]; exact e3)
def lawF:Fm:=fun ws h=>match ws with
 | [.tl l]=>(match intW l with
  | some ns=>if ns.length≤63∧h.isEmpty=true then .ok (.bl true) h else .no
  | none=>.no)
 | _=>.no
theorem lawF_ex (ws:List W)(h:Mem)(w:W)(m:Mem):lawF ws h≠.ex w m:=by
 unfold lawF
 split
 ·split
  ·split <;> simp
  ·simp
 ·simp
theorem lawF_told {n:Nat}{B:Sm}(hB:∀ ns:List Int,ns.length≤63→∃ g,runB n B [.tl (ns.map W.int)] []=.ok (.bl true) g):Told 1 n B lawF:=by
 intro ws h wf lt
 unfold lawF
 split
 ·rename_i l
  cases e:intW l with
  | none=>exact .inl rfl
  | some ns=>
   simp only
   split
   ·rename_i hl
    have:h=[]:=List.isEmpty_iff.mp hl.2
    subst this
    rw [intW_eq e]
    obtain ⟨g,q⟩:=hB ns hl.1
    refine .inr ⟨rfl,?_⟩
    rw [q]
    exact fits_drop (h:=[]) (g:=g) (Nat.le_refl _) (fun o m=>by simp at m) rfl
   ·exact .inl rfl
 ·exact .inl rfl
theorem lawF_sp {K:PySem.W.Frag}{T:CTb}(hK:noList K=true):∀ vs H Q E,sp_law K vs H Q E→spH T lawF vs H Q E:=law_sp hK fun ns hl=>⟨[],by simp [lawF,intW_map,hl]⟩
end M
namespace L2
open PySem PySem.Spec PyProof.Rows
def Its (x:Str):It:=⟨fun i _=>i<x.cps.size,fun i H v H'=>H'=H∧∃ c,x.cps[i]? = some c∧v=.str ⟨#[c]⟩,fun i _=>x.cps.size≤i⟩
theorem turn_str {P:Program}{w:World}{K:PySem.W.Frag}{tg:Expr}{ty:String}(hty:ty="str_ascii_iterator"∨ty="str_iterator")(it:Addr)(x:Str)(t:Tok):Turn P w K tg (Its x) [it] it (fun i h=>h.IsStrIter it ty x t i) where
 mem:=by simp
 obj:=fun i h st b hb=>by
  have e:b=it:=by simpa using hb
  subst e
  obtain ⟨o,e,c,d⟩:=st
  exact ⟨o,e,fun v z=>by rw [d] at z; cases z⟩
 keep:=fun i h h' st k=>let ⟨o,ho,r⟩:=st; ⟨o,k it (by simp) o ho,r⟩
 item:=by
  intro X hP hw hK hc i pins s σ H E I hf st hg
  subst hP hw hK
  have hg:i<x.cps.size:=hg
  obtain ⟨f0,f1,f2,f3,f4,f5⟩:=hf it (by simp)
  have fin:∀ h',h'.IsStrIter it ty x t (i+1)→Heap.SameBut it s.heap h'→(∃ u,some (Value.str ⟨#[x.cps[i]]⟩ s.toks)=some u ∧
    wpAny (model X.prog X.w) X.A (letOwnedTupleGo tg (.ref it) u) (fun _ s2=>∃ y H',Inv X pins σ H' s2∧RelV y u∧(Its x).yld i H y H'∧s2.heap.IsStrIter it ty x t (i+1)∧∀ b∈[it],H' b=none) E { s with heap:=h',toks:=s.toks+1 }):=fun h' st' sb=>by
   have I1:Inv X pins σ H { s with heap:=h',toks:=s.toks+1 }:=I.turned (t':=s.toks+1) (fun b o hb e=>(sb.2 b hb).trans e) f0 f1 f3 f4 f5
   refine ⟨_,rfl,?_⟩
   unfold letOwnedTupleGo
   cases tg <;> exact wpAny_pure ⟨.str ⟨#[x.cps[i]]⟩,H,I1,⟨_,rfl⟩,⟨rfl,_,by simp [hg],rfl⟩,st',fun b hb=>(hf b hb).1⟩
  rcases hty with rfl | rfl
  ·exact wpAny_pyNext_ascii_item st (c:=x.cps[i]) (by simp [hg]) fin
  ·exact wpAny_pyNext_wide_item st (c:=x.cps[i]) (by simp [hg]) fin
 done:=by
  intro X hP hw hK hc i pins s σ H E I hf st hg
  subst hP hw hK
  have hg:x.cps.size≤i:=hg
  obtain ⟨f0,f1,f2,f3,f4,f5⟩:=hf it (by simp)
  have fin:∀ h',Heap.ExtBut it s.heap h'→(none:Option Value)=none∧Inv X pins σ H { s with heap:=h' }:=fun h' eb=>⟨rfl,I.turned (t':=s.toks) (fun b o hb e=>eb b o hb e) f0 f1 f3 f4 f5⟩
  rcases hty with rfl | rfl
  ·exact wpAny_pyNext_ascii_end (I.ok.hd hc) st (by simp [hg]) fin
  ·exact wpAny_pyNext_wide_end (I.ok.hd hc) st (by simp [hg]) fin
 self:=fun _ _ _ _ _ st h=>by
  rcases hty with rfl | rfl
  ·exact wpAny_pyIter_striter_ascii st h
  ·exact wpAny_pyIter_striter_wide st h
def iStr (tl:TE):TI:=fun σ H R=>tl σ H fun x H1=>∃ z,x=.str z∧R (Its z) H1
section
variable {X:Cx} {tg:Expr}
theorem pi_str {l:Expr}{tl:TE}(hl:PE X l tl):PI X tg l (iStr tl):=by
 intro pins s σ H R I h
 refine thn (hl pins s σ H _ I h) fun v s1 ⟨x,H1,I1,r1,q1⟩=>?_
 obtain ⟨z,e,q⟩:=q1
 subst e
 obtain ⟨t,rfl⟩:=r1
 have fp:∀ b∈[s1.heap.objs.size],FpOk X pins H1 b:=fun b hb=>by
  have e:b=s1.heap.objs.size:=by simpa using hb
  subst e
  exact I1.fpOk (Nat.le_refl _) (I1.hok.fresh (Nat.le_refl _))
 cases ha:z.cps.all (· < 128) with
 | false=>exact wpAny_pyIter_wide ha ⟨s1.heap.objs.size,[s1.heap.objs.size],_,_,H1,rfl,I1.kept (t':=s1.toks) fun b o e=>Heap.get?_push_of_some _ e,turn_str (.inr rfl) _ z t,⟨_,Heap.get?_push_size _ rfl,rfl,rfl⟩,fp,q⟩
 | true=>exact wpAny_pyIter_ascii ha ⟨s1.heap.objs.size,[s1.heap.objs.size],_,_,H1,rfl,I1.kept (t':=s1.toks) fun b o e=>Heap.get?_push_of_some _ e,turn_str (.inl rfl) _ z t,⟨_,Heap.get?_push_size _ rfl,rfl,rfl⟩,fp,q⟩
def allV:List V→Hp→VK→Prop:=fun vs H Q=>match vs with
 | [.ref p]=>need (lstAt H p) fun xs=>need (bolsOf xs) fun bs=>Q (.bl (bs.all id)) H
 | _=>False
theorem boolsAre_of {bs:List Bool}:∀ {us:List Value},Vals (bs.map V.bl) us→LSm.BoolsAre us bs:=by
 induction bs with
 | nil=>intro us h; cases h; exact .nil
 | cons b r ih=>
  intro us h
  cases h with
  | cons a q=>cases a; exact .cons _ (ih q)
theorem call_allV (hc:X.calm=true):CallR X (.builtin "all") allV:=by
 intro pins s σ H xs us Q I rv h
 unfold allV at h
 split at h
 ·rename_i p
  obtain ⟨xs,e1,h⟩:=need_ex h
  obtain ⟨bs,e2,q⟩:=need_ex h
  obtain ⟨u,rfl,ru⟩:=rv.one
  cases ru
  obtain ⟨its,r,pl,z⟩:=I.list (lstAt_sq (K:=X.K) e1)
  rw [bolsOf_eq e2] at r
  have hb:=boolsAre_of r
  have hl:=pl.isList
  have hlt:p<s.heap.objs.size:=by obtain ⟨_,e,_⟩:=id hl; exact Heap.lt_size e
  refine call_all_walk (wpAny_pyIter_list hl ?_)
  refine ⟨s.heap.objs.size,[s.heap.objs.size,p],[s.heap.objs.size],its.toArray.size,_,_,fun i=>(bs[i]?).getD true,rfl,Walks.list (A:=X.A.in1) (I.ok.hd hc) _ p (Nat.ne_of_lt hlt) its.toArray,
   ⟨⟨_,Heap.get?_push_size _ rfl,rfl,rfl⟩,hl.push _⟩,fun i v s' Q' E' hP hQ=>?_,fun h' tk hk=>?_⟩
  ·obtain ⟨b,e,rfl⟩:=hb.get i v (by simpa using hP)
   simp only [e,Option.getD_some] at hQ
   exact wpAny_truthy_bool hQ
  ·have e:((List.range its.toArray.size).all fun i=>(bs[i]?).getD true)=bs.all id:=by
    have hl2:its.toArray.size=bs.length:=by simpa using hb.length
    rw [hl2]
    have key:∀ (l:List Bool),((List.range l.length).all fun i=>(l[i]?).getD true)=l.all id:=by
     intro l
     induction l with
     | nil=>rfl
     | cons x r ih=>
      rw [List.length_cons,List.range_succ_eq_map,List.all_cons,List.all_map,List.all_cons]
      have:((fun i=>((x::r)[i]?).getD true) ∘ Nat.succ)=fun i=>(r[i]?).getD true:=by
       funext i
       simp
      rw [this,ih]
      rfl
    exact key bs
   rw [e]
   exact ⟨.bl _,H,I.kept (t':=tk) (LSm.kept_iter hk),rfl,q⟩
 ·exact h.elim
def inV2 (neg:Bool):R2:=fun x y H Q=>match y with
 | .str j=>(match x with
  | .str i=>Q (.bl (neg ^^ !(Builtin.Str.occurrences j i 0 j.length 1).isEmpty)) H
  | _=>False)
 | .ref p=>(match H p with
  | some (.dK kvs)=>∃ k,x=kV k∧Q (.bl (neg ^^ (valV kvs k).isSome)) H
  | some (.frz _ (.dK kvs))=>∃ k,x=kV k∧Q (.bl (neg ^^ (valV kvs k).isSome)) H
  | _=>need (seqAt H p) fun xs=>flatV x=true∧xs.all flatV=true∧Q (.bl (neg ^^ inV x xs)) H)
 | _=>False
theorem seq_sq {K:PySem.W.Frag}{H:Hp}{p:Addr}{xs:List V}(h:seqAt H p=some xs):SqL K H p xs∨SqT K H p xs:=by
 rcases seqAt_or h with h | h
 ·exact .inl (lstAt_sq h)
 ·exact .inr (tupAt_sq h)
theorem op_inV {k:Nat}(hr:Room k X.A):OpR X (compareOp .In) (inV2 false):=by
 intro pins s σ H x y v u Q I rx ry h
 unfold inV2 at h
 split at h
 ·split at h
  ·exact op_in_str pins s σ H _ _ v u Q I rx ry ⟨_,_,rfl,rfl,by simpa using h⟩
  ·exact h.elim
 ·split at h
  ·rename_i p kvs e
   obtain ⟨k,rfl,q⟩:=h
   cases ry
   exact d_in (hu_of hr) I (.k e) rx fun s' I'=>⟨.bl _,H,I',rfl,by simpa using q⟩
  ·rename_i p ob kvs e
   obtain ⟨k,rfl,q⟩:=h
   cases ry
   exact d_in (hu_of hr) I (.inl ⟨kvs,k,.inr ⟨ob,e⟩,rfl,rfl⟩) rx fun s' I'=>⟨.bl _,H,I',rfl,by simpa using q⟩
  ·obtain ⟨xs,e,h1,h2,q⟩:=need_ex h
   exact op_in_seq pins s σ H _ _ v u Q I rx ry ⟨_,xs,rfl,seq_sq e,h1,h2,by simpa using q⟩
 ·exact h.elim
theorem op_notInV {k:Nat}(hr:Room k X.A):OpR X (compareOp .NotIn) (inV2 true):=by
 intro pins s σ H x y v u Q I rx ry h
 unfold inV2 at h
 split at h
 ·split at h
  ·exact op_notIn_str pins s σ H _ _ v u Q I rx ry ⟨_,_,rfl,rfl,by simpa using h⟩
  ·exact h.elim
 ·split at h
  ·rename_i p kvs e
   obtain ⟨k,rfl,q⟩:=h
   cases ry
   exact d_notIn (hu_of hr) I (.k e) rx fun s' I'=>⟨.bl _,H,I',rfl,by simpa using q⟩
  ·rename_i p ob kvs e
   obtain ⟨k,rfl,q⟩:=h
   cases ry
   exact d_notIn (hu_of hr) I (.inl ⟨kvs,k,.inr ⟨ob,e⟩,rfl,rfl⟩) rx fun s' I'=>⟨.bl _,H,I',rfl,by simpa using q⟩
  ·obtain ⟨xs,e,h1,h2,q⟩:=need_ex h
   exact op_notIn_seq pins s σ H _ _ v u Q I rx ry ⟨_,xs,rfl,seq_sq e,h1,h2,by simpa using q⟩
 ·exact h.elim
end
end L2
namespace M
open PySem PySem.Spec PyProof.Rows L2
section
variable {X:Cx} {Z:Zc} {f:Ex} {iter tg:Expr}
def signs (z:Str):List W:=z.cps.toList.map fun c=>.str ⟨#[c]⟩
def xIs (f:Ex):Ei:=fun ρ h=>match f ρ h with
 | .ok (.str z) h'=>.ok none (signs z) h'
 | .ex w h'=>.ex w h'
 | _=>.no
theorem it_str {T:CTb}{φ:List Addr}{H:Hp}{z:Str}{P:Mem→Prop}:ItOk T φ H (Its z) (signs z) P:=by
 refine ⟨fun φ2 H2 h2 i w s2 r2 _ ei=>?_,fun φ2 H2 h2 i w y H' s2 r2 _ ei yl=>?_,fun φ2 H2 h2 s2 r2 _=>?_⟩
 ·have:=(List.getElem?_eq_some_iff.mp ei).1
  show i<z.cps.size
  simpa [signs] using this
 ·obtain ⟨rfl,c,e1,rfl⟩:=yl
  refine ⟨rfl,?_⟩
  simp only [signs,List.getElem?_map] at ei
  have e2:z.cps.toList[i]? = some c:=by simpa using e1
  rw [e2] at ei
  cases ei
  exact rw_s
 ·show z.cps.size≤_
  simp [signs]
theorem qi_str (h:QE X Z iter f):QI X Z tg iter (xIs f):=⟨(pi_str h.pe).imp fun σ H R ⟨φ,m,ρ,x,q⟩=>⟨φ,m,ρ,x,by
 unfold xIs at q
 cases e:f ρ m with
 | no=>rw [e] at q; exact q.elim
 | ex w h'=>rw [e] at q; exact q
 | ok w h'=>
  rw [e] at q
  intro φ1 H1 v s1 r1 rw1
  cases w with
  | str z=>exact ⟨z,str_rw rw1,q φ1 H1 _ s1 r1 trivial it_str⟩
  | _=>exact q.elim⟩⟩
end
section
variable {T:CTb}
def bolW:List W→Option (List Bool)
 | []=>some []
 | .bl i::r=>(bolW r).map (i :: ·)
 | _::_=>none
theorem bolW_ok {φ:List Addr}{H:Hp}:∀ {ws:List W} {vs:List V} {ns:List Bool},RWs T φ H ws vs→bolW ws=some ns→bolsOf vs=some ns
 | [],vs,ns,r,e=>by cases e; unfold RWs at r; subst r; rfl
 | w::ws,vs,ns,r,e=>by
  unfold RWs at r
  obtain ⟨v,s,rfl,a,b⟩:=r
  cases w with
  | bl i=>
   unfold bolW at e
   rw [Option.map_eq_some_iff] at e
   obtain ⟨ms,e,rfl⟩:=e
   rw [bl_rw a]
   unfold bolsOf
   rw [bolW_ok b e]; rfl
  | _=>cases e
theorem bolW_map (ns:List Bool):bolW (ns.map W.bl)=some ns:=by
 induction ns with
 | nil=>rfl
 | cons x r ih=>rw [List.map_cons]; unfold bolW; rw [ih]; rfl
def allBM (h:Mem):List W→Option W
 | [w]=>((items h w).bind bolW).map fun bs=>.bl (bs.all id)
 | _=>none
theorem allBM_ok:CbW T allBM allV:=by
 intro φ h H ws vs w Q r x e k
 unfold allBM at e
 split at e
 ·obtain ⟨v,rfl,y0⟩:=rws_one x
  rw [Option.map_eq_some_iff] at e
  obtain ⟨ns,e,rfl⟩:=e
  rw [Option.bind_eq_some_iff] at e
  obtain ⟨us,e1,e2⟩:=e
  obtain ⟨p,vs,rfl,q1,q2⟩:=items_ok r y0 e1
  show need (lstAt H p) _
  rw [q1]
  show need (bolsOf vs) _
  rw [bolW_ok q2 e2]
  exact here_k r rw_b k
 ·cases e
def keyW:W→Option Key
 | .int i=>some (.inl i)
 | .str x=>some (.inr x)
 | _=>none
def getK {α:Type}(kvs:List (Key×α))(k:Key):Option α:=(kvs.find? fun kv=>decide (kv.1=k)).map (·.2)
def dicts (h:Mem):W→Option (List (Key×W))
 | .td ks ws=>some (ks.zip ws)
 | .ref n=>(match h[n]? with
  | some (.dic kvs)=>some kvs
  | some (.fdic kvs)=>some kvs
  | _=>none)
 | _=>none
def inM (neg:Bool)(h:Mem)(a b:W):Option W:=match b with
 | .str j=>(match a with
  | .str i=>some (.bl (neg ^^ !(Builtin.Str.occurrences j i 0 j.length 1).isEmpty))
  | _=>none)
 | b=>(match dicts h b with
  | some kvs=>(keyW a).map fun k=>.bl (neg ^^ (getK kvs k).isSome)
  | none=>(seqs h b).bind fun xs=>if (flatW a && xs.all flatW)=true then some (.bl (neg ^^ xs.any fun y=>eqFl y a)) else none)
theorem rp_getK {φ:List Addr}{H:Hp}{kvs:List (Key×W)}{kv:List (Key×V)}(r:RP T φ H kvs kv)(k:Key):match getK kvs k,valV kv k with
  | some w,some v=>RW T φ H w v
  | none,none=>True
  | _,_=>False:=by
 unfold getK valV
 induction r with
 | nil=>trivial
 | @cons a b as bs h _ ih=>
  rw [List.find?_cons,List.find?_cons,h.1]
  by_cases e:b.1=k
  ·simp only [e,decide_true]
   exact h.2
  ·simp only [e,decide_false]
   exact ih
theorem rp_zip {φ:List Addr}{H:Hp}{κ:Type}:∀ {ks:List κ} {ws:List W} {vs:List V},RWs T φ H ws vs→RP T φ H (ks.zip ws) (ks.zip vs)
 | [],ws,vs,r=>by simp; exact .nil
 | k::ks,[],vs,r=>by unfold RWs at r; subst r; exact .nil
 | k::ks,w::ws,vs,r=>by
  unfold RWs at r
  obtain ⟨v,s,rfl,a,b⟩:=r
  rw [List.zip_cons_cons,List.zip_cons_cons]
  exact .cons ⟨rfl,a⟩ (rp_zip b)
theorem dicts_ok {φ:List Addr}{H:Hp}{h:Mem}{w:W}{v:V}{kvs:List (Key×W)}(r:RH T φ h H)(x:RW T φ H w v)(e:dicts h w=some kvs):∃ p kv,v=.ref p∧Rd H p (.dK kv)∧RP T φ H kvs kv:=by
 cases w with
 | td ks ws=>
  cases e
  unfold RW at x
  obtain ⟨p,vs,rfl,_,c,l,rr⟩:=x
  exact ⟨p,_,rfl,.inl c,rp_zip rr⟩
 | ref n=>
  unfold dicts at e
  unfold RW at x
  obtain ⟨p,a,rfl⟩:=x
  cases q:h[n]? with
  | none=>simp [q] at e
  | some o=>
   cases o with
   | dic us=>
    simp [q] at e
    subst e
    obtain ⟨ho,y,kv,rfl,z⟩:=r.obj n _ p q a
    exact ⟨p,kv,rfl,.inl y,z⟩
   | fdic us=>
    simp [q] at e
    subst e
    obtain ⟨ho,y,ob,kv,rfl,z⟩:=r.obj n _ p q a
    exact ⟨p,kv,rfl,.inr ⟨ob,y⟩,z⟩
   | _=>simp [q] at e
 | _=>cases e
theorem keyW_ok {φ:List Addr}{H:Hp}{w:W}{v:V}{k:Key}(x:RW T φ H w v)(e:keyW w=some k):v=kV k:=by
 cases w with
 | int i=>cases e; exact int_rw x
 | str i=>cases e; exact str_rw x
 | _=>cases e
theorem any_flat {φ:List Addr}{H:Hp}{a:W}{u:V}(ra:RW T φ H a u)(fa:flatW a=true):∀ {ws:List W} {vs:List V},RWs T φ H ws vs→ws.all flatW=true→vs.all flatV=true∧inV u vs=ws.any fun y=>eqFl y a
 | [],vs,r,f=>by unfold RWs at r; subst r; exact ⟨rfl,rfl⟩
 | w::ws,vs,r,f=>by
  unfold RWs at r
  obtain ⟨v,s,rfl,x,y⟩:=r
  rw [List.all_cons,Bool.and_eq_true] at f
  have ih:=any_flat ra fa y f.2
  have f1:=flat_ok x f.1
  refine ⟨by rw [List.all_cons,f1.1,ih.1]; rfl,?_⟩
  unfold inV at ih ⊢
  rw [List.any_cons,List.any_cons,ih.2,f1.2 ra fa]
theorem inM_ok {neg:Bool}:OpW T (inM neg) (inV2 neg):=by
 intro φ h H a b u v w Q r ra rb e k
 unfold inM at e
 split at e
 ·rw [str_rw rb]
  split at e
  ·cases e
   rw [str_rw ra]
   exact here_k r rw_b k
  ·cases e
 ·rename_i b' hb
  cases q:dicts h b with
  | some kvs=>
   rw [q] at e
   simp only [Option.map_eq_some_iff] at e
   obtain ⟨key,e1,rfl⟩:=e
   obtain ⟨p,kv,rfl,hp,rp⟩:=dicts_ok r rb q
   have:=rp_getK rp key
   have e2:(valV kv key).isSome=(getK kvs key).isSome:=by
    cases z1:getK kvs key <;> cases z2:valV kv key <;> simp [z1,z2] at this ⊢
   have fin:∃ k,u=kV k∧Q (.bl (neg ^^ (valV kv k).isSome)) H:=⟨key,keyW_ok ra e1,by rw [e2]; exact here_k r rw_b k⟩
   unfold inV2
   rcases hp with hp | ⟨ob,hp⟩
   ·simp only [hp]; exact fin
   ·simp only [hp]; exact fin
  | none=>
   rw [q] at e
   simp only [Option.bind_eq_some_iff] at e
   obtain ⟨xs,e1,e2⟩:=e
   split at e2
   ·rename_i hf
    cases e2
    rw [Bool.and_eq_true] at hf
    obtain ⟨p,vs,rfl,hp,rs⟩:=seqs_ok r rb e1
    have hd:∀ kvs,H p≠some (.dK kvs):=fun kvs z=>by
     unfold seqAt at hp; rw [z] at hp; cases hp
    have hd2:∀ ob kvs,H p≠some (.frz ob (.dK kvs)):=fun ob kvs z=>by
     unfold seqAt at hp; rw [z] at hp; cases hp
    have f:=any_flat ra hf.1 rs hf.2
    have fin:need (seqAt H p) fun xs=>flatV u=true∧xs.all flatV=true∧Q (.bl (neg ^^ inV u xs)) H:=by
     rw [hp]
     exact ⟨(flat_ok ra hf.1).1,f.1,by rw [f.2]; exact here_k r rw_b k⟩
    show (match H p with
     | some (.dK kvs)=>∃ k,u=kV k∧Q (.bl (neg ^^ (valV kvs k).isSome)) H
     | some (.frz _ (.dK kvs))=>∃ k,u=kV k∧Q (.bl (neg ^^ (valV kvs k).isSome)) H
     | _=>need (seqAt H p) fun xs=>flatV u=true∧xs.all flatV=true∧Q (.bl (neg ^^ inV u xs)) H)
    cases z:H p with
    | none=>exact fin
    | some o=>
     cases o with
     | dK kvs=>exact absurd z (hd kvs)
     | frz ob u'=>
      cases u' with
      | dK kvs=>exact absurd z (hd2 ob kvs)
      | _=>exact fin
     | _=>exact fin
   ·cases e2
end
end M
namespace M
open PySem PySem.Spec PyProof.Rows L2
theorem xBlk_fil {α:Type}{G:Tg}{c el:Ex}{ρ0:Sg}{h:Mem}(g r:α→W)(p:α→Bool):∀ (l:List α) (acc:List W),
  (∀ a∈l,∀ acc:List W,∃ ρ,G (g a) ρ0=some ρ∧(∃ h',c ρ (h++[.lst acc])=.ok (.bl (p a)) h')∧(p a=true→(∃ h',el ρ (h++[.lst acc])=.ok (r a) h')∧ltW h.length (r a)=true)) →
  xBlk G c el ρ0 h (l.map g) acc=some (acc++(l.filter p).map r)
 | [],acc,_=>by simp [xBlk]
 | a::l,acc,hh=>by
  obtain ⟨ρ,e1,⟨h',e2⟩,e3⟩:=hh a List.mem_cons_self acc
  have ih:=fun acc=>xBlk_fil g r p l acc fun b m=>hh b (List.mem_cons_of_mem _ m)
  rw [List.map_cons]
  unfold xBlk
  simp only [e1,e2]
  cases q:p a with
  | false=>
   simp only [List.filter_cons,q]
   exact ih acc
  | true=>
   obtain ⟨⟨h'',e4⟩,e5⟩:=e3 q
   simp only [e4,e5,if_true,List.filter_cons,q,List.map_cons]
   rw [ih]
   simp
theorem xComp_fil {α:Type}{fi:Ei}{own:Nat}{ix:List Nat}{G:Tg}{c el:Ex}{ρ:Sg}{h h1:Mem}{s:Option Nat}(g r:α→W)(p:α→Bool)(l:List α)(hfi:fi ρ h=.ok s (l.map g) h1)(hz:l.length<sizeLine)
  (hh:∀ a∈l,∀ acc:List W,∃ ρ',G (g a) (ρC own ix ρ)=some ρ'∧(∃ h',c ρ' (h1++[.lst acc])=.ok (.bl (p a)) h')∧(p a=true→(∃ h',el ρ' (h1++[.lst acc])=.ok (r a) h')∧ltW h1.length (r a)=true)) :
  xComp fi own ix G c el ρ h=.ok (.tl ((l.filter p).map r)) h1:=by
 unfold xComp
 rw [hfi]
 simp only [List.length_map,hz,if_true]
 rw [xBlk_fil g r p l [] hh]
 rfl
theorem xComp_map {α:Type}{fi:Ei}{own:Nat}{ix:List Nat}{G:Tg}{el:Ex}{ρ:Sg}{h h1:Mem}{s:Option Nat}(g r:α→W)(l:List α)(hfi:fi ρ h=.ok s (l.map g) h1)(hz:l.length<sizeLine)
  (hh:∀ a∈l,∀ acc:List W,∃ ρ',G (g a) (ρC own ix ρ)=some ρ'∧(∃ h',el ρ' (h1++[.lst acc])=.ok (r a) h')∧ltW h1.length (r a)=true) :
  xComp fi own ix G (xC (.bl true)) el ρ h=.ok (.tl (l.map r)) h1:=by
 rw [xComp_fil g r (fun _=>true) l hfi hz fun a m acc=>by
  obtain ⟨ρ',e1,e2,e3⟩:=hh a m acc
  exact ⟨ρ',e1,⟨_,rfl⟩,fun _=>⟨e2,e3⟩⟩]
 rw [List.filter_eq_self.mpr (by simp)]
def selfF (n m:Nat)(B:Sm):Fm:=fun ws h=>if ws.length=n then (match runB m B ws h with
 | .ok w h'=>if h.length≤h'.length then .ok w h' else .no
 | _=>.no) else .no
theorem selfF_ok {n m:Nat}{B:Sm}{ws:List W}{h h':Mem}{w:W}(hl:ws.length=n)(e:runB m B ws h=.ok w h')(hk:h.length≤h'.length):selfF n m B ws h=.ok w h':=by
 unfold selfF
 rw [if_pos hl,e]
 simp [hk]
section
variable {P:Program} {w:World} {K:PySem.W.Frag} {mg:Str→Option Value} {base:Heap} {T:CTb}
theorem def0s {x:Str}{st:Stmt}{N ps:List Str}{k:Nat}{B:Sm}(R:DefAt K mg x st)(S:FnScope N ps (defScope st))(hb:BindsAll x x st ps)
  (hB:∀ (f:Addr) (cdv:Value) (A:Around) (outer:List Env) (s:Shared) (H:Hp) (E:XK) (φ0:List Addr) (H0:Hp),Room k (A.deeper (envOfC x (defScope st) s.heap.objs.size f cdv))→QB (cxOf CX0 P w K mg base N x (defScope st) f cdv A outer s H E).nox (Zf T φ0 H0) (defBody st) B) :
  FnAt P w K mg base CX0 (k+1) x (spH T (selfF ps.length N.length B)):=by
 refine def0q R S hb hB (fun ws h w m=>?_) fun ws h wf lt=>?_
 ·unfold selfF
  split
  ·split
   ·split <;> simp
   ·simp
  ·simp
 ·unfold selfF
  split
  ·rename_i hl
   cases e:runB N.length B ws h with
   | ok w h'=>
    simp only
    split
    ·rename_i hk
     exact .inr ⟨hl,fits_ok hk⟩
    ·exact .inl rfl
   | ex w h'=>exact .inl rfl
   | no=>exact .inl rfl
  ·exact .inl rfl
end
theorem bolW_comp {α:Type}(l:List α)(f:α→Bool):bolW (l.map (W.bl ∘ f))=some (l.map f):=by rw [← List.map_map,bolW_map]
theorem atI_getD {α:Type}{l:List α}{i:Int}(d:α)(h0:0≤i)(h1:i<l.length):atI l i=some (l.getD i.toNat d):=by
 rw [atI_get' h0]
 have:i.toNat<l.length:=by omega
 simp [List.getD,this]
theorem codes_add (x y:Str):(x++y).cps.toList=x.cps.toList++y.cps.toList:=by rw [PySem.Str.cps_append,Array.toList_append]
theorem length_codes (x:Str):x.length=x.cps.toList.length:=by simp [Str.length]
theorem slice_to {x:Str}{j:Int}(h:0≤j∧j≤x.length):(Txt.slice x none (some j)).cps.toList=x.cps.toList.take j.toNat:=by
 show (StrLaws.sliceText x none (some j)).cps.toList=_
 rw [StrLaws.sliceText_to (by simpa [Str.length] using h)]
 simp
theorem join_eq (sep:Str)(ts:List Str):Txt.join sep ts=Str.join sep ts:=by
 unfold Txt.join
 rw [StrLaws.glued_eq_join]
theorem join_codes:∀ (ts:List Str),(Str.join ⟨#[]⟩ ts).cps.toList=(ts.map fun t=>t.cps.toList).flatten
 | []=>rfl
 | [x]=>by simp [Str.join]
 | x::y::r=>by
  show (x++⟨#[]⟩++Str.join ⟨#[]⟩ (y::r)).cps.toList=_
  rw [codes_add,codes_add,join_codes (y::r)]
  simp
theorem joinOk_of {sep:Str}{ts:List Str}(h:(ts.map fun t=>t.length+sep.length).sum≤sizeLine):JoinOk sep ts=true:=by
 have key:∀ (l:List Str) (n:Nat),l.foldl (fun acc t=>acc+t.length+sep.length) n=n+(l.map fun t=>t.length+sep.length).sum:=by
  intro l
  induction l with
  | nil=>intro n; simp
  | cons x r ih=>intro n; rw [List.foldl_cons,ih]; simp; omega
 unfold JoinOk
 rw [← Array.foldl_toList]
 rw [show (ts.toArray.toList)=ts from rfl,key]
 simp [PySem.Builtin.Str.tooLong]
 omega
end M
namespace L2
open PySem PySem.Spec PyProof.Rows PySem.Builtin.Str
end L2
namespace M
open PySem PySem.Spec PyProof.Rows L2 PySem.Builtin.Str
end M
namespace M
open PySem PySem.Spec PyProof.Rows L2
section
variable {X:Cx} {Z:Zc} {f:Ex} {fa:Exs} {o e:Expr} {es:List Expr} {apos cpos pos:Pos}
theorem qgs_cons {t:TG}{u:TGs}(h1:QG X e t)(h2:QGs X es u)(hs:(assignEach (e::es) X.env).map (·.2)=assign e X.env::(assignEach es X.env).map (·.2):=by rfl):QGs X (e::es) (gCons t u):=⟨pgs_cons h1.pg h2.pg hs⟩
theorem qg_tupV {k:Nat}{t:TGs}{n:Nat}(hc:X.calm=true)(h:QGs X es t)(hn:(assignEach es X.env).length=n:=by rfl)(hst:(assignEach es X.env).findIdx? (·.1)=none:=by rfl):QG X (.Tuple es k pos) (gTupV n t):=⟨pg_tupV hc h.pg hn hst⟩
end
end M
namespace M
open PySem PySem.Spec PyProof.Rows L2
section
variable {T:CTb} {φ:List Addr} {H:Hp}
theorem rp_lookup {nm:Str}:∀ {fs:List (Str×W)} {fv:List (Str×V)},RP T φ H fs fv→(∀ w,fs.lookup nm=some w→∃ v,fv.lookup nm=some v∧RW T φ H w v)∧(fs.lookup nm=none→fv.lookup nm=none)
 | [],fv,r=>by
  cases r
  exact ⟨fun _ e=>(by cases e),fun _=>rfl⟩
 | (a,x)::fs,fv,r=>by
  cases r with
  | cons p q=>
   rename_i b l
   obtain ⟨k,v⟩:=b
   obtain ⟨e,rx⟩:=p
   dsimp only at e rx
   subst e
   obtain ⟨i1,i2⟩:=rp_lookup (nm:=nm) q
   rw [List.lookup_cons,List.lookup_cons]
   cases h:nm == a with
   | true=>exact ⟨fun w e=>by cases e; exact ⟨v,rfl,rx⟩,fun e=>by cases e⟩
   | false=>exact ⟨i1,i2⟩
def putW (f:Str)(w:W):List (Str×W)→List (Str×W)
 | []=>[(f,w)]
 | (g,x)::r=>bif g == f then (g,w)::r else (g,x)::putW f w r
theorem rp_put {nm:Str}{w:W}{v:V}(x:RW T φ H w v):∀ {fs:List (Str×W)} {fv:List (Str×V)},RP T φ H fs fv→RP T φ H (putW nm w fs) (putF nm v fv)
 | [],fv,r=>by cases r; exact .cons ⟨rfl,x⟩ .nil
 | (a,y)::fs,fv,r=>by
  cases r with
  | cons p q=>
   rename_i b l
   obtain ⟨k,u⟩:=b
   obtain ⟨e,rx⟩:=p
   dsimp only at e rx
   subst e
   unfold putW putF
   by_cases h:a=nm
   ·rw [if_pos h,beq_iff_eq.mpr h]
    exact .cons ⟨rfl,x⟩ q
   ·rw [if_neg h,beq_eq_false_iff_ne.mpr h]
    exact .cons ⟨rfl,rx⟩ (rp_put x q)
def fldM (nm:Str)(h:Mem):W→Option W
 | .ref n=>(match h[n]? with
  | some (.ins _ fs)=>fs.lookup nm
  | _=>none)
 | _=>none
def FldOk (K:PySem.W.Frag)(T:CTb)(nm:Str):Prop:=∀ c C,T c=some C→Cls K C∧NoAttr K C nm
def rFld (K:PySem.W.Frag)(nm:Str):V→Hp→VK→Prop:=fun x H Q=>∃ a C dx fs v,x=.ref a∧H a=some (.ins C dx fs)∧Cls K C∧NoAttr K C nm∧fs.lookup nm=some v∧Q v H
theorem ref_ins {h:Mem}{n:Nat}{c:Str}{fs:List (Str×W)}{v:V}(r:RH T φ h H)(x:RW T φ H (.ref n) v)(e:h[n]? = some (.ins c fs)):∃ a C dx fv,v=.ref a∧φ[n]? = some a∧H a=some (.ins C dx fv)∧T c=some C∧RP T φ H fs fv:=by
 unfold RW at x
 obtain ⟨a,ea,rfl⟩:=x
 obtain ⟨ho,y,C,dx,fv,rfl,hc,rp⟩:=r.obj n _ a e ea
 exact ⟨a,C,dx,fv,rfl,ea,y,hc,rp⟩
theorem fldM_ok {K:PySem.W.Frag}{nm:Str}(hK:FldOk K T nm):UnW T (fldM nm) (rFld K nm):=by
 intro φ h H a u w Q r ra e k
 unfold fldM at e
 split at e
 ·rename_i n
  split at e
  ·rename_i c fs q
   obtain ⟨p,C,dx,fv,rfl,_,y,hc,rp⟩:=ref_ins r ra q
   obtain ⟨v,ev,rv⟩:=(rp_lookup rp).1 w e
   exact ⟨p,C,dx,fv,v,rfl,y,(hK c C hc).1,(hK c C hc).2,ev,k H v (Step.refl _ _) r rv⟩
  ·cases e
 ·cases e
end
def xSetF (nm:Str)(fo fv:Ex):Sm:=fun ρ h=>match fv ρ h with
 | .ok y h1=>(match fo ρ h1 with
  | .ok (.ref n) h2=>(match h2[n]? with
   | some (.ins c fs)=>bif decide (fs.length<1000) then .nx ρ (h2.set n (.ins c (putW nm y fs))) else .no
   | _=>.no)
  | .ex w h2=>.ex w h2
  | _=>.no)
 | .ex w h1=>.ex w h1
 | .no=>.no
def xLm (op:List W→List W→Option (W×List W))(f:Ex)(g:Exs):Ex:=fun ρ h=>(f ρ h).bind fun a h1=>match a with
 | .ref n=>(match h1[n]? with
  | some (.lst _)=>(match g ρ h1 with
   | .ok ws h2=>(match h2[n]? with
    | some (.lst xs)=>(match op xs ws with
     | some (w,ys)=>.ok w (h2.set n (.lst ys))
     | none=>.no)
    | _=>.no)
   | .ex w h2=>.ex w h2
   | .no=>.no)
  | _=>.no)
 | _=>.no
def LmW (T:CTb)(op:List W→List W→Option (W×List W))(r:V→List V→Hp→VK→Prop):Prop:=∀ φ h H n ws vs u xs ys w Q,RH T φ h H→RW T φ H (.ref n) u→RWs T φ H ws vs→h[n]? = some (.lst xs)→op xs ws=some (w,ys) →
 (∀ H' x,Step φ H φ H'→RH T φ (h.set n (.lst ys)) H'→RW T φ H' w x→Q x H')→r u vs H Q
def appM:List W→List W→Option (W×List W):=fun xs ws=>match ws with
 | [w]=>bif decide (xs.length<sizeLine) then some (.non,xs++[w]) else none
 | _=>none
section
variable {T:CTb}
theorem ref_lst {φ:List Addr}{H:Hp}{h:Mem}{n:Nat}{xs:List W}{v:V}(r:RH T φ h H)(x:RW T φ H (.ref n) v)(e:h[n]? = some (.lst xs)):∃ a us,v=.ref a∧φ[n]? = some a∧H a=some (.lst us)∧RWs T φ H xs us:=by
 unfold RW at x
 obtain ⟨a,ea,rfl⟩:=x
 obtain ⟨ho,y,us,rfl,rp⟩:=r.obj n _ a e ea
 exact ⟨a,us,rfl,ea,y,rp⟩
theorem appM_ok:LmW T appM rAppendV:=by
 intro φ h H n ws vs u xs ys w Q r ru rv e1 e2 k
 obtain ⟨a,us,rfl,ea,y,rx⟩:=ref_lst r ru e1
 unfold appM at e2
 split at e2
 ·rename_i w0
  cases hz:decide (xs.length<sizeLine) with
  | false=>rw [hz] at e2; cases e2
  | true=>
   rw [hz] at e2
   cases e2
   obtain ⟨v,rfl,rv1⟩:=rws_one rv
   have ro:RO T φ H (.lst (xs++[w0])) (.lst (us++[v])):=⟨_,rfl,rws_append rx (by unfold RWs; exact ⟨_,_,rfl,rv1,by unfold RWs; rfl⟩)⟩
   show match H a with | some (.lst xs)=>_ | _=>False
   rw [y]
   exact ⟨by rw [← rx.length]; exact of_decide_eq_true hz,k _ _ (step_set (List.mem_of_getElem? ea) (nf_lst y)) (r.set ea ro) (by unfold RW; rfl)⟩
 ·cases e2
end
section
variable {X:Cx} {Z:Zc} {f g k:Ex} {fa:Exs} {o e v:Expr} {es:List Expr} {apos cpos pos pos':Pos} {nm:Str}
theorem q_fld (he:QE X Z e f)(hK:FldOk X.K Z.T nm)(hb:attributeBase e nm X.env (eval e X.env)=eval e X.env:=by rfl):QE X Z (.Attribute e nm pos) (xUn (fldM nm) f):=
 ⟨(pe_fld he.pe hb).imp fun σ H Q ⟨φ,m,ρ,x,q⟩=>⟨φ,m,ρ,x,by
  unfold xUn at q
  rw [bindP] at q
  refine q.mono fun a h1 q1=>fun φ1 H1 u s1 r1 ra=>?_
  obtain ⟨w,e,k⟩:=ofP q1
  exact fldM_ok hK φ1 h1 H1 a u w Q r1 ra e (k.step s1).end⟩⟩
theorem qs_fld (ho:QE X Z o f)(hv:QE X Z v g)(hK:FldOk X.K Z.T nm)(hs:swapsWith v (some (.Attribute o nm pos')) pos.line X.env=pure false:=by rfl):QS X Z (.Assign [.Attribute o nm pos'] v pos) (xSetF nm f g):=
 ⟨(ps_fld ho.pe hv.pe hs).imp fun D σ H ⟨φ,m,ρ,x,q⟩=>⟨φ,m,ρ,x,by
  unfold xSetF at q
  cases e1:g ρ m with
  | no=>rw [e1] at q; exact q.elim
  | ex w h1=>rw [e1] at q; exact q
  | ok y h1=>
   rw [e1] at q
   intro φ1 H1 vy s1 r1 ry
   refine ⟨φ1,h1,ρ,x.step s1 r1,?_⟩
   dsimp only at q
   cases e2:f ρ h1 with
   | no=>rw [e2] at q; exact q.elim
   | ex w h2=>rw [e2] at q; exact q
   | ok a h2=>
    rw [e2] at q
    intro φ2 H2 va s2 r2 ra
    cases a with
    | ref n=>
     dsimp only at q
     cases e3:h2[n]? with
     | none=>rw [e3] at q; exact q.elim
     | some ob=>
      rw [e3] at q
      cases ob with
      | ins c fs=>
       dsimp only at q
       cases hz:decide (fs.length<1000) with
       | false=>rw [hz] at q; exact q.elim
       | true=>
        rw [hz] at q
        obtain ⟨p,C,dx,fv,rfl,ep,yp,hc,rp⟩:=ref_ins r2 ra e3
        have ro:RO Z.T φ2 H2 (.ins c (putW nm y fs)) (.ins C dx (putF nm vy fv)):=⟨C,dx,_,rfl,hc,rp_put (ry.step s2) rp⟩
        have s3:=step_set (H:=H2) (ho:=.ins C dx (putF nm vy fv)) (List.mem_of_getElem? ep) (nf_ins yp)
        exact ⟨p,C,dx,fv,rfl,yp,(hK c C hc).1,(hK c C hc).2,by rw [← rp_length rp]; exact of_decide_eq_true hz,
         q φ2 _ σ (s1.trans (s2.trans s3)) (r2.set ep ro) (x.rs.step (s1.trans (s2.trans s3))) x.sg⟩
      | _=>exact q.elim
    | _=>exact q.elim⟩⟩
end
end M
namespace M
open PySem PySem.Spec PyProof.Rows L2
section
variable {X:Cx} {Z:Zc} {f g k:Ex} {fa:Exs} {o e v:Expr} {es:List Expr} {apos cpos pos pos' p:Pos} {nm:Str}
theorem lm_ok {op:List W→List W→Option (W×List W)}{r:V→List V→Hp→VK→Prop}(hw:LmW Z.T op r){K:PySem.W.Frag}{σ:St}{H:Hp}{Q:VK}(q:tH Z (xLm op f fa) σ H Q):tBM K "list" r (tH Z f) (tHA Z fa) σ H Q:=by
 obtain ⟨φ,m,ρ,x,q⟩:=q
 refine ⟨φ,m,ρ,x,?_⟩
 unfold xLm at q
 rw [bindP] at q
 refine q.mono fun a h1 q1=>fun φ1 H1 u s1 r1 ra=>?_
 cases a with
 | ref n=>
  dsimp only at q1
  cases e1:h1[n]? with
  | none=>rw [e1] at q1; exact q1.elim
  | some ob=>
   rw [e1] at q1
   cases ob with
   | lst xs0=>
    dsimp only at q1
    obtain ⟨a,us,rfl,ea,y,rx⟩:=ref_lst r1 ra e1
    refine ⟨.inl ⟨rfl,us,lstAt_sq (lstAt_of y)⟩,φ1,h1,ρ,x.step s1 r1,?_⟩
    cases e2:fa ρ h1 with
    | no=>rw [e2] at q1; exact q1.elim
    | ex w h2=>rw [e2] at q1; exact q1
    | ok ws h2=>
     rw [e2] at q1
     intro φ2 H2 vs s2 r2 rv
     dsimp only at q1
     cases e3:h2[n]? with
     | none=>rw [e3] at q1; exact q1.elim
     | some ob=>
      rw [e3] at q1
      cases ob with
      | lst xs=>
       dsimp only at q1
       cases e4:op xs ws with
       | none=>rw [e4] at q1; exact q1.elim
       | some wy=>
        rw [e4] at q1
        obtain ⟨w,ys⟩:=wy
        exact hw φ2 h2 H2 n ws vs _ xs ys w Q r2 (ra.step s2) rv e3 e4 fun H' z s r' rz=>q1 φ2 H' z (s1.trans (s2.trans s)) r' rz
      | _=>exact q1.elim
   | _=>exact q1.elim
 | _=>exact q1.elim
theorem q_append (ho:QE X Z o f)(ha:QA X Z [e] fa)(hbase:attributeBase o "append" X.env (eval o X.env)=eval o X.env:=by rfl)
  (hfew:((backTo cpos (starEach [e] X.env)).all (fun x=>!x.1) && (backToKw cpos (keywordEach [] X.env)).all (fun x=>x.1.isSome)
   && decide (([e]:List Expr).length+([]:List Keyword).length+(if ([]:List Keyword).isEmpty then 0 else 1)<30))=true:=by rfl)
  (hline:(apos.endLine == cpos.line)=true:=by rfl) (hs:starEach [e] X.env=(false,eval e X.env)::starEach [] X.env:=by rfl) (hplain:(backTo cpos (starEach [] X.env)).any (·.1)=false:=by rfl) :
  QE X Z (.Call (.Attribute o "append" apos) [e] [] cpos) (xLm appM f fa):=
 ⟨(pe_bm PySem.F.plainAttrs_list PySem.F.slot_list_append PySem.F.type_list_append mt_appendV ho.pe ha.pa hbase hfew hline hs hplain).imp fun σ H Q q=>lm_ok appM_ok q⟩
def tMethA (CX:CXT)(k:Nat)(X:Cx)(m:Str)(E:XK)(ta:TE)(t:TA):TE:=fun σ H Q=>ta σ H fun x H1=>∃ a C dx fs f fd ps sp,x=.ref a∧H1 a=some (.ins C dx fs)∧Cls X.K C∧Meth X.K C m f ∧
 FnOk X.prog X.w X.K X.mg X.base CX k f fd ps sp∧Binds X.K fd ps []∧fs.lookup m=none∧t σ H1 fun vs H2=>sp (x::vs) H2 Q E
theorem pe_methA {CX:CXT}{k:Nat}{m:Str}{E:XK}{ta:TE}{t:TA}{pl:Sem Bool}(he:PE X o ta)(hr:Room k X.A)(hx:Passes CX X E)(ha:PA X (e::es) t)
  (hst:starEach (e::es) X.env=(false,eval e X.env)::starEach es X.env:=by rfl) (hpl:(backTo pos (starEach es X.env)).any (·.1)=false:=by rfl)
  (ht:eval (.Call (.Attribute o m apos) (e::es) [] pos) X.env=(do
   let ov ← eval o X.env
   standAt apos.atName
   let (f,first) ← holding [ov] (getMethod ov m pl)
   callWith pos f first (backTo pos (starEach (e::es) X.env)) (backToKw pos (keywordEach [] X.env))):=by rfl) :
  PE X (.Call (.Attribute o m apos) (e::es) [] pos) (tMethA CX k X m E ta t):=by
 intro pins s σ H Q I h
 refine PySem.W.methodCall_KW (pl:=pl) (thn (he pins s σ H _ I h) fun u s1 ⟨x,H1,I1,rx,a,C,dx,fs,f,fd,ps,sp,ex,ea,c,hm,F,hb,l,q⟩=>?_) ht
 subst ex
 obtain rfl:u=Value.ref a:=rx
 refine getmeth_ok I1 ea c hm l ?_
 refine PySem.W.callWith_K (first:=[.ref a]) (h₀:=X.base) I.ok.mod.kin hm.kp (thn (ha pos pins s1 σ H1 _ I1 q) fun us s2 ⟨vs,H2,I2,r,q2⟩=>⟨I2.kIn,?_⟩) hst hpl
 exact run_fn (us:=.ref a::us) (vs:=.ref a::vs) F hr hb .nil hx I2 (.cons rfl r) (by rw [List.append_nil]; exact q2)
theorem pe_methA0 {CX:CXT}{k:Nat}{m:Str}{E:XK}{ta:TE}{pl:Sem Bool}(he:PE X o ta)(hr:Room k X.A)(hx:Passes CX X E)
  (ht:eval (.Call (.Attribute o m apos) [] [] pos) X.env=(do
   let ov ← eval o X.env
   standAt apos.atName
   let (f,first) ← holding [ov] (getMethod ov m pl)
   callWith pos f first (backTo pos (starEach [] X.env)) (backToKw pos (keywordEach [] X.env))):=by rfl) :
  PE X (.Call (.Attribute o m apos) [] [] pos) (tMethA CX k X m E ta tNil):=by
 intro pins s σ H Q I h
 refine PySem.W.methodCall_KW (pl:=pl) (thn (he pins s σ H _ I h) fun u s1 ⟨x,H1,I1,rx,a,C,dx,fs,f,fd,ps,sp,ex,ea,c,hm,F,hb,l,q⟩=>?_) ht
 subst ex
 obtain rfl:u=Value.ref a:=rx
 refine getmeth_ok I1 ea c hm l ?_
 exact PySem.W.callWith_K0 (first:=[.ref a]) I1.kIn hm.kp (run_fn (us:=[.ref a]) (vs:=[.ref a]) F hr hb .nil hx I1 (.cons rfl .nil) q)
def MtAt (P:Program)(w:World)(K:PySem.W.Frag)(mg:Str→Option Value)(base:Heap)(T:CTb)(k:Nat)(c m:Str)(F:Fm):Prop:=
 ∃ C f fd ps,T c=some C∧Meth K C m f∧FnOk P w K mg base CX0 k f fd ps (spH T F)∧Binds K fd ps []
abbrev Tab:=Str→Option Fm
def TabAt (P:Program)(w:World)(K:PySem.W.Frag)(mg:Str→Option Value)(base:Heap)(T:CTb)(k:Nat)(m:Str)(tab:Tab):Prop:=∀ c F,tab c=some F→MtAt P w K mg base T k c m F
def xMeth (m:Str)(tab:Tab)(f:Ex)(g:Exs):Ex:=fun ρ h=>(f ρ h).bind fun a h1=>match a with
 | .ref n=>(match h1[n]? with
  | some (.ins c fs)=>(match tab c,fs.lookup m with
   | some F,none=>(match g ρ h1 with
    | .ok ws h2=>(match F (.ref n::ws) h2 with
     | .ok w h3=>.ok w h3
     | _=>.no)
    | .ex w h2=>.ex w h2
    | .no=>.no)
   | _,_=>.no)
  | _=>.no)
 | _=>.no
theorem meth_ok {m:Str}{tab:Tab}{kk:Nat}{E:XK}(hI:InsOk X.K Z.T)(ht:TabAt X.prog X.w X.K X.mg X.base Z.T kk m tab){σ:St}{H:Hp}{Q:VK}(q:tH Z (xMeth m tab f fa) σ H Q):tMethA CX0 kk X m E (tH Z f) (tHA Z fa) σ H Q:=by
 obtain ⟨φ,mm,ρ,x,q⟩:=q
 refine ⟨φ,mm,ρ,x,?_⟩
 unfold xMeth at q
 rw [bindP] at q
 refine q.mono fun a h1 q1=>fun φ1 H1 u s1 r1 ra=>?_
 cases a with
 | ref n=>
  dsimp only at q1
  cases e1:h1[n]? with
  | none=>rw [e1] at q1; exact q1.elim
  | some ob=>
   rw [e1] at q1
   cases ob with
   | ins c fs=>
    dsimp only at q1
    obtain ⟨a,C,dx,fv,rfl,ea,y,hc,rp⟩:=ref_ins r1 ra e1
    cases et:tab c with
    | none=>rw [et] at q1; exact q1.elim
    | some F=>
     cases el:fs.lookup m with
     | some w=>rw [et,el] at q1; exact q1.elim
     | none=>
      rw [et,el] at q1
      obtain ⟨C',f',fd,ps,hc',hm,Fk,hb⟩:=ht c F et
      rw [hc] at hc'; cases hc'
      refine ⟨a,C,dx,fv,f',fd,ps,_,rfl,y,(hI c C hc).cl,hm,Fk,hb,(rp_lookup rp).2 el,φ1,h1,ρ,x.step s1 r1,?_⟩
      dsimp only at q1
      cases e2:fa ρ h1 with
      | no=>rw [e2] at q1; exact q1.elim
      | ex w h2=>rw [e2] at q1; exact q1
      | ok ws h2=>
       rw [e2] at q1
       intro φ2 H2 vs s2 r2 rv
       refine ⟨φ2,h2,.ref n::ws,r2,by unfold RWs; exact ⟨_,_,rfl,ra.step s2,rv⟩,?_⟩
       dsimp only at q1
       cases e3:F (.ref n::ws) h2 with
       | no=>rw [e3] at q1; exact q1.elim
       | ex w h3=>rw [e3] at q1; exact q1.elim
       | ok w h3=>rw [e3] at q1; exact Kv.step q1 (s1.trans s2)
   | _=>exact q1.elim
 | _=>exact q1.elim
theorem q_meth {m:Str}{tab:Tab}{kk j:Nat}{pl:Sem Bool}(hI:InsOk X.K Z.T)(ht:TabAt X.prog X.w X.K X.mg X.base Z.T kk m tab)(hr:Room j X.A)(hkj:kk≤j)(ho:QE X Z o f)(ha:QA X Z (e::es) fa)
  (hst:starEach (e::es) X.env=(false,eval e X.env)::starEach es X.env:=by rfl) (hpl:(backTo pos (starEach es X.env)).any (·.1)=false:=by rfl)
  (hev:eval (.Call (.Attribute o m apos) (e::es) [] pos) X.env=(do
   let ov ← eval o X.env
   standAt apos.atName
   let (f,first) ← holding [ov] (getMethod ov m pl)
   callWith pos f first (backTo pos (starEach (e::es) X.env)) (backToKw pos (keywordEach [] X.env))):=by rfl) (hcl:X.calm=true:=by rfl):QE X Z (.Call (.Attribute o m apos) (e::es) [] pos) (xMeth m tab f fa):=
 ⟨(pe_methA (pl:=pl) ho.pe (hr.mono hkj) (pass0 hcl) ha.pa hst hpl hev).imp fun σ H Q q=>meth_ok hI ht q⟩
theorem q_meth0 {m:Str}{tab:Tab}{kk j:Nat}{pl:Sem Bool}(hI:InsOk X.K Z.T)(ht:TabAt X.prog X.w X.K X.mg X.base Z.T kk m tab)(hr:Room j X.A)(hkj:kk≤j)(ho:QE X Z o f)
  (hev:eval (.Call (.Attribute o m apos) [] [] pos) X.env=(do
   let ov ← eval o X.env
   standAt apos.atName
   let (f,first) ← holding [ov] (getMethod ov m pl)
   callWith pos f first (backTo pos (starEach [] X.env)) (backToKw pos (keywordEach [] X.env))):=by rfl) (hcl:X.calm=true:=by rfl):QE X Z (.Call (.Attribute o m apos) [] [] pos) (xMeth m tab f xNil):=
 ⟨(pe_methA0 (pl:=pl) ho.pe (hr.mono hkj) (pass0 hcl) hev).imp fun σ H Q q=>by
  obtain ⟨φ,mm,ρ,x,q⟩:=meth_ok (E:=E0) hI ht q
  refine ⟨φ,mm,ρ,x,q.mono fun a h1 q1=>fun φ1 H1 u s1 r1 ra=>?_⟩
  obtain ⟨a,C,dx,fs,f',fd,ps,sp,z1,z2,z3,z4,z5,z6,z7,φ2,m2,ρ2,x2,z8⟩:=q1 φ1 H1 u s1 r1 ra
  exact ⟨a,C,dx,fs,f',fd,ps,sp,z1,z2,z3,z4,z5,z6,z7,z8 φ2 H1 [] (Step.refl _ _) x2.rh (by unfold RWs; rfl)⟩⟩
def MkAt (P:Program)(w:World)(K:PySem.W.Frag)(mg:Str→Option Value)(base:Heap)(T:CTb)(k:Nat)(c:Str)(F:Fm):Prop:=
 ∃ C f fd ps,T c=some C∧mg c=some (.ref C)∧Mk K C f∧FnOk P w K mg base CX0 k f fd ps (spH T F)∧Binds K fd ps []
def xMake (c:Str)(F:Fm)(g:Exs):Ex:=fun ρ h=>match g ρ h with
 | .ok ws h1=>(match F (.ref h1.length::ws) (h1++[.ins c []]) with
  | .ok .non h2=>.ok (.ref h1.length) h2
  | _=>.no)
 | .ex w h1=>.ex w h1
 | .no=>.no
theorem make_ok {c:Str}{C:Addr}{F:Fm}{E:XK}(hc:Z.T c=some C){σ:St}{H:Hp}{Q:VK}(q:tH Z (xMake c F fa) σ H Q):tMake C (spH Z.T F) [] E (tHA Z fa) σ H Q:=by
 obtain ⟨φ,mm,ρ,x,q⟩:=q
 refine ⟨φ,mm,ρ,x,?_⟩
 unfold xMake at q
 cases e2:fa ρ mm with
 | no=>rw [e2] at q; exact q.elim
 | ex w h2=>rw [e2] at q; exact q
 | ok ws h1=>
  rw [e2] at q
  intro φ1 H1 vs s1 r1 rv a dx ha hd hne
  rw [List.append_nil]
  have ha':upd H1 dx (.own a) a=none:=by rw [upd_ne (Ne.symm hne)]; exact ha
  have s2:=step_tmp (φ:=φ1) (ho:=.own a) hd
  have s3:=step_new (φ:=φ1) (ho:=.ins C dx []) ha'
  have r2:=r1.tmp (ho:=.own a) hd
  have r3:=r2.new (o:=.ins c []) (ho:=.ins C dx []) ha' ⟨C,dx,[],rfl,hc,.nil⟩
  have g0:(φ1++[a])[h1.length]? = some a:=by rw [← r1.len]; simp
  refine ⟨φ1++[a],h1++[.ins c []],.ref h1.length::ws,r3,by unfold RWs; exact ⟨_,_,rfl,by unfold RW; exact ⟨a,g0,rfl⟩,rv.step (s2.trans s3)⟩,?_⟩
  dsimp only at q
  cases e3:F (.ref h1.length::ws) (h1++[.ins c []]) with
  | no=>rw [e3] at q; exact q.elim
  | ex w h3=>rw [e3] at q; exact q.elim
  | ok w h3=>
   rw [e3] at q
   cases w with
   | non=>
    intro φ4 H4 v s4 r4 rw4
    refine ⟨by unfold RW at rw4; exact rw4,q φ4 H4 (.ref a) (s1.trans (s2.trans (s3.trans s4))) r4 ?_⟩
    unfold RW
    exact ⟨a,s4.get g0,rfl⟩
   | _=>exact q.elim
end
section
variable {P:Program} {w:World} {K:PySem.W.Frag} {mg:Str→Option Value} {base:Heap} {T:CTb}
theorem funM {x qual:Str}{st:Stmt}{N ps:List Str}{k:Nat}{F:Fm}{f:Addr}{fd:FuncData}{B:Sm}(R:Fun K x qual st f fd)(S:FnScope N ps (defScope st))
  (hB:∀ (cdv:Value) (A:Around) (outer:List Env) (s:Shared) (H:Hp) (E:XK) (φ0:List Addr) (H0:Hp),Room k (A.deeper (envOfC qual (defScope st) s.heap.objs.size f cdv))→QB (cxOf CX0 P w K mg base N qual (defScope st) f cdv A outer s H E).nox (Zf T φ0 H0) (defBody st) B)
  (hx:∀ ws h w m,F ws h≠.ex w m) (hF:Told ps.length N.length B F):FnOk P w K mg base CX0 (k+1) f fd ps (spH T F):=by
 refine R.ok S (fun vs H Q E h=>?_) (fun cdv A outer s H vs Q E hr h=>?_)
 ·obtain ⟨φ,h,ws,r,rv,q⟩:=h
  rcases hF ws h r.wf (by rw [← r.len]; exact rv.lt) with e | ⟨e,_⟩
  ·rw [e] at q; exact q.elim
  ·rw [← rv.length]; exact e
 ·obtain ⟨φ,h,ws,r,rv,q⟩:=h
  refine ⟨_,(hB cdv A outer s H E φ H hr).ps,φ,h,startW N.length ws,⟨trivial,Step.refl _ _,r,rs_start rv⟩,?_⟩
  rcases hF ws h r.wf (by rw [← r.len]; exact rv.lt) with e | ⟨e,ft⟩
  ·rw [e] at q; exact q.elim
  ·exact body_ok r.len ft q fun _ _ _ _ e _=>hx _ _ _ _ e
theorem selfF_ex {n m:Nat}{B:Sm}(ws:List W)(h:Mem)(w:W)(m':Mem):selfF n m B ws h≠.ex w m':=by
 unfold selfF
 split
 ·split
  ·split <;> simp
  ·simp
 ·simp
theorem selfF_told {n m:Nat}{B:Sm}:Told n m B (selfF n m B):=fun ws h wf lt=>by
 unfold selfF
 split
 ·rename_i hl
  cases e:runB m B ws h with
  | ok w h'=>
   dsimp only
   split
   ·rename_i hk
    exact .inr ⟨hl,fits_ok hk⟩
   ·exact .inl rfl
  | ex w h'=>exact .inl rfl
  | no=>exact .inl rfl
 ·exact .inl rfl
end
end M
namespace M
open PySem PySem.Spec PyProof.Rows L2
def xBlkN (G:Tg)(c el:Ex)(ρ0:Sg)(n0:Nat):List W→Mem→Option Mem
 | [],h=>some h
 | w::r,h=>match G w ρ0 with
  | none=>none
  | some ρ=>(match c ρ h with
   | .ok (.bl true) h1=>(match el ρ h1 with
    | .ok x h2=>(match h2[n0]? with
     | some (.lst acc)=>bif decide (acc.length<sizeLine) then xBlkN G c el ρ0 n0 r (h2.set n0 (.lst (acc++[x]))) else none
     | _=>none)
    | _=>none)
   | .ok (.bl false) h1=>xBlkN G c el ρ0 n0 r h1
   | _=>none)
def xCompN (fi:Ei)(own:Nat)(ix:List Nat)(G:Tg)(c el:Ex):Ex:=fun ρ h=>match fi ρ h with
 | .ok none ws h1=>(match xBlkN G c el (ρC own ix ρ) h1.length ws (h1++[.lst []]) with
  | some h2=>.ok (.ref h1.length) h2
  | none=>.no)
 | .ex w h1=>.ex w h1
 | _=>.no
section
variable {X:Cx} {Z:Zc} {f g k:Ex} {fa:Exs} {fi:Ei} {osc:Scope} {N own fr:List Str} {ix:List Nat} {scope:Scope} {tg iter elt:Expr} {ifs:List Expr} {pos:Pos} {e c:Expr}
theorem blkN_ok {gg:TG}{G:Tg}{cc el:Ex}{T:CTb}{σ:St}{ρ:Sg}{φ1:List Addr}{H1:Hp}{h1 out:Mem}{J:It}{ws:List W}(hG:TgW (Zb T own ix σ) gg G)
  (r1:RH T φ1 h1 H1) (rs:RS T φ1 H1 ρ σ) (it:ItOk T φ1 H1 J ws (srcP none ws)) (q:xBlkN G cc el (ρC own.length ix ρ) h1.length ws (h1++[.lst []])=some out) (acc:Addr) (ha:H1 acc=none) {Q:Hp→Prop}
  (k:∀ φ' H',Step φ1 H1 φ' H'→RH T φ' out H'→φ'[h1.length]? = some acc→Q H') :
  tBlock J (σC own ix σ) acc gg (tHT (Zb T own ix σ) cc) (tH (Zb T own ix σ) el) Q (upd H1 acc (.lst [])):=by
 have s0:=step_new (φ:=φ1) (ho:=.lst []) ha
 have rb:=r1.new (o:=.lst []) ha (by unfold RO; exact ⟨[],rfl,by unfold RWs; rfl⟩)
 have hn0:(φ1++[acc])[h1.length]? = some acc:=by rw [← r1.len]; simp
 refine ⟨fun i m H=>m=ws.length - i∧i≤ws.length∧∃ φ h,Step (φ1++[acc]) (upd H1 acc (.lst [])) φ H∧RH T φ h H∧xBlkN G cc el (ρC own.length ix ρ) h1.length (ws.drop i) h=some out,
  ⟨ws.length,by simp,Nat.zero_le _,_,_,Step.refl _ _,rb,q⟩,?_⟩
 rintro i m H ⟨rfl,hi,φ,h,sH,rH,q⟩
 have hn:=sH.get hn0
 by_cases hlt:i<ws.length
 ·have ed:ws.drop i=ws[i]::ws.drop (i+1):=List.drop_eq_getElem_cons hlt
  have ei:ws[i]? = some ws[i]:=by simp [hlt]
  refine .inr ⟨it.go _ H _ i _ (s0.trans sH) rH trivial ei,fun x H' yl=>?_⟩
  obtain ⟨rfl,rwx⟩:=it.yld _ H _ i _ x H' (s0.trans sH) rH trivial ei yl
  rw [ed] at q
  unfold xBlkN at q
  cases e2:G ws[i] (ρC own.length ix ρ) with
  | none=>rw [e2] at q; cases q
  | some ρ'=>
   rw [e2] at q
   simp only at q
   have x0:Here (Zb T own ix σ) (σC own ix σ) H' φ h (ρC own.length ix ρ):=⟨leS_refl _,step_nil,rH,rs_C (rs.step (s0.trans sH))⟩
   refine hG _ _ _ _ _ _ x ρ' _ x0 rwx e2 fun σ' rs' le=>⟨le,?_⟩
   have x1:Here (Zb T own ix σ) σ' H' φ h ρ':=⟨le,step_nil,rH,rs'⟩
   refine ⟨_,_,ρ',x1,?_⟩
   cases e3:cc ρ' h with
   | no=>rw [e3] at q; cases q
   | ex w h2=>rw [e3] at q; cases q
   | ok w h2=>
    rw [e3] at q
    cases w with
    | bl b=>
     refine ⟨b,rfl,fun φ3 H3 s3 r3=>?_⟩
     cases b with
     | false=>
      exact iteF ⟨ws.length - (i+1),by omega,rfl,hlt,φ3,h2,sH.trans s3,r3,q⟩
     | true=>
      refine iteT ⟨_,_,ρ',x1.step s3 r3,?_⟩
      simp only at q
      cases e5:el ρ' h2 with
      | no=>rw [e5] at q; cases q
      | ex w h3=>rw [e5] at q; cases q
      | ok y h3=>
       rw [e5] at q
       simp only at q
       cases e6:h3[h1.length]? with
       | none=>rw [e6] at q; cases q
       | some ob=>
        rw [e6] at q
        cases ob with
        | lst aw=>
         simp only at q
         cases hz:decide (aw.length<sizeLine) with
         | false=>rw [hz] at q; cases q
         | true=>
          rw [hz] at q
          intro φ4 H4 v s4 r4 rw4
          have hn4:=s4.get (s3.get hn)
          obtain ⟨ho,y1,ys,rfl,y2⟩:=r4.obj h1.length (.lst aw) acc e6 hn4
          have lw:=y2.length
          have s5:=step_set (H:=H4) (ho:=.lst (ys++[v])) (List.mem_of_getElem? hn4) (nf_lst y1)
          have r5:=r4.set (o:=.lst (aw++[y])) (ho:=.lst (ys++[v])) hn4 (by unfold RO; exact ⟨_,rfl,rws_snoc y2 rw4⟩)
          exact ⟨ys,y1,by rw [← lw]; exact of_decide_eq_true hz,ws.length - (i+1),by omega,rfl,hlt,φ4,_,(sH.trans s3).trans (s4.trans s5),r5,q⟩
        | _=>cases q
    | _=>cases q
 ·have e:i=ws.length:=by omega
  subst e
  rw [List.drop_length] at q
  unfold xBlkN at q
  have q:=Option.some.inj q
  subst q
  exact .inl ⟨it.stop _ H _ (s0.trans sH) rH trivial,k φ H (s0.trans sH) rH hn⟩
theorem q_compN {gg:TG}{G:Tg}{cc el:Ex}(hcalm:X.calm=true)(ho:X.env.scope=osc)(hN:X.N=N)(hk:compOk osc N own fr ix scope=true)(hi:QI X Z tg iter fi)(hG:∀ σ,TgW (Zb Z.T own ix σ) gg G)
  (hg:InC X own fr scope fun Y=>QG Y tg gg) (ht:∀ σ,InC X own fr scope fun Y=>QC Y (Zb Z.T own ix σ) ifs cc) (hel:∀ σ,InC X own fr scope fun Y=>QE Y (Zb Z.T own ix σ) elt el) (hs:∀ x,foldedSetIterable iter X.env x=pure x:=by intro _; rfl) :
  QE X Z (.ListComp elt [⟨tg,iter,ifs,0⟩] scope pos) (xCompN fi own.length ix G cc el):=⟨by
 intro pins s σ H Q I q
 refine pe_comp hcalm ho hN hk hi.pi (fun a b c d e=>(hg a b c d e).pg) (fun a b c d e=>(ht σ a b c d e).pc) (fun a b c d e=>(hel σ a b c d e).pe) hs pins s σ H Q I ?_
 obtain ⟨φ,h,ρ,x,q⟩:=q
 refine ⟨φ,h,ρ,x,?_⟩
 unfold xCompN at q
 cases e:fi ρ h with
 | no=>rw [e] at q; exact q.elim
 | ex w h'=>rw [e] at q; exact q
 | ok src ws h1=>
  rw [e] at q
  cases src with
  | some n=>exact q.elim
  | none=>
   simp only at q
   cases e2:xBlkN G cc el (ρC own.length ix ρ) h1.length ws (h1++[.lst []]) with
   | none=>rw [e2] at q; exact q.elim
   | some out=>
    rw [e2] at q
    intro φ1 H1 J s1 r1 sp it acc ha
    exact blkN_ok (hG σ) r1 (x.rs.step s1) it e2 acc ha fun φ' H' s2 r2 hn=>q φ' H' _ (s1.trans s2) r2 (by unfold RW; exact ⟨acc,hn,rfl⟩)⟩
end
def setM (h:Mem)(o i v:W):Option Mem:=match o,i with
 | .ref n,.int k=>(match h[n]? with
  | some (.lst xs)=>(ixN xs.length k).map fun j=>h.set n (.lst (xs.set j v))
  | _=>none)
 | _,_=>none
def xSetI (fo fi fv:Ex):Sm:=fun ρ h=>match fv ρ h with
 | .ok v h1=>(match fo ρ h1 with
  | .ok o h2=>(match fi ρ h2 with
   | .ok i h3=>(match setM h3 o i v with
    | some h4=>.nx ρ h4
    | none=>.no)
   | .ex w h3=>.ex w h3
   | .no=>.no)
  | .ex w h2=>.ex w h2
  | .no=>.no)
 | .ex w h1=>.ex w h1
 | .no=>.no
theorem rws_set {T:CTb}{φ:List Addr}{H:Hp}{w:W}{v:V}(x:RW T φ H w v):∀ {ws:List W} {vs:List V} {j:Nat},RWs T φ H ws vs→RWs T φ H (ws.set j w) (vs.set j v)
 | [],vs,j,r=>by unfold RWs at r; subst r; simp; unfold RWs; rfl
 | a::ws,vs,j,r=>by
  unfold RWs at r
  obtain ⟨u,s,rfl,p,q⟩:=r
  cases j with
  | zero=>rw [List.set_cons_zero,List.set_cons_zero]; unfold RWs; exact ⟨_,_,rfl,x,q⟩
  | succ j=>rw [List.set_cons_succ,List.set_cons_succ]; unfold RWs; exact ⟨_,_,rfl,p,rws_set x q⟩
section
variable {X:Cx} {Z:Zc} {f g k:Ex} {o i v:Expr} {pos pos':Pos}
theorem qs_seti (ho:QE X Z o f)(hi:QE X Z i g)(hv:QE X Z v k)
  (ha:∀ w,assign (.Subscript o i pos') X.env w=(do
   let ov ← holding [w] (eval o X.env)
   let iv ← holding [w,ov] (eval i X.env)
   standAt pos'
   holding [w,ov,iv] (setItem ov iv w)
   release [w,ov,iv] []):=by intro _; rfl)
  (hs:swapsWithSole [.Subscript o i pos'] v pos.line X.env=pure false:=by rfl) (hw:swappedStores [.Subscript o i pos'] v X.env=pure none:=by rfl)
  (h1:(assignEach [.Subscript o i pos'] X.env).map (·.2)=[assign (.Subscript o i pos') X.env]:=by rfl):QS X Z (.Assign [.Subscript o i pos'] v pos) (xSetI f g k):=
 ⟨(ps_asg hv.pe (pg_sub ho.pe hi.pe set_list ha) hs hw h1).imp fun D σ H ⟨φ,m,ρ,x,q⟩=>⟨φ,m,ρ,x,by
  unfold xSetI at q
  cases e1:k ρ m with
  | no=>rw [e1] at q; exact q.elim
  | ex w h1=>rw [e1] at q; exact q
  | ok y h1=>
   rw [e1] at q
   intro φ1 H1 vy s1 r1 ry
   refine ⟨φ1,h1,ρ,x.step s1 r1,?_⟩
   dsimp only at q
   cases e2:f ρ h1 with
   | no=>rw [e2] at q; exact q.elim
   | ex w h2=>rw [e2] at q; exact q
   | ok a h2=>
    rw [e2] at q
    intro φ2 H2 va s2 r2 ra
    refine ⟨φ2,h2,ρ,(x.step s1 r1).step s2 r2,?_⟩
    dsimp only at q
    cases e3:g ρ h2 with
    | no=>rw [e3] at q; exact q.elim
    | ex w h3=>rw [e3] at q; exact q
    | ok b h3=>
     rw [e3] at q
     intro φ3 H3 vb s3 r3 rb
     dsimp only at q
     cases e4:setM h3 a b y with
     | none=>rw [e4] at q; exact q.elim
     | some h4=>
      rw [e4] at q
      unfold setM at e4
      split at e4
      ·rename_i n j
       split at e4
       ·rename_i xs e5
        rw [Option.map_eq_some_iff] at e4
        obtain ⟨jj,e6,rfl⟩:=e4
        obtain ⟨p,us,rfl,ep,yp,rx⟩:=ref_lst r3 (ra.step s3) e5
        have ry3:=ry.step (s2.trans s3)
        have s4:=step_set (H:=H3) (ho:=.lst (us.set jj vy)) (List.mem_of_getElem? ep) (nf_lst yp)
        have r4:=r3.set (o:=.lst (xs.set jj y)) (ho:=.lst (us.set jj vy)) ep ⟨_,rfl,rws_set ry3 rx⟩
        exact ⟨p,us,j,jj,rfl,int_rw rb,yp,by rw [← rx.length]; exact e6,q φ3 _ σ (s1.trans (s2.trans (s3.trans s4))) r4 (x.rs.step (s1.trans (s2.trans (s3.trans s4)))) x.sg⟩
       ·cases e4
      ·cases e4⟩⟩
end
def xPairs:List (Ex×Ex)→Sg→Mem→Option (List (W×W)×Mem)
 | [],_,h=>some ([],h)
 | (k,v)::r,ρ,h=>match k ρ h with
  | .ok a h1=>(match v ρ h1 with
   | .ok b h2=>(match xPairs r ρ h2 with
    | some (ps,h3)=>some ((a,b)::ps,h3)
    | none=>none)
   | _=>none)
  | _=>none
def keysW:List (W×W)→Option (List (Key×W))
 | []=>some []
 | (k,w)::r=>match keyW k,keysW r with
  | some a,some l=>some ((a,w)::l)
  | _,_=>none
def ndK (l:List Key):Bool:=decide l.Nodup
def xDisp (gs:List (Ex×Ex)):Ex:=fun ρ h=>match xPairs gs ρ (h++[.dic []]) with
 | some (ps,h2)=>(match keysW ps,h2[h.length]? with
  | some kvs,some (.dic [])=>bif (decide (kvs.length≤15) && ndK (kvs.map (·.1))) then .ok (.ref h.length) (h2.set h.length (.dic kvs)) else .no
  | _,_=>.no)
 | none=>.no
structure QP (X:Cx)(Z:Zc)(pos:Pos)(keys:List (Option Expr))(values:List Expr)(gs:List (Ex×Ex)):Prop where
 pp:PPs X pos keys values (gs.map fun p=>(tH Z p.1,tH Z p.2))
abbrev R2W (T:CTb)(φ:List Addr)(H:Hp):List (W×W)→List (V×V)→Prop:=Paired fun p q=>RW T φ H p.1 q.1∧RW T φ H p.2 q.2
section
variable {X:Cx} {Z:Zc} {f g:Ex} {k v:Expr} {pos:Pos} {keys:List (Option Expr)} {values:List Expr} {gs:List (Ex×Ex)}
theorem qp_nil:QP X Z pos [] [] []:=⟨pps_nil⟩
theorem qp_cons (hk:QE X Z k f)(hv:QE X Z v g)(hr:QP X Z pos keys values gs):QP X Z pos (some k::keys) (v::values) ((f,g)::gs):=⟨pps_cons hk.pe hv.pe hr.pp⟩
theorem pairs_ok {σ:St}{ρ:Sg}:∀ {gs:List (Ex×Ex)} {φ:List Addr} {H:Hp} {h h':Mem} {ps:List (W×W)} {Q:List (V×V)→Hp→Prop},Here Z σ H φ h ρ→xPairs gs ρ h=some (ps,h') →
  (∀ φ' H' vs,Step φ H φ' H'→RH Z.T φ' h' H'→R2W Z.T φ' H' ps vs→Q vs H')→tPairs (gs.map fun p=>(tH Z p.1,tH Z p.2)) σ H Q
 | [],φ,H,h,h',ps,Q,x,e,k=>by
  cases e
  exact k φ H [] (Step.refl _ _) x.rh .nil
 | (f,g)::gs,φ,H,h,h',ps,Q,x,e,k=>by
  unfold xPairs at e
  refine ⟨φ,h,ρ,x,?_⟩
  show (f ρ h).post _ _
  cases e1:f ρ h with
  | no=>rw [e1] at e; cases e
  | ex w h1=>rw [e1] at e; cases e
  | ok a h1=>
   rw [e1] at e
   dsimp only at e
   intro φ1 H1 va s1 r1 ra
   refine ⟨φ1,h1,ρ,x.step s1 r1,?_⟩
   show (g ρ h1).post _ _
   cases e2:g ρ h1 with
   | no=>rw [e2] at e; cases e
   | ex w h2=>rw [e2] at e; cases e
   | ok b h2=>
    rw [e2] at e
    dsimp only at e
    intro φ2 H2 vb s2 r2 rb
    cases e3:xPairs gs ρ h2 with
    | none=>rw [e3] at e; cases e
    | some pr=>
     obtain ⟨ps',h3⟩:=pr
     rw [e3] at e
     cases e
     exact pairs_ok ((x.step s1 r1).step s2 r2) e3 fun φ3 H3 vs s3 r3 rr=>k φ3 H3 _ (s1.trans (s2.trans s3)) r3 (.cons ⟨ra.step (s2.trans s3),rb.step s3⟩ rr)
theorem keysW_ok {T:CTb}{φ:List Addr}{H:Hp}:∀ {ps:List (W×W)} {kvs:List (Key×W)} {vs:List (V×V)},keysW ps=some kvs→R2W T φ H ps vs→∃ kv:List (Key×V),vs=kv.map (fun p=>(kV p.1,p.2))∧RP T φ H kvs kv
 | [],kvs,vs,e,r=>by
  cases e
  cases r
  exact ⟨[],rfl,.nil⟩
 | (a,b)::ps,kvs,vs,e,r=>by
  cases r with
  | cons p q=>
   rename_i z l
   obtain ⟨u,w⟩:=z
   unfold keysW at e
   cases e1:keyW a with
   | none=>rw [e1] at e; cases e
   | some k=>
    cases e2:keysW ps with
    | none=>rw [e1,e2] at e; cases e
    | some l'=>
     rw [e1,e2] at e
     cases e
     obtain ⟨kv,rfl,rr⟩:=keysW_ok e2 q
     refine ⟨(k,w)::kv,?_,.cons ⟨rfl,p.2⟩ rr⟩
     rw [List.map_cons]
     have:=keyW_ok p.1 e1
     dsimp only at this
     rw [this]
theorem mergeK_nd:∀ (more kvs:List (Key×V)),((kvs++more).map (·.1)).Nodup→mergeK kvs more=kvs++more
 | [],kvs,h=>by simp [mergeK]
 | p::r,kvs,h=>by
  have e:putK kvs p.1 p.2=kvs++[p]:=by
   unfold putK
   rw [if_neg]
   intro z
   rw [List.any_eq_true] at z
   obtain ⟨q,m,z⟩:=z
   have z:=of_decide_eq_true z
   rw [List.map_append,List.nodup_append] at h
   exact h.2.2 q.1 (List.mem_map.mpr ⟨q,m,rfl⟩) p.1 (by simp) z
  show mergeK (putK kvs p.1 p.2) r=_
  rw [e,mergeK_nd r (kvs++[p]) (by simpa using h)]
  simp
theorem rp_keys {T:CTb}{φ:List Addr}{H:Hp}{κ:Type}:∀ {a:List (κ×W)} {b:List (κ×V)},RP T φ H a b→a.map (·.1)=b.map (·.1)
 | [],b,r=>by cases r; rfl
 | p::a,b,r=>by
  cases r with
  | cons h q=>rw [List.map_cons,List.map_cons,h.1,rp_keys q]
theorem q_disp (h:QP X Z pos keys values gs)(hall:keys.all (·.isSome)=true:=by rfl)(hl:keys.length=values.length:=by rfl)(h0:keys≠[]:=by simp)(h15:keys.length≤15:=by decide):QE X Z (.Dict keys values pos) (xDisp gs):=
 ⟨(pe_disp h.pp hall hl h0 h15).imp fun σ H Q ⟨φ,m,ρ,x,q⟩=>by
  intro p hp
  unfold xDisp at q
  cases e1:xPairs gs ρ (m++[.dic []]) with
  | none=>rw [e1] at q; exact q.elim
  | some pr=>
   obtain ⟨ps,h2⟩:=pr
   rw [e1] at q
   dsimp only at q
   have s0:=step_new (φ:=φ) (ho:=.dK []) hp
   have r0:=x.rh.new (o:=.dic []) (ho:=.dK []) hp ⟨[],rfl,.nil⟩
   have hn0:(φ++[p])[m.length]? = some p:=by rw [← x.rh.len]; simp
   refine pairs_ok (x.step s0 r0) e1 fun φ1 H1 vs s1 r1 rr=>?_
   cases e2:keysW ps with
   | none=>rw [e2] at q; exact q.elim
   | some kvs=>
    cases e3:h2[m.length]? with
    | none=>rw [e2,e3] at q; exact q.elim
    | some ob=>
     rw [e2,e3] at q
     cases ob with
     | dic l=>
      cases l with
      | cons _ _=>exact q.elim
      | nil=>
       dsimp only at q
       cases hz:(decide (kvs.length≤15) && ndK (kvs.map (·.1))) with
       | false=>rw [hz] at q; exact q.elim
       | true=>
        rw [hz] at q
        rw [Bool.and_eq_true] at hz
        obtain ⟨kv,rfl,rk⟩:=keysW_ok e2 rr
        have hn1:=s1.get hn0
        obtain ⟨ho,y,kv0,rfl,z⟩:=r1.obj _ _ p e3 hn1
        cases z
        have nd:((([]:List (Key×V))++kv).map (·.1)).Nodup:=by rw [List.nil_append,← rp_keys rk]; exact of_decide_eq_true hz.2
        refine ⟨y,kv,rfl,by rw [← rp_length rk]; exact of_decide_eq_true hz.1,?_⟩
        rw [mergeK_nd kv [] nd,List.nil_append]
        have s2:=step_set (H:=H1) (ho:=.dK kv) (List.mem_of_getElem? hn1) (nf_dK y)
        have r2:=r1.set (o:=.dic kvs) (ho:=.dK kv) hn1 ⟨kv,rfl,rk⟩
        exact q φ1 _ _ (s0.trans (s1.trans s2)) r2 (by unfold RW; exact ⟨p,hn1,rfl⟩)
     | _=>exact q.elim⟩
end
def dgetM (h:Mem)(a b:W):Option W:=match dicts h a,keyW b with
 | some kvs,some k=>getK kvs k
 | _,_=>none
section
variable {X:Cx} {Z:Zc} {f g:Ex} {o i:Expr} {pos:Pos}
theorem q_dget {j:Nat}(hr:Room j X.A)(ho:QE X Z o f)(hi:QE X Z i g)(hs:NoSl i):QE X Z (.Subscript o i pos) (xBin dgetM f g):=
 ⟨(pe_dget (hu_of hr) ho.pe hi.pe hs).imp fun σ H Q ⟨φ,m,ρ,x,q⟩=>two x q fun φ2 H2 h2 u v a b s y ra rb q2=>by
  obtain ⟨w,e,k⟩:=ofP q2
  unfold dgetM at e
  cases e1:dicts h2 a with
  | none=>rw [e1] at e; cases e
  | some kvs=>
   cases e2:keyW b with
   | none=>rw [e1,e2] at e; cases e
   | some kk=>
    rw [e1,e2] at e
    dsimp only at e
    obtain ⟨p,kv,rfl,hp,rp⟩:=dicts_ok y.rh ra e1
    have hk:=keyW_ok rb e2
    subst hk
    have g:=rp_getK rp kk
    rw [e] at g
    cases ev:valV kv kk with
    | none=>rw [ev] at g; exact g.elim
    | some z=>
     rw [ev] at g
     exact ⟨p,z,rfl,.inl ⟨kv,kk,hp,rfl,ev.symm⟩,k φ2 H2 z (Step.refl _ _) y.rh g⟩⟩
end
end M
namespace M
open PySem PySem.Spec PyProof.Rows L2
section
variable {K:PySem.W.Frag} {C:Addr}
theorem ins_mk (pg:PySem.W.plainGet K C Str.empty=true)(hd:PySem.W.hasDictIn K C=true)(po:PySem.W.plainOver K C=true)(sa:PySem.W.findIn K (.ref C) "__setattr__"=some (some (.builtin "object.__setattr__")))
  (ha:PySem.W.findIn K (.ref C) "__class__"=some (some (.builtin "object.__class__"))) (hn:PySem.W.specialIn K (.builtin "object.__class__") "__get__"=some (some (.builtin "getset_descriptor.__get__"))) (htk:PySem.W.takesIn K (.builtin "object.__class__")=some true) (hm:PySem.W.mroIn K C (.type "object")=some true):InsTy K C:=⟨⟨pg,hd,po,sa⟩,ha,hn,htk,hm⟩
def MthX (K:PySem.W.Frag)(C:Addr)(m qual:Str)(st:Stmt):Prop:=∃ f fd,Meth K C m f∧Fun K m qual st f fd
theorem mthx {m qual:Str}{st:Stmt}{f:Addr}{oc:Value}{od an:Option Addr}{osl:Array (Option Value)}{kV doc pm cdv ct:Value}(a:PySem.W.findIn K (.ref C) m=some (some (.ref f)))(i:PySem.W.isFn K (.ref f)=true)
  (l:K.lookup f=some ⟨oc,od,.func (PySem.W.fnOf m qual (defArgs st) (defBody st) (defScope st) .none kV doc pm an cdv ct),osl⟩) (c:PySem.W.codeIn K cdv qual=true) (k:PySem.W.keepIn K (.ref f)=true):MthX K C m qual st:=⟨f,_,⟨a,i,k⟩,fun_mk l c k⟩
def MkX (K:PySem.W.Frag)(C:Addr)(qual:Str)(st:Stmt):Prop:=∃ f fd,Mk K C f∧Fun K "__init__" qual st f fd
theorem mkx {qual:Str}{st:Stmt}{f:Addr}{oc:Value}{od an:Option Addr}{osl:Array (Option Value)}{kV doc pm cdv ct:Value}(m:PySem.W.makesIn K C=true)(kc:PySem.W.keepIn K (.ref C)=true)(a:PySem.W.findIn K (.ref C) "__init__"=some (some (.ref f)))(i:PySem.W.isFn K (.ref f)=true)
  (l:K.lookup f=some ⟨oc,od,.func (PySem.W.fnOf "__init__" qual (defArgs st) (defBody st) (defScope st) .none kV doc pm an cdv ct),osl⟩) (c:PySem.W.codeIn K cdv qual=true) (k:PySem.W.keepIn K (.ref f)=true):MkX K C qual st:=⟨f,_,⟨m,a,i,kc⟩,fun_mk l c k⟩
end
end M
namespace M
open PySem PySem.Spec PyProof.Rows L2
end M
namespace M
open PySem PySem.Spec PyProof.Rows L2
def XRec (h:Heap)(e:Addr)(cv:Value)(da T:Option Addr):Prop:=∃ oe vs,h.get? e=some oe∧oe.cls=cv∧oe.dict=da∧oe.data=.fields vs∧match T with
 | none=>vs[1]? = some Value.none
 | some t=>t≠e∧vs[1]? = some (.ref t)∧∃ ot ts x,h.get? t=some ot∧ot.data=.fields ts∧ts[3]? = some x
structure Ch (S ch:List Addr)(h h':Heap):Prop where
 keep:∀ b o,b ∉ S→b ∉ ch→h.get? b=some o→h'.get? b=some o
 slot:∀ b o,b ∉ ch→h.get? b=some o→∃ sl,h'.get? b=some { o with slots:=sl }
 old:∀ b o,h.get? b=some o→∃ o',h'.get? b=some o'
theorem Ch.refl (S ch:List Addr)(h:Heap):Ch S ch h h:=⟨fun _ _ _ _ e=>e,fun _ o _ e=>⟨o.slots,e⟩,fun _ o e=>⟨o,e⟩⟩
theorem Ch.mono {S S' ch ch':List Addr}{h h':Heap}(c:Ch S ch h h')(a:∀ b∈S,b∈S')(d:∀ b∈ch,b∈ch'):Ch S' ch' h h':=
 ⟨fun b o h1 h2 e=>c.keep b o (fun z=>h1 (a b z)) (fun z=>h2 (d b z)) e,fun b o h2 e=>c.slot b o (fun z=>h2 (d b z)) e,c.old⟩
theorem Ch.trans {S ch:List Addr}{h h1 h2:Heap}(a:Ch S ch h h1)(b:Ch S ch h1 h2):Ch S ch h h2:=
 ⟨fun x o p q e=>b.keep x o p q (a.keep x o p q e),fun x o q e=>by
  obtain ⟨sl,e1⟩:=a.slot x o q e
  obtain ⟨sl2,e2⟩:=b.slot x _ q e1
  exact ⟨sl2,e2⟩,fun x o e=>by
  obtain ⟨o1,e1⟩:=a.old x o e
  exact b.old x o1 e1⟩
theorem dict_map (o:Obj)(f:Array Value→Array Value):(o.mapFields f).dict=o.dict:=by
 obtain ⟨c,d,dt,sl⟩:=o
 cases dt <;> rfl
section
variable {Md:Model} {A:Around} {E:Value→Shared→Prop} {s:Shared} {base:Heap} {env:Env} {outer:List Env} {L e:Addr} {cv:Value} {da:Option Addr} {Q:Unit→Shared→Prop}
theorem upd_ch {h:Heap}{t:Addr}{ot:Obj}{ts:Array Value}(ht:h.get? t=some ot)(hd:ot.data=.fields ts)(f:Array Value→Array Value):Ch [] [t] h (h.update t (Obj.mapFields f)):=by
 have self:=Heap.get?_update_self (Obj.mapFields f) ht (Obj.isFreed_of_fields (Obj.data_mapFields hd _))
 have other:∀ b,b≠t→(h.update t (Obj.mapFields f)).get? b=h.get? b:=fun b n=>Heap.get?_update_other _ _ (Ne.symm n)
 refine ⟨fun b o _ n e=>?_,fun b o n e=>⟨o.slots,?_⟩,fun b o e=>?_⟩
 ·rw [other b (by simpa using n)]; exact e
 ·rw [other b (by simpa using n)]; exact e
 ·by_cases z:b=t
  ·subst z; exact ⟨_,self⟩
  ·exact ⟨o,by rw [other b z]; exact e⟩
theorem entry_ok {oe:Obj}{vs:Array Value}{head:Value}{hadNext:Bool}(hfr:A.frames=some (env::outer))(hl:s.heap.FunFrames base (env::outer))(hf:env.frame=some L)(he:s.heap.get? e=some oe)(hd:oe.data=.fields vs)(hsz:1<vs.size)
  (k:∀ h' T',XRec h' e oe.cls oe.dict (some T')→Ch (frs (env::outer)) [e] s.heap h'→s.heap.objs.size≤T'→Q () { s with heap:=h' }) :
  wpAny Md A (do let a ← frameOf env; let pl ← entryPlaceOf L hadNext; let b ← EntryCells.newEntry head a .none (rawInt L) .none pl; setField (.ref e) 1 b) Q E s:=by
 have nS:e ∉ frs (env::outer):=fun m=>by
  obtain ⟨_,o,ho,hnf⟩:=hl.mem m
  rw [he] at ho
  cases ho
  exact hnf vs hd
 refine wpAny_bind (wpAny_frameOf_fun hfr hl hf fun g hg=>wpAny_bind (wpAny_entryPlaceOf fun pl hpl=>?_))
 unfold EntryCells.newEntry newFields
 have e1:g.get? e=some oe:=(hg.2.1 e nS).trans he
 refine wpAny_bind (wpAny_newObj_type (wpAny_setField (Heap.get?_push_of_some (h:=g) _ e1) hd hsz ?_) (hpl.sizeOk5 _ _ _ _ _))
 have e2:=Heap.get?_push_of_some (h:=g) { cls:=.type "traceback",dict:=none,data:=.fields ([head,.ref L,.none,rawInt L,.none]++(if pl.isEmpty then List.replicate 6 Value.none else pl)).toArray } e1
 have d3:=Obj.data_mapFields hd fun u=>u.setIfInBounds 1 (Value.ref g.objs.size)
 have e3:=Heap.get?_update_self (Obj.mapFields fun u=>u.setIfInBounds 1 (Value.ref g.objs.size)) e2 (Obj.isFreed_of_fields d3)
 have hne:g.objs.size≠e:=Nat.ne_of_gt (Heap.lt_size e1)
 have oth:∀ b,b≠e→∀ tb:Obj,((g.push tb).update e (Obj.mapFields fun u=>u.setIfInBounds 1 (Value.ref g.objs.size))).get? b=(g.push tb).get? b:=fun b n tb=>Heap.get?_update_other _ _ (Ne.symm n)
 refine k _ g.objs.size ⟨_,_,e3,Obj.cls_mapFields _ _,dict_map _ _,d3,hne,by simp [hsz],_,_,rawInt L,(oth _ hne _).trans (Heap.get?_push_size g rfl),rfl,?_⟩ ⟨fun b o h1 h2 q=>?_,fun b o h2 q=>?_,fun b o q=>?_⟩ (Nat.le_of_eq hg.1.symm)
 ·first | (simp; done) | (rcases hpl with rfl | ⟨_,_,_,_,_,_,_,rfl⟩ <;> simp)
 ·rw [oth b (by simpa using h2)]
  exact Heap.get?_push_of_some _ ((hg.2.1 b h1).trans q)
 ·obtain ⟨sl,q1⟩:=hg.2.2 b o q
  exact ⟨sl,(oth b (by simpa using h2) _).trans (Heap.get?_push_of_some _ q1)⟩
 ·obtain ⟨sl,q1⟩:=hg.2.2 b o q
  by_cases z:b=e
  ·subst z; exact ⟨_,e3⟩
  ·exact ⟨_,(oth b z _).trans (Heap.get?_push_of_some _ q1)⟩
theorem note_ok {T:Option Addr}(hfr:A.frames=some (env::outer))(hl:s.heap.FunFrames base (env::outer))(hf:env.frame=some L)(R:XRec s.heap e cv da T)
  (k:∀ h' T',XRec h' e cv da (some T')→Ch (frs (env::outer)) (e::T.toList) s.heap h'→(T=some T'∨s.heap.objs.size≤T')→Q () { s with heap:=h' }):wpAny Md A (noteFrame (.ref e) env) Q E s:=by
 obtain ⟨oe,vs,he,rfl,rfl,hd,hT⟩:=R
 unfold noteFrame
 simp only [hf]
 cases T with
 | none=>
  refine wpAny_bind (wpAny_field he hd hT ?_)
  rw [if_neg (by decide)]
  exact entry_ok hfr hl hf he hd (Array.getElem?_eq_some_iff.mp hT).1 fun h' T' r c n=>k h' T' r c (.inr n)
 | some t=>
  obtain ⟨hte,h1,ot,ts,x,ht,hdt,h3⟩:=hT
  refine wpAny_bind (wpAny_field he hd h1 ?_)
  rw [if_pos (by simp)]
  refine wpAny_bind (wpAny_field ht hdt h3 ?_)
  by_cases hx:(x == rawInt L)=true
  ·rw [if_pos hx]
   obtain ⟨hh,gg,dd,tk,os⟩:=s
   exact wpAny_pure (k hh t ⟨oe,vs,he,rfl,rfl,hd,hte,h1,ot,ts,x,ht,hdt,h3⟩ (Ch.refl _ _ _) (.inl rfl))
  ·rw [if_neg hx]
   refine wpAny_bind (wpAny_setField ht hdt (Array.getElem?_eq_some_iff.mp h3).1 ?_)
   have c1:=upd_ch ht hdt fun u=>u.setIfInBounds 3 Value.none
   have oth:∀ b,b≠t→(s.heap.update t (Obj.mapFields fun u=>u.setIfInBounds 3 Value.none)).get? b=s.heap.get? b:=fun b n=>Heap.get?_update_other _ _ (Ne.symm n)
   have hl2:(s.heap.update t (Obj.mapFields fun u=>u.setIfInBounds 3 Value.none)).FunFrames base (env::outer):=hl.of_keeps fun b o hb hnf=>⟨o,(oth b fun z=>by subst z; rw [ht] at hb; cases hb; exact hnf ts hdt).trans hb,rfl⟩
   refine entry_ok (s:={ s with heap:=s.heap.update t (Obj.mapFields fun u=>u.setIfInBounds 3 Value.none) }) hfr hl2 hf ((oth e (Ne.symm hte)).trans he) hd (Array.getElem?_eq_some_iff.mp h1).1 fun h' T' r c n=>?_
   refine k h' T' r ((c1.mono (fun b z=>by cases z) fun b z=>by simp at z; subst z; simp).trans (c.mono (fun b z=>z) fun b z=>by simp at z; subst z; simp)) (.inr ?_)
   rw [← Heap.size_after_update s.heap t (Obj.mapFields fun u=>u.setIfInBounds 3 Value.none)]
   exact n
theorem flight_ok {T:Addr}(R:XRec s.heap e cv da (some T))(k:∀ h',XRec h' e cv da (some T)→Ch [] [T] s.heap h'→Q () { s with heap:=h' }):wpAny Md A (setFlight (.ref e) none) Q E s:=by
 obtain ⟨oe,vs,he,rfl,rfl,hd,hte,h1,ot,ts,x,ht,hdt,h3⟩:=R
 have hsz:=(Array.getElem?_eq_some_iff.mp h3).1
 have d2:=Obj.data_mapFields hdt fun u=>u.setIfInBounds 3 Value.none
 refine wpAny_setFlight_none he hd h1 ht hdt hsz (k _ ⟨oe,vs,?_,rfl,rfl,hd,hte,h1,_,_,Value.none,Heap.get?_update_self _ ht (Obj.isFreed_of_fields d2),d2,by simp [hsz]⟩ (upd_ch ht hdt _))
 exact (Heap.get?_update_other _ _ hte).trans he
end
end M
namespace M
open PySem PySem.Spec PyProof.Rows L2
def Outs (X:Cx)(pins:List (Addr×Obj))(b:Addr):Prop:=(X.s₀.heap.get? b=none∨b∈X.ex)∧b≠X.env.locals∧(∀ x c,X.env.cells.lookup x=some c→c≠b)∧∀ p∈X.pn++pins,p.1≠b
section
variable {X:Cx} {pins:List (Addr×Obj)} {σ:St} {H:Hp} {s:Shared} {h':Heap} {ch:List Addr}
theorem hok_there {P:Program}{w:World}{hp:Heap}{a:Addr}{o:HO}(x:HOk P w H hp)(e:H a=some o):∃ ob,hp.get? a=some ob:=by
 have go:∀ (o:HO),ObjOk P w H hp a o→∃ ob,hp.get? a=some ob:=by
  intro o
  induction o with
  | lst xs=>intro x; obtain ⟨_,_,_,_,q⟩:=x; exact ⟨_,q⟩
  | tup xs=>intro x; obtain ⟨_,_,_,p⟩:=x; obtain ⟨o,q,_⟩:=p; exact ⟨_,q⟩
  | dK kvs=>intro x; obtain ⟨_,_,_,_,p⟩:=x; obtain ⟨o,es,ep,q,_⟩:=p; exact ⟨_,q⟩
  | dT kvs=>intro x; obtain ⟨_,_,_,_,o,_,_,q,_⟩:=x; exact ⟨_,q⟩
  | set S n=>intro x; obtain ⟨o,_,_,_,q,_⟩:=x; exact ⟨_,q⟩
  | ins C dx fs=>intro x; obtain ⟨_,_,_,q,_⟩:=x; exact ⟨_,q⟩
  | own y=>intro x; exact x
  | xd fs=>intro x; obtain ⟨_,⟨_,_,_,q,_⟩,_⟩:=x; exact ⟨_,q⟩
  | rng lo hi=>intro x; obtain ⟨_,_,_,q⟩:=x; exact ⟨_,q⟩
  | frz ob u _=>intro x; exact ⟨_,x.1⟩
  | tbl ps=>intro x; exact ⟨_,x⟩
  | met f y=>intro x; exact ⟨_,x⟩
  | ext φ=>intro x; exact x.2.1
 exact go o (x a o e)
theorem untracked {P:Program}{w:World}{hp:Heap}{a:Addr}(x:HOk P w H hp)(n:hp.get? a=none):H a=none:=by
 cases q:H a with
 | none=>rfl
 | some o=>obtain ⟨ob,e⟩:=hok_there x q; rw [n] at e; cases e
theorem outs_new {b:Addr}(I:Inv X pins σ H s)(n:s.heap.get? b=none):Outs X pins b:=by
 refine ⟨?_,fun z=>?_,fun x c e z=>?_,fun p hp z=>?_⟩
 ·by_cases hx:b∈X.ex
  ·exact .inr hx
  ·cases q:X.s₀.heap.get? b with
   | none=>exact .inl rfl
   | some o=>obtain ⟨o',e⟩:=I.base.there b o q hx; rw [n] at e; cases e
 ·obtain ⟨m,⟨o,_,_,ho,_⟩,_⟩:=I.loc
  subst z; rw [n] at ho; cases ho
 ·obtain ⟨v,o,ho,_⟩:=I.cell x c e
  subst z; rw [n] at ho; cases ho
 ·have:=(I.pin p hp).1
  rw [z,n] at this; cases this
theorem chg (I:Inv X pins σ H s)(c:Ch (frs X.stack) ch s.heap h')(hc:∀ b∈ch,H b=none∧Outs X pins b):Inv X pins σ H { s with heap:=h' }:=by
 have nS:∀ b,b≠X.env.locals→b ∉ X.fs→b ∉ frs X.stack:=fun b h1 h2 z=>(List.mem_cons.mp (I.stkSub b z)).elim h1 h2
 have n0:∀ b o,X.s₀.heap.get? b=some o→b ∉ X.ex→b ∉ ch:=fun b o e hx z=>by
  rcases (hc b z).2.1 with q | q
  ·rw [e] at q; cases q
  ·exact hx q
 have cellK:∀ x c',X.env.cells.lookup x=some c'→∀ v,s.heap.IsCell c' v→h'.IsCell c' v:=fun x c' e v ⟨o,ho,hd⟩=>by
  obtain ⟨sl,q⟩:=c.slot c' o (fun z=>(hc c' z).2.2.2.1 x c' e rfl) ho
  exact ⟨_,q,hd⟩
 refine ⟨I.ok,I.os,I.bare,⟨fun b o e n hb hx=>?_,fun b o e n hb hx=>?_,I.base.free,fun b o e hx=>?_,I.base.tups,I.base.frzs,I.base.tbls⟩,?_,fun x c' e=>?_,I.free,I.freeC,fun p hp=>?_,fun b u e=>?_,I.len⟩
 ·exact c.keep b o (nS b (Nat.ne_of_lt (Nat.lt_of_lt_of_le (Heap.lt_size e) I.ok.above)) hb) (n0 b o e hx) (I.base.keep b o e n hb hx)
 ·obtain ⟨sl,e1⟩:=I.base.slot b o e n hb hx
  obtain ⟨sl2,e2⟩:=c.slot b _ (n0 b o e hx) e1
  exact ⟨sl2,e2⟩
 ·obtain ⟨o1,e1⟩:=I.base.there b o e hx
  exact c.old b o1 e1
 ·obtain ⟨m,⟨o,es,ep,ho,r⟩,hl⟩:=I.loc
  obtain ⟨sl,q⟩:=c.slot X.env.locals o (fun z=>(hc _ z).2.2.1 rfl) ho
  refine ⟨m,⟨_,es,ep,q,r⟩,fun i x v e1 e2 e3=>?_⟩
  obtain ⟨u,rv,l⟩:=hl i x v e1 e2 e3
  refine ⟨u,rv,?_⟩
  rcases l with l | ⟨k,c',e,z⟩
  ·exact .inl l
  ·exact .inr ⟨k,c',e,cellK x c' e _ z⟩
 ·obtain ⟨v,z⟩:=I.cell x c' e
  exact ⟨v,cellK x c' e v z⟩
 ·obtain ⟨e,n,ne,nf,d⟩:=I.pin p hp
  exact ⟨c.keep p.1 p.2 (nS _ ne nf) (fun z=>(hc _ z).2.2.2.2 p hp rfl) e,n,ne,nf,d⟩
 ·refine (I.hok b u e).stay (fun c' v hb q=>?_) (fun _ q=>q) fun _ _ q=>q
  have tr:H c'≠none:=by
   rcases hb with rfl | hb
   ·rw [e]; simp
   ·rw [hb]; simp
  exact c.keep c' v (fun z=>tr (I.stkFree c' z)) (fun z=>tr (hc c' z).1) q
end
structure XIs (X:Cx)(pins:List (Addr×Obj))(σ:St)(H:Hp)(s:Shared)(e:Addr)(cv:Value)(da T:Option Addr):Prop where
 inv:Inv X pins σ H s
 rc:XRec s.heap e cv da T
 own:∀ b∈e::T.toList,H b=none∧Outs X pins b
def XLies (X:Cx)(Z:Zc)(v:Value)(s:Shared):Prop:=∃ pins σ H e cv da T φ h w,v=.ref e∧XIs X pins σ H s e cv da T∧Z.sg σ∧Step Z.φ Z.H φ H∧RH Z.T φ h H∧RX Z.T φ H w cv da∧Z.xw w h
def XOk (X:Cx)(Z:Zc):Prop:=∀ v s,XLies X Z v s→X.xe v s
theorem xok_no {X:Cx}{Z:Zc}(h:∀ w m,¬Z.xw w m):XOk X Z:=fun _ _ ⟨_,_,_,_,_,_,_,_,_,_,_,_,_,_,_,_,x⟩=>absurd x (h _ _)
def CXe (q:Bool)(P:Program)(w:World):CXT:=⟨fun outer H s E v s'=>∃ e cv da T H',v=.ref e∧s'.os=s.os∧AllBare s'.gens∧Un (frs outer) [] H H' s.heap s'.heap∧HOk P w H' s'.heap∧XRec s'.heap e cv da (some T) ∧
 (H' e=none∧s.heap.get? e=none)∧(H' T=none∧s.heap.get? T=none)∧E cv da H',q⟩
def Zx (T:CTb)(φ:List Addr)(H:Hp)(E:XK):Zc:=⟨T,φ,H,fun _=>True,fun w h'=>∀ φ' H' cv da,Step φ H φ' H'→RH T φ' h' H'→RX T φ' H' w cv da→E cv da H'⟩
section
variable {P:Program} {w:World} {K:PySem.W.Frag} {mg:Str→Option Value} {base:Heap} {T:CTb}
theorem xok_def {q:Bool}{N:List Str}{qual:Str}{scope:Scope}{f:Addr}{cd:Value}{A:Around}{outer:List Env}{s:Shared}{H:Hp}{E:XK}{φ:List Addr} :
  XOk (cxOf (CXe q P w) P w K mg base N qual scope f cd A outer s H E) (Zx T φ H E):=by
 rintro v s' ⟨pins,σ,H',e,cv,da,T1,φ',h',w',rfl,⟨I,R,own⟩,_,st,rh,rx,xw⟩
 show wpAny _ _ (leaving (envOfC qual scope s.heap.objs.size f cd) (.ref e)) _ _ s'
 unfold leaving
 refine wpAny_bind (note_ok (base:=base) I.ok.frames I.stack rfl R fun g T2 r c n=>?_)
 have I1:=chg I c own
 have own1:∀ b∈[e,T2],H' b=none∧Outs (cxOf (CXe q P w) P w K mg base N qual scope f cd A outer s H E) pins b:=fun b hb=>by
  rcases List.mem_cons.mp hb with rfl | hb
  ·exact own b List.mem_cons_self
  ·have hb:b=T2:=by simpa using hb
   subst hb
   rcases n with n | n
   ·exact own b (by rw [n]; simp)
   ·exact ⟨I.hok.fresh n,outs_new I (Heap.get?_none_of_le n)⟩
 refine flight_ok r fun g2 r2 c2=>?_
 have I2:=chg I1 (c2.mono (fun b z=>by cases z) fun b z=>z) fun b hb=>own1 b (List.mem_cons_of_mem _ hb)
 have new:∀ b,Outs (cxOf (CXe q P w) P w K mg base N qual scope f cd A outer s H E) pins b→s.heap.get? b=none:=fun b o=>by
  rcases o.1 with z | z
  ·exact z
  ·cases z
 have o1:=own1 e (by simp)
 have o2:=own1 T2 (by simp)
 exact ⟨e,cv,da,T2,H',rfl,I2.os,I2.bare,I2.base,I2.hok,r2,⟨o1.1,new _ o1.2⟩,⟨o2.1,new _ o2.2⟩,xw φ' H' cv da st rh rx⟩
theorem body_okX {φ:List Addr}{H:Hp}{h:Mem}{o:Out}{r:Res}{Q:VK}{E:XK}(hl:φ.length=h.length)(ft:Fits h.length r o.res)(q:r.post (Kv T φ H Q) (fun w h'=>∀ φ' H' cv da,Step φ H φ' H'→RH T φ' h' H'→RX T φ' H' w cv da→E cv da H')) :
  o.post (Zx T φ H E) φ H { nx:=fun _ H'=>Q .non H',rt:=Q }:=by
 cases r with
 | no=>exact q.elim
 | ex w m=>
  cases o with
  | ex w' m'=>
   intro φ' H' cv da s r x
   obtain ⟨φ1,p1,l1,r1,x1⟩:=ft T φ' H' cv da r x
   exact q φ1 H' cv da (step_fits s p1 (by rw [hl]; exact l1)) r1 x1
  | _=>exact ft.elim
 | ok w m=>
  cases o with
  | rt w' m'=>
   intro φ' H' v s r x
   obtain ⟨φ1,p1,l1,r1,x1⟩:=ft T φ' H' v r x
   exact q φ1 H' v (step_fits s p1 (by rw [hl]; exact l1)) r1 x1
  | nx ρ' m'=>
   intro φ' H' σ' s r rs _
   obtain ⟨φ1,p1,l1,r1,x1⟩:=ft T φ' H' .non r (by unfold RW; rfl)
   exact q φ1 H' .non (step_fits s p1 (by rw [hl]; exact l1)) r1 x1
  | _=>exact ft.elim
theorem funX {qc:Bool}{x qual:Str}{st:Stmt}{N ps:List Str}{k:Nat}{F:Fm}{f:Addr}{fd:FuncData}{B:Sm}(R:Fun K x qual st f fd)(S:FnScope N ps (defScope st))
  (hB:∀ (cdv:Value) (A:Around) (outer:List Env) (s:Shared) (H:Hp) (E:XK) (φ0:List Addr),Room k (A.deeper (envOfC qual (defScope st) s.heap.objs.size f cdv)) →
   XOk (cxOf (CXe qc P w) P w K mg base N qual (defScope st) f cdv A outer s H E) (Zx T φ0 H E)→QB (cxOf (CXe qc P w) P w K mg base N qual (defScope st) f cdv A outer s H E) (Zx T φ0 H E) (defBody st) B)
  (hF:Told ps.length N.length B F):FnOk P w K mg base (CXe qc P w) (k+1) f fd ps (spH T F):=by
 obtain ⟨oc,od,kV,doc,pm,an,cdv,ct,osl,rfl,lk,hcd⟩:=R.ex
 refine fn_of lk hcd S (fun vs H Q E h=>?_) fun A outer s H vs Q E hr h=>?_
 ·obtain ⟨φ,h,ws,r,rv,q⟩:=h
  rcases hF ws h r.wf (by rw [← r.len]; exact rv.lt) with e | ⟨e,_⟩
  ·rw [e] at q; exact q.elim
  ·rw [← rv.length]; exact e
 ·obtain ⟨φ,h,ws,r,rv,q⟩:=h
  refine ⟨_,(hB cdv A outer s H E φ hr xok_def).ps,φ,h,startW N.length ws,⟨trivial,Step.refl _ _,r,rs_start rv⟩,?_⟩
  rcases hF ws h r.wf (by rw [← r.len]; exact rv.lt) with e | ⟨e,ft⟩
  ·rw [e] at q; exact q.elim
  ·exact body_okX r.len ft q
theorem defX {qc:Bool}{x:Str}{st:Stmt}{N ps:List Str}{k:Nat}{F:Fm}{B:Sm}(R:DefAt K mg x st)(S:FnScope N ps (defScope st))(hb:BindsAll x x st ps)
  (hB:∀ (f:Addr) (cdv:Value) (A:Around) (outer:List Env) (s:Shared) (H:Hp) (E:XK) (φ0:List Addr),Room k (A.deeper (envOfC x (defScope st) s.heap.objs.size f cdv)) →
   XOk (cxOf (CXe qc P w) P w K mg base N x (defScope st) f cdv A outer s H E) (Zx T φ0 H E)→QB (cxOf (CXe qc P w) P w K mg base N x (defScope st) f cdv A outer s H E) (Zx T φ0 H E) (defBody st) B)
  (hF:Told ps.length N.length B F):FnAt P w K mg base (CXe qc P w) (k+1) x (spH T F):=by
 obtain ⟨f,fd,R,hm⟩:=R
 exact ⟨f,fd,ps,funX R S (hB f) hF,hm,R.kp,R.binds hb⟩
end
section
variable {X:Cx} {Z:Zc} {qc:Bool} {k j:Nat} {F:Fm} {fa:Exs} {fo:Ex} {x m:Str} {p pos apos:Pos} {e o:Expr} {es:List Expr}
theorem run_fnX {CX:CXT}{f:Addr}{fd:FuncData}{ps:List Str}{sp:Sp}{E:XK}{pins:List (Addr×Obj)}{σ:St}{H:Hp}{s:Shared}{Q:VK}{us:List Value}{vs:List V}(Fk:FnOk X.prog X.w X.K X.mg X.base CX k f fd ps sp)(hr:Room k X.A)(hq:CX.q=true→X.calm=true)(hb:Binds X.K fd ps [])
  (I:Inv X pins σ H s) (r:Vals vs us) (h:sp vs H Q E) (hx:∀ v s',CX X.stack H s E v s'→X.xe v s'):wpAny (model X.prog X.w) X.A (call (.ref f) us) (EP X pins σ Q) X.xe s:=by
 have hl:us.length=ps.length:=by rw [← r.length]; exact Fk.len _ _ _ _ h
 have hb2:=hb s us I.kIn (by rw [List.append_nil]; exact hl)
 rw [List.append_nil] at hb2
 refine wpAny_call (codeAny_mono (Fk.run X.A X.stack s H ⟨us,[]⟩ us vs Q E hr (fun z=>I.ok.hd (hq z)) I.env0 hb2 r h) fun r s' q=>?_)
 cases r with
 | error v=>exact hx v s' q
 | ok fl=>
  cases fl with
  | ret u=>exact I.after q
  | next=>exact False.elim q
  | brk=>exact False.elim q
  | cont=>exact False.elim q
theorem run_mX {f:Addr}{fd:FuncData}{ps:List Str}{pins:List (Addr×Obj)}{σ:St}{H:Hp}{s:Shared}{Q:VK}{us:List Value}{vs:List V}{φ:List Addr}{h:Mem}{ws:List W}(Fk:FnOk X.prog X.w X.K X.mg X.base (CXe qc X.prog X.w) k f fd ps (spH Z.T F))(hx:XOk X Z)(hr:Room k X.A)(hq:qc=true→X.calm=true)
  (hb:Binds X.K fd ps []) (I:Inv X pins σ H s) (r:Vals vs us) (sg:Z.sg σ) (st:Step Z.φ Z.H φ H) (rh:RH Z.T φ h H) (rw:RWs Z.T φ H ws vs) (q:(F ws h).post (Kv Z.T φ H Q) Z.xw):wpAny (model X.prog X.w) X.A (call (.ref f) us) (EP X pins σ Q) X.xe s:=by
 refine run_fnX (E:=fun cv da H'=>∃ φ' h' w,Step φ H φ' H'∧RH Z.T φ' h' H'∧RX Z.T φ' H' w cv da∧Z.xw w h') Fk hr hq hb I r ⟨φ,h,ws,rh,rw,?_⟩ ?_
 ·cases e:F ws h with
  | ok w m=>rw [e] at q; exact q
  | no=>rw [e] at q; exact q
  | ex w m=>rw [e] at q; exact fun φ' H' cv da s r x=>⟨φ',m,w,s,r,x,q⟩
 ·rintro v s' ⟨e,cv,da,T,H',rfl,os,bare,un,hok,R,⟨h1,h2⟩,⟨h3,h4⟩,φ',h',w,st',rh',rx,xw⟩
  refine hx _ _ ⟨pins,σ,H',e,cv,da,some T,φ',h',w,rfl,⟨I.call' os un hok bare (fun b z=>by cases z),R,fun b hb=>?_⟩,sg,st.trans st',rh',rx,xw⟩
  rcases List.mem_cons.mp hb with rfl | hb
  ·exact ⟨h1,outs_new I h2⟩
  ·have hb:b=T:=by simpa using hb
   subst hb
   exact ⟨h3,outs_new I h4⟩
def xCallX (F:Fm)(f:Exs):Ex:=fun ρ h=>match f ρ h with
 | .ok ws h1=>F ws h1
 | .ex w h1=>.ex w h1
 | .no=>.no
theorem args_X {Q:VK}{pins:List (Addr×Obj)}{s:Shared}{σ:St}{H:Hp}(ha:QA X Z es fa)(I:Inv X pins σ H s){φ:List Addr}{h:Mem}{ρ:Sg}(x:Here Z σ H φ h ρ)(q:(xCallX F fa ρ h).post (Kv Z.T φ H Q) Z.xw) :
  wpAny (model X.prog X.w) X.A (spliced (backTo pos (starEach es X.env))) (AP X pins σ fun vs H1=>∃ φ1 h1 ws,Step φ H φ1 H1∧Here Z σ H1 φ1 h1 ρ∧RWs Z.T φ1 H1 ws vs∧(F ws h1).post (Kv Z.T φ1 H1 Q) Z.xw) X.xe s:=by
 refine ha.pa pos pins s σ H _ I ⟨φ,h,ρ,x,?_⟩
 unfold xCallX at q
 cases e:fa ρ h with
 | no=>rw [e] at q; exact q.elim
 | ex w h'=>rw [e] at q; exact q
 | ok ws h1=>
  rw [e] at q
  intro φ1 H1 vs s1 r1 rw1
  refine ⟨φ1,h1,ws,s1,x.step s1 r1,rw1,?_⟩
  exact q.mono fun w m k=>k.step s1
theorem q_fnX (G:FnAt X.prog X.w X.K X.mg X.base (CXe qc X.prog X.w) k x (spH Z.T F))(hx:XOk X Z)(hr:Room j X.A)(hkj:k≤j)(hg:Gl X x)(ha:QA X Z (e::es) fa)(hdb:(x == ("__debug__":Str))=false:=by decide)
  (he:starEach (e::es) X.env=(false,eval e X.env)::starEach es X.env:=by rfl) (hpl:(backTo pos (starEach es X.env)).any (·.1)=false:=by rfl) (hq:qc=true→X.calm=true:=by first | exact fun _=>rfl | (intro h; cases h)):QE X Z (.Call (.Name x p) (e::es) [] pos) (xCallX F fa):=by
 obtain ⟨f,fd,ps,Fk,hm,kp,hb⟩:=G
 refine ⟨fun pins s σ H Q I ⟨φ,h,ρ,x0,q⟩=>?_⟩
 refine wpAny_Call_Name_kw (ld_glob I hg hm ?_ hdb)
 refine PySem.W.callWith_K (h₀:=X.base) I.ok.mod.kin kp (thn (args_X (F:=F) ha I x0 q) fun us s1 ⟨vs,H1,I1,r,φ1,h1,ws,_,x1,rw1,q1⟩=>⟨I1.kIn,?_⟩) he hpl
 exact run_mX Fk hx (hr.mono hkj) hq hb I1 r x1.sg x1.st x1.rh rw1 q1
def MtX (P:Program)(w:World)(K:PySem.W.Frag)(mg:Str→Option Value)(base:Heap)(T:CTb)(qc:Bool)(k:Nat)(c m:Str)(F:Fm):Prop:=
 ∃ C f fd ps,T c=some C∧Meth K C m f∧FnOk P w K mg base (CXe qc P w) k f fd ps (spH T F)∧Binds K fd ps []
def TabX (P:Program)(w:World)(K:PySem.W.Frag)(mg:Str→Option Value)(base:Heap)(T:CTb)(qc:Bool)(k:Nat)(m:Str)(tab:Tab):Prop:=∀ c F,tab c=some F→MtX P w K mg base T qc k c m F
def xMethX (m:Str)(tab:Tab)(f:Ex)(g:Exs):Ex:=fun ρ h=>(f ρ h).bind fun a h1=>match a with
 | .ref n=>(match h1[n]? with
  | some (.ins c fs)=>(match tab c,fs.lookup m with
   | some F,none=>xCallX (fun ws=>F (.ref n::ws)) g ρ h1
   | _,_=>.no)
  | _=>.no)
 | _=>.no
theorem methX_ok {m:Str}{tab:Tab}(hI:InsOk X.K Z.T)(ht:TabX X.prog X.w X.K X.mg X.base Z.T qc k m tab){pins:List (Addr×Obj)}{s:Shared}{σ:St}{H:Hp}{Q:VK}{φ:List Addr}{h:Mem}{ρ:Sg}(ho:QE X Z o fo)(I:Inv X pins σ H s)(x:Here Z σ H φ h ρ)(q:(xMethX m tab fo fa ρ h).post (Kv Z.T φ H Q) Z.xw) :
  wpAny (model X.prog X.w) X.A (eval o X.env) (EP X pins σ fun v H1=>∃ a C dx fs f fd ps F φ1 h1 n,v=.ref a∧H1 a=some (.ins C dx fs)∧Cls X.K C∧Meth X.K C m f∧FnOk X.prog X.w X.K X.mg X.base (CXe qc X.prog X.w) k f fd ps (spH Z.T F)∧Binds X.K fd ps []∧fs.lookup m=none ∧
   Here Z σ H1 φ1 h1 ρ∧RW Z.T φ1 H1 (.ref n) v∧(xCallX (fun ws=>F (.ref n::ws)) fa ρ h1).post (Kv Z.T φ1 H1 Q) Z.xw) X.xe s:=by
 refine ho.pe pins s σ H _ I ⟨φ,h,ρ,x,?_⟩
 unfold xMethX at q
 rw [bindP] at q
 refine q.mono fun a h1 q1=>fun φ1 H1 u s1 r1 ra=>?_
 cases a with
 | ref n=>
  dsimp only at q1
  cases e1:h1[n]? with
  | none=>rw [e1] at q1; exact q1.elim
  | some ob=>
   rw [e1] at q1
   cases ob with
   | ins c fs=>
    dsimp only at q1
    obtain ⟨a,C,dx,fv,rfl,ea,y,hc,rp⟩:=ref_ins r1 ra e1
    cases et:tab c with
    | none=>rw [et] at q1; exact q1.elim
    | some F=>
     cases el:fs.lookup m with
     | some w=>rw [et,el] at q1; exact q1.elim
     | none=>
      rw [et,el] at q1
      obtain ⟨C',f',fd,ps,hc',hm,Fk,hb⟩:=ht c F et
      rw [hc] at hc'; cases hc'
      exact ⟨a,C,dx,fv,f',fd,ps,F,φ1,h1,n,rfl,y,(hI c C hc).cl,hm,Fk,hb,(rp_lookup rp).2 el,x.step s1 r1,ra,q1.mono fun w m k=>k.step s1⟩
   | _=>exact q1.elim
 | _=>exact q1.elim
theorem q_methX {m:Str}{tab:Tab}{pl:Sem Bool}(hI:InsOk X.K Z.T)(ht:TabX X.prog X.w X.K X.mg X.base Z.T qc k m tab)(hx:XOk X Z)(hr:Room j X.A)(hkj:k≤j)(ho:QE X Z o fo)(ha:QA X Z (e::es) fa)
  (hst:starEach (e::es) X.env=(false,eval e X.env)::starEach es X.env:=by rfl) (hpl:(backTo pos (starEach es X.env)).any (·.1)=false:=by rfl)
  (hev:eval (.Call (.Attribute o m apos) (e::es) [] pos) X.env=(do
   let ov ← eval o X.env
   standAt apos.atName
   let (f,first) ← holding [ov] (getMethod ov m pl)
   callWith pos f first (backTo pos (starEach (e::es) X.env)) (backToKw pos (keywordEach [] X.env))):=by rfl)
  (hq:qc=true→X.calm=true:=by first | exact fun _=>rfl | (intro h; cases h)):QE X Z (.Call (.Attribute o m apos) (e::es) [] pos) (xMethX m tab fo fa):=by
 refine ⟨fun pins s σ H Q I ⟨φ,h,ρ,x0,q⟩=>?_⟩
 refine PySem.W.methodCall_KW (pl:=pl) (thn (methX_ok hI ht ho I x0 q) fun u s1 ⟨v,H1,I1,rx,a,C,dx,fs,f,fd,ps,F,φ1,h1,n,ex,ea,c,hm,Fk,hb,l,x1,ra,q1⟩=>?_) hev
 subst ex
 obtain rfl:u=Value.ref a:=rx
 refine getmeth_ok I1 ea c hm l ?_
 refine PySem.W.callWith_K (first:=[.ref a]) (h₀:=X.base) I.ok.mod.kin hm.kp (thn (args_X (F:=fun ws=>F (.ref n::ws)) ha I1 x1 q1) fun us s2 ⟨vs,H2,I2,r,φ2,h2,ws,s2',x2,rw2,q2⟩=>⟨I2.kIn,?_⟩) hst hpl
 exact run_mX (us:=.ref a::us) (vs:=.ref a::vs) Fk hx (hr.mono hkj) hq hb I2 (.cons rfl r) x2.sg x2.st x2.rh (by unfold RWs; exact ⟨_,_,rfl,ra.step s2',rw2⟩) q2
end
end M
namespace M
open PySem PySem.Spec PyProof.Rows L2
def bmV:List Value:=[.type "ValueError",.type "Exception",.type "BaseException",.type "object"]
def excSh (K:PySem.W.Frag)(C:Addr)(newId:String):Bool:=match K.lookup C with
 | some ⟨.type "type",_,.cls cd,sl⟩=>(match cd.mro,sl.toList with
  | .ref C'::_,[_,_,_,_,some (.builtin n),_]=>C' == C && (n == newId && !cd.hasDel)
  | _,_=>false)
 | _=>false
theorem excSh_of {K:PySem.W.Frag}{C:Addr}{newId:String}(q:excSh K C newId=true):∃ nm qn N bs bm hd sn sub ab col dd k0 k1 k2 k3 k5,K.lookup C=some (excClassObj nm qn C N bs bm hd sn sub ab col dd k0 k1 k2 k3 k5 newId):=by
 unfold excSh at q
 split at q
 ·rename_i dd cd sl ho
  split at q
  ·rename_i C' bm k0 k1 k2 k3 n k5 hm hs
   simp only [Bool.and_eq_true,beq_iff_eq,Bool.not_eq_true'] at q
   obtain ⟨rfl,rfl,hdel⟩:=q
   obtain ⟨nm,bs,mro,ns,qn,hd,sn,sub,ab,col,del⟩:=cd
   dsimp only at hm hdel
   subst hm hdel
   obtain ⟨l⟩:=sl
   dsimp only at hs
   subst hs
   exact ⟨nm,qn,ns,bs,bm,hd,sn,sub,ab,col,dd,k0,k1,k2,k3,k5,ho⟩
  ·cases q
 ·cases q
theorem mro_of {K:PySem.W.Frag}{C:Addr}{nm qn:Str}{N:Addr}{bs bm:List Value}{hd:Bool}{sn:List Str}{sub:List Value}{ab:Bool}{col:Option Bool}{dd:Option Addr}{k0 k1 k2 k3 k5:Option Value}{newId:String}{v:Value}{b:Bool}
  (ho:K.lookup C=some (excClassObj nm qn C N bs bm hd sn sub ab col dd k0 k1 k2 k3 k5 newId)) (q:PySem.W.mroIn K C v=some b):(Value.ref C::bm).contains v=b:=by
 unfold PySem.W.mroIn PySem.W.clsIn at q
 rw [ho] at q
 exact Option.some.inj q
section
variable {K:PySem.W.Frag} {h:Heap} {C:Addr} {newId:String}
def rzIn (K:PySem.W.Frag)(C:Addr):Bool:=PySem.W.excIn K C bmV "ValueError.__new__"
theorem rz_of (X:K.In h)(q:rzIn K C=true):∃ bm N nm qn bs hd sn sub ab col dd k0 k1 k2 k3 k5 mN,h.get? C=some (excClassObj nm qn C N bs bm hd sn sub ab col dd k0 k1 k2 k3 k5 "ValueError.__new__")∧h.Ns N mN∧mN "__init__"=none∧OwnTail h bmV bm:=by
 unfold rzIn PySem.W.excIn at q
 split at q
 ·rename_i dd cd sl ho
  split at q
  ·rename_i C' bm k0 k1 k2 k3 n k5 hm hs
   simp only [Bool.and_eq_true,beq_iff_eq,Bool.not_eq_true'] at q
   obtain ⟨⟨⟨⟨⟨rfl,rfl⟩,hdel⟩,ht⟩,hok⟩,hni⟩:=q
   obtain ⟨nm,bs,mro,ns,qn,hd,sn,sub,ab,col,del⟩:=cd
   dsimp only at hm hdel hok hni
   subst hm hdel
   obtain ⟨l⟩:=sl
   dsimp only at hs
   subst hs
   have i1:=PySem.W.isNs_of_in X hok
   exact ⟨bm,ns,nm,qn,bs,hd,sn,sub,ab,col,dd,k0,k1,k2,k3,k5,h.nsMap ns,X _ _ ho,.of_isNs i1,PySem.W.nsMap_none_of_in X hok hni,PySem.W.tail_of_in X ht⟩
  ·cases q
 ·cases q
end
def RzAt (K:PySem.W.Frag)(mg:Str→Option Value)(T:CTb)(c:Str):Prop:=∃ C,T.x c=some C∧mg c=some (.ref C)∧rzIn K C=true
def xRaise (c:Str)(f:Exs):Sm:=fun ρ h=>match f ρ h with
 | .ok ws h1=>bif decide (ws.length≤sizeLine) then .ex (.exc c [] []) h1 else .no
 | .ex w h1=>.ex w h1
 | .no=>.no
section
variable {X:Cx} {Z:Zc} {fa:Exs} {c:Str} {np cpos pos:Pos} {e:Expr} {es:List Expr}
theorem qs_raise (Rz:RzAt X.K X.mg Z.T c)(hx:XOk X Z)(hg:Gl X c)(ha:QA X Z (e::es) fa)(hdb:(c == ("__debug__":Str))=false:=by decide)(he:starEach (e::es) X.env=(false,eval e X.env)::starEach es X.env:=by rfl)
  (hpl:(backTo cpos (starEach es X.env)).any (·.1)=false:=by rfl) (hcl:X.calm=true:=by rfl):QS X Z (.Raise (some (.Call (.Name c np) (e::es) [] cpos)) none pos) (xRaise c fa):=by
 obtain ⟨C,hT,hm,hq⟩:=Rz
 refine ⟨fun pins s σ H D I ⟨φ,h,ρ,x,q⟩=>?_⟩
 obtain ⟨bm,N,nm,qn,bs,hd,sn,sub,ab,col,dd,k0,k1,k2,k3,k5,mN,hC,hN,hni,Tl⟩:=rz_of I.ok.mod.kin hq
 have hps:=ha.pa cpos pins s σ H (fun vs H1=>∃ φ1 h1,Here Z σ H1 φ1 h1 ρ∧vs.length≤sizeLine∧Z.xw (.exc c [] []) h1) I ⟨φ,h,ρ,x,by
  unfold xRaise at q
  cases e1:fa ρ h with
  | no=>rw [e1] at q; exact q.elim
  | ex w h1=>rw [e1] at q; exact q
  | ok ws h1=>
   rw [e1] at q
   dsimp only at q
   cases hz:decide (ws.length≤sizeLine) with
   | false=>rw [hz] at q; exact q.elim
   | true=>
    rw [hz] at q
    intro φ1 H1 vs s1 r1 rw1
    exact ⟨φ1,h1,x.step s1 r1,by rw [← rw1.length]; exact of_decide_eq_true hz,q⟩⟩
 refine wpAny_Raise_call_subT (nm:=nm) (q:=qn) (N:=N) (bs:=bs) (hdct:=hd) (sn:=sn) (sub:=sub) (ab:=ab) (col:=col) (dd:=dd) (k0:=k0) (k1:=k1) (k2:=k2) (k3:=k3) (k5:=k5) PySem.F.excBase_ValueError (Tl.hasType PySem.F.excBase_ValueError.hasBase) (I.ok.hd hcl) (by rw [he]; show (false || (backTo cpos (starEach es X.env)).any (·.1))=false; rw [hpl]; rfl) hni (ld_glob I hg hm ⟨rfl,?_⟩ hdb)
 rw [he] at hps ⊢
 refine Calls.evalArgs_plain (thn hps fun us s2 ⟨vs,H2,I2,r,φ2,h2,x2,hl,xw⟩=>⟨rfl,by rw [← r.length]; exact hl,I2.bk _ _ hC,hN.keeps I2.bk,Tl.keeps I2.bk,fun h' a hm'=>?_⟩)
 obtain ⟨t,ht,_,_⟩:=hm'.there
 refine hx _ _ ⟨pins,σ,H2,a,.ref C,none,none,φ2,h2,.exc c [] [],rfl,⟨I2.kept (t':=s2.toks) hm'.keeps,⟨_,_,ht,rfl,rfl,rfl,rfl⟩,fun b hb=>?_⟩,x2.sg,x2.st,x2.rh,⟨C,[],hT,rfl,rfl,by unfold RWs; rfl,rfl⟩,xw⟩
 have hb:b=a:=by simpa using hb
 subst hb
 exact ⟨untracked I2.hok hm'.new,outs_new I2 hm'.new⟩
end
end M
namespace M
open PySem PySem.Spec PyProof.Rows L2
abbrev _root_.L2.Cx.tr (X:Cx)(E:Value→Shared→Prop)(pn:List (Addr×Obj)):Cx:={ X with xe:=E,pn:=pn }
abbrev _root_.L2.Cx.loud (X:Cx)(e:Addr):Cx:={ X with A:=X.A.mark (some (.ref e)),calm:=false,xe:=fun _ _=>False }
theorem _root_.L2.Room.mark {k:Nat}{A:Around}(r:Room k A)(v:Option Value):Room k (A.mark v):=⟨r.dp,r.un⟩
section
variable {X:Cx} {pins:List (Addr×Obj)} {σ:St} {H:Hp} {s:Shared}
theorem inv_tr (I:Inv X pins σ H s)(E:Value→Shared→Prop):Inv (X.tr E (X.pn++pins)) [] σ H s:=
 ⟨⟨I.ok.mod,I.ok.kind,I.ok.glob,I.ok.blt,I.ok.above,I.ok.inj,I.ok.has,I.ok.cab,I.ok.hd,I.ok.frames,I.ok.stk,I.ok.exf,I.ok.bs,I.ok.bsz,I.ok.noex,I.ok.exfs,I.ok.funs,I.ok.frf⟩,I.os,I.bare,I.base,I.loc,I.cell,I.free,I.freeC,fun p hp=>I.pin p (by simpa using hp),I.hok,I.len⟩
theorem inv_untr {E:Value→Shared→Prop}{pins1:List (Addr×Obj)}(ok:X.Ok)(I:Inv (X.tr E (X.pn++pins)) pins1 σ H s):Inv X pins σ H s:=
 ⟨ok,I.os,I.bare,I.base,I.loc,I.cell,I.free,I.freeC,fun p hp=>I.pin p (List.mem_append_left _ hp),I.hok,I.len⟩
theorem inv_loud (I:Inv X pins σ H s)(e:Addr):Inv (X.loud e) pins σ H s:=
 ⟨⟨I.ok.mod,I.ok.kind,I.ok.glob,I.ok.blt,I.ok.above,I.ok.inj,I.ok.has,I.ok.cab,fun z=>(by cases z),I.ok.frames,I.ok.stk,I.ok.exf,I.ok.bs,I.ok.bsz,I.ok.noex,I.ok.exfs,I.ok.funs,I.ok.frf⟩,I.os,I.bare,I.base,I.loc,I.cell,I.free,I.freeC,I.pin,I.hok,I.len⟩
theorem inv_unloud {e:Addr}(ok:X.Ok)(I:Inv (X.loud e) pins σ H s):Inv X pins σ H s:=⟨ok,I.os,I.bare,I.base,I.loc,I.cell,I.free,I.freeC,I.pin,I.hok,I.len⟩
theorem track {e:Addr}{ho:HO}(I:Inv X pins σ H s)(he:H e=none)(o:Outs X pins e)(new:ObjOk X.prog X.w (upd H e ho) s.heap e ho):Inv X pins σ (upd H e ho) s:=by
 have ne:∀ b u,H b=some u→b≠e:=fun b u q=>ne_of_none q he
 refine ⟨I.ok,I.os,I.bare,⟨I.base.keep,I.base.slot,fun b ob q n hx=>?_,I.base.there,fun b xs q=>?_,fun b ob xs q=>?_,fun b ps q=>?_⟩,I.loc,I.cell,?_,fun x c q=>?_,fun p hp=>?_,fun b u q=>?_,I.len⟩
 ·rw [upd_ne]
  ·exact I.base.free b ob q n hx
  ·rintro rfl
   rcases o.1 with z | z
   ·rw [z] at q; cases q
   ·exact hx z
 ·have:=I.base.tups b xs q
  rw [upd_ne (ne _ _ this)]; exact this
 ·have:=I.base.frzs b ob xs q
  rw [upd_ne (ne _ _ this)]; exact this
 ·obtain ⟨more,this⟩:=I.base.tbls b ps q
  exact ⟨more,by rw [upd_ne (ne _ _ this)]; exact this⟩
 ·rw [upd_ne (Ne.symm o.2.1)]; exact I.free
 ·rw [upd_ne (o.2.2.1 x c q)]; exact I.freeC x c q
 ·obtain ⟨e1,n,ne',nf,d⟩:=I.pin p hp
  exact ⟨e1,by rw [upd_ne (o.2.2.2 p hp)]; exact n,ne',nf,d⟩
 ·by_cases z:b=e
  ·subst z
   rw [upd_same] at q
   cases q
   exact new
  ·rw [upd_ne z] at q
   exact (I.hok b u q).stay (fun c v _ r=>r) (fun c r=>by rw [upd_ne (ne _ _ r)]; exact r) fun c xs r=>by rw [upd_ne (ne _ _ r)]; exact r
theorem drop_ok {Md:Model}{A:Around}{E:Value→Shared→Prop}{i:Nat}{n:Str}{pos:Pos}{Q:Unit→Shared→Prop}(I:Inv X pins σ H s)(hN:X.N.Nodup)(hi:X.N[i]? = some n)(hk:X.env.scope.names.lookup n=some .local)(k:∀ s',Inv X pins (σ.set i none) H s'→Q () s') :
  wpAny Md A (do bindName X.env n .none; unbindBehindTheSuite X.env n pos) Q E s:=by
 obtain ⟨m,hn,hl⟩:=id I.loc
 refine wpAny_nameGoes_keeps hk hn (by rw [I.ok.kind]; rfl) fun h' v hn' hs=>k _ ?_
 have nL:∀ b o,X.s₀.heap.get? b=some o→b≠X.env.locals:=fun b o e=>Nat.ne_of_lt (Nat.lt_of_lt_of_le (Heap.lt_size e) I.ok.above)
 refine ⟨I.ok,I.os,I.bare,⟨fun b o e n' hb hx=>(hs.2 b (nL b o e)).trans (I.base.keep b o e n' hb hx),fun b o e n' hb hx=>?_,I.base.free,fun b o e hx=>?_,I.base.tups,I.base.frzs,I.base.tbls⟩,⟨_,hn',fun j y v' e1 e2 e3=>?_⟩,fun y c e=>?_,I.free,I.freeC,fun p hp=>?_,fun b u e=>?_,by simpa using I.len⟩
 ·obtain ⟨sl,e1⟩:=I.base.slot b o e n' hb hx
  exact ⟨sl,(hs.2 b (nL b o e)).trans e1⟩
 ·obtain ⟨o',e1⟩:=I.base.there b o e hx
  exact ⟨o',(hs.2 b (nL b o e)).trans e1⟩
 ·rw [List.getElem?_set] at e2
  split at e2
  ·split at e2 <;> cases e2
  ·rename_i hij
   obtain ⟨u',r',q⟩:=hl j y v' e1 e2 e3
   refine ⟨u',r',?_⟩
   rcases q with ⟨kk,e⟩ | ⟨kk,c,e,z⟩
   ·have ny:y≠n:=fun e=>hij (nodup_ix hN hi (e ▸ e1))
    exact .inl ⟨kk,by simp [ny,e]⟩
   ·exact .inr ⟨kk,c,e,z.sameBut hs (I.cne y c e)⟩
 ·obtain ⟨w',z⟩:=I.cell y c e
  exact ⟨w',z.sameBut hs (I.cne y c e)⟩
 ·obtain ⟨e,n',ne,nf,d⟩:=I.pin p hp
  exact ⟨(hs.2 p.1 ne).trans e,n',ne,nf,d⟩
 ·refine (I.hok b u e).stay (fun c v' hc q=>(hs.2 c ?_).trans q) (fun _ q=>q) fun _ _ q=>q
  rintro rfl
  rcases hc with rfl | hc
  ·rw [I.free] at e; cases e
  ·rw [I.free] at hc; cases hc
end
theorem exm {Md:Model}{A:Around}{E:Value→Shared→Prop}{s:Shared}{e C D:Addr}{oe:Obj}{Q:Bool→Shared→Prop}{nm qn nm' qn':Str}{N N':Addr}{bs bm bs' bm':List Value}{hd hd':Bool}{sn sn':List Str}{sub sub':List Value}{ab ab':Bool}{col col':Option Bool}{dd dd':Option Addr}{k0 k1 k2 k3 k5 k0' k1' k2' k3' k5':Option Value}{nw nw':String}
  (hC:s.heap.get? C=some (excClassObj nm qn C N bs bm hd sn sub ab col dd k0 k1 k2 k3 k5 nw)) (hD:s.heap.get? D=some (excClassObj nm' qn' D N' bs' bm' hd' sn' sub' ab' col' dd' k0' k1' k2' k3' k5' nw')) (he:s.heap.get? e=some oe) (hcls:oe.cls=.ref C)
  (hDB:(Value.ref D::bm').contains (.type "BaseException")=true) (hCD:(Value.ref C::bm).contains (.ref D)=true) (hq:Q true s):wpAny Md A (excMatches (.ref e) (.ref D)) Q E s:=by
 obtain ⟨hp,g,d,t,os⟩:=s
 have f:=tc_notTuple
 unfold excMatches
 repeat (first | (with_reducible refine wpAny_loadPart_at he ?_; rw [hcls]) | with_reducible refine wpAny_loadPart_at hD ?_ | (with_reducible refine wpAny_isSubtype_exc hD ?_; rw [hDB]) | (with_reducible refine wpAny_isSubtype_exc hC ?_; rw [hCD]) | wp_step)
 exact hq
def fgt:List Nat→Sg→Sg
 | [],ρ=>ρ
 | i::r,ρ=>fgt r (ρ.set i none)
theorem fgt_get {j:Nat}{w:W}:∀ {asg:List Nat} {ρ:Sg},(fgt asg ρ)[j]? = some (some w)→j ∉ asg∧ρ[j]? = some (some w)
 | [],ρ,e=>⟨by simp,e⟩
 | i::r,ρ,e=>by
  obtain ⟨n,q⟩:=fgt_get (asg:=r) e
  rw [List.getElem?_set] at q
  split at q
  ·split at q <;> cases q
  ·rename_i hij
   exact ⟨by simp only [List.mem_cons,not_or]; exact ⟨fun z=>hij z.symm,n⟩,q⟩
theorem fgt_len:∀ {asg:List Nat} {ρ:Sg},(fgt asg ρ).length=ρ.length
 | [],_=>rfl
 | i::r,ρ=>by unfold fgt; rw [fgt_len]; simp
theorem rs_unset {T:CTb}{φ:List Addr}{H:Hp}{ρ:Sg}{σ:St}{i:Nat}(r:RS T φ H ρ σ):RS T φ H (ρ.set i none) (σ.set i none):=⟨by simp [r.len],fun j w e=>by
 rw [List.getElem?_set] at e
 split at e
 ·split at e <;> cases e
 ·rename_i hij
  obtain ⟨v,a,b⟩:=r.var j w e
  exact ⟨v,by rw [List.getElem?_set_ne hij]; exact a,b⟩⟩
def endX (i:Nat):Out→Out
 | .nx ρ h=>.nx (ρ.set i none) h
 | .bk ρ h=>.bk (ρ.set i none) h
 | .ct ρ h=>.ct (ρ.set i none) h
 | .rt w h=>.rt w h
 | _=>.no
def xTry (sub:Str→Bool)(i:Nat)(asg:List Nat)(B Hn:Sm):Sm:=fun ρ h=>match B ρ h with
 | .ex w h'=>(match w with
  | .exc c fs ws=>bif sub c then endX i (Hn ((fgt asg ρ).set i (some (.exc c fs ws))) h') else .no
  | _=>.no)
 | o=>o
structure CatAt (K:PySem.W.Frag)(mg:Str→Option Value)(T:CTb)(d:Str)(sub:Str→Bool):Prop where
 ex:∃ D,mg d=some (.ref D)∧excSh K D "ValueError.__new__"=true∧PySem.W.mroIn K D (.type "BaseException")=some true∧∀ c C,sub c=true→T.x c=some C→excSh K C "ValueError.__new__"=true∧PySem.W.mroIn K C (.ref D)=some true
section
variable {X:Cx} {Z:Zc} {sub:Str→Bool} {i:Nat} {asg:List Nat} {B Hn:Sm} {n d:Str} {np hpos pos:Pos} {body suite:List Stmt} {b₀:Stmt}
theorem qs_try (hK:CatAt X.K X.mg Z.T d sub)(hg:Gl X d)(hN:X.N.Nodup)(hi:X.N[i]? = some n)(hk:X.env.scope.names.lookup n=some .local)(hsg:∀ σ,Z.sg σ)(hst:X.stack=X.env::X.outer)(hfr:X.env.frame=some X.env.locals)
  (hB:∀ E' pn φ' H' sg' xw',(∀ j∈asg,∀ σ v,sg' σ→sg' (σ.set j (some v)))→XOk (X.tr E' pn) ⟨Z.T,φ',H',sg',xw'⟩→QB (X.tr E' pn) ⟨Z.T,φ',H',sg',xw'⟩ body B)
  (hH:∀ e φ' H',QB (X.loud e) (Zf Z.T φ' H') (b₀::suite) Hn) (hdb:(d == ("__debug__":Str))=false:=by decide) :
  QS X Z (.Try body [.ExceptHandler (some (.Name d np)) (some n) (b₀::suite) hpos] [] [] pos) (xTry sub i asg B Hn):=by
 obtain ⟨D,hd,hD,hDB,hsub⟩:=hK.ex
 refine ⟨fun pins s σ H Dn I ⟨φ,h,ρ,x,q⟩=>wpAny_Try_except ?_⟩
 obtain ⟨nmD,qnD,ND,bsD,bmD,hdD,snD,subD,abD,colD,ddD,a0,a1,a2,a3,a5,lkD⟩:=excSh_of hD
 refine wpAny_mono ((hB (fun v s₁=>wpAny (model X.prog X.w) X.A (noteFrame v X.env) (fun _ s₂=>wpAny (model X.prog X.w) X.A (setFlight v none) (fun _ s₃=>wpAny (model X.prog X.w) X.A (handleBy v X.env [.ExceptHandler (some (.Name d np)) (some n) (b₀::suite) hpos]) (SP X pins Dn) X.xe s₃) X.xe s₂) X.xe s₁) (X.pn++pins) φ H
  (fun σ'=>∀ j,j ∉ asg→σ'[j]? = σ[j]?) (fun w h1=>∃ c fs ws,w=.exc c fs ws∧sub c=true∧(endX i (Hn ((fgt asg ρ).set i (some w)) h1)).post Z φ H Dn) (fun j hj σ' v z j' hj'=>?_) ?_).ps [] s σ H Dn (inv_tr I _) ⟨φ,h,ρ,⟨fun _ _=>rfl,Step.refl _ _,x.rh,x.rs⟩,?_⟩) (fun f s1 sp=>?_) fun v s1 z=>z
 ·rw [List.getElem?_set_ne (fun z'=>hj' (by rw [← z']; exact hj))]; exact z j' hj'
 ·rintro v s1 ⟨pins1,σ1,H1,e,cv,da,T1,φ1,h1,w,rfl,⟨I1,R,own⟩,sg1,st1,rh1,rx1,c,fs,ws,rfl,hs1,qp⟩
  replace I1:=inv_untr I.ok I1
  replace own:∀ b∈e::T1.toList,H1 b=none∧Outs X pins b:=fun b hb=>⟨(own b hb).1,(own b hb).2.1,(own b hb).2.2.1,(own b hb).2.2.2.1,fun p hp=>(own b hb).2.2.2.2 p (List.mem_append_left _ hp)⟩
  obtain ⟨C,vs,hTc,rfl,hfl,hrw,hda⟩:=rx1
  obtain ⟨hC,hCD⟩:=hsub c C hs1 hTc
  obtain ⟨nm,qn,N,bs,bm,hdc,sn,sb,ab,col,dd,k0,k1,k2,k3,k5,lkC⟩:=excSh_of hC
  show wpAny _ _ (noteFrame (.ref e) X.env) _ _ s1
  refine note_ok (base:=X.base) (by rw [← hst]; exact I1.ok.frames) (by rw [← hst]; exact I1.stack) hfr R fun g T2 r c1 nw=>?_
  have I2:=chg I1 (by rw [hst]; exact c1) own
  have own2:∀ b∈[e,T2],H1 b=none∧Outs X pins b:=fun b hb=>by
   rcases List.mem_cons.mp hb with rfl | hb
   ·exact own b List.mem_cons_self
   ·have hb:b=T2:=by simpa using hb
    subst hb
    rcases nw with nw | nw
    ·exact own b (by rw [nw]; simp)
    ·exact ⟨I1.hok.fresh nw,outs_new I1 (Heap.get?_none_of_le nw)⟩
  have ownT:∀ b∈[T2],H1 b=none∧Outs X pins b:=fun b hb=>own2 b (List.mem_cons_of_mem _ hb)
  refine flight_ok r fun g2 r2 c2=>?_
  have I3:=chg I2 (c2.mono (fun b z=>by cases z) fun b z=>z) ownT
  obtain ⟨oe,vv,he,hcls,hdi,hfd,hT2⟩:=id r2
  refine wpAny_handleBy_cons (codeAny_handlers_test (ld_glob (X:=X.loud e) (inv_loud I3 e) hg hd ?_ hdb)) (by intro z; cases z)
  refine exm (I3.kIn _ _ lkC) (I3.kIn _ _ lkD) he hcls (mro_of lkD hDB) (mro_of lkC hCD) ?_
  refine codeAny_handlers_suite_as (flight_ok r2 fun g3 r3 c3=>?_)
  have I4:=chg I3 (c3.mono (fun b z=>by cases z) fun b z=>z) ownT
  obtain ⟨oe4,vv4,he4,hcls4,hdi4,hfd4,_⟩:=id r3
  have I5:=track (ho:=.ext (XShape e C da)) I4 (own2 e (by simp)).1 (own2 e (by simp)).2 ⟨⟨oe4,vv4,he4,hcls4,hfd4,hdi4⟩,⟨oe4,he4⟩,fun h1 h2 ⟨o,us,a,b⟩ k=>⟨o,us,k o a,b⟩⟩
  have st5:=step_tmp (φ:=φ1) (H:=H1) (ho:=.ext (XShape e C da)) (own2 e (by simp)).1
  have rh5:=rh1.tmp (ho:=.ext (XShape e C da)) (own2 e (by simp)).1
  have rwe:RW Z.T φ1 (upd H1 e (.ext (XShape e C da))) (.exc c fs ws) (.ref e):=by
   unfold RW
   refine ⟨e,C,da,vs,rfl,rh1.fresh (own2 e (by simp)).1,hTc,upd_same,hfl,?_,hrw.step st5⟩
   cases da with
   | none=>exact hda
   | some d1=>exact ⟨hda.1,by rw [upd_ne (ne_of_none hda.2 (own2 e (by simp)).1)]; exact hda.2⟩
  refine store_ok (X:=X.loud e) (v:=.ref e) (inv_loud I5 e) hN hi (.inl hk) rfl (fun s6 I6=>?_) (.inr hk)
  have rs5:RS Z.T φ1 (upd H1 e (.ext (XShape e C da))) ((fgt asg ρ).set i (some (.exc c fs ws))) (σ1.set i (some (.ref e))):=by
   refine RS.set ⟨?_,fun j w e1=>?_⟩ rwe
   ·rw [fgt_len,x.rs.len,I.len,I1.len]
   ·obtain ⟨nj,e2⟩:=fgt_get e1
    obtain ⟨v,a,b⟩:=x.rs.var j w e2
    exact ⟨v,by rw [sg1 j nj]; exact a,b.step (st1.trans st5)⟩
  refine wpAny_mono ((hH e φ1 (upd H1 e (.ext (XShape e C da)))).ps pins s6 _ _ { nx:=fun σ' H'=>Dn.nx (σ'.set i none) H',rt:=Dn.rt,bk:=fun σ' H'=>Dn.bk (σ'.set i none) H',ct:=fun σ' H'=>Dn.ct (σ'.set i none) H' } I6 ⟨φ1,h1,_,⟨trivial,Step.refl _ _,rh5,rs5⟩,?_⟩) (fun f s7 sp=>?_) fun _ _ z=>z.elim
  ·cases e6:Hn ((fgt asg ρ).set i (some (.exc c fs ws))) h1 with
   | nx ρ' h2=>rw [e6] at qp; exact fun φ' H' σ' s r rs _=>qp φ' H' _ (st1.trans (st5.trans s)) r (rs_unset rs) (hsg _)
   | bk ρ' h2=>rw [e6] at qp; exact fun φ' H' σ' s r rs _=>qp φ' H' _ (st1.trans (st5.trans s)) r (rs_unset rs) (hsg _)
   | ct ρ' h2=>rw [e6] at qp; exact fun φ' H' σ' s r rs _=>qp φ' H' _ (st1.trans (st5.trans s)) r (rs_unset rs) (hsg _)
   | rt w h2=>rw [e6] at qp; exact Kv.step qp (st1.trans st5)
   | ex w h2=>rw [e6] at qp; exact qp.elim
   | no=>rw [e6] at qp; exact qp.elim
  ·show wpAny _ X.A (do bindName X.env n .none; unbindBehindTheSuite X.env n hpos) _ _ s7
   cases f with
   | next=>obtain ⟨σ',H',J,z⟩:=sp; exact drop_ok (inv_unloud I.ok J) hN hi hk fun s8 J8=>⟨_,H',J8,z⟩
   | brk=>obtain ⟨σ',H',J,z⟩:=sp; exact drop_ok (inv_unloud I.ok J) hN hi hk fun s8 J8=>⟨_,H',J8,z⟩
   | cont=>obtain ⟨σ',H',J,z⟩:=sp; exact drop_ok (inv_unloud I.ok J) hN hi hk fun s8 J8=>⟨_,H',J8,z⟩
   | ret u=>obtain ⟨v,σ',H',J,rv,z⟩:=sp; exact drop_ok (inv_unloud I.ok J) hN hi hk fun s8 J8=>⟨v,_,H',J8,rv,z⟩
 ·unfold xTry at q
  cases e1:B ρ h with
  | nx ρ' h'=>rw [e1] at q; exact fun φ' H' σ' s r rs _=>q φ' H' σ' s r rs (hsg _)
  | bk ρ' h'=>rw [e1] at q; exact fun φ' H' σ' s r rs _=>q φ' H' σ' s r rs (hsg _)
  | ct ρ' h'=>rw [e1] at q; exact fun φ' H' σ' s r rs _=>q φ' H' σ' s r rs (hsg _)
  | rt w h'=>rw [e1] at q; exact q
  | no=>rw [e1] at q; exact q
  | ex w h'=>
   rw [e1] at q
   dsimp only at q
   cases w with
   | exc c fs ws=>
    dsimp only at q
    cases hs:sub c with
    | false=>rw [hs] at q; exact q.elim
    | true=>rw [hs] at q; exact ⟨c,fs,ws,rfl,hs,q⟩
   | _=>exact q.elim
 ·cases f with
  | next=>obtain ⟨σ',H',J,z⟩:=sp; exact wpAny_execs_nil ⟨σ',H',inv_untr I.ok J,z⟩
  | brk=>obtain ⟨σ',H',J,z⟩:=sp; exact ⟨σ',H',inv_untr I.ok J,z⟩
  | cont=>obtain ⟨σ',H',J,z⟩:=sp; exact ⟨σ',H',inv_untr I.ok J,z⟩
  | ret u=>obtain ⟨v,σ',H',J,rv,z⟩:=sp; exact ⟨v,σ',H',inv_untr I.ok J,rv,z⟩
end
end M
namespace M
open PySem PySem.Spec PyProof.Rows L2
structure ExcTy (K:PySem.W.Frag)(C:Addr):Prop where
 ga:PySem.W.findIn K (.ref C) "__getattribute__"=some (some (.builtin "BaseException.__getattribute__"))
 gh:PySem.W.findIn K (.ref C) "__getattr__"=some none
 bx:PySem.W.mroIn K C (.type "BaseException")=some true
 ha:PySem.W.findIn K (.ref C) "__class__"=some (some (.builtin "object.__class__"))
 hn:PySem.W.specialIn K (.builtin "object.__class__") "__get__"=some (some (.builtin "getset_descriptor.__get__"))
 htk:PySem.W.takesIn K (.builtin "object.__class__")=some true
 hm:PySem.W.mroIn K C (.type "object")=some true
section
variable {prog:Program} {w:World} {A:Around} {E:Value→Shared→Prop} {s:Shared} {K:PySem.W.Frag} {x C:Addr} {ox:Obj} {odo:Option Obj} {name:Str}
def FndQ (prog:Program)(w:World)(A:Around)(x C:Addr)(Q:Value→Shared→Prop)(s:Shared):Builtin.ObjectAttr.Found→Prop
 | .value v=>wpAny (model prog w) A (handedOut v) Q (fun _ _=>False) s
 | .bind g a=>wpAny (model prog w) A.in1 (call g [a,.ref x,.ref C]) (fun v s'=>wpAny (model prog w) A (handedOut v) Q (fun _ _=>False) s') (fun _ _=>False) s
 | .missing=>False
theorem exc_by {fill expr:Bool}{tk:Tok}{Q:Value→Shared→Prop}{r:Builtin.ObjectAttr.Found}(X:K.In s.heap)(I:PySem.W.InstAt s.heap x ox C odo)(Z:ExcTy K C)(hf:PySem.W.findObj K C odo name=some r)(h:FndQ prog w A x C Q s r) :
  wpAny (model prog w) A (getAttrBy (.ref x) (.str name tk) fill expr) Q E s:=by
 obtain ⟨hh,g,d,t,os⟩:=s
 have L0:=I.type (M:=model prog w)
 have L1:=PySem.W.looks_findIn (M:=model prog w) X Z.ga
 have L2:=PySem.W.looks_findIn (M:=model prog w) X Z.gh
 have L3:=PySem.W.looks_mroIn (M:=model prog w) X Z.bx
 unfold getAttrBy
 refine wpAny_holding (wpAny_bind (L0.at (wpAny_bind (L1.at ?_))))
 have hne:(Value.builtin "BaseException.__getattribute__" == Value.builtin "object.__getattribute__")=false:=by decide +kernel
 simp only [hne,Bool.and_false,Bool.false_eq_true,if_false]
 unfold getAttrByItsOwn hookBefore
 have ht:onTheHeap (Value.ref C)=true:=rfl
 simp only [ht,if_true]
 refine wpAny_bind (L2.at (wpAny_bind (wpAny_attempt (wpAny_holding ?_))))
 unfold callGetattribute
 have hfe:(expr && onTheHeap (Value.builtin "BaseException.__getattribute__"))=false:=by cases expr <;> rfl
 simp only [hfe,Bool.false_eq_true,if_false]
 unfold boundAndCalled
 rw [PySem.F.attr_ValueError.ga.bind]
 refine wpAny_bind (wpAny_pure (wpAny_call (codeAny_call_builtin PySem.F.attr_ValueError.ga.plain PySem.F.entry_bexc_ga ?_)))
 have hk:builtinKind "BaseException.__getattribute__"=some .slot:=by decide +kernel
 have hsplit:splitId "BaseException.__getattribute__"=some ("BaseException","__getattribute__"):=by decide +kernel
 have ha:=PySem.F.args_bexc_ga (.ref x) (.str name tk)
 simp only [checkBuiltinCall,hk,hsplit]
 refine wpAny_bind ((L0.andThen L3).at ?_)
 have L4:=PySem.W.looks_find (M:=model prog w) X I hf
 have e1:=I.at_
 have e2:=I.cls
 dsimp only at e1
 repeat (any_goals (first | assumption | (with_reducible refine wpAny_loadPart_at e1 ?_; rw [e2]; refine wpAny_pure ?_; refine wpAny_bind (L4.at ?_)) | wp_step))
 cases r with
 | value v=>exact wpAny_pure (wpAny_mono h (fun _ _ z=>z) fun _ _ z=>z.elim)
 | missing=>exact h.elim
 | bind g a=>
  show wpAny _ _ (holding [a] (call g [a,.ref x,.ref C]) >>= ret) _ _ _
  exact wpAny_bind (wpAny_holding (wpAny_mono h (fun v s' z=>wpAny_pure (wpAny_mono z (fun _ _ q=>q) fun _ _ q=>q.elim)) fun _ _ z=>z.elim))
theorem exc_class {Q:Option Value→Shared→Prop}(X:K.In s.heap)(I:PySem.W.InstAt s.heap x ox C odo)(Z:ExcTy K C)(h:Q (some (.ref C)) { s with toks:=s.toks+1 }):wpAny (model prog w) A (getAttr? (.ref x) "__class__") Q E s:=by
 obtain ⟨hh,g,d,t,os⟩:=s
 have hc:(PySem.W.clsIn K C).isSome=true:=by
  cases q:PySem.W.clsIn K C with
  | some cd=>rfl
  | none=>have:=Z.hm; unfold PySem.W.mroIn at this; rw [q] at this; cases this
 obtain ⟨cd,hc⟩:=Option.isSome_iff_exists.mp hc
 have hf:PySem.W.findObj K C odo "__class__"=some (.bind (.builtin "getset_descriptor.__get__") (.builtin "object.__class__")):=by
  unfold PySem.W.findObj
  rw [hc,Option.bind_some,Z.ha,Option.bind_some]
  simp [Z.hn,Z.htk]
 unfold getAttr? getAttrBy?
 refine wpAny_bind (wpAny_mkText (wpAny_bind (wpAny_attempt (exc_by (s:=⟨hh,g,d,t+1,os⟩) X I Z hf (wpAny_call (PySem.W.class_get (s:=⟨hh,g,d,t+1,os⟩) (od:=odo) X I Z.hm ?_))))))
 exact PySem.W.handed_on rfl (wpAny_pure h)
def XAtI (e C:Addr)(odo:Option Obj)(h:Heap):Prop:=∃ ox,PySem.W.InstAt h e ox C odo
theorem kitx_exc {odo:Option Obj}(Z:ExcTy K C):PySem.W.KitX K (.ref x) (.ref C) (XAtI x C odo) where
 ty:=fun _ _ _ ⟨_,I⟩=>I.type
 it:=fun _ _ X _=>by
  cases q:K.lookup C with
  | none=>have:=Z.hm; unfold PySem.W.mroIn PySem.W.clsIn at this; rw [q] at this; cases this
  | some o=>
   obtain ⟨oc,od,dt,sl⟩:=o
   cases dt with
   | cls cd=>
    intro A' Q' E' s' k z
    unfold isType loadHead
    exact wpAny_bind (wpAny_loadPart (k _ _ (X _ _ q)) (wpAny_pure z))
   | _=>have:=Z.hm; unfold PySem.W.mroIn PySem.W.clsIn at this; rw [q] at this; cases this
 ne:=fun h tp dd its n sl X htp=>by
  refine Bool.eq_false_iff.mpr fun z=>?_
  have e:C=tp:=Value.ref.inj (beq_iff_eq.mp z)
  subst e
  cases q:K.lookup C with
  | none=>have:=Z.hm; unfold PySem.W.mroIn PySem.W.clsIn at this; rw [q] at this; cases this
  | some o=>
   have e2:=(X _ _ q).symm.trans htp
   cases e2
   have:=Z.hm; unfold PySem.W.mroIn PySem.W.clsIn at this; rw [q] at this; cases this
 ca:=fun X ⟨_,I⟩ k=>exc_class X I Z k
end
end M
namespace M
open PySem PySem.Spec PyProof.Rows L2
inductive TyX (K:PySem.W.Frag) (H:Hp):V→Value→Prop where
 | of {v:V} {t:Value} (h:TyOf K H v t):TyX K H v t
 | exc {e C:Addr} {d:Option Addr} (h:H e=some (.ext (XShape e C d))) (hd:∀ da,d=some da→∃ o,H da=some o) (Z:ExcTy K C):TyX K H (.ref e) (.ref C)
def CAny (K:PySem.W.Frag)(H:Hp)(t:Value)(b:Bool)(c:V):Prop:=(∃ cv,clsV c cv∧PySem.W.kitOne K t cv=some b)∨∃ p vs cvs,c=.ref p∧H p=some (.tup vs)∧Paired clsV vs cvs∧PySem.W.kitAny K t cvs=some b
def rIsiX (K:PySem.W.Frag):List V→Hp→VK→Prop:=fun xs H Q=>∃ y c t b,xs=[y,c]∧TyX K H y t∧CAny K H t b c∧Q (.bl b) H
section
variable {X:Cx}
theorem clsV_rel {c:V}{cv u:Value}(h:clsV c cv)(r:RelV c u):u=cv:=by
 cases c <;> simp only [clsV] at h <;> first | (subst h; exact r) | exact h.elim
theorem clsV_all:∀ {vs:List V} {cvs us:List Value},Paired clsV vs cvs→Vals vs us→us=cvs
 | _,_,_,.nil,.nil=>rfl
 | _,_,_,.cons h t,.cons r q=>by rw [clsV_rel h r,clsV_all t q]
theorem inst_of {pins:List (Addr×Obj)}{σ:St}{H:Hp}{s:Shared}(I:Inv X pins σ H s){e C:Addr}{d:Option Addr}(h:H e=some (.ext (XShape e C d)))(hd:∀ da,d=some da→∃ o,H da=some o):∃ odo,XAtI e C odo s.heap:=by
 obtain ⟨⟨o,vs,a,b,c,dd⟩,_⟩:=(show ObjOk X.prog X.w H s.heap e (.ext (XShape e C d)) from I.hok e _ h)
 have no:PySem.W.notCls o=true:=by unfold PySem.W.notCls; rw [c]
 cases d with
 | none=>exact ⟨none,o,a,b,no,by rw [dd]; trivial⟩
 | some da=>
  obtain ⟨ho,q⟩:=hd da rfl
  obtain ⟨ob,q2⟩:=hok_there I.hok q
  exact ⟨some ob,o,a,b,no,by rw [dd]; exact q2⟩
theorem call_isiX (K:PySem.W.Frag)(hK:X.K=K):CallR X (.builtin "isinstance") (rIsiX K):=by
 subst hK
 intro pins s σ H xs us Q I r h
 obtain ⟨y,c,t,b,rfl,ty,ca,q⟩:=h
 cases r with
 | cons r1 r2=>
  cases r2 with
  | cons r2 r3=>
   cases r3
   rename_i u1 u2
   have fin:∀ tk,EP X pins σ Q (.bool b) { s with toks:=tk }:=fun tk=>⟨.bl b,H,I.tok tk,rfl,q⟩
   have go:∀ (T:Value) (Hx:Heap→Prop),PySem.W.KitX X.K u1 T Hx→Hx s.heap→T=t→u1≠.builtin "__main__.__loader__#opaque"→wpAny (model X.prog X.w) X.A (call (.builtin "isinstance") [u1,u2]) (EP X pins σ Q) X.xe s:=by
    intro T Hx kx hx et ne
    subst et
    rcases ca with ⟨cv,hc,hk⟩ | ⟨p,vs,cvs,rfl,hp,hv,hk⟩
    ·rw [clsV_rel hc r2]
     exact PySem.W.kia_one kx I.kIn hx hk ne fin
    ·obtain rfl:u2=Value.ref p:=r2
     obtain ⟨_,its,rv,⟨o,h1,h2,n,h3⟩⟩:=(show ObjOk X.prog X.w H s.heap p (.tup vs) from I.hok p _ hp)
     obtain ⟨oc,od,dt,sl⟩:=o
     dsimp only at h2 h3
     subst h2 h3
     have:=clsV_all hv rv
     subst this
     exact PySem.W.kia_tup kx I.kIn hx h1 hk ne fin
   cases ty with
   | exc h hd Z=>
    rename_i e C d
    obtain ⟨odo,hx⟩:=inst_of I h hd
    cases (show u1=Value.ref e from r1)
    exact go _ _ (kitx_exc Z) hx rfl (fun z=>nomatch z)
   | of h=>
    cases h with
    | non=>cases (show u1=Value.none from r1); exact go _ _ PySem.W.kitx_none True.intro rfl (fun z=>nomatch z)
    | bl y=>cases (show u1=Value.bool y from r1); exact go _ _ PySem.W.kitx_bool True.intro rfl (fun z=>nomatch z)
    | int i=>obtain ⟨t,q⟩:=(show ∃ t,u1=Value.int i t from r1); cases q; exact go _ _ PySem.W.kitx_int True.intro rfl (fun z=>nomatch z)
    | str y=>obtain ⟨t,q⟩:=(show ∃ t,u1=Value.str y t from r1); cases q; exact go _ _ PySem.W.kitx_str True.intro rfl (fun z=>nomatch z)
    | flt y=>obtain ⟨t,q⟩:=(show ∃ t,u1=Value.float y t from r1); cases q; exact go _ _ PySem.W.kitx_float True.intro rfl (fun z=>nomatch z)
    | @lst a xs ea=>
     cases (show u1=Value.ref a from r1)
     obtain ⟨_,_,n,_,h1⟩:=(show ObjOk X.prog X.w H s.heap a (.lst xs) from I.hok a _ ea)
     exact go _ _ PySem.W.kitx_list ⟨_,h1,rfl⟩ rfl (fun z=>nomatch z)
    | @frz a ob xs ea=>
     cases (show u1=Value.ref a from r1)
     obtain ⟨_,_,_,n,_,h1⟩:=(show ObjOk X.prog X.w H s.heap a (.frz ob (.lst xs)) from I.hok a _ ea)
     exact go _ _ PySem.W.kitx_list ⟨_,h1,rfl⟩ rfl (fun z=>nomatch z)
    | @tup a xs ea=>
     cases (show u1=Value.ref a from r1)
     obtain ⟨_,_,_,p⟩:=(show ObjOk X.prog X.w H s.heap a (.tup xs) from I.hok a _ ea)
     obtain ⟨o,h1,h2,_⟩:=p
     exact go _ _ PySem.W.kitx_tuple ⟨o,h1,h2⟩ rfl (fun z=>nomatch z)
    | @dK a kvs ea=>
     cases (show u1=Value.ref a from r1)
     obtain ⟨_,_,vs,_,p⟩:=(show ObjOk X.prog X.w H s.heap a (.dK kvs) from I.hok a _ ea)
     obtain ⟨o,es,ep,h1,h2,_⟩:=p
     exact go _ _ PySem.W.kitx_dict ⟨o,h1,h2.1⟩ rfl (fun z=>nomatch z)
    | @dT a kvs ea=>
     cases (show u1=Value.ref a from r1)
     obtain ⟨_,_,xs,_,o,es,ep,h1,h2,_⟩:=(show ObjOk X.prog X.w H s.heap a (.dT kvs) from I.hok a _ ea)
     exact go _ _ PySem.W.kitx_dict ⟨o,h1,h2.1⟩ rfl (fun z=>nomatch z)
    | @ins a C dx fs ea cl ha hn htk hm=>
     cases (show u1=Value.ref a from r1)
     obtain ⟨mA,O,_⟩:=ins_get I.hok ea
     obtain ⟨od,J,_⟩:=O.look
     exact go _ _ (PySem.W.kitx_own (cl.get _) cl.hd ha hn htk hm) J rfl (fun z=>nomatch z)
end
def tyX (h:Mem):W→Option Ty
 | .exc c _ _=>some (.inr c)
 | w=>tyN h w
def clTy:W→Option Ty
 | .cls c=>some (.inr c)
 | .ty n=>some (.inl n)
 | _=>none
def kitA (kit:Kit)(t:Ty):List W→Option Bool
 | []=>some false
 | w::r=>(clTy w).bind fun cn=>(kit.get t cn).bind fun b=>(kitA kit t r).bind fun b2=>some (b || b2)
def isiX (kit:Kit)(h:Mem):List W→Option W
 | [w,.ty n]=>(tyX h w).bind fun t=>(kit.get t (.inl n)).map .bl
 | [w,.cls c]=>(tyX h w).bind fun t=>(kit.get t (.inr c)).map .bl
 | [w,.tup (c::cs)]=>(tyX h w).bind fun t=>(kitA kit t (c::cs)).map .bl
 | _=>none
def ExcOk (K:PySem.W.Frag)(T:CTb):Prop:=∀ c C,T.x c=some C→T c=none∧ExcTy K C
theorem cls_rw {T:CTb}{φ:List Addr}{H:Hp}{w:W}{v:V}{cn:Ty}(e:clTy w=some cn)(r:RW T φ H w v){cv:Value}(h:TV T cn cv):clsV v cv:=by
 cases w with
 | cls c=>
  cases e
  unfold RW at r
  obtain ⟨C,a,rfl⟩:=r
  obtain ⟨C',b,rfl⟩:=h
  rw [a] at b; cases b; rfl
 | ty n=>
  cases e
  unfold RW at r
  subst r
  exact h
 | _=>cases e
theorem kitA_ok {K:PySem.W.Frag}{T:CTb}{kit:Kit}(hk:KitOk K T kit){t:Ty}{tv:Value}(ht:∀ tv',TV T t tv'→tv'=tv){φ:List Addr}{H:Hp}:∀ {ws:List W} {vs:List V} {b:Bool},kitA kit t ws=some b→RWs T φ H ws vs→∃ cvs,Paired clsV vs cvs∧PySem.W.kitAny K tv cvs=some b
 | [],vs,b,e,r=>by
  unfold RWs at r
  subst r
  cases e
  exact ⟨[],.nil,rfl⟩
 | w::ws,vs,b,e,r=>by
  unfold RWs at r
  obtain ⟨v,vr,rfl,r1,r2⟩:=r
  unfold kitA at e
  rw [Option.bind_eq_some_iff] at e
  obtain ⟨cn,hw,e⟩:=e
  rw [Option.bind_eq_some_iff] at e
  obtain ⟨b0,g,e⟩:=e
  rw [Option.bind_eq_some_iff] at e
  obtain ⟨b2,g2,e⟩:=e
  cases e
  obtain ⟨tv',cv,h1,h2,h3⟩:=hk _ (Kit.mem g)
  rw [ht tv' h1] at h3
  obtain ⟨cvs,p,q⟩:=kitA_ok hk ht (ws:=ws) g2 r2
  refine ⟨cv::cvs,.cons (cls_rw hw r1 h2) p,?_⟩
  unfold PySem.W.kitAny
  rw [h3]
  cases b0 with
  | true=>rfl
  | false=>simpa using q
theorem tyX_ok {K:PySem.W.Frag}{T:CTb}(hI:InsOk K T)(hE:ExcOk K T){φ:List Addr}{H:Hp}{h:Mem}{w:W}{v:V}{t:Ty}(r:RH T φ h H)(x:RW T φ H w v)(e:tyX h w=some t){tv:Value}(ht:TV T t tv):TyX K H v tv:=by
 cases w with
 | exc c fs ws=>
  cases e
  unfold RW at x
  obtain ⟨p,C,d,vs,rfl,_,c1,c2,_,c3,_⟩:=x
  obtain ⟨C',c4,rfl⟩:=ht
  obtain ⟨n1,Z⟩:=hE c C c1
  have:T.any c=some C:=by unfold CTb.any; rw [show T.t c=none from n1]; dsimp only; rw [c1]
  rw [this] at c4; cases c4
  refine .exc c2 (fun da z=>?_) Z
  subst z
  exact ⟨_,c3.2⟩
 | _=>exact .of (tyN_ok hI r x e ht)
theorem tv_inj {T:CTb}{t:Ty}{a b:Value}(h:TV T t a)(k:TV T t b):b=a:=by
 cases t with
 | inl n=>rw [show a=.type n from h,show b=.type n from k]
 | inr c=>
  obtain ⟨C,x,rfl⟩:=h
  obtain ⟨C',y,rfl⟩:=k
  rw [x] at y; cases y; rfl
theorem isiX_ok {K:PySem.W.Frag}{T:CTb}{kit:Kit}(hI:InsOk K T)(hE:ExcOk K T)(hk:KitOk K T kit):CbW T (isiX kit) (rIsiX K):=by
 intro φ h H ws vs w Q r x e k
 have one:∀ (a:W) (u cv0:V) (cn:Ty),(tyX h a).bind (fun t=>(kit.get t cn).map W.bl)=some w→RW T φ H a u→(∀ cv,TV T cn cv→clsV cv0 cv)→rIsiX K [u,cv0] H Q:=by
  intro a u cv0 cn e ra hc
  rw [Option.bind_eq_some_iff] at e
  obtain ⟨t,q,e⟩:=e
  rw [Option.map_eq_some_iff] at e
  obtain ⟨b,e1,rfl⟩:=e
  obtain ⟨tv,cv,h1,h2,h3⟩:=hk _ (Kit.mem e1)
  exact ⟨u,cv0,tv,b,rfl,tyX_ok hI hE r ra q h1,.inl ⟨cv,hc cv h2,h3⟩,here_k r rw_b k⟩
 unfold isiX at e
 split at e
 ·rename_i w1 n
  unfold RWs at x
  obtain ⟨v1,r1,rfl,x1,x2⟩:=x
  unfold RWs at x2
  obtain ⟨v2,r2,rfl,x3,x4⟩:=x2
  unfold RWs at x4; subst x4
  exact one _ _ _ (.inl n) e x1 fun cv h=>cls_rw rfl x3 h
 ·rename_i w1 n
  unfold RWs at x
  obtain ⟨v1,r1,rfl,x1,x2⟩:=x
  unfold RWs at x2
  obtain ⟨v2,r2,rfl,x3,x4⟩:=x2
  unfold RWs at x4; subst x4
  exact one _ _ _ (.inr n) e x1 fun cv h=>cls_rw rfl x3 h
 ·rename_i w1 c0 cs
  unfold RWs at x
  obtain ⟨v1,r1,rfl,x1,x2⟩:=x
  unfold RWs at x2
  obtain ⟨v2,r2,rfl,x3,x4⟩:=x2
  unfold RWs at x4; subst x4
  rw [Option.bind_eq_some_iff] at e
  obtain ⟨t,q,e⟩:=e
  rw [Option.map_eq_some_iff] at e
  obtain ⟨b,e1,rfl⟩:=e
  have e1':=e1
  unfold kitA at e1
  rw [Option.bind_eq_some_iff] at e1
  obtain ⟨cn,hw,e1⟩:=e1
  rw [Option.bind_eq_some_iff] at e1
  obtain ⟨b0,g,_⟩:=e1
  obtain ⟨tv,cv,h1,_,_⟩:=hk _ (Kit.mem g)
  unfold RW at x3
  obtain ⟨p,us,rfl,_,hp,hrw⟩:=x3
  obtain ⟨cvs,pr,ka⟩:=kitA_ok hk (fun tv' z=>tv_inj h1 z) e1' hrw
  exact ⟨v1,_,tv,b,rfl,tyX_ok hI hE r x1 q h1,.inr ⟨p,us,cvs,rfl,hp,pr,ka⟩,here_k r rw_b k⟩
 ·cases e
end M
namespace M
open PySem PySem.Spec PyProof.Rows L2
def rCountB:V→List V→Hp→VK→Prop:=fun x vs H Q=>match x,vs with
 | .ref p,[.bl k]=>need (lstAt H p) fun xs=>need (bolsOf xs) fun bs=>Q (.int (bs.count k:Nat)) H
 | _,_=>False
theorem vals_bols:∀ {bs:List Bool} {us:List Value},Vals (bs.map V.bl) us→us=bs.map Value.bool
 | [],us,h=>by cases h; rfl
 | b::bs,us,h=>by
  cases h with
  | cons r h=>rw [show _=Value.bool b from r,vals_bols h]; rfl
theorem reads_bols (h:Heap):∀ bs:List Bool,∃ as,ReadsAll h (bs.map Value.bool) (bs.map PyData.bool) as
 | []=>⟨_,.nil⟩
 | b::bs=>by
  obtain ⟨as,r⟩:=reads_bols h bs
  exact ⟨_,.cons (.bool b) r⟩
theorem count_bols (k:Bool):∀ bs:List Bool,PySem.Spec.countIn (.bool k) (bs.map PyData.bool)=(bs.count k:Nat)
 | []=>rfl
 | b::bs=>by
  show (if PySem.Spec.same (.bool b) (.bool k) then (1:Int) else 0)+PySem.Spec.countIn (.bool k) (bs.map PyData.bool)=_
  rw [count_bols k bs,List.count_cons]
  cases b <;> cases k <;> simp [PySem.Spec.same] <;> omega
section
variable {X:Cx}
theorem mt_countB:MtM X "list.count" rCountB:=by
 intro pins s σ H x vs v us Q I rx rv h
 unfold rCountB at h
 split at h
 ·rename_i p k
  obtain ⟨xs,e1,h⟩:=need_ex h
  obtain ⟨bs,e2,q⟩:=need_ex h
  cases rx
  obtain ⟨u,rfl,ru⟩:=rv.one
  cases ru
  obtain ⟨its,r,pl,z⟩:=I.list (lstAt_sq (K:=X.K) e1)
  rw [bolsOf_eq e2] at r
  have:=vals_bols r
  subst this
  obtain ⟨as,ra⟩:=reads_bols s.heap bs
  refine count_list_bools pl.isList ra (by simp [Shape.has]) ?_
  rw [count_bols]
  exact ⟨.int _,H,I.tok _,⟨_,rfl⟩,q⟩
 ·exact h.elim
end
def xBmL (op:Mem→W→List W→Option W)(f:Ex)(g:Exs):Ex:=fun ρ h=>(f ρ h).bind fun a h1=>match items h1 a with
 | some _=>(match g ρ h1 with
  | .ok ws h2=>.of (op h2 a ws) h2
  | .ex w h2=>.ex w h2
  | .no=>.no)
 | none=>.no
def countM (h:Mem)(a:W)(ws:List W):Option W:=match ws with
 | [.bl k]=>((items h a).bind bolW).map fun bs=>.int (bs.count k:Nat)
 | _=>none
section
variable {X:Cx} {Z:Zc} {f:Ex} {fa:Exs} {o e:Expr} {apos cpos:Pos} {T:CTb}
theorem bmL_ok {op:Mem→W→List W→Option W}{r:V→List V→Hp→VK→Prop}(hw:BmW Z.T op r){K:PySem.W.Frag}{σ:St}{H:Hp}{Q:VK}(q:tH Z (xBmL op f fa) σ H Q):tBM K "list" r (tH Z f) (tHA Z fa) σ H Q:=by
 obtain ⟨φ,m,ρ,x,q⟩:=q
 refine ⟨φ,m,ρ,x,?_⟩
 unfold xBmL at q
 rw [bindP] at q
 refine q.mono fun a h1 q1=>fun φ1 H1 u s1 r1 ra=>?_
 cases ei:items h1 a with
 | none=>rw [ei] at q1; exact q1.elim
 | some us=>
  rw [ei] at q1
  obtain ⟨p,vs,rfl,q2,q3⟩:=items_ok r1 ra ei
  refine ⟨.inl ⟨rfl,vs,lstAt_sq q2⟩,φ1,h1,ρ,x.step s1 r1,?_⟩
  dsimp only at q1
  cases e2:fa ρ h1 with
  | no=>rw [e2] at q1; exact q1.elim
  | ex w h2=>rw [e2] at q1; exact q1
  | ok ws h2=>
   rw [e2] at q1
   intro φ2 H2 vs s2 r2 rw2
   obtain ⟨w,e,k⟩:=ofP q1
   exact hw φ2 h2 H2 a _ ws vs w Q r2 (ra.step s2) rw2 e (k.step (s1.trans s2)).end
theorem countM_ok:BmW T countM rCountB:=by
 intro φ h H a u ws vs w Q r ra x e k
 unfold countM at e
 split at e
 ·rename_i b
  rw [Option.map_eq_some_iff] at e
  obtain ⟨bs,e,rfl⟩:=e
  rw [Option.bind_eq_some_iff] at e
  obtain ⟨us,e1,e2⟩:=e
  obtain ⟨v,rfl,y0⟩:=rws_one x
  rw [bl_rw y0]
  obtain ⟨p,vs,rfl,q1,q2⟩:=items_ok r ra e1
  show need (lstAt H p) _
  rw [q1]
  show need (bolsOf vs) _
  rw [bolW_ok q2 e2]
  exact here_k r rw_int k
 ·cases e
theorem q_count (ho:QE X Z o f)(ha:QA X Z [e] fa)(hbase:attributeBase o "count" X.env (eval o X.env)=eval o X.env:=by rfl)
  (hfew:((backTo cpos (starEach [e] X.env)).all (fun x=>!x.1) && (backToKw cpos (keywordEach [] X.env)).all (fun x=>x.1.isSome)
   && decide (([e]:List Expr).length+([]:List Keyword).length+(if ([]:List Keyword).isEmpty then 0 else 1)<30))=true:=by rfl)
  (hline:(apos.endLine == cpos.line)=true:=by rfl) (hs:starEach [e] X.env=(false,eval e X.env)::starEach [] X.env:=by rfl) (hplain:(backTo cpos (starEach [] X.env)).any (·.1)=false:=by rfl) :
  QE X Z (.Call (.Attribute o "count" apos) [e] [] cpos) (xBmL countM f fa):=
 ⟨(pe_bm PySem.F.plainAttrs_list PySem.F.slot_list_count PySem.F.type_list_count mt_countB ho.pe ha.pa hbase hfew hline hs hplain).imp fun σ H Q q=>bmL_ok countM_ok q⟩
end
def selfX (n m:Nat)(B:Sm):Fm:=fun ws h=>bif decide (ws.length=n) then (match runB m B ws h with
 | .ok w h'=>bif decide (h.length≤h'.length) then .ok w h' else .no
 | .ex w h'=>bif decide (h.length≤h'.length) then .ex w h' else .no
 | .no=>.no) else .no
theorem selfX_told {n m:Nat}{B:Sm}:Told n m B (selfX n m B):=fun ws h wf lt=>by
 unfold selfX
 cases hz:decide (ws.length=n) with
 | false=>exact .inl rfl
 | true=>
  dsimp only [cond_true]
  cases e:runB m B ws h with
  | no=>exact .inl rfl
  | ok w h'=>
   dsimp only
   cases hl:decide (h.length≤h'.length) with
   | false=>exact .inl rfl
   | true=>exact .inr ⟨of_decide_eq_true hz,fits_ok (of_decide_eq_true hl)⟩
  | ex w h'=>
   dsimp only
   cases hl:decide (h.length≤h'.length) with
   | false=>exact .inl rfl
   | true=>exact .inr ⟨of_decide_eq_true hz,fits_ex (of_decide_eq_true hl)⟩
theorem selfX_ok {n m:Nat}{B:Sm}{ws:List W}{h h':Mem}{w:W}(hl:ws.length=n)(e:runB m B ws h=.ok w h')(hk:h.length≤h'.length):selfX n m B ws h=.ok w h':=by
 unfold selfX
 rw [decide_eq_true hl,e]
 simp [hk]
theorem selfX_exc {n m:Nat}{B:Sm}{ws:List W}{h h':Mem}{w:W}(hl:ws.length=n)(e:runB m B ws h=.ex w h')(hk:h.length≤h'.length):selfX n m B ws h=.ex w h':=by
 unfold selfX
 rw [decide_eq_true hl,e]
 simp [hk]
end M
namespace M
open PySem PySem.Spec PyProof.Rows L2
section
variable {T:CTb}
def repM (h:Mem)(a b:W):Option W:=match b with
 | .int k=>(match a with
  | .tl ws=>bif (decide (-(2 ^ 63)≤k) && (decide (k<2 ^ 63) && decide (ws.length * k.toNat≤sizeLine))) then some (.tl (List.replicate k.toNat ws).flatten) else none
  | _=>none)
 | _=>none
theorem rws_rep {φ:List Addr}{H:Hp}{ws:List W}{vs:List V}(r:RWs T φ H ws vs):∀ n:Nat,RWs T φ H (List.replicate n ws).flatten (List.replicate n vs).flatten
 | 0=>by simp; unfold RWs; rfl
 | n+1=>by
  rw [List.replicate_succ,List.replicate_succ,List.flatten_cons,List.flatten_cons]
  exact rws_append r (rws_rep r n)
end
theorem eqM_flat {h:Mem}{n:Nat}{w:W}(f:flatW w=true)(e:eqFl w w=true):eqM h n w w=some true:=by
 cases n <;> simp [eqM,f,e]
theorem allM_self {f:W→W→Option Bool}:∀ {ws:List W},(∀ w∈ws,f w w=some true)→allM f ws ws=some true
 | [],_=>rfl
 | w::r,h=>by
  unfold allM
  rw [h w List.mem_cons_self,allM_self fun u m=>h u (List.mem_cons_of_mem _ m)]
  rfl
theorem eqFl_self:∀ {w:W},flatW w=true→eqFl w w=true:=by
 intro w h
 cases w <;> simp_all [flatW,eqFl]
end M
namespace M
open PySem PySem.Spec PyProof.Rows L2
end M
namespace M
open PySem PySem.Spec PyProof.Rows L2
end M
namespace M
open PySem PySem.Spec PyProof.Rows L2
end M
namespace M
open PySem PySem.Spec PyProof.Rows L2 PySem.Builtin.ObjectAttr
end M
namespace M
open PySem PySem.Spec PyProof.Rows L2
end M
namespace M
open PySem PySem.Spec PyProof.Rows L2
end M
namespace M
open PySem PySem.Spec PyProof.Rows L2
def excTyB (K:PySem.W.Frag)(C:Addr):Bool:=
 PySem.W.findIn K (.ref C) "__getattribute__" == some (some (.builtin "BaseException.__getattribute__")) && (PySem.W.findIn K (.ref C) "__getattr__" == some none && (PySem.W.mroIn K C (.type "BaseException") == some true &&
 (PySem.W.findIn K (.ref C) "__class__" == some (some (.builtin "object.__class__")) && (PySem.W.specialIn K (.builtin "object.__class__") "__get__" == some (some (.builtin "getset_descriptor.__get__")) && (PySem.W.takesIn K (.builtin "object.__class__") == some true && PySem.W.mroIn K C (.type "object") == some true)))))
theorem excTy_of {K:PySem.W.Frag}{C:Addr}(h:excTyB K C=true):ExcTy K C:=by
 unfold excTyB at h
 simp only [Bool.and_eq_true,beq_iff_eq] at h
 obtain ⟨a,b,c,d,e,f,g⟩:=h
 exact ⟨a,b,c,d,e,f,g⟩
def excAll (K:PySem.W.Frag)(l:List Addr):Bool:=l.all (excTyB K)
theorem excAll_of {K:PySem.W.Frag}{l:List Addr}(h:excAll K l=true){C:Addr}(m:C∈l):ExcTy K C:=excTy_of (List.all_eq_true.mp h C m)
def capAll (K:PySem.W.Frag)(D:Addr)(l:List Addr):Bool:=excSh K D "ValueError.__new__" && (PySem.W.mroIn K D (.type "BaseException") == some true && l.all fun a=>excSh K a "ValueError.__new__" && PySem.W.mroIn K a (.ref D) == some true)
theorem cap_of {K:PySem.W.Frag}{mg:Str→Option Value}{T:CTb}{d:Str}{sub:Str→Bool}{D:Addr}{l:List Addr}(h:capAll K D l=true)(hm:mg d=some (.ref D))(hT:∀ c C,sub c=true→T.x c=some C→C∈l):CatAt K mg T d sub:=by
 unfold capAll at h
 simp only [Bool.and_eq_true,beq_iff_eq] at h
 refine ⟨D,hm,h.1,h.2.1,fun c C hs e=>?_⟩
 have:=List.all_eq_true.mp h.2.2 C (hT c C hs e)
 simp only [Bool.and_eq_true,beq_iff_eq] at this
 exact this
def rzAll (K:PySem.W.Frag)(l:List Addr):Bool:=l.all (rzIn K)
theorem rzAll_of {K:PySem.W.Frag}{l:List Addr}(h:rzAll K l=true){C:Addr}(m:C∈l):rzIn K C=true:=List.all_eq_true.mp h C m
def kitSq (K:PySem.W.Frag)(l r:List Addr):Bool:=(List.range l.length).all fun i=>(List.range r.length).all fun j=>PySem.W.kitOne K (.ref (l.getD i 0)) (.ref (r.getD j 0)) == some (l.getD i 0 == r.getD j 0)
theorem kitSq_get {K:PySem.W.Frag}{l r:List Addr}(h:kitSq K l r=true){a b:Addr}(ha:a∈l)(hb:b∈r):PySem.W.kitOne K (.ref a) (.ref b)=some (a == b):=by
 obtain ⟨i,hi,rfl⟩:=List.getElem_of_mem ha
 obtain ⟨j,hj,rfl⟩:=List.getElem_of_mem hb
 have:=List.all_eq_true.mp (List.all_eq_true.mp h i (List.mem_range.mpr hi)) j (List.mem_range.mpr hj)
 simpa [List.getD,hi,hj] using this
def kitTy (K:PySem.W.Frag)(l:List Addr)(v:Value)(b:Bool):Bool:=l.all fun a=>PySem.W.kitOne K (.ref a) v == some b
theorem kitTy_get {K:PySem.W.Frag}{l:List Addr}{v:Value}{b:Bool}(h:kitTy K l v b=true){a:Addr}(ha:a∈l):PySem.W.kitOne K (.ref a) v=some b:=beq_iff_eq.mp (List.all_eq_true.mp h a ha)
end M
namespace M
open PySem PySem.Spec PyProof.Rows L2
end M
namespace M
open PySem PySem.Spec PyProof.Rows L2
def xDNew:Ex:=fun _ h=>.ok (.ref h.length) (h++[.dic []])
section
variable {X:Cx} {Z:Zc} {f g k:Ex} {o i v:Expr} {pos pos':Pos}
theorem q_dnew:QE X Z (.Dict [] [] pos) xDNew:=⟨pe_dnewK.imp fun σ H Q ⟨φ,m,ρ,x,q⟩=>fun p hp=>
 q (φ++[p]) _ (.ref p) (step_new hp) (x.rh.new (o:=.dic []) (ho:=.dK []) hp ⟨[],rfl,.nil⟩) (by unfold RW; exact ⟨p,by rw [← x.rh.len]; simp,rfl⟩)⟩
end
def putD (kvs:List (Key×W))(k:Key)(w:W):List (Key×W):=if (kvs.any fun kv=>decide (kv.1=k))=true then kvs.map (fun kv=>if kv.1=k then (kv.1,w) else kv) else kvs++[(k,w)]
def dropD (kvs:List (Key×W))(k:Key):List (Key×W):=kvs.filter fun kv=>decide (kv.1≠k)
section
variable {T:CTb} {φ:List Addr} {H:Hp}
theorem rp_any {k:Key}:∀ {a:List (Key×W)} {b:List (Key×V)},RP T φ H a b→(a.any fun kv=>decide (kv.1=k))=b.any fun kv=>decide (kv.1=k)
 | [],b,r=>by cases r; rfl
 | p::a,b,r=>by cases r with | cons h q=>rw [List.any_cons,List.any_cons,h.1,rp_any q]
theorem rp_repl {k:Key}{w:W}{v:V}(x:RW T φ H w v):∀ {a:List (Key×W)} {b:List (Key×V)},RP T φ H a b→RP T φ H (a.map fun kv=>if kv.1=k then (kv.1,w) else kv) (b.map fun kv=>if kv.1=k then (kv.1,v) else kv)
 | [],b,r=>by cases r; exact .nil
 | p::a,b,r=>by
  cases r with
  | @cons _ z _ l h q=>
   rw [List.map_cons,List.map_cons]
   refine .cons ?_ (rp_repl x q)
   by_cases e:p.1=k
   ·have e':z.1=k:=by rw [← h.1]; exact e
    rw [if_pos e,if_pos e']; exact ⟨h.1,x⟩
   ·have e':¬z.1=k:=by rw [← h.1]; exact e
    rw [if_neg e,if_neg e']; exact h
theorem rp_snoc {p:Key×W}{z:Key×V}(h1:p.1=z.1)(x:RW T φ H p.2 z.2):∀ {a:List (Key×W)} {b:List (Key×V)},RP T φ H a b→RP T φ H (a++[p]) (b++[z])
 | [],b,r=>by cases r; exact .cons ⟨h1,x⟩ .nil
 | q::a,b,r=>by cases r with | cons h l=>exact .cons h (rp_snoc h1 x l)
theorem rp_putD {k:Key}{w:W}{v:V}(x:RW T φ H w v){a:List (Key×W)}{b:List (Key×V)}(r:RP T φ H a b):RP T φ H (putD a k w) (putK b k v):=by
 unfold putD putK
 rw [rp_any r]
 split
 ·exact rp_repl x r
 ·exact rp_snoc rfl x r
theorem rp_drop {k:Key}:∀ {a:List (Key×W)} {b:List (Key×V)},RP T φ H a b→RP T φ H (dropD a k) (dropK b k)
 | [],b,r=>by cases r; exact .nil
 | p::a,b,r=>by
  cases r with
  | @cons _ z _ l h q=>
   have ih:=rp_drop (k:=k) q
   unfold dropD dropK at ih ⊢
   rw [List.filter_cons,List.filter_cons,h.1]
   split
   ·exact .cons h ih
   ·exact ih
theorem ref_dic {h:Mem}{n:Nat}{kvs:List (Key×W)}{v:V}(r:RH T φ h H)(x:RW T φ H (.ref n) v)(e:h[n]? = some (.dic kvs)):∃ a kv,v=.ref a∧φ[n]? = some a∧H a=some (.dK kv)∧RP T φ H kvs kv:=by
 unfold RW at x
 obtain ⟨a,ea,rfl⟩:=x
 obtain ⟨ho,y,kv,rfl,rp⟩:=r.obj n _ a e ea
 exact ⟨a,kv,rfl,ea,y,rp⟩
end
def setD (h:Mem)(o i v:W):Option Mem:=match o with
 | .ref n=>(match h[n]?,keyW i with
  | some (.dic kvs),some k=>if kvs.length<sizeLine then some (h.set n (.dic (putD kvs k v))) else none
  | _,_=>none)
 | _=>none
def xSetD (fo fi fv:Ex):Sm:=fun ρ h=>match fv ρ h with
 | .ok v h1=>(match fo ρ h1 with
  | .ok o h2=>(match fi ρ h2 with
   | .ok i h3=>(match setD h3 o i v with
    | some h4=>.nx ρ h4
    | none=>.no)
   | .ex w h3=>.ex w h3
   | .no=>.no)
  | .ex w h2=>.ex w h2
  | .no=>.no)
 | .ex w h1=>.ex w h1
 | .no=>.no
section
variable {X:Cx} {Z:Zc} {f g k:Ex} {o i v:Expr} {pos pos':Pos}
theorem qs_setd {j:Nat}(hr:Room j X.A)(ho:QE X Z o f)(hi:QE X Z i g)(hv:QE X Z v k)(hs:swapsWith v (some (.Subscript o i pos')) pos.line X.env=pure false:=by rfl):QS X Z (.Assign [.Subscript o i pos'] v pos) (xSetD f g k):=
 ⟨(ps_dput (hu_of hr) ho.pe hi.pe hv.pe hs).imp fun D σ H ⟨φ,m,ρ,x,q⟩=>⟨φ,m,ρ,x,by
  unfold xSetD at q
  cases e1:k ρ m with
  | no=>rw [e1] at q; exact q.elim
  | ex w h1=>rw [e1] at q; exact q
  | ok y h1=>
   rw [e1] at q
   intro φ1 H1 vy s1 r1 ry
   refine ⟨φ1,h1,ρ,x.step s1 r1,?_⟩
   dsimp only at q
   cases e2:f ρ h1 with
   | no=>rw [e2] at q; exact q.elim
   | ex w h2=>rw [e2] at q; exact q
   | ok a h2=>
    rw [e2] at q
    intro φ2 H2 va s2 r2 ra
    refine ⟨φ2,h2,ρ,(x.step s1 r1).step s2 r2,?_⟩
    dsimp only at q
    cases e3:g ρ h2 with
    | no=>rw [e3] at q; exact q.elim
    | ex w h3=>rw [e3] at q; exact q
    | ok b h3=>
     rw [e3] at q
     intro φ3 H3 vb s3 r3 rb
     dsimp only at q
     cases e4:setD h3 a b y with
     | none=>rw [e4] at q; exact q.elim
     | some h4=>
      rw [e4] at q
      unfold setD at e4
      split at e4
      ·rename_i n
       split at e4
       ·rename_i kvs kk e5 e6
        split at e4
        ·rename_i hl
         cases e4
         obtain ⟨p,kv,rfl,ep,yp,rx⟩:=ref_dic r3 (ra.step s3) e5
         have hk:=keyW_ok rb e6
         subst hk
         have ry3:=ry.step (s2.trans s3)
         have s4:=step_set (H:=H3) (ho:=.dK (putK kv kk vy)) (List.mem_of_getElem? ep) (nf_dK yp)
         have r4:=r3.set (o:=.dic (putD kvs kk y)) (ho:=.dK (putK kv kk vy)) ep ⟨_,rfl,rp_putD ry3 rx⟩
         exact ⟨p,_,rfl,DPut.k yp (by rw [← rp_length rx]; exact hl),q φ3 _ σ (s1.trans (s2.trans (s3.trans s4))) r4 (x.rs.step (s1.trans (s2.trans (s3.trans s4)))) x.sg⟩
        ·cases e4
       ·cases e4
      ·cases e4⟩⟩
end
def keyWs (kvs:List (Key×W)):List W:=kvs.map fun kv=>match kv.1 with
 | .inl i=>.int i
 | .inr x=>.str x
def xKeys (f:Ex):Ex:=fun ρ h=>match f ρ h with
 | .ok a h1=>(match dicts h1 a with
  | some kvs=>.ok (.ref h1.length) (h1++[.lst (keyWs kvs)])
  | none=>.no)
 | .ex w h1=>.ex w h1
 | .no=>.no
theorem rws_keys {T:CTb}{φ:List Addr}{H H':Hp}:∀ {a:List (Key×W)} {b:List (Key×V)},RP T φ H a b→RWs T φ H' (keyWs a) (b.map fun kv=>kV kv.1)
 | [],b,r=>by cases r; unfold keyWs RWs; rfl
 | p::a,b,r=>by
  cases r with
  | @cons _ z _ l h q=>
   have ih:=rws_keys (H':=H') q
   unfold keyWs at ih ⊢
   rw [List.map_cons,List.map_cons,← h.1]
   unfold RWs
   refine ⟨_,_,rfl,?_,ih⟩
   cases p.1 <;> (unfold RW; rfl)
def listDV:List V→Hp→VK→Prop:=fun vs H Q=>∃ p kv,vs=[.ref p]∧Rd H p (.dK kv)∧∀ l,H l=none→Q (.ref l) (upd H l (.lst (kv.map fun q=>kV q.1)))
theorem vals_keys {P:Program}{w:World}:∀ {kv:List (Key×V)} {kvs:List (Key×Value)} {vs:List Value},KV kv kvs→vs.length=kvs.length→(∀ (j:Nat) (v:Value),vs[j]? = some v→∃ k x,kvs[j]? = some (k,x)∧(mixKind P w).is k v=true)→Vals (kv.map fun q=>kV q.1) vs
 | [],kvs,vs,r,hl,h=>by
  cases r
  cases vs with
  | nil=>exact .nil
  | cons _ _=>simp at hl
 | p::kv,kvs,vs,r,hl,h=>by
  cases r with
  | @cons _ z _ l hp q=>
   cases vs with
   | nil=>simp at hl
   | cons v vs=>
    obtain ⟨k,x,e,hk⟩:=h 0 v rfl
    simp only [List.getElem?_cons_zero,Option.some.injEq] at e
    rw [List.map_cons]
    refine .cons ?_ (vals_keys (P:=P) (w:=w) q (by simpa using hl) fun j u hu=>by simpa using h (j+1) u (by simpa using hu))
    have:p.1=k:=by rw [hp.1,e]
    rw [this]
    rcases keyIs_shape hk with ⟨i,t,rfl,rfl⟩ | ⟨y,t,rfl,rfl⟩
    ·exact ⟨t,rfl⟩
    ·exact ⟨t,rfl⟩
section
variable {X:Cx} {Z:Zc} {f:Ex} {e:Expr} {x:Str} {p pos:Pos}
theorem call_listD (hh:X.calm=true):CallR X (.type "list") listDV:=by
 intro pins s σ H xs us Q I r h
 obtain ⟨d,kv,rfl,hd,q⟩:=h
 obtain ⟨u,rfl,rx⟩:=vals1 r
 cases rx
 obtain ⟨hz,lo,kvs,rel,dd⟩:=dk_rd I.hok hd
 obtain ⟨ep,hat⟩:=dd.dictAt
 refine PySem.W.kdl_call (PySem.W.kdl_dict (knd:=mixKind X.prog X.w) (kvs:=kvs) (ep:=ep) lo) (I.ok.hd hh) hat (by rw [← rel.length]; exact hz) fun h' tk acc' c' kp e hacc=>?_
 have hv:Vals (kv.map fun q=>kV q.1) acc'.toList:=vals_keys rel (by rw [Array.length_toList]; exact hacc.1) fun j v ej=>hacc.2 j v (by rw [← Array.getElem?_toList]; exact ej)
 refine ⟨.ref s.heap.objs.size,_,I.laid (t':=tk) kp (Nat.le_refl _) (show ObjOk X.prog X.w _ h' _ (.lst (kv.map fun q=>kV q.1)) from ⟨by simpa using hz,acc'.toList,c',hv,by simpa using e⟩),rfl,q _ (I.hok.fresh (Nat.le_refl _))⟩
theorem q_keys (hh:X.calm=true)(hg:Gl X x)(hm:X.mg x=none)(hv:bootBuiltins x=some (.type "list"))(ho:QE X Z e f)(hn:x≠"__name__":=by decide)(hdb:(x == ("__debug__":Str))=false:=by decide)
  (he:starEach [e] X.env=(false,eval e X.env)::starEach [] X.env:=by rfl) (hpl:(backTo pos (starEach [] X.env)).any (·.1)=false:=by rfl):QE X Z (.Call (.Name x p) [e] [] pos) (xKeys f):=
 ⟨(pe_callTy (call_listD hh) hg hm hv (pa_cons ho.pe pa_nil he) hn hdb he hpl).imp fun σ H Q ⟨φ,m,ρ,y,q⟩=>⟨φ,m,ρ,y,by
  unfold xKeys at q
  cases e1:f ρ m with
  | no=>rw [e1] at q; exact q.elim
  | ex w h1=>rw [e1] at q; exact q
  | ok a h1=>
   rw [e1] at q
   intro φ1 H1 va s1 r1 ra
   dsimp only at q
   cases e2:dicts h1 a with
   | none=>rw [e2] at q; exact q.elim
   | some kvs=>
    rw [e2] at q
    obtain ⟨d,kv,rfl,hd,rp⟩:=dicts_ok r1 ra e2
    refine ⟨d,kv,rfl,hd,fun l hl=>?_⟩
    have s2:=step_new (φ:=φ1) (ho:=.lst (kv.map fun q=>kV q.1)) hl
    exact q (φ1++[l]) _ (.ref l) (s1.trans s2) (r1.new (o:=.lst (keyWs kvs)) (ho:=.lst (kv.map fun q=>kV q.1)) hl ⟨_,rfl,rws_keys rp⟩) (by unfold RW; exact ⟨l,by rw [← r1.len]; simp,rfl⟩)⟩⟩
end
open Classical in
noncomputable def xLoopS (G:Tg)(B:Sm)(n:Nat)(all:List W):List W→Sm
 | [],ρ,h=>if h[n]? = some (.lst all) then .nx ρ h else .no
 | w::r,ρ,h=>if h[n]? = some (.lst all) then (match G w ρ with
  | none=>.no
  | some ρ1=>(match B ρ1 h with
   | .nx ρ' h'=>xLoopS G B n all r ρ' h'
   | .ct ρ' h'=>xLoopS G B n all r ρ' h'
   | .bk ρ' h'=>.nx ρ' h'
   | o=>o)) else .no
noncomputable def xForS (f:Ei)(G:Tg)(B:Sm):Sm:=fun ρ h=>match f ρ h with
 | .ok none ws h'=>xLoop G B ws ρ h'
 | .ok (some n) ws h'=>xLoopS G B n ws ws ρ h'
 | .ex w h'=>.ex w h'
 | .no=>.no
section
variable {X:Cx} {Z:Zc} {B:Sm} {fi:Ei} {tg iter:Expr} {sts:List Stmt} {pos:Pos}
theorem loopS_ok {gg:TG}{Gt:Tg}(hw:TgW Z gg Gt){J:It}{D:Ends}{n:Nat}{ws:List W}{φ1:List Addr}{H1:Hp}{h1:Mem}{σ:St}{ρ:Sg}(x:Here Z σ H1 φ1 h1 ρ)(it:ItOk Z.T φ1 H1 J ws (srcP (some n) ws))(q:(xLoopS Gt B n ws ws ρ h1).post Z φ1 H1 D) :
  ∃ Wd:Nat→Nat→St→Hp→Prop,(∃ m,Wd 0 m σ H1)∧∀ i m σ H,Wd i m σ H→(J.stop i H∧D.nx σ H)∨(J.go i H∧∃ N:St→Hp→Prop,(∀ σ' H',N σ' H'→∃ m',m'<m∧Wd (i+1) m' σ' H') ∧
   ∀ v H',J.yld i H v H'→gg v σ H' fun σ2 H2=>tHS Z B { D with nx:=N,ct:=N,bk:=D.nx } σ2 H2):=by
 refine ⟨fun i m σ H=>m=ws.length - i∧i≤ws.length∧∃ φ h ρ,Step φ1 H1 φ H∧Here Z σ H φ h ρ∧(xLoopS Gt B n ws (ws.drop i) ρ h).post Z φ H D,⟨ws.length,by simp,Nat.zero_le _,φ1,h1,ρ,Step.refl _ _,x,q⟩,?_⟩
 rintro i m σ H ⟨rfl,hi,φ,h,ρ,s,y,q⟩
 by_cases hlt:i<ws.length
 ·have ed:ws.drop i=ws[i]::ws.drop (i+1):=List.drop_eq_getElem_cons hlt
  have ei:ws[i]? = some ws[i]:=by simp [hlt]
  rw [ed] at q
  unfold xLoopS at q
  by_cases hP:h[n]? = some (.lst ws)
  ·rw [if_pos hP] at q
   refine .inr ⟨it.go φ H h i _ s y.rh hP ei,fun σ' H'=>i+1≤ws.length∧∃ φ h ρ,Step φ1 H1 φ H'∧Here Z σ' H' φ h ρ∧(xLoopS Gt B n ws (ws.drop (i+1)) ρ h).post Z φ H' D,fun σ' H' p=>⟨ws.length - (i+1),by omega,rfl,p⟩,fun v H' yl=>?_⟩
   obtain ⟨rfl,rw1⟩:=it.yld φ H h i _ v H' s y.rh hP ei yl
   cases e2:Gt ws[i] ρ with
   | none=>rw [e2] at q; exact q.elim
   | some ρ'=>
    rw [e2] at q
    simp only at q
    refine hw σ H' φ h ρ _ v ρ' _ y rw1 e2 fun σ' rs g=>⟨φ,h,ρ',⟨g,y.st,y.rh,rs⟩,?_⟩
    cases e3:B ρ' h with
    | nx ρ2 h2=>
     rw [e3] at q
     exact fun φ2 H2 σ2 s2 r2 rs2 g2=>⟨hlt,φ2,h2,ρ2,s.trans s2,⟨g2,y.st.trans s2,r2,rs2⟩,post_step q s2⟩
    | ct ρ2 h2=>
     rw [e3] at q
     exact fun φ2 H2 σ2 s2 r2 rs2 g2=>⟨hlt,φ2,h2,ρ2,s.trans s2,⟨g2,y.st.trans s2,r2,rs2⟩,post_step q s2⟩
    | bk ρ2 h2=>rw [e3] at q; exact q
    | rt w2 h2=>rw [e3] at q; exact q
    | ex w2 h2=>rw [e3] at q; exact q
    | no=>rw [e3] at q; exact q.elim
  ·rw [if_neg hP] at q; exact q.elim
 ·have e:i=ws.length:=by omega
  subst e
  rw [List.drop_length] at q
  unfold xLoopS at q
  by_cases hP:h[n]? = some (.lst ws)
  ·rw [if_pos hP] at q; exact .inl ⟨it.stop φ H h s y.rh hP,y.nx q⟩
  ·rw [if_neg hP] at q; exact q.elim
theorem forS_ok {gg:TG}{Gt:Tg}(hw:TgW Z gg Gt){D:Ends}{σ:St}{H:Hp}(h:tHS Z (xForS fi Gt B) D σ H):tFor (tHI Z fi) gg (tHS Z B) D σ H:=by
 obtain ⟨φ,h,ρ,x,q⟩:=h
 refine ⟨φ,h,ρ,x,?_⟩
 unfold xForS at q
 cases e:fi ρ h with
 | no=>rw [e] at q; exact q.elim
 | ex w h'=>rw [e] at q; exact q
 | ok src ws h'=>
  rw [e] at q
  cases src with
  | some n=>exact fun φ1 H1 J s1 r1 _ it=>loopS_ok hw (x.step s1 r1) it (post_step q s1)
  | none=>exact fun φ1 H1 J s1 r1 _ it=>loop_ok hw (x.step s1 r1) it (post_step q s1)
theorem qs_forS {gg:TG}{Gt:Tg}(hw:TgW Z gg Gt)(hp:PassesOwn (model X.prog X.w) X.A X.env X.xe)(hc:X.calm=true)(hi:QI X Z tg iter fi)(hg:QG X tg gg)(hb:QB X Z sts B)(hs:∀ x,foldedSetIterable iter X.env x=pure x:=by intro _; rfl) :
  QS X Z (.For tg iter sts [] pos) (xForS fi Gt B):=⟨(ps_for hp hc hi.pi hg.pg hb.ps hs).imp fun D σ H q=>forS_ok hw q⟩
end
theorem xLoopS_nx {G:Tg}{B:Sm}{n:Nat}{all:List W}(I:Sg→Mem→Prop)(hI:∀ ρ h,I ρ h→h[n]? = some (.lst all)):∀ (ws:List W) (ρ:Sg) (h:Mem),I ρ h →
  (∀ w∈ws,∀ ρ h,I ρ h→∃ ρ1,G w ρ=some ρ1∧∃ ρ' h',(B ρ1 h=.nx ρ' h'∨B ρ1 h=.ct ρ' h')∧I ρ' h')→∃ ρ' h',xLoopS G B n all ws ρ h=.nx ρ' h'∧I ρ' h'
 | [],ρ,h,i,_=>⟨ρ,h,by unfold xLoopS; rw [if_pos (hI _ _ i)],i⟩
 | w::ws,ρ,h,i,t=>by
  obtain ⟨ρ1,e1,ρ2,h2,e2,i2⟩:=t w List.mem_cons_self ρ h i
  obtain ⟨ρ3,h3,e3,i3⟩:=xLoopS_nx I hI ws ρ2 h2 i2 fun u m=>t u (List.mem_cons_of_mem _ m)
  refine ⟨ρ3,h3,?_,i3⟩
  unfold xLoopS
  rw [if_pos (hI _ _ i),e1]
  rcases e2 with e2 | e2 <;> (dsimp only; rw [e2]; exact e3)
end M
namespace M
open PySem PySem.Spec PyProof.Rows L2
open PySem.SeqAt (RcAt RcNeAt EqAt rc_eq_decline_or rc_ne_decline_or)
def isB (k:Bool):Value→Bool
 | .bool b=>b == k
 | _=>false
def rIndexB:V→List V→Hp→VK→Prop:=fun x vs H Q=>match x,vs with
 | .ref p,[.bl k]=>need (lstAt H p) fun xs=>need (bolsOf xs) fun bs=>k∈bs∧bs.length≤sizeLine∧Q (.int (bs.idxOf k:Nat)) H
 | _,_=>False
theorem ne_lt_idxB {k:Bool}:∀ {ns:List Bool} {j:Nat},j<ns.idxOf k→∀ (h2:j<ns.length),(ns[j] == k)=false
 | n::r,0,h,_=>by
  by_cases e:n=k
  ·subst e; simp at h
  ·simpa using e
 | n::r,j+1,h,h2=>by
  by_cases e:n=k
  ·subst e; simp at h
  ·have hb:(n == k)=false:=by simpa using e
   have h':j<r.idxOf k:=by
    rw [List.idxOf_cons,hb] at h
    exact Nat.lt_of_succ_lt_succ h
   exact ne_lt_idxB h' (Nat.lt_of_succ_lt_succ h2)
theorem mt_indexB {X:Cx}:MtM X "list.index" rIndexB:=by
 intro pins s σ H x vs v us Q I rx rv h
 unfold rIndexB at h
 split at h
 ·rename_i p k
  obtain ⟨xs,e1,h⟩:=need_ex h
  obtain ⟨bs,e2,hk,hz,q⟩:=need_ex h
  cases rx
  obtain ⟨u,rfl,ru⟩:=rv.one
  cases ru
  obtain ⟨its,r,pl,z⟩:=I.list (lstAt_sq (K:=X.K) e1)
  rw [bolsOf_eq e2] at r
  have:=vals_bols r
  subst this
  obtain ⟨⟨cls,dd,data,sl⟩,ho,hc,n,hd⟩:=pl.isList
  simp only at hc hd
  subst hc hd
  have hj:bs.idxOf k<bs.length:=List.idxOf_lt_length_iff.mpr hk
  rw [sizeLine_eq] at hz
  refine call_meets PySem.F.slot_list_index ⟨_,ho,rfl⟩ PySem.F.entry_list_index (PySem.F.args_list_index_2 _ _)
   (PySem.SeqAt.list_indexAt p (bs.map Value.bool).toArray n dd sl (.bool k) (isB k) (bs.idxOf k) (by simpa using hj) (by omega) ?_ ?_) ⟨ho,fun y hy=>?_,⟨.int _,H,I.tok _,⟨_,rfl⟩,q⟩⟩
  ·have:=List.getElem_idxOf hj
   simpa [isB] using this
  ·intro j hjs hlt
   have:=ne_lt_idxB hlt (by simpa using hjs)
   simpa [isB] using this
  ·have hy:y∈bs.map Value.bool:=by simpa using hy
   obtain ⟨b,_,rfl⟩:=List.mem_map.mp hy
   exact SeqAt.EqAt.bool_bool b k
 ·exact h.elim
def indexBM (h:Mem)(a:W)(ws:List W):Option W:=match ws with
 | [.bl k]=>((items h a).bind bolW).bind fun bs=>if k∈bs∧bs.length≤sizeLine then some (.int (bs.idxOf k:Nat)) else none
 | _=>none
section
variable {X:Cx} {Z:Zc} {f:Ex} {fa:Exs} {o e:Expr} {apos cpos:Pos} {T:CTb}
theorem indexBM_ok:BmW T indexBM rIndexB:=by
 intro φ h H a u ws vs w Q r ra x e k
 unfold indexBM at e
 split at e
 ·rename_i b
  rw [Option.bind_eq_some_iff] at e
  obtain ⟨bs,e,e3⟩:=e
  rw [Option.bind_eq_some_iff] at e
  obtain ⟨us,e1,e2⟩:=e
  split at e3
  ·rename_i hh
   cases e3
   obtain ⟨v,rfl,y0⟩:=rws_one x
   rw [bl_rw y0]
   obtain ⟨p,vs,rfl,q1,q2⟩:=items_ok r ra e1
   show need (lstAt H p) _
   rw [q1]
   show need (bolsOf vs) _
   rw [bolW_ok q2 e2]
   exact ⟨hh.1,hh.2,here_k r rw_int k⟩
  ·cases e3
 ·cases e
theorem q_indexB (ho:QE X Z o f)(ha:QA X Z [e] fa)(hbase:attributeBase o "index" X.env (eval o X.env)=eval o X.env:=by rfl)
  (hfew:((backTo cpos (starEach [e] X.env)).all (fun x=>!x.1) && (backToKw cpos (keywordEach [] X.env)).all (fun x=>x.1.isSome)
   && decide (([e]:List Expr).length+([]:List Keyword).length+(if ([]:List Keyword).isEmpty then 0 else 1)<30))=true:=by rfl)
  (hline:(apos.endLine == cpos.line)=true:=by rfl) (hs:starEach [e] X.env=(false,eval e X.env)::starEach [] X.env:=by rfl) (hplain:(backTo cpos (starEach [] X.env)).any (·.1)=false:=by rfl) :
  QE X Z (.Call (.Attribute o "index" apos) [e] [] cpos) (xBmL indexBM f fa):=
 ⟨(pe_bm PySem.F.plainAttrs_list PySem.F.slot_list_index PySem.F.type_list_index mt_indexB ho.pe ha.pa hbase hfew hline hs hplain).imp fun σ H Q q=>bmL_ok indexBM_ok q⟩
end
section
variable {X:Cx} {Z:Zc} {p pos:Pos}
theorem q_make0 {c:Str}{F:Fm}{kk j:Nat}(Mx:MkAt X.prog X.w X.K X.mg X.base Z.T kk c F)(hr:Room j X.A)(hkj:kk+1≤j)(hg:Gl X c)(hdb:(c == ("__debug__":Str))=false:=by decide)(hcl:X.calm=true:=by rfl):QE X Z (.Call (.Name c p) [] [] pos) (xMake c F xNil):=by
 obtain ⟨C,f,fd,ps,hc,hm,Mc,Fk,hb⟩:=Mx
 exact ⟨(pe_make0 Mc Fk (hr.mono hkj) hg hm hb .nil (pass0 hcl) hdb).imp fun σ H Q q=>by
  obtain ⟨φ,m,ρ,x,z⟩:=make_ok hc q
  exact z φ H [] (Step.refl _ _) x.rh (by unfold RWs; rfl)⟩
end
end M
namespace M
open PySem PySem.Spec PyProof.Rows L2
open Classical in
noncomputable def xBlkS (src:Option Nat)(all:List W)(G:Tg)(c el:Ex)(ρ0:Sg)(n0:Nat):List W→Mem→Option Mem
 | [],h=>if srcP src all h then some h else none
 | w::r,h=>if srcP src all h then (match G w ρ0 with
  | none=>none
  | some ρ=>(match c ρ h with
   | .ok (.bl true) h1=>(match el ρ h1 with
    | .ok x h2=>(match h2[n0]? with
     | some (.lst acc)=>bif decide (acc.length<sizeLine) then xBlkS src all G c el ρ0 n0 r (h2.set n0 (.lst (acc++[x]))) else none
     | _=>none)
    | _=>none)
   | .ok (.bl false) h1=>xBlkS src all G c el ρ0 n0 r h1
   | _=>none)) else none
noncomputable def xCompS (fi:Ei)(own:Nat)(ix:List Nat)(G:Tg)(c el:Ex):Ex:=fun ρ h=>match fi ρ h with
 | .ok src ws h1=>(match xBlkS src ws G c el (ρC own ix ρ) h1.length ws (h1++[.lst []]) with
  | some h2=>.ok (.ref h1.length) h2
  | none=>.no)
 | .ex w h1=>.ex w h1
 | .no=>.no
section
variable {X:Cx} {Z:Zc} {f g k:Ex} {fa:Exs} {fi:Ei} {osc:Scope} {N own fr:List Str} {ix:List Nat} {scope:Scope} {tg iter elt:Expr} {ifs:List Expr} {pos:Pos} {e c:Expr}
theorem blkS_ok {gg:TG}{G:Tg}{cc el:Ex}{T:CTb}{σ:St}{ρ:Sg}{φ1:List Addr}{H1:Hp}{h1 out:Mem}{J:It}{src:Option Nat}{ws:List W}(hG:TgW (Zb T own ix σ) gg G)
  (r1:RH T φ1 h1 H1) (rs:RS T φ1 H1 ρ σ) (it:ItOk T φ1 H1 J ws (srcP src ws)) (q:xBlkS src ws G cc el (ρC own.length ix ρ) h1.length ws (h1++[.lst []])=some out) (acc:Addr) (ha:H1 acc=none) {Q:Hp→Prop}
  (k:∀ φ' H',Step φ1 H1 φ' H'→RH T φ' out H'→φ'[h1.length]? = some acc→Q H') :
  tBlock J (σC own ix σ) acc gg (tHT (Zb T own ix σ) cc) (tH (Zb T own ix σ) el) Q (upd H1 acc (.lst [])):=by
 have s0:=step_new (φ:=φ1) (ho:=.lst []) ha
 have rb:=r1.new (o:=.lst []) ha (by unfold RO; exact ⟨[],rfl,by unfold RWs; rfl⟩)
 have hn0:(φ1++[acc])[h1.length]? = some acc:=by rw [← r1.len]; simp
 refine ⟨fun i m H=>m=ws.length - i∧i≤ws.length∧∃ φ h,Step (φ1++[acc]) (upd H1 acc (.lst [])) φ H∧RH T φ h H∧xBlkS src ws G cc el (ρC own.length ix ρ) h1.length (ws.drop i) h=some out,
  ⟨ws.length,by simp,Nat.zero_le _,_,_,Step.refl _ _,rb,q⟩,?_⟩
 rintro i m H ⟨rfl,hi,φ,h,sH,rH,q⟩
 have hn:=sH.get hn0
 by_cases hlt:i<ws.length
 ·have ed:ws.drop i=ws[i]::ws.drop (i+1):=List.drop_eq_getElem_cons hlt
  have ei:ws[i]? = some ws[i]:=by simp [hlt]
  rw [ed] at q
  unfold xBlkS at q
  by_cases hP:srcP src ws h
  case neg=>rw [if_neg hP] at q; cases q
  rw [if_pos hP] at q
  refine .inr ⟨it.go _ H _ i _ (s0.trans sH) rH hP ei,fun x H' yl=>?_⟩
  obtain ⟨rfl,rwx⟩:=it.yld _ H _ i _ x H' (s0.trans sH) rH hP ei yl
  cases e2:G ws[i] (ρC own.length ix ρ) with
  | none=>rw [e2] at q; cases q
  | some ρ'=>
   rw [e2] at q
   simp only at q
   have x0:Here (Zb T own ix σ) (σC own ix σ) H' φ h (ρC own.length ix ρ):=⟨leS_refl _,step_nil,rH,rs_C (rs.step (s0.trans sH))⟩
   refine hG _ _ _ _ _ _ x ρ' _ x0 rwx e2 fun σ' rs' le=>⟨le,?_⟩
   have x1:Here (Zb T own ix σ) σ' H' φ h ρ':=⟨le,step_nil,rH,rs'⟩
   refine ⟨_,_,ρ',x1,?_⟩
   cases e3:cc ρ' h with
   | no=>rw [e3] at q; cases q
   | ex w h2=>rw [e3] at q; cases q
   | ok w h2=>
    rw [e3] at q
    cases w with
    | bl b=>
     refine ⟨b,rfl,fun φ3 H3 s3 r3=>?_⟩
     cases b with
     | false=>
      exact iteF ⟨ws.length - (i+1),by omega,rfl,hlt,φ3,h2,sH.trans s3,r3,q⟩
     | true=>
      refine iteT ⟨_,_,ρ',x1.step s3 r3,?_⟩
      simp only at q
      cases e5:el ρ' h2 with
      | no=>rw [e5] at q; cases q
      | ex w h3=>rw [e5] at q; cases q
      | ok y h3=>
       rw [e5] at q
       simp only at q
       cases e6:h3[h1.length]? with
       | none=>rw [e6] at q; cases q
       | some ob=>
        rw [e6] at q
        cases ob with
        | lst aw=>
         simp only at q
         cases hz:decide (aw.length<sizeLine) with
         | false=>rw [hz] at q; cases q
         | true=>
          rw [hz] at q
          intro φ4 H4 v s4 r4 rw4
          have hn4:=s4.get (s3.get hn)
          obtain ⟨ho,y1,ys,rfl,y2⟩:=r4.obj h1.length (.lst aw) acc e6 hn4
          have lw:=y2.length
          have s5:=step_set (H:=H4) (ho:=.lst (ys++[v])) (List.mem_of_getElem? hn4) (nf_lst y1)
          have r5:=r4.set (o:=.lst (aw++[y])) (ho:=.lst (ys++[v])) hn4 (by unfold RO; exact ⟨_,rfl,rws_snoc y2 rw4⟩)
          exact ⟨ys,y1,by rw [← lw]; exact of_decide_eq_true hz,ws.length - (i+1),by omega,rfl,hlt,φ4,_,(sH.trans s3).trans (s4.trans s5),r5,q⟩
        | _=>cases q
    | _=>cases q
 ·have e:i=ws.length:=by omega
  subst e
  rw [List.drop_length] at q
  unfold xBlkS at q
  by_cases hP:srcP src ws h
  case neg=>rw [if_neg hP] at q; cases q
  rw [if_pos hP] at q
  have q:=Option.some.inj q
  subst q
  exact .inl ⟨it.stop _ H _ (s0.trans sH) rH hP,k φ H (s0.trans sH) rH hn⟩
end
end M
namespace L2
open PySem PySem.Spec PyProof.Rows
def Itd (ob:Obj)(a:Addr)(kvs:List (Key×V)):It:=⟨fun i H=>H a=some (.frz ob (.dK kvs))∧i<kvs.length,fun i H x H'=>H'=H∧∃ kv,kvs[i]? = some kv∧x=kV kv.1,fun i H=>H a=some (.frz ob (.dK kvs))∧kvs.length≤i⟩
def TnD (ob:Obj)(a it:Addr)(n:Nat)(i:Nat)(h:Heap):Prop:=∃ es ep,ob.data=.dict es ep∧h.IsKeyIter it a i n ep
section
variable {X:Cx} {pins:List (Addr×Obj)} {σ:St} {H:Hp} {s:Shared} {a:Addr} {ob:Obj} {kvs:List (Key×V)}
theorem frz_dict (I:Inv X pins σ H s)(e:H a=some (.frz ob (.dK kvs))){es:Array DictEntry}{ep:Nat}(hd:ob.data=.dict es ep):∃ vs,KV kvs vs∧s.heap.DictAt (mixKind X.prog X.w) a vs ep:=by
 obtain ⟨h1,_,_,vs,rel,o,es',ep',h2,h3,h4,h5⟩:=(show ObjOk X.prog X.w H s.heap a (.frz ob (.dK kvs)) from I.hok a _ e)
 rw [h1] at h2
 cases h2
 rw [hd] at h4
 cases h4
 exact ⟨vs,rel,ob,es,h1,h3,hd,h5⟩
theorem kv_at:∀ {kvs:List (Key×V)} {vs:List (Key×Value)} {i:Nat} {kv:Key×V},KV kvs vs→kvs[i]? = some kv→∃ x,vs[i]? = some (kv.1,x)
 | [],_,_,_,_,e=>by simp at e
 | p::kvs,vs,i,kv,r,e=>by
  cases r with
  | @cons _ q _ l h t=>
   cases i with
   | zero=>
    simp only [List.getElem?_cons_zero,Option.some.injEq] at e ⊢
    subst e
    exact ⟨q.2,by rw [h.1]⟩
   | succ i=>
    simp only [List.getElem?_cons_succ] at e ⊢
    exact kv_at t e
theorem key_rel {P:Program}{w:World}{k:Key}{v:Value}(h:(mixKind P w).is k v=true):RelV (kV k) v:=by
 rcases keyIs_shape h with ⟨i,t,rfl,rfl⟩ | ⟨y,t,rfl,rfl⟩
 ·exact ⟨t,rfl⟩
 ·exact ⟨t,rfl⟩
theorem turn_dict {P:Program}{w:World}{K:PySem.W.Frag}{tg:Expr}(ob:Obj)(a it:Addr)(kvs:List (Key×V)):Turn P w K tg (Itd ob a kvs) [it] it (TnD ob a it kvs.length) where
 mem:=by simp
 obj:=fun i h st b hb=>by
  have e:b=it:=by simpa using hb
  subst e
  obtain ⟨_,_,_,o,e,c,d⟩:=st
  exact ⟨o,e,fun v z=>by rw [d] at z; cases z⟩
 keep:=fun i h h' st k=>by
  obtain ⟨es,ep,hd,hit⟩:=st
  exact ⟨es,ep,hd,hit.at fun o e=>k it (by simp) o e⟩
 item:=by
  intro X hP hw hK hc i pins s σ H E I hf st hg
  subst hP hw hK
  obtain ⟨es,ep,hd,hit⟩:=st
  obtain ⟨e,hi⟩:=hg
  obtain ⟨vs,rel,hm⟩:=frz_dict I e hd
  obtain ⟨kv,hkv⟩:∃ kv,kvs[i]? = some kv:=⟨kvs[i],by simp [hi]⟩
  obtain ⟨x,hx⟩:=kv_at rel hkv
  obtain ⟨f0,f1,f2,f3,f4,f5⟩:=hf it (by simp)
  have hl:=rel.length
  rw [hl] at hit
  refine wpAny_pyNext_dict_item hit hm hx fun key h' hk hit' sb=>?_
  have I1:Inv X pins σ H { s with heap:=h' }:=I.turned (t':=s.toks) (fun b o hb e=>(sb.2 b hb).trans e) f0 f1 f3 f4 f5
  obtain ⟨o,e1,c,d⟩:=id hit'
  rw [← hl] at hit'
  exact ⟨key,rfl,go_of (s:={ s with heap:=h' }) e1 c d (by decide) ⟨kV kv.1,H,I1,key_rel hk,⟨rfl,kv,hkv,rfl⟩,⟨es,ep,hd,hit'⟩,fun b hb=>(hf b hb).1⟩⟩
 done:=by
  intro X hP hw hK hc i pins s σ H E I hf st hg
  subst hP hw hK
  obtain ⟨es,ep,hd,hit⟩:=st
  obtain ⟨e,hi⟩:=hg
  obtain ⟨vs,rel,hm⟩:=frz_dict I e hd
  obtain ⟨f0,f1,f2,f3,f4,f5⟩:=hf it (by simp)
  have hl:=rel.length
  rw [hl] at hit
  exact wpAny_pyNext_dict_end (I.ok.hd hc) hit hm (by rw [List.getElem?_eq_none_iff]; omega) fun h' eb=>⟨rfl,I.turned (t':=s.toks) (fun b o hb e=>eb b o hb e) f0 f1 f3 f4 f5⟩
 self:=fun _ _ _ _ _ st h=>by
  obtain ⟨es,ep,hd,hit⟩:=st
  exact wpAny_pyIter_keyiter hit h
theorem freeze (I:Inv X pins σ H s)(e:H a=some (.dK kvs))(ho:s.heap.get? a=some ob):Inv X pins σ (upd H a (.frz ob (.dK kvs))) s:=
 I.write (t':=s.toks) (h':=s.heap) (o:=.frz ob (.dK kvs)) (by rw [e]; trivial) (.inl rfl) (fun b u _ q=>q) ⟨ob,ho⟩ ⟨ho,(show ObjOk X.prog X.w H s.heap a (.dK kvs) from I.hok a _ e)⟩
theorem nofrz0 (I:Inv X pins σ H s)(e:H a=some (.dK kvs)):∀ o u,X.H₀ a≠some (.frz o u):=fun o u z=>by
 have:=I.base.frzs a o u z
 rw [e] at this
 cases this
theorem melt (I:Inv X pins σ H s)(e:H a=some (.frz ob (.dK kvs)))(h0:∀ o u,X.H₀ a≠some (.frz o u)):Inv X pins σ (upd H a (.dK kvs)) s:=by
 have ne:∀ b,H b=none→b≠a:=fun b q z=>by subst z; rw [e] at q; cases q
 refine ⟨I.ok,I.os,I.bare,⟨I.base.keep,I.base.slot,fun b ob' q n hx=>?_,I.base.there,fun b xs q=>?_,fun b ob' u q=>?_,fun b ps q=>?_⟩,I.loc,I.cell,?_,fun x c q=>?_,fun p hp=>?_,fun b u q=>?_,I.len⟩
 ·have:=I.base.free b ob' q n hx
  rw [upd_ne (ne b this)]; exact this
 ·have:=I.base.tups b xs q
  rw [upd_ne (fun z=>by subst z; rw [e] at this; cases this)]; exact this
 ·have:=I.base.frzs b ob' u q
  rw [upd_ne (fun z=>by subst z; exact h0 _ _ q)]; exact this
 ·obtain ⟨more,this⟩:=I.base.tbls b ps q
  exact ⟨more,by rw [upd_ne (fun z=>by subst z; rw [e] at this; cases this)]; exact this⟩
 ·rw [upd_ne (ne _ I.free)]; exact I.free
 ·rw [upd_ne (ne _ (I.freeC x c q))]; exact I.freeC x c q
 ·obtain ⟨e1,n,r⟩:=I.pin p hp
  exact ⟨e1,by rw [upd_ne (ne _ n)]; exact n,r⟩
 ·by_cases z:b=a
  ·subst z
   rw [upd_same] at q
   cases q
   exact (show ObjOk X.prog X.w H s.heap b (.frz ob (.dK kvs)) from I.hok b _ e).2
  ·rw [upd_ne z] at q
   refine (I.hok b u q).stay (fun c v _ r=>r) (fun c r=>?_) fun c xs r=>?_
   ·rw [upd_ne (fun z=>by subst z; rw [e] at r; cases r)]; exact r
   ·rw [upd_ne (fun z=>by subst z; rw [e] at r; cases r)]; exact r
def iDict (X:Cx)(tl:TE):TI:=fun σ H R=>tl σ H fun x H1=>∃ a kv,x=.ref a∧((H1 a=some (.dK kv)∧∀ ob,(∀ o u,X.H₀ a≠some (.frz o u))→R (Itd ob a kv) (upd H1 a (.frz ob (.dK kv))))∨∃ ob,H1 a=some (.frz ob (.dK kv))∧R (Itd ob a kv) H1)
theorem pi_dict {l tg:Expr}{tl:TE}(hl:PE X l tl):PI X tg l (iDict X tl):=by
 intro pins s σ H R I h
 refine thn (hl pins s σ H _ I h) fun v s1 ⟨x,H1,I1,r1,q1⟩=>?_
 obtain ⟨a,kv,ex,q1⟩:=q1
 subst ex
 cases r1
 have fin:∀ (H2:Hp) (ob:Obj),Inv X pins σ H2 s1→H2 a=some (.frz ob (.dK kv))→R (Itd ob a kv) H2→wpAny (model X.prog X.w) X.A (pyIter (.ref a)) (PIE X pins σ tg R) X.xe s1:=fun H2 ob I2 e q=>by
  obtain ⟨h1,hz,lo,vs,rel,o,es,ep,h2,h3⟩:=(show ObjOk X.prog X.w H2 s1.heap a (.frz ob (.dK kv)) from I2.hok a _ e)
  have h2':=h2
  rw [h1] at h2'
  cases h2'
  have hat:s1.heap.DictAt (mixKind X.prog X.w) a vs ep:=⟨ob,es,h1,h3⟩
  refine wpAny_pyIter_dict lo hat ?_
  refine ⟨s1.heap.objs.size,[s1.heap.objs.size],_,_,H2,rfl,I2.kept (t':=s1.toks) fun b o e=>Heap.get?_push_of_some _ e,turn_dict ob a _ kv,⟨es,ep,h3.2.1,⟨_,Heap.get?_push_size _ rfl,rfl,by rw [rel.length]; rfl⟩⟩,fun b hb=>?_,q⟩
  have e:b=s1.heap.objs.size:=by simpa using hb
  subst e
  exact I2.fpOk (Nat.le_refl _) (I2.hok.fresh (Nat.le_refl _))
 rcases q1 with ⟨ea,q⟩ | ⟨ob,ea,q⟩
 ·obtain ⟨_,_,vs,_,o,es,ep,ho,_⟩:=(show ObjOk X.prog X.w H1 s1.heap a (.dK kv) from I1.hok a _ ea)
  exact fin _ o (freeze I1 ea ho) upd_same (q o (nofrz0 I1 ea))
 ·exact fin _ ob I1 ea q
end
end L2
namespace M
open PySem PySem.Spec PyProof.Rows L2
theorem RS.step0 {T:CTb}{φ φ':List Addr}{H H':Hp}{ρ:Sg}{σ:St}(s:Step0 φ H φ' H')(r:RS T φ H ρ σ):RS T φ' H' ρ σ:=⟨r.len,fun i w e=>by
 obtain ⟨v,a,b⟩:=r.var i w e
 exact ⟨v,a,b.step0 s⟩⟩
def thawM (n:Nat)(h:Mem):Option Mem:=match h[n]? with
 | some (.fdic kvs)=>some (h.set n (.dic kvs))
 | _=>none
def thaw (n:Nat):Out→Out
 | .nx ρ h=>(match thawM n h with
  | some h'=>.nx ρ h'
  | none=>.no)
 | .rt w h=>(match thawM n h with
  | some h'=>.rt w h'
  | none=>.no)
 | _=>.no
def onlyNR:Out→Out
 | .nx ρ h=>.nx ρ h
 | .rt w h=>.rt w h
 | _=>.no
def xForD (f:Ex)(G:Tg)(B:Sm):Sm:=fun ρ h=>match f ρ h with
 | .ok (.ref n) h1=>(match h1[n]? with
  | some (.dic kvs)=>thaw n (xLoop G B (keyWs kvs) ρ (h1.set n (.fdic kvs)))
  | some (.fdic kvs)=>onlyNR (xLoop G B (keyWs kvs) ρ h1)
  | _=>.no)
 | .ex w h1=>.ex w h1
 | _=>.no
section
variable {T:CTb} {φ φ1 φ2:List Addr} {H H1 H2:Hp} {h h1 h2:Mem} {a:Addr} {n:Nat} {ob:Obj} {kv:List (Key×V)} {kvs:List (Key×W)}
theorem ref_fdic {v:V}(r:RH T φ h H)(x:RW T φ H (.ref n) v)(e:h[n]? = some (.fdic kvs)):∃ a ob kv,v=.ref a∧φ[n]? = some a∧H a=some (.frz ob (.dK kv))∧RP T φ H kvs kv:=by
 unfold RW at x
 obtain ⟨a,ea,rfl⟩:=x
 obtain ⟨ho,y,ob,kv,rfl,rp⟩:=r.obj n _ a e ea
 exact ⟨a,ob,kv,rfl,ea,y,rp⟩
theorem key_at:∀ {kvs:List (Key×W)} {kv:List (Key×V)} {i:Nat} {w:W},RP T φ H kvs kv→(keyWs kvs)[i]? = some w→∃ p,kv[i]? = some p∧RW T φ2 H2 w (kV p.1)
 | [],_,_,_,_,e=>by simp [keyWs] at e
 | q::kvs,kv,i,w,r,e=>by
  cases r with
  | @cons _ z _ l hq t=>
   unfold keyWs at e
   rw [List.map_cons] at e
   cases i with
   | zero=>
    simp only [List.getElem?_cons_zero,Option.some.injEq] at e ⊢
    refine ⟨z,rfl,?_⟩
    rw [← e,← hq.1]
    cases q.1 <;> (unfold RW; rfl)
   | succ i=>
    simp only [List.getElem?_cons_succ] at e ⊢
    exact key_at t e
theorem itD_ok (e:H1 a=some (.frz ob (.dK kv)))(rp:RP T φ1 H kvs kv):ItOk T φ1 H1 (Itd ob a kv) (keyWs kvs) fun _=>True:=by
 have hl:(keyWs kvs).length=kv.length:=by rw [show (keyWs kvs).length=kvs.length by simp [keyWs]]; exact rp_length rp
 refine ⟨fun φ2 H2 h2 i w s r _ ei=>⟨s.fr _ _ _ e,?_⟩,fun φ2 H2 h2 i w x H' s r _ ei yl=>?_,fun φ2 H2 h2 s r _=>⟨s.fr _ _ _ e,by rw [hl]; exact Nat.le_refl _⟩⟩
 ·rw [← hl]; exact (List.getElem?_eq_some_iff.mp ei).1
 ·obtain ⟨rfl,p,ep,rfl⟩:=yl
  obtain ⟨p',ep',rw'⟩:=key_at (T:=T) (φ2:=φ2) (H2:=H') rp ei
  rw [ep] at ep'
  cases ep'
  exact ⟨rfl,rw'⟩
theorem step_melt (s:Step φ1 (upd H1 a (.frz ob (.dK kv))) φ2 H2)(m:a∈φ1)(e:H1 a=some (.dK kv)):Step φ1 H1 φ2 (upd H2 a (.dK kv)):=by
 have hm2:a∈φ2:=s.pre.subset m
 refine ⟨((step_set0 (ho:=.frz ob (.dK kv)) m).trans s.toStep0).trans (step_set0 hm2),fun b o u eb=>?_⟩
 have hne:b≠a:=fun z=>by subst z; rw [e] at eb; cases eb
 rw [upd_ne hne]
 refine s.fr b o u ?_
 rw [upd_ne hne]; exact eb
theorem rh_melt (r:RH T φ2 h2 H2)(q:φ2[n]? = some a)(e:H2 a=some (.frz ob (.dK kv))){h3:Mem}(t:thawM n h2=some h3):RH T φ2 h3 (upd H2 a (.dK kv)):=by
 unfold thawM at t
 split at t
 ·rename_i kvs eh
  cases t
  obtain ⟨ho,y,ob',kv',rfl,rp⟩:=r.obj n _ a eh q
  rw [e] at y
  cases y
  exact r.set q ⟨kv,rfl,rp⟩
 ·cases t
end
section
variable {X:Cx} {Z:Zc} {B:Sm} {f:Ex} {tg iter:Expr} {sts:List Stmt} {pos:Pos}
def Melts (X:Cx)(Q:Hp→Prop)(H:Hp):Prop:=Q H∨∃ a ob kv,H a=some (.frz ob (.dK kv))∧(∀ o u,X.H₀ a≠some (.frz o u))∧Q (upd H a (.dK kv))
theorem melts_inv {pins:List (Addr×Obj)}{σ:L2.St}{H:Hp}{s:Shared}{Q:Hp→Prop}(I:Inv X pins σ H s)(m:Melts X Q H):∃ H',Inv X pins σ H' s∧Q H':=by
 rcases m with q | ⟨a,ob,kv,e,n,q⟩
 ·exact ⟨H,I,q⟩
 ·exact ⟨_,melt I e n,q⟩
theorem qs_forD {gg:TG}{Gt:Tg}(hw:TgW Z gg Gt)(hp:PassesOwn (model X.prog X.w) X.A X.env X.xe)(hc:X.calm=true)(hi:QE X Z iter f)(hg:QG X tg gg)(hb:QB X Z sts B)(hs:∀ x,foldedSetIterable iter X.env x=pure x:=by intro _; rfl) :
  QS X Z (.For tg iter sts [] pos) (xForD f Gt B):=⟨by
 intro pins s σ H D I q
 refine wpAny_mono (ps_for hp hc (pi_dict hi.pe) hg.pg hb.ps hs pins s σ H { nx:=fun σ' H'=>Melts X (D.nx σ') H',rt:=fun v H'=>Melts X (D.rt v) H' } I ?_) (fun fl s1 sp=>?_) fun _ _ z=>z
 ·obtain ⟨φ,m,ρ,x,q⟩:=q
  refine ⟨φ,m,ρ,x,?_⟩
  unfold xForD at q
  cases e:f ρ m with
  | no=>rw [e] at q; exact q.elim
  | ex w h'=>rw [e] at q; exact q
  | ok w h1=>
   rw [e] at q
   intro φ1 H1 v s1 r1 ra
   cases w with
   | ref n=>
    dsimp only at q
    cases e2:h1[n]? with
    | none=>rw [e2] at q; exact q.elim
    | some o=>
     rw [e2] at q
     cases o with
     | dic kvs=>
      dsimp only at q
      obtain ⟨a,kv,rfl,ea,ya,rp⟩:=ref_dic r1 ra e2
      refine ⟨a,kv,rfl,.inl ⟨ya,fun ob nf=>?_⟩⟩
      have sf:=step_set (H:=H1) (ho:=.frz ob (.dK kv)) (List.mem_of_getElem? ea) (nf_dK ya)
      have rf:=r1.set (o:=.fdic kvs) (ho:=.frz ob (.dK kv)) ea ⟨ob,kv,rfl,rp⟩
      refine loop_ok hw (x.step (s1.trans sf) rf) (itD_ok upd_same rp) ?_
      have key:∀ φ2 H2 h2 h3,Step φ1 (upd H1 a (.frz ob (.dK kv))) φ2 H2→RH Z.T φ2 h2 H2→thawM n h2=some h3→H2 a=some (.frz ob (.dK kv))∧Step φ H φ2 (upd H2 a (.dK kv))∧RH Z.T φ2 h3 (upd H2 a (.dK kv))∧Step0 φ2 H2 φ2 (upd H2 a (.dK kv)):=fun φ2 H2 h2 h3 st r t=>by
       have e3:=st.fr a ob _ upd_same
       have en:=st.get ea
       exact ⟨e3,s1.trans (step_melt st (List.mem_of_getElem? ea) ya),rh_melt r en e3 t,step_set0 (List.mem_of_getElem? en)⟩
      cases e4:xLoop Gt B (keyWs kvs) ρ (h1.set n (.fdic kvs)) with
      | nx ρ' h'=>
       rw [e4] at q
       unfold thaw at q
       dsimp only at q
       cases e5:thawM n h' with
       | none=>rw [e5] at q; exact q.elim
       | some h3=>
        rw [e5] at q
        intro φ2 H2 σ2 st r rs sg
        obtain ⟨k1,k2,k3,k4⟩:=key φ2 H2 h' h3 st r e5
        exact .inr ⟨a,ob,kv,k1,nf,q φ2 _ σ2 k2 k3 (rs.step0 k4) sg⟩
      | rt w h'=>
       rw [e4] at q
       unfold thaw at q
       dsimp only at q
       cases e5:thawM n h' with
       | none=>rw [e5] at q; exact q.elim
       | some h3=>
        rw [e5] at q
        intro φ2 H2 v st r rv
        obtain ⟨k1,k2,k3,k4⟩:=key φ2 H2 h' h3 st r e5
        exact .inr ⟨a,ob,kv,k1,nf,q φ2 _ v k2 k3 (rv.step0 k4)⟩
      | bk ρ' h'=>rw [e4] at q; exact q.elim
      | ct ρ' h'=>rw [e4] at q; exact q.elim
      | ex w h'=>rw [e4] at q; exact q.elim
      | no=>rw [e4] at q; exact q.elim
     | fdic kvs=>
      dsimp only at q
      obtain ⟨a,ob,kv,rfl,ea,ya,rp⟩:=ref_fdic r1 ra e2
      refine ⟨a,kv,rfl,.inr ⟨ob,ya,?_⟩⟩
      refine loop_ok hw (x.step s1 r1) (itD_ok ya rp) ?_
      cases e4:xLoop Gt B (keyWs kvs) ρ h1 with
      | nx ρ' h'=>rw [e4] at q; exact fun φ2 H2 σ2 st r rs sg=>.inl (q φ2 H2 σ2 (s1.trans st) r rs sg)
      | rt w h'=>rw [e4] at q; exact fun φ2 H2 v st r rv=>.inl (q φ2 H2 v (s1.trans st) r rv)
      | bk ρ' h'=>rw [e4] at q; exact q.elim
      | ct ρ' h'=>rw [e4] at q; exact q.elim
      | ex w h'=>rw [e4] at q; exact q.elim
      | no=>rw [e4] at q; exact q.elim
     | _=>exact q.elim
   | _=>exact q.elim
 ·cases fl with
  | next=>
   obtain ⟨σ',H',J,z⟩:=sp
   obtain ⟨H2,J2,z2⟩:=melts_inv J z
   exact ⟨σ',H2,J2,z2⟩
  | brk=>obtain ⟨σ',H',J,z⟩:=sp; exact z.elim
  | cont=>obtain ⟨σ',H',J,z⟩:=sp; exact z.elim
  | ret u=>
   obtain ⟨v,σ',H',J,rv,z⟩:=sp
   obtain ⟨H2,J2,z2⟩:=melts_inv J z
   exact ⟨v,σ',H2,J2,rv,z2⟩⟩
def xCompD (f:Ex)(own:Nat)(ix:List Nat)(G:Tg)(c el:Ex):Ex:=fun ρ h=>match f ρ h with
 | .ok (.ref n) h1=>(match h1[n]? with
  | some (.dic kvs)=>if (keyWs kvs).length<sizeLine then (match xBlk G c el (ρC own ix ρ) (h1.set n (.fdic kvs)) (keyWs kvs) [] with
   | some out=>.ok (.tl out) h1
   | none=>.no) else .no
  | some (.fdic kvs)=>if (keyWs kvs).length<sizeLine then (match xBlk G c el (ρC own ix ρ) h1 (keyWs kvs) [] with
   | some out=>.ok (.tl out) h1
   | none=>.no) else .no
  | _=>.no)
 | .ex w h1=>.ex w h1
 | _=>.no
theorem set_back {h:Mem}{n:Nat}{o o':O}(e:h[n]? = some o):(h.set n o').set n o=h:=by
 rw [List.set_set]
 obtain ⟨hl,q⟩:=List.getElem?_eq_some_iff.mp e
 rw [← q]; exact List.set_getElem_self hl
theorem qs_setcD {osc:Scope}{N own fr:List Str}{ix:List Nat}{scope:Scope}{elt:Expr}{ifs:List Expr}{gg:TG}{G:Tg}{cc el:Ex}{i:Nat}{x:Str}{px spos:Pos}(hnd:X.N.Nodup)(hi':X.N[i]? = some x)(hl:X.env.scope.names.lookup x=some .local)(hsg:∀ σ v,Z.sg σ→Z.sg (σ.set i (some v)))(hcalm:X.calm=true)(ho:X.env.scope=osc)(hN:X.N=N)
  (hk:compOk osc N own fr ix scope=true) (hi:QE X Z iter f) (hG:∀ σ,TgW (Zb Z.T own ix σ) gg G) [hc:Pu cc] [he:Pu el]
  (hg:InC X own fr scope fun Y=>QG Y tg gg) (ht:∀ σ,InC X own fr scope fun Y=>QC Y (Zb Z.T own ix σ) ifs cc) (hel:∀ σ,InC X own fr scope fun Y=>QE Y (Zb Z.T own ix σ) elt el) (hs:∀ x,foldedSetIterable iter X.env x=pure x:=by intro _; rfl)
  (hsw:swapsWith (.ListComp elt [⟨tg,iter,ifs,0⟩] scope pos) (some (.Name x px)) spos.line X.env=pure true:=by rfl) :
  QS X Z (.Assign [.Name x px] (.ListComp elt [⟨tg,iter,ifs,0⟩] scope pos) spos) (xAsg (gN i) (xCompD f own.length ix G cc el)):=⟨by
 intro pins s σ H D I q
 refine wpAny_mono (ps_setc hnd hi' hl hcalm ho hN hk (pi_dict hi.pe) (fun a b c d e=>(hg a b c d e).pg) (fun a b c d e=>(ht σ a b c d e).pc) (fun a b c d e=>(hel σ a b c d e).pe) hs hsw pins s σ H { nx:=fun σ' H'=>Melts X (D.nx σ') H',rt:=fun v H'=>False } I ?_) (fun fl s1 sp=>?_) fun _ _ z=>z
 ·obtain ⟨φ,h,ρ,y,q⟩:=q
  refine ⟨φ,h,ρ,y,?_⟩
  unfold xAsg xCompD at q
  cases e:f ρ h with
  | no=>rw [e] at q; exact q.elim
  | ex w h'=>rw [e] at q; exact q
  | ok w h1=>
   rw [e] at q
   intro φ1 H1 v s1 r1 ra
   cases w with
   | ref n=>
    dsimp only at q
    cases e2:h1[n]? with
    | none=>rw [e2] at q; exact q.elim
    | some o=>
     rw [e2] at q
     cases o with
     | dic kvs=>
      dsimp only at q
      by_cases hz:(keyWs kvs).length<sizeLine
      ·rw [if_pos hz] at q
       obtain ⟨a,kv,rfl,ea,ya,rp⟩:=ref_dic r1 ra e2
       refine ⟨a,kv,rfl,.inl ⟨ya,fun ob nf acc ha=>?_⟩⟩
       have sf:=step_set (H:=H1) (ho:=.frz ob (.dK kv)) (List.mem_of_getElem? ea) (nf_dK ya)
       have rf:=r1.set (o:=.fdic kvs) (ho:=.frz ob (.dK kv)) ea ⟨ob,kv,rfl,rp⟩
       cases e3:xBlk G cc el (ρC own.length ix ρ) (h1.set n (.fdic kvs)) (keyWs kvs) [] with
       | none=>rw [e3] at q; exact q.elim
       | some out=>
        rw [e3] at q
        refine blk_ok (src:=none) (hG σ) hz rf (y.rs.step (s1.trans sf)) trivial (itD_ok upd_same rp) e3 acc ha fun H' s2 r2 w2=>?_
        have e4:=s2.fr a ob _ upd_same
        have hn:n<h1.length:=(List.getElem?_eq_some_iff.mp e2).1
        have rb:=rh_melt (h3:=h1) r2 ea e4 (by unfold thawM; rw [List.getElem?_set_self hn]; dsimp only; rw [set_back e2])
        have k2:=s1.trans (step_melt s2 (List.mem_of_getElem? ea) ya)
        exact .inr ⟨a,ob,kv,e4,nf,q φ1 _ _ k2 rb ((y.rs.step k2).set (w2.step0 (step_set0 (List.mem_of_getElem? ea)))) (hsg _ _ y.sg)⟩
      ·rw [if_neg hz] at q; exact q.elim
     | fdic kvs=>
      dsimp only at q
      by_cases hz:(keyWs kvs).length<sizeLine
      ·rw [if_pos hz] at q
       obtain ⟨a,ob,kv,rfl,ea,ya,rp⟩:=ref_fdic r1 ra e2
       refine ⟨a,kv,rfl,.inr ⟨ob,ya,fun acc ha=>?_⟩⟩
       cases e3:xBlk G cc el (ρC own.length ix ρ) h1 (keyWs kvs) [] with
       | none=>rw [e3] at q; exact q.elim
       | some out=>
        rw [e3] at q
        exact blk_ok (src:=none) (hG σ) hz r1 (y.rs.step s1) trivial (itD_ok ya rp) e3 acc ha fun H' s2 r2 w2=>.inl (q φ1 H' _ (s1.trans s2) r2 ((y.rs.step (s1.trans s2)).set w2) (hsg _ _ y.sg))
      ·rw [if_neg hz] at q; exact q.elim
     | _=>exact q.elim
   | _=>exact q.elim
 ·cases fl with
  | next=>
   obtain ⟨σ',H',J,z⟩:=sp
   obtain ⟨H2,J2,z2⟩:=melts_inv J z
   exact ⟨σ',H2,J2,z2⟩
  | brk=>obtain ⟨σ',H',J,z⟩:=sp; exact z.elim
  | cont=>obtain ⟨σ',H',J,z⟩:=sp; exact z.elim
  | ret u=>obtain ⟨v,σ',H',J,rv,z⟩:=sp; exact z.elim⟩
end
def xPopD (f g:Ex):Ex:=fun ρ h=>match f ρ h with
 | .ok (.ref n) h1=>(match h1[n]? with
  | some (.dic _)=>(match g ρ h1 with
   | .ok b h2=>(match h2[n]?,keyW b with
    | some (.dic kvs),some k=>(match getK kvs k with
     | some w=>.ok w (h2.set n (.dic (dropD kvs k)))
     | none=>.no)
    | _,_=>.no)
   | .ex w h2=>.ex w h2
   | .no=>.no)
  | _=>.no)
 | .ex w h1=>.ex w h1
 | _=>.no
section
variable {X:Cx} {Z:Zc} {f g:Ex} {o e:Expr} {apos cpos:Pos}
theorem q_popD (ho:QE X Z o f)(he:QE X Z e g)(m:M1 X o "pop" apos e cpos):QE X Z (.Call (.Attribute o "pop" apos) [e] [] cpos) (xPopD f g):=
 ⟨(pe_dpop1 ho.pe he.pe m).imp fun σ H Q ⟨φ,h,ρ,x,q⟩=>⟨φ,h,ρ,x,by
  unfold xPopD at q
  cases e1:f ρ h with
  | no=>rw [e1] at q; exact q.elim
  | ex w h'=>rw [e1] at q; exact q
  | ok a h1=>
   rw [e1] at q
   intro φ1 H1 v s1 r1 ra
   cases a with
   | ref n=>
    dsimp only at q
    cases e2:h1[n]? with
    | none=>rw [e2] at q; exact q.elim
    | some ob=>
     rw [e2] at q
     cases ob with
     | dic kvs0=>
      dsimp only at q
      obtain ⟨p,kv0,rfl,ep,yp,rp0⟩:=ref_dic r1 ra e2
      refine ⟨p,rfl,.inl ⟨kv0,.inl yp⟩,φ1,h1,ρ,x.step s1 r1,?_⟩
      cases e3:g ρ h1 with
      | no=>rw [e3] at q; exact q.elim
      | ex w h'=>rw [e3] at q; exact q
      | ok b h2=>
       rw [e3] at q
       intro φ2 H2 vb s2 r2 rb
       dsimp only at q
       cases e4:h2[n]? with
       | none=>rw [e4] at q; exact q.elim
       | some ob2=>
        rw [e4] at q
        cases ob2 with
        | dic kvs=>
         cases e5:keyW b with
         | none=>rw [e5] at q; exact q.elim
         | some k=>
          rw [e5] at q
          dsimp only at q
          cases e6:getK kvs k with
          | none=>rw [e6] at q; exact q.elim
          | some w=>
           rw [e6] at q
           have ep2:=s2.get ep
           obtain ⟨ho',y,kv,rfl,rp⟩:=r2.obj n _ p e4 ep2
           have hk:=keyW_ok rb e5
           subst hk
           have gg:=rp_getK rp k
           rw [e6] at gg
           cases ev:valV kv k with
           | none=>rw [ev] at gg; exact gg.elim
           | some z=>
            rw [ev] at gg
            have s3:=step_set (H:=H2) (ho:=.dK (dropK kv k)) (List.mem_of_getElem? ep2) (nf_dK y)
            have r3:=r2.set (o:=.dic (dropD kvs k)) (ho:=.dK (dropK kv k)) ep2 ⟨_,rfl,rp_drop rp⟩
            exact ⟨kv,k,z,y,rfl,ev,q φ2 _ z (s1.trans (s2.trans s3)) r3 (RW.step s3 gg)⟩
        | _=>exact q.elim
     | _=>exact q.elim
   | _=>exact q.elim⟩⟩
end
end M
namespace M
open PySem PySem.Spec PyProof.Rows L2
def sortI (ns:List Int):List Int:=ns.mergeSort fun a b=>decide (a≤b)
theorem sortI_pw (ns:List Int):(sortI ns).Pairwise (· ≤ ·):=by
 have h:=List.pairwise_mergeSort (le:=fun a b:Int=>decide (a≤b)) (fun a b c h1 h2=>by simp at *; omega) (fun a b=>by simp; omega) ns
 exact h.imp fun q=>by simpa using q
theorem sortI_perm (ns:List Int):(sortI ns).Perm ns:=List.mergeSort_perm ..
theorem sort_uniq:∀ {a b:List Int},a.Perm b→a.Pairwise (· ≤ ·)→b.Pairwise (· ≤ ·)→a=b
 | [],b,p,_,_=>by have:=p.length_eq; cases b with
  | nil=>rfl
  | cons _ _=>simp at this
 | x::a,[],p,_,_=>by have:=p.length_eq; simp at this
 | x::a,y::b,p,ha,hb=>by
  have hx:x∈y::b:=p.mem_iff.mp List.mem_cons_self
  have hy:y∈x::a:=p.mem_iff.mpr List.mem_cons_self
  have hle1:x≤y:=by
   rcases List.mem_cons.mp hy with e | e
   ·rw [e]; exact Int.le_refl _
   ·exact (List.pairwise_cons.mp ha).1 y e
  have hle2:y≤x:=by
   rcases List.mem_cons.mp hx with e | e
   ·rw [e]; exact Int.le_refl _
   ·exact (List.pairwise_cons.mp hb).1 x e
  have e:x=y:=by omega
  subst e
  rw [sort_uniq (List.Perm.cons_inv p) (List.pairwise_cons.mp ha).2 (List.pairwise_cons.mp hb).2]
theorem sort_is {a ns:List Int}(p:a.Perm ns)(o:a.Pairwise (· ≤ ·)):a=sortI ns:=sort_uniq (p.trans (sortI_perm ns).symm) o (sortI_pw ns)
def keyInts:List (Key×W)→Option (List Int)
 | []=>some []
 | (.inl i,_)::r=>(keyInts r).map (i :: ·)
 | _::_=>none
def intSrc (h:Mem)(w:W):Option (List Int):=match dicts h w with
 | some kvs=>keyInts kvs
 | none=>(items h w).bind intW
def kInts:List (Key×V)→Option (List Int)
 | []=>some []
 | (.inl i,_)::r=>(kInts r).map (i :: ·)
 | _::_=>none
theorem kInts_rp {T:CTb}{φ:List Addr}{H:Hp}:∀ {kvs:List (Key×W)} {kv:List (Key×V)} {ns:List Int},RP T φ H kvs kv→keyInts kvs=some ns→kInts kv=some ns
 | [],kv,ns,r,e=>by cases r; exact e
 | p::kvs,kv,ns,r,e=>by
  cases r with
  | @cons _ z _ l h q=>
   obtain ⟨k,w⟩:=p
   obtain ⟨k',v⟩:=z
   have hk:k=k':=h.1
   subst hk
   cases k with
   | inr x=>cases e
   | inl i=>
    unfold keyInts at e
    rw [Option.map_eq_some_iff] at e
    obtain ⟨ms,e,rfl⟩:=e
    unfold kInts
    rw [kInts_rp q e]; rfl
theorem kInts_eq:∀ {kv:List (Key×V)} {ns:List Int},kInts kv=some ns→kv.map (fun q=>kV q.1)=ns.map V.int
 | [],ns,e=>by cases e; rfl
 | (.inl i,v)::kv,ns,e=>by
  unfold kInts at e
  rw [Option.map_eq_some_iff] at e
  obtain ⟨ms,e,rfl⟩:=e
  rw [List.map_cons,List.map_cons,kInts_eq e]; rfl
 | (.inr x,v)::kv,ns,e=>by cases e
def rSorted:List V→Hp→VK→Prop:=fun vs H Q=>∃ p ns,vs=[.ref p]∧ns.length<64∧((lstAt H p=some (ns.map V.int))∨∃ kv,Rd H p (.dK kv)∧kInts kv=some ns)∧∀ l,H l=none→Q (.ref l) (upd H l (.lst ((sortI ns).map V.int)))
theorem _root_.L2.ObjOk.live {P:Program}{w:World}{H:Hp}{h:Heap}{a:Addr}{o:HO}(x:ObjOk P w H h a o):∃ u,h.get? a=some u:=by
 cases o with
 | lst xs=>obtain ⟨_,_,_,_,e⟩:=x; exact ⟨_,e⟩
 | tup xs=>obtain ⟨_,_,_,ob,e,_⟩:=x; exact ⟨_,e⟩
 | dK kvs=>obtain ⟨_,_,_,_,o,_,_,e,_⟩:=x; exact ⟨_,e⟩
 | dT kvs=>obtain ⟨_,_,_,_,o,_,_,e,_⟩:=x; exact ⟨_,e⟩
 | set S n=>obtain ⟨o,_,_,_,e,_⟩:=x; exact ⟨_,e⟩
 | ins C dx fs=>obtain ⟨_,_,_,e,_⟩:=x; exact ⟨_,e⟩
 | own y=>exact x
 | xd fs=>obtain ⟨_,⟨_,_,_,e,_⟩,_⟩:=x; exact ⟨_,e⟩
 | rng lo hi=>obtain ⟨_,_,_,e⟩:=x; exact ⟨_,e⟩
 | frz ob u=>obtain ⟨e,_⟩:=x; exact ⟨_,e⟩
 | tbl ps=>exact ⟨_,x⟩
 | met f y=>exact ⟨_,x⟩
 | ext φ=>obtain ⟨_,e,_⟩:=x; exact e
theorem laid0 {X:Cx}{pins:List (Addr×Obj)}{σ:L2.St}{H:Hp}{s:Shared}{h':Heap}{a:Addr}{o:HO}{t':Nat}(I:Inv X pins σ H s)(k:∀ b u,s.heap.get? b=some u→h'.get? b=some u)(ha:s.heap.get? a=none)(new:ObjOk X.prog X.w (upd H a o) h' a o) :
  H a=none∧Inv X pins σ (upd H a o) { s with heap:=h',toks:=t' }:=by
 have hn:H a=none:=by
  cases e:H a with
  | none=>rfl
  | some u=>obtain ⟨v,q⟩:=(I.hok a u e).live; rw [ha] at q; cases q
 have nb:∀ b u,s.heap.get? b=some u→b≠a:=fun b u q z=>by subst z; rw [ha] at q; cases q
 refine ⟨hn,I.un ⟨fun b u q _ _ _=>k b u q,fun b u q _ _ _=>⟨u.slots,k b u q⟩,fun b u q n _=>by rw [upd_ne (nb b u q)]; exact n,fun b u q _=>⟨u,k b u q⟩,fun b xs q=>by rw [upd_ne (ne_of_none q hn)]; exact q,fun b u xs q=>by rw [upd_ne (ne_of_none q hn)]; exact q,fun b ps q=>⟨#[],by rw [upd_ne (ne_of_none q hn),q]; simp⟩⟩ fun b u q=>?_⟩
 by_cases z:b=a
 ·subst z; rw [upd_same] at q; cases q; exact new
 ·rw [upd_ne z] at q
  exact (I.hok b u q).stay (fun c v _ r=>k c v r) (fun c r=>by rw [upd_ne (ne_of_none r hn)]; exact r) fun c xs r=>by rw [upd_ne (ne_of_none r hn)]; exact r
section
variable {X:Cx}
theorem call_sortedI (hh:X.calm=true):CallR X (.builtin "sorted") rSorted:=by
 intro pins s σ H xs us Q I r h
 obtain ⟨p,ns,rfl,h64,hsrc,q⟩:=h
 obtain ⟨u,rfl,rx⟩:=vals1 r
 cases rx
 have fin:∀ (h':Heap) (tk:Nat) (l:Addr) (vs':List Value) (c:Nat) (ns':List Int),(∀ b o,s.heap.get? b=some o→h'.get? b=some o)→s.heap.get? l=none→h'.get? l=some { cls:=.type "list",data:=.seq vs'.toArray c }→IntsAre vs' ns'→ns'.Perm ns→ns'.Pairwise (· ≤ ·) →
   EP X pins σ Q (.ref l) { s with heap:=h',toks:=tk }:=fun h' tk l vs' c ns' kp hl e hI hp ho=>by
  obtain rfl:=sort_is hp ho
  have hv:=vals_ints hI
  have hlen:(sortI ns).length=ns.length:=(sortI_perm ns).length_eq
  obtain ⟨hn,I2⟩:=laid0 (t':=tk) I kp hl (show ObjOk X.prog X.w (upd H l (.lst ((sortI ns).map V.int))) h' l (.lst ((sortI ns).map V.int)) from ⟨by rw [List.length_map,hlen,sizeLine_eq]; omega,vs',c,hv,e⟩)
  exact ⟨.ref l,_,I2,rfl,q _ hn⟩
 rcases hsrc with hl | ⟨kv,hd,hk⟩
 ·obtain ⟨its,rv,pl,hz⟩:=I.list (lstAt_sq (K:=X.K) hl)
  have hI:=intsAre_of rv
  have hlen:=IntsAre.length hI
  refine sorted_ints pl.isList hI (by omega) fun out ns' a1 a2 a3=>?_
  obtain ⟨e,he⟩:=sortedAll_at s.heap its out
  exact fin _ s.toks _ out.toList e ns' (fun b o q=>sortedAll_old q) (Heap.get?_none_of_le (Nat.le_succ _)) (by simpa [seqObj] using he) a1 a2 a3
 ·obtain ⟨hz,lo,kvs,rel,dd⟩:=dk_rd I.hok hd
  obtain ⟨ep,hat⟩:=dd.dictAt
  refine Calls.call_function_entry kind_sorted plain_sorted entry_sorted (args_sorted1 _) ?_
  unfold Builtin.«sorted»
  refine wpAny_bind (m:=checkCount "sorted" 1 1 _) (wpAny_pure ?_)
  refine wpAny_bind (PySem.W.kdu_collect (A:=X.A.in1) (PySem.W.kdl_dict (knd:=mixKind X.prog X.w) (kvs:=kvs) (ep:=ep) lo) (I.ok.hd hh) hat (by rw [← rel.length]; exact hz) fun h' tk acc kp hacc=>?_)
  have hv:Vals (kv.map fun q=>kV q.1) acc.toList:=vals_keys rel (by rw [Array.length_toList]; exact hacc.1) fun j v ej=>hacc.2 j v (by rw [← Array.getElem?_toList]; exact ej)
  rw [kInts_eq hk] at hv
  have hI:=intsAre_of hv
  have hlen:=IntsAre.length hI
  refine wpAny_bind (wpAny_newList ?_ (by rw [hlen,sizeLine_eq]; omega))
  have hoL:(h'.push { cls:=.type "list",data:=.seq acc.toList.toArray }).get? h'.objs.size=some (seqObj "list" acc.toList.toArray 0):=Heap.get?_push_size _ rfl
  refine wpAny_bind (wpAny_holding (wpAny_call_entry slot_list_sort ⟨_,hoL,rfl⟩ entry_list_sort (list_sort_tree hoL hI (by omega) fun out ns' a1 a2 a3=>⟨_,rfl,?_⟩) (args_list_sort _)))
  refine wpAny_pure ⟨_,rfl,?_⟩
  obtain ⟨e,he⟩:=sortedHeap_at (out:=out) hoL
  have hsz:s.heap.get? h'.objs.size=none:=by
   cases z:s.heap.get? h'.objs.size with
   | none=>rfl
   | some o=>exact absurd (Heap.lt_size (kp _ _ z)) (Nat.lt_irrefl _)
  exact fin _ tk _ out.toList e ns' (fun b o qq=>by rw [sortedHeap_old (Nat.ne_of_lt (Heap.lt_size (kp b o qq))) (Nat.lt_of_lt_of_le (Heap.lt_size (kp b o qq)) (by simp))]; exact Heap.get?_push_of_some _ (kp b o qq)) hsz (by simpa [seqObj] using he) a1 a2 a3
end
def sortedM (h:Mem):List W→Option W
 | [w]=>(intSrc h w).bind fun ns=>if ns.length<64 then some (.tl ((sortI ns).map W.int)) else none
 | _=>none
theorem rws_ints {T:CTb}{φ:List Addr}{H:Hp}:∀ (ns:List Int),RWs T φ H (ns.map W.int) (ns.map V.int)
 | []=>by unfold RWs; rfl
 | n::ns=>by rw [List.map_cons,List.map_cons]; unfold RWs; exact ⟨_,_,rfl,by unfold RW; rfl,rws_ints ns⟩
theorem src_ok {T:CTb}{φ:List Addr}{h:Mem}{H:Hp}{w:W}{v:V}{ns:List Int}(r:RH T φ h H)(x:RW T φ H w v)(e:intSrc h w=some ns):∃ p,v=.ref p∧((lstAt H p=some (ns.map V.int))∨∃ kv,Rd H p (.dK kv)∧kInts kv=some ns):=by
 unfold intSrc at e
 cases e1:dicts h w with
 | some kvs=>
  rw [e1] at e
  obtain ⟨p,kv,rfl,hp,rp⟩:=dicts_ok r x e1
  exact ⟨p,rfl,.inr ⟨kv,hp,kInts_rp rp e⟩⟩
 | none=>
  rw [e1] at e
  dsimp only at e
  rw [Option.bind_eq_some_iff] at e
  obtain ⟨us,e2,e3⟩:=e
  obtain ⟨p,vs,rfl,q1,q2⟩:=items_ok r x e2
  refine ⟨p,rfl,.inl ?_⟩
  rw [q1,intsOf_eq (intW_ok q2 e3)]
theorem sortedM_ok {T:CTb}:CbW T sortedM rSorted:=by
 intro φ h H ws vs w Q r x e k
 unfold sortedM at e
 split at e
 ·rename_i a
  rw [Option.bind_eq_some_iff] at e
  obtain ⟨ns,e,e2⟩:=e
  split at e2
  ·rename_i h64
   cases e2
   obtain ⟨v,rfl,y0⟩:=rws_one x
   obtain ⟨p,rfl,hs⟩:=src_ok r y0 e
   refine ⟨p,ns,rfl,h64,hs,fun l hl=>?_⟩
   have s:=step_tmp (φ:=φ) (ho:=.lst ((sortI ns).map V.int)) hl
   exact k _ _ s (r.tmp hl) (by unfold RW; exact ⟨l,_,rfl,r.fresh hl,lstAt_of upd_same,rws_ints _⟩)
  ·cases e2
 ·cases e
end M
namespace M
open PySem PySem.Spec PyProof.Rows L2
def xWhile (c:Ex)(B:Sm):Nat→Sm
 | 0,_,_=>.no
 | n+1,ρ,h=>match c ρ h with
  | .ok (.bl true) h1=>(match B ρ h1 with
   | .nx ρ' h'=>xWhile c B n ρ' h'
   | .ct ρ' h'=>xWhile c B n ρ' h'
   | .bk ρ' h'=>.nx ρ' h'
   | o=>o)
  | .ok (.bl false) h1=>.nx ρ h1
  | .ex w h1=>.ex w h1
  | _=>.no
section
variable {X:Cx} {Z:Zc} {B:Sm} {c:Ex} {test:Expr} {sts:List Stmt} {pos:Pos}
theorem while_ok {D:Ends}{σ:L2.St}{H:Hp}(n:Nat)(h:tHS Z (xWhile c B n) D σ H):tWhile (tHT Z c) (tHS Z B) D σ H:=by
 obtain ⟨φ0,h0,ρ0,x0,q0⟩:=h
 refine ⟨fun m σ' H'=>∃ φ h ρ,Here Z σ' H' φ h ρ∧(xWhile c B m ρ h).post Z φ H' D,⟨n,φ0,h0,ρ0,x0,q0⟩,?_⟩
 rintro m σ H ⟨φ,h,ρ,x,q⟩
 refine ⟨φ,h,ρ,x,?_⟩
 cases m with
 | zero=>exact q.elim
 | succ m=>
  unfold xWhile at q
  cases e:c ρ h with
  | no=>rw [e] at q; exact q.elim
  | ex w h1=>rw [e] at q; exact q
  | ok w h1=>
   rw [e] at q
   cases w with
   | bl b=>
    refine ⟨b,rfl,fun φ1 H1 s1 r1=>?_⟩
    cases b with
    | false=>rw [if_neg (by decide)]; exact q φ1 H1 σ s1 r1 (x.rs.step s1) x.sg
    | true=>
     rw [if_pos rfl]
     have y:=x.step s1 r1
     refine ⟨fun σ' H'=>∃ φ h ρ,Here Z σ' H' φ h ρ∧(xWhile c B m ρ h).post Z φ H' D,fun σ' H' p=>⟨m,Nat.lt_succ_self m,p⟩,φ1,h1,ρ,y,?_⟩
     dsimp only at q
     cases e3:B ρ h1 with
     | nx ρ2 h2=>
      rw [e3] at q
      exact fun φ2 H2 σ2 s2 r2 rs2 g2=>⟨φ2,h2,ρ2,⟨g2,y.st.trans s2,r2,rs2⟩,post_step q (s1.trans s2)⟩
     | ct ρ2 h2=>
      rw [e3] at q
      exact fun φ2 H2 σ2 s2 r2 rs2 g2=>⟨φ2,h2,ρ2,⟨g2,y.st.trans s2,r2,rs2⟩,post_step q (s1.trans s2)⟩
     | bk ρ2 h2=>rw [e3] at q; exact post_step (o:=.nx ρ2 h2) q s1
     | rt w2 h2=>rw [e3] at q; exact post_step (o:=.rt w2 h2) q s1
     | ex w2 h2=>rw [e3] at q; exact q
     | no=>rw [e3] at q; exact q.elim
   | _=>exact q.elim
theorem qs_while (n:Nat)(hp:PassesOwn (model X.prog X.w) X.A X.env X.xe)(hc:QT X Z test c)(hb:QB X Z sts B):QS X Z (.While test sts [] pos) (xWhile c B n):=
 ⟨(ps_while hp hc.pt hb.ps).imp fun D σ H q=>while_ok n q⟩
end
def xExt (f g:Ex):Ex:=fun ρ h=>match f ρ h with
 | .ok (.ref n) h1=>(match h1[n]? with
  | some (.lst _)=>(match g ρ h1 with
   | .ok (.ref m) h2=>(match h2[n]?,h2[m]? with
    | some (.lst xs),some (.lst ys)=>if xs.length+ys.length≤sizeLine then .ok .non (h2.set n (.lst (xs++ys))) else .no
    | _,_=>.no)
   | .ex w h2=>.ex w h2
   | _=>.no)
  | _=>.no)
 | .ex w h1=>.ex w h1
 | _=>.no
section
variable {X:Cx} {Z:Zc} {f g:Ex} {o e:Expr} {apos cpos:Pos}
theorem q_extend (ho:QE X Z o f)(he:QE X Z e g)(hbase:attributeBase o "extend" X.env (eval o X.env)=eval o X.env:=by rfl)
  (hfew:((backTo cpos (starEach [e] X.env)).all (fun x=>!x.1) && (backToKw cpos (keywordEach [] X.env)).all (fun x=>x.1.isSome)
   && decide (([e]:List Expr).length+([]:List Keyword).length+(if ([]:List Keyword).isEmpty then 0 else 1)<30))=true:=by rfl)
  (hline:(apos.endLine == cpos.line)=true:=by rfl) (hs:starEach [e] X.env=(false,eval e X.env)::starEach [] X.env:=by rfl) (hplain:(backTo cpos (starEach [] X.env)).any (·.1)=false:=by rfl) :
  QE X Z (.Call (.Attribute o "extend" apos) [e] [] cpos) (xExt f g):=
 ⟨(pe_bm PySem.F.plainAttrs_list PySem.F.slot_list_extend PySem.F.type_list_extend mt_extend ho.pe (pa_cons he.pe pa_nil hs) hbase hfew hline hs hplain).imp fun σ H Q ⟨φ,h,ρ,x,q⟩=>⟨φ,h,ρ,x,by
  unfold xExt at q
  cases e1:f ρ h with
  | no=>rw [e1] at q; exact q.elim
  | ex w h'=>rw [e1] at q; exact q
  | ok a h1=>
   rw [e1] at q
   intro φ1 H1 v s1 r1 ra
   cases a with
   | ref n=>
    dsimp only at q
    cases e2:h1[n]? with
    | none=>rw [e2] at q; exact q.elim
    | some ob=>
     rw [e2] at q
     cases ob with
     | lst us0=>
      dsimp only at q
      obtain ⟨p,vs0,rfl,ep,yp,rx0⟩:=ref_lst r1 ra e2
      refine ⟨.inl ⟨rfl,vs0,lstAt_sq (lstAt_of yp)⟩,φ1,h1,ρ,x.step s1 r1,?_⟩
      cases e3:g ρ h1 with
      | no=>rw [e3] at q; exact q.elim
      | ex w h'=>rw [e3] at q; exact q
      | ok b h2=>
       rw [e3] at q
       cases b with
       | ref m=>
        intro φ2 H2 vb s2 r2 rb
        dsimp only at q
        cases e4:h2[n]? with
        | none=>rw [e4] at q; exact q.elim
        | some ob2=>
         cases e5:h2[m]? with
         | none=>rw [e4,e5] at q; cases ob2 <;> exact q.elim
         | some ob3=>
          rw [e4,e5] at q
          cases ob2 with
          | lst xs=>
           cases ob3 with
           | lst ys=>
            dsimp only at q
            by_cases hz:xs.length+ys.length≤sizeLine
            ·rw [if_pos hz] at q
             have ep2:=s2.get ep
             obtain ⟨hx,yx,vx,rfl,rx⟩:=r2.obj n _ p e4 ep2
             obtain ⟨p2,vy,rfl,ep3,yy,ry⟩:=ref_lst r2 rb e5
             have s3:=step_set (H:=H2) (ho:=.lst (vx++vy)) (List.mem_of_getElem? ep2) (nf_lst yx)
             have r3:=r2.set (o:=.lst (xs++ys)) (ho:=.lst (vx++vy)) ep2 ⟨_,rfl,rws_append rx ry⟩
             exact ⟨p,p2,vx,vy,rfl,rfl,yx,yy,by rw [← rx.length,← ry.length]; exact hz,q φ2 _ .non (s1.trans (s2.trans s3)) r3 (by unfold RW; rfl)⟩
            ·rw [if_neg hz] at q; exact q.elim
           | _=>exact q.elim
          | _=>cases ob3 <;> exact q.elim
       | _=>exact q.elim
     | _=>exact q.elim
   | _=>exact q.elim⟩⟩
end
end M
namespace M
open PySem PySem.Spec PyProof.Rows L2
theorem fn_no {P:Program}{w:World}{K:PySem.W.Frag}{mg:Str→Option Value}{base:Heap}{CX:CXT}{k:Nat}{f:Addr}{fd:FuncData}{ps:List Str}{T:CTb}:FnOk P w K mg base CX k f fd ps (spH T fun _ _=>.no):=
 ⟨fun _ _ _ _ h=>by obtain ⟨_,_,_,_,_,q⟩:=h; exact q.elim,fun _ _ _ _ _ _ _ _ _ _ _ _ _ _ h=>by obtain ⟨_,_,_,_,_,q⟩:=h; exact q.elim⟩
section
variable {X:Cx} {Z:Zc} {f g k:Ex} {fa:Exs} {fi:Ei} {osc:Scope} {N own fr:List Str} {ix:List Nat} {scope:Scope} {tg iter elt:Expr} {ifs es:List Expr} {pos pos':Pos} {e c b:Expr}
theorem q_compS {gg:TG}{G:Tg}{cc el:Ex}(hcalm:X.calm=true)(ho:X.env.scope=osc)(hN:X.N=N)(hk:compOk osc N own fr ix scope=true)(hi:QI X Z tg iter fi)(hG:∀ σ,TgW (Zb Z.T own ix σ) gg G)
  (hg:InC X own fr scope fun Y=>QG Y tg gg) (ht:∀ σ,InC X own fr scope fun Y=>QC Y (Zb Z.T own ix σ) ifs cc) (hel:∀ σ,InC X own fr scope fun Y=>QE Y (Zb Z.T own ix σ) elt el) (hs:∀ x,foldedSetIterable iter X.env x=pure x:=by intro _; rfl) :
  QE X Z (.ListComp elt [⟨tg,iter,ifs,0⟩] scope pos) (xCompS fi own.length ix G cc el):=⟨by
 intro pins s σ H Q I q
 refine pe_comp hcalm ho hN hk hi.pi (fun a b c d e=>(hg a b c d e).pg) (fun a b c d e=>(ht σ a b c d e).pc) (fun a b c d e=>(hel σ a b c d e).pe) hs pins s σ H Q I ?_
 obtain ⟨φ,h,ρ,x,q⟩:=q
 refine ⟨φ,h,ρ,x,?_⟩
 unfold xCompS at q
 cases e:fi ρ h with
 | no=>rw [e] at q; exact q.elim
 | ex w h'=>rw [e] at q; exact q
 | ok src ws h1=>
  rw [e] at q
  simp only at q
  cases e2:xBlkS src ws G cc el (ρC own.length ix ρ) h1.length ws (h1++[.lst []]) with
  | none=>rw [e2] at q; exact q.elim
  | some out=>
   rw [e2] at q
   intro φ1 H1 J s1 r1 sp it acc ha
   exact blkS_ok (hG σ) r1 (x.rs.step s1) it e2 acc ha fun φ' H' s2 r2 hn=>q φ' H' _ (s1.trans s2) r2 (by unfold RW; exact ⟨acc,hn,rfl⟩)⟩
def xRepN (fa:Exs)(g:Ex):Ex:=fun ρ h=>(xLst fa ρ h).bind fun a h1=>(g ρ h1).bind fun b h2=>match repM h2 a b with
 | some (.tl ws)=>.ok (.ref h2.length) (h2++[.lst ws])
 | _=>.no
theorem q_repN (ha:QA X Z es fa)(hb:QE X Z b g):QE X Z (.BinOp (.List es pos') .Mult b pos) (xRepN fa g):=
 ⟨(pe_op op_rep (pe_lst ha.pa) hb.pe).imp fun σ H Q ⟨φ,m,ρ,x,q⟩=>⟨φ,m,ρ,x,by
  unfold xRepN xLst at q
  cases e1:fa ρ m with
  | no=>rw [e1] at q; exact q.elim
  | ex w h1=>rw [e1] at q; exact q
  | ok ws h1=>
   rw [e1] at q
   dsimp only at q
   split at q
   ·rename_i hz
    intro φ1 H1 vs s1 r1 rw1
    refine ⟨by rw [← rw1.length]; exact hz,fun p hp=>?_⟩
    have s2:=step_tmp (φ:=φ1) (ho:=.lst vs) hp
    have r2:=r1.tmp (ho:=.lst vs) hp
    refine ⟨φ1,h1,ρ,(x.step s1 r1).step s2 r2,?_⟩
    have q:((g ρ h1).bind fun b h2=>match repM h2 (.tl ws) b with
     | some (.tl ws)=>.ok (.ref h2.length) (h2++[.lst ws])
     | _=>.no).post (Kv Z.T φ H Q) Z.xw:=q
    rw [bindP] at q
    refine q.mono fun bw h2 q1=>fun φ3 H3 vb s3 r3 rb=>?_
    cases e:repM h2 (.tl ws) bw with
    | none=>rw [e] at q1; exact q1.elim
    | some w0=>
     have e':=e
     unfold repM at e
     split at e
     ·rename_i kk
      dsimp only at e
      cases hc:(decide (-(2 ^ 63)≤kk) && (decide (kk<2 ^ 63) && decide (ws.length * kk.toNat≤sizeLine))) with
      | false=>rw [hc] at e; cases e
      | true=>
       rw [hc] at e
       cases e
       rw [e'] at q1
       dsimp only at q1
       simp only [Bool.and_eq_true,decide_eq_true_eq] at hc
       have np:p ∉ φ1:=r1.fresh hp
       have hp3:H3 p=some (.lst vs):=s3.keep p _ upd_same np
       rw [int_rw rb]
       refine ⟨p,kk,vs,rfl,rfl,hp3,hc.1,hc.2.1,by rw [← rw1.length]; exact hc.2.2,fun p2 hp2=>?_⟩
       have s4:=step_new (φ:=φ3) (ho:=.lst (List.replicate kk.toNat vs).flatten) hp2
       exact q1 (φ3++[p2]) _ (.ref p2) (s1.trans (s2.trans (s3.trans s4))) (r3.new (o:=.lst (List.replicate kk.toNat ws).flatten) hp2 ⟨_,rfl,rws_rep (rw1.step (s2.trans s3)) kk.toNat⟩) (by unfold RW; exact ⟨p2,by rw [← r3.len]; simp,rfl⟩)
     ·cases e
   ·exact q.elim⟩⟩
end
def rCountF:V→List V→Hp→VK→Prop:=fun x vs H Q=>∃ p y xs,x=.ref p∧vs=[y]∧lstAt H p=some xs∧flatV y=true∧xs.all flatV=true∧Q (.int ((xs.countP fun z=>eqV z y:Nat):Int)) H
def rIndexF:V→List V→Hp→VK→Prop:=fun x vs H Q=>∃ p y xs j,x=.ref p∧vs=[y]∧lstAt H p=some xs∧flatV y=true∧xs.all flatV=true∧xs.findIdx? (fun z=>eqV z y)=some j∧Q (.int (j:Nat)) H
theorem eqU_at {x:V}:∀ {xs:List V} {us:List Value} {i:Nat} {z:V},Vals xs us→xs.all flatV=true→xs[i]? = some z→∃ u,us[i]? = some u∧eqU x u=eqV z x
 | _,_,_,_,.nil,_,e=>by simp at e
 | y::xs,u::us,i,z,.cons r t,f,e=>by
  rw [List.all_cons,Bool.and_eq_true] at f
  cases i with
  | zero=>
   simp only [List.getElem?_cons_zero,Option.some.injEq] at e ⊢
   subst e
   exact ⟨u,rfl,eqU_of r f.1⟩
  | succ i=>
   simp only [List.getElem?_cons_succ] at e ⊢
   exact eqU_at t f.2 e
theorem count_eqU {x:V}:∀ {xs:List V} {us:List Value},Vals xs us→xs.all flatV=true→us.countP (eqU x)=xs.countP fun z=>eqV z x
 | _,_,.nil,_=>rfl
 | y::xs,u::us,.cons r t,f=>by
  rw [List.all_cons,Bool.and_eq_true] at f
  rw [List.countP_cons,List.countP_cons,eqU_of r f.1,count_eqU t f.2]
section
variable {X:Cx}
theorem mt_countF:MtM X "list.count" rCountF:=by
 intro pins s σ H x vs v us Q I rx rv h
 obtain ⟨p,y,xs,rfl,rfl,e1,fy,fx,q⟩:=h
 cases rx
 obtain ⟨u,rfl,ru⟩:=rv.one
 obtain ⟨its,r,pl,z⟩:=I.list (lstAt_sq (K:=X.K) e1)
 obtain ⟨⟨cls,dd,data,sl⟩,ho,hc,n,hd⟩:=pl.isList
 simp only at hc hd
 subst hc hd
 refine call_meets PySem.F.slot_list_count ⟨_,ho,rfl⟩ PySem.F.entry_list_count (PySem.F.args_list_count_2 _ _) (PySem.SeqAt.list_countAt p its.toArray n dd sl u (eqU y)) ⟨ho,fun w hw=>mem_eqAt ru fy r fx w (by simpa using hw),?_⟩
 refine ⟨.int _,H,I.tok _,⟨_,rfl⟩,?_⟩
 rw [show its.toArray.toList=its from rfl,count_eqU r fx]
 exact q
theorem mt_indexF:MtM X "list.index" rIndexF:=by
 intro pins s σ H x vs v us Q I rx rv h
 obtain ⟨p,y,xs,j,rfl,rfl,e1,fy,fx,ej,q⟩:=h
 cases rx
 obtain ⟨u,rfl,ru⟩:=rv.one
 obtain ⟨its,r,pl,z⟩:=I.list (lstAt_sq (K:=X.K) e1)
 have hlen:=r.length
 obtain ⟨⟨cls,dd,data,sl⟩,ho,hc,n,hd⟩:=pl.isList
 simp only at hc hd
 subst hc hd
 obtain ⟨hj,h1,h2⟩:=List.findIdx?_eq_some_iff_getElem.mp ej
 rw [sizeLine_eq] at z
 refine call_meets PySem.F.slot_list_index ⟨_,ho,rfl⟩ PySem.F.entry_list_index (PySem.F.args_list_index_2 _ _)
  (PySem.SeqAt.list_indexAt p its.toArray n dd sl u (eqU y) j (by simp; omega) (by omega) ?_ ?_) ⟨ho,fun w hw=>mem_eqAt ru fy r fx w (by simpa using hw),⟨.int _,H,I.tok _,⟨_,rfl⟩,q⟩⟩
 ·obtain ⟨w,e2,e3⟩:=eqU_at (x:=y) (i:=j) (z:=xs[j]) r fx (by simp [hj])
  have hji:j<its.length:=by omega
  have:its[j]=w:=by simpa [hji] using e2
  show eqU y its[j]=true
  rw [this,e3]; exact h1
 ·intro m hm hlt
  have hm':m<its.length:=by simpa using hm
  have hmx:m<xs.length:=by omega
  obtain ⟨w,e2,e3⟩:=eqU_at (x:=y) (i:=m) (z:=xs[m]) r fx (by simp [hmx])
  have:its[m]=w:=by simpa [hm'] using e2
  show eqU y its[m]=false
  rw [this,e3]
  exact Bool.eq_false_iff.mpr (h2 m hlt)
end
def countFM (h:Mem)(a:W)(ws:List W):Option W:=match ws with
 | [y]=>(items h a).bind fun xs=>if (flatW y && xs.all flatW)=true then some (.int ((xs.countP fun z=>eqFl z y:Nat):Int)) else none
 | _=>none
def indexFM (h:Mem)(a:W)(ws:List W):Option W:=match ws with
 | [y]=>(items h a).bind fun xs=>if (flatW y && xs.all flatW)=true then (xs.findIdx? fun z=>eqFl z y).map fun j=>.int (j:Nat) else none
 | _=>none
theorem flats_ok {T:CTb}{φ:List Addr}{H:Hp}{a:W}{u:V}(ra:RW T φ H a u)(fa:flatW a=true):∀ {ws:List W} {vs:List V},RWs T φ H ws vs→ws.all flatW=true→vs.all flatV=true∧(vs.countP fun z=>eqV z u)=(ws.countP fun z=>eqFl z a)∧(vs.findIdx? fun z=>eqV z u)=ws.findIdx? fun z=>eqFl z a
 | [],vs,r,f=>by unfold RWs at r; subst r; exact ⟨rfl,rfl,rfl⟩
 | w::ws,vs,r,f=>by
  unfold RWs at r
  obtain ⟨v,s,rfl,x,y⟩:=r
  rw [List.all_cons,Bool.and_eq_true] at f
  obtain ⟨i1,i2,i3⟩:=flats_ok ra fa y f.2
  have f1:=flat_ok x f.1
  refine ⟨by rw [List.all_cons,f1.1,i1]; rfl,?_,?_⟩
  ·rw [List.countP_cons,List.countP_cons,i2,f1.2 ra fa]
  ·rw [List.findIdx?_cons,List.findIdx?_cons,i3,f1.2 ra fa]
section
variable {X:Cx} {Z:Zc} {f:Ex} {fa:Exs} {o e:Expr} {apos cpos:Pos} {T:CTb}
theorem countFM_ok:BmW T countFM rCountF:=by
 intro φ h H a u ws vs w Q r ra x e k
 unfold countFM at e
 split at e
 ·rename_i b
  rw [Option.bind_eq_some_iff] at e
  obtain ⟨us,e1,e2⟩:=e
  split at e2
  ·rename_i hf
   cases e2
   rw [Bool.and_eq_true] at hf
   obtain ⟨v,rfl,y0⟩:=rws_one x
   obtain ⟨p,xs,rfl,q1,q2⟩:=items_ok r ra e1
   obtain ⟨i1,i2,_⟩:=flats_ok y0 hf.1 q2 hf.2
   exact ⟨p,v,xs,rfl,rfl,q1,(flat_ok y0 hf.1).1,i1,by rw [i2]; exact here_k r rw_int k⟩
  ·cases e2
 ·cases e
theorem indexFM_ok:BmW T indexFM rIndexF:=by
 intro φ h H a u ws vs w Q r ra x e k
 unfold indexFM at e
 split at e
 ·rename_i b
  rw [Option.bind_eq_some_iff] at e
  obtain ⟨us,e1,e2⟩:=e
  split at e2
  ·rename_i hf
   rw [Option.map_eq_some_iff] at e2
   obtain ⟨j,ej,rfl⟩:=e2
   rw [Bool.and_eq_true] at hf
   obtain ⟨v,rfl,y0⟩:=rws_one x
   obtain ⟨p,xs,rfl,q1,q2⟩:=items_ok r ra e1
   obtain ⟨i1,_,i3⟩:=flats_ok y0 hf.1 q2 hf.2
   exact ⟨p,v,xs,j,rfl,rfl,q1,(flat_ok y0 hf.1).1,i1,by rw [i3]; exact ej,here_k r rw_int k⟩
  ·cases e2
 ·cases e
theorem q_countF (ho:QE X Z o f)(ha:QA X Z [e] fa)(hbase:attributeBase o "count" X.env (eval o X.env)=eval o X.env:=by rfl)
  (hfew:((backTo cpos (starEach [e] X.env)).all (fun x=>!x.1) && (backToKw cpos (keywordEach [] X.env)).all (fun x=>x.1.isSome)
   && decide (([e]:List Expr).length+([]:List Keyword).length+(if ([]:List Keyword).isEmpty then 0 else 1)<30))=true:=by rfl)
  (hline:(apos.endLine == cpos.line)=true:=by rfl) (hs:starEach [e] X.env=(false,eval e X.env)::starEach [] X.env:=by rfl) (hplain:(backTo cpos (starEach [] X.env)).any (·.1)=false:=by rfl) :
  QE X Z (.Call (.Attribute o "count" apos) [e] [] cpos) (xBmL countFM f fa):=
 ⟨(pe_bm PySem.F.plainAttrs_list PySem.F.slot_list_count PySem.F.type_list_count mt_countF ho.pe ha.pa hbase hfew hline hs hplain).imp fun σ H Q q=>bmL_ok countFM_ok q⟩
theorem q_indexF (ho:QE X Z o f)(ha:QA X Z [e] fa)(hbase:attributeBase o "index" X.env (eval o X.env)=eval o X.env:=by rfl)
  (hfew:((backTo cpos (starEach [e] X.env)).all (fun x=>!x.1) && (backToKw cpos (keywordEach [] X.env)).all (fun x=>x.1.isSome)
   && decide (([e]:List Expr).length+([]:List Keyword).length+(if ([]:List Keyword).isEmpty then 0 else 1)<30))=true:=by rfl)
  (hline:(apos.endLine == cpos.line)=true:=by rfl) (hs:starEach [e] X.env=(false,eval e X.env)::starEach [] X.env:=by rfl) (hplain:(backTo cpos (starEach [] X.env)).any (·.1)=false:=by rfl) :
  QE X Z (.Call (.Attribute o "index" apos) [e] [] cpos) (xBmL indexFM f fa):=
 ⟨(pe_bm PySem.F.plainAttrs_list PySem.F.slot_list_index PySem.F.type_list_index mt_indexF ho.pe ha.pa hbase hfew hline hs hplain).imp fun σ H Q q=>bmL_ok indexFM_ok q⟩
end
end M
namespace PySem
open PySem.W
end PySem
namespace M
open PySem PySem.Spec PyProof.Rows L2
end M
namespace M
open PySem PySem.Spec PyProof.Rows L2
theorem getK_cons {α:Type}(p:Key×α)(kvs:List (Key×α))(k:Key):getK (p::kvs) k=if p.1=k then some p.2 else getK kvs k:=by
 unfold getK
 rw [List.find?_cons]
 by_cases h:p.1=k <;> simp [h]
theorem getK_isSome {α:Type}{kvs:List (Key×α)}{k:Key}:(getK kvs k).isSome=true↔k∈kvs.map (·.1):=by
 induction kvs with
 | nil=>simp [getK]
 | cons p r ih=>
  rw [getK_cons]
  by_cases h:p.1=k
  ·simp [h]
  ·rw [if_neg h,ih]
   simp only [List.map_cons,List.mem_cons]
   exact ⟨.inr,fun q=>q.resolve_left (fun e=>h e.symm)⟩
theorem getK_nil' {α:Type}{kvs:List (Key×α)}{k:Key}(h:¬k∈kvs.map (·.1)):getK kvs k=none:=by
 cases e:getK kvs k with
 | none=>rfl
 | some v=>exact absurd (getK_isSome.mp (by rw [e]; rfl)) h
theorem mem_getK {α:Type}{kvs:List (Key×α)}(nd:(kvs.map (·.1)).Nodup){k:Key}{v:α}:(k,v)∈kvs↔getK kvs k=some v:=by
 induction kvs with
 | nil=>simp [getK]
 | cons p r ih=>
  rw [List.map_cons,List.nodup_cons] at nd
  rw [getK_cons,List.mem_cons]
  by_cases h:p.1=k
  ·rw [if_pos h]
   constructor
   ·rintro (e | e)
    ·rw [← e]
    ·exact absurd (List.mem_map.mpr ⟨_,e,h.symm⟩) nd.1
   ·intro e
    refine .inl ?_
    rw [← h,← Option.some.inj e]
  ·rw [if_neg h,← ih nd.2]
   constructor
   ·rintro (e | e)
    ·exact absurd (by rw [← e]) h
    ·exact e
   ·exact .inr
theorem getK_app {α:Type}{a b:List (Key×α)}{k:Key}:getK (a++b) k=(getK a k).or (getK b k):=by
 induction a with
 | nil=>simp [getK]
 | cons p r ih=>
  rw [List.cons_append,getK_cons,getK_cons,ih]
  by_cases h:p.1=k <;> simp [h]
theorem getK_fil {α:Type}{kvs:List (Key×α)}{f:Key→Bool}{k:Key}:getK (kvs.filter fun kv=>f kv.1) k=if f k=true then getK kvs k else none:=by
 induction kvs with
 | nil=>simp [getK]
 | cons p r ih=>
  rw [List.filter_cons]
  by_cases h:p.1=k
  ·subst h
   by_cases hf:f p.1=true
   ·rw [if_pos hf,getK_cons,getK_cons,if_pos rfl,if_pos rfl,if_pos hf]
   ·rw [if_neg hf,ih,if_neg hf,if_neg hf]
  ·by_cases hf:f p.1=true
   ·rw [if_pos hf,getK_cons,getK_cons,if_neg h,if_neg h,ih]
   ·rw [if_neg hf,ih,getK_cons,if_neg h]
def ow:Option Int→W
 | none=>.non
 | some n=>.int n
def slotV (row:List (Option Int))(i:Int):Option Int:=if 0≤i then row.getD i.toNat none else none
structure Rw (kvs:List (Key×W))(row:List (Option Int)):Prop where
 len:row.length=16
 nd:(kvs.map (·.1)).Nodup
 get:∀ i,getK kvs (.inl i)=(slotV row i).map W.int
 no:∀ z,getK kvs (.inr z)=none
theorem slotV_lt {row:List (Option Int)}(hl:row.length=16){i:Int}{v:Int}(h:slotV row i=some v):0≤i∧i<16:=by
 unfold slotV at h
 by_cases h0:0≤i
 ·rw [if_pos h0,List.getD_eq_getElem?_getD] at h
  refine ⟨h0,?_⟩
  by_cases h1:i.toNat<row.length
  ·omega
  ·rw [List.getElem?_eq_none (by omega)] at h; cases h
 ·rw [if_neg h0] at h; cases h
theorem slotV_nat (row:List (Option Int))(k:Nat):slotV row (k:Nat)=row.getD k none:=by unfold slotV; rw [if_pos (by omega),Int.toNat_natCast]
theorem Rw.key {kvs:List (Key×W)}{row:List (Option Int)}(r:Rw kvs row){p:Key×W}(h:p∈kvs):∃ (k:Nat) (v:Int),k<16∧p=(.inl (k:Int),.int v)∧row.getD k none=some v:=by
 obtain ⟨k,w⟩:=p
 have g:=(mem_getK r.nd).mp h
 cases k with
 | inr z=>rw [r.no] at g; cases g
 | inl i=>
  rw [r.get,Option.map_eq_some_iff] at g
  obtain ⟨v,e1,e2⟩:=g
  obtain ⟨h0,h1⟩:=slotV_lt r.len e1
  refine ⟨i.toNat,v,by omega,by rw [← e2,Int.toNat_of_nonneg h0],?_⟩
  unfold slotV at e1
  rwa [if_pos h0] at e1
theorem row_range {row:List (Option Int)}(hl:row.length=16):row=(List.range 16).map fun k=>row.getD k none:=by
 apply List.ext_getElem?
 intro i
 rw [List.getElem?_map]
 by_cases h:i<16
 ·rw [List.getElem?_range h,List.getElem?_eq_getElem (by omega)]
  simp [h,hl]
 ·rw [List.getElem?_eq_none (by omega),List.getElem?_eq_none (by simpa using h)]; rfl
def fullN (p:Option Int→Bool)(row:List (Option Int)):List Nat:=(List.range 16).filter fun k=>p (row.getD k none)
theorem fullN_len {row:List (Option Int)}(hl:row.length=16)(p:Option Int→Bool):(fullN p row).length=(row.filter p).length:=by
 unfold fullN
 conv=>rhs; rw [row_range hl]
 rw [List.filter_map,List.length_map]; rfl
def valO:W→Option Int
 | .int n=>some n
 | _=>none
theorem Rw.perm {kvs:List (Key×W)}{row:List (Option Int)}(r:Rw kvs row)(p:Option Int→Bool)(hp:p none=false) :
  ((kvs.filter fun kv=>p (valO kv.2)).map (·.1)).Perm ((fullN p row).map fun (k:Nat)=>Sum.inl (k:Int)):=by
 refine (List.perm_ext_iff_of_nodup ?_ ?_).mpr fun k=>?_
 ·exact r.nd.sublist (List.Sublist.map _ (List.filter_sublist))
 ·unfold List.Nodup
  rw [List.pairwise_map]
  exact ((List.nodup_range).sublist List.filter_sublist).imp fun h e=>h (Int.ofNat.inj (Sum.inl.inj e))
 ·simp only [List.mem_map,List.mem_filter,fullN,List.mem_range]
  constructor
  ·rintro ⟨q,⟨hq,hv⟩,rfl⟩
   obtain ⟨k,v,h16,rfl,e⟩:=r.key hq
   exact ⟨k,⟨h16,by rw [e]; exact hv⟩,rfl⟩
  ·rintro ⟨k,⟨h16,hv⟩,rfl⟩
   cases e:row.getD k none with
   | none=>rw [e,hp] at hv; cases hv
   | some v=>
    refine ⟨(.inl (k:Int),.int v),⟨?_,by rw [e] at hv; exact hv⟩,rfl⟩
    rw [mem_getK r.nd,r.get,slotV_nat,e]; rfl
theorem Rw.cnt {kvs:List (Key×W)}{row:List (Option Int)}(r:Rw kvs row)(p:Option Int→Bool)(hp:p none=false):(kvs.filter fun kv=>p (valO kv.2)).length=(row.filter p).length:=by
 have:=(r.perm p hp).length_eq
 rw [List.length_map,List.length_map,fullN_len r.len] at this
 exact this
theorem Rw.size {kvs:List (Key×W)}{row:List (Option Int)}(r:Rw kvs row):kvs.length=(row.filter Option.isSome).length:=by
 rw [← r.cnt Option.isSome rfl,List.filter_eq_self.mpr]
 intro q hq
 obtain ⟨k,v,_,rfl,_⟩:=r.key hq
 rfl
theorem Rw.small {kvs:List (Key×W)}{row:List (Option Int)}(r:Rw kvs row):kvs.length≤16:=by
 rw [r.size]
 have:=List.length_filter_le Option.isSome row
 have:=r.len
 omega
def slotI (row:List (Option Int)):List Int:=(fullN Option.isSome row).map fun (k:Nat)=>(k:Int)
theorem keyInts_of {kvs:List (Key×W)}:(∀ p∈kvs,∃ i w,p=(Sum.inl i,w))→∃ ns:List Int,keyInts kvs=some ns∧kvs.map (·.1)=ns.map Sum.inl:=by
 induction kvs with
 | nil=>intro _; exact ⟨[],rfl,rfl⟩
 | cons p r ih=>
  intro h
  obtain ⟨i,w,rfl⟩:=h _ List.mem_cons_self
  obtain ⟨ns,e1,e2⟩:=ih fun q hq=>h q (List.mem_cons_of_mem _ hq)
  refine ⟨i::ns,?_,by rw [List.map_cons,List.map_cons,e2]⟩
  unfold keyInts
  rw [e1]; rfl
theorem perm_of_map {α β:Type}{f:α→β}(hf:∀ a b,f a=f b→a=b):∀ {l l':List α},(l.map f).Perm (l'.map f)→l.Perm l'
 | l,l',h=>by
  by_cases hn:Nonempty α
  ·have ⟨g,hg⟩:∃ g:β→α,∀ a,g (f a)=a:=by
    classical
    refine ⟨fun b=>if h:∃ a,f a=b then h.choose else Classical.choice hn,fun a=>?_⟩
    have hx:∃ a',f a'=f a:=⟨a,rfl⟩
    show (if h:∃ a',f a'=f a then h.choose else _)=a
    rw [dif_pos hx]
    exact hf _ _ hx.choose_spec
   have:=h.map g
   simp only [List.map_map,Function.comp_def,hg,List.map_id'] at this
   exact this
  ·have e:∀ l:List α,l=[]:=fun l=>by
    cases l with
    | nil=>rfl
    | cons a _=>exact absurd ⟨a⟩ hn
   rw [e l,e l']
theorem fullN_pw (p:Option Int→Bool)(row:List (Option Int)):((fullN p row).map fun (k:Nat)=>(k:Int)).Pairwise (· ≤ ·):=by
 unfold fullN
 rw [List.pairwise_map]
 refine List.Pairwise.sublist List.filter_sublist ?_
 exact (List.pairwise_lt_range).imp fun h=>by omega
theorem Rw.sorted {kvs:List (Key×W)}{row:List (Option Int)}(r:Rw kvs row):∃ ns,keyInts kvs=some ns∧sortI ns=slotI row∧ns.length≤16:=by
 obtain ⟨ns,e1,e2⟩:=keyInts_of (kvs:=kvs) fun q hq=>by obtain ⟨k,v,_,rfl,_⟩:=r.key hq; exact ⟨_,_,rfl⟩
 refine ⟨ns,e1,?_,?_⟩
 ·have h1:=r.perm Option.isSome rfl
  rw [List.filter_eq_self.mpr (by intro q hq; obtain ⟨k,v,_,rfl,_⟩:=r.key hq; rfl),e2] at h1
  have h2:(ns.map (Sum.inl:Int→Key)).Perm ((slotI row).map Sum.inl):=by
   unfold slotI
   rw [List.map_map]; exact h1
  have h3:=perm_of_map (fun a b e=>Sum.inl.inj e) h2
  exact (sort_is h3.symm (fullN_pw _ _)).symm
 ·have:=congrArg List.length e2
  simp only [List.length_map] at this
  have:=r.small
  omega
theorem Rw.put {kvs:List (Key×W)}{row:List (Option Int)}(r:Rw kvs row){k:Nat}(hk:k<16)(v:Int)(h:row.getD k none=none):putD kvs (.inl (k:Int)) (.int v)=kvs++[(.inl (k:Int),.int v)]∧Rw (kvs++[(.inl (k:Int),.int v)]) (row.set k (some v)):=by
 have g:getK kvs (.inl (k:Int))=none:=by rw [r.get,slotV_nat,h]; rfl
 have nm:¬Sum.inl (k:Int)∈kvs.map (·.1):=fun q=>by rw [← getK_isSome,g] at q; cases q
 refine ⟨?_,by rw [List.length_set]; exact r.len,?_,fun i=>?_,fun z=>?_⟩
 ·unfold putD
  rw [if_neg]
  intro q
  rw [List.any_eq_true] at q
  obtain ⟨p,hp,q⟩:=q
  exact nm (List.mem_map.mpr ⟨p,hp,of_decide_eq_true q⟩)
 ·rw [List.map_append,List.nodup_append]
  refine ⟨r.nd,by simp,fun a ha b hb e=>?_⟩
  have hb:b=Sum.inl (k:Int):=by simpa using hb
  rw [e,hb] at ha; exact nm ha
 ·rw [getK_app,r.get]
  by_cases e:i=(k:Int)
  ·subst e
   rw [slotV_nat,slotV_nat,h,List.getD_eq_getElem?_getD,List.getElem?_set_self (by rw [r.len]; exact hk)]
   simp [getK]
  ·have e1:getK [((Sum.inl (k:Int):Key),W.int v)] (.inl i)=none:=by
    rw [getK_cons,if_neg (fun q=>e (Sum.inl.inj q).symm)]; rfl
   rw [e1,Option.or_none]
   congr 1
   unfold slotV
   by_cases h0:0≤i
   ·rw [if_pos h0,if_pos h0,List.getD_eq_getElem?_getD,List.getD_eq_getElem?_getD,List.getElem?_set_ne (by omega)]
   ·rw [if_neg h0,if_neg h0]
 ·rw [getK_app,r.no,getK_cons,if_neg (fun q=>by cases q)]; rfl
def wipe (n:Int):Option Int→Option Int:=fun x=>if x=some n then none else x
def holdK (kvs:List (Key×W))(n:Int):List Key:=(kvs.filter fun kv=>decide (valO kv.2=some n)).map (·.1)
def memK (l:List Key)(k:Key):Bool:=l.any fun j=>decide (j=k)
theorem memK_iff {l:List Key}{k:Key}:memK l k=true↔k∈l:=by
 unfold memK
 rw [List.any_eq_true]
 exact ⟨fun ⟨j,hj,e⟩=>of_decide_eq_true e ▸ hj,fun h=>⟨k,h,decide_eq_true rfl⟩⟩
theorem Rw.out {kvs:List (Key×W)}{row:List (Option Int)}(r:Rw kvs row)(n:Int):Rw (kvs.filter fun kv=>!memK (holdK kvs n) kv.1) (row.map (wipe n)):=by
 have hS:∀ k,k∈holdK kvs n↔getK kvs k=some (.int n):=fun k=>by
  unfold holdK
  simp only [List.mem_map,List.mem_filter,decide_eq_true_eq]
  constructor
  ·rintro ⟨⟨k',w⟩,⟨hq,hv⟩,rfl⟩
   obtain ⟨j,v,_,e,_⟩:=r.key hq
   cases e
   cases hv
   exact (mem_getK r.nd).mp hq
  ·intro g
   exact ⟨(k,.int n),⟨(mem_getK r.nd).mpr g,rfl⟩,rfl⟩
 refine ⟨by rw [List.length_map]; exact r.len,r.nd.sublist (List.Sublist.map _ List.filter_sublist),fun i=>?_,fun z=>?_⟩
 ·rw [getK_fil (f:=fun k=>!memK (holdK kvs n) k)]
  have hw:slotV (row.map (wipe n)) i=wipe n (slotV row i):=by
   unfold slotV
   by_cases h0:0≤i
   ·rw [if_pos h0,if_pos h0,List.getD_eq_getElem?_getD,List.getD_eq_getElem?_getD,List.getElem?_map]
    cases row[i.toNat]? with
    | none=>rfl
    | some x=>rfl
   ·rw [if_neg h0,if_neg h0]; rfl
  rw [hw]
  have hS':=hS (.inl i)
  rw [r.get,← memK_iff] at hS'
  rw [r.get]
  cases e:slotV row i with
  | none=>
   rw [e] at hS'
   cases q:memK (holdK kvs n) (.inl i) with
   | true=>exact absurd (hS'.mp q) (by simp)
   | false=>simp [wipe]
  | some v=>
   rw [e] at hS'
   by_cases hv:v=n
   ·subst hv
    rw [hS'.mpr rfl]; simp [wipe]
   ·cases q:memK (holdK kvs n) (.inl i) with
    | true=>exact absurd (hS'.mp q) (by simp [hv])
    | false=>simp [wipe,hv]
 ·rw [getK_fil (f:=fun k=>!memK (holdK kvs n) k),r.no]; simp
theorem first_empty {row:List (Option Int)}(hl:row.length=16):(fullN Option.isNone row).head? = row.findIdx? Option.isNone:=by
 unfold fullN
 rw [List.head?_filter]
 cases e:row.findIdx? Option.isNone with
 | none=>
  rw [List.findIdx?_eq_none_iff] at e
  rw [List.find?_eq_none]
  intro k hk
  have h16:=List.mem_range.mp hk
  have hk':k<row.length:=by omega
  have:=e row[k] (List.getElem_mem hk')
  rw [List.getD_eq_getElem?_getD,List.getElem?_eq_getElem hk']
  cases q:row[k] with
  | none=>rw [q] at this; cases this
  | some v=>simp
 | some i=>
  obtain ⟨hi,h1,h2⟩:=List.findIdx?_eq_some_iff_getElem.mp e
  rw [List.find?_range_eq_some]
  have hg:∀ j (hj:j<row.length),row.getD j none=row[j]:=fun j hj=>by rw [List.getD_eq_getElem?_getD,List.getElem?_eq_getElem hj]; rfl
  refine ⟨by rw [hg i hi]; exact h1,List.mem_range.mpr (by omega),fun j hj=>?_⟩
  rw [hg j (by omega)]
  have:=h2 j hj
  cases q:row[j] with
  | none=>rw [q] at this; simp at this
  | some v=>simp
def prs (row:List (Option Int)):List W:=(fullN Option.isSome row).map fun (k:Nat)=>W.tup [.int (k:Int),ow (row.getD k none)]
end M
namespace M
open PySem PySem.Spec PyProof.Rows L2
section
variable {X:Cx} {Z:Zc} {f:Ex} {tg e:Expr} {pos:Pos}
theorem qs_asg {gg:TG}{Gt:Tg}(hw:TgW Z gg Gt)(he:QE X Z e f)(hg:QG X tg gg)(hs:swapsWithSole [tg] e pos.line X.env=pure false:=by rfl)(hw':swappedStores [tg] e X.env=pure none:=by rfl)
  (h1:(assignEach [tg] X.env).map (·.2)=[assign tg X.env]:=by rfl):QS X Z (.Assign [tg] e pos) (xAsg Gt f):=⟨(ps_asg he.pe hg.pg hs hw' h1).imp fun D σ H q=>asg_ok hw q⟩
end
end M
namespace L2
open PySem PySem.Spec PyProof.Rows
end L2
namespace M
open PySem PySem.Spec PyProof.Rows L2
theorem fnAt_no {P:Program}{w:World}{K:PySem.W.Frag}{mg:Str→Option Value}{base:Heap}{CX:CXT}{T:CTb}{x:Str}{st:Stmt}{ps:List Str}{k:Nat}(R:DefAt K mg x st)(hb:BindsAll x x st ps):FnAt P w K mg base CX k x (spH T fun _ _=>.no):=by
 obtain ⟨f,fd,F,e1⟩:=R
 exact ⟨f,fd,ps,fn_no,e1,F.kp,F.binds hb⟩
section
variable {X:Cx} {Z:Zc}
theorem rws_three {T:CTb}{φ:List Addr}{H:Hp}{a b c:W}{vs:List V}(x:RWs T φ H [a,b,c] vs):∃ u v w,vs=[u,v,w]∧RW T φ H a u∧RW T φ H b v∧RW T φ H c w:=by
 unfold RWs at x
 obtain ⟨u,r,rfl,x1,x2⟩:=x
 obtain ⟨v,w,rfl,r1,r2⟩:=rws_two x2
 exact ⟨u,v,w,rfl,x1,r1,r2⟩
def gT3 (i j l:Nat):Tg:=fun w ρ=>match w with
 | .tup [a,b,c]=>some (((ρ.set i (some a)).set j (some b)).set l (some c))
 | _=>none
theorem tg_tup3 {i j l:Nat}(h1:∀ σ v,Z.sg σ→Z.sg (σ.set i (some v)))(h2:∀ σ v,Z.sg σ→Z.sg (σ.set j (some v)))(h3:∀ σ v,Z.sg σ→Z.sg (σ.set l (some v))):TgW Z (gTupV 3 (gCons (gName i) (gCons (gName j) (gCons (gName l) gNil)))) (gT3 i j l):=by
 intro σ H φ h ρ w v ρ' Q x r e k
 unfold gT3 at e
 split at e
 ·rename_i a b c
  cases e
  unfold RW at r
  obtain ⟨p,vs,rfl,_,hp,rs⟩:=r
  obtain ⟨u1,u2,u3,rfl,r1,r2,r3⟩:=rws_three rs
  show need (tupAt H p) _
  rw [tupAt_of hp]
  exact ⟨rfl,u1,[u2,u3],rfl,u2,[u3],rfl,u3,[],rfl,rfl,k _ (((x.rs.set r1).set r2).set r3) (h3 _ _ (h2 _ _ (h1 _ _ x.sg)))⟩
 ·cases e
end
end M
namespace K43
open PySem L2 M

local macro_rules | `(tactic| simp! [$ts,*])=>`(tactic| simp [$ts,*,runB,startW,Out.res,xSeq,xIfS,xRet,xDrop,xAsg,gN,xNext,xVar,xC,xNil,xCons,xBin,xUn,xCb,xAnd,xOr,xNot,xIf,xChain,xTup,xLst,xCall0,xNo,Res.bind,Res.of,iop,iopC,subM,divM,modM,mulM,gtM,geM,leM,addM,items,ixM,seqs,eqO,neO,eqM,flatW,eqFl,tyN,Kit.get,sizeLine_eq,xFor,xLoop,xIl,xIt,xSl,xPn,xPs,slM,lenM,truM,intW,sumM,intM,isNonW,isNM,notNM,strW,joinM,xBmS,xIs,allBM,bolW,inM,keyW,dicts,ρC,xCallX,xMethX,xRaise,xTry,endX,fgt,xBmL,countM,isiX,tyX,kitA,clTy,xLstN,xLm,appM,xIr1])
local macro_rules | `(tactic| simp_arith [$ts,*])=>`(tactic| simp [$ts,*,runB,startW,Out.res,xSeq,xIfS,xRet,xDrop,xAsg,gN,xNext,xVar,xC,xNil,xCons,xBin,xUn,xCb,xAnd,xOr,xNot,xIf,xChain,xTup,xLst,xCall0,xNo,Res.bind,Res.of,iop,iopC,subM,divM,modM,mulM,gtM,geM,leM,addM,items,ixM,seqs,eqO,neO,eqM,flatW,eqFl,tyN,sizeLine_eq,xFor,xLoop,xIl,xIt,xSl,xPn,xPs,slM,lenM,truM,intW,sumM,intM,isNonW,isNM,notNM,strW,joinM,xBmS,xIs,allBM,bolW,inM,keyW,dicts,ρC,xCallX,xMethX,xRaise,xTry,endX,fgt,xBmL,countM,isiX,tyX,kitA,clTy,xLstN,xLm,appM,xIr1])
local macro_rules | `(tactic| simp_all! [$ts,*])=>`(tactic| simp [$ts,*,runB,startW,Out.res,xSeq,xIfS,xRet,xDrop,xAsg,gN,xNext,xVar,xC,xNil,xCons,xBin,xUn,xCb,xAnd,xOr,xNot,xIf,xChain,xTup,xLst,xCall0,xNo,Res.bind,Res.of,iop,iopC,subM,divM,modM,mulM,gtM,geM,leM,addM,items,ixM,seqs,eqO,neO,flatW,eqFl,tyN,Kit.get,sizeLine_eq,xFor,xLoop,xIl,xIt,xSl,xPn,xPs,slM,lenM,truM,intW,sumM,intM,isNonW,isNM,notNM,strW,joinM,xBmS,xIs,allBM,bolW,inM,keyW,dicts,ρC,xCallX,xMethX,xRaise,xTry,endX,fgt,xBmL,countM,isiX,tyX,kitA,clTy,xLstN,xLm,appM,xIr1])
local macro_rules | `(tactic| simp_arith! [$ts,*])=>`(tactic| simp [$ts,*,runB,startW,Out.res,xSeq,xIfS,xRet,xDrop,xAsg,gN,xNext,xVar,xC,xNil,xCons,xBin,xUn,xCb,xAnd,xOr,xNot,xIf,xChain,xTup,xLst,xCall0,xNo,Res.bind,Res.of,iop,iopC,subM,divM,modM,mulM,gtM,geM,leM,addM,items,ixM,seqs,eqO,neO,eqM,flatW,eqFl,tyN,Kit.get,sizeLine_eq,xFor,xLoop,xIl,xIt,xSl,xPn,xPs,slM,lenM,truM,sumM,intM,isNonW,isNM,notNM,strW,joinM,xBmS,xIs,allBM,bolW,inM,keyW,dicts,ρC,xCallX,xMethX,xRaise,xTry,endX,fgt,xBmL,countM,isiX,tyX,kitA,clTy,xLstN,xLm,appM,xIr1])
local macro_rules | `(tactic| simp_all_arith [$ts,*])=>`(tactic| simp [$ts,*,runB,startW,Out.res,xSeq,xIfS,xRet,xDrop,xAsg,gN,xNext,xVar,xC,xNil,xCons,xBin,xUn,xCb,xAnd,xOr,xNot,xIf,xChain,xTup,xLst,xCall0,xNo,Res.bind,Res.of,iop,iopC,subM,divM,modM,mulM,gtM,geM,leM,addM,items,ixM,seqs,eqO,neO,eqM,flatW,eqFl,tyN,Kit.get,sizeLine_eq,xFor,xLoop,xIl,xIt,xSl,xPn,xPs,slM,lenM,truM,intW,sumM,intM,isNonW,isNM,notNM,strW,joinM,xBmS,xIs,allBM,bolW,keyW,dicts,ρC,xCallX,xMethX,xRaise,xTry,endX,fgt,xBmL,countM,isiX,tyX,kitA,clTy,xLstN,xLm,appM,xIr1])
local macro_rules | `(tactic| simp_all_arith! [$ts,*])=>`(tactic| simp [$ts,*,runB,startW,Out.res,xSeq,xIfS,xRet,xDrop,xAsg,gN,xNext,xVar,xC,xNil,xCons,xBin,xUn,xCb,xAnd,xOr,xNot,xIf,xChain,xTup,xLst,xCall0,xNo,Res.bind,Res.of,iop,iopC,subM,divM,modM,mulM,gtM,geM,leM,items,ixM,seqs,eqO,neO,eqM,flatW,eqFl,tyN,Kit.get,sizeLine_eq,xFor,xLoop,xIl,xIt,xSl,xPn,xPs,slM,lenM,truM,intW,sumM,intM,isNonW,isNM,notNM,strW,joinM,xBmS,xIs,allBM,bolW,inM,keyW,dicts,ρC,xCallX,xMethX,xRaise,xTry,endX,fgt,xBmL,countM,isiX,tyX,kitA,clTy,xLstN,xLm,appM,xIr1])
def top (i:Nat):Stmt:=PySem.Challenge.pw_passkeep_k43_whole_two_keepers.main.body.getD i (.Pass ⟨0,0,0,0⟩)
abbrev s_is_number:Stmt:=top 21
theorem sc_is_number:FnScope ["thing"] ["thing"] (defScope s_is_number):=⟨rfl,rfl,rfl,by decide +kernel,rfl,by decide +kernel,by decide +kernel⟩
theorem bd_is_number:BindsAll "is_number" "is_number" s_is_number ["thing"]:=fun _ _ _ _ _ _ us hl=>match us,hl with | [_],_=>rfl
abbrev s_is_name:Stmt:=top 22
theorem sc_is_name:FnScope ["thing"] ["thing"] (defScope s_is_name):=⟨rfl,rfl,rfl,by decide +kernel,rfl,by decide +kernel,by decide +kernel⟩
theorem bd_is_name:BindsAll "is_name" "is_name" s_is_name ["thing"]:=fun _ _ _ _ _ _ us hl=>match us,hl with | [_],_=>rfl
abbrev s_l_mix:Stmt:=top 28
theorem sc_l_mix:FnScope ["_law_script","_law_k","_law_cell","_law_number"] ["_law_script","_law_k"] (defScope s_l_mix):=⟨rfl,rfl,rfl,by decide +kernel,rfl,by decide +kernel,by decide +kernel⟩
theorem bd_l_mix:BindsAll "_law_mix" "_law_mix" s_l_mix ["_law_script","_law_k"]:=fun _ _ _ _ _ _ us hl=>match us,hl with | [_,_],_=>rfl
abbrev s_l_name:Stmt:=top 29
theorem sc_l_name:FnScope ["_law_script","_law_k","_law_sign","_law_base","_law_size","_law_at"] ["_law_script","_law_k"] (defScope s_l_name):=⟨rfl,rfl,rfl,by decide +kernel,rfl,by decide +kernel,by decide +kernel⟩
theorem bd_l_name:BindsAll "_law_name" "_law_name" s_l_name ["_law_script","_law_k"]:=fun _ _ _ _ _ _ us hl=>match us,hl with | [_,_],_=>rfl
abbrev s_l_word:Stmt:=top 30
theorem sc_l_word:FnScope ["_law_e","_law_some"] ["_law_e"] (defScope s_l_word):=⟨rfl,rfl,rfl,by decide +kernel,rfl,by decide +kernel,by decide +kernel⟩
theorem bd_l_word:BindsAll "_law_word" "_law_word" s_l_word ["_law_e"]:=fun _ _ _ _ _ _ us hl=>match us,hl with | [_],_=>rfl
abbrev s_l_below:Stmt:=top 31
theorem sc_l_below:FnScope ["_law_makers","_law_runs","_law_name_here","_law_found","_law_other"] ["_law_makers","_law_runs","_law_name_here"] (defScope s_l_below):=⟨rfl,rfl,rfl,by decide +kernel,rfl,by decide +kernel,by decide +kernel⟩
theorem bd_l_below:BindsAll "_law_below" "_law_below" s_l_below ["_law_makers","_law_runs","_law_name_here"]:=fun _ _ _ _ _ _ us hl=>match us,hl with | [_,_,_],_=>rfl
abbrev s_l_done:Stmt:=top 32
theorem sc_l_done:FnScope ["_law_tasks","_law_way","_law_name_here","_law_number","_law_e"] ["_law_tasks","_law_way","_law_name_here","_law_number"] (defScope s_l_done):=⟨rfl,rfl,rfl,by decide +kernel,rfl,by decide +kernel,by decide +kernel⟩
theorem bd_l_done:BindsAll "_law_done" "_law_done" s_l_done ["_law_tasks","_law_way","_law_name_here","_law_number"]:=fun _ _ _ _ _ _ us hl=>match us,hl with | [_,_,_,_],_=>rfl
abbrev s_l_added:Stmt:=top 33
theorem sc_l_added:FnScope ["_law_own","_law_name_here","_law_maker"] ["_law_own","_law_name_here","_law_maker"] (defScope s_l_added):=⟨rfl,rfl,rfl,by decide +kernel,rfl,by decide +kernel,by decide +kernel⟩
theorem bd_l_added:BindsAll "_law_added" "_law_added" s_l_added ["_law_own","_law_name_here","_law_maker"]:=fun _ _ _ _ _ _ us hl=>match us,hl with | [_,_,_],_=>rfl
abbrev s_l_out:Stmt:=top 34
theorem sc_l_out:FnScope ["_law_own","_law_number","_law_many","_law_name_here"] ["_law_own","_law_number"] (defScope s_l_out):=⟨rfl,rfl,rfl,by decide +kernel,rfl,by decide +kernel,by decide +kernel⟩
theorem bd_l_out:BindsAll "_law_out" "_law_out" s_l_out ["_law_own","_law_number"]:=fun _ _ _ _ _ _ us hl=>match us,hl with | [_,_],_=>rfl
abbrev s_l_due:Stmt:=top 35
theorem sc_l_due:FnScope ["_law_own","_law_way","_law_name_here","_law_number","_law_row","_law_slot","_law_gone"] ["_law_own","_law_way","_law_name_here","_law_number"] (defScope s_l_due):=⟨rfl,rfl,rfl,by decide +kernel,rfl,by decide +kernel,by decide +kernel⟩
theorem bd_l_due:BindsAll "_law_due" "_law_due" s_l_due ["_law_own","_law_way","_law_name_here","_law_number"]:=fun _ _ _ _ _ _ us hl=>match us,hl with | [_,_,_,_],_=>rfl
abbrev s_l_same:Stmt:=top 36
theorem sc_l_same:FnScope ["_law_tasks","_law_own","_law_number","_law_first","_law_name_here","_law_row","_law_due_here"] ["_law_tasks","_law_own","_law_number"] (defScope s_l_same):=⟨rfl,rfl,rfl,by decide +kernel,rfl,by decide +kernel,by decide +kernel⟩
theorem bd_l_same:BindsAll "_law_same" "_law_same" s_l_same ["_law_tasks","_law_own","_law_number"]:=fun _ _ _ _ _ _ us hl=>match us,hl with | [_,_,_],_=>rfl
abbrev s_l_deed:Stmt:=top 37
theorem sc_l_deed:FnScope ["_law_script","_law_k","_law_own","_law_number","_law_more","_law_way","_law_name_here","_law_maker"] ["_law_script","_law_k","_law_own"] (defScope s_l_deed):=⟨rfl,rfl,rfl,by decide +kernel,rfl,by decide +kernel,by decide +kernel⟩
theorem bd_l_deed:BindsAll "_law_deed" "_law_deed" s_l_deed ["_law_script","_law_k","_law_own"]:=fun _ _ _ _ _ _ us hl=>match us,hl with | [_,_,_],_=>rfl
abbrev s_l_filled:Stmt:=top 38
theorem sc_l_filled:FnScope ["_law_tasks","_law_own","_law_name_here"] ["_law_tasks","_law_own","_law_name_here"] (defScope s_l_filled):=⟨rfl,rfl,rfl,by decide +kernel,rfl,by decide +kernel,by decide +kernel⟩
theorem bd_l_filled:BindsAll "_law_filled" "_law_filled" s_l_filled ["_law_tasks","_law_own","_law_name_here"]:=fun _ _ _ _ _ _ us hl=>match us,hl with | [_,_,_],_=>rfl
abbrev s_law:Stmt:=top 39
theorem sc_law:FnScope ["_law_script","_law_keepers","_law_owns","_law_k","_law_at","_law_own","_law_way","_law_name_here","_law_number","_law_due_here","_law_found","_law_more","_law_one"] ["_law_script"] (defScope s_law):=⟨rfl,rfl,rfl,by decide +kernel,rfl,by decide +kernel,by decide +kernel⟩
theorem bd_law:BindsAll "law" "law" s_law ["_law_script"]:=fun _ _ _ _ _ _ us hl=>match us,hl with | [_],_=>rfl
abbrev s_Tasks__init:Stmt:=inClass (top 26) 0
theorem sc_Tasks__init:FnScope ["self"] ["self"] (defScope s_Tasks__init):=⟨rfl,rfl,rfl,by decide +kernel,rfl,by decide +kernel,by decide +kernel⟩
theorem bd_Tasks__init:BindsAll "__init__" "Tasks.__init__" s_Tasks__init ["self"]:=fun _ _ _ _ _ _ us hl=>match us,hl with | [_],_=>rfl
abbrev s_Tasks_need:Stmt:=inClass (top 26) 1
theorem sc_Tasks_need:FnScope ["self","name"] ["self","name"] (defScope s_Tasks_need):=⟨rfl,rfl,rfl,by decide +kernel,rfl,by decide +kernel,by decide +kernel⟩
theorem bd_Tasks_need:BindsAll "need" "Tasks.need" s_Tasks_need ["self","name"]:=fun _ _ _ _ _ _ us hl=>match us,hl with | [_,_],_=>rfl
abbrev s_Tasks_need_new:Stmt:=inClass (top 26) 2
theorem sc_Tasks_need_new:FnScope ["self","name"] ["self","name"] (defScope s_Tasks_need_new):=⟨rfl,rfl,rfl,by decide +kernel,rfl,by decide +kernel,by decide +kernel⟩
theorem bd_Tasks_need_new:BindsAll "need_new" "Tasks.need_new" s_Tasks_need_new ["self","name"]:=fun _ _ _ _ _ _ us hl=>match us,hl with | [_,_],_=>rfl
abbrev s_Tasks_added:Stmt:=inClass (top 26) 3
theorem sc_Tasks_added:FnScope ["self","name","maker"] ["self","name","maker"] (defScope s_Tasks_added):=⟨rfl,rfl,rfl,by decide +kernel,rfl,by decide +kernel,by decide +kernel⟩
theorem bd_Tasks_added:BindsAll "added" "Tasks.added" s_Tasks_added ["self","name","maker"]:=fun _ _ _ _ _ _ us hl=>match us,hl with | [_,_,_],_=>rfl
abbrev s_Tasks_running:Stmt:=inClass (top 26) 4
theorem sc_Tasks_running:FnScope ["self"] ["self"] (defScope s_Tasks_running):=⟨rfl,rfl,rfl,by decide +kernel,rfl,by decide +kernel,by decide +kernel⟩
theorem bd_Tasks_running:BindsAll "running" "Tasks.running" s_Tasks_running ["self"]:=fun _ _ _ _ _ _ us hl=>match us,hl with | [_],_=>rfl
abbrev s_Tasks_put:Stmt:=inClass (top 26) 6
theorem sc_Tasks_put:FnScope ["self","name","number","filled","empty"] ["self","name","number"] (defScope s_Tasks_put):=⟨rfl,rfl,rfl,by decide +kernel,rfl,by decide +kernel,by decide +kernel⟩
theorem bd_Tasks_put:BindsAll "put" "Tasks.put" s_Tasks_put ["self","name","number"]:=fun _ _ _ _ _ _ us hl=>match us,hl with | [_,_,_],_=>rfl
abbrev s_Tasks_at:Stmt:=inClass (top 26) 7
theorem sc_Tasks_at:FnScope ["self","name","slot","filled"] ["self","name","slot"] (defScope s_Tasks_at):=⟨rfl,rfl,rfl,by decide +kernel,rfl,by decide +kernel,by decide +kernel⟩
theorem bd_Tasks_at:BindsAll "at" "Tasks.at" s_Tasks_at ["self","name","slot"]:=fun _ _ _ _ _ _ us hl=>match us,hl with | [_,_,_],_=>rfl
abbrev s_Tasks_free:Stmt:=inClass (top 26) 8
theorem sc_Tasks_free:FnScope ["self","name"] ["self","name"] (defScope s_Tasks_free):=⟨rfl,rfl,rfl,by decide +kernel,rfl,by decide +kernel,by decide +kernel⟩
theorem bd_Tasks_free:BindsAll "free" "Tasks.free" s_Tasks_free ["self","name"]:=fun _ _ _ _ _ _ us hl=>match us,hl with | [_,_],_=>rfl
abbrev s_Tasks_emptied:Stmt:=inClass (top 26) 9
theorem sc_Tasks_emptied:FnScope ["self","name","number","filled","found","slot"] ["self","name","number"] (defScope s_Tasks_emptied):=⟨rfl,rfl,rfl,by decide +kernel,rfl,by decide +kernel,by decide +kernel⟩
theorem bd_Tasks_emptied:BindsAll "emptied" "Tasks.emptied" s_Tasks_emptied ["self","name","number"]:=fun _ _ _ _ _ _ us hl=>match us,hl with | [_,_,_],_=>rfl
abbrev s_Tasks_taken_out:Stmt:=inClass (top 26) 10
theorem sc_Tasks_taken_out:FnScope ["self","number"] ["self","number"] (defScope s_Tasks_taken_out):=⟨rfl,rfl,rfl,by decide +kernel,rfl,by decide +kernel,by decide +kernel⟩
theorem bd_Tasks_taken_out:BindsAll "taken_out" "Tasks.taken_out" s_Tasks_taken_out ["self","number"]:=fun _ _ _ _ _ _ us hl=>match us,hl with | [_,_],_=>rfl
abbrev s_Tasks_slots:Stmt:=inClass (top 26) 11
theorem sc_Tasks_slots:FnScope ["self","name","filled"] ["self","name"] (defScope s_Tasks_slots):=⟨rfl,rfl,rfl,by decide +kernel,rfl,by decide +kernel,by decide +kernel⟩
theorem bd_Tasks_slots:BindsAll "slots" "Tasks.slots" s_Tasks_slots ["self","name"]:=fun _ _ _ _ _ _ us hl=>match us,hl with | [_,_],_=>rfl
abbrev s_Tasks_made_by:Stmt:=inClass (top 26) 12
theorem sc_Tasks_made_by:FnScope ["self","name","found","other"] ["self","name"] (defScope s_Tasks_made_by):=⟨rfl,rfl,rfl,by decide +kernel,rfl,by decide +kernel,by decide +kernel⟩
theorem bd_Tasks_made_by:BindsAll "made_by" "Tasks.made_by" s_Tasks_made_by ["self","name"]:=fun _ _ _ _ _ _ us hl=>match us,hl with | [_,_],_=>rfl
abbrev s_Tasks_stopped:Stmt:=inClass (top 26) 13
theorem sc_Tasks_stopped:FnScope ["self","name","ended","other"] ["self","name"] (defScope s_Tasks_stopped):=⟨rfl,rfl,rfl,by decide +kernel,rfl,by decide +kernel,by decide +kernel⟩
theorem bd_Tasks_stopped:BindsAll "stopped" "Tasks.stopped" s_Tasks_stopped ["self","name"]:=fun _ _ _ _ _ _ us hl=>match us,hl with | [_,_],_=>rfl
structure Cs where
 Empty:Addr
 Full:Addr
 Lacks:Addr
 NoDeed:Addr
 NoHandle:Addr
 NoKind:Addr
 NoName:Addr
 NoRights:Addr
 NoRow:Addr
 NoTask:Addr
 NoThing:Addr
 NoValue:Addr
 NoWords:Addr
 Taken:Addr
 TooGreat:Addr
 TooMany:Addr
 PassError:Addr
 Tasks:Addr
def names:List Str:=["Empty","Full","Lacks","NoDeed","NoHandle","NoKind","NoName","NoRights","NoRow","NoTask","NoThing","NoValue","NoWords","Taken","TooGreat","TooMany"]
def Cs.l (C:Cs):List Addr:=[C.Empty,C.Full,C.Lacks,C.NoDeed,C.NoHandle,C.NoKind,C.NoName,C.NoRights,C.NoRow,C.NoTask,C.NoThing,C.NoValue,C.NoWords,C.Taken,C.TooGreat,C.TooMany]
def T0 (C:Cs):CTb:=⟨fun c=>if c="Tasks" then some C.Tasks else none,fun c=>(names.zip C.l).lookup c,fun c=>if c="PassError" then some C.PassError else none⟩
def ents:List ((Ty×Ty)×Bool):=(List.range 16).flatMap fun i=>((.inr (names.getD i ""),.inl "ValueError"),true)::(List.range 16).map fun j=>((.inr (names.getD i ""),.inr (names.getD j "")),i == j)
def bents:List ((Ty×Ty)×Bool):=[((.inl "str",.inl "str"),true),((.inl "NoneType",.inl "str"),false),((.inl "bool",.inl "str"),false),((.inl "int",.inl "str"),false),((.inl "list",.inl "str"),false),((.inl "tuple",.inl "str"),false),((.inl "int",.inl "int"),true),((.inl "bool",.inl "int"),true),((.inl "NoneType",.inl "int"),false),((.inl "str",.inl "int"),false),((.inl "list",.inl "int"),false),((.inl "int",.inl "bool"),false),((.inl "bool",.inl "bool"),true),((.inl "str",.inl "bool"),false),((.inl "NoneType",.inl "bool"),false),((.inl "list",.inl "bool"),false)]
def kitL:Kit:=bents++ents
theorem kg_0:Kit.get kitL (.inl "str") (.inl "str")=some true:=by decide +kernel
theorem kg_1:Kit.get kitL (.inl "NoneType") (.inl "str")=some false:=by decide +kernel
theorem kg_2:Kit.get kitL (.inl "bool") (.inl "str")=some false:=by decide +kernel
theorem kg_3:Kit.get kitL (.inl "int") (.inl "str")=some false:=by decide +kernel
theorem kg_4:Kit.get kitL (.inl "list") (.inl "str")=some false:=by decide +kernel
theorem kg_5:Kit.get kitL (.inl "tuple") (.inl "str")=some false:=by decide +kernel
theorem kg_6:Kit.get kitL (.inl "int") (.inl "int")=some true:=by decide +kernel
theorem kg_7:Kit.get kitL (.inl "bool") (.inl "int")=some true:=by decide +kernel
theorem kg_8:Kit.get kitL (.inl "NoneType") (.inl "int")=some false:=by decide +kernel
theorem kg_9:Kit.get kitL (.inl "str") (.inl "int")=some false:=by decide +kernel
theorem kg_10:Kit.get kitL (.inl "list") (.inl "int")=some false:=by decide +kernel
theorem kg_11:Kit.get kitL (.inl "int") (.inl "bool")=some false:=by decide +kernel
theorem kg_12:Kit.get kitL (.inl "bool") (.inl "bool")=some true:=by decide +kernel
theorem kg_13:Kit.get kitL (.inl "str") (.inl "bool")=some false:=by decide +kernel
theorem kg_14:Kit.get kitL (.inl "NoneType") (.inl "bool")=some false:=by decide +kernel
theorem kg_15:Kit.get kitL (.inl "list") (.inl "bool")=some false:=by decide +kernel
theorem kg_16:Kit.get kitL (.inr (Str.ofString "NoTask")) (.inl "ValueError")=some true:=by decide +kernel
theorem kg_17:Kit.get kitL (.inr (Str.ofString "NoTask")) (.inr (Str.ofString "Empty"))=some false:=by decide +kernel
theorem kg_18:Kit.get kitL (.inr (Str.ofString "NoTask")) (.inr (Str.ofString "Full"))=some false:=by decide +kernel
theorem kg_19:Kit.get kitL (.inr (Str.ofString "NoTask")) (.inr (Str.ofString "Lacks"))=some false:=by decide +kernel
theorem kg_20:Kit.get kitL (.inr (Str.ofString "NoTask")) (.inr (Str.ofString "NoDeed"))=some false:=by decide +kernel
theorem kg_21:Kit.get kitL (.inr (Str.ofString "NoTask")) (.inr (Str.ofString "NoHandle"))=some false:=by decide +kernel
theorem kg_22:Kit.get kitL (.inr (Str.ofString "NoTask")) (.inr (Str.ofString "NoKind"))=some false:=by decide +kernel
theorem kg_23:Kit.get kitL (.inr (Str.ofString "NoTask")) (.inr (Str.ofString "NoName"))=some false:=by decide +kernel
theorem kg_24:Kit.get kitL (.inr (Str.ofString "NoTask")) (.inr (Str.ofString "NoRights"))=some false:=by decide +kernel
theorem kg_25:Kit.get kitL (.inr (Str.ofString "NoTask")) (.inr (Str.ofString "NoRow"))=some false:=by decide +kernel
theorem kg_26:Kit.get kitL (.inr (Str.ofString "NoTask")) (.inr (Str.ofString "NoTask"))=some true:=by decide +kernel
theorem kg_27:Kit.get kitL (.inr (Str.ofString "NoTask")) (.inr (Str.ofString "NoThing"))=some false:=by decide +kernel
theorem kg_28:Kit.get kitL (.inr (Str.ofString "NoTask")) (.inr (Str.ofString "NoValue"))=some false:=by decide +kernel
theorem kg_29:Kit.get kitL (.inr (Str.ofString "NoTask")) (.inr (Str.ofString "NoWords"))=some false:=by decide +kernel
theorem kg_30:Kit.get kitL (.inr (Str.ofString "NoTask")) (.inr (Str.ofString "Taken"))=some false:=by decide +kernel
theorem kg_31:Kit.get kitL (.inr (Str.ofString "NoTask")) (.inr (Str.ofString "TooGreat"))=some false:=by decide +kernel
theorem kg_32:Kit.get kitL (.inr (Str.ofString "NoTask")) (.inr (Str.ofString "TooMany"))=some false:=by decide +kernel
theorem kg_33:Kit.get kitL (.inr (Str.ofString "TooMany")) (.inl "ValueError")=some true:=by decide +kernel
theorem kg_34:Kit.get kitL (.inr (Str.ofString "TooMany")) (.inr (Str.ofString "Empty"))=some false:=by decide +kernel
theorem kg_35:Kit.get kitL (.inr (Str.ofString "TooMany")) (.inr (Str.ofString "Full"))=some false:=by decide +kernel
theorem kg_36:Kit.get kitL (.inr (Str.ofString "TooMany")) (.inr (Str.ofString "Lacks"))=some false:=by decide +kernel
theorem kg_37:Kit.get kitL (.inr (Str.ofString "TooMany")) (.inr (Str.ofString "NoDeed"))=some false:=by decide +kernel
theorem kg_38:Kit.get kitL (.inr (Str.ofString "TooMany")) (.inr (Str.ofString "NoHandle"))=some false:=by decide +kernel
theorem kg_39:Kit.get kitL (.inr (Str.ofString "TooMany")) (.inr (Str.ofString "NoKind"))=some false:=by decide +kernel
theorem kg_40:Kit.get kitL (.inr (Str.ofString "TooMany")) (.inr (Str.ofString "NoName"))=some false:=by decide +kernel
theorem kg_41:Kit.get kitL (.inr (Str.ofString "TooMany")) (.inr (Str.ofString "NoRights"))=some false:=by decide +kernel
theorem kg_42:Kit.get kitL (.inr (Str.ofString "TooMany")) (.inr (Str.ofString "NoRow"))=some false:=by decide +kernel
theorem kg_43:Kit.get kitL (.inr (Str.ofString "TooMany")) (.inr (Str.ofString "NoTask"))=some false:=by decide +kernel
theorem kg_44:Kit.get kitL (.inr (Str.ofString "TooMany")) (.inr (Str.ofString "NoThing"))=some false:=by decide +kernel
theorem kg_45:Kit.get kitL (.inr (Str.ofString "TooMany")) (.inr (Str.ofString "NoValue"))=some false:=by decide +kernel
theorem kg_46:Kit.get kitL (.inr (Str.ofString "TooMany")) (.inr (Str.ofString "NoWords"))=some false:=by decide +kernel
theorem kg_47:Kit.get kitL (.inr (Str.ofString "TooMany")) (.inr (Str.ofString "Taken"))=some false:=by decide +kernel
theorem kg_48:Kit.get kitL (.inr (Str.ofString "TooMany")) (.inr (Str.ofString "TooGreat"))=some false:=by decide +kernel
theorem kg_49:Kit.get kitL (.inr (Str.ofString "TooMany")) (.inr (Str.ofString "TooMany"))=some true:=by decide +kernel
theorem kg_50:Kit.get kitL (.inr (Str.ofString "NoHandle")) (.inl "ValueError")=some true:=by decide +kernel
theorem kg_51:Kit.get kitL (.inr (Str.ofString "NoHandle")) (.inr (Str.ofString "Empty"))=some false:=by decide +kernel
theorem kg_52:Kit.get kitL (.inr (Str.ofString "NoHandle")) (.inr (Str.ofString "Full"))=some false:=by decide +kernel
theorem kg_53:Kit.get kitL (.inr (Str.ofString "NoHandle")) (.inr (Str.ofString "Lacks"))=some false:=by decide +kernel
theorem kg_54:Kit.get kitL (.inr (Str.ofString "NoHandle")) (.inr (Str.ofString "NoDeed"))=some false:=by decide +kernel
theorem kg_55:Kit.get kitL (.inr (Str.ofString "NoHandle")) (.inr (Str.ofString "NoHandle"))=some true:=by decide +kernel
theorem kg_56:Kit.get kitL (.inr (Str.ofString "NoHandle")) (.inr (Str.ofString "NoKind"))=some false:=by decide +kernel
theorem kg_57:Kit.get kitL (.inr (Str.ofString "NoHandle")) (.inr (Str.ofString "NoName"))=some false:=by decide +kernel
theorem kg_58:Kit.get kitL (.inr (Str.ofString "NoHandle")) (.inr (Str.ofString "NoRights"))=some false:=by decide +kernel
theorem kg_59:Kit.get kitL (.inr (Str.ofString "NoHandle")) (.inr (Str.ofString "NoRow"))=some false:=by decide +kernel
theorem kg_60:Kit.get kitL (.inr (Str.ofString "NoHandle")) (.inr (Str.ofString "NoTask"))=some false:=by decide +kernel
theorem kg_61:Kit.get kitL (.inr (Str.ofString "NoHandle")) (.inr (Str.ofString "NoThing"))=some false:=by decide +kernel
theorem kg_62:Kit.get kitL (.inr (Str.ofString "NoHandle")) (.inr (Str.ofString "NoValue"))=some false:=by decide +kernel
theorem kg_63:Kit.get kitL (.inr (Str.ofString "NoHandle")) (.inr (Str.ofString "NoWords"))=some false:=by decide +kernel
theorem kg_64:Kit.get kitL (.inr (Str.ofString "NoHandle")) (.inr (Str.ofString "Taken"))=some false:=by decide +kernel
theorem kg_65:Kit.get kitL (.inr (Str.ofString "NoHandle")) (.inr (Str.ofString "TooGreat"))=some false:=by decide +kernel
theorem kg_66:Kit.get kitL (.inr (Str.ofString "NoHandle")) (.inr (Str.ofString "TooMany"))=some false:=by decide +kernel
theorem kg_67:Kit.get kitL (.inr (Str.ofString "Taken")) (.inl "ValueError")=some true:=by decide +kernel
theorem kg_68:Kit.get kitL (.inr (Str.ofString "Taken")) (.inr (Str.ofString "Empty"))=some false:=by decide +kernel
theorem kg_69:Kit.get kitL (.inr (Str.ofString "Taken")) (.inr (Str.ofString "Full"))=some false:=by decide +kernel
theorem kg_70:Kit.get kitL (.inr (Str.ofString "Taken")) (.inr (Str.ofString "Lacks"))=some false:=by decide +kernel
theorem kg_71:Kit.get kitL (.inr (Str.ofString "Taken")) (.inr (Str.ofString "NoDeed"))=some false:=by decide +kernel
theorem kg_72:Kit.get kitL (.inr (Str.ofString "Taken")) (.inr (Str.ofString "NoHandle"))=some false:=by decide +kernel
theorem kg_73:Kit.get kitL (.inr (Str.ofString "Taken")) (.inr (Str.ofString "NoKind"))=some false:=by decide +kernel
theorem kg_74:Kit.get kitL (.inr (Str.ofString "Taken")) (.inr (Str.ofString "NoName"))=some false:=by decide +kernel
theorem kg_75:Kit.get kitL (.inr (Str.ofString "Taken")) (.inr (Str.ofString "NoRights"))=some false:=by decide +kernel
theorem kg_76:Kit.get kitL (.inr (Str.ofString "Taken")) (.inr (Str.ofString "NoRow"))=some false:=by decide +kernel
theorem kg_77:Kit.get kitL (.inr (Str.ofString "Taken")) (.inr (Str.ofString "NoTask"))=some false:=by decide +kernel
theorem kg_78:Kit.get kitL (.inr (Str.ofString "Taken")) (.inr (Str.ofString "NoThing"))=some false:=by decide +kernel
theorem kg_79:Kit.get kitL (.inr (Str.ofString "Taken")) (.inr (Str.ofString "NoValue"))=some false:=by decide +kernel
theorem kg_80:Kit.get kitL (.inr (Str.ofString "Taken")) (.inr (Str.ofString "NoWords"))=some false:=by decide +kernel
theorem kg_81:Kit.get kitL (.inr (Str.ofString "Taken")) (.inr (Str.ofString "Taken"))=some true:=by decide +kernel
theorem kg_82:Kit.get kitL (.inr (Str.ofString "Taken")) (.inr (Str.ofString "TooGreat"))=some false:=by decide +kernel
theorem kg_83:Kit.get kitL (.inr (Str.ofString "Taken")) (.inr (Str.ofString "TooMany"))=some false:=by decide +kernel
def subP (c:Str):Bool:=names.contains c
theorem subP_NoTask:subP (Str.ofString "NoTask")=true:=by decide +kernel
theorem subP_TooMany:subP (Str.ofString "TooMany")=true:=by decide +kernel
theorem subP_NoHandle:subP (Str.ofString "NoHandle")=true:=by decide +kernel
theorem subP_Taken:subP (Str.ofString "Taken")=true:=by decide +kernel
structure Tx (K:PySem.W.Frag)(mg:Str→Option Value)(C:Cs):Prop where
 b_isinstance:mg "isinstance"=none
 b_str:mg "str"=none
 b_len:mg "len"=none
 b_range:mg "range"=none
 b_all:mg "all"=none
 b_list:mg "list"=none
 b_ValueError:mg "ValueError"=none
 b_int:mg "int"=none
 b_bool:mg "bool"=none
 b_sum:mg "sum"=none
 b_sorted:mg "sorted"=none
 c_LONGEST_NAME:GC mg "LONGEST_NAME" (.int 8)
 c_MOST_RUNNING:GC mg "MOST_RUNNING" (.int 12)
 c_SLOT_COUNT:GC mg "SLOT_COUNT" (.int 16)
 ins:InsOk K (T0 C)
 exo:ExcOk K (T0 C)
 kit:KitOk K (T0 C) kitL
 f_makers:FldOk K (T0 C) "makers"
 f_filled:FldOk K (T0 C) "filled"
 rz_NoName:RzAt K mg (T0 C) "NoName"
 rz_Taken:RzAt K mg (T0 C) "Taken"
 rz_NoTask:RzAt K mg (T0 C) "NoTask"
 rz_TooMany:RzAt K mg (T0 C) "TooMany"
 rz_NoHandle:RzAt K mg (T0 C) "NoHandle"
 cat_PassError:CatAt K mg (T0 C) "PassError" subP
 g_Empty:GC mg "Empty" (.ref C.Empty)
 t_Empty:(T0 C).any "Empty"=some C.Empty
 g_Full:GC mg "Full" (.ref C.Full)
 t_Full:(T0 C).any "Full"=some C.Full
 g_Lacks:GC mg "Lacks" (.ref C.Lacks)
 t_Lacks:(T0 C).any "Lacks"=some C.Lacks
 g_NoDeed:GC mg "NoDeed" (.ref C.NoDeed)
 t_NoDeed:(T0 C).any "NoDeed"=some C.NoDeed
 g_NoHandle:GC mg "NoHandle" (.ref C.NoHandle)
 t_NoHandle:(T0 C).any "NoHandle"=some C.NoHandle
 g_NoKind:GC mg "NoKind" (.ref C.NoKind)
 t_NoKind:(T0 C).any "NoKind"=some C.NoKind
 g_NoName:GC mg "NoName" (.ref C.NoName)
 t_NoName:(T0 C).any "NoName"=some C.NoName
 g_NoRights:GC mg "NoRights" (.ref C.NoRights)
 t_NoRights:(T0 C).any "NoRights"=some C.NoRights
 g_NoRow:GC mg "NoRow" (.ref C.NoRow)
 t_NoRow:(T0 C).any "NoRow"=some C.NoRow
 g_NoTask:GC mg "NoTask" (.ref C.NoTask)
 t_NoTask:(T0 C).any "NoTask"=some C.NoTask
 g_NoThing:GC mg "NoThing" (.ref C.NoThing)
 t_NoThing:(T0 C).any "NoThing"=some C.NoThing
 g_NoValue:GC mg "NoValue" (.ref C.NoValue)
 t_NoValue:(T0 C).any "NoValue"=some C.NoValue
 g_NoWords:GC mg "NoWords" (.ref C.NoWords)
 t_NoWords:(T0 C).any "NoWords"=some C.NoWords
 g_Taken:GC mg "Taken" (.ref C.Taken)
 t_Taken:(T0 C).any "Taken"=some C.Taken
 g_TooGreat:GC mg "TooGreat" (.ref C.TooGreat)
 t_TooGreat:(T0 C).any "TooGreat"=some C.TooGreat
 g_TooMany:GC mg "TooMany" (.ref C.TooMany)
 t_TooMany:(T0 C).any "TooMany"=some C.TooMany
def tkO (a b:Nat):O:=.ins "Tasks" [("makers",.ref a),("filled",.ref b)]
def tab1 (F:Fm):Tab:=fun c=>if c="Tasks" then some F else none
theorem tb1 {F:Fm}:tab1 F (Str.ofString "Tasks")=some F:=rfl
theorem n_mf:(Str.ofString "makers" == Str.ofString "filled")=false:=by decide +kernel
theorem lk1 {a b:W}:List.lookup (Str.ofString "makers") [(Str.ofString "makers",a),(Str.ofString "filled",b)]=some a:=rfl
theorem lk2 {a b:W}:List.lookup (Str.ofString "filled") [(Str.ofString "makers",a),(Str.ofString "filled",b)]=some b:=rfl
theorem no_need {a b:W}:List.lookup (Str.ofString "need") [(Str.ofString "makers",a),(Str.ofString "filled",b)]=none:=rfl
theorem no_need_new {a b:W}:List.lookup (Str.ofString "need_new") [(Str.ofString "makers",a),(Str.ofString "filled",b)]=none:=rfl
theorem no_added {a b:W}:List.lookup (Str.ofString "added") [(Str.ofString "makers",a),(Str.ofString "filled",b)]=none:=rfl
theorem no_running {a b:W}:List.lookup (Str.ofString "running") [(Str.ofString "makers",a),(Str.ofString "filled",b)]=none:=rfl
theorem no_put {a b:W}:List.lookup (Str.ofString "put") [(Str.ofString "makers",a),(Str.ofString "filled",b)]=none:=rfl
theorem no_at {a b:W}:List.lookup (Str.ofString "at") [(Str.ofString "makers",a),(Str.ofString "filled",b)]=none:=rfl
theorem no_free {a b:W}:List.lookup (Str.ofString "free") [(Str.ofString "makers",a),(Str.ofString "filled",b)]=none:=rfl
theorem no_emptied {a b:W}:List.lookup (Str.ofString "emptied") [(Str.ofString "makers",a),(Str.ofString "filled",b)]=none:=rfl
theorem no_taken_out {a b:W}:List.lookup (Str.ofString "taken_out") [(Str.ofString "makers",a),(Str.ofString "filled",b)]=none:=rfl
theorem no_slots {a b:W}:List.lookup (Str.ofString "slots") [(Str.ofString "makers",a),(Str.ofString "filled",b)]=none:=rfl
theorem no_made_by {a b:W}:List.lookup (Str.ofString "made_by") [(Str.ofString "makers",a),(Str.ofString "filled",b)]=none:=rfl
theorem no_stopped {a b:W}:List.lookup (Str.ofString "stopped") [(Str.ofString "makers",a),(Str.ofString "filled",b)]=none:=rfl
def nsW (w:W):Prop:=w=.int 7
def nameS (z:Str):Bool:=decide (1≤z.length) && decide (z.length≤8) && z.cps.toList.all fun c=>decide (97≤c) && decide (c≤122)
theorem le_a (c:Nat):strLe "a" ⟨#[c]⟩=decide (97≤c):=by
 unfold strLe
 rw [show (Str.ofString "a").cps.toList=[97] from by decide +kernel,Bool.eq_iff_iff]
 simp [List.cons_lt_cons_iff]
theorem le_z (c:Nat):strLe ⟨#[c]⟩ "z"=decide (c≤122):=by
 unfold strLe
 rw [show (Str.ofString "z").cps.toList=[122] from by decide +kernel,Bool.eq_iff_iff]
 simp [List.cons_lt_cons_iff]
theorem getK_keys {α:Type}{kvs:List (Key×α)}{l:List Str}(e:kvs.map (·.1)=l.map Sum.inr)(z:Str):(getK kvs (.inr z)).isSome=decide (z∈l):=by
 unfold getK
 induction l generalizing kvs with
 | nil=>
  have:kvs=[]:=by simpa using e
  subst this; rfl
 | cons a l ih=>
  cases kvs with
  | nil=>simp at e
  | cons p kvs=>
   simp only [List.map_cons,List.cons.injEq] at e
   have:=ih e.2
   rw [List.find?_cons]
   by_cases hz:z=a
   ·subst hz; simp [e.1]
   ·have h1:¬p.1=.inr z:=by rw [e.1]; intro q; exact hz (Sum.inr.inj q).symm
    simp only [h1,decide_false]
    rw [this]
    simp [hz]
theorem getK_none {α:Type}{kvs:List (Key×α)}{l:List Str}(e:kvs.map (·.1)=l.map Sum.inr){z:Str}(h:¬z∈l):getK kvs (.inr z)=none:=by
 have:=getK_keys e z
 rw [decide_eq_false h] at this
 simpa using this
theorem putD_new {kvs:List (Key×W)}{l:List Str}(e:kvs.map (·.1)=l.map Sum.inr){z:Str}{w:W}(h:¬z∈l):putD kvs (.inr z) w=kvs++[(.inr z,w)]:=by
 unfold putD
 rw [if_neg]
 intro q
 rw [List.any_eq_true] at q
 obtain ⟨p,hp,q⟩:=q
 have q:=of_decide_eq_true q
 have:p.1∈l.map Sum.inr:=by rw [← e]; exact List.mem_map.mpr ⟨p,hp,rfl⟩
 rw [q] at this
 obtain ⟨y,hy,e2⟩:=List.mem_map.mp this
 exact h (Sum.inr.inj e2 ▸ hy)
theorem keyWs_eq {kvs:List (Key×W)}{l:List Str}(e:kvs.map (·.1)=l.map Sum.inr):keyWs kvs=l.map W.str:=by
 unfold keyWs
 induction l generalizing kvs with
 | nil=>
  have:kvs=[]:=by simpa using e
  subst this; rfl
 | cons a l ih=>
  cases kvs with
  | nil=>simp at e
  | cons p kvs=>
   simp only [List.map_cons,List.cons.injEq] at e
   rw [List.map_cons,List.map_cons,ih e.2,e.1]
theorem any_str {l:List Str}{z:Str}:((l.map W.str).any fun y=>eqFl y (.str z))=decide (z∈l):=by
 rw [Bool.eq_iff_iff]
 simp [eqFl]
theorem all_flat {l:List Str}:(l.map W.str).all flatW=true:=by simp [flatW]
section
variable {P:Program} {w:World} {K:PySem.W.Frag} {mg:Str→Option Value} {base:Heap} {C:Cs}
theorem xFor_loop {fi:Ei}{G:Tg}{B:Sm}{ρ:Sg}{h h':Mem}{ws:List W}(e:fi ρ h=.ok none ws h'):xFor fi G B ρ h=xLoop G B ws ρ h':=by unfold xFor; rw [e]
theorem xForS_loop {fi:Ei}{G:Tg}{B:Sm}{ρ:Sg}{h h':Mem}{n:Nat}{ws:List W}(e:fi ρ h=.ok (some n) ws h'):xForS fi G B ρ h=xLoopS G B n ws ws ρ h':=by unfold xForS; rw [e]
theorem xSeq_nx {F G:Sm}{ρ ρ':Sg}{h h':Mem}(e:F ρ h=.nx ρ' h'):xSeq F G ρ h=G ρ' h':=by unfold xSeq; rw [e]
theorem tab1_at {k:Nat}{m:Str}{F:Fm}(h:MtAt P w K mg base (T0 C) k "Tasks" m F):TabAt P w K mg base (T0 C) k m (tab1 F):=fun c G e=>by
 unfold tab1 at e
 split at e
 ·rename_i hc; subst hc; cases e; exact h
 ·cases e
theorem tab1_x {k:Nat}{m:Str}{F:Fm}{q:Bool}(h:MtX P w K mg base (T0 C) q k "Tasks" m F):TabX P w K mg base (T0 C) q k m (tab1 F):=fun c G e=>by
 unfold tab1 at e
 split at e
 ·rename_i hc; subst hc; cases e; exact h
 ·cases e
def mkr (ev:List (Str×Str))(z:Str):Option Str:=(ev.find? fun p=>decide (p.1=z)).map (·.2)
def mkD (ev:List (Str×Str)):List (Key×W):=ev.map fun p=>(.inr p.1,.str p.2)
theorem mkD_keys (ev:List (Str×Str)):(mkD ev).map (·.1)=(ev.map Prod.fst).map Sum.inr:=by unfold mkD; rw [List.map_map,List.map_map]; rfl
theorem mkD_get (z:Str):∀ ev:List (Str×Str),getK (mkD ev) (.inr z)=(mkr ev z).map W.str
 | []=>rfl
 | p::ev=>by
  have ih:=mkD_get z ev
  unfold getK mkr mkD at ih ⊢
  rw [List.map_cons,List.find?_cons,List.find?_cons]
  by_cases e:p.1=z
  ·have e1:(Sum.inr p.1:Key)=.inr z:=congrArg _ e
   simp [e,e1]
  ·have e1:¬(Sum.inr p.1:Key)=.inr z:=fun q=>e (Sum.inr.inj q)
   simp only [e,e1,decide_false]
   exact ih
theorem mkr_in {ev:List (Str×Str)}{z y:Str}(h:mkr ev z=some y):(z,y)∈ev:=by
 unfold mkr at h
 rw [Option.map_eq_some_iff] at h
 obtain ⟨p,h1,h2⟩:=h
 have h3:=List.find?_some h1
 have h4:=List.mem_of_find?_eq_some h1
 have h5:p.1=z:=of_decide_eq_true h3
 rw [← h5,← h2]
 exact h4
theorem mkr_of:∀ {ev:List (Str×Str)} {p:Str×Str},(ev.map Prod.fst).Nodup→p∈ev→mkr ev p.1=some p.2
 | q::ev,p,nd,h=>by
  rw [List.map_cons,List.nodup_cons] at nd
  unfold mkr
  rw [List.find?_cons]
  rcases List.mem_cons.mp h with rfl | h
  ·simp
  ·have e:¬q.1=p.1:=fun e=>nd.1 (e ▸ List.mem_map.mpr ⟨p,h,rfl⟩)
   simp only [e,decide_false]
   exact mkr_of nd.2 h
structure Fo (ev:List (Str×Str)):Prop where
 nd:(ev.map Prod.fst).Nodup
 mi:∀ p∈ev,p.2=Str.ofString ""∨p.2∈ev.map Prod.fst
 pt:∃ pth:Str→List Str,(∀ p∈ev,pth p.1=pth p.2++[p.1])∧∀ z,(pth z).length≤ev.length
theorem Fo.nil:Fo []:=⟨by simp,by simp,fun _=>[],by simp,by simp⟩
theorem Fo.add {ev:List (Str×Str)}{z y:Str}(f:Fo ev)(hz:¬z∈ev.map Prod.fst)(h0:z≠Str.ofString "")(hy:y=Str.ofString ""∨y∈ev.map Prod.fst):Fo (ev++[(z,y)]):=by
 obtain ⟨pth,p1,p2⟩:=f.pt
 have yz:y≠z:=fun e=>by
  rcases hy with q | q
  ·exact h0 (e ▸ q)
  ·exact hz (e ▸ q)
 refine ⟨?_,?_,fun x=>if x=z then pth y++[z] else pth x,?_,?_⟩
 ·rw [List.map_append,List.nodup_append]
  refine ⟨f.nd,by simp,fun a ha b hb q=>hz ?_⟩
  have hb:b=z:=by simpa using hb
  rw [← hb,← q]; exact ha
 ·intro p hp
  rw [List.map_append]
  rcases List.mem_append.mp hp with hp | hp
  ·rcases f.mi p hp with e | e
   ·exact .inl e
   ·exact .inr (List.mem_append_left _ e)
  ·obtain rfl:=List.mem_singleton.mp hp
   rcases hy with e | e
   ·exact .inl e
   ·exact .inr (List.mem_append_left _ e)
 ·intro p hp
  rcases List.mem_append.mp hp with hp | hp
  ·have a1:p.1≠z:=fun e=>hz (e ▸ List.mem_map.mpr ⟨p,hp,rfl⟩)
   have a2:p.2≠z:=fun e=>by
    rcases f.mi p hp with q | q
    ·exact h0 (e ▸ q)
    ·exact hz (e ▸ q)
   show (if p.1=z then _ else _)=(if p.2=z then _ else _)++[p.1]
   rw [if_neg a1,if_neg a2]; exact p1 p hp
  ·obtain rfl:=List.mem_singleton.mp hp
   show (if z=z then _ else _)=(if y=z then _ else _)++[z]
   rw [if_pos rfl,if_neg yz]
 ·intro x
  rw [List.length_append]
  show (if x=z then pth y++[z] else pth x).length≤ev.length+1
  split
  ·rw [List.length_append]; have:=p2 y; simp; omega
  ·have:=p2 x; omega
def mb (ev:List (Str×Str))(ns:List Str):Nat→Str→List Str
 | 0,_=>[]
 | d+1,n=>ns.flatMap fun o=>if mkr ev o=some n then o::mb ev ns d o else []
def Dep (ev:List (Str×Str))(ns:List Str):Nat→Str→Prop
 | 0,_=>False
 | d+1,n=>∀ o∈ns,mkr ev o=some n→Dep ev ns d o
theorem mb_sub {ev:List (Str×Str)}{ns:List Str}{x:Str}:∀ {d:Nat} {n:Str},x∈mb ev ns d n→x∈ns
 | 0,n,h=>by cases h
 | d+1,n,h=>by
  unfold mb at h
  obtain ⟨o,ho,h⟩:=List.mem_flatMap.mp h
  split at h
  ·rcases List.mem_cons.mp h with rfl | h
   ·exact ho
   ·exact mb_sub h
  ·cases h
theorem mb_path {ev:List (Str×Str)}{ns:List Str}{pth:Str→List Str}(hp:∀ p∈ev,pth p.1=pth p.2++[p.1]){x:Str}:∀ {d:Nat} {n:Str},x∈mb ev ns d n→∃ c,pth n++[c] <+: pth x
 | 0,n,h=>by cases h
 | d+1,n,h=>by
  unfold mb at h
  obtain ⟨o,ho,h⟩:=List.mem_flatMap.mp h
  split at h
  ·rename_i e
   have po:=hp _ (mkr_in e)
   have po:pth o=pth n++[o]:=po
   rcases List.mem_cons.mp h with rfl | h
   ·exact ⟨x,by rw [po]; exact List.prefix_rfl⟩
   ·obtain ⟨c,hc⟩:=mb_path hp h
    refine ⟨o,?_⟩
    rw [← po]
    exact List.IsPrefix.trans (List.prefix_append _ _) hc
  ·cases h
theorem mb_nodup {ev:List (Str×Str)}{ns:List Str}{pth:Str→List Str}(hp:∀ p∈ev,pth p.1=pth p.2++[p.1])(nd:ns.Nodup):∀ (d:Nat) (n:Str),(mb ev ns d n).Nodup
 | 0,n=>by unfold mb; exact List.nodup_nil
 | d+1,n=>by
  have key:∀ o x,x∈(if mkr ev o=some n then o::mb ev ns d o else [])→pth n++[o] <+: pth x:=fun o x h=>by
   split at h
   ·rename_i e
    have po:pth o=pth n++[o]:=hp _ (mkr_in e)
    rcases List.mem_cons.mp h with rfl | h
    ·rw [po]; exact List.prefix_rfl
    ·obtain ⟨c,hc⟩:=mb_path hp h
     rw [← po]
     exact List.IsPrefix.trans (List.prefix_append _ _) hc
   ·cases h
  unfold mb
  unfold List.Nodup
  rw [List.pairwise_flatMap]
  refine ⟨fun o ho=>?_,nd.imp fun {a b} hab x hx y hy e=>hab ?_⟩
  ·split
   ·refine List.nodup_cons.mpr ⟨fun h=>?_,mb_nodup hp nd d o⟩
    obtain ⟨c,hc⟩:=mb_path hp h
    have:=hc.length_le
    rw [List.length_append] at this
    simp at this
    omega
   ·exact List.nodup_nil
  ·subst e
   have h1:=key _ _ hx
   have h2:=key _ _ hy
   have h3:=List.prefix_of_prefix_length_le h1 h2 (by simp)
   have h4:=h3.eq_of_length (by simp)
   have h5:=List.append_cancel_left h4
   simpa using h5
theorem nodup_le:∀ {l m:List Str},l.Nodup→(∀ x∈l,x∈m)→l.length≤m.length
 | [],m,_,_=>Nat.zero_le _
 | a::l,m,nd,h=>by
  obtain ⟨na,nl⟩:=List.nodup_cons.mp nd
  have hm:=h a List.mem_cons_self
  have:=nodup_le (m:=m.erase a) nl fun x hx=>(List.mem_erase_of_ne (fun (e:x=a)=>na (e ▸ hx))).mpr (h x (List.mem_cons_of_mem _ hx))
  rw [List.length_erase_of_mem hm] at this
  have hp:0<m.length:=List.length_pos_of_mem hm
  rw [List.length_cons]; omega
theorem mb_len {ev:List (Str×Str)}{ns:List Str}(f:Fo ev)(nd:ns.Nodup)(d:Nat)(n:Str):(mb ev ns d n).length≤ns.length:=by
 obtain ⟨pth,p1,p2⟩:=f.pt
 exact nodup_le (mb_nodup p1 nd d n) fun x hx=>mb_sub hx
theorem dep_of {ev:List (Str×Str)}{ns:List Str}{pth:Str→List Str}(hp:∀ p∈ev,pth p.1=pth p.2++[p.1])(hb:∀ z,(pth z).length≤ev.length):∀ (d:Nat) (n:Str),ev.length<d+(pth n).length→Dep ev ns d n
 | 0,n,h=>by have:=hb n; omega
 | d+1,n,h=>by
  unfold Dep
  intro o ho e
  have po:pth o=pth n++[o]:=hp _ (mkr_in e)
  refine dep_of hp hb d o ?_
  rw [po,List.length_append,List.length_singleton]
  omega
theorem Fo.dep {ev:List (Str×Str)}(f:Fo ev)(ns:List Str)(n:Str){d:Nat}(h:ev.length<d):Dep ev ns d n:=by
 obtain ⟨pth,p1,p2⟩:=f.pt
 exact dep_of p1 p2 d n (by omega)
theorem mb_self {ev:List (Str×Str)}{ns:List Str}(f:Fo ev)(d:Nat)(n:Str):¬n∈mb ev ns d n:=by
 obtain ⟨pth,p1,p2⟩:=f.pt
 intro h
 obtain ⟨c,hc⟩:=mb_path p1 h
 have:=hc.length_le
 rw [List.length_append] at this
 simp at this
 omega
structure Pt where
 nm:Str
 d:Nat
 row:List (Option Int)
structure Kp where
 a:Nat
 m:Nat
 f:Nat
def flD (ts:List Pt):List (Key×W):=ts.map fun t=>(.inr t.nm,.ref t.d)
theorem flD_keys (ts:List Pt):(flD ts).map (·.1)=(ts.map Pt.nm).map Sum.inr:=by unfold flD; rw [List.map_map,List.map_map]; rfl
theorem flD_get {ts:List Pt}(nn:(ts.map Pt.nm).Nodup){t:Pt}(ht:t∈ts):getK (flD ts) (.inr t.nm)=some (.ref t.d):=by
 have nd:((flD ts).map (·.1)).Nodup:=by
  rw [flD_keys]
  unfold List.Nodup
  rw [List.pairwise_map]
  exact nn.imp fun h e=>h (Sum.inr.inj e)
 exact (mem_getK nd).mp (List.mem_map.mpr ⟨t,ht,rfl⟩)
theorem flD_no {ts:List Pt}{z:Str}(hz:¬z∈ts.map Pt.nm):getK (flD ts) (.inr z)=none:=by
 refine getK_nil' fun q=>hz ?_
 rw [flD_keys] at q
 obtain ⟨y,hy,e⟩:=List.mem_map.mp q
 exact Sum.inr.inj e ▸ hy
theorem flD_drop (ts:List Pt)(z:Str):dropD (flD ts) (.inr z)=flD (ts.filter fun s=>decide (s.nm≠z)):=by
 unfold dropD flD
 rw [List.filter_map]
 congr 1
 apply List.filter_congr
 intro s _
 show decide ((Sum.inr s.nm:Key)≠.inr z)=decide (s.nm≠z)
 by_cases e:s.nm=z
 ·simp [e]
 ·have:¬(Sum.inr s.nm:Key)=.inr z:=fun q=>e (Sum.inr.inj q)
  simp [e,this]
structure Pm (h:Mem)(κ:Kp)(ev:List (Str×Str))(ts:List Pt):Prop where
 t:h[κ.a]? = some (tkO κ.m κ.f)
 ms:h[κ.m]? = some (.dic (mkD ev))
 fl:h[κ.f]? = some (.dic (flD ts))∨h[κ.f]? = some (.fdic (flD ts))
 mf:κ.m≠κ.f
 nn:(ts.map Pt.nm).Nodup
 sb:∀ t∈ts,t.nm∈ev.map Prod.fst
 fo:Fo ev
structure Pj (h:Mem)(κ:Kp)(ev:List (Str×Str))(ts:List Pt):Prop where
 t:h[κ.a]? = some (tkO κ.m κ.f)
 ms:h[κ.m]? = some (.dic (mkD ev))
 fl:h[κ.f]? = some (.dic (flD ts))
 dd:∀ t∈ts,t.d≠κ.m∧t.d≠κ.f∧∃ kvs,h[t.d]? = some (.dic kvs)∧Rw kvs t.row
 mf:κ.m≠κ.f
 nn:(ts.map Pt.nm).Nodup
 nd:(ts.map Pt.d).Nodup
 hl:ts.length≤12
 sb:∀ t∈ts,t.nm∈ev.map Prod.fst
 fo:Fo ev
theorem Pj.m {h:Mem}{κ:Kp}{ev:List (Str×Str)}{ts:List Pt}(j:Pj h κ ev ts):Pm h κ ev ts:=⟨j.t,j.ms,.inl j.fl,j.mf,j.nn,j.sb,j.fo⟩
theorem Pj.getF {h:Mem}{κ:Kp}{ev:List (Str×Str)}{ts:List Pt}(j:Pj h κ ev ts){t:Pt}(ht:t∈ts):getK (flD ts) (.inr t.nm)=some (.ref t.d):=flD_get j.nn ht
def Pj.on (κ:Kp)(ts:List Pt)(n:Nat):Prop:=n=κ.a∨n=κ.m∨n=κ.f∨∃ t∈ts,n=t.d
theorem Pj.fr {h h':Mem}{κ:Kp}{ev:List (Str×Str)}{ts:List Pt}(j:Pj h κ ev ts)(e:∀ n,Pj.on κ ts n→h'[n]? = h[n]?):Pj h' κ ev ts:=by
 exact ⟨by rw [e _ (.inl rfl)]; exact j.t,by rw [e _ (.inr (.inl rfl))]; exact j.ms,by rw [e _ (.inr (.inr (.inl rfl)))]; exact j.fl,fun t ht=>by
  obtain ⟨h1,h2,kvs,h3,h4⟩:=j.dd t ht
  exact ⟨h1,h2,kvs,by rw [e _ (.inr (.inr (.inr ⟨t,ht,rfl⟩)))]; exact h3,h4⟩,j.mf,j.nn,j.nd,j.hl,j.sb,j.fo⟩
theorem Pj.is {h:Mem}{κ:Kp}{ev:List (Str×Str)}{ts:List Pt}(j:Pj h κ ev ts){n:Nat}(q:Pj.on κ ts n):(h[n]? = some (tkO κ.m κ.f))∨∃ kvs,h[n]? = some (.dic kvs):=by
 rcases q with rfl | rfl | rfl | ⟨t,ht,rfl⟩
 ·exact .inl j.t
 ·exact .inr ⟨_,j.ms⟩
 ·exact .inr ⟨_,j.fl⟩
 ·obtain ⟨_,_,kvs,e,_⟩:=j.dd t ht; exact .inr ⟨_,e⟩
theorem Pj.app {h:Mem}{κ:Kp}{ev:List (Str×Str)}{ts:List Pt}(j:Pj h κ ev ts)(o:List O):Pj (h++o) κ ev ts:=j.fr fun n q=>by
 have:n<h.length:=by rcases j.is q with e | ⟨_,e⟩ <;> exact (List.getElem?_eq_some_iff.mp e).1
 rw [List.getElem?_append_left this]
theorem Pj.setL {h:Mem}{κ:Kp}{ev:List (Str×Str)}{ts:List Pt}(j:Pj h κ ev ts){n:Nat}{l:List W}(e:h[n]? = some (.lst l))(o:O):Pj (h.set n o) κ ev ts:=j.fr fun m q=>by
 have:n≠m:=by rintro rfl; rcases j.is q with e' | ⟨_,e'⟩ <;> (rw [e] at e'; cases e')
 rw [List.getElem?_set_ne this]
theorem nodup_mid {α β:Type}{f:α→β}{a b:List α}{t:α}(nd:((a++t::b).map f).Nodup){s:α}(hs:s∈a∨s∈b):f s≠f t:=by
 rw [List.map_append,List.map_cons] at nd
 have:=List.nodup_append.mp nd
 rcases hs with hs | hs
 ·exact this.2.2 _ (List.mem_map.mpr ⟨s,hs,rfl⟩) _ List.mem_cons_self
 ·intro e
  have h2:=(List.nodup_cons.mp this.2.1).1
  exact h2 (e ▸ List.mem_map.mpr ⟨s,hs,rfl⟩)
theorem Pj.put {h:Mem}{κ:Kp}{ev:List (Str×Str)}{a b:List Pt}{t:Pt}(j:Pj h κ ev (a++t::b)){kvs:List (Key×W)}{row:List (Option Int)}(r:Rw kvs row):Pj (h.set t.d (.dic kvs)) κ ev (a ++ { t with row:=row }::b):=by
 have ht:t∈a++t::b:=by simp
 obtain ⟨d1,d2,kv0,d3,d4⟩:=j.dd t ht
 have hlt:t.d<h.length:=(List.getElem?_eq_some_iff.mp d3).1
 have ha:t.d≠κ.a:=by intro q; have:=j.t; rw [← q,d3] at this; cases this
 refine ⟨by rw [List.getElem?_set_ne ha]; exact j.t,by rw [List.getElem?_set_ne d1]; exact j.ms,?_,fun s hs=>?_,j.mf,?_,?_,?_,?_,j.fo⟩
 ·rw [List.getElem?_set_ne d2,j.fl]; simp [flD]
 ·have hs':s = { t with row:=row }∨s∈a∨s∈b:=by
   simp only [List.mem_append,List.mem_cons] at hs
   rcases hs with hs | hs | hs
   ·exact .inr (.inl hs)
   ·exact .inl hs
   ·exact .inr (.inr hs)
  rcases hs' with rfl | hs'
  ·exact ⟨d1,d2,kvs,by rw [List.getElem?_set_self hlt],r⟩
  ·have hm:s∈a++t::b:=by simp; rcases hs' with q | q; exact .inl q; exact .inr (.inr q)
   obtain ⟨s1,s2,kv,s3,s4⟩:=j.dd s hm
   exact ⟨s1,s2,kv,by rw [List.getElem?_set_ne (nodup_mid j.nd hs').symm]; exact s3,s4⟩
 ·have:=j.nn; simpa using this
 ·have:=j.nd; simpa using this
 ·have:=j.hl; simpa using this
 ·intro s hs
  have hs':s = { t with row:=row }∨s∈a++t::b:=by
   simp only [List.mem_append,List.mem_cons] at hs ⊢
   rcases hs with hs | hs | hs
   ·exact .inr (.inl hs)
   ·exact .inl hs
   ·exact .inr (.inr (.inr hs))
  rcases hs' with rfl | hs'
  ·exact j.sb t ht
  ·exact j.sb s hs'
def Fk (κ:Kp)(h h':Mem):Prop:=h.length≤h'.length∧∀ n,n<h.length→n≠κ.m→n≠κ.f→h'[n]? = h[n]?
def Fr (h h':Mem):Prop:=h.length≤h'.length∧∀ (n:Nat) (l:List W),h[n]? = some (O.lst l)→h'[n]? = some (O.lst l)
theorem Pj.setF {h:Mem}{κ:Kp}{ev:List (Str×Str)}{ts:List Pt}(j:Pj h κ ev ts)(p:Pt→Bool):Pj (h.set κ.f (.dic (flD (ts.filter p)))) κ ev (ts.filter p):=by
 have hlt:κ.f<h.length:=(List.getElem?_eq_some_iff.mp j.fl).1
 have af:κ.f≠κ.a:=by intro q; have:=j.fl; rw [q,j.t] at this; cases this
 have sl:(ts.filter p).Sublist ts:=List.filter_sublist
 refine ⟨by rw [List.getElem?_set_ne af]; exact j.t,by rw [List.getElem?_set_ne j.mf.symm]; exact j.ms,by rw [List.getElem?_set_self hlt],fun t ht=>?_,j.mf,j.nn.sublist (sl.map _),j.nd.sublist (sl.map _),Nat.le_trans sl.length_le j.hl,fun t ht=>j.sb t (List.mem_filter.mp ht).1,j.fo⟩
 obtain ⟨d1,d2,kvs,d3,d4⟩:=j.dd t (List.mem_filter.mp ht).1
 exact ⟨d1,d2,kvs,by rw [List.getElem?_set_ne d2.symm]; exact d3,d4⟩
theorem kept {h:Mem}{n:Nat}{o x:O}(e:h[n]? = some x):(h++[o])[n]? = some x:=by rw [List.getElem?_append_left (List.getElem?_eq_some_iff.mp e).1]; exact e
theorem xLoop_ix {G:Tg}{B:Sm}(I:Nat→Sg→Mem→Prop):∀ (ws:List W) (i:Nat) (ρ:Sg) (h:Mem),I i ρ h →
  (∀ j w,ws[j]? = some w→∀ ρ h,I (i+j) ρ h→∃ ρ1,G w ρ=some ρ1∧∃ ρ' h',(B ρ1 h=.nx ρ' h'∨B ρ1 h=.ct ρ' h')∧I (i+j+1) ρ' h')→∃ ρ' h',xLoop G B ws ρ h=.nx ρ' h'∧I (i+ws.length) ρ' h'
 | [],i,ρ,h,q,_=>⟨ρ,h,rfl,q⟩
 | w::ws,i,ρ,h,q,t=>by
  obtain ⟨ρ1,e1,ρ2,h2,e2,i2⟩:=t 0 w rfl ρ h q
  obtain ⟨ρ3,h3,e3,i3⟩:=xLoop_ix I ws (i+1) ρ2 h2 i2 fun j u hu ρ h q=>by
   have:=t (j+1) u (by simpa using hu) ρ h (by rw [show i+(j+1)=i+1+j by omega]; exact q)
   rwa [show i+(j+1)+1=i+1+j+1 by omega] at this
  refine ⟨ρ3,h3,?_,by rw [List.length_cons,show i+(ws.length+1)=i+1+ws.length by omega]; exact i3⟩
  unfold xLoop
  rw [e1]
  rcases e2 with e2 | e2 <;> (dsimp only; rw [e2]; exact e3)
theorem xLoopS_ix {G:Tg}{B:Sm}{n:Nat}{all:List W}(I:Nat→Sg→Mem→Prop)(hI:∀ i ρ h,I i ρ h→h[n]? = some (.lst all)):∀ (ws:List W) (i:Nat) (ρ:Sg) (h:Mem),I i ρ h →
  (∀ j w,ws[j]? = some w→∀ ρ h,I (i+j) ρ h→∃ ρ1,G w ρ=some ρ1∧∃ ρ' h',(B ρ1 h=.nx ρ' h'∨B ρ1 h=.ct ρ' h')∧I (i+j+1) ρ' h')→∃ ρ' h',xLoopS G B n all ws ρ h=.nx ρ' h'∧I (i+ws.length) ρ' h'
 | [],i,ρ,h,q,_=>⟨ρ,h,by unfold xLoopS; rw [if_pos (hI _ _ _ q)],q⟩
 | w::ws,i,ρ,h,q,t=>by
  obtain ⟨ρ1,e1,ρ2,h2,e2,i2⟩:=t 0 w rfl ρ h q
  obtain ⟨ρ3,h3,e3,i3⟩:=xLoopS_ix I hI ws (i+1) ρ2 h2 i2 fun j u hu ρ h q=>by
   have:=t (j+1) u (by simpa using hu) ρ h (by rw [show i+(j+1)=i+1+j by omega]; exact q)
   rwa [show i+(j+1)+1=i+1+j+1 by omega] at this
  refine ⟨ρ3,h3,?_,by rw [List.length_cons,show i+(ws.length+1)=i+1+ws.length by omega]; exact i3⟩
  unfold xLoopS
  rw [if_pos (hI _ _ _ q),e1]
  rcases e2 with e2 | e2 <;> (dsimp only; rw [e2]; exact e3)
theorem xBlkS_ix {src:Option Nat}{all:List W}{G:Tg}{c el:Ex}{ρ0:Sg}{n0:Nat}(I:Nat→List W→Mem→Prop)(hsrc:∀ i acc h,I i acc h→srcP src all h):∀ (ws:List W) (i:Nat) (acc:List W) (h:Mem),I i acc h →
  (∀ j w,ws[j]? = some w→∀ acc h,I (i+j) acc h→∃ ρ x h',G w ρ0=some ρ∧c ρ h=.ok (.bl true) h∧el ρ h=.ok x h'∧h'[n0]? = some (.lst acc)∧acc.length<sizeLine∧I (i+j+1) (acc++[x]) (h'.set n0 (.lst (acc++[x])))) →
  ∃ acc' h',xBlkS src all G c el ρ0 n0 ws h=some h'∧I (i+ws.length) acc' h'
 | [],i,acc,h,q,_=>⟨acc,h,by unfold xBlkS; rw [if_pos (hsrc _ _ _ q)],q⟩
 | w::ws,i,acc,h,q,t=>by
  obtain ⟨ρ,x,h',e1,e2,e3,e4,e5,i2⟩:=t 0 w rfl acc h q
  obtain ⟨acc3,h3,e6,i3⟩:=xBlkS_ix I hsrc ws (i+1) _ _ i2 fun j u hu acc h q=>by
   have:=t (j+1) u (by simpa using hu) acc h (by rw [show i+(j+1)=i+1+j by omega]; exact q)
   rwa [show i+(j+1)+1=i+1+j+1 by omega] at this
  refine ⟨acc3,h3,?_,by rw [List.length_cons,show i+(ws.length+1)=i+1+ws.length by omega]; exact i3⟩
  unfold xBlkS
  rw [if_pos (hsrc _ _ _ q),e1]
  dsimp only
  rw [e2]
  dsimp only
  rw [e3]
  dsimp only
  rw [e4]
  dsimp only
  rw [decide_eq_true e5]
  exact e6
theorem xBlkN_map {α:Type}{G:Tg}{c el:Ex}{ρ0:Sg}{h1:Mem}(g r:α→W):∀ (l:List α) (acc:List W),acc.length+l.length≤1000 →
  (∀ a∈l,∀ acc,∃ ρ,G (g a) ρ0=some ρ∧c ρ (h1++[.lst acc])=.ok (.bl true) (h1++[.lst acc])∧el ρ (h1++[.lst acc])=.ok (r a) (h1++[.lst acc]))→xBlkN G c el ρ0 h1.length (l.map g) (h1++[.lst acc])=some (h1++[.lst (acc++l.map r)])
 | [],acc,_,_=>by
  rw [List.map_nil,List.map_nil,List.append_nil]
  unfold xBlkN
  rfl
 | a::l,acc,hl,ht=>by
  obtain ⟨ρ,e1,e2,e3⟩:=ht a List.mem_cons_self acc
  have ih:=xBlkN_map g r l (acc++[r a]) (by simp at hl ⊢; omega) fun b hb=>ht b (List.mem_cons_of_mem _ hb)
  rw [List.map_cons,List.map_cons]
  unfold xBlkN
  rw [e1]
  dsimp only
  rw [e2]
  dsimp only
  rw [e3]
  dsimp only
  have e4:(h1++[O.lst acc])[h1.length]? = some (.lst acc):=by simp
  have e5:(h1++[O.lst acc]).set h1.length (.lst (acc++[r a]))=h1++[.lst (acc++[r a])]:=by rw [List.set_append_right _ _ (Nat.le_refl _)]; simp
  rw [e4]
  dsimp only
  have e6:decide (acc.length<sizeLine)=true:=decide_eq_true (by rw [sizeLine_eq]; simp at hl; omega)
  rw [e6,e5]
  show xBlkN G c el ρ0 h1.length (l.map g) _=_
  rw [ih]
  simp
def S_init (F:Fm):Prop:=F [.ref 0] [.ins "Tasks" []]=.ok .non [tkO 1 2,.dic [],.dic []]∧F [.ref 3] [tkO 1 2,.dic [],.dic [],.ins "Tasks" []]=.ok .non [tkO 1 2,.dic [],.dic [],tkO 4 5,.dic [],.dic []]
theorem ok_init (T:Tx K mg C){f:Addr}{fd:FuncData}(R:Fun K "__init__" "Tasks.__init__" s_Tasks__init f fd):∃ F,FnOk P w K mg base CX0 1 f fd ["self"] (spH (T0 C) F)∧S_init F:=by
 refine ⟨_,(funM R sc_Tasks__init (hB:=fun cdv A outer s H E φ0 H0 hr=>(qb_cons (qs_fld (q_var 0) q_dnew T.f_makers)
   (qb_one (qs_fld (q_var 0) q_dnew T.f_filled))))) selfF_ex selfF_told,?_⟩
 refine ⟨selfF_ok rfl ?_ (by simp),selfF_ok rfl ?_ (by simp)⟩ <;> simp! [xDNew,xSetF,putW,n_mf,tkO]
def S_name (F:Fm):Prop:=∀ h,∀ z:Str,z.length≤100→F [.str z] h=.ok (.bl (nameS z)) h
theorem ok_name (T:Tx K mg C)(R:DefAt K mg "is_name" s_is_name):∃ F,FnAt P w K mg base CX0 1 "is_name" (spH (T0 C) F)∧S_name F:=by
 refine ⟨_,(def0s R sc_is_name bd_is_name (hB:=fun f cdv A outer s H E φ0 H0 hr=>(qb_cons (qs_if (qt_w (qw_or (qt_not (qt_val (q_cb (isiX_ok T.ins T.exo T.kit) (call_isiX K rfl) rfl T.b_isinstance (by first | exact boot_b_isinstance | rfl) (qa_cons (q_var 0) (qa_cons (q_ty "str" rfl T.b_str (by first | exact boot_ty_str | rfl)) qa_nil))))) (qw_or1 (qt_not (qt_chain op_leS op_leS leM_ok leM_ok q_int (q_cb lenM_ok call_lenV rfl T.b_len (by first | exact boot_b_len | rfl) (qa_cons (q_var 0) qa_nil)) (q_gci rfl T.c_LONGEST_NAME)))))) (qb_one (qs_ret q_bl)) qb_nil)
   (qb_one (qs_ret (q_cb allBM_ok (call_allV rfl) rfl T.b_all (by first | exact boot_b_all | rfl) (qa_cons (q_comp (osc:=defScope s_is_name) (N:=["thing"]) (own:=["sign"]) (fr:=[]) (ix:=[]) rfl rfl rfl (by decide +kernel) (qi_str (q_var 0)) (fun _=>(tg_name (zb_set (by decide)))) (fun _ _ _ _ _=>(qg_cn 0 (by decide +kernel) rfl (by decide +kernel) rfl)) (fun _ _ _ _ _ _=>qc_nil) (fun _ _ _ _ _ _=>(q_chain op_leS op_leS leM_ok leM_ok q_str (q_var 0) q_str))) qa_nil))))))),fun h z hz=>selfF_ok rfl ?_ (Nat.le_refl _)⟩
 ·have hz':z.length≤sizeLine:=by rw [sizeLine_eq]; omega
  have ec:∀ ρ,ρ=[some (W.str z)]→xComp (xIs (xVar 0)) 1 [] (gN 0) (xC (.bl true)) (xChain leM leM (xC (.str "a")) (xVar 0) (xC (.str "z"))) ρ h=.ok (.tl ((z.cps.toList.map fun c=>decide (97≤c) && decide (c≤122)).map W.bl)) h:=by
   rintro ρ rfl
   rw [List.map_map]
   refine xComp_map (fun c=>W.str ⟨#[c]⟩) _ z.cps.toList (s:=none) ?_ ?_ ?_
   ·simp! [signs]
   ·rw [← length_codes,sizeLine_eq]; omega
   ·intro c _ acc
    refine ⟨_,rfl,⟨h++[.lst acc],?_⟩,rfl⟩
    by_cases q:97≤c <;> simp! [le_a,le_z,q]
  have hz1:z.length≤16777216:=by omega
  by_cases e1:(1:Int)≤z.length
  ·by_cases e2:(z.length:Int)≤8
   ·have e3:1≤z.length:=by omega
    have e4:z.length≤8:=by omega
    simp_arith [e1,e2,e3,e4,hz1,ec,nameS,bolW_comp,List.all_map,kg_0,kg_1,kg_2,kg_3,kg_4,kg_5,kg_6,kg_7,kg_8,kg_9,kg_10,kg_11,kg_12,kg_13,kg_14,kg_15]
   ·have e4:¬z.length≤8:=by omega
    simp_arith [e1,e2,e4,hz1,nameS,kg_0,kg_1,kg_2,kg_3,kg_4,kg_5,kg_6,kg_7,kg_8,kg_9,kg_10,kg_11,kg_12,kg_13,kg_14,kg_15]
  ·have e3:¬1≤z.length:=by omega
   simp_arith [e1,e3,hz1,nameS,kg_0,kg_1,kg_2,kg_3,kg_4,kg_5,kg_6,kg_7,kg_8,kg_9,kg_10,kg_11,kg_12,kg_13,kg_14,kg_15]
def S_num (F:Fm):Prop:=∀ h,(∀ i,F [.int i] h=.ok (.bl true) h)∧(∀ b,F [.bl b] h=.ok (.bl false) h)∧F [.non] h=.ok (.bl false) h∧(∀ z,F [.str z] h=.ok (.bl false) h)∧∀ l,F [.tl l] h=.ok (.bl false) h
theorem ok_num (T:Tx K mg C)(R:DefAt K mg "is_number" s_is_number):∃ F,FnAt P w K mg base CX0 1 "is_number" (spH (T0 C) F)∧S_num F:=by
 refine ⟨_,(def0s R sc_is_number bd_is_number (hB:=fun f cdv A outer s H E φ0 H0 hr=>(qb_one (qs_ret (q_and (q_cb (isiX_ok T.ins T.exo T.kit) (call_isiX K rfl) rfl T.b_isinstance (by first | exact boot_b_isinstance | rfl) (qa_cons (q_var 0) (qa_cons (q_ty "int" rfl T.b_int (by first | exact boot_ty_int | rfl)) qa_nil))) (q_one (q_not (q_cb (isiX_ok T.ins T.exo T.kit) (call_isiX K rfl) rfl T.b_isinstance (by first | exact boot_b_isinstance | rfl) (qa_cons (q_var 0) (qa_cons (q_ty "bool" rfl T.b_bool (by first | exact boot_ty_bool | rfl)) qa_nil)))))))))),fun h=>⟨fun i=>selfF_ok rfl ?_ (Nat.le_refl _),fun b=>selfF_ok rfl ?_ (Nat.le_refl _),selfF_ok rfl ?_ (Nat.le_refl _),fun z=>selfF_ok rfl ?_ (Nat.le_refl _),fun l=>selfF_ok rfl ?_ (Nat.le_refl _)⟩⟩ <;> simp_arith [kg_0,kg_1,kg_2,kg_3,kg_4,kg_5,kg_6,kg_7,kg_8,kg_9,kg_10,kg_11,kg_12,kg_13,kg_14,kg_15]
def noT (ts:List Pt)(w:W):Prop:=nsW w∨∃ z,w=.str z∧¬z∈ts.map Pt.nm
def S_need (F:Fm):Prop:=∀ h κ ev ts,Pm h κ ev ts→(∀ w,noT ts w→F [.ref κ.a,w] h=.ex (.exc "NoTask" [] []) h)∧∀ t∈ts,F [.ref κ.a,.str t.nm] h=.ok .non h
theorem ok_need (T:Tx K mg C){f:Addr}{fd:FuncData}(R:Fun K "need" "Tasks.need" s_Tasks_need f fd):∃ F,FnOk P w K mg base (CXe true P w) 1 f fd ["self","name"] (spH (T0 C) F)∧S_need F:=by
 refine ⟨_,(funX R sc_Tasks_need (hB:=fun cdv A outer s H E φ0 hr hx=>(qb_one (qs_if (qt_w (qw_or (qt_not (qt_val (q_cb (isiX_ok T.ins T.exo T.kit) (call_isiX K rfl) rfl T.b_isinstance (by first | exact boot_b_isinstance | rfl) (qa_cons (q_var 1) (qa_cons (q_ty "str" rfl T.b_str (by first | exact boot_ty_str | rfl)) qa_nil))))) (qw_or1 (qt_cmp (op_notInV hr) inM_ok (q_var 1) (q_fld (q_var 0) T.f_filled) (by rfl))))) (qb_one (qs_raise T.rz_NoTask hx rfl (qa_cons q_str qa_nil))) qb_nil)))) selfX_told,?_⟩
 intro h κ ev ts S
 have e:=S.t
 simp only [tkO] at e
 refine ⟨fun w hw=>selfX_exc rfl ?_ (by simp),fun t ht=>selfX_ok rfl ?_ (by simp)⟩
 ·rcases hw with hw | ⟨z,rfl,hz⟩
  ·subst hw; simp_arith [kg_0,kg_1,kg_2,kg_3,kg_4,kg_5,kg_6,kg_7,kg_8,kg_9,kg_10,kg_11,kg_12,kg_13,kg_14,kg_15]
  ·have g:=flD_no hz
   rcases S.fl with e2 | e2 <;> simp_arith [e,e2,fldM,lk2,g,kg_0,kg_1,kg_2,kg_3,kg_4,kg_5,kg_6,kg_7,kg_8,kg_9,kg_10,kg_11,kg_12,kg_13,kg_14,kg_15]
 ·have g:=flD_get S.nn ht
  rcases S.fl with e2 | e2 <;> simp_arith [e,e2,fldM,lk2,g,kg_0,kg_1,kg_2,kg_3,kg_4,kg_5,kg_6,kg_7,kg_8,kg_9,kg_10,kg_11,kg_12,kg_13,kg_14,kg_15]
def S_new (F:Fm):Prop:=∀ h κ ev ts z,Pj h κ ev ts→nameS z=true→(¬z∈ev.map Prod.fst→F [.ref κ.a,.str z] h=.ok .non h)∧(z∈ev.map Prod.fst→F [.ref κ.a,.str z] h=.ex (.exc "Taken" [] []) h)
theorem ok_new (T:Tx K mg C){Fn:Fm}(hFn:S_name Fn)(G_is_name:FnAt P w K mg base CX0 1 "is_name" (spH (T0 C) Fn)){f:Addr}{fd:FuncData}(R:Fun K "need_new" "Tasks.need_new" s_Tasks_need_new f fd):∃ F,FnOk P w K mg base (CXe true P w) 2 f fd ["self","name"] (spH (T0 C) F)∧S_new F:=by
 refine ⟨_,(funX R sc_Tasks_need_new (hB:=fun cdv A outer s H E φ0 hr hx=>(qb_cons (qs_if (qt_not (qt_val (q_fn0 G_is_name hr (by decide) rfl (qa_cons (q_var 1) qa_nil)))) (qb_one (qs_raise T.rz_NoName hx rfl (qa_cons q_str qa_nil))) qb_nil)
   (qb_one (qs_if (qt_cmp (op_inV hr) inM_ok (q_var 1) (q_fld (q_var 0) T.f_makers) (by rfl)) (qb_one (qs_raise T.rz_Taken hx rfl (qa_cons q_str qa_nil))) qb_nil))))) selfX_told,?_⟩
 intro h κ ev ts z S hn
 have e2:=S.ms
 have e:=S.t
 simp only [tkO] at e
 have hl:z.length≤100:=by
  unfold nameS at hn
  simp only [Bool.and_eq_true,decide_eq_true_eq] at hn
  omega
 have q:=hFn h z hl
 rw [hn] at q
 refine ⟨fun hm=>selfX_ok rfl ?_ (by simp),fun hm=>selfX_exc rfl ?_ (by simp)⟩
 ·have g:=getK_none (mkD_keys ev) hm
  simp! [q,e,e2,fldM,lk1,g]
 ·have g:=getK_keys (mkD_keys ev) z
  rw [decide_eq_true hm] at g
  simp! [q,e,e2,fldM,lk1,g]
def S_added (F:Fm):Prop:=∀ h κ ev ts z,Pj h κ ev ts→nameS z=true→(z∈ev.map Prod.fst→∀ x,F [.ref κ.a,.str z,x] h=.ex (.exc "Taken" [] []) h)∧(¬z∈ev.map Prod.fst→(∀ y,¬y=Str.ofString ""→¬y∈ts.map Pt.nm→F [.ref κ.a,.str z,.str y] h=.ex (.exc "NoTask" [] []) h)∧∀ y,(y=Str.ofString ""∨y∈ts.map Pt.nm) →
 (12≤ts.length→F [.ref κ.a,.str z,.str y] h=.ex (.exc "TooMany" [] []) h)∧(ts.length<12→ev.length≤1000→∃ h',F [.ref κ.a,.str z,.str y] h=.ok .non h'∧Fk κ h h'∧Pj h' κ (ev++[(z,y)]) (ts++[⟨z,h.length,List.replicate 16 none⟩])))
theorem rw_nil:Rw [] (List.replicate 16 none):=⟨rfl,by simp,fun i=>by
 unfold slotV
 have:(List.replicate 16 (none:Option Int)).getD i.toNat none=none:=by
  rw [List.getD_eq_getElem?_getD,List.getElem?_replicate]
  split <;> rfl
 rw [this]
 split <;> rfl,fun z=>rfl⟩
theorem ok_added (T:Tx K mg C){Fn Fw:Fm}(hFn:S_need Fn)(hFw:S_new Fw)(M_need:TabX P w K mg base (T0 C) true 1 "need" (tab1 Fn))(M_need_new:TabX P w K mg base (T0 C) true 2 "need_new" (tab1 Fw))
  {f:Addr} {fd:FuncData} (R:Fun K "added" "Tasks.added" s_Tasks_added f fd):∃ F,FnOk P w K mg base (CXe true P w) 3 f fd ["self","name","maker"] (spH (T0 C) F)∧S_added F:=by
 refine ⟨_,(funX R sc_Tasks_added (hB:=fun cdv A outer s H E φ0 hr hx=>(qb_cons (qs_expr (q_methX T.ins M_need_new hx hr (by decide) (q_var 0) (qa_cons (q_var 1) qa_nil)))
   (qb_cons (qs_if (qt_w (qw_or (qt_not (qt_val (q_cb (isiX_ok T.ins T.exo T.kit) (call_isiX K rfl) rfl T.b_isinstance (by first | exact boot_b_isinstance | rfl) (qa_cons (q_var 2) (qa_cons (q_ty "str" rfl T.b_str (by first | exact boot_ty_str | rfl)) qa_nil))))) (qw_or1 (qt_cmp (op_neF hr) neO_ok (q_var 2) q_str (nomark _))))) (qb_one (qs_expr (q_methX T.ins M_need hx hr (by decide) (q_var 0) (qa_cons (q_var 2) qa_nil)))) qb_nil)
   (qb_cons (qs_if (qt_cmp op_ge geM_ok (q_cb lenM_ok call_lenV rfl T.b_len (by first | exact boot_b_len | rfl) (qa_cons (q_fld (q_var 0) T.f_filled) qa_nil)) (q_gci rfl T.c_MOST_RUNNING) (nomark _)) (qb_one (qs_raise T.rz_TooMany hx rfl (qa_cons q_str qa_nil))) qb_nil)
   (qb_cons (qs_setd hr (q_fld (q_var 0) T.f_makers) (q_var 1) (q_var 2))
   (qb_one (qs_setd hr (q_fld (q_var 0) T.f_filled) (q_var 1) q_dnew)))))))) selfX_told,?_⟩
 intro h κ ev ts z S hn
 have e1:=S.ms
 have e2:=S.fl
 have e:=S.t
 simp only [tkO] at e
 obtain ⟨w1,w2⟩:=hFw h κ ev ts z S hn
 obtain ⟨b1,b2⟩:=hFn h κ ev ts S.m
 refine ⟨fun hm x=>selfX_exc rfl ?_ (by simp),fun hm=>⟨fun y h0 hy=>selfX_exc rfl ?_ (by simp),fun y hy=>?_⟩⟩
 ·have q:=w2 hm
  simp! [e,q,xMeth,tb1,no_need_new]
 ·have q:=w1 hm
  have q2:=b1 (.str y) (.inr ⟨y,rfl,hy⟩)
  simp_arith [e,q,q2,h0,xMeth,tb1,no_need_new,no_need,kg_0,kg_1,kg_2,kg_3,kg_4,kg_5,kg_6,kg_7,kg_8,kg_9,kg_10,kg_11,kg_12,kg_13,kg_14,kg_15]
 have q:=w1 hm
 have hm2:¬z∈ts.map Pt.nm:=fun x=>by
  obtain ⟨t,ht,rfl⟩:=List.mem_map.mp x
  exact hm (S.sb t ht)
 have ll:(flD ts).length=ts.length:=by unfold flD; simp
 have st1:xDrop (xMethX (Str.ofString "need_new") (tab1 Fw) (xVar 0) (xCons (xVar 1) xNil)) [some (.ref κ.a),some (.str z),some (.str y)] h=.nx [some (.ref κ.a),some (.str z),some (.str y)] h:=by simp! [e,q,xMeth,tb1,no_need_new]
 generalize hI:xIfS (xOr _ _) _ _=I2
 have st2:I2 [some (.ref κ.a),some (.str z),some (.str y)] h=.nx [some (.ref κ.a),some (.str z),some (.str y)] h:=by
  rw [← hI]
  by_cases h1:y=Str.ofString ""
  ·subst h1
   simp_arith [kg_0,kg_1,kg_2,kg_3,kg_4,kg_5,kg_6,kg_7,kg_8,kg_9,kg_10,kg_11,kg_12,kg_13,kg_14,kg_15]
  ·obtain ⟨t,ht,rfl⟩:=List.mem_map.mp (hy.resolve_left h1)
   have q2:=b2 t ht
   simp_arith [e,q2,h1,xMeth,tb1,no_need,kg_0,kg_1,kg_2,kg_3,kg_4,kg_5,kg_6,kg_7,kg_8,kg_9,kg_10,kg_11,kg_12,kg_13,kg_14,kg_15]
 refine ⟨fun hl=>selfX_exc rfl ?_ (by simp),fun hl hev=>?_⟩
 ·have hc:(12:Int)≤((flD ts).length:Int):=by omega
  refine congrArg Out.res (?_:_=Out.ex (.exc "TooMany" [] []) h)
  refine (xSeq_nx st1).trans ?_
  refine (xSeq_nx st2).trans ?_
  simp! [e,e2,hc,fldM,lk2]
 have lm:(mkD ev).length=ev.length:=by unfold mkD; simp
 have hc:¬(12:Int)≤((flD ts).length:Int):=by omega
 have hm1:(mkD ev).length<16777216:=by omega
 have hf1:(flD ts).length<16777216:=by omega
 have am:κ.m≠κ.a:=by intro q; have:=e1; rw [q,e] at this; cases this
 have af:κ.f≠κ.a:=by intro q; have:=e2; rw [q,e] at this; cases this
 have h1lt:κ.m<h.length:=(List.getElem?_eq_some_iff.mp e1).1
 have h2lt:κ.f<h.length:=(List.getElem?_eq_some_iff.mp e2).1
 have emk:putD (mkD ev) (.inr z) (.str y)=mkD (ev++[(z,y)]):=by rw [putD_new (mkD_keys ev) hm]; simp [mkD]
 obtain ⟨h1,eh1⟩:∃ h1,h.set κ.m (.dic (mkD (ev++[(z,y)])))=h1:=⟨_,rfl⟩
 have g0:h1[κ.a]? = some (O.ins "Tasks" [("makers",.ref κ.m),("filled",.ref κ.f)]):=by rw [← eh1,List.getElem?_set_ne am]; exact e
 have g2:h1[κ.f]? = some (O.dic (flD ts)):=by rw [← eh1,List.getElem?_set_ne S.mf]; exact e2
 have hl1:h1.length=h.length:=by rw [← eh1]; simp
 obtain ⟨h2,eh2⟩:∃ h2,h1++[O.dic []]=h2:=⟨_,rfl⟩
 have g3:h2[κ.a]? = some (O.ins "Tasks" [("makers",.ref κ.m),("filled",.ref κ.f)]):=by rw [← eh2]; exact kept g0
 have g4:h2[κ.f]? = some (O.dic (flD ts)):=by rw [← eh2]; exact kept g2
 have hl2:h2.length=h.length+1:=by rw [← eh2]; simp [hl1]
 have pf:putD (flD ts) (.inr z) (.ref h.length)=flD (ts++[⟨z,h.length,List.replicate 16 none⟩]):=by
  rw [putD_new (l:=ts.map Pt.nm) (flD_keys ts) hm2]; simp [flD]
 refine ⟨h2.set κ.f (.dic (flD (ts++[⟨z,h.length,List.replicate 16 none⟩]))),selfX_ok rfl ?_ (by simp; omega),?_,?_⟩
 ·refine congrArg Out.res (?_:_=Out.nx [some (.ref κ.a),some (.str z),some (.str y)] _)
  refine (xSeq_nx st1).trans ?_
  refine (xSeq_nx st2).trans ?_
  refine (xSeq_nx (ρ':=[some (.ref κ.a),some (.str z),some (.str y)]) (h':=h) (by simp! [e,e2,hc,fldM,lk2])).trans ?_
  refine (xSeq_nx (ρ':=[some (.ref κ.a),some (.str z),some (.str y)]) (h':=h1) (by simp! [e,e1,hm1,emk,eh1,fldM,lk1,xSetD,setD])).trans ?_
  simp! [xSetD,xDNew,eh2,g3,g4,hf1,hl1,pf,fldM,lk2,setD]
 ·exact ⟨by simp; omega,fun n hn h3 h4=>by rw [List.getElem?_set_ne (fun q=>h4 q.symm),← eh2,List.getElem?_append_left (by omega),← eh1,List.getElem?_set_ne (fun q=>h3 q.symm)]⟩
 ·have a0:(h2.set κ.f (O.dic (flD (ts++[⟨z,h.length,List.replicate 16 none⟩]))))[κ.f]? = some (O.dic (flD (ts++[⟨z,h.length,List.replicate 16 none⟩]))):=by rw [List.getElem?_set_self (by omega)]
  have g5:h2[κ.m]? = some (O.dic (mkD (ev++[(z,y)]))):=by rw [← eh2]; exact kept (by rw [← eh1,List.getElem?_set_self h1lt])
  have z0:z≠Str.ofString "":=fun q=>by
   rw [q] at hn
   exact absurd hn (by decide +kernel)
  refine ⟨by rw [List.getElem?_set_ne af]; exact g3,by rw [List.getElem?_set_ne S.mf.symm]; exact g5,a0,fun t ht=>?_,S.mf,?_,?_,by simp; omega,fun t ht=>?_,S.fo.add hm z0 (hy.imp id fun q=>?_)⟩
  ·rcases List.mem_append.mp ht with ht | ht
   ·obtain ⟨d1,d2,kvs,d3,d4⟩:=S.dd t ht
    refine ⟨d1,d2,kvs,?_,d4⟩
    rw [List.getElem?_set_ne d2.symm,← eh2]
    refine kept ?_
    rw [← eh1,List.getElem?_set_ne d1.symm]; exact d3
   ·obtain rfl:=List.mem_singleton.mp ht
    refine ⟨by show h.length≠κ.m; omega,by show h.length≠κ.f; omega,[],?_,rw_nil⟩
    show (h2.set κ.f _)[h.length]? = _
    rw [List.getElem?_set_ne (by omega),← eh2,← hl1]; simp
  ·rw [List.map_append,List.nodup_append]
   refine ⟨S.nn,by simp,fun a ha b hb q=>hm2 ?_⟩
   have hb:b=z:=by simpa using hb
   rw [← hb,← q]; exact ha
  ·rw [List.map_append,List.nodup_append]
   refine ⟨S.nd,by simp,fun a ha b hb q=>?_⟩
   have hb:b=h.length:=by simpa using hb
   obtain ⟨t,ht,rfl⟩:=List.mem_map.mp ha
   obtain ⟨_,_,kvs,d3,_⟩:=S.dd t ht
   have:=(List.getElem?_eq_some_iff.mp d3).1
   omega
  ·rw [List.map_append]
   rcases List.mem_append.mp ht with ht | ht
   ·exact List.mem_append_left _ (S.sb t ht)
   ·obtain rfl:=List.mem_singleton.mp ht
    exact List.mem_append_right _ (by simp)
  ·obtain ⟨t,ht,rfl⟩:=List.mem_map.mp q
   exact S.sb t ht
def nmW (ts:List Pt):List W:=ts.map fun t=>.str t.nm
def S_running (F:Fm):Prop:=∀ h κ ev ts,Pj h κ ev ts→F [.ref κ.a] h=.ok (.ref h.length) (h++[.lst (nmW ts)])
theorem ok_running (T:Tx K mg C){f:Addr}{fd:FuncData}(R:Fun K "running" "Tasks.running" s_Tasks_running f fd):∃ F,FnOk P w K mg base CX0 1 f fd ["self"] (spH (T0 C) F)∧S_running F:=by
 refine ⟨_,(funM R sc_Tasks_running (hB:=fun cdv A outer s H E φ0 H0 hr=>(qb_one (qs_ret (q_keys rfl rfl T.b_list (by first | exact boot_ty_list | rfl) (q_fld (q_var 0) T.f_filled)))))) selfF_ex selfF_told,?_⟩
 intro h κ ev ts S
 have e2:=S.fl
 have e:=S.t
 simp only [tkO] at e
 have ek:keyWs (flD ts)=nmW ts:=by unfold keyWs flD nmW; rw [List.map_map]; rfl
 refine selfF_ok rfl ?_ (by simp)
 simp! [e,e2,xKeys,fldM,lk2,ek]
theorem isNone_not {α:Type}(x:Option α):(!x.isSome)=x.isNone:=by cases x <;> rfl
theorem map_isSome {α β:Type}(x:Option α)(f:α→β):(x.map f).isSome=x.isSome:=by cases x <;> rfl
def S_put (F:Fm):Prop:=∀ h κ ev ts,Pj h κ ev ts→(∀ w x,noT ts w→F [.ref κ.a,w,x] h=.ex (.exc "NoTask" [] []) h)∧∀ a b t v,ts=a++t::b→(t.row.findIdx? Option.isNone=none→F [.ref κ.a,.str t.nm,.int v] h=.ex (.exc "TooMany" [] []) h) ∧
 ∀ i,t.row.findIdx? Option.isNone=some i→∃ kvs,Rw kvs (t.row.set i (some v))∧F [.ref κ.a,.str t.nm,.int v] h=.ok (.int (i:Nat)) (h.set t.d (.dic kvs))
theorem ok_put (T:Tx K mg C){Fn:Fm}(hFn:S_need Fn)(M_need:TabX P w K mg base (T0 C) true 1 "need" (tab1 Fn))
  {f:Addr} {fd:FuncData} (R:Fun K "put" "Tasks.put" s_Tasks_put f fd):∃ F,FnOk P w K mg base (CXe true P w) 2 f fd ["self","name","number"] (spH (T0 C) F)∧S_put F:=by
 refine ⟨_,(funX R sc_Tasks_put (hB:=fun cdv A outer s H E φ0 hr hx=>(qb_cons (qs_expr (q_methX T.ins M_need hx hr (by decide) (q_var 0) (qa_cons (q_var 1) qa_nil)))
   (qb_cons (qs_set (i:=3) sc_Tasks_put.nd rfl (Or.inr rfl) (fun _ _ _=>trivial) (q_dget hr (q_fld (q_var 0) T.f_filled) (q_var 1) (fun _ _=>rfl)))
   (qb_cons (qs_setc (osc:=defScope s_Tasks_put) (N:=["self","name","number","filled","empty"]) (own:=["slot"]) (fr:=["filled"]) (ix:=[3]) (i:=4) sc_Tasks_put.nd rfl rfl (fun _ _ _=>trivial) rfl rfl rfl (by decide +kernel) (qi_range1 rfl T.b_range (q_gci rfl T.c_SLOT_COUNT)) (fun _=>(tg_name (zb_set (by decide)))) (fun _ _ _ _ _=>(qg_cn 0 (by decide +kernel) rfl (by decide +kernel) rfl)) (fun _ _ _ _ _ _=>(qc_one (qt_cmp (op_notInV hr) inM_ok (q_var 0) (q_var 1) (by rfl)))) (fun _ _ _ _ _ _=>(q_var 0)))
   (qb_cons (qs_if (qt_cmp (op_eqF hr) eqO_ok (q_cb lenM_ok call_lenV rfl T.b_len (by first | exact boot_b_len | rfl) (qa_cons (q_var 4) qa_nil)) q_int (nomark _)) (qb_one (qs_raise T.rz_TooMany hx rfl (qa_cons q_str qa_nil))) qb_nil)
   (qb_cons (qs_setd hr (q_var 3) (q_ix ix_any ixM_ok (q_var 4) q_int (fun _ _=>rfl)) (q_var 2))
   (qb_one (qs_ret (q_ix ix_any ixM_ok (q_var 4) q_int (fun _ _=>rfl))))))))))) selfX_told,?_⟩
 intro h κ ev ts S
 have e2:=S.fl
 have e:=S.t
 simp only [tkO] at e
 obtain ⟨b1,b2⟩:=hFn h κ ev ts S.m
 refine ⟨fun w x hw=>selfX_exc rfl ?_ (by simp),?_⟩
 ·have q:=b1 w hw
  simp! [e,q,xMeth,tb1,no_need]
 rintro a b t v rfl
 have ht:t∈a++t::b:=by simp
 have q:=b2 t ht
 have gf:=S.getF ht
 obtain ⟨d1,d2,kvs,d3,r⟩:=S.dd t ht
 generalize hC:xComp (xIr1 _) _ _ _ _ _=Cm
 have ec:∀ v4,Cm [some (.ref κ.a),some (.str t.nm),some (.int v),some (.ref t.d),v4] h=.ok (.tl ((fullN Option.isNone t.row).map fun (k:Nat)=>W.int (0+(k:Int)))) h:=by
  intro v4
  rw [← hC]
  refine xComp_fil (fun k:Nat=>W.int (0+(k:Int))) (fun k:Nat=>W.int (0+(k:Int))) (fun k=>Option.isNone (t.row.getD k none)) (List.range 16) (s:=none) ?_ ?_ ?_
  ·simp! [rngW]
  ·rw [List.length_range,sizeLine_eq]; omega
  ·intro k hk acc
   have g:=r.get (k:Int)
   rw [slotV_nat] at g
   have dk:(h++[O.lst acc])[t.d]? = some (.dic kvs):=kept d3
   refine ⟨_,rfl,⟨h++[.lst acc],?_⟩,fun _=>⟨⟨h++[.lst acc],?_⟩,rfl⟩⟩
   ·rw [← isNone_not,← map_isSome (t.row.getD k none) W.int,← g]
    simp! [dk]
   ·simp! [xNo]
 have s1:∀ v3 v4,xDrop (xMethX (Str.ofString "need") (tab1 Fn) (xVar 0) (xCons (xVar 1) xNil)) [some (.ref κ.a),some (.str t.nm),some (.int v),v3,v4] h=.nx [some (.ref κ.a),some (.str t.nm),some (.int v),v3,v4] h:=by
  intro v3 v4
  simp! [e,q,tb1,no_need]
 have fe:=first_empty r.len
 refine ⟨fun hi=>selfX_exc rfl ?_ (by simp),fun i hi=>?_⟩
 ·rw [hi] at fe
  have fe0:fullN Option.isNone t.row=[]:=List.head?_eq_none_iff.mp fe
  refine congrArg Out.res (?_:_=Out.ex (.exc "TooMany" [] []) h)
  refine (xSeq_nx (s1 _ _)).trans ?_
  refine (xSeq_nx (ρ':=[some (.ref κ.a),some (.str t.nm),some (.int v),some (.ref t.d),none]) (h':=h) (by simp! [e,e2,fldM,lk2,dgetM,gf])).trans ?_
  refine (xSeq_nx (ρ':=[some (.ref κ.a),some (.str t.nm),some (.int v),some (.ref t.d),some (.tl [])]) (h':=h) (by simp! [ec,fe0])).trans ?_
  simp! [xNo]
 ·rw [hi] at fe
  obtain ⟨rest,fe0⟩:∃ rest,fullN Option.isNone t.row=i::rest:=by
   cases q:fullN Option.isNone t.row with
   | nil=>rw [q] at fe; cases fe
   | cons x l=>rw [q] at fe; cases fe; exact ⟨l,rfl⟩
  have hm:i∈fullN Option.isNone t.row:=by rw [fe0]; exact List.mem_cons_self
  unfold fullN at hm
  obtain ⟨hm1,hm2⟩:=List.mem_filter.mp hm
  have h16:=List.mem_range.mp hm1
  have hnone:t.row.getD i none=none:=by
   cases q:t.row.getD i none with
   | none=>rfl
   | some z=>rw [q] at hm2; cases hm2
  obtain ⟨p1,p2⟩:=r.put h16 v hnone
  have hsm:=r.small
  have hk:kvs.length<16777216:=by omega
  have hrl:rest.length+1≤16777216:=by
   have h1:(fullN Option.isNone t.row).length≤16:=by
    unfold fullN
    refine Nat.le_trans (List.length_filter_le _ _) ?_
    simp
   rw [fe0] at h1
   simp at h1
   omega
  refine ⟨_,p2,selfX_ok rfl ?_ (by simp)⟩
  refine congrArg Out.res (?_:_=Out.rt (.int (i:Nat)) (h.set t.d (.dic (kvs++[(.inl (i:Int),.int v)]))))
  refine (xSeq_nx (s1 _ _)).trans ?_
  refine (xSeq_nx (ρ':=[some (.ref κ.a),some (.str t.nm),some (.int v),some (.ref t.d),none]) (h':=h) (by simp! [e,e2,fldM,lk2,dgetM,gf])).trans ?_
  refine (xSeq_nx (ρ':=[some (.ref κ.a),some (.str t.nm),some (.int v),some (.ref t.d),some (.tl (.int (i:Nat)::rest.map fun (k:Nat)=>W.int (k:Int)))]) (h':=h) (by simp! [ec,fe0])).trans ?_
  have hz:¬((rest.length:Int)+1=0):=by omega
  refine (xSeq_nx (ρ':=[some (.ref κ.a),some (.str t.nm),some (.int v),some (.ref t.d),some (.tl (.int (i:Nat)::rest.map fun (k:Nat)=>W.int (k:Int)))]) (h':=h) (by simp! [hz])).trans ?_
  refine (xSeq_nx (ρ':=[some (.ref κ.a),some (.str t.nm),some (.int v),some (.ref t.d),some (.tl (.int (i:Nat)::rest.map fun (k:Nat)=>W.int (k:Int)))]) (h':=h.set t.d (.dic (kvs++[(.inl (i:Int),.int v)]))) (by simp! [atI_0,d3,hk,p1,xSetD,setD])).trans ?_
  simp! [atI_0]
def noN (w:W):Prop:=(∃ b,w=.bl b)∨w=.non∨(∃ z,w=.str z)∨∃ l,w=.tl l
def S_at (F:Fm):Prop:=∀ h κ ev ts,Pj h κ ev ts→(∀ w x,noT ts w→F [.ref κ.a,w,x] h=.ex (.exc "NoTask" [] []) h)∧∀ t∈ts,(∀ i v,slotV t.row i=some v→F [.ref κ.a,.str t.nm,.int i] h=.ok (.int v) h)∧(∀ i,slotV t.row i=none→F [.ref κ.a,.str t.nm,.int i] h=.ex (.exc "NoHandle" [] []) h) ∧
 ∀ x,noN x→F [.ref κ.a,.str t.nm,x] h=.ex (.exc "NoHandle" [] []) h
theorem ok_at (T:Tx K mg C){Fn Fm':Fm}(hFn:S_need Fn)(hFm:S_num Fm')(M_need:TabX P w K mg base (T0 C) true 1 "need" (tab1 Fn))(G_is_number:FnAt P w K mg base CX0 1 "is_number" (spH (T0 C) Fm'))
  {f:Addr} {fd:FuncData} (R:Fun K "at" "Tasks.at" s_Tasks_at f fd):∃ F,FnOk P w K mg base (CXe true P w) 2 f fd ["self","name","slot"] (spH (T0 C) F)∧S_at F:=by
 refine ⟨_,(funX R sc_Tasks_at (hB:=fun cdv A outer s H E φ0 hr hx=>(qb_cons (qs_expr (q_methX T.ins M_need hx hr (by decide) (q_var 0) (qa_cons (q_var 1) qa_nil)))
   (qb_cons (qs_set (i:=3) sc_Tasks_at.nd rfl (Or.inl rfl) (fun _ _ _=>trivial) (q_dget hr (q_fld (q_var 0) T.f_filled) (q_var 1) (fun _ _=>rfl)))
   (qb_cons (qs_if (qt_w (qw_or (qt_not (qt_val (q_fn0 G_is_number hr (by decide) rfl (qa_cons (q_var 2) qa_nil)))) (qw_or1 (qt_cmp (op_notInV hr) inM_ok (q_var 2) (q_var 3) (by rfl))))) (qb_one (qs_raise T.rz_NoHandle hx rfl (qa_cons q_str qa_nil))) qb_nil)
   (qb_one (qs_ret (q_dget hr (q_var 3) (q_var 2) (fun _ _=>rfl))))))))) selfX_told,?_⟩
 intro h κ ev ts S
 have e2:=S.fl
 have e:=S.t
 simp only [tkO] at e
 obtain ⟨b1,b2⟩:=hFn h κ ev ts S.m
 obtain ⟨n1,n2,n3,n4,n5⟩:=hFm h
 refine ⟨fun w x hw=>selfX_exc rfl ?_ (by simp),fun t ht=>?_⟩
 ·have q:=b1 w hw
  simp! [e,q,xMeth,tb1,no_need]
 have q:=b2 t ht
 have gf:=S.getF ht
 obtain ⟨d1,d2,kvs,d3,r⟩:=S.dd t ht
 refine ⟨fun i v hi=>selfX_ok rfl ?_ (by simp),fun i hi=>selfX_exc rfl ?_ (by simp),fun x hx=>selfX_exc rfl ?_ (by simp)⟩
 ·have g:=r.get i
  rw [hi] at g
  have g:getK kvs (.inl i)=some (.int v):=g
  simp! [e,e2,q,gf,d3,g,n1,xMeth,tb1,no_need,fldM,lk2,dgetM]
 ·have g:=r.get i
  rw [hi] at g
  have g:getK kvs (.inl i)=none:=g
  simp! [e,e2,q,gf,d3,g,n1,xMeth,tb1,no_need,fldM,lk2,dgetM]
 ·rcases hx with ⟨b,rfl⟩ | rfl | ⟨z,rfl⟩ | ⟨l,rfl⟩ <;> simp! [e,e2,q,gf,d3,n2,n3,n4,n5,xMeth,tb1,no_need,fldM,lk2,dgetM]
def S_free (F:Fm):Prop:=∀ h κ ev ts,Pj h κ ev ts→(∀ w,noT ts w→F [.ref κ.a,w] h=.ex (.exc "NoTask" [] []) h)∧∀ t∈ts,F [.ref κ.a,.str t.nm] h=.ok (.int (16 - ((t.row.filter Option.isSome).length:Int))) h
theorem ok_free (T:Tx K mg C){Fn:Fm}(hFn:S_need Fn)(M_need:TabX P w K mg base (T0 C) true 1 "need" (tab1 Fn))
  {f:Addr} {fd:FuncData} (R:Fun K "free" "Tasks.free" s_Tasks_free f fd):∃ F,FnOk P w K mg base (CXe true P w) 2 f fd ["self","name"] (spH (T0 C) F)∧S_free F:=by
 refine ⟨_,(funX R sc_Tasks_free (hB:=fun cdv A outer s H E φ0 hr hx=>(qb_cons (qs_expr (q_methX T.ins M_need hx hr (by decide) (q_var 0) (qa_cons (q_var 1) qa_nil)))
   (qb_one (qs_ret (q_bin op_sub subM_ok (q_gci rfl T.c_SLOT_COUNT) (q_cb lenM_ok call_lenV rfl T.b_len (by first | exact boot_b_len | rfl) (qa_cons (q_dget hr (q_fld (q_var 0) T.f_filled) (q_var 1) (fun _ _=>rfl)) qa_nil)))))))) selfX_told,?_⟩
 intro h κ ev ts S
 have e2:=S.fl
 have e:=S.t
 simp only [tkO] at e
 obtain ⟨b1,b2⟩:=hFn h κ ev ts S.m
 refine ⟨fun w hw=>selfX_exc rfl ?_ (by simp),fun t ht=>selfX_ok rfl ?_ (by simp)⟩
 ·have q:=b1 w hw
  simp! [e,q,xMeth,tb1,no_need]
 ·have q:=b2 t ht
  have gf:=S.getF ht
  obtain ⟨d1,d2,kvs,d3,r⟩:=S.dd t ht
  rw [← r.size]
  simp! [e,e2,q,gf,d3,xMeth,tb1,no_need,fldM,lk2,dgetM]
def kW (kv:Key×W):W:=match kv.1 with
 | .inl i=>.int i
 | .inr x=>.str x
theorem xCompD_fil {f:Ex}{own:Nat}{ix:List Nat}{G:Tg}{c el:Ex}{ρ:Sg}{h h1:Mem}{n:Nat}{kvs:List (Key×W)}(r:Key×W→W)(p:Key×W→Bool)(hf:f ρ h=.ok (.ref n) h1)(hd:h1[n]? = some (.dic kvs))(hz:kvs.length<sizeLine)
  (hh:∀ kv∈kvs,∀ acc:List W,∃ ρ',G (kW kv) (ρC own ix ρ)=some ρ'∧(∃ h',c ρ' (h1.set n (.fdic kvs)++[.lst acc])=.ok (.bl (p kv)) h')∧(p kv=true→(∃ h',el ρ' (h1.set n (.fdic kvs)++[.lst acc])=.ok (r kv) h')∧ltW h1.length (r kv)=true)) :
  xCompD f own ix G c el ρ h=.ok (.tl ((kvs.filter p).map r)) h1:=by
 have hk:keyWs kvs=kvs.map kW:=rfl
 unfold xCompD
 rw [hf]
 dsimp only
 rw [hd]
 dsimp only
 rw [hk,if_pos (by rw [List.length_map]; exact hz),xBlk_fil kW r p kvs [] (by rw [List.length_set]; exact hh)]
 rfl
theorem take_nm {α:Type}{l:List α}(nd:l.Nodup){j:Nat}{x:α}(e:l[j]? = some x):¬x∈l.take j:=by
 intro hm
 obtain ⟨i,hi,e2⟩:=List.mem_take_iff_getElem.mp hm
 obtain ⟨hj,e3⟩:=List.getElem?_eq_some_iff.mp e
 have:i=j:=(List.getElem_inj nd).mp (e2.trans e3.symm)
 omega
def cnt (v:Int)(row:List (Option Int)):Nat:=(row.filter fun x=>decide (x=some v)).length
def S_emp (F:Fm):Prop:=∀ h κ ev a b t v,Pj h κ ev (a++t::b)→∃ kvs,Rw kvs (t.row.map (wipe v))∧F [.ref κ.a,.str t.nm,.int v] h=.ok (.int (cnt v t.row:Nat)) (h.set t.d (.dic kvs))
theorem ok_emp (T:Tx K mg C){f:Addr}{fd:FuncData}(R:Fun K "emptied" "Tasks.emptied" s_Tasks_emptied f fd):∃ F,FnOk P w K mg base CX0 1 f fd ["self","name","number"] (spH (T0 C) F)∧S_emp F:=by
 refine ⟨_,(funM R sc_Tasks_emptied (hB:=fun cdv A outer s H E φ0 H0 hr=>(qb_cons (qs_set (i:=3) sc_Tasks_emptied.nd rfl (Or.inr rfl) (fun _ _ _=>trivial) (q_dget hr (q_fld (q_var 0) T.f_filled) (q_var 1) (fun _ _=>rfl)))
   (qb_cons (qs_setcD (osc:=defScope s_Tasks_emptied) (N:=["self","name","number","filled","found","slot"]) (own:=["slot"]) (fr:=["number","filled"]) (ix:=[2,3]) (i:=4) sc_Tasks_emptied.nd rfl rfl (fun _ _ _=>trivial) rfl rfl rfl (by decide +kernel) (q_var 3) (fun _=>(tg_name (zb_set (by decide)))) (fun _ _ _ _ _=>(qg_cn 0 (by decide +kernel) rfl (by decide +kernel) rfl)) (fun _ _ _ _ _ _=>(qc_one (qt_cmp (op_eqF hr) eqO_ok (q_dget hr (q_var 2) (q_var 0) (fun _ _=>rfl)) (q_var 1) (nomark _)))) (fun _ _ _ _ _ _=>(q_var 0)))
   (qb_cons (qs_for (tg_name (fun _ _ _=>trivial)) PassesOwn.never rfl (qi_list (q_var 4)) (qg_name (i:=5) sc_Tasks_emptied.nd rfl (Or.inl rfl))
    (qb_one (qs_expr (q_popD (q_var 3) (q_var 5) ⟨rfl,rfl,rfl,rfl⟩))))
   (qb_one (qs_ret (q_cb lenM_ok call_lenV rfl T.b_len (by first | exact boot_b_len | rfl) (qa_cons (q_var 4) qa_nil))))))))) selfF_ex selfF_told,?_⟩
 intro h κ ev a b t v S
 have ht:t∈a++t::b:=by simp
 have e2:=S.fl
 have e:=S.t
 simp only [tkO] at e
 have gf:=S.getF ht
 obtain ⟨d1,d2,kvs,d3,r⟩:=S.dd t ht
 have hdl:t.d<h.length:=(List.getElem?_eq_some_iff.mp d3).1
 have hsm:=r.small
 refine ⟨_,r.out v,selfF_ok rfl ?_ (by simp)⟩
 generalize hC:xCompD _ _ _ _ _ _=Cm
 obtain ⟨L,hL⟩:∃ L,(kvs.filter fun kv=>decide (valO kv.2=some v))=L:=⟨_,rfl⟩
 have hLk:L.map (·.1)=holdK kvs v:=by rw [← hL]; rfl
 have hLn:(L.map (·.1)).Nodup:=by rw [← hL]; exact r.nd.sublist (List.Sublist.map _ List.filter_sublist)
 have hLc:L.length=cnt v t.row:=by rw [← hL]; exact r.cnt (fun x=>decide (x=some v)) (by simp)
 have hLm:∀ kv∈L,∃ k:Nat,kv=(.inl (k:Int),.int v)∧getK kvs (.inl (k:Int))=some (.int v):=fun kv hkv=>by
  rw [← hL] at hkv
  obtain ⟨m1,m2⟩:=List.mem_filter.mp hkv
  obtain ⟨k,v',_,rfl,e3⟩:=r.key m1
  have:v'=v:=by simpa [valO] using m2
  subst this
  exact ⟨k,rfl,(mem_getK r.nd).mp m1⟩
 have ec:Cm [some (.ref κ.a),some (.str t.nm),some (.int v),some (.ref t.d),none,none] h=.ok (.tl (L.map kW)) h:=by
  rw [← hC,← hL]
  refine xCompD_fil kW (fun kv=>decide (valO kv.2=some v)) (n:=t.d) (by simp! [xNo]) d3 (by rw [sizeLine_eq]; omega) fun kv hkv acc=>?_
  obtain ⟨k,v',_,rfl,e3⟩:=r.key hkv
  have g:=(mem_getK r.nd).mp hkv
  have dk:(h.set t.d (.fdic kvs)++[O.lst acc])[t.d]? = some (.fdic kvs):=kept (by rw [List.getElem?_set_self hdl])
  refine ⟨_,rfl,⟨h.set t.d (.fdic kvs)++[.lst acc],?_⟩,fun _=>⟨⟨h.set t.d (.fdic kvs)++[.lst acc],?_⟩,rfl⟩⟩
  ·simp! [dk,dgetM,g,kW,valO]
  ·simp! [kW]
 have lp:∃ ρ' h',xLoop (gN 5) (xDrop (xPopD (xVar 3) (xVar 5))) (L.map kW) [some (.ref κ.a),some (.str t.nm),some (.int v),some (.ref t.d),some (.tl (L.map kW)),none] h=.nx ρ' h' ∧
   ((∃ v5,ρ'=[some (.ref κ.a),some (.str t.nm),some (.int v),some (.ref t.d),some (.tl (L.map kW)),v5])∧h'=h.set t.d (.dic (kvs.filter fun kv=>!memK ((L.take (0+(L.map kW).length)).map (·.1)) kv.1))):=by
  refine xLoop_ix (fun j ρ' h'=>(∃ v5,ρ'=[some (.ref κ.a),some (.str t.nm),some (.int v),some (.ref t.d),some (.tl (L.map kW)),v5])∧h'=h.set t.d (.dic (kvs.filter fun kv=>!memK ((L.take j).map (·.1)) kv.1))) (L.map kW) 0 _ h ⟨⟨none,rfl⟩,?_⟩ ?_
  ·rw [List.filter_eq_self.mpr (by simp [memK])]
   obtain ⟨hl,q⟩:=List.getElem?_eq_some_iff.mp d3
   rw [← q,List.set_getElem_self]
  ·rintro j w hw ρ h' ⟨⟨v5,rfl⟩,rfl⟩
   rw [Nat.zero_add]
   rw [List.getElem?_map,Option.map_eq_some_iff] at hw
   obtain ⟨kv,hj,rfl⟩:=hw
   obtain ⟨k,rfl,g⟩:=hLm kv (List.mem_of_getElem? hj)
   have hjk:(L.map (·.1))[j]? = some (.inl (k:Int)):=by rw [List.getElem?_map,hj]; rfl
   have nm:=take_nm hLn hjk
   rw [← List.map_take] at nm
   have mk:memK ((L.take j).map (·.1)) (.inl (k:Int))=false:=by
    rw [Bool.eq_false_iff]; intro q; exact nm (memK_iff.mp q)
   obtain ⟨cur,ecur⟩:∃ cur,(kvs.filter fun kv=>!memK ((L.take j).map (·.1)) kv.1)=cur:=⟨_,rfl⟩
   have gc:getK cur (.inl (k:Int))=some (.int v):=by
    rw [← ecur,getK_fil (f:=fun k=>!memK ((L.take j).map (·.1)) k)]
    rw [mk]
    simp [g]
   rw [ecur]
   have dk:(h.set t.d (.dic cur))[t.d]? = some (.dic cur):=by rw [List.getElem?_set_self hdl]
   refine ⟨_,rfl,_,h.set t.d (.dic (dropD cur (.inl (k:Int)))),.inl ?_,⟨some (.int (k:Int)),rfl⟩,?_⟩
   ·simp! [kW,xPopD,dk,gc,List.set_set]
   ·congr 2
    rw [← ecur]
    unfold dropD
    rw [List.filter_filter,List.take_succ,hj]
    congr 1
    funext kv
    simp only [Option.toList_some,List.map_append,List.map_cons,List.map_nil]
    unfold memK
    rw [List.any_append]
    simp only [List.any_cons,List.any_nil,Bool.or_false,Bool.not_or]
    rw [Bool.and_comm]
    congr 1
    by_cases q:kv.1=.inl (k:Int)
    ·simp [q]
    ·have q2:¬(Sum.inl (k:Int):Key)=kv.1:=fun z=>q z.symm
     simp [q,q2]
 obtain ⟨ρ',h',lp,⟨v5,rfl⟩,rfl⟩:=lp
 have hz:L.length≤16777216:=by
  have:=List.length_filter_le (fun kv:Key×W=>decide (valO kv.2=some v)) kvs
  rw [hL] at this
  omega
 refine congrArg Out.res (?_:_=Out.rt (.int (cnt v t.row:Nat)) (h.set t.d (.dic (kvs.filter fun kv=>!memK (holdK kvs v) kv.1))))
 refine (xSeq_nx (ρ':=[some (.ref κ.a),some (.str t.nm),some (.int v),some (.ref t.d),none,none]) (h':=h) (by simp! [e,e2,fldM,lk2,dgetM,gf])).trans ?_
 refine (xSeq_nx (ρ':=[some (.ref κ.a),some (.str t.nm),some (.int v),some (.ref t.d),some (.tl (L.map kW)),none]) (h':=h) (by simp! [ec])).trans ?_
 refine (xSeq_nx ((xFor_loop (ws:=L.map kW) (h':=h) (by simp! [xNo])).trans lp)).trans ?_
 rw [List.length_map,Nat.zero_add,List.take_length,hLk]
 simp! [hz,hLc]
def wipeT (v:Int)(t:Pt):Pt:={ t with row:=t.row.map (wipe v) }
def S_out (F:Fm):Prop:=∀ h κ ev ts v,Pj h κ ev ts→∃ h',F [.ref κ.a,.int v] h=.ok (.int (ts.map fun t=>(cnt v t.row:Int)).sum) h'∧Pj h' κ ev (ts.map (wipeT v))∧h.length≤h'.length∧∀ n,n<h.length→(∀ t∈ts,n≠t.d)→h'[n]? = h[n]?
theorem ok_out (T:Tx K mg C){Fr Fe Fn:Fm}(hFr:S_running Fr)(hFe:S_emp Fe)(hFn:S_num Fn)(M_running:TabAt P w K mg base (T0 C) 1 "running" (tab1 Fr))(M_emptied:TabAt P w K mg base (T0 C) 1 "emptied" (tab1 Fe))(G_is_number:FnAt P w K mg base CX0 1 "is_number" (spH (T0 C) Fn))
  {f:Addr} {fd:FuncData} (R:Fun K "taken_out" "Tasks.taken_out" s_Tasks_taken_out f fd):∃ F,FnOk P w K mg base CX0 2 f fd ["self","number"] (spH (T0 C) F)∧S_out F:=by
 refine ⟨_,(funM R sc_Tasks_taken_out (hB:=fun cdv A outer s H E φ0 H0 hr=>(qb_cons (qs_if (qt_not (qt_val (q_fn0 G_is_number hr (by decide) rfl (qa_cons (q_var 1) qa_nil)))) (qb_one (qs_ret q_int)) qb_nil)
   (qb_one (qs_ret (q_cb sumM_ok (call_sum rfl) rfl T.b_sum (by first | exact boot_b_sum | rfl) (qa_cons (q_compS (osc:=defScope s_Tasks_taken_out) (N:=["self","number"]) (own:=["name"]) (fr:=["self","number"]) (ix:=[0,1]) rfl rfl rfl (by decide +kernel) (qi_list (q_meth0 T.ins M_running hr (by decide) (q_var 0))) (fun _=>(tg_name (zb_set (by decide)))) (fun _ _ _ _ _=>(qg_cn 0 (by decide +kernel) rfl (by decide +kernel) rfl)) (fun _ _ _ _ _ _=>qc_nil) (fun _ _ _ _ _ _=>(q_meth T.ins M_emptied hr (by decide) (q_var 1) (qa_cons (q_var 0) (qa_cons (q_var 2) qa_nil))))) qa_nil))))))) selfF_ex selfF_told,?_⟩
 intro h κ ev ts v S
 have e:=S.t
 simp only [tkO] at e
 generalize hC:xCompS _ _ _ _ _ _=Cm
 have ec:∃ h',Cm [some (.ref κ.a),some (.int v)] h=.ok (.ref (h.length+1)) h'∧(Pj h' κ ev (ts.map (wipeT v))∧h'[h.length+1]? = some (.lst ((ts.map fun t=>(cnt v t.row:Int)).map W.int))∧h'.length=h.length+2∧∀ n,n<h.length→(∀ t∈ts,n≠t.d)→h'[n]? = h[n]?):=by
  have er:=hFr h κ ev ts S
  have bl:=xBlkS_ix (src:=some h.length) (all:=nmW ts) (G:=gN 0) (c:=xC (.bl true)) (el:=xMeth "emptied" (tab1 Fe) (xVar 1) (xCons (xVar 0) (xCons (xVar 2) xNil))) (ρ0:=[none,some (.ref κ.a),some (.int v)]) (n0:=h.length+1)
   (fun i acc hh=>Pj hh κ ev ((ts.take i).map (wipeT v)++ts.drop i)∧hh[h.length]? = some (.lst (nmW ts))∧hh[h.length+1]? = some (.lst acc)∧acc=((ts.take i).map fun t=>(cnt v t.row:Int)).map W.int∧hh.length=h.length+2∧∀ n,n<h.length→(∀ t∈ts,n≠t.d)→hh[n]? = h[n]?)
   (fun i acc hh q=>q.2.1) (nmW ts) 0 [] (h++[.lst (nmW ts)]++[.lst []]) ⟨by simpa using (S.app [.lst (nmW ts)]).app [.lst []],by simp,by simp,by simp,by simp,fun n hn _=>by rw [List.append_assoc,List.getElem?_append_left hn]⟩ ?_
  ·obtain ⟨acc,h',e1,p1,p2,p3,p4,p5,p6⟩:=bl
   have hlen:0+(nmW ts).length=ts.length:=by simp [nmW]
   rw [hlen,List.take_length,List.drop_length,List.append_nil] at p1
   rw [hlen,List.take_length] at p4
   subst p4
   refine ⟨h',?_,p1,p3,p5,p6⟩
   rw [← hC]
   unfold xCompS
   have efi:xIl (xMeth "running" (tab1 Fr) (xVar 0) xNil) [some (.ref κ.a),some (.int v)] h=.ok (some h.length) (nmW ts) (h++[.lst (nmW ts)]):=by
    simp! [e,er,xMeth,tb1,no_running]
   rw [show ∀ a b,xIl (xMeth "running" (tab1 Fr) (xVar 0) xNil) a b=xIl (xMeth (Str.ofString "running") (tab1 Fr) (xVar 0) xNil) a b from fun _ _=>rfl] at efi
   rw [efi]
   dsimp only
   rw [show (h++[O.lst (nmW ts)]).length=h.length+1 by simp]
   rw [show ρC [Str.ofString "name"].length [0,1] [some (W.ref κ.a),some (.int v)]=[none,some (.ref κ.a),some (.int v)] from rfl]
   have e1':xBlkS (some h.length) (nmW ts) (gN 0) (xC (.bl true)) (xMeth (Str.ofString "emptied") (tab1 Fe) (xVar 1) (xCons (xVar 0) (xCons (xVar 2) xNil))) [none,some (.ref κ.a),some (.int v)] (h.length+1) (nmW ts) (h++[.lst (nmW ts)]++[.lst []])=some h':=e1
   rw [e1']
  ·intro j w hw acc hh ⟨p1,p2,p3,p4,p5,p6⟩
   rw [Nat.zero_add] at p1 p4
   rw [Nat.zero_add]
   unfold nmW at hw
   rw [List.getElem?_map,Option.map_eq_some_iff] at hw
   obtain ⟨t,hj,rfl⟩:=hw
   obtain ⟨hjl,ej⟩:=List.getElem?_eq_some_iff.mp hj
   have ed:ts.drop j=t::ts.drop (j+1):=by rw [List.drop_eq_getElem_cons hjl,ej]
   have et:ts.take (j+1)=ts.take j++[t]:=by rw [List.take_succ,hj]; rfl
   rw [ed] at p1
   have ht:t∈ts:=List.mem_of_getElem? hj
   have tdl:t.d<h.length:=by
    obtain ⟨_,_,_,d3,_⟩:=S.dd t ht
    exact (List.getElem?_eq_some_iff.mp d3).1
   obtain ⟨kvs,r,ee⟩:=hFe hh κ ev _ _ t v p1
   have e':=p1.t
   simp only [tkO] at e'
   have h3:(hh.set t.d (.dic kvs))[h.length+1]? = some (.lst acc):=by rw [List.getElem?_set_ne (by omega)]; exact p3
   have al:acc.length≤12:=by
    rw [p4]
    have:=S.hl
    simp
    omega
   refine ⟨_,.int (cnt v t.row:Nat),hh.set t.d (.dic kvs),rfl,rfl,?_,h3,by rw [sizeLine_eq]; omega,?_,?_,?_,?_,?_,?_⟩
   ·simp! [e',ee,xMeth,tb1,no_emptied]
   ·have p:=(p1.put r).setL h3 (.lst (acc++[.int (cnt v t.row:Nat)]))
    rw [et,List.map_append,List.append_assoc]
    exact p
   ·rw [List.getElem?_set_ne (by omega),List.getElem?_set_ne (by omega)]; exact p2
   ·rw [List.getElem?_set_self (by simp; omega)]
   ·rw [et,p4]; simp
   ·simpa using p5
   ·intro n hn hd
    rw [List.getElem?_set_ne (by omega),List.getElem?_set_ne (fun q=>hd t ht q.symm)]
    exact p6 n hn hd
 obtain ⟨h',ec,p1,p2,p3,p4⟩:=ec
 obtain ⟨n1,_⟩:=hFn h
 refine ⟨h',selfF_ok rfl ?_ (by omega),p1,by omega,p4⟩
 refine congrArg Out.res (?_:_=Out.rt (.int (ts.map fun t=>(cnt v t.row:Int)).sum) h')
 refine (xSeq_nx (ρ':=[some (.ref κ.a),some (.int v)]) (h':=h) (by simp! [n1])).trans ?_
 generalize (ts.map fun t=>(cnt v t.row:Int))=ns at p2 ⊢
 simp_arith! [ec,p2,intW_map]
def S_slots (F:Fm):Prop:=∀ h κ ev ts,Pj h κ ev ts→(∀ w,noT ts w→F [.ref κ.a,w] h=.ex (.exc "NoTask" [] []) h)∧∀ t∈ts,F [.ref κ.a,.str t.nm] h=.ok (.ref h.length) (h++[.lst (prs t.row)])
theorem ok_slots (T:Tx K mg C){Fn:Fm}(hFn:S_need Fn)(M_need:TabX P w K mg base (T0 C) true 1 "need" (tab1 Fn))
  {f:Addr} {fd:FuncData} (R:Fun K "slots" "Tasks.slots" s_Tasks_slots f fd):∃ F,FnOk P w K mg base (CXe true P w) 2 f fd ["self","name"] (spH (T0 C) F)∧S_slots F:=by
 refine ⟨_,(funX R sc_Tasks_slots (hB:=fun cdv A outer s H E φ0 hr hx=>(qb_cons (qs_expr (q_methX T.ins M_need hx hr (by decide) (q_var 0) (qa_cons (q_var 1) qa_nil)))
   (qb_cons (qs_set (i:=2) sc_Tasks_slots.nd rfl (Or.inr rfl) (fun _ _ _=>trivial) (q_dget hr (q_fld (q_var 0) T.f_filled) (q_var 1) (fun _ _=>rfl)))
   (qb_one (qs_ret (q_compN (osc:=defScope s_Tasks_slots) (N:=["self","name","filled"]) (own:=["slot"]) (fr:=["filled"]) (ix:=[2]) rfl rfl rfl (by decide +kernel) (qi_list (q_cb sortedM_ok (call_sortedI rfl) rfl T.b_sorted (by first | exact boot_b_sorted | rfl) (qa_cons (q_var 2) qa_nil))) (fun _=>(tg_name (zb_set (by decide)))) (fun _ _ _ _ _=>(qg_cn 0 (by decide +kernel) rfl (by decide +kernel) rfl)) (fun _ _ _ _ _ _=>qc_nil) (fun _ _ _ _ _ _=>(q_tup (qa_cons (q_var 0) (qa_cons (q_dget hr (q_var 1) (q_var 0) (fun _ _=>rfl)) qa_nil))))))))))) selfX_told,?_⟩
 intro h κ ev ts S
 have e2:=S.fl
 have e:=S.t
 simp only [tkO] at e
 obtain ⟨b1,b2⟩:=hFn h κ ev ts S.m
 refine ⟨fun w hw=>selfX_exc rfl ?_ (by simp),fun t ht=>selfX_ok rfl ?_ (by simp)⟩
 ·have q:=b1 w hw
  simp! [e,q,xMeth,tb1,no_need]
 ·have q:=b2 t ht
  have gf:=S.getF ht
  obtain ⟨d1,d2,kvs,d3,r⟩:=S.dd t ht
  generalize hC:xCompN _ _ _ _ _ _=Cm
  have ec:Cm [some (.ref κ.a),some (.str t.nm),some (.ref t.d)] h=.ok (.ref h.length) (h++[.lst (prs t.row)]):=by
   rw [← hC]
   obtain ⟨ns,k1,k2,k3⟩:=r.sorted
   have k4:ns.length<64:=by omega
   unfold xCompN
   have efi:xIl (xCb sortedM (xCons (xVar 2) xNil)) [some (.ref κ.a),some (.str t.nm),some (.ref t.d)] h=.ok none ((fullN Option.isSome t.row).map fun (k:Nat)=>W.int (k:Int)) h:=by
    simp! [sortedM,intSrc,d3,k1,k4,k2,slotI]
   rw [efi]
   dsimp only
   rw [xBlkN_map (fun (k:Nat)=>W.int (k:Int)) (fun (k:Nat)=>W.tup [.int (k:Int),ow (t.row.getD k none)]) (fullN Option.isSome t.row) [] ?_ ?_]
   ·rfl
   ·have:(fullN Option.isSome t.row).length≤16:=by
     unfold fullN
     refine Nat.le_trans (List.length_filter_le _ _) ?_
     simp
    simp only [List.length_nil]
    omega
   ·intro k hk acc
    unfold fullN at hk
    obtain ⟨m1,m2⟩:=List.mem_filter.mp hk
    cases ev:t.row.getD k none with
    | none=>rw [ev] at m2; cases m2
    | some v=>
     have g:=r.get (k:Int)
     rw [slotV_nat,ev] at g
     have g:getK kvs (.inl (k:Int))=some (.int v):=g
     have dk:(h++[O.lst acc])[t.d]? = some (.dic kvs):=kept d3
     refine ⟨_,rfl,rfl,?_⟩
     simp! [dk,dgetM,g,ow]
  refine congrArg Out.res (?_:_=Out.rt (.ref h.length) (h++[.lst (prs t.row)]))
  refine (xSeq_nx (ρ':=[some (.ref κ.a),some (.str t.nm),none]) (h':=h) (by simp! [e,q,xMeth,tb1,no_need])).trans ?_
  refine (xSeq_nx (ρ':=[some (.ref κ.a),some (.str t.nm),some (.ref t.d)]) (h':=h) (by simp! [e,e2,fldM,lk2,dgetM,gf])).trans ?_
  simp! [ec]
theorem xForD_dic {f:Ex}{G:Tg}{B:Sm}{ρ ρ':Sg}{h h1 h':Mem}{n:Nat}{kvs kvs':List (Key×W)}(e:f ρ h=.ok (.ref n) h1)(hd:h1[n]? = some (.dic kvs))(lp:xLoop G B (keyWs kvs) ρ (h1.set n (.fdic kvs))=.nx ρ' h')(ht:h'[n]? = some (.fdic kvs')):xForD f G B ρ h=.nx ρ' (h'.set n (.dic kvs')):=by
 unfold xForD
 rw [e]
 dsimp only
 rw [hd]
 dsimp only
 rw [lp]
 unfold thaw thawM
 dsimp only
 rw [ht]
theorem xForD_fdic {f:Ex}{G:Tg}{B:Sm}{ρ ρ':Sg}{h h1 h':Mem}{n:Nat}{kvs:List (Key×W)}(e:f ρ h=.ok (.ref n) h1)(hd:h1[n]? = some (.fdic kvs))(lp:xLoop G B (keyWs kvs) ρ h1=.nx ρ' h'):xForD f G B ρ h=.nx ρ' h':=by
 unfold xForD
 rw [e]
 dsimp only
 rw [hd]
 dsimp only
 rw [lp]
 rfl
theorem take_flat {α β:Type}(g:α→List β)(l:List α)(j:Nat):((l.take j).flatMap g).length≤(l.flatMap g).length:=by
 conv=>rhs; rw [← List.take_append_drop j l]
 rw [List.flatMap_append,List.length_append]
 omega
def S_made (d:Nat)(F:Fm):Prop:=∀ h κ ev ts,Pm h κ ev ts→ts.length≤1000→(0<d→∀ w,noT ts w→F [.ref κ.a,w] h=.ex (.exc "NoTask" [] []) h)∧∀ t∈ts,Dep ev (ts.map Pt.nm) d t.nm →
 ∃ h' n,F [.ref κ.a,.str t.nm] h=.ok (.ref n) h'∧h.length≤n∧h'[n]? = some (.lst ((mb ev (ts.map Pt.nm) d t.nm).map W.str))∧∀ i,i<h.length→h'[i]? = h[i]?
theorem ok_made (T:Tx K mg C){Fn Fm':Fm}{d:Nat}(hFn:S_need Fn)(hFm:S_made d Fm')(M_need:TabX P w K mg base (T0 C) true 1 "need" (tab1 Fn))(M_made_by:TabX P w K mg base (T0 C) true (d+1) "made_by" (tab1 Fm'))
  {f:Addr} {fd:FuncData} (R:Fun K "made_by" "Tasks.made_by" s_Tasks_made_by f fd):∃ F,FnOk P w K mg base (CXe true P w) (d+1+1) f fd ["self","name"] (spH (T0 C) F)∧S_made (d+1) F:=by
 refine ⟨_,(funX R sc_Tasks_made_by (hB:=fun cdv A outer s H E φ0 hr hx=>(qb_cons (qs_expr (q_methX T.ins M_need hx hr (by omega) (q_var 0) (qa_cons (q_var 1) qa_nil)))
   (qb_cons (qs_set (i:=2) sc_Tasks_made_by.nd rfl (Or.inl rfl) (fun _ _ _=>trivial) (q_lstN qa_nil))
   (qb_cons (qs_forD (tg_name (fun _ _ _=>trivial)) PassesOwn.leaving rfl (q_fld (q_var 0) T.f_filled) (qg_name (i:=3) sc_Tasks_made_by.nd rfl (Or.inl rfl))
    (qb_one (qs_if (qt_cmp (op_eqF hr) eqO_ok (q_dget hr (q_fld (q_var 0) T.f_makers) (q_var 3) (fun _ _=>rfl)) (q_var 1) (nomark _)) (qb_cons (qs_expr (q_append (q_var 2) (qa_cons (q_var 3) qa_nil)))
    (qb_one (qs_expr (q_extend (q_var 2) (q_methX T.ins M_made_by hx hr (by omega) (q_var 0) (qa_cons (q_var 3) qa_nil)))))) qb_nil)))
   (qb_one (qs_ret (q_var 2)))))))) selfX_told,?_⟩
 intro h κ ev ts S hts
 have e:=S.t
 simp only [tkO] at e
 obtain ⟨b1,b2⟩:=hFn h κ ev ts S
 refine ⟨fun _ w hw=>selfX_exc rfl ?_ (by simp),fun t ht hd=>?_⟩
 ·have q:=b1 w hw
  simp! [e,q,xMeth,tb1,no_need]
 have q:=b2 t ht
 generalize hB0:xIfS _ _ _=B
 obtain ⟨ns,hns⟩:∃ ns,ts.map Pt.nm=ns:=⟨_,rfl⟩
 have hnn:ns.Nodup:=hns ▸ S.nn
 have hnl:ns.length=ts.length:=by rw [← hns]; simp
 have kw:keyWs (flD ts)=ns.map W.str:=by rw [← hns]; exact keyWs_eq (flD_keys ts)
 rw [hns] at hd ⊢
 have al:κ.a<h.length:=(List.getElem?_eq_some_iff.mp S.t).1
 have ml:κ.m<h.length:=(List.getElem?_eq_some_iff.mp S.ms).1
 have fl:κ.f<h.length:=by rcases S.fl with q | q <;> exact (List.getElem?_eq_some_iff.mp q).1
 have af:κ.a≠κ.f:=by intro q; rcases S.fl with z | z <;> (rw [← q,e] at z; cases z)
 obtain ⟨gk,hgk⟩:∃ gk:Str→List Str,gk=fun o=>if mkr ev o=some t.nm then o::mb ev ns d o else []:=⟨_,rfl⟩
 have hmb:mb ev ns (d+1) t.nm=ns.flatMap gk:=by rw [hgk]; rfl
 have big:∀ j,((ns.take j).flatMap gk).length≤1000:=fun j=>by
  refine Nat.le_trans (take_flat gk ns j) ?_
  rw [← hmb]
  refine Nat.le_trans (mb_len S.fo hnn _ _) ?_
  omega
 have lp:∀ h0:Mem,h0[h.length]? = some (.lst [])→h.length+1≤h0.length→h0[κ.f]? = some (.fdic (flD ts))→(∀ n,n<h.length→n≠κ.f→h0[n]? = h[n]?) →
   ∃ ρ' h',xLoop (gN 3) B (ns.map W.str) [some (.ref κ.a),some (.str t.nm),some (.ref h.length),none] h0=.nx ρ' h'∧((∃ v3,ρ'=[some (.ref κ.a),some (.str t.nm),some (.ref h.length),v3])∧h'[h.length]? = some (.lst (((ns.take (0+(ns.map W.str).length)).flatMap gk).map W.str))∧h.length+1≤h'.length∧h'[κ.f]? = some (.fdic (flD ts))∧∀ n,n<h.length→n≠κ.f→h'[n]? = h[n]?):=by
  intro h0 i1 i2 i3 i4
  refine xLoop_ix (fun i ρ' h'=>(∃ v3,ρ'=[some (.ref κ.a),some (.str t.nm),some (.ref h.length),v3])∧h'[h.length]? = some (.lst (((ns.take i).flatMap gk).map W.str))∧h.length+1≤h'.length∧h'[κ.f]? = some (.fdic (flD ts))∧∀ n,n<h.length→n≠κ.f→h'[n]? = h[n]?) (ns.map W.str) 0 _ _ ⟨⟨none,rfl⟩,by simpa using i1,i2,i3,i4⟩ ?_
  rintro j w hw ρ hh ⟨⟨v3,rfl⟩,p1,p2,p3,p4⟩
  rw [Nat.zero_add] at p1
  rw [Nat.zero_add]
  rw [List.getElem?_map,Option.map_eq_some_iff] at hw
  obtain ⟨o,hj,rfl⟩:=hw
  have ho:o∈ns:=List.mem_of_getElem? hj
  obtain ⟨s,hs,rfl⟩:∃ s∈ts,s.nm=o:=by rw [← hns] at ho; exact List.mem_map.mp ho
  have et:ns.take (j+1)=ns.take j++[s.nm]:=by rw [List.take_succ,hj]; rfl
  have ef:(ns.take (j+1)).flatMap gk=(ns.take j).flatMap gk++gk s.nm:=by rw [et,List.flatMap_append]; simp
  have b0:=big j
  have bj:=big (j+1)
  rw [ef,List.length_append] at bj
  obtain ⟨acc,hacc⟩:∃ acc,(ns.take j).flatMap gk=acc:=⟨_,rfl⟩
  rw [hacc] at p1 ef b0 bj
  have ea:hh[κ.a]? = some (O.ins "Tasks" [("makers",.ref κ.m),("filled",.ref κ.f)]):=by rw [p4 _ al af]; exact e
  have em:hh[κ.m]? = some (.dic (mkD ev)):=by rw [p4 _ ml S.mf]; exact S.ms
  obtain ⟨pr,hpr,epr⟩:=List.mem_map.mp (S.sb s hs)
  have ey:=mkr_of S.fo.nd hpr
  rw [epr] at ey
  obtain ⟨y,hy⟩:∃ y,pr.2=y:=⟨_,rfl⟩
  rw [hy] at ey
  have gy:=mkD_get s.nm ev
  rw [ey] at gy
  have gy:getK (mkD ev) (.inr s.nm)=some (.str y):=gy
  refine ⟨_,rfl,?_⟩
  by_cases hyt:y=t.nm
  ·subst hyt
   have gs:gk s.nm=s.nm::mb ev ns d s.nm:=by rw [hgk]; exact if_pos ey
   rw [gs] at ef bj
   have hsd:Dep ev ns d s.nm:=hd s.nm ho ey
   have c1:acc.length<16777216:=by omega
   obtain ⟨h1,eh1⟩:∃ h1,hh.set h.length (.lst (acc.map W.str++[.str s.nm]))=h1:=⟨_,rfl⟩
   have hl1:h1.length=hh.length:=by rw [← eh1]; simp
   have k1:∀ n,n<h.length→h1[n]? = hh[n]?:=fun n hn=>by rw [← eh1,List.getElem?_set_ne (by omega)]
   have k2:h1[h.length]? = some (.lst (acc.map W.str++[.str s.nm])):=by rw [← eh1,List.getElem?_set_self (by omega)]
   have S1:Pm h1 κ ev ts:=⟨by rw [k1 _ al]; exact ea,by rw [k1 _ ml]; exact em,.inr (by rw [k1 _ fl]; exact p3),S.mf,S.nn,S.sb,S.fo⟩
   have ea1:=S1.t
   simp only [tkO] at ea1
   have mm:=(hFm h1 κ ev ts S1 hts).2 s hs (by rw [hns]; exact hsd)
   rw [hns] at mm
   obtain ⟨h2,n2,m1,m2,m3,m4⟩:=mm
   have k3:h2[h.length]? = some (.lst (acc.map W.str++[.str s.nm])):=by rw [m4 _ (by omega)]; exact k2
   obtain ⟨ms,hms⟩:∃ ms,mb ev ns d s.nm=ms:=⟨_,rfl⟩
   rw [hms] at m3 ef bj
   rw [List.length_cons] at bj
   have c2:acc.length+1+ms.length≤16777216:=by omega
   have h2l:h2.length > n2:=(List.getElem?_eq_some_iff.mp m3).1
   refine ⟨[some (.ref κ.a),some (.str t.nm),some (.ref h.length),some (.str s.nm)],h2.set h.length (.lst (acc.map W.str++[.str s.nm]++ms.map W.str)),.inl ?_,⟨_,rfl⟩,?_,by simp; omega,?_,?_⟩
   ·rw [← hB0]
    simp! [ea,em,gy,dgetM,fldM,lk1,p1,c1,eh1,ea1,m1,k2,k3,m3,c2,xExt,tb1,no_made_by]
   ·rw [List.getElem?_set_self (by omega),ef]; simp
   ·rw [List.getElem?_set_ne (by omega),m4 _ (by omega),k1 _ fl]; exact p3
   ·intro n hn hnf
    rw [List.getElem?_set_ne (by omega),m4 _ (by omega),k1 _ hn]; exact p4 n hn hnf
  ·have gs:gk s.nm=[]:=by
    rw [hgk]
    refine if_neg fun q=>hyt ?_
    rw [ey] at q
    exact Option.some.inj q
   rw [gs,List.append_nil] at ef
   refine ⟨[some (.ref κ.a),some (.str t.nm),some (.ref h.length),some (.str s.nm)],hh,.inl ?_,⟨_,rfl⟩,by rw [ef]; exact p1,p2,p3,p4⟩
   rw [← hB0]
   simp! [ea,em,gy,hyt,dgetM,fldM,lk1]
 have lf:(ns.take (0+(ns.map W.str).length)).flatMap gk=mb ev ns (d+1) t.nm:=by rw [Nat.zero_add,List.length_map,List.take_length,hmb]
 rw [lf] at lp
 have st1:xDrop (xMethX (Str.ofString "need") (tab1 Fn) (xVar 0) (xCons (xVar 1) xNil)) [some (.ref κ.a),some (.str t.nm),none,none] h=.nx [some (.ref κ.a),some (.str t.nm),none,none] h:=by simp! [e,q,xMeth,tb1,no_need]
 have e':(h++[O.lst []])[κ.a]? = some (O.ins "Tasks" [("makers",.ref κ.m),("filled",.ref κ.f)]):=kept e
 rcases S.fl with z | z
 ·obtain ⟨ρ',h',lp,⟨v3,rfl⟩,p1,p2,p3,p4⟩:=lp ((h++[O.lst []]).set κ.f (.fdic (flD ts))) (by rw [List.getElem?_set_ne (by omega)]; simp) (by simp) (by rw [List.getElem?_set_self (by simp; omega)]) (fun n hn hnf=>by rw [List.getElem?_set_ne (fun q=>hnf q.symm),List.getElem?_append_left hn])
  rw [← kw] at lp
  refine ⟨h'.set κ.f (.dic (flD ts)),h.length,selfX_ok rfl ?_ (by simp; omega),Nat.le_refl _,by rw [List.getElem?_set_ne (by omega)]; exact p1,fun i hi=>?_⟩
  ·refine congrArg Out.res (?_:_=Out.rt (.ref h.length) (h'.set κ.f (.dic (flD ts))))
   refine (xSeq_nx st1).trans ?_
   refine (xSeq_nx (ρ':=[some (.ref κ.a),some (.str t.nm),some (.ref h.length),none]) (h':=h++[.lst []]) (by simp! [xNo])).trans ?_
   refine (xSeq_nx (xForD_dic (n:=κ.f) (h1:=h++[.lst []]) (by simp! [e',fldM,lk2]) (kept z) lp p3)).trans ?_
   simp! [xNo]
  ·by_cases hif:i=κ.f
   ·subst hif; rw [List.getElem?_set_self (by omega)]; exact z.symm
   ·rw [List.getElem?_set_ne (fun q=>hif q.symm)]; exact p4 i hi hif
 ·obtain ⟨ρ',h',lp,⟨v3,rfl⟩,p1,p2,p3,p4⟩:=lp (h++[O.lst []]) (by simp) (by simp) (kept z) (fun n hn hnf=>by rw [List.getElem?_append_left hn])
  rw [← kw] at lp
  refine ⟨h',h.length,selfX_ok rfl ?_ (by omega),Nat.le_refl _,p1,fun i hi=>?_⟩
  ·refine congrArg Out.res (?_:_=Out.rt (.ref h.length) h')
   refine (xSeq_nx st1).trans ?_
   refine (xSeq_nx (ρ':=[some (.ref κ.a),some (.str t.nm),some (.ref h.length),none]) (h':=h++[.lst []]) (by simp! [xNo])).trans ?_
   refine (xSeq_nx (xForD_fdic (n:=κ.f) (h1:=h++[.lst []]) (by simp! [e',fldM,lk2]) (kept z) lp)).trans ?_
   simp! [xNo]
  ·by_cases hif:i=κ.f
   ·subst hif; rw [p3]; exact z.symm
   ·exact p4 i hi hif
theorem ok_mades (T:Tx K mg C){Fn:Fm}(hFn:S_need Fn)(M_need:TabX P w K mg base (T0 C) true 1 "need" (tab1 Fn)){f:Addr}{fd:FuncData}(R:Fun K "made_by" "Tasks.made_by" s_Tasks_made_by f fd)
  (hM:∀ k F,FnOk P w K mg base (CXe true P w) k f fd ["self","name"] (spH (T0 C) F)→TabX P w K mg base (T0 C) true k "made_by" (tab1 F)):∀ d,∃ F,FnOk P w K mg base (CXe true P w) (d+1) f fd ["self","name"] (spH (T0 C) F)∧S_made d F
 | 0=>⟨fun _ _=>.no,fn_no,fun h κ ev ts S hts=>⟨fun z=>absurd z (by omega),fun t ht z=>z.elim⟩⟩
 | d+1=>by
  obtain ⟨F,G,hF⟩:=ok_mades T hFn M_need R hM d
  exact ok_made T hFn hF M_need (hM _ _ G) R
def endd (ev:List (Str×Str))(ts:List Pt)(n:Str):List Str:=n::mb ev (ts.map Pt.nm) 15 n
def lft (ts:List Pt)(l:List Str):List Pt:=ts.filter fun s=>!decide (s.nm∈l)
def S_stop (F:Fm):Prop:=∀ h κ ev ts,Pj h κ ev ts→ev.length<15→(∀ w,noT ts w→F [.ref κ.a,w] h=.ex (.exc "NoTask" [] []) h)∧∀ t∈ts,∃ h',F [.ref κ.a,.str t.nm] h=.ok (.tl ((endd ev ts t.nm).map W.str)) h'∧Pj h' κ ev (lft ts (endd ev ts t.nm))∧Fk κ h h'
theorem ok_stop (T:Tx K mg C){Fm':Fm}(hFm:S_made 15 Fm')(M_made_by:TabX P w K mg base (T0 C) true (15+1) "made_by" (tab1 Fm'))
  {f:Addr} {fd:FuncData} (R:Fun K "stopped" "Tasks.stopped" s_Tasks_stopped f fd):∃ F,FnOk P w K mg base (CXe true P w) (15+1+1) f fd ["self","name"] (spH (T0 C) F)∧S_stop F:=by
 refine ⟨_,(funX R sc_Tasks_stopped (hB:=fun cdv A outer s H E φ0 hr hx=>(qb_cons (qs_set (i:=2) sc_Tasks_stopped.nd rfl (Or.inl rfl) (fun _ _ _=>trivial) (q_bin op_addV addM_ok (q_lst (qa_cons (q_var 1) qa_nil)) (q_methX T.ins M_made_by hx hr (by decide) (q_var 0) (qa_cons (q_var 1) qa_nil))))
   (qb_cons (qs_for (tg_name (fun _ _ _=>trivial)) PassesOwn.leaving rfl (qi_list (q_var 2)) (qg_name (i:=3) sc_Tasks_stopped.nd rfl (Or.inl rfl))
    (qb_one (qs_expr (q_popD (q_fld (q_var 0) T.f_filled) (q_var 3) ⟨rfl,rfl,rfl,rfl⟩))))
   (qb_one (qs_ret (q_var 2))))))) selfX_told,?_⟩
 intro h κ ev ts S hev
 have e:=S.t
 simp only [tkO] at e
 have hts:ts.length≤1000:=by have:=S.hl; omega
 obtain ⟨m1,m2⟩:=hFm h κ ev ts S.m hts
 refine ⟨fun w hw=>selfX_exc rfl ?_ (by simp),fun t ht=>?_⟩
 ·have q:=m1 (by decide) w hw
  simp! [e,q,xMeth,tb1,no_made_by]
 obtain ⟨h1,n1,q1,q2,q3,q4⟩:=m2 t ht (S.fo.dep _ _ hev)
 obtain ⟨L,hL⟩:∃ L,endd ev ts t.nm=L:=⟨_,rfl⟩
 have hL':t.nm::mb ev (ts.map Pt.nm) 15 t.nm=L:=hL
 have Lnd:L.Nodup:=by
  rw [← hL']
  obtain ⟨pth,p1,_⟩:=S.fo.pt
  exact List.nodup_cons.mpr ⟨mb_self S.fo _ _,mb_nodup p1 S.nn _ _⟩
 have Lin:∀ x∈L,x∈ts.map Pt.nm:=fun x hx=>by
  rw [← hL'] at hx
  rcases List.mem_cons.mp hx with rfl | hx
  ·exact List.mem_map.mpr ⟨t,ht,rfl⟩
  ·exact mb_sub hx
 have Ll:L.length≤12:=by
  have:=nodup_le Lnd Lin
  rw [List.length_map] at this
  have:=S.hl
  omega
 rw [hL]
 have J1:Pj h1 κ ev ts:=S.fr fun n q=>by
  have:n<h.length:=by rcases S.is q with z | ⟨_,z⟩ <;> exact (List.getElem?_eq_some_iff.mp z).1
  exact q4 n this
 have Fr1:Fr h h1:=⟨by have:=(List.getElem?_eq_some_iff.mp q3).1; omega,fun n l z=>by rw [q4 n (List.getElem?_eq_some_iff.mp z).1]; exact z⟩
 have fl1:=J1.fl
 have fll:κ.f<h1.length:=(List.getElem?_eq_some_iff.mp fl1).1
 have af:κ.f≠κ.a:=by intro q; have:=J1.fl; rw [q,J1.t] at this; cases this
 have ea1:=J1.t
 simp only [tkO] at ea1
 have lp:∃ ρ' h',xLoop (gN 3) (xDrop (xPopD (xUn (fldM (Str.ofString "filled")) (xVar 0)) (xVar 3))) (L.map W.str) [some (.ref κ.a),some (.str t.nm),some (.tl (L.map W.str)),none] h1=.nx ρ' h' ∧
   ((∃ v3,ρ'=[some (.ref κ.a),some (.str t.nm),some (.tl (L.map W.str)),v3])∧h'=h1.set κ.f (.dic (flD (lft ts (L.take (0+(L.map W.str).length)))))):=by
  refine xLoop_ix (fun j ρ' h'=>(∃ v3,ρ'=[some (.ref κ.a),some (.str t.nm),some (.tl (L.map W.str)),v3])∧h'=h1.set κ.f (.dic (flD (lft ts (L.take j))))) (L.map W.str) 0 _ h1 ⟨⟨none,rfl⟩,?_⟩ ?_
  ·have:lft ts (L.take 0)=ts:=by unfold lft; rw [List.filter_eq_self.mpr (by simp)]
   rw [this]
   obtain ⟨hl,q⟩:=List.getElem?_eq_some_iff.mp fl1
   rw [← q,List.set_getElem_self]
  ·rintro j w hw ρ h' ⟨⟨v3,rfl⟩,rfl⟩
   rw [Nat.zero_add]
   rw [List.getElem?_map,Option.map_eq_some_iff] at hw
   obtain ⟨x,hj,rfl⟩:=hw
   have nm:=take_nm Lnd hj
   obtain ⟨s,hs,rfl⟩:=List.mem_map.mp (Lin x (List.mem_of_getElem? hj))
   obtain ⟨cur,ecur⟩:∃ cur,lft ts (L.take j)=cur:=⟨_,rfl⟩
   have hsc:s∈cur:=by
    rw [← ecur]
    unfold lft
    refine List.mem_filter.mpr ⟨hs,?_⟩
    simp [nm]
   have nnc:(cur.map Pt.nm).Nodup:=by rw [← ecur]; unfold lft; exact J1.nn.sublist (List.filter_sublist.map _)
   have gc:=flD_get nnc hsc
   rw [ecur]
   have dk:(h1.set κ.f (.dic (flD cur)))[κ.f]? = some (.dic (flD cur)):=by rw [List.getElem?_set_self fll]
   have da:(h1.set κ.f (.dic (flD cur)))[κ.a]? = some (O.ins "Tasks" [("makers",.ref κ.m),("filled",.ref κ.f)]):=by rw [List.getElem?_set_ne af]; exact ea1
   refine ⟨_,rfl,[some (.ref κ.a),some (.str t.nm),some (.tl (L.map W.str)),some (.str s.nm)],h1.set κ.f (.dic (dropD (flD cur) (.inr s.nm))),.inl ?_,⟨some (.str s.nm),rfl⟩,?_⟩
   ·simp! [xPopD,dk,da,gc,fldM,lk2,List.set_set]
   ·congr 2
    rw [flD_drop,← ecur]
    unfold lft
    rw [List.filter_filter,List.take_succ,hj]
    congr 1
    apply List.filter_congr
    intro u _
    simp only [Option.toList_some,List.mem_append,List.mem_singleton]
    by_cases q1:u.nm=s.nm <;> by_cases q2:u.nm∈L.take j <;> simp [q1,q2]
 obtain ⟨ρ',h',lp,⟨v3,rfl⟩,rfl⟩:=lp
 rw [Nat.zero_add,List.length_map,List.take_length] at lp
 refine ⟨h1.set κ.f (.dic (flD (lft ts L))),selfX_ok rfl ?_ (by simp; exact Fr1.1),J1.setF _,by simp; exact Fr1.1,fun n hn _ hf=>by rw [List.getElem?_set_ne (fun q=>hf q.symm)]; exact q4 n hn⟩
 refine congrArg Out.res (?_:_=Out.rt (.tl (L.map W.str)) _)
 have hz:(mb ev (ts.map Pt.nm) 15 t.nm).length+1≤16777216:=by
  have:=congrArg List.length hL'
  rw [List.length_cons] at this
  omega
 have hz':1+(mb ev (ts.map Pt.nm) 15 t.nm).length≤16777216:=by omega
 refine (xSeq_nx (ρ':=[some (.ref κ.a),some (.str t.nm),some (.tl (L.map W.str)),none]) (h':=h1) (by rw [← hL']; simp! [e,q1,q3,hz,hz',tb1,no_made_by])).trans ?_
 refine (xSeq_nx ((xFor_loop (ws:=L.map W.str) (h':=h1) (by simp! [xNo])).trans lp)).trans ?_
 simp! [xNo]
theorem len_add (x y:Str):(x++y).length=x.length+y.length:=by rw [length_codes,codes_add,List.length_append,← length_codes,← length_codes]
def mixV (ns:List Int)(k:Int):Int:=
 let c:=bif decide (0<ns.length) then ns.getD (k % ns.length).toNat 0+k / ns.length else k
 ((c+7919 * (k+1)) * 48271 % 2147483647) * ((c+7919 * (k+1)) * 48271 % 2147483647) % 2147483629
def F_mix:Fm:=fun ws h=>match ws with
 | [.tl us,.int k]=>(match intW us with
  | some ns=>bif decide (0≤k) && (decide (k≤1000) && decide (ns.length≤63)) then .ok (.int (mixV ns k)) h else .no
  | none=>.no)
 | _=>.no
instance puf_mix:PuF F_mix:=⟨fun ws h w h' e=>by
 unfold F_mix at e
 split at e
 ·split at e
  ·rename_i us k _ ns _
   cases hc:decide (0≤k) && (decide (k≤1000) && decide (ns.length≤63)) <;> rw [hc] at e <;> cases e
   rfl
  ·cases e
 ·cases e⟩
theorem mix_is (ns:List Int)(k:Int)(h:Mem)(h0:0≤k)(h1:k≤1000)(hl:ns.length≤63):F_mix [.tl (ns.map W.int),.int k] h=.ok (.int (mixV ns k)) h:=by
 unfold F_mix
 simp [intW_map,h0,h1,hl]
theorem mix_ge (ns:List Int)(k:Int):0≤mixV ns k∧mixV ns k<2147483629:=by
 unfold mixV
 exact ⟨Int.emod_nonneg _ (by decide),Int.emod_lt_of_pos _ (by decide)⟩
theorem ok_mix (T:Tx K mg C)(R:DefAt K mg "_law_mix" s_l_mix):FnAt P w K mg base CX0 1 "_law_mix" (spH (T0 C) F_mix):=by
 refine def0q R sc_l_mix bd_l_mix (hB:=fun f cdv A outer s H E φ0 H0 hr=>(qb_cons (qs_set (i:=2) sc_l_mix.nd rfl (Or.inl rfl) (fun _ _ _=>trivial) (q_var 1))
   (qb_cons (qs_if (qt_cmp op_gt gtM_ok (q_cb lenM_ok call_lenV rfl T.b_len (by first | exact boot_b_len | rfl) (qa_cons (q_var 0) qa_nil)) q_int (nomark _)) (qb_one (qs_set (i:=2) sc_l_mix.nd rfl (Or.inl rfl) (fun _ _ _=>trivial) (q_bin op_addV addM_ok (q_ix ix_any ixM_ok (q_var 0) (q_bin op_mod modM_ok (q_var 1) (q_cb lenM_ok call_lenV rfl T.b_len (by first | exact boot_b_len | rfl) (qa_cons (q_var 0) qa_nil))) (fun _ _=>rfl)) (q_bin op_fdiv divM_ok (q_var 1) (q_cb lenM_ok call_lenV rfl T.b_len (by first | exact boot_b_len | rfl) (qa_cons (q_var 0) qa_nil)))))) qb_nil)
   (qb_cons (qs_set (i:=3) sc_l_mix.nd rfl (Or.inl rfl) (fun _ _ _=>trivial) (q_bin op_mod modM_ok (q_bin op_mul mulM_ok (q_bin op_addV addM_ok (q_var 2) (q_bin op_mul mulM_ok q_int (q_bin op_addV addM_ok (q_var 1) q_int))) q_int) q_int))
   (qb_one (qs_ret (q_bin op_mod modM_ok (q_bin op_mul mulM_ok (q_var 3) (q_var 3)) q_int))))))) ?_ ?_
 ·intro ws h w m; unfold F_mix; split
  ·rename_i us k
   split
   ·rename_i ns _
    cases decide (0≤k) && (decide (k≤1000) && decide (ns.length≤63)) <;> simp
   ·simp
  ·simp
 ·intro ws h wf lt
  unfold F_mix
  split
  ·rename_i us k
   cases hi:intW us with
   | none=>exact .inl rfl
   | some ns=>
    obtain rfl:us=ns.map W.int:=intW_eq hi
    by_cases h0:0≤k
    ·by_cases h1:k≤1000
     ·by_cases hl:ns.length≤63
      ·refine .inr ⟨rfl,?_⟩
       simp only [h0,h1,hl,decide_true,Bool.and_true,Bool.and_self,cond_true]
       have f1:∀ x:Int,x * 48271 % 2147483647<18446744073709551616:=fun x=>Int.lt_of_lt_of_le (Int.emod_lt_of_pos _ (by decide)) (by decide)
       have f2:∀ x:Int,-18446744073709551616<x * 48271 % 2147483647:=fun x=>Int.lt_of_lt_of_le (by decide) (Int.emod_nonneg _ (by decide))
       by_cases hn:0<ns.length
       ·have hz:(0:Int)<(ns.length:Int):=by omega
        have hz2:(ns.length:Int)<1073741824:=by omega
        have e1:atI (ns.map W.int) (k % (ns.length:Int))=some (.int (ns.getD (k % (ns.length:Int)).toNat 0)):=by
         have a1:=Int.emod_nonneg k (show (ns.length:Int)≠0 by omega)
         have a2:=Int.emod_lt_of_pos k hz
         rw [atI_get' a1,List.getElem?_map]
         have:(k % (ns.length:Int)).toNat<ns.length:=by omega
         simp [this]
        unfold mixV
        simp only [hn,decide_true,cond_true]
        generalize hc:ns.getD (k % (ns.length:Int)).toNat 0+k / (ns.length:Int)=c
        have hc':ns[(k % (ns.length:Int)).toNat]?.getD 0+k / (ns.length:Int)=c:=by rw [← hc,List.getD_eq_getElem?_getD]
        rw [List.getD_eq_getElem?_getD] at e1
        have hz3:ns.length<1073741824:=by omega
        exact fits_is (by simp! [hn,hz,hz2,hz3,e1,hc',f1,f2]) (Nat.le_refl _)
       ·have hz:¬(0:Int)<(ns.length:Int):=by omega
        have hn0:ns=[]:=List.length_eq_zero_iff.mp (by omega)
        subst hn0
        unfold mixV
        simp only [List.length_nil,Nat.lt_irrefl,decide_false,cond_false]
        exact fits_is (by simp! [f1,f2]) (Nat.le_refl _)
      ·exact .inl (by simp [hl])
     ·exact .inl (by simp [h1])
    ·exact .inl (by simp [h0])
  ·exact .inl rfl
theorem slice_mid {x:Str}{i j:Int}(h:0≤i∧i≤j∧j≤x.length):(Txt.slice x (some i) (some j)).cps.toList=(x.cps.toList.drop i.toNat).take (j - i).toNat:=by
 show (StrLaws.sliceText x (some i) (some j)).cps.toList=_
 rw [StrLaws.sliceText_plain (by simpa [Str.length] using h)]
theorem alpha:(Str.ofString "abcdefghijklmnopqrstuvwxyz").cps.toList=(List.range 26).map (97 + ·):=by decide +kernel
theorem alpha_at {i:Int}(h0:0≤i)(h1:i<26):atI (Str.ofString "abcdefghijklmnopqrstuvwxyz").cps.toList i=some (97+i.toNat):=by
 rw [alpha,atI_get' h0,List.getElem?_map]
 have:i.toNat<26:=by omega
 simp [this]
theorem nameS_of {z:Str}(h1:1≤z.cps.toList.length)(h2:z.cps.toList.length≤8)(h:∀ c∈z.cps.toList,97≤c∧c≤122):nameS z=true:=by
 unfold nameS
 rw [length_codes]
 simp only [Bool.and_eq_true,decide_eq_true_eq,List.all_eq_true]
 exact ⟨⟨h1,h2⟩,fun c hc=>h c hc⟩
def S_nm (F:Fm):Prop:=∀ ns:List Int,ns.length≤63→∃ nm:Nat→Str,(∀ h k,k≤20→F [.tl (ns.map W.int),.int (k:Nat)] h=.ok (.str (nm k)) h∧nameS (nm k)=true)∧∀ k j,k≤20→j≤20→k≠j→¬nm k=nm j
theorem ok_nm (T:Tx K mg C)(G_l_mix:FnAt P w K mg base CX0 1 "_law_mix" (spH (T0 C) F_mix))(R:DefAt K mg "_law_name" s_l_name):∃ F,FnAt P w K mg base CX0 2 "_law_name" (spH (T0 C) F)∧S_nm F:=by
 refine ⟨_,(def0s R sc_l_name bd_l_name (hB:=fun f cdv A outer s H E φ0 H0 hr=>(qb_cons (qs_set (i:=2) sc_l_name.nd rfl (Or.inl rfl) (fun _ _ _=>trivial) (q_ix ix_any ixM_ok q_str (q_bin op_mod modM_ok (q_bin op_addV addM_ok (q_fn0 G_l_mix hr (by decide) rfl (qa_cons (q_var 0) (qa_cons q_int qa_nil))) (q_var 1)) q_int) (fun _ _=>rfl)))
   (qb_cons (qs_set (i:=3) sc_l_name.nd rfl (Or.inl rfl) (fun _ _ _=>trivial) (q_join q_str (qa_cons (q_comp (osc:=defScope s_l_name) (N:=["_law_script","_law_k","_law_sign","_law_base","_law_size","_law_at"]) (own:=["_law_at"]) (fr:=["_law_script"]) (ix:=[0]) rfl rfl rfl (by decide +kernel) (qi_range1 rfl T.b_range q_int) (fun _=>(tg_name (zb_set (by decide)))) (fun _ _ _ _ _=>(qg_cn 0 (by decide +kernel) rfl (by decide +kernel) rfl)) (fun _ _ _ _ _ _=>qc_nil) (fun _ _ _ _ _ _=>(q_ix ix_any ixM_ok q_str (q_bin op_mod modM_ok (q_bin op_fdiv divM_ok (q_fn0 G_l_mix hr (by decide) rfl (qa_cons (q_var 1) (qa_cons (q_bin op_addV addM_ok q_int (q_var 0)) qa_nil))) q_int) q_int) (fun _ _=>rfl)))) qa_nil)))
   (qb_cons (qs_set (i:=4) sc_l_name.nd rfl (Or.inl rfl) (fun _ _ _=>trivial) (q_bin op_addV addM_ok q_int (q_bin op_mod modM_ok (q_bin op_fdiv divM_ok (q_fn0 G_l_mix hr (by decide) rfl (qa_cons (q_var 0) (qa_cons q_int qa_nil))) q_int) q_int)))
   (qb_cons (qs_if (qt_cmp op_gt gtM_ok (q_bin op_mod modM_ok (q_bin op_fdiv divM_ok (q_fn0 G_l_mix hr (by decide) rfl (qa_cons (q_var 0) (qa_cons q_int qa_nil))) q_int) q_int) q_int (nomark _)) (qb_cons (qs_set (i:=5) sc_l_name.nd rfl (Or.inl rfl) (fun _ _ _=>trivial) (q_bin op_mod modM_ok (q_bin op_fdiv divM_ok (q_fn0 G_l_mix hr (by decide) rfl (qa_cons (q_var 0) (qa_cons q_int qa_nil))) q_int) (q_var 4)))
   (qb_one (qs_ret (q_bin op_addV addM_ok (q_bin op_addV addM_ok (q_sl sl_any slM_ok (q_var 3) qo_none (qo_some (q_var 5))) (q_var 2)) (q_sl sl_any slM_ok (q_var 3) (qo_some (q_bin op_addV addM_ok (q_var 5) q_int)) (qo_some (q_var 4))))))) qb_nil)
   (qb_one (qs_ret (q_bin op_addV addM_ok (q_var 2) (q_sl sl_any slM_ok (q_var 3) qo_none (qo_some (q_bin op_mod modM_ok (q_bin op_addV addM_ok (q_var 1) (q_var 4)) q_int)))))))))))),fun ns hl=>?_⟩
 obtain ⟨AL,hAL⟩:∃ AL:Str,Str.ofString "abcdefghijklmnopqrstuvwxyz"=AL:=⟨_,rfl⟩
 have al:=@alpha_at
 have al26:AL.length=26:=by rw [← hAL]; decide +kernel
 rw [hAL] at al
 rw [hAL]
 generalize hC:xComp (xIr1 _) _ _ _ _ _=Cm
 have m1:∀ h,F_mix [.tl (ns.map W.int),.int 1] h=.ok (.int (mixV ns 1)) h:=fun h=>mix_is ns 1 h (by decide) (by decide) hl
 have b1:=mix_ge ns 1
 generalize mixV ns 1=q at m1 b1
 have ec:∃ ts:List Str,(∀ s h,Cm [some (.tl (ns.map W.int)),some (.int s),some (.str ⟨#[97+((q+s) % 26).toNat]⟩),none,none,none] h=.ok (.tl (ts.map W.str)) h)∧ts.length=8∧∀ t∈ts,∃ c,t=⟨#[c]⟩∧97≤c∧c≤122:=by
  refine ⟨(List.range 8).map fun (k:Nat)=>(⟨#[97+(mixV ns (2+(k:Int)) / 7 % 26).toNat]⟩:Str),fun s h=>?_,by simp,?_⟩
  ·rw [← hC,List.map_map]
   refine xComp_map (fun k:Nat=>W.int (0+k)) _ (List.range 8) (s:=none) ?_ ?_ ?_
   ·simp! [rngW,xIr1]
   ·rw [List.length_range,sizeLine_eq]; omega
   ·intro k hk acc
    refine ⟨_,rfl,⟨h++[.lst acc],?_⟩,rfl⟩
    have hk':k<8:=List.mem_range.mp hk
    have e1:=mix_is ns (2+(k:Int)) (h++[.lst acc]) (by omega) (by omega) hl
    have e2:=al (i:=mixV ns (2+(k:Int)) / 7 % 26) (by omega) (by omega)
    simp! [e1,e2,al26]
  ·intro t ht
   simp only [List.mem_map] at ht
   obtain ⟨k,_,rfl⟩:=ht
   exact ⟨_,rfl,by omega,by omega⟩
 obtain ⟨ts,ec,hl8,ht⟩:=ec
 have hj:JoinOk (Str.ofString "") ts=true:=joinOk_of (by
  have:∀ l:List Str,(∀ t∈l,∃ c,t=⟨#[c]⟩∧97≤c∧c≤122)→(l.map fun t=>t.length+(Str.ofString "").length).sum≤l.length:=by
   intro l
   induction l with
   | nil=>intro _; simp
   | cons a r ih=>
    intro q
    obtain ⟨c,rfl,_⟩:=q a List.mem_cons_self
    have q2:=ih fun t m=>q t (List.mem_cons_of_mem _ m)
    have q3:(Str.ofString "").length=0:=by decide +kernel
    have q4:(⟨#[c]⟩:Str).length=1:=rfl
    simp [q4,q3] at q2 ⊢
    omega
  have:=this ts ht
  rw [sizeLine_eq]; omega)
 obtain ⟨bs,hbs,hb8,hb⟩:∃ bs:List Nat,(Txt.join (Str.ofString "") ts).cps.toList=bs∧bs.length=8∧∀ c∈bs,97≤c∧c≤122:=by
  refine ⟨_,rfl,?_,?_⟩
  all_goals
   have e0:Str.ofString ""=⟨#[]⟩:=by decide +kernel
   rw [join_eq,e0,join_codes]
  ·have:∀ l:List Str,(∀ t∈l,∃ c,t=⟨#[c]⟩∧97≤c∧c≤122)→((l.map fun t=>t.cps.toList).flatten).length=l.length:=by
    intro l
    induction l with
    | nil=>intro _; simp
    | cons a r ih=>
     intro q
     obtain ⟨c,rfl,_⟩:=q a List.mem_cons_self
     have q2:=ih fun t m=>q t (List.mem_cons_of_mem _ m)
     simp only [List.map_cons,List.flatten_cons,List.length_append,List.length_cons,q2]
     simp
     omega
   rw [this ts ht,hl8]
  ·intro c hc
   rw [List.mem_flatten] at hc
   obtain ⟨l,hl',hc⟩:=hc
   obtain ⟨t,htm,rfl⟩:=List.mem_map.mp hl'
   obtain ⟨d,rfl,hd⟩:=ht t htm
   have:c=d:=by simpa using hc
   rw [this]; exact hd
 obtain ⟨B,hB⟩:∃ B,Txt.join (Str.ofString "") ts=B:=⟨_,rfl⟩
 rw [hB] at hbs
 have hBl:B.length=8:=by rw [length_codes,hbs,hb8]
 have hz0:∀ s:Int,0≤(q+s) % 26∧(q+s) % 26<26:=fun s=>⟨Int.emod_nonneg _ (by decide),Int.emod_lt_of_pos _ (by decide)⟩
 have hsz:0≤q / 26 % 8∧q / 26 % 8<8:=⟨Int.emod_nonneg _ (by decide),Int.emod_lt_of_pos _ (by decide)⟩
 obtain ⟨sz,hsz',hs1,hs8⟩:∃ sz:Int,1+q / 26 % 8=sz∧1≤sz∧sz≤8:=⟨_,rfl,by omega,by omega⟩
 have s0:(0:Int)<sz:=by omega
 have go:∀ (R:Int→Str) (B0:Sm),(∀ (s:Int) (h:Mem),0≤s→s≤20→B0 [some (.tl (ns.map W.int)),some (.int s),some (.str ⟨#[97+((q+s) % 26).toNat]⟩),some (.str B),some (.int sz),none] h=.rt (.str (R s)) h) →
   ∀ (k:Nat) (h:Mem),k≤20→selfF 2 6 (xSeq (xAsg (gN 2) (xBin ixM (xC (.str AL)) (xBin modM (xBin addM (xCall0 F_mix (xCons (xVar 0) (xCons (xC (.int 1)) xNil))) (xVar 1)) (xC (.int 26))))) (xSeq (xAsg (gN 3) (xBmS joinM (xC (.str (Str.ofString ""))) (xCons Cm xNil))) (xSeq (xAsg (gN 4) (xBin addM (xC (.int 1)) (xBin modM (xBin divM (xCall0 F_mix (xCons (xVar 0) (xCons (xC (.int 1)) xNil))) (xC (.int 26))) (xC (.int 8))))) B0))) [.tl (ns.map W.int),.int (k:Nat)] h=.ok (.str (R k)) h:=by
  intro R B0 hB0 k h hk
  refine selfF_ok rfl ?_ (Nat.le_refl _)
  refine congrArg Out.res (?_:_=Out.rt (.str (R k)) h)
  have e2:=al (i:=(q+(k:Int)) % 26) (hz0 k).1 (hz0 k).2
  refine (xSeq_nx (ρ':=[some (.tl (ns.map W.int)),some (.int k),some (.str ⟨#[97+((q+(k:Int)) % 26).toNat]⟩),none,none,none]) (h':=h) (by simp! [m1,e2,al26])).trans ?_
  refine (xSeq_nx (ρ':=[some (.tl (ns.map W.int)),some (.int k),some (.str ⟨#[97+((q+(k:Int)) % 26).toNat]⟩),some (.str B),none,none]) (h':=h) (by simp! [ec,hj,hB,strW_map])).trans ?_
  refine (xSeq_nx (ρ':=[some (.tl (ns.map W.int)),some (.int k),some (.str ⟨#[97+((q+(k:Int)) % 26).toNat]⟩),some (.str B),some (.int sz),none]) (h':=h) (by simp! [m1,hsz'])).trans ?_
  exact hB0 k h (by omega) (by omega)
 have sl:∀ c:Nat,(⟨#[c]⟩:Str).length=1:=fun _=>rfl
 by_cases hq:0<q / 208 % 3
 ·have a0:=Int.emod_nonneg (q / 624) (show sz≠0 by omega)
  have a1:=Int.emod_lt_of_pos (q / 624) s0
  generalize ha:q / 624 % sz=a at a0 a1
  obtain ⟨an,rfl⟩:=Int.eq_ofNat_of_zero_le a0
  have c1:=slice_to (x:=B) (j:=(an:Int)) (by omega)
  have c2:=slice_mid (x:=B) (i:=(an:Int)+1) (j:=sz) (by omega)
  rw [hbs] at c1 c2
  have l1:(Txt.slice B none (some (an:Int))).length=an:=by rw [length_codes,c1]; simp; omega
  have l2:(Txt.slice B (some ((an:Int)+1)) (some sz)).length≤8:=by rw [length_codes,c2]; simp; omega
  refine ⟨fun k=>Txt.slice B none (some (an:Int))++⟨#[97+((q+(k:Int)) % 26).toNat]⟩++Txt.slice B (some ((an:Int)+1)) (some sz),fun h k hk=>⟨?_,?_⟩,fun k j hk hj hkj e=>?_⟩
  ·refine go (fun s=>Txt.slice B none (some (an:Int))++⟨#[97+((q+s) % 26).toNat]⟩++Txt.slice B (some ((an:Int)+1)) (some sz)) _ (fun s h _ _=>?_) k h hk
   have k1:(Txt.slice B none (some (an:Int))).length+(⟨#[97+((q+s) % 26).toNat]⟩:Str).length≤16777216:=by rw [sl]; omega
   have k2:(Txt.slice B none (some (an:Int))++⟨#[97+((q+s) % 26).toNat]⟩).length+(Txt.slice B (some ((an:Int)+1)) (some sz)).length≤16777216:=by rw [len_add,sl]; omega
   have hBl':B.length≤16777216:=by omega
   simp! [m1,hq,s0,ha,k1,k2,hBl']
  ·refine nameS_of ?_ ?_ ?_
   all_goals rw [codes_add,codes_add,c1,c2]
   ·simp
    omega
   ·simp
    omega
   ·intro c hc
    simp only [List.mem_append,List.mem_singleton] at hc
    rcases hc with (hc | hc) | hc
    ·exact hb c (List.mem_of_mem_take hc)
    ·have hc:c=97+((q+(k:Int)) % 26).toNat:=by simpa using hc
     have:=hz0 k
     omega
    ·exact hb c (List.mem_of_mem_drop (List.mem_of_mem_take hc))
  ·have e':=congrArg (fun z:Str=>z.cps.toList[an]?) e
   simp only [codes_add,c1,c2] at e'
   have la:(bs.take an).length=an:=by simp; omega
   have g:∀ (c:Nat) (R:List Nat),((bs.take an++(⟨#[c]⟩:Str).cps.toList)++R)[an]? = some c:=fun c R=>by
    rw [List.append_assoc,List.getElem?_append_right (by rw [la]; exact Nat.le_refl _),la,Nat.sub_self]
    rfl
   simp only [Int.toNat_natCast] at e'
   rw [g,g] at e'
   have:=hz0 (k:Int)
   have:=hz0 (j:Int)
   have e3:97+((q+(k:Int)) % 26).toNat=97+((q+(j:Int)) % 26).toNat:=by simpa using e'
   omega
 ·refine ⟨fun k=>⟨#[97+((q+(k:Int)) % 26).toNat]⟩++Txt.slice B none (some (((k:Int)+sz) % 8)),fun h k hk=>⟨?_,?_⟩,fun k j hk hj hkj e=>?_⟩
  ·refine go (fun s=>⟨#[97+((q+s) % 26).toNat]⟩++Txt.slice B none (some ((s+sz) % 8))) _ (fun s h _ _=>?_) k h hk
   have l1:=Txt.slice_le B none (some ((s+sz) % 8))
   have k1:(⟨#[97+((q+s) % 26).toNat]⟩:Str).length+(Txt.slice B none (some ((s+sz) % 8))).length≤16777216:=by rw [sl]; omega
   have hBl':B.length≤16777216:=by omega
   simp! [m1,hq,k1,hBl']
  all_goals
   have f0:∀ s:Int,0≤(s+sz) % 8∧(s+sz) % 8≤B.length:=fun s=>⟨Int.emod_nonneg _ (by decide),by have:=Int.emod_lt_of_pos (s+sz) (show (0:Int)<8 by decide); omega⟩
  ·have c1:=slice_to (f0 k)
   rw [hbs] at c1
   refine nameS_of ?_ ?_ ?_
   all_goals rw [codes_add,c1]
   ·simp
   ·have:=(f0 k).2
    simp
    omega
   ·intro c hc
    simp only [List.mem_append] at hc
    rcases hc with hc | hc
    ·have hc:c=97+((q+(k:Int)) % 26).toNat:=by simpa using hc
     have:=hz0 k
     omega
    ·exact hb c (List.mem_of_mem_take hc)
  ·have e':=congrArg (fun z:Str=>z.cps.toList[0]?) e
   simp only [codes_add] at e'
   have:=hz0 (k:Int)
   have:=hz0 (j:Int)
   have e3:97+((q+(k:Int)) % 26).toNat=97+((q+(j:Int)) % 26).toNat:=by simpa using e'
   omega
theorem pickW {l:List W}{i:Int}(h0:0≤i)(h1:i<l.length):∃ y∈l,atI l i=some y:=by
 refine ⟨l.getD i.toNat .non,?_,atI_getD _ h0 h1⟩
 have h:i.toNat<l.length:=by omega
 rw [List.getD_eq_getElem?_getD,List.getElem?_eq_getElem h]
 exact List.getElem_mem h
def S_word (F:Fm):Prop:=∀ h:Mem,(∃ o,F [.exc "NoTask" [] []] h=.ok (.str "NoTask") (h++[o]))∧(∃ o,F [.exc "TooMany" [] []] h=.ok (.str "TooMany") (h++[o]))∧(∃ o,F [.exc "NoHandle" [] []] h=.ok (.str "NoHandle") (h++[o]))∧(∃ o,F [.exc "Taken" [] []] h=.ok (.str "Taken") (h++[o]))
theorem ok_word (T:Tx K mg C)(R:DefAt K mg "_law_word" s_l_word):∃ F,FnAt P w K mg base (CXe false P w) 1 "_law_word" (spH (T0 C) F)∧S_word F:=by
 refine ⟨_,(defX R sc_l_word bd_l_word (hB:=fun f cdv A outer s H E φ0 hr hx=>(qb_cons (qs_set (i:=1) sc_l_word.nd rfl (Or.inl rfl) (fun _ _ _=>trivial) (q_lstN (qa_cons (q_cb (isiX_ok T.ins T.exo T.kit) (call_isiX K rfl) rfl T.b_isinstance (by first | exact boot_b_isinstance | rfl) (qa_cons (q_var 0) (qa_cons (q_cls rfl T.g_NoName T.t_NoName) qa_nil))) (qa_cons (q_cb (isiX_ok T.ins T.exo T.kit) (call_isiX K rfl) rfl T.b_isinstance (by first | exact boot_b_isinstance | rfl) (qa_cons (q_var 0) (qa_cons (q_cls rfl T.g_Taken T.t_Taken) qa_nil))) (qa_cons (q_cb (isiX_ok T.ins T.exo T.kit) (call_isiX K rfl) rfl T.b_isinstance (by first | exact boot_b_isinstance | rfl) (qa_cons (q_var 0) (qa_cons (q_cls rfl T.g_NoTask T.t_NoTask) qa_nil))) (qa_cons (q_cb (isiX_ok T.ins T.exo T.kit) (call_isiX K rfl) rfl T.b_isinstance (by first | exact boot_b_isinstance | rfl) (qa_cons (q_var 0) (qa_cons (q_cls rfl T.g_TooMany T.t_TooMany) qa_nil))) qa_nil))))))
   (qb_cons (qs_expr (q_append (q_var 1) (qa_cons (q_cb (isiX_ok T.ins T.exo T.kit) (call_isiX K rfl) rfl T.b_isinstance (by first | exact boot_b_isinstance | rfl) (qa_cons (q_var 0) (qa_cons (q_cls rfl T.g_NoHandle T.t_NoHandle) qa_nil))) qa_nil)))
   (qb_cons (qs_if (qt_w (qw_or (qt_val (q_cb (isiX_ok T.ins T.exo T.kit) (call_isiX K rfl) rfl T.b_isinstance (by first | exact boot_b_isinstance | rfl) (qa_cons (q_var 0) (qa_cons (q_tup (qa_cons (q_cls rfl T.g_NoRights T.t_NoRights) (qa_cons (q_cls rfl T.g_NoValue T.t_NoValue) (qa_cons (q_cls rfl T.g_NoWords T.t_NoWords) (qa_cons (q_cls rfl T.g_NoKind T.t_NoKind) (qa_cons (q_cls rfl T.g_NoThing T.t_NoThing) (qa_cons (q_cls rfl T.g_NoRow T.t_NoRow) qa_nil))))))) qa_nil)))) (qw_or1 (qt_not (qt_val (q_cb (isiX_ok T.ins T.exo T.kit) (call_isiX K rfl) rfl T.b_isinstance (by first | exact boot_b_isinstance | rfl) (qa_cons (q_var 0) (qa_cons (q_ty "ValueError" rfl T.b_ValueError (by first | exact boot_ty_ValueError | rfl)) qa_nil)))))))) (qb_one (qs_ret q_str)) qb_nil)
   (qb_cons (qs_if (qt_w (qw_or (qt_val (q_cb (isiX_ok T.ins T.exo T.kit) (call_isiX K rfl) rfl T.b_isinstance (by first | exact boot_b_isinstance | rfl) (qa_cons (q_var 0) (qa_cons (q_tup (qa_cons (q_cls rfl T.g_TooGreat T.t_TooGreat) (qa_cons (q_cls rfl T.g_Empty T.t_Empty) (qa_cons (q_cls rfl T.g_Full T.t_Full) (qa_cons (q_cls rfl T.g_NoDeed T.t_NoDeed) (qa_cons (q_cls rfl T.g_Lacks T.t_Lacks) qa_nil)))))) qa_nil)))) (qw_or1 (qt_cmp (op_neF hr) neO_ok (q_count (q_var 1) (qa_cons q_bl qa_nil)) q_int (nomark _))))) (qb_one (qs_ret q_str)) qb_nil)
   (qb_one (qs_ret (q_ix ix_any ixM_ok (q_lst (qa_cons q_str (qa_cons q_str (qa_cons q_str (qa_cons q_str (qa_cons q_str qa_nil)))))) (q_indexB (q_var 1) (qa_cons q_bl qa_nil)) (fun _ _=>rfl)))))))))) selfX_told,fun h=>⟨⟨.lst [.bl false,.bl false,.bl true,.bl false,.bl false],selfX_ok rfl ?_ (by simp)⟩,⟨.lst [.bl false,.bl false,.bl false,.bl true,.bl false],selfX_ok rfl ?_ (by simp)⟩,⟨.lst [.bl false,.bl false,.bl false,.bl false,.bl true],selfX_ok rfl ?_ (by simp)⟩,⟨.lst [.bl false,.bl true,.bl false,.bl false,.bl false],selfX_ok rfl ?_ (by simp)⟩⟩⟩
 ·simp_arith [kg_0,kg_1,kg_2,kg_3,kg_4,kg_5,kg_6,kg_7,kg_8,kg_9,kg_10,kg_11,kg_12,kg_13,kg_14,kg_15,kg_16,kg_17,kg_18,kg_19,kg_20,kg_21,kg_22,kg_23,kg_24,kg_25,kg_26,kg_27,kg_28,kg_29,kg_30,kg_31,kg_32,kg_33,kg_34,kg_35,kg_36,kg_37,kg_38,kg_39,kg_40,kg_41,kg_42,kg_43,kg_44,kg_45,kg_46,kg_47,kg_48,kg_49,kg_50,kg_51,kg_52,kg_53,kg_54,kg_55,kg_56,kg_57,kg_58,kg_59,kg_60,kg_61,kg_62,kg_63,kg_64,kg_65,kg_66,kg_67,kg_68,kg_69,kg_70,kg_71,kg_72,kg_73,kg_74,kg_75,kg_76,kg_77,kg_78,kg_79,kg_80,kg_81,kg_82,kg_83,indexBM,bolW,List.idxOf_cons,atI_0,atI_1,atI_2,atI_3,atI_4]
 ·simp_arith [kg_0,kg_1,kg_2,kg_3,kg_4,kg_5,kg_6,kg_7,kg_8,kg_9,kg_10,kg_11,kg_12,kg_13,kg_14,kg_15,kg_16,kg_17,kg_18,kg_19,kg_20,kg_21,kg_22,kg_23,kg_24,kg_25,kg_26,kg_27,kg_28,kg_29,kg_30,kg_31,kg_32,kg_33,kg_34,kg_35,kg_36,kg_37,kg_38,kg_39,kg_40,kg_41,kg_42,kg_43,kg_44,kg_45,kg_46,kg_47,kg_48,kg_49,kg_50,kg_51,kg_52,kg_53,kg_54,kg_55,kg_56,kg_57,kg_58,kg_59,kg_60,kg_61,kg_62,kg_63,kg_64,kg_65,kg_66,kg_67,kg_68,kg_69,kg_70,kg_71,kg_72,kg_73,kg_74,kg_75,kg_76,kg_77,kg_78,kg_79,kg_80,kg_81,kg_82,kg_83,indexBM,bolW,List.idxOf_cons,atI_0,atI_1,atI_2,atI_3,atI_4]
 ·simp_arith [kg_0,kg_1,kg_2,kg_3,kg_4,kg_5,kg_6,kg_7,kg_8,kg_9,kg_10,kg_11,kg_12,kg_13,kg_14,kg_15,kg_16,kg_17,kg_18,kg_19,kg_20,kg_21,kg_22,kg_23,kg_24,kg_25,kg_26,kg_27,kg_28,kg_29,kg_30,kg_31,kg_32,kg_33,kg_34,kg_35,kg_36,kg_37,kg_38,kg_39,kg_40,kg_41,kg_42,kg_43,kg_44,kg_45,kg_46,kg_47,kg_48,kg_49,kg_50,kg_51,kg_52,kg_53,kg_54,kg_55,kg_56,kg_57,kg_58,kg_59,kg_60,kg_61,kg_62,kg_63,kg_64,kg_65,kg_66,kg_67,kg_68,kg_69,kg_70,kg_71,kg_72,kg_73,kg_74,kg_75,kg_76,kg_77,kg_78,kg_79,kg_80,kg_81,kg_82,kg_83,indexBM,bolW,List.idxOf_cons,atI_0,atI_1,atI_2,atI_3,atI_4]
 ·simp_arith [kg_0,kg_1,kg_2,kg_3,kg_4,kg_5,kg_6,kg_7,kg_8,kg_9,kg_10,kg_11,kg_12,kg_13,kg_14,kg_15,kg_16,kg_17,kg_18,kg_19,kg_20,kg_21,kg_22,kg_23,kg_24,kg_25,kg_26,kg_27,kg_28,kg_29,kg_30,kg_31,kg_32,kg_33,kg_34,kg_35,kg_36,kg_37,kg_38,kg_39,kg_40,kg_41,kg_42,kg_43,kg_44,kg_45,kg_46,kg_47,kg_48,kg_49,kg_50,kg_51,kg_52,kg_53,kg_54,kg_55,kg_56,kg_57,kg_58,kg_59,kg_60,kg_61,kg_62,kg_63,kg_64,kg_65,kg_66,kg_67,kg_68,kg_69,kg_70,kg_71,kg_72,kg_73,kg_74,kg_75,kg_76,kg_77,kg_78,kg_79,kg_80,kg_81,kg_82,kg_83,indexBM,bolW,List.idxOf_cons,atI_0,atI_1,atI_2,atI_3,atI_4]
theorem filt_flat {α β:Type}(p:α→Bool)(f:α→List β):∀ l:List α,(l.filter p).flatMap f=l.flatMap fun x=>if p x=true then f x else []
 | []=>rfl
 | a::l=>by
  rw [List.filter_cons,List.flatMap_cons]
  by_cases h:p a=true
  ·rw [if_pos h,if_pos h,List.flatMap_cons,filt_flat p f l]
  ·rw [if_neg h,if_neg h,filt_flat p f l]; rfl
def Ord (ev:List (Str×Str))(rs:List Str):Prop:=rs=(ev.map Prod.fst).filter fun x=>decide (x∈rs)
theorem inM_list {h:Mem}{n:Nat}{l:List Str}{z:Str}(b:Bool)(e:h[n]? = some (.lst (l.map W.str))):inM b h (.str z) (.ref n)=some (.bl (b ^^ decide (z∈l))):=by
 have ai:=any_str (l:=l) (z:=z)
 have af:=all_flat (l:=l)
 unfold inM
 simp only [dicts,seqs,items,e,Option.bind_some]
 rw [if_pos (by rw [af]; rfl),ai]
def S_below (d:Nat)(F:Fm):Prop:=∀ (h:Mem) (m r:Nat) ev rs,(h[m]? = some (.dic (mkD ev))∨h[m]? = some (.fdic (mkD ev)))→h[r]? = some (.lst (rs.map W.str))→Fo ev→rs.Nodup→rs.length≤1000→Ord ev rs→∀ n,Dep ev rs d n→F [.ref m,.ref r,.str n] h=.ok (.tl ((mb ev rs d n).map W.str)) h
theorem ok_below (T:Tx K mg C){Fb:Fm}{d:Nat}(hFb:S_below d Fb)(G_l_below:FnAt P w K mg base CX0 (d+1) "_law_below" (spH (T0 C) Fb))(R:DefAt K mg "_law_below" s_l_below):∃ F,FnAt P w K mg base CX0 (d+1+1) "_law_below" (spH (T0 C) F)∧S_below (d+1) F:=by
 refine ⟨_,(def0s R sc_l_below bd_l_below (hB:=fun f cdv A outer s H E φ0 H0 hr=>(qb_cons (qs_set (i:=3) sc_l_below.nd rfl (Or.inl rfl) (fun _ _ _=>trivial) (q_lst qa_nil))
   (qb_cons (qs_forD (tg_name (fun _ _ _=>trivial)) PassesOwn.never rfl (q_var 0) (qg_name (i:=4) sc_l_below.nd rfl (Or.inl rfl))
    (qb_one (qs_if (qt_w (qw_and (qt_cmp (op_inV hr) inM_ok (q_var 4) (q_var 1) (by rfl)) (qw_and1 (qt_cmp (op_eqF hr) eqO_ok (q_dget hr (q_var 0) (q_var 4) (fun _ _=>rfl)) (q_var 2) (nomark _))))) (qb_one (qs_set (i:=3) sc_l_below.nd rfl (Or.inl rfl) (fun _ _ _=>trivial) (q_bin op_addV addM_ok (q_bin op_addV addM_ok (q_var 3) (q_lst (qa_cons (q_var 4) qa_nil))) (q_fn0 G_l_below hr (by omega) rfl (qa_cons (q_var 0) (qa_cons (q_var 1) (qa_cons (q_var 4) qa_nil))))))) qb_nil)))
   (qb_one (qs_ret (q_var 3))))))),?_⟩
 intro h m r ev rs hm hr fo nd rl ord n hd
 generalize hB0:xIfS _ _ _=B
 obtain ⟨ns,hns⟩:∃ ns,ev.map Prod.fst=ns:=⟨_,rfl⟩
 have kw:keyWs (mkD ev)=ns.map W.str:=by rw [← hns]; exact keyWs_eq (mkD_keys ev)
 obtain ⟨gk,hgk⟩:∃ gk:Str→List Str,gk=fun o=>if mkr ev o=some n then o::mb ev rs d o else []:=⟨_,rfl⟩
 obtain ⟨gx,hgx⟩:∃ gx:Str→List Str,gx=fun o=>if decide (o∈rs)=true then gk o else []:=⟨_,rfl⟩
 have hmb:mb ev rs (d+1) n=ns.flatMap gx:=by
  have e1:mb ev rs (d+1) n=rs.flatMap gk:=by rw [hgk]; rfl
  unfold Ord at ord
  rw [e1,ord,filt_flat,hns,hgx]
 have big:∀ j,((ns.take j).flatMap gx).length≤1000:=fun j=>by
  refine Nat.le_trans (take_flat gx ns j) ?_
  rw [← hmb]
  exact Nat.le_trans (mb_len fo nd _ _) rl
 have ml:m<h.length:=by rcases hm with q | q <;> exact (List.getElem?_eq_some_iff.mp q).1
 have mr:m≠r:=by intro q; rcases hm with z | z <;> (rw [q,hr] at z; cases z)
 have lp:∀ h0:Mem,h0[m]? = some (.fdic (mkD ev))→h0[r]? = some (.lst (rs.map W.str)) →
   ∃ ρ' h',xLoop (gN 4) B (ns.map W.str) [some (.ref m),some (.ref r),some (.str n),some (.tl []),none] h0=.nx ρ' h'∧((∃ v4,ρ'=[some (.ref m),some (.ref r),some (.str n),some (.tl (((ns.take (0+(ns.map W.str).length)).flatMap gx).map W.str)),v4])∧h'=h0):=by
  intro h0 i1 i2
  refine xLoop_ix (fun i ρ' h'=>(∃ v4,ρ'=[some (.ref m),some (.ref r),some (.str n),some (.tl (((ns.take i).flatMap gx).map W.str)),v4])∧h'=h0) (ns.map W.str) 0 _ h0 ⟨⟨none,rfl⟩,rfl⟩ ?_
  rintro j w hw ρ hh ⟨⟨v4,rfl⟩,rfl⟩
  rw [Nat.zero_add]
  rw [List.getElem?_map,Option.map_eq_some_iff] at hw
  obtain ⟨o,hj,rfl⟩:=hw
  have ho:o∈ns:=List.mem_of_getElem? hj
  have et:ns.take (j+1)=ns.take j++[o]:=by rw [List.take_succ,hj]; rfl
  have ef:(ns.take (j+1)).flatMap gx=(ns.take j).flatMap gx++gx o:=by rw [et,List.flatMap_append]; simp
  have bj:=big (j+1)
  rw [ef,List.length_append] at bj
  obtain ⟨acc,hacc⟩:∃ acc,(ns.take j).flatMap gx=acc:=⟨_,rfl⟩
  rw [hacc] at ef bj
  rw [hacc,ef]
  obtain ⟨pr,hpr,epr⟩:∃ p∈ev,p.1=o:=by rw [← hns] at ho; exact List.mem_map.mp ho
  have ey:=mkr_of fo.nd hpr
  rw [epr] at ey
  obtain ⟨y,hy⟩:∃ y,pr.2=y:=⟨_,rfl⟩
  rw [hy] at ey
  have gy:=mkD_get o ev
  rw [ey] at gy
  have gy:getK (mkD ev) (.inr o)=some (.str y):=gy
  have iM:=inM_list (z:=o) false i2
  rw [Bool.false_xor] at iM
  refine ⟨_,rfl,?_⟩
  by_cases hor:o∈rs
  ·rw [decide_eq_true hor] at iM
   have gxo:gx o=gk o:=by rw [hgx]; simp [hor]
   by_cases hyt:y=n
   ·subst hyt
    have gs:gx o=o::mb ev rs d o:=by rw [gxo,hgk]; exact if_pos ey
    have bb:=hFb hh m r ev rs (.inr i1) i2 fo nd rl ord o (hd o hor ey)
    rw [gs] at bj ⊢
    rw [List.length_cons] at bj
    obtain ⟨ms,hms⟩:∃ ms,mb ev rs d o=ms:=⟨_,rfl⟩
    rw [hms] at bb bj ⊢
    have c1:acc.length+1≤16777216:=by omega
    have c2:acc.length+1+ms.length≤16777216:=by omega
    refine ⟨_,_,.inl ?_,⟨some (.str o),rfl⟩,rfl⟩
    rw [← hB0]
    simp_all_arith [i1,gy,iM,dgetM,bb,c1,c2]
   ·have gs:gx o=[]:=by
     rw [gxo,hgk]
     refine if_neg fun q=>hyt ?_
     rw [ey] at q
     exact Option.some.inj q
    rw [gs,List.append_nil]
    refine ⟨_,_,.inl ?_,⟨some (.str o),rfl⟩,rfl⟩
    rw [← hB0]
    simp_all_arith [i1,gy,iM,hyt,dgetM]
  ·rw [decide_eq_false hor] at iM
   have gs:gx o=[]:=by rw [hgx]; simp [hor]
   rw [gs,List.append_nil]
   refine ⟨_,_,.inl ?_,⟨some (.str o),rfl⟩,rfl⟩
   rw [← hB0]
   simp_all_arith [iM]
 have lf:(ns.take (0+(ns.map W.str).length)).flatMap gx=mb ev rs (d+1) n:=by rw [Nat.zero_add,List.length_map,List.take_length,hmb]
 rw [lf,← kw] at lp
 refine selfF_ok rfl ?_ (Nat.le_refl _)
 refine congrArg Out.res (?_:_=Out.rt (.tl ((mb ev rs (d+1) n).map W.str)) h)
 refine (xSeq_nx (ρ':=[some (.ref m),some (.ref r),some (.str n),some (.tl []),none]) (h':=h) (by simp! [xNo])).trans ?_
 rcases hm with z | z
 ·obtain ⟨ρ',h',lp,⟨v4,rfl⟩,rfl⟩:=lp (h.set m (.fdic (mkD ev))) (by rw [List.getElem?_set_self ml]) (by rw [List.getElem?_set_ne mr]; exact hr)
  have z2:(h.set m (.fdic (mkD ev))).set m (.dic (mkD ev))=h:=by
   rw [List.set_set]
   obtain ⟨hl,q⟩:=List.getElem?_eq_some_iff.mp z
   rw [← q,List.set_getElem_self]
  have fin:=xForD_dic (n:=m) (h1:=h) (f:=xVar 0) (ρ:=[some (.ref m),some (.ref r),some (.str n),some (.tl []),none]) (h:=h) (by simp! [xNo]) z lp (by rw [List.getElem?_set_self ml])
  rw [z2] at fin
  refine (xSeq_nx fin).trans ?_
  simp! [xNo]
 ·obtain ⟨ρ',h',lp,⟨v4,rfl⟩,rfl⟩:=lp h z hr
  refine (xSeq_nx (xForD_fdic (n:=m) (h1:=h') (by simp! [xNo]) z lp)).trans ?_
  simp! [xNo]
theorem ok_belows (T:Tx K mg C)(R:DefAt K mg "_law_below" s_l_below):∀ d,∃ F,FnAt P w K mg base CX0 (d+1) "_law_below" (spH (T0 C) F)∧S_below d F
 | 0=>⟨fun _ _=>.no,fnAt_no R bd_l_below,fun h m r ev rs _ _ _ _ _ _ n z=>z.elim⟩
 | d+1=>by
  obtain ⟨F,G,hF⟩:=ok_belows T R d
  exact ok_below T hF G R
structure Lt where
 nm:Str
 r:Nat
 row:List (Option Int)
def rwD (ls:List Lt):List (Key×W):=ls.map fun t=>(.inr t.nm,.ref t.r)
structure Lj (h:Mem)(g:Nat)(ls:List Lt):Prop where
 g:h[g]? = some (.dic (rwD ls))
 rr:∀ l∈ls,h[l.r]? = some (.lst (l.row.map ow))∧l.row.length=16
 nn:(ls.map Lt.nm).Nodup
 nr:(ls.map Lt.r).Nodup
theorem rwD_keys (ls:List Lt):(rwD ls).map (·.1)=(ls.map Lt.nm).map Sum.inr:=by unfold rwD; rw [List.map_map,List.map_map]; rfl
theorem Lj.getF {h:Mem}{g:Nat}{ls:List Lt}(j:Lj h g ls){l:Lt}(hl:l∈ls):getK (rwD ls) (.inr l.nm)=some (.ref l.r):=by
 have nd:((rwD ls).map (·.1)).Nodup:=by
  rw [rwD_keys]
  unfold List.Nodup
  rw [List.pairwise_map]
  exact j.nn.imp fun h e=>h (Sum.inr.inj e)
 exact (mem_getK nd).mp (List.mem_map.mpr ⟨l,hl,rfl⟩)
theorem Lj.fr {h h':Mem}{g:Nat}{ls:List Lt}(j:Lj h g ls)(e:∀ n,(n=g∨∃ l∈ls,n=l.r)→h'[n]? = h[n]?):Lj h' g ls:=
 ⟨by rw [e _ (.inl rfl)]; exact j.g,fun l hl=>⟨by rw [e _ (.inr ⟨l,hl,rfl⟩)]; exact (j.rr l hl).1,(j.rr l hl).2⟩,j.nn,j.nr⟩
theorem Lj.put {h:Mem}{g:Nat}{a b:List Lt}{l:Lt}(j:Lj h g (a++l::b)){row:List (Option Int)}(hr:row.length=16):Lj (h.set l.r (.lst (row.map ow))) g (a ++ { l with row:=row }::b):=by
 have hm:l∈a++l::b:=by simp
 have r1:=(j.rr l hm).1
 have hlt:l.r<h.length:=(List.getElem?_eq_some_iff.mp r1).1
 have hg:l.r≠g:=by intro q; have:=j.g; rw [← q,r1] at this; cases this
 refine ⟨?_,fun s hs=>?_,?_,?_⟩
 ·rw [List.getElem?_set_ne hg,j.g]; simp [rwD]
 ·have hs':s = { l with row:=row }∨s∈a∨s∈b:=by
   simp only [List.mem_append,List.mem_cons] at hs
   rcases hs with hs | hs | hs
   ·exact .inr (.inl hs)
   ·exact .inl hs
   ·exact .inr (.inr hs)
  rcases hs' with rfl | hs'
  ·exact ⟨by rw [List.getElem?_set_self hlt],hr⟩
  ·have hm:s∈a++l::b:=by simp; rcases hs' with q | q; exact .inl q; exact .inr (.inr q)
   exact ⟨by rw [List.getElem?_set_ne (nodup_mid j.nr hs').symm]; exact (j.rr s hm).1,(j.rr s hm).2⟩
 ·have:=j.nn; simpa using this
 ·have:=j.nr; simpa using this
theorem ow_non (x:Option Int):eqFl (ow x) .non=x.isNone:=by cases x <;> rfl
theorem ow_int (x:Option Int)(v:Int):eqFl (ow x) (.int v)=decide (x=some v):=by
 cases x with
 | none=>simp [ow,eqFl]
 | some n=>simp [ow,eqFl]
theorem ow_flat (row:List (Option Int)):(row.map ow).all flatW=true:=by
 rw [List.all_map,List.all_eq_true]
 intro x _
 cases x <;> rfl
theorem ow_any (row:List (Option Int)):((row.map ow).any fun y=>eqFl y .non)=row.any Option.isNone:=by
 rw [List.any_map]
 congr 1
 funext x
 exact ow_non x
theorem ow_idx (row:List (Option Int)):((row.map ow).findIdx? fun y=>eqFl y .non)=row.findIdx? Option.isNone:=by
 rw [List.findIdx?_map]
 congr 1
 funext x
 exact ow_non x
theorem ow_cnt (row:List (Option Int))(v:Int):((row.map ow).countP fun y=>eqFl y (.int v))=cnt v row:=by
 unfold cnt
 rw [List.countP_map,List.countP_eq_length_filter]
 congr 2
 funext x
 exact ow_int x v
theorem ow_cntN (row:List (Option Int)):((row.map ow).countP fun y=>eqFl y .non)=(row.filter Option.isNone).length:=by
 rw [List.countP_map,List.countP_eq_length_filter]
 congr 2
 funext x
 exact ow_non x
theorem any_idx {row:List (Option Int)}:row.any Option.isNone=(row.findIdx? Option.isNone).isSome:=by
 rw [Bool.eq_iff_iff,List.any_eq_true]
 cases e:row.findIdx? Option.isNone with
 | none=>
  rw [List.findIdx?_eq_none_iff] at e
  constructor
  ·rintro ⟨x,hx,h⟩; rw [e x hx] at h; cases h
  ·intro h; cases h
 | some i=>
  obtain ⟨hi,h1,_⟩:=List.findIdx?_eq_some_iff_getElem.mp e
  exact ⟨fun _=>rfl,fun _=>⟨_,List.getElem_mem hi,h1⟩⟩
theorem Lj.add {h h':Mem}{g:Nat}{ls:List Lt}(j:Lj h g ls){z:Str}{n:Nat}{row:List (Option Int)}(hn:∀ l∈ls,l.r≠n)(hz:¬z∈ls.map Lt.nm)(e:∀ l∈ls,h'[l.r]? = h[l.r]?)(eg:h'[g]? = some (.dic (rwD ls++[(.inr z,.ref n)])))(en:h'[n]? = some (.lst (row.map ow)))(hr:row.length=16):Lj h' g (ls++[⟨z,n,row⟩]):=by
 refine ⟨by rw [eg]; simp [rwD],fun l hl=>?_,?_,?_⟩
 ·rcases List.mem_append.mp hl with hl | hl
  ·exact ⟨by rw [e l hl]; exact (j.rr l hl).1,(j.rr l hl).2⟩
  ·obtain rfl:=List.mem_singleton.mp hl
   exact ⟨en,hr⟩
 ·rw [List.map_append,List.nodup_append]
  refine ⟨j.nn,by simp,fun a ha b hb q=>hz ?_⟩
  have hb:b=z:=by simpa using hb
  rw [← hb,← q]; exact ha
 ·rw [List.map_append,List.nodup_append]
  refine ⟨j.nr,by simp,fun a ha b hb q=>?_⟩
  have hb:b=n:=by simpa using hb
  obtain ⟨l,hl,rfl⟩:=List.mem_map.mp ha
  exact hn l hl (q.trans hb)
structure Wn where
 o:Nat
 m:Nat
 g:Nat
def ownD (ω:Wn)(r:Nat):List (Key×W):=[(.inr (Str.ofString "makers"),.ref ω.m),(.inr (Str.ofString "runs"),.ref r),(.inr (Str.ofString "rows"),.ref ω.g)]
structure Wj (h:Mem)(ω:Wn)(r:Nat)(ev:List (Str×Str))(rs:List Str)(ls:List Lt):Prop where
 o:h[ω.o]? = some (.dic (ownD ω r))
 m:h[ω.m]? = some (.dic (mkD ev))
 rr:h[r]? = some (.lst (rs.map W.str))
 l:Lj h ω.g ls
 om:ω.o≠ω.m
 og:ω.o≠ω.g
 mg:ω.m≠ω.g
 rl:∀ l∈ls,l.r≠r
 ln:ls.map Lt.nm=ev.map Prod.fst
 fo:Fo ev
 ord:Ord ev rs
 nd:rs.Nodup
 rn:rs.length≤12
 el:ev.length≤14
def Wj.on (ω:Wn)(r:Nat)(ls:List Lt)(n:Nat):Prop:=n=ω.o∨n=ω.m∨n=ω.g∨n=r∨∃ l∈ls,n=l.r
theorem Wj.fr {h h':Mem}{ω:Wn}{r:Nat}{ev:List (Str×Str)}{rs:List Str}{ls:List Lt}(j:Wj h ω r ev rs ls)(e:∀ n,Wj.on ω r ls n→h'[n]? = h[n]?):Wj h' ω r ev rs ls:=
 ⟨by rw [e _ (.inl rfl)]; exact j.o,by rw [e _ (.inr (.inl rfl))]; exact j.m,by rw [e _ (.inr (.inr (.inr (.inl rfl))))]; exact j.rr,j.l.fr fun n q=>by
  rcases q with rfl | ⟨l,hl,rfl⟩
  ·exact e _ (.inr (.inr (.inl rfl)))
  ·exact e _ (.inr (.inr (.inr (.inr ⟨l,hl,rfl⟩)))),j.om,j.og,j.mg,j.rl,j.ln,j.fo,j.ord,j.nd,j.rn,j.el⟩
theorem Wj.lt {h:Mem}{ω:Wn}{r:Nat}{ev:List (Str×Str)}{rs:List Str}{ls:List Lt}(j:Wj h ω r ev rs ls){n:Nat}(q:Wj.on ω r ls n):n<h.length:=by
 rcases q with rfl | rfl | rfl | rfl | ⟨l,hl,rfl⟩
 ·exact (List.getElem?_eq_some_iff.mp j.o).1
 ·exact (List.getElem?_eq_some_iff.mp j.m).1
 ·exact (List.getElem?_eq_some_iff.mp j.l.g).1
 ·exact (List.getElem?_eq_some_iff.mp j.rr).1
 ·exact (List.getElem?_eq_some_iff.mp (j.l.rr l hl).1).1
theorem gm {ω:Wn}{r:Nat}:getK (ownD ω r) (.inr (Str.ofString "makers"))=some (.ref ω.m):=rfl
theorem gr {ω:Wn}{r:Nat}:getK (ownD ω r) (.inr (Str.ofString "runs"))=some (.ref r):=rfl
theorem gg {ω:Wn}{r:Nat}:getK (ownD ω r) (.inr (Str.ofString "rows"))=some (.ref ω.g):=rfl
theorem Ord.add {ev:List (Str×Str)}{rs:List Str}{z y:Str}(o:Ord ev rs)(hz:¬z∈ev.map Prod.fst):Ord (ev++[(z,y)]) (rs++[z]):=by
 unfold Ord at o ⊢
 rw [List.map_append,List.filter_append]
 congr 1
 ·rw [show (ev.map Prod.fst).filter (fun x=>decide (x∈rs++[z]))=(ev.map Prod.fst).filter (fun x=>decide (x∈rs)) from List.filter_congr fun x hx=>?_]
  ·exact o
  ·have:x≠z:=fun q=>hz (q ▸ hx)
   simp [this]
 ·simp
theorem Ord.sub {ev:List (Str×Str)}{rs:List Str}(o:Ord ev rs)(p:Str→Bool):Ord ev (rs.filter p):=by
 unfold Ord at o ⊢
 conv=>lhs; rw [o]
 rw [List.filter_filter]
 apply List.filter_congr
 intro x _
 rw [Bool.eq_iff_iff]
 simp [List.mem_filter,and_comm]
theorem Ord.in {ev:List (Str×Str)}{rs:List Str}(o:Ord ev rs){x:Str}(h:x∈rs):x∈ev.map Prod.fst:=by
 unfold Ord at o
 rw [o] at h
 exact (List.mem_filter.mp h).1
def rep0:List (Option Int):=List.replicate 16 none
def S_oadd (F:Fm):Prop:=∀ h ω r ev rs ls,Wj h ω r ev rs ls→∀ z y,nameS z=true→(z∈ev.map Prod.fst→F [.ref ω.o,.str z,.str y] h=.ok (.str "Taken") h)∧(¬z∈ev.map Prod.fst→(¬y=Str.ofString ""→¬y∈rs→F [.ref ω.o,.str z,.str y] h=.ok (.str "NoTask") h)∧((y=Str.ofString ""∨y∈rs) →
 (rs.length=12→F [.ref ω.o,.str z,.str y] h=.ok (.str "TooMany") h)∧(rs.length<12→ev.length<14→∃ h',F [.ref ω.o,.str z,.str y] h=.ok .non h'∧h.length≤h'.length∧Wj h' ω r (ev++[(z,y)]) (rs++[z]) (ls++[⟨z,h.length,rep0⟩])∧∀ n,n<h.length→¬Wj.on ω r ls n→h'[n]? = h[n]?)))
theorem ok_oadd (T:Tx K mg C)(R:DefAt K mg "_law_added" s_l_added):∃ F,FnAt P w K mg base CX0 1 "_law_added" (spH (T0 C) F)∧S_oadd F:=by
 refine ⟨_,(def0s R sc_l_added bd_l_added (hB:=fun f cdv A outer s H E φ0 H0 hr=>(qb_cons (qs_if (qt_cmp (op_inV hr) inM_ok (q_var 1) (q_dget hr (q_var 0) q_str (fun _ _=>rfl)) (by rfl)) (qb_one (qs_ret q_str)) qb_nil)
   (qb_cons (qs_if (qt_w (qw_and (qt_cmp (op_neF hr) neO_ok (q_var 2) q_str (nomark _)) (qw_and1 (qt_cmp (op_notInV hr) inM_ok (q_var 2) (q_dget hr (q_var 0) q_str (fun _ _=>rfl)) (by rfl))))) (qb_one (qs_ret q_str)) qb_nil)
   (qb_cons (qs_if (qt_cmp (op_eqF hr) eqO_ok (q_cb lenM_ok call_lenV rfl T.b_len (by first | exact boot_b_len | rfl) (qa_cons (q_dget hr (q_var 0) q_str (fun _ _=>rfl)) qa_nil)) q_int (nomark _)) (qb_one (qs_ret q_str)) qb_nil)
   (qb_cons (qs_setd hr (q_dget hr (q_var 0) q_str (fun _ _=>rfl)) (q_var 1) (q_var 2))
   (qb_cons (qs_expr (q_append (q_dget hr (q_var 0) q_str (fun _ _=>rfl)) (qa_cons (q_var 1) qa_nil)))
   (qb_cons (qs_setd hr (q_dget hr (q_var 0) q_str (fun _ _=>rfl)) (q_var 1) (q_repN (qa_cons q_non qa_nil) q_int))
   (qb_one (qs_ret q_non)))))))))),?_⟩
 intro h ω r ev rs ls S z y hz
 have eo:=S.o
 have em:=S.m
 have er:=S.rr
 have eg:=S.l.g
 obtain ⟨RW',hRW⟩:∃ RW',rs.map W.str=RW':=⟨_,rfl⟩
 have RWl:RW'.length=rs.length:=by rw [← hRW]; simp
 have rn:=S.rn
 have iE:inM false h (.str z) (.ref ω.m)=some (.bl (decide (z∈ev.map Prod.fst))):=by
  have g:=getK_keys (mkD_keys ev) z
  unfold inM
  simp only [dicts,em,keyW,Option.map_some,g,Bool.false_xor]
 have iR:=inM_list (z:=y) true er
 rw [Bool.true_xor] at iR
 have d1:dgetM h (.ref ω.o) (.str (Str.ofString "makers"))=some (.ref ω.m):=by simp only [dgetM,dicts,eo,keyW]; exact gm
 have d2:dgetM h (.ref ω.o) (.str (Str.ofString "runs"))=some (.ref r):=by simp only [dgetM,dicts,eo,keyW]; exact gr
 rw [hRW] at er
 refine ⟨fun hm=>selfF_ok rfl ?_ (Nat.le_refl _),fun hm=>⟨fun h0 hy=>selfF_ok rfl ?_ (Nat.le_refl _),fun hy=>?_⟩⟩
 ·rw [decide_eq_true hm] at iE
  simp_all_arith [d1,iE]
 ·rw [decide_eq_false hm] at iE
  rw [decide_eq_false hy] at iR
  have iR:inM true h (.str y) (.ref r)=some (.bl true):=iR
  simp_all_arith [d1,d2,iE,iR,h0]
 rw [decide_eq_false hm] at iE
 generalize hI:xIfS (xAnd _ _) _ _=I2
 have st2:I2 [some (.ref ω.o),some (.str z),some (.str y)] h=.nx [some (.ref ω.o),some (.str z),some (.str y)] h:=by
  rw [← hI]
  by_cases h0:y=Str.ofString ""
  ·subst h0; simp_all_arith [xNo]
  ·have hy':=hy.resolve_left h0
   rw [decide_eq_true hy'] at iR
   have iR:inM true h (.str y) (.ref r)=some (.bl false):=iR
   simp_all_arith [d2,iR,h0]
 refine ⟨fun hl=>selfF_ok rfl ?_ (Nat.le_refl _),fun hl hel=>?_⟩
 ·have hc:(RW'.length:Int)=12:=by omega
  have b1:RW'.length≤16777216:=by omega
  refine congrArg Out.res (?_:_=Out.rt (.str "TooMany") h)
  refine (xSeq_nx (ρ':=[some (.ref ω.o),some (.str z),some (.str y)]) (h':=h) (by simp_all_arith [d1,iE])).trans ?_
  refine (xSeq_nx st2).trans ?_
  simp! [d2,er,hc,b1]
 ·have or':ω.o≠r:=by intro q; have:=S.o; rw [q,S.rr] at this; cases this
  have mr:ω.m≠r:=by intro q; have:=S.m; rw [q,S.rr] at this; cases this
  have gr':ω.g≠r:=by intro q; have:=S.l.g; rw [q,S.rr] at this; cases this
  have lo:=S.lt (.inl rfl)
  have lm:=S.lt (.inr (.inl rfl))
  have lg:=S.lt (.inr (.inr (.inl rfl)))
  have lr:=S.lt (.inr (.inr (.inr (.inl rfl))))
  obtain ⟨ev',hev'⟩:∃ ev',ev++[(z,y)]=ev':=⟨_,rfl⟩
  have emk:putD (mkD ev) (.inr z) (.str y)=mkD ev':=by rw [putD_new (mkD_keys ev) hm,← hev']; simp [mkD]
  have zl:¬z∈ls.map Lt.nm:=by rw [S.ln]; exact hm
  have erw:putD (rwD ls) (.inr z) (.ref h.length)=rwD ls++[(.inr z,.ref h.length)]:=putD_new (rwD_keys ls) zl
  obtain ⟨hA,ehA⟩:∃ hA,h.set ω.m (.dic (mkD ev'))=hA:=⟨_,rfl⟩
  obtain ⟨hB,ehB⟩:∃ hB,hA.set r (.lst (RW'++[.str z]))=hB:=⟨_,rfl⟩
  have lA:hA.length=h.length:=by rw [← ehA]; simp
  have lB:hB.length=h.length:=by rw [← ehB]; simp [lA]
  obtain ⟨hC,ehC⟩:∃ hC,hB++[O.lst (rep0.map ow)]=hC:=⟨_,rfl⟩
  have lC:hC.length=h.length+1:=by rw [← ehC]; simp [lB]
  obtain ⟨hD,ehD⟩:∃ hD,hC.set ω.g (.dic (rwD ls++[(.inr z,.ref h.length)]))=hD:=⟨_,rfl⟩
  have lD:hD.length=h.length+1:=by rw [← ehD]; simp [lC]
  have kA:∀ n,n≠ω.m→hA[n]? = h[n]?:=fun n q=>by rw [← ehA,List.getElem?_set_ne (fun z=>q z.symm)]
  have kB:∀ n,n≠r→hB[n]? = hA[n]?:=fun n q=>by rw [← ehB,List.getElem?_set_ne (fun z=>q z.symm)]
  have kC:∀ n,n<h.length→hC[n]? = hB[n]?:=fun n q=>by rw [← ehC,List.getElem?_append_left (by omega)]
  have kD:∀ n,n≠ω.g→hD[n]? = hC[n]?:=fun n q=>by rw [← ehD,List.getElem?_set_ne (fun z=>q z.symm)]
  have oA:hA[ω.o]? = some (.dic (ownD ω r)):=by rw [kA _ S.om]; exact S.o
  have oB:hB[ω.o]? = some (.dic (ownD ω r)):=by rw [kB _ or']; exact oA
  have oC:hC[ω.o]? = some (.dic (ownD ω r)):=by rw [kC _ lo]; exact oB
  have rA:hA[r]? = some (.lst RW'):=by rw [kA _ mr.symm]; exact er
  have gC:hC[ω.g]? = some (.dic (rwD ls)):=by rw [kC _ lg,kB _ gr',kA _ S.mg.symm]; exact eg
  have dA:dgetM hA (.ref ω.o) (.str (Str.ofString "runs"))=some (.ref r):=by simp only [dgetM,dicts,oA,keyW]; exact gr
  have dC:dgetM hC (.ref ω.o) (.str (Str.ofString "rows"))=some (.ref ω.g):=by simp only [dgetM,dicts,oC,keyW]; exact gg
  have c1:(mkD ev).length<16777216:=by unfold mkD; simp; omega
  have c2:RW'.length<16777216:=by omega
  have lsl:ls.length=ev.length:=by have:=congrArg List.length S.ln; simpa using this
  have c3:(rwD ls).length<16777216:=by unfold rwD; simp; omega
  have hc:¬(RW'.length:Int)=12:=by omega
  have b1:RW'.length≤16777216:=by omega
  have er0:(List.replicate 16 [W.non]).flatten=rep0.map ow:=rfl
  refine ⟨hD,selfF_ok rfl ?_ (by omega),by omega,?_,fun n hn hno=>?_⟩
  ·refine congrArg Out.res (?_:_=Out.rt .non hD)
   refine (xSeq_nx (ρ':=[some (.ref ω.o),some (.str z),some (.str y)]) (h':=h) (by simp_all_arith [d1,iE])).trans ?_
   refine (xSeq_nx st2).trans ?_
   refine (xSeq_nx (ρ':=[some (.ref ω.o),some (.str z),some (.str y)]) (h':=h) (by simp! [d2,er,hc,b1])).trans ?_
   refine (xSeq_nx (ρ':=[some (.ref ω.o),some (.str z),some (.str y)]) (h':=hA) (by simp! [d1,em,c1,emk,ehA,xSetD,setD])).trans ?_
   refine (xSeq_nx (ρ':=[some (.ref ω.o),some (.str z),some (.str y)]) (h':=hB) (by simp! [dA,rA,c2,ehB])).trans ?_
   refine (xSeq_nx (ρ':=[some (.ref ω.o),some (.str z),some (.str y)]) (h':=hD) ?_).trans ?_
   ·have ev5:xRepN (xCons (xC W.non) xNil) (xC (.int 16)) [some (.ref ω.o),some (.str z),some (.str y)] hB=.ok (.ref h.length) hC:=by
     rw [← ehC,← er0,← lB]
     simp! [xRepN,repM]
    unfold xSetD
    rw [ev5]
    simp! [dC,gC,c3,erw,ehD,setD]
   ·simp! [xNo]
  ·have lj:Lj hD ω.g (ls++[⟨z,h.length,rep0⟩]):=by
    refine S.l.add (fun l hl q=>?_) zl (fun l hl=>?_) (by rw [← ehD,List.getElem?_set_self (by omega)]) (by rw [kD _ (by omega),← ehC,← lB]; simp) rfl
    ·have:=S.lt (.inr (.inr (.inr (.inr ⟨l,hl,rfl⟩)))); omega
    ·have hlt:=S.lt (.inr (.inr (.inr (.inr ⟨l,hl,rfl⟩))))
     have lm':l.r≠ω.m:=by intro q; have:=(S.l.rr l hl).1; rw [q,S.m] at this; cases this
     have lg':l.r≠ω.g:=by intro q; have:=(S.l.rr l hl).1; rw [q,S.l.g] at this; cases this
     rw [kD _ lg',kC _ hlt,kB _ (S.rl l hl),kA _ lm']
   refine ⟨by rw [kD _ S.og]; exact oC,by rw [kD _ S.mg,kC _ lm,kB _ mr,← ehA,List.getElem?_set_self lm,hev'],by rw [kD _ gr'.symm,kC _ lr,← ehB,List.getElem?_set_self (by omega),List.map_append,hRW]; rfl,lj,S.om,S.og,S.mg,fun l hl=>?_,?_,?_,S.ord.add hm,?_,by simp; omega,by simp; omega⟩
   ·rcases List.mem_append.mp hl with hl | hl
    ·exact S.rl l hl
    ·obtain rfl:=List.mem_singleton.mp hl
     show h.length≠r
     omega
   ·rw [List.map_append,List.map_append,S.ln]; rfl
   ·refine S.fo.add hm (fun q=>?_) (hy.imp id fun q=>S.ord.in q)
    rw [q] at hz
    exact absurd hz (by decide +kernel)
   ·rw [List.nodup_append]
    refine ⟨S.nd,by simp,fun a ha b hb q=>hm (S.ord.in ?_)⟩
    have hb:b=z:=by simpa using hb
    rw [← hb,← q]; exact ha
  ·have n1:n≠ω.m:=fun q=>hno (.inr (.inl q))
   have n2:n≠r:=fun q=>hno (.inr (.inr (.inr (.inl q))))
   have n3:n≠ω.g:=fun q=>hno (.inr (.inr (.inl q)))
   rw [kD _ n3,kC _ hn,kB _ n2,kA _ n1]
theorem xBlkS_map {α:Type}{src:Option Nat}{all:List W}{G:Tg}{c el:Ex}{ρ0:Sg}{h1:Mem}(g r:α→W)(hs:∀ acc,srcP src all (h1++[.lst acc])):∀ (l:List α) (acc:List W),acc.length+l.length≤1000 →
  (∀ a∈l,∀ acc,∃ ρ,G (g a) ρ0=some ρ∧c ρ (h1++[.lst acc])=.ok (.bl true) (h1++[.lst acc])∧el ρ (h1++[.lst acc])=.ok (r a) (h1++[.lst acc]))→xBlkS src all G c el ρ0 h1.length (l.map g) (h1++[.lst acc])=some (h1++[.lst (acc++l.map r)])
 | [],acc,_,_=>by
  rw [List.map_nil,List.map_nil,List.append_nil]
  unfold xBlkS
  rw [if_pos (hs acc)]
 | a::l,acc,hl,ht=>by
  obtain ⟨ρ,e1,e2,e3⟩:=ht a List.mem_cons_self acc
  have ih:=xBlkS_map g r hs l (acc++[r a]) (by simp at hl ⊢; omega) fun b hb=>ht b (List.mem_cons_of_mem _ hb)
  rw [List.map_cons,List.map_cons]
  unfold xBlkS
  rw [if_pos (hs acc),e1]
  dsimp only
  rw [e2]
  dsimp only
  rw [e3]
  dsimp only
  have e4:(h1++[O.lst acc])[h1.length]? = some (.lst acc):=by simp
  have e5:(h1++[O.lst acc]).set h1.length (.lst (acc++[r a]))=h1++[.lst (acc++[r a])]:=by rw [List.set_append_right _ _ (Nat.le_refl _)]; simp
  rw [e4]
  dsimp only
  have e6:decide (acc.length<sizeLine)=true:=decide_eq_true (by rw [sizeLine_eq]; simp at hl; omega)
  rw [e6,e5]
  show xBlkS src all G c el ρ0 h1.length (l.map g) _=_
  rw [ih]
  simp
theorem putD_mid {a b:List Lt}{l:Lt}(nn:((a++l::b).map Lt.nm).Nodup)(n:Nat)(row:List (Option Int)):putD (rwD (a++l::b)) (.inr l.nm) (.ref n)=rwD (a ++ { nm:=l.nm,r:=n,row:=row }::b):=by
 unfold putD
 rw [if_pos]
 ·unfold rwD
  rw [List.map_map,List.map_append,List.map_append,List.map_cons,List.map_cons]
  congr 1
  ·apply List.map_congr_left
   intro s hs
   have:=nodup_mid nn (.inl hs)
   show (if (Sum.inr s.nm:Key)=.inr l.nm then _ else _)=_
   rw [if_neg (fun q=>this (Sum.inr.inj q))]
  ·congr 1
   ·show (if (Sum.inr l.nm:Key)=.inr l.nm then _ else _)=_
    rw [if_pos rfl]
   ·apply List.map_congr_left
    intro s hs
    have:=nodup_mid nn (.inr hs)
    show (if (Sum.inr s.nm:Key)=.inr l.nm then _ else _)=_
    rw [if_neg (fun q=>this (Sum.inr.inj q))]
 ·rw [List.any_eq_true]
  exact ⟨(.inr l.nm,.ref l.r),List.mem_map.mpr ⟨l,by simp,rfl⟩,decide_eq_true rfl⟩
theorem Lj.anew {h:Mem}{g:Nat}{a b:List Lt}{l:Lt}(j:Lj h g (a++l::b)){row:List (Option Int)}(hr:row.length=16):Lj ((h++[O.lst (row.map ow)]).set g (O.dic (rwD (a++({ nm:=l.nm,r:=h.length,row:=row }:Lt)::b)))) g (a++({ nm:=l.nm,r:=h.length,row:=row }:Lt)::b):=by
 have hgl:g<h.length:=(List.getElem?_eq_some_iff.mp j.g).1
 have ng:∀ s∈a++l::b,g≠s.r:=fun s hs q=>by have:=(j.rr s hs).1; rw [← q,j.g] at this; cases this
 have lt:∀ s∈a++l::b,s.r<h.length:=fun s hs=>(List.getElem?_eq_some_iff.mp (j.rr s hs).1).1
 refine ⟨by rw [List.getElem?_set_self (by simp; omega)],fun s hs=>?_,?_,?_⟩
 ·have hs':s = { nm:=l.nm,r:=h.length,row:=row }∨s∈a∨s∈b:=by
   simp only [List.mem_append,List.mem_cons] at hs
   rcases hs with hs | hs | hs
   ·exact .inr (.inl hs)
   ·exact .inl hs
   ·exact .inr (.inr hs)
  rcases hs' with rfl | hs'
  ·refine ⟨?_,hr⟩
   show (List.set _ g _)[h.length]? = _
   rw [List.getElem?_set_ne (by omega)]; simp
  ·have hm:s∈a++l::b:=by simp; rcases hs' with q | q; exact .inl q; exact .inr (.inr q)
   exact ⟨by rw [List.getElem?_set_ne (ng s hm)]; exact kept (j.rr s hm).1,(j.rr s hm).2⟩
 ·have:=j.nn; simpa using this
 ·have nr:=j.nr
  rw [List.map_append,List.map_cons] at nr ⊢
  rw [List.nodup_append] at nr ⊢
  obtain ⟨n1,n2,n3⟩:=nr
  rw [List.nodup_cons] at n2 ⊢
  refine ⟨n1,⟨fun hm=>?_,n2.2⟩,fun x hx y hy=>?_⟩
  ·obtain ⟨s,hs,e⟩:=List.mem_map.mp hm
   have:=lt s (by simp [hs])
   have e:s.r=h.length:=e
   omega
  ·rcases List.mem_cons.mp hy with rfl | hy
   ·obtain ⟨s,hs,rfl⟩:=List.mem_map.mp hx
    have:=lt s (by simp [hs])
    show s.r≠h.length
    omega
   ·exact n3 x hx y (List.mem_cons_of_mem _ hy)
theorem xCompS_of {fi:Ei}{own:Nat}{ix:List Nat}{G:Tg}{c el:Ex}{ρ:Sg}{h h1 h2:Mem}{src:Option Nat}{ws:List W}(e:fi ρ h=.ok src ws h1)(q:xBlkS src ws G c el (ρC own ix ρ) h1.length ws (h1++[.lst []])=some h2):xCompS fi own ix G c el ρ h=.ok (.ref h1.length) h2:=by
 unfold xCompS
 rw [e]
 dsimp only
 rw [q]
def rowL (ls:List Lt)(x:Str):List (Option Int):=match ls.find? fun l=>decide (l.nm=x) with
 | some l=>l.row
 | none=>[]
theorem rowL_of:∀ {ls:List Lt} {l:Lt},(ls.map Lt.nm).Nodup→l∈ls→rowL ls l.nm=l.row
 | c::ls,l,nd,h=>by
  rw [List.map_cons,List.nodup_cons] at nd
  unfold rowL
  rw [List.find?_cons]
  rcases List.mem_cons.mp h with rfl | h
  ·simp
  ·have e:¬c.nm=l.nm:=fun e=>nd.1 (e ▸ List.mem_map.mpr ⟨l,h,rfl⟩)
   simp only [e,decide_false]
   exact rowL_of nd.2 h
theorem rowL_mid {l l2:Lt}{b:List Lt}(e2:l2.nm=l.nm)(x:Str):∀ {a:List Lt},¬l.nm∈a.map Lt.nm→rowL (a++l2::b) x=if x=l.nm then l2.row else rowL (a++l::b) x
 | [],_=>by
  unfold rowL
  rw [List.nil_append,List.nil_append,List.find?_cons,List.find?_cons,e2]
  by_cases h:x=l.nm
  ·subst h; simp
  ·have h':¬l.nm=x:=fun q=>h q.symm
   simp [h,h']
 | c::a,hn=>by
  rw [List.map_cons,List.mem_cons,not_or] at hn
  have ih:=rowL_mid (b:=b) e2 x hn.2
  unfold rowL at ih ⊢
  rw [List.cons_append,List.cons_append,List.find?_cons,List.find?_cons]
  by_cases hc:c.nm=x
  ·have h:¬x=l.nm:=fun q=>hn.1 (q ▸ hc.symm)
   simp [hc,h]
  ·simp only [hc,decide_false]
   exact ih
def S_oout (F:Fm):Prop:=∀ h ω r ev rs ls v,Wj h ω r ev rs ls→∃ h' ls',F [.ref ω.o,.int v] h=.ok (.int (rs.map fun x=>(cnt v (rowL ls x):Int)).sum) h'∧Wj h' ω r ev rs ls'∧h.length≤h'.length∧(∀ n,n<h.length→¬Wj.on ω r ls n→h'[n]? = h[n]?)∧(∀ n,Wj.on ω r ls' n→Wj.on ω r ls n∨h.length≤n)∧(∀ x∈rs,rowL ls' x=(rowL ls x).map (wipe v))∧∀ x,¬x∈rs→rowL ls' x=rowL ls x
theorem ok_oout (T:Tx K mg C)(R:DefAt K mg "_law_out" s_l_out):∃ F,FnAt P w K mg base CX0 1 "_law_out" (spH (T0 C) F)∧S_oout F:=by
 refine ⟨_,(def0s R sc_l_out bd_l_out (hB:=fun f cdv A outer s H E φ0 H0 hr=>(qb_cons (qs_set (i:=2) sc_l_out.nd rfl (Or.inl rfl) (fun _ _ _=>trivial) q_int)
   (qb_cons (qs_forS (tg_name (fun _ _ _=>trivial)) PassesOwn.never rfl (qi_list (q_dget hr (q_var 0) q_str (fun _ _=>rfl))) (qg_name (i:=3) sc_l_out.nd rfl (Or.inl rfl))
    (qb_cons (qs_set (i:=2) sc_l_out.nd rfl (Or.inl rfl) (fun _ _ _=>trivial) (q_bin op_addV addM_ok (q_var 2) (q_countF (q_dget hr (q_dget hr (q_var 0) q_str (fun _ _=>rfl)) (q_var 3) (fun _ _=>rfl)) (qa_cons (q_var 1) qa_nil))))
    (qb_one (qs_setd hr (q_dget hr (q_var 0) q_str (fun _ _=>rfl)) (q_var 3) (q_compS (osc:=defScope s_l_out) (N:=["_law_own","_law_number","_law_many","_law_name_here"]) (own:=["_law_one"]) (fr:=["_law_number"]) (ix:=[1]) rfl rfl rfl (by decide +kernel) (qi_list (q_dget hr (q_dget hr (q_var 0) q_str (fun _ _=>rfl)) (q_var 3) (fun _ _=>rfl))) (fun _=>(tg_name (zb_set (by decide)))) (fun _ _ _ _ _=>(qg_cn 0 (by decide +kernel) rfl (by decide +kernel) rfl)) (fun _ _ _ _ _ _=>qc_nil) (fun _ _ _ _ _ _=>(q_ix ix_any ixM_ok (q_lst (qa_cons (q_var 0) (qa_cons q_non qa_nil))) (q_cty intM_ok call_int1 rfl T.b_int (by first | exact boot_ty_int | rfl) (qa_cons (q_cmp (op_eqF hr) eqO_ok (q_var 0) (q_var 1) (nomark _)) qa_nil)) (fun _ _=>rfl))))))))
   (qb_one (qs_ret (q_var 2))))))),?_⟩
 intro h ω r ev rs ls v S
 generalize hC:xCompS _ _ _ _ _ _=Cm
 generalize hB:xSeq (xAsg (gN 2) (xBin addM _ _)) _=B
 have d2:dgetM h (.ref ω.o) (.str (Str.ofString "runs"))=some (.ref r):=by simp only [dgetM,dicts,S.o,keyW]; exact gr
 have rrl:(rs.map W.str).length≤16777216:=by have:=S.rn; rw [List.length_map]; omega
 have lp:∃ ρ' h',xLoopS (gN 3) B r (rs.map W.str) (rs.map W.str) [some (.ref ω.o),some (.int v),some (.int 0),none] h=.nx ρ' h'∧((∃ v3,ρ'=[some (.ref ω.o),some (.int v),some (.int ((rs.take (0+(rs.map W.str).length)).map fun x=>(cnt v (rowL ls x):Int)).sum),v3])∧∃ ls',Wj h' ω r ev rs ls'∧h.length≤h'.length∧(∀ n,n<h.length→¬Wj.on ω r ls n→h'[n]? = h[n]?)∧(∀ n,Wj.on ω r ls' n→Wj.on ω r ls n∨h.length≤n)∧(∀ x∈rs.take (0+(rs.map W.str).length),rowL ls' x=(rowL ls x).map (wipe v))∧∀ x,¬x∈rs.take (0+(rs.map W.str).length)→rowL ls' x=rowL ls x):=by
  refine xLoopS_ix (fun i ρ' h'=>(∃ v3,ρ'=[some (.ref ω.o),some (.int v),some (.int ((rs.take i).map fun x=>(cnt v (rowL ls x):Int)).sum),v3])∧∃ ls',Wj h' ω r ev rs ls'∧h.length≤h'.length∧(∀ n,n<h.length→¬Wj.on ω r ls n→h'[n]? = h[n]?)∧(∀ n,Wj.on ω r ls' n→Wj.on ω r ls n∨h.length≤n)∧(∀ x∈rs.take i,rowL ls' x=(rowL ls x).map (wipe v))∧∀ x,¬x∈rs.take i→rowL ls' x=rowL ls x) (fun i ρ h q=>by obtain ⟨_,ls',q,_⟩:=q; exact q.rr) (rs.map W.str) 0 _ h ⟨⟨none,by simp⟩,ls,S,Nat.le_refl _,fun _ _ _=>rfl,fun _ q=>.inl q,by simp,fun _ _=>rfl⟩ ?_
  rintro i u hu ρ hh ⟨⟨v3,rfl⟩,lc,W1,k1,k2,k3,k4,k5⟩
  rw [Nat.zero_add] at k4 k5
  rw [Nat.zero_add]
  rw [List.getElem?_map,Option.map_eq_some_iff] at hu
  obtain ⟨x,hx,rfl⟩:=hu
  have hxr:x∈rs:=List.mem_of_getElem? hx
  have et:rs.take (i+1)=rs.take i++[x]:=by rw [List.take_succ,hx]; rfl
  have nx:=take_nm S.nd hx
  have hxl:x∈lc.map Lt.nm:=by rw [W1.ln]; exact W1.ord.in hxr
  obtain ⟨l,hl,rfl⟩:=List.mem_map.mp hxl
  have rl0:rowL ls l.nm=l.row:=by rw [← k5 _ nx]; exact rowL_of W1.l.nn hl
  obtain ⟨a,b,rfl⟩:=List.append_of_mem hl
  obtain ⟨r1,r2⟩:=W1.l.rr l hl
  have gf:=W1.l.getF hl
  generalize hs:((rs.take i).map fun x=>(cnt v (rowL ls x):Int)).sum=sm
  have dg:dgetM hh (.ref ω.o) (.str (Str.ofString "rows"))=some (.ref ω.g):=by simp only [dgetM,dicts,W1.o,keyW]; exact gg
  have n2:dgetM hh (.ref ω.g) (.str l.nm)=some (.ref l.r):=by simp only [dgetM,dicts,W1.l.g,keyW]; exact gf
  have n4:countFM hh (.ref l.r) [.int v]=some (.int (cnt v l.row:Nat)):=by
   unfold countFM
   simp only [items,r1,Option.bind_some]
   rw [if_pos (by rw [ow_flat]; rfl),ow_cnt]
  obtain ⟨row,erow⟩:∃ row,l.row.map (wipe v)=row:=⟨_,rfl⟩
  have hrow:row.length=16:=by rw [← erow,List.length_map]; exact r2
  have ec:∀ y,Cm [some (.ref ω.o),some (.int v),some (.int y),some (.str l.nm)] hh=.ok (.ref hh.length) (hh++[.lst (row.map ow)]):=by
   intro y
   rw [← hC]
   have bl:=xBlkS_map (src:=some l.r) (all:=l.row.map ow) (G:=gN 0) (c:=xC (.bl true)) (el:=xBin ixM (xLst (xCons (xVar 0) (xCons (xC .non) xNil))) (xCb intM (xCons (xBin eqO (xVar 0) (xVar 1)) xNil))) (ρ0:=[none,some (.int v)]) (h1:=hh) ow (fun x=>ow (wipe v x)) (fun acc=>(kept r1:(hh++[O.lst acc])[l.r]? = _)) l.row [] (by simp [r2]) (fun x _ acc=>by
    refine ⟨_,rfl,rfl,?_⟩
    generalize hh++[O.lst acc]=hx
    cases x with
    | none=>simp! [ow,wipe,atI_0,atI_1]
    | some n=>
     by_cases hn:n=v
     ·subst hn; simp! [ow,wipe,atI_0,atI_1]
     ·simp! [ow,wipe,hn,atI_0,atI_1])
   rw [List.nil_append,show l.row.map (fun x=>ow (wipe v x))=row.map ow by rw [← erow,List.map_map]; rfl] at bl
   exact xCompS_of (src:=some l.r) (ws:=l.row.map ow) (h1:=hh) (by generalize l.row.map ow=LL at r1; simp! [dg,n2,r1]) bl
  have an:=W1.l.anew hrow
  have pm:=putD_mid W1.l.nn hh.length row
  have wlo:=W1.lt (.inl rfl)
  have wlm:=W1.lt (.inr (.inl rfl))
  have wlg:=W1.lt (.inr (.inr (.inl rfl)))
  have wlr:=W1.lt (.inr (.inr (.inr (.inl rfl))))
  have dgC:dgetM (hh++[O.lst (row.map ow)]) (.ref ω.o) (.str (Str.ofString "rows"))=some (.ref ω.g):=by simp only [dgetM,dicts,kept W1.o,keyW]; exact gg
  have kg:(hh++[O.lst (row.map ow)])[ω.g]? = some (.dic (rwD (a++l::b))):=kept W1.l.g
  have hln:(rwD (a++l::b)).length<16777216:=by
   have h1:=congrArg List.length W1.ln
   have h2:=W1.el
   unfold rwD
   rw [List.length_map]
   simp only [List.length_map] at h1
   omega
  obtain ⟨l2,el2⟩:∃ l2:Lt,l2 = { nm:=l.nm,r:=hh.length,row:=row }:=⟨_,rfl⟩
  rw [← el2] at an pm
  have l2n:l2.nm=l.nm:=by rw [el2]
  have l2r:l2.r=hh.length:=by rw [el2]
  obtain ⟨hE,ehE⟩:∃ hE,(hh++[O.lst (row.map ow)]).set ω.g (.dic (rwD (a++l2::b)))=hE:=⟨_,rfl⟩
  rw [ehE] at an
  have kE:∀ n,n<hh.length→n≠ω.g→hE[n]? = hh[n]?:=fun n hn hg=>by rw [← ehE,List.getElem?_set_ne (fun q=>hg q.symm),List.getElem?_append_left hn]
  have rg:r≠ω.g:=by intro q; have:=W1.rr; rw [q,W1.l.g] at this; cases this
  have lE:hE.length=hh.length+1:=by rw [← ehE]; simp
  have sub:∀ s,s∈a++l2::b→s=l2∨s∈a++l::b:=fun s hs=>by
   simp only [List.mem_append,List.mem_cons] at hs ⊢
   rcases hs with hs | hs | hs
   ·exact .inr (.inl hs)
   ·exact .inl hs
   ·exact .inr (.inr (.inr hs))
  have na:¬l.nm∈a.map Lt.nm:=by
   have:=W1.l.nn
   rw [List.map_append,List.map_cons,List.nodup_append] at this
   intro q
   exact this.2.2 _ q _ List.mem_cons_self rfl
  have W2:Wj hE ω r ev rs (a++l2::b):=by
   refine ⟨by rw [kE _ wlo W1.og]; exact W1.o,by rw [kE _ wlm W1.mg]; exact W1.m,by rw [kE _ wlr rg]; exact W1.rr,an,W1.om,W1.og,W1.mg,fun s hs=>?_,?_,W1.fo,W1.ord,W1.nd,W1.rn,W1.el⟩
   ·rcases sub s hs with rfl | hs
    ·rw [l2r]; omega
    ·exact W1.rl s hs
   ·have:=W1.ln; simpa [l2n] using this
  refine ⟨_,rfl,[some (.ref ω.o),some (.int v),some (.int (sm+(cnt v l.row:Nat))),some (.str l.nm)],hE,.inl ?_,⟨some (.str l.nm),?_⟩,a++l2::b,W2,by omega,fun n hn hno=>?_,fun n hn=>?_,fun x hx=>?_,fun x hx=>?_⟩
  ·rw [← hB]
   refine (xSeq_nx (ρ':=[some (.ref ω.o),some (.int v),some (.int (sm+(cnt v l.row:Nat))),some (.str l.nm)]) (h':=hh) (by simp! [dg,n2,n4,r1,xBmL])).trans ?_
   simp! [ec,xSetD,setD,dgC,kg,pm,hln,ehE]
  ·rw [et,List.map_append,List.sum_append,hs,List.map_singleton,rl0]; simp
  ·have hng:n≠ω.g:=fun q=>hno (.inr (.inr (.inl q)))
   rw [kE n (by omega) hng]; exact k2 n hn hno
  ·rcases hn with q | q | q | q | ⟨s,hs,q⟩
   ·exact .inl (.inl q)
   ·exact .inl (.inr (.inl q))
   ·exact .inl (.inr (.inr (.inl q)))
   ·exact .inl (.inr (.inr (.inr (.inl q))))
   ·rcases sub s hs with rfl | hs
    ·exact .inr (by omega)
    ·exact k3 n (.inr (.inr (.inr (.inr ⟨s,hs,q⟩))))
  ·rw [rowL_mid l2n x na]
   rw [et] at hx
   by_cases q:x=l.nm
   ·rw [if_pos q,q,rl0,el2]; exact erow.symm
   ·rw [if_neg q]
    refine k4 x ?_
    rcases List.mem_append.mp hx with hx | hx
    ·exact hx
    ·exact absurd (List.mem_singleton.mp hx) q
  ·rw [et,List.mem_append,not_or] at hx
   have q:¬x=l.nm:=fun q=>hx.2 (by rw [q]; simp)
   rw [rowL_mid l2n x na,if_neg q]
   exact k5 x hx.1
 obtain ⟨ρ',h',lp,⟨v3,rfl⟩,ls',W',k1,k2,k3,k4,k5⟩:=lp
 rw [Nat.zero_add,List.length_map,List.take_length] at lp k4 k5
 refine ⟨h',ls',selfF_ok rfl ?_ k1,W',k1,k2,k3,k4,k5⟩
 refine congrArg Out.res (?_:_=Out.rt (.int (rs.map fun x=>(cnt v (rowL ls x):Int)).sum) h')
 refine (xSeq_nx (ρ':=[some (.ref ω.o),some (.int v),some (.int 0),none]) (h':=h) (by simp! [xNo])).trans ?_
 have er:=S.rr
 generalize rs.map W.str=RR at er lp
 refine (xSeq_nx ((xForS_loop (n:=r) (ws:=RR) (h':=h) (by simp! [d2,er])).trans lp)).trans ?_
 simp! [xNo]
theorem xBlkS_fil {α:Type}{src:Option Nat}{all:List W}{G:Tg}{c el:Ex}{ρ0:Sg}{h1:Mem}(g r:α→W)(p:α→Bool)(hs:∀ acc,srcP src all (h1++[.lst acc])):∀ (l:List α) (acc:List W),acc.length+l.length≤1000 →
  (∀ a∈l,∀ acc,∃ ρ,G (g a) ρ0=some ρ∧c ρ (h1++[.lst acc])=.ok (.bl (p a)) (h1++[.lst acc])∧el ρ (h1++[.lst acc])=.ok (r a) (h1++[.lst acc]))→xBlkS src all G c el ρ0 h1.length (l.map g) (h1++[.lst acc])=some (h1++[.lst (acc++(l.filter p).map r)])
 | [],acc,_,_=>by
  rw [List.map_nil,List.filter_nil,List.map_nil,List.append_nil]
  unfold xBlkS
  rw [if_pos (hs acc)]
 | a::l,acc,hl,ht=>by
  obtain ⟨ρ,e1,e2,e3⟩:=ht a List.mem_cons_self acc
  rw [List.map_cons,List.filter_cons]
  unfold xBlkS
  rw [if_pos (hs acc),e1]
  dsimp only
  rw [e2]
  cases hp:p a with
  | true=>
   have ih:=xBlkS_fil g r p hs l (acc++[r a]) (by simp at hl ⊢; omega) fun b hb=>ht b (List.mem_cons_of_mem _ hb)
   dsimp only
   rw [e3]
   dsimp only
   have e4:(h1++[O.lst acc])[h1.length]? = some (.lst acc):=by simp
   have e5:(h1++[O.lst acc]).set h1.length (.lst (acc++[r a]))=h1++[.lst (acc++[r a])]:=by rw [List.set_append_right _ _ (Nat.le_refl _)]; simp
   rw [e4]
   dsimp only
   have e6:decide (acc.length<sizeLine)=true:=decide_eq_true (by rw [sizeLine_eq]; simp at hl; omega)
   rw [e6,e5]
   show xBlkS src all G c el ρ0 h1.length (l.map g) _=_
   rw [ih]
   simp
  | false=>
   have ih:=xBlkS_fil g r p hs l acc (by simp at hl ⊢; omega) fun b hb=>ht b (List.mem_cons_of_mem _ hb)
   dsimp only
   rw [ih]
   simp
def enddL (ev:List (Str×Str))(rs:List Str)(n:Str):List Str:=n::mb ev rs 15 n
def Keep (ω:Wn)(r:Nat)(ls:List Lt)(r':Nat)(ls':List Lt)(h h':Mem):Prop:=h.length≤h'.length∧(∀ n,n<h.length→¬Wj.on ω r ls n→h'[n]? = h[n]?)∧∀ n,Wj.on ω r' ls' n→Wj.on ω r ls n∨h.length≤n
def S_due (F:Fm):Prop:=∀ h ω r ev rs ls,Wj h ω r ev rs ls →
 (∀ z y,nameS z=true→(z∈ev.map Prod.fst→F [.ref ω.o,.int 0,.str z,.str y] h=.ok (.str "Taken") h)∧(¬z∈ev.map Prod.fst→(¬y=Str.ofString ""→¬y∈rs→F [.ref ω.o,.int 0,.str z,.str y] h=.ok (.str "NoTask") h)∧((y=Str.ofString ""∨y∈rs) →
  (rs.length=12→F [.ref ω.o,.int 0,.str z,.str y] h=.ok (.str "TooMany") h)∧(rs.length<12→ev.length<14→∃ h',F [.ref ω.o,.int 0,.str z,.str y] h=.ok .non h'∧Wj h' ω r (ev++[(z,y)]) (rs++[z]) (ls++[⟨z,h.length,rep0⟩])∧Keep ω r ls r (ls++[⟨z,h.length,rep0⟩]) h h')))) ∧
 (∀ z v,∃ h' ls',F [.ref ω.o,.int 3,z,.int v] h=.ok (.int (rs.map fun x=>(cnt v (rowL ls x):Int)).sum) h'∧Wj h' ω r ev rs ls'∧Keep ω r ls r ls' h h'∧(∀ x∈rs,rowL ls' x=(rowL ls x).map (wipe v))∧∀ x,¬x∈rs→rowL ls' x=rowL ls x) ∧
 (∀ (i:Int) z x,(i=1∨i=2∨i=4)→¬z∈rs→F [.ref ω.o,.int i,.str z,x] h=.ok (.str "NoTask") h) ∧
 (∀ z v,z∈rs→((rowL ls z).findIdx? Option.isNone=none→F [.ref ω.o,.int 1,.str z,.int v] h=.ok (.str "TooMany") h)∧∀ i,(rowL ls z).findIdx? Option.isNone=some i→∃ h' ls',F [.ref ω.o,.int 1,.str z,.int v] h=.ok (.int (i:Nat)) h'∧Wj h' ω r ev rs ls'∧Keep ω r ls r ls' h h'∧∀ x,rowL ls' x=if x=z then (rowL ls z).set i (some v) else rowL ls x) ∧
 (∀ z (k:Int),z∈rs→0≤k→k<16→(slotV (rowL ls z) k=none→F [.ref ω.o,.int 2,.str z,.int k] h=.ok (.str "NoHandle") h)∧∀ v,slotV (rowL ls z) k=some v→F [.ref ω.o,.int 2,.str z,.int k] h=.ok (.int v) h) ∧
 ∀ z x,z∈rs→∃ h' r',F [.ref ω.o,.int 4,.str z,x] h=.ok (.tl ((enddL ev rs z).map W.str)) h'∧Wj h' ω r' ev (rs.filter fun y=>!decide (y∈enddL ev rs z)) ls∧Keep ω r ls r' ls h h'
theorem ok_due (T:Tx K mg C){Fa Fo' Fb:Fm}(ha:S_oadd Fa)(ho:S_oout Fo')(hb:S_below 15 Fb)(G_l_added:FnAt P w K mg base CX0 1 "_law_added" (spH (T0 C) Fa))(G_l_out:FnAt P w K mg base CX0 1 "_law_out" (spH (T0 C) Fo'))(G_l_below:FnAt P w K mg base CX0 16 "_law_below" (spH (T0 C) Fb))(R:DefAt K mg "_law_due" s_l_due):∃ F,FnAt P w K mg base CX0 17 "_law_due" (spH (T0 C) F)∧S_due F:=by
 refine ⟨_,(def0s R sc_l_due bd_l_due (hB:=fun f cdv A outer s H E φ0 H0 hr=>(qb_cons (qs_if (qt_cmp (op_eqF hr) eqO_ok (q_var 1) q_int (nomark _)) (qb_one (qs_ret (q_fn0 G_l_added hr (by decide) rfl (qa_cons (q_var 0) (qa_cons (q_var 2) (qa_cons (q_var 3) qa_nil)))))) qb_nil)
   (qb_cons (qs_if (qt_cmp (op_eqF hr) eqO_ok (q_var 1) q_int (nomark _)) (qb_one (qs_ret (q_fn0 G_l_out hr (by decide) rfl (qa_cons (q_var 0) (qa_cons (q_var 3) qa_nil))))) qb_nil)
   (qb_cons (qs_if (qt_cmp (op_notInV hr) inM_ok (q_var 2) (q_dget hr (q_var 0) q_str (fun _ _=>rfl)) (by rfl)) (qb_one (qs_ret q_str)) qb_nil)
   (qb_cons (qs_set (i:=4) sc_l_due.nd rfl (Or.inl rfl) (fun _ _ _=>trivial) (q_dget hr (q_dget hr (q_var 0) q_str (fun _ _=>rfl)) (q_var 2) (fun _ _=>rfl)))
   (qb_cons (qs_if (qt_w (qw_and (qt_cmp (op_eqF hr) eqO_ok (q_var 1) q_int (nomark _)) (qw_and1 (qt_cmp (op_notInV hr) inM_ok q_non (q_var 4) (by rfl))))) (qb_one (qs_ret q_str)) qb_nil)
   (qb_cons (qs_if (qt_cmp (op_eqF hr) eqO_ok (q_var 1) q_int (nomark _)) (qb_cons (qs_set (i:=5) sc_l_due.nd rfl (Or.inl rfl) (fun _ _ _=>trivial) (q_indexF (q_var 4) (qa_cons q_non qa_nil)))
   (qb_cons (qs_seti (q_var 4) (q_var 5) (q_var 3))
   (qb_one (qs_ret (q_var 5))))) qb_nil)
   (qb_cons (qs_if (qt_cmp (op_eqF hr) eqO_ok (q_var 1) q_int (nomark _)) (qb_one (qs_ret (q_if (qt_cmp op_isN isNM_ok (q_ix ix_any ixM_ok (q_var 4) (q_var 3) (fun _ _=>rfl)) q_non (nomark _)) q_str (q_ix ix_any ixM_ok (q_var 4) (q_var 3) (fun _ _=>rfl))))) qb_nil)
   (qb_cons (qs_set (i:=6) sc_l_due.nd rfl (Or.inr rfl) (fun _ _ _=>trivial) (q_bin op_addV addM_ok (q_lst (qa_cons (q_var 2) qa_nil)) (q_fn0 G_l_below hr (by decide) rfl (qa_cons (q_dget hr (q_var 0) q_str (fun _ _=>rfl)) (qa_cons (q_dget hr (q_var 0) q_str (fun _ _=>rfl)) (qa_cons (q_var 2) qa_nil))))))
   (qb_cons (qs_setd hr (q_var 0) q_str (q_compS (osc:=defScope s_l_due) (N:=["_law_own","_law_way","_law_name_here","_law_number","_law_row","_law_slot","_law_gone"]) (own:=["_law_one"]) (fr:=["_law_gone"]) (ix:=[6]) rfl rfl rfl (by decide +kernel) (qi_list (q_dget hr (q_var 0) q_str (fun _ _=>rfl))) (fun _=>(tg_name (zb_set (by decide)))) (fun _ _ _ _ _=>(qg_cn 0 (by decide +kernel) rfl (by decide +kernel) rfl)) (fun _ _ _ _ _ _=>(qc_one (qt_cmp (op_notInV hr) inM_ok (q_var 0) (q_var 1) (by rfl)))) (fun _ _ _ _ _ _=>(q_var 0))))
   (qb_one (qs_ret (q_var 6)))))))))))))),?_⟩
 intro h ω r ev rs ls S
 generalize hCm:xCompS _ _ _ _ _ _=Cm
 have d1:dgetM h (.ref ω.o) (.str (Str.ofString "makers"))=some (.ref ω.m):=by simp only [dgetM,dicts,S.o,keyW]; exact gm
 have d2:dgetM h (.ref ω.o) (.str (Str.ofString "runs"))=some (.ref r):=by simp only [dgetM,dicts,S.o,keyW]; exact gr
 have d3:dgetM h (.ref ω.o) (.str (Str.ofString "rows"))=some (.ref ω.g):=by simp only [dgetM,dicts,S.o,keyW]; exact gg
 have fz:∀ z,z∈rs→∃ l∈ls,l.nm=z∧rowL ls z=l.row:=fun z hz=>by
  have:z∈ls.map Lt.nm:=by rw [S.ln]; exact S.ord.in hz
  obtain ⟨l,hl,rfl⟩:=List.mem_map.mp this
  exact ⟨l,hl,rfl,rowL_of S.l.nn hl⟩
 have iT:∀ z,z∈rs→inM true h (.str z) (.ref r)=some (.bl false):=fun z hz=>by
  have iR:=inM_list (z:=z) true S.rr
  rw [decide_eq_true hz] at iR
  exact iR
 refine ⟨fun z y hz=>?_,fun z v=>?_,fun i z x hi hz=>?_,fun z v hz=>?_,fun z k hz k0 k1=>?_,fun z x hz=>?_⟩
 ·obtain ⟨a1,a2⟩:=ha h ω r ev rs ls S z y hz
  refine ⟨fun q=>selfF_ok rfl (by simp! [a1 q]) (Nat.le_refl _),fun q=>⟨fun b0 b1=>selfF_ok rfl (by simp! [(a2 q).1 b0 b1]) (Nat.le_refl _),fun q1=>⟨fun q2=>selfF_ok rfl (by simp! [((a2 q).2 q1).1 q2]) (Nat.le_refl _),fun q2 q3=>?_⟩⟩⟩
  obtain ⟨h',e1,e2,e3,e4⟩:=((a2 q).2 q1).2 q2 q3
  refine ⟨h',selfF_ok rfl (by simp! [e1]) e2,e3,e2,e4,fun n hn=>?_⟩
  rcases hn with p | p | p | p | ⟨s,hs,p⟩
  ·exact .inl (.inl p)
  ·exact .inl (.inr (.inl p))
  ·exact .inl (.inr (.inr (.inl p)))
  ·exact .inl (.inr (.inr (.inr (.inl p))))
  ·rcases List.mem_append.mp hs with hs | hs
   ·exact .inl (.inr (.inr (.inr (.inr ⟨s,hs,p⟩))))
   ·obtain rfl:=List.mem_singleton.mp hs
    exact .inr (by rw [p]; exact Nat.le_refl _)
 ·obtain ⟨h',ls',e1,e2,e3,e4,e5,e6,e7⟩:=ho h ω r ev rs ls v S
  exact ⟨h',ls',selfF_ok rfl (by simp! [e1]) e3,e2,⟨e3,e4,e5⟩,e6,e7⟩
 ·have iR:=inM_list (z:=z) true S.rr
  rw [decide_eq_false hz] at iR
  have iR:inM true h (.str z) (.ref r)=some (.bl true):=iR
  refine selfF_ok rfl ?_ (Nat.le_refl _)
  rcases hi with rfl | rfl | rfl <;> simp_all_arith [d2,iR]
 ·obtain ⟨l,hl,rfl,el⟩:=fz z hz
  have iR:=iT _ hz
  obtain ⟨r1,r2⟩:=S.l.rr l hl
  have gf:=S.l.getF hl
  have n2:dgetM h (.ref ω.g) (.str l.nm)=some (.ref l.r):=by simp only [dgetM,dicts,S.l.g,keyW]; exact gf
  have n3:inM true h .non (.ref l.r)=some (.bl (!l.row.any Option.isNone)):=by
   simp only [inM,dicts,seqs,items,r1,Option.bind_some]
   rw [if_pos (by rw [ow_flat]; rfl),ow_any,Bool.true_xor]
  rw [any_idx] at n3
  have n4:indexFM h (.ref l.r) [.non]=(l.row.findIdx? Option.isNone).map fun j=>W.int (j:Nat):=by
   unfold indexFM
   simp only [items,r1,Option.bind_some]
   rw [if_pos (by rw [ow_flat]; rfl),ow_idx]
  rw [el]
  refine ⟨fun hi=>selfF_ok rfl ?_ (Nat.le_refl _),fun i hi=>?_⟩
  ·rw [hi] at n3
   have n3:inM true h .non (.ref l.r)=some (.bl true):=n3
   simp_all_arith [d2,d3,iR,n2,n3]
  ·rw [hi] at n3 n4
   have n3:inM true h .non (.ref l.r)=some (.bl false):=n3
   have n4:indexFM h (.ref l.r) [.non]=some (.int (i:Nat)):=n4
   obtain ⟨hi2,_,_⟩:=List.findIdx?_eq_some_iff_getElem.mp hi
   have n5:ixN l.row.length (i:Int)=some i:=by unfold ixN; simp; omega
   have n6:((l.row.map ow).set i (.int v))=(l.row.set i (some v)).map ow:=by rw [List.map_set]; rfl
   obtain ⟨a,b,rfl⟩:=List.append_of_mem hl
   have lj:=S.l.put (row:=l.row.set i (some v)) (by rw [List.length_set]; exact r2)
   have llr:=S.lt (.inr (.inr (.inr (.inr ⟨l,hl,rfl⟩))))
   have q1:l.r≠ω.o:=by intro q; rw [q,S.o] at r1; cases r1
   have q2:l.r≠ω.m:=by intro q; rw [q,S.m] at r1; cases r1
   have sub:∀ s,s∈a ++ { l with row:=l.row.set i (some v) }::b→s.r=l.r∨s∈a++l::b:=fun s hs=>by
    simp only [List.mem_append,List.mem_cons] at hs ⊢
    rcases hs with hs | hs | hs
    ·exact .inr (.inl hs)
    ·exact .inl (by rw [hs])
    ·exact .inr (.inr (.inr hs))
   have na:¬l.nm∈a.map Lt.nm:=by
    have:=S.l.nn
    rw [List.map_append,List.map_cons,List.nodup_append] at this
    intro q
    exact this.2.2 _ q _ List.mem_cons_self rfl
   refine ⟨h.set l.r (.lst ((l.row.set i (some v)).map ow)),a ++ { l with row:=l.row.set i (some v) }::b,selfF_ok rfl ?_ (by simp),?_,⟨by simp,fun n hn hno=>?_,fun n hn=>?_⟩,fun x=>?_⟩
   ·simp_all_arith [d2,d3,iR,n2,n3,n4,n5,n6,r1,xSetI,setM]
   ·refine ⟨by rw [List.getElem?_set_ne q1]; exact S.o,by rw [List.getElem?_set_ne q2]; exact S.m,by rw [List.getElem?_set_ne (S.rl l hl)]; exact S.rr,lj,S.om,S.og,S.mg,fun s hs=>?_,?_,S.fo,S.ord,S.nd,S.rn,S.el⟩
    ·rcases sub s hs with q | hs
     ·rw [q]; exact S.rl l hl
     ·exact S.rl s hs
    ·have:=S.ln; simpa using this
   ·rw [List.getElem?_set_ne (fun q=>hno (.inr (.inr (.inr (.inr ⟨l,hl,q.symm⟩)))))]
   ·rcases hn with p | p | p | p | ⟨s,hs,p⟩
    ·exact .inl (.inl p)
    ·exact .inl (.inr (.inl p))
    ·exact .inl (.inr (.inr (.inl p)))
    ·exact .inl (.inr (.inr (.inr (.inl p))))
    ·rcases sub s hs with q | hs
     ·exact .inl (.inr (.inr (.inr (.inr ⟨l,hl,by rw [p,q]⟩))))
     ·exact .inl (.inr (.inr (.inr (.inr ⟨s,hs,p⟩))))
   ·exact rowL_mid (l:=l) (l2:={ l with row:=l.row.set i (some v) }) rfl x na
 ·obtain ⟨l,hl,rfl,el⟩:=fz z hz
  have iR:=iT _ hz
  obtain ⟨r1,r2⟩:=S.l.rr l hl
  have gf:=S.l.getF hl
  have n2:dgetM h (.ref ω.g) (.str l.nm)=some (.ref l.r):=by simp only [dgetM,dicts,S.l.g,keyW]; exact gf
  rw [el]
  have at':atI (l.row.map ow) k=some (ow (slotV l.row k)):=by
   rw [atI_get' k0,List.getElem?_map]
   have:k.toNat<l.row.length:=by omega
   unfold slotV
   rw [if_pos k0,List.getD_eq_getElem?_getD,List.getElem?_eq_getElem this]; rfl
  generalize l.row.map ow=LL at at' r1
  refine ⟨fun q=>selfF_ok rfl ?_ (Nat.le_refl _),fun v q=>selfF_ok rfl ?_ (Nat.le_refl _)⟩
  ·rw [q] at at'
   have at':atI LL k=some .non:=at'
   simp_all_arith [d2,d3,iR,n2,r1,at']
  ·rw [q] at at'
   have at':atI LL k=some (.int v):=at'
   simp_all_arith [d2,d3,iR,n2,r1,at']
 ·obtain ⟨l,hl,rfl,el⟩:=fz z hz
  have iR:=iT _ hz
  have gf:=S.l.getF hl
  have n2:dgetM h (.ref ω.g) (.str l.nm)=some (.ref l.r):=by simp only [dgetM,dicts,S.l.g,keyW]; exact gf
  obtain ⟨D,hD⟩:∃ D,enddL ev rs l.nm=D:=⟨_,rfl⟩
  have hD':l.nm::mb ev rs 15 l.nm=D:=hD
  rw [hD]
  obtain ⟨DW,hDW⟩:∃ DW,D.map W.str=DW:=⟨_,rfl⟩
  have rn:=S.rn
  have evl:ev.length<15:=by have:=S.el; omega
  have bb:Fb [.ref ω.m,.ref r,.str l.nm] h=.ok (.tl ((mb ev rs 15 l.nm).map W.str)) h:=hb h ω.m r ev rs (.inl S.m) S.rr S.fo S.nd (by omega) S.ord l.nm (S.fo.dep _ _ evl)
  have Ml:(mb ev rs 15 l.nm).length≤12:=Nat.le_trans (mb_len S.fo S.nd _ _) rn
  obtain ⟨MW,hMW⟩:∃ MW,(mb ev rs 15 l.nm).map W.str=MW:=⟨_,rfl⟩
  have MWl:MW.length≤12:=by rw [← hMW]; simpa using Ml
  have hDM:.str l.nm::MW=DW:=by rw [← hDW,← hD',← hMW]; rfl
  rw [hMW] at bb
  obtain ⟨h1,eh1⟩:∃ h1,h++[O.lst ((rs.filter fun y=>!decide (y∈D)).map W.str)]=h1:=⟨_,rfl⟩
  have er:=S.rr
  obtain ⟨RW',hRW⟩:∃ RW',rs.map W.str=RW':=⟨_,rfl⟩
  rw [hRW] at er
  have cn:∀ v4 v5:Option W,Cm [some (.ref ω.o),some (.int 4),some (.str l.nm),some x,v4,v5,some (.tl DW)] h=.ok (.ref h.length) h1:=fun v4 v5=>by
   rw [← hCm,← eh1]
   have bl:=xBlkS_fil (src:=some r) (all:=RW') (G:=gN 0) (c:=xBin (inM true) (xVar 0) (xVar 1)) (el:=xVar 0) (ρ0:=[none,some (.tl DW)]) (h1:=h) (fun x:Str=>W.str x) (fun x:Str=>W.str x) (fun x=>!decide (x∈D)) (fun acc=>(kept er:(h++[O.lst acc])[r]? = _)) rs [] (by simp; omega) (fun x hx acc=>by
    have iM:inM true (h++[.lst acc]) (.str x) (.tl DW)=some (.bl (!decide (x∈D))):=by
     rw [← hDW]
     have ai:=any_str (l:=D) (z:=x)
     have af:=all_flat (l:=D)
     unfold inM
     simp only [dicts,seqs,items,Option.bind_some]
     rw [if_pos (by rw [af]; rfl),ai,Bool.true_xor]
    refine ⟨_,rfl,?_,?_⟩
    ·generalize h++[O.lst acc]=hx at iM
     simp_all_arith [iM]
    ·generalize h++[O.lst acc]=hx
     simp! [xNo])
   have hRW':(rs.map fun x=>W.str x)=RW':=hRW
   rw [hRW',List.nil_append] at bl
   exact xCompS_of (src:=some r) (ws:=RW') (h1:=h) (by simp! [d2,er]) bl
  have lo:=S.lt (.inl rfl)
  have lm:=S.lt (.inr (.inl rfl))
  have lg:=S.lt (.inr (.inr (.inl rfl)))
  have lr:=S.lt (.inr (.inr (.inr (.inl rfl))))
  have l1:h1.length=h.length+1:=by rw [← eh1]; simp
  have k1:∀ n,n<h.length→h1[n]? = h[n]?:=fun n hn=>by rw [← eh1,List.getElem?_append_left hn]
  have o1:h1[ω.o]? = some (.dic (ownD ω r)):=by rw [k1 _ lo]; exact S.o
  have pu:putD (ownD ω r) (.inr (Str.ofString "runs")) (.ref h.length)=ownD ω h.length:=rfl
  have pl:(ownD ω r).length<16777216:=by show 3<16777216; omega
  obtain ⟨h2,eh2⟩:∃ h2,h1.set ω.o (.dic (ownD ω h.length))=h2:=⟨_,rfl⟩
  have k2:∀ n,n<h.length→n≠ω.o→h2[n]? = h[n]?:=fun n hn hno=>by rw [← eh2,List.getElem?_set_ne (fun q=>hno q.symm)]; exact k1 n hn
  have d3':1+MW.length≤16777216:=by omega
  refine ⟨h2,h.length,selfF_ok rfl ?_ (by rw [← eh2,List.length_set]; omega),?_,⟨by rw [← eh2,List.length_set]; omega,fun n hn hno=>k2 n hn fun q=>hno (.inl q),fun n hn=>?_⟩⟩
  ·refine congrArg Out.res (?_:_=Out.rt (.tl (D.map W.str)) h2)
   rw [hDW]
   refine (xSeq_nx (ρ':=[some (.ref ω.o),some (.int 4),some (.str l.nm),some x,none,none,none]) (h':=h) (by simp! [xNo])).trans ?_
   refine (xSeq_nx (ρ':=[some (.ref ω.o),some (.int 4),some (.str l.nm),some x,none,none,none]) (h':=h) (by simp! [xNo])).trans ?_
   refine (xSeq_nx (ρ':=[some (.ref ω.o),some (.int 4),some (.str l.nm),some x,none,none,none]) (h':=h) (by simp_all_arith [d2,iR])).trans ?_
   refine (xSeq_nx (ρ':=[some (.ref ω.o),some (.int 4),some (.str l.nm),some x,some (.ref l.r),none,none]) (h':=h) (by simp! [d3,n2])).trans ?_
   refine (xSeq_nx (ρ':=[some (.ref ω.o),some (.int 4),some (.str l.nm),some x,some (.ref l.r),none,none]) (h':=h) (by simp! [xNo])).trans ?_
   refine (xSeq_nx (ρ':=[some (.ref ω.o),some (.int 4),some (.str l.nm),some x,some (.ref l.r),none,none]) (h':=h) (by simp! [xNo])).trans ?_
   refine (xSeq_nx (ρ':=[some (.ref ω.o),some (.int 4),some (.str l.nm),some x,some (.ref l.r),none,none]) (h':=h) (by simp! [xNo])).trans ?_
   refine (xSeq_nx (ρ':=[some (.ref ω.o),some (.int 4),some (.str l.nm),some x,some (.ref l.r),none,some (.tl DW)]) (h':=h) (by rw [← hDM]; simp! [d1,d2,bb,d3'])).trans ?_
   refine (xSeq_nx (ρ':=[some (.ref ω.o),some (.int 4),some (.str l.nm),some x,some (.ref l.r),none,some (.tl DW)]) (h':=h2) (by simp! [cn,o1,pl,pu,eh2,xSetD,setD])).trans ?_
   simp! [xNo]
  ·refine ⟨by rw [← eh2,List.getElem?_set_self (by omega)],by rw [k2 _ lm S.om.symm]; exact S.m,by rw [← eh2,List.getElem?_set_ne (by omega),← eh1]; simp,S.l.fr fun n q=>?_,S.om,S.og,S.mg,fun s hs=>?_,S.ln,S.fo,S.ord.sub _,S.nd.sublist List.filter_sublist,Nat.le_trans (List.length_filter_le _ _) rn,S.el⟩
   ·rcases q with q | ⟨s,hs,q⟩
    ·rw [q]; exact k2 _ lg S.og.symm
    ·rw [q]
     refine k2 _ (S.lt (.inr (.inr (.inr (.inr ⟨s,hs,rfl⟩))))) fun z=>?_
     have:=(S.l.rr s hs).1
     rw [z,S.o] at this
     cases this
   ·have:=S.lt (.inr (.inr (.inr (.inr ⟨s,hs,rfl⟩))))
    omega
  ·rcases hn with p | p | p | p | ⟨s,hs,p⟩
   ·exact .inl (.inl p)
   ·exact .inl (.inr (.inl p))
   ·exact .inl (.inr (.inr (.inl p)))
   ·exact .inr (by omega)
   ·exact .inl (.inr (.inr (.inr (.inr ⟨s,hs,p⟩))))
def S_done (F:Fm):Prop:=∀ h κ ev ts,Pj h κ ev ts→ev.length<15 →
 (∀ z y,nameS z=true→(z∈ev.map Prod.fst→∃ o,F [.ref κ.a,.int 0,.str z,.str y] h=.ok (.str "Taken") (h++[o]))∧(¬z∈ev.map Prod.fst→(¬y=Str.ofString ""→¬y∈ts.map Pt.nm→∃ o,F [.ref κ.a,.int 0,.str z,.str y] h=.ok (.str "NoTask") (h++[o]))∧((y=Str.ofString ""∨y∈ts.map Pt.nm) →
  (12≤ts.length→∃ o,F [.ref κ.a,.int 0,.str z,.str y] h=.ok (.str "TooMany") (h++[o]))∧(ts.length<12→∃ h',F [.ref κ.a,.int 0,.str z,.str y] h=.ok .non h'∧Fk κ h h'∧Pj h' κ (ev++[(z,y)]) (ts++[⟨z,h.length,List.replicate 16 none⟩]))))) ∧
 (∀ (z:W) v,∃ h',F [.ref κ.a,.int 3,z,.int v] h=.ok (.int (ts.map fun t=>(cnt v t.row:Int)).sum) h'∧Pj h' κ ev (ts.map (wipeT v))∧h.length≤h'.length∧∀ n,n<h.length→(∀ t∈ts,n≠t.d)→h'[n]? = h[n]?) ∧
 (∀ (i:Int) z (x:W),(i=1∨i=2∨i=4)→noT ts (.str z)→∃ o,F [.ref κ.a,.int i,.str z,x] h=.ok (.str "NoTask") (h++[o])) ∧
 (∀ a b t v,ts=a++t::b→(t.row.findIdx? Option.isNone=none→∃ o,F [.ref κ.a,.int 1,.str t.nm,.int v] h=.ok (.str "TooMany") (h++[o]))∧∀ i,t.row.findIdx? Option.isNone=some i→∃ kvs,Rw kvs (t.row.set i (some v))∧F [.ref κ.a,.int 1,.str t.nm,.int v] h=.ok (.int (i:Nat)) (h.set t.d (.dic kvs))) ∧
 (∀ t∈ts,∀ k:Int,(slotV t.row k=none→∃ o,F [.ref κ.a,.int 2,.str t.nm,.int k] h=.ok (.str "NoHandle") (h++[o]))∧∀ v,slotV t.row k=some v→F [.ref κ.a,.int 2,.str t.nm,.int k] h=.ok (.int v) h) ∧
 ∀ t∈ts,∀ x:W,∃ h',F [.ref κ.a,.int 4,.str t.nm,x] h=.ok (.tl ((endd ev ts t.nm).map W.str)) h'∧Pj h' κ ev (lft ts (endd ev ts t.nm))∧Fk κ h h'
theorem ok_done (T:Tx K mg C){F0 F1 F2 F3 F4 Fw:Fm}(h0:S_added F0)(h1:S_put F1)(h2:S_at F2)(h3:S_out F3)(h4:S_stop F4)(hFw:S_word Fw)(M_added:TabX P w K mg base (T0 C) true 3 "added" (tab1 F0))(M_put:TabX P w K mg base (T0 C) true 2 "put" (tab1 F1))(M_at:TabX P w K mg base (T0 C) true 2 "at" (tab1 F2))(M_taken_out:TabAt P w K mg base (T0 C) 2 "taken_out" (tab1 F3))(M_stopped:TabX P w K mg base (T0 C) true 17 "stopped" (tab1 F4))(G_l_word:FnAt P w K mg base (CXe false P w) 1 "_law_word" (spH (T0 C) Fw))(R:DefAt K mg "_law_done" s_l_done):∃ F,FnAt P w K mg base CX0 18 "_law_done" (spH (T0 C) F)∧S_done F:=by
 refine ⟨_,(def0s R sc_l_done bd_l_done (hB:=fun f cdv A outer s H E φ0 H0 hr=>(qb_one (qs_try (i:=4) (asg:=[]) T.cat_PassError rfl sc_l_done.nd rfl rfl (fun _=>trivial) rfl rfl
    (fun E1 pn1 φ1 H1 sg1 xw1 hsg hx=>(qb_cons (qs_if (qt_cmp (op_eqF hr) eqO_ok (q_var 1) q_int (nomark _)) (qb_one (qs_ret (q_methX T.ins M_added hx hr (by decide) (q_var 0) (qa_cons (q_var 2) (qa_cons (q_var 3) qa_nil))))) qb_nil)
    (qb_cons (qs_if (qt_cmp (op_eqF hr) eqO_ok (q_var 1) q_int (nomark _)) (qb_one (qs_ret (q_methX T.ins M_put hx hr (by decide) (q_var 0) (qa_cons (q_var 2) (qa_cons (q_var 3) qa_nil))))) qb_nil)
    (qb_cons (qs_if (qt_cmp (op_eqF hr) eqO_ok (q_var 1) q_int (nomark _)) (qb_one (qs_ret (q_methX T.ins M_at hx hr (by decide) (q_var 0) (qa_cons (q_var 2) (qa_cons (q_var 3) qa_nil))))) qb_nil)
    (qb_cons (qs_if (qt_cmp (op_eqF hr) eqO_ok (q_var 1) q_int (nomark _)) (qb_one (qs_ret (q_meth T.ins M_taken_out hr (by decide) (q_var 0) (qa_cons (q_var 3) qa_nil)))) qb_nil)
    (qb_one (qs_ret (q_methX T.ins M_stopped hx hr (by decide) (q_var 0) (qa_cons (q_var 2) qa_nil)))))))))
    (fun e1 φ1 H1=>have hr:=hr.mark (some (.ref e1)); (qb_one (qs_ret (q_fnX G_l_word (xok_no fun _ _ h=>h) hr (by decide) rfl (qa_cons (q_var 4) qa_nil))))))))),?_⟩
 intro h κ ev ts S hev
 obtain ⟨⟨o1,w1⟩,⟨o2,w2⟩,⟨o3,w3⟩,⟨o4,w4⟩⟩:=hFw h
 have e:=S.t
 simp only [tkO] at e
 refine ⟨fun z y hz=>?_,fun z v=>?_,fun i z x hi hz=>?_,fun a b t v ht=>?_,fun t ht k=>?_,fun t ht x=>?_⟩
 ·obtain ⟨a1,a2⟩:=h0 h κ ev ts z S hz
  refine ⟨fun hm=>⟨o4,selfF_ok rfl ?_ (by simp)⟩,fun hm=>⟨fun b0 hy=>⟨o1,selfF_ok rfl ?_ (by simp)⟩,fun hy=>⟨fun hl=>⟨o2,selfF_ok rfl ?_ (by simp)⟩,fun hl=>?_⟩⟩⟩
  ·have q:=a1 hm (.str y)
   simp! [e,q,w4,tb1,no_added,subP_NoTask,subP_TooMany,subP_NoHandle,subP_Taken]
  ·have q:=(a2 hm).1 y b0 hy
   simp! [e,q,w1,tb1,no_added,subP_NoTask,subP_TooMany,subP_NoHandle,subP_Taken]
  ·have q:=((a2 hm).2 y hy).1 hl
   simp! [e,q,w2,tb1,no_added,subP_NoTask,subP_TooMany,subP_NoHandle,subP_Taken]
  ·obtain ⟨h',q,f1,p1⟩:=((a2 hm).2 y hy).2 hl (by omega)
   exact ⟨h',selfF_ok rfl (by simp! [e,q,tb1,no_added]) f1.1,f1,p1⟩
 ·obtain ⟨h',q,p1,p2,p3⟩:=h3 h κ ev ts v S
  exact ⟨h',selfF_ok rfl (by simp! [e,q,xMeth,tb1,no_taken_out]) p2,p1,p2,p3⟩
 ·have q1:=(h1 h κ ev ts S).1 _ x hz
  have q2:=(h2 h κ ev ts S).1 _ x hz
  have q4:=(h4 h κ ev ts S hev).1 _ hz
  refine ⟨o1,selfF_ok rfl ?_ (by simp)⟩
  rcases hi with rfl | rfl | rfl
  ·simp! [e,q1,w1,tb1,no_put,subP_NoTask,subP_TooMany,subP_NoHandle,subP_Taken]
  ·simp! [e,q2,w1,tb1,no_at,subP_NoTask,subP_TooMany,subP_NoHandle,subP_Taken]
  ·simp! [e,q4,w1,tb1,no_stopped,subP_NoTask,subP_TooMany,subP_NoHandle,subP_Taken]
 ·obtain ⟨a1,a2⟩:=(h1 h κ ev ts S).2 a b t v ht
  refine ⟨fun hi=>⟨o2,selfF_ok rfl ?_ (by simp)⟩,fun i hi=>?_⟩
  ·have q:=a1 hi
   simp! [e,q,w2,tb1,no_put,subP_NoTask,subP_TooMany,subP_NoHandle,subP_Taken]
  ·obtain ⟨kvs,r,q⟩:=a2 i hi
   exact ⟨kvs,r,selfF_ok rfl (by simp! [e,q,tb1,no_put]) (by simp)⟩
 ·obtain ⟨a1,a2,_⟩:=(h2 h κ ev ts S).2 t ht
  refine ⟨fun hi=>⟨o3,selfF_ok rfl ?_ (by simp)⟩,fun v hv=>selfF_ok rfl ?_ (by simp)⟩
  ·have q:=a2 k hi
   simp! [e,q,w3,tb1,no_at,subP_NoTask,subP_TooMany,subP_NoHandle,subP_Taken]
  ·have q:=a1 k v hv
   simp! [e,q,tb1,no_at]
 ·obtain ⟨h',q,p1,p2⟩:=(h4 h κ ev ts S hev).2 t ht
  exact ⟨h',selfF_ok rfl (by simp! [e,q,tb1,no_stopped]) p2.1,p1,p2⟩
theorem prs_pair {row:List (Option Int)}{x:W}(h:x∈prs row):∃ a b:Int,x=.tup [.int a,.int b]:=by
 unfold prs at h
 obtain ⟨k,hk,rfl⟩:=List.mem_map.mp h
 unfold fullN at hk
 have:=(List.mem_filter.mp hk).2
 cases e:row.getD k none with
 | none=>rw [e] at this; cases this
 | some v=>exact ⟨k,v,rfl⟩
theorem allM_pairs {h:Mem}{n:Nat}:∀ l:List W,(∀ x∈l,∃ a b:Int,x=.tup [.int a,.int b])→allM (eqM h (n+1)) l l=some true
 | [],_=>rfl
 | x::l,hx=>by
  obtain ⟨a,b,rfl⟩:=hx x List.mem_cons_self
  unfold allM
  rw [allM_pairs l fun y hy=>hx y (List.mem_cons_of_mem _ hy)]
  have e:∀ i:Int,eqM h n (.int i) (.int i)=some true:=fun i=>eqM_flat rfl (eqFl_self rfl)
  have:eqM h (n+1) (.tup [.int a,.int b]) (.tup [.int a,.int b])=some true:=by
   rw [eqM,if_neg (by simp [flatW])]
   simp [sq,allM,e]
  rw [this]
  rfl
theorem eqM_prs {h:Mem}{a b:W}{row:List (Option Int)}{n:Nat}(ha:items h a=some (prs row))(hb:items h b=some (prs row)):eqM h (n+2) a b=some true:=by
 have fa:flatW a=false:=by cases a <;> first | rfl | cases ha
 have sa:sq h a=some (true,prs row):=by cases a <;> first | (unfold sq; dsimp only; rw [ha]; rfl) | cases ha
 have sb:sq h b=some (true,prs row):=by cases b <;> first | (unfold sq; dsimp only; rw [hb]; rfl) | cases hb
 rw [eqM,if_neg (by rw [fa]; simp),sa,sb]
 dsimp only
 rw [if_pos rfl,allM_pairs _ fun x hx=>prs_pair hx]
theorem eqM_items {h:Mem}{a b:W}{ws:List W}{n:Nat}(hf:∀ w∈ws,flatW w=true)(ha:items h a=some ws)(hb:items h b=some ws):eqM h (n+1) a b=some true:=by
 have fa:flatW a=false:=by cases a <;> first | rfl | cases ha
 have sa:sq h a=some (true,ws):=by cases a <;> first | (unfold sq; dsimp only; rw [ha]; rfl) | cases ha
 have sb:sq h b=some (true,ws):=by cases b <;> first | (unfold sq; dsimp only; rw [hb]; rfl) | cases hb
 rw [eqM,if_neg (by rw [fa]; simp),sa,sb]
 dsimp only
 rw [if_pos rfl,allM_self fun w m=>eqM_flat (hf w m) (eqFl_self (hf w m))]
theorem allF {l:List Str}:∀ w∈l.map W.str,flatW w=true:=fun w hw=>by
 obtain ⟨x,_,rfl⟩:=List.mem_map.mp hw
 rfl
theorem nmW_eq (ts:List Pt):nmW ts=(ts.map Pt.nm).map W.str:=by unfold nmW; rw [List.map_map]; rfl
structure Rel (h:Mem)(κ:Kp)(ω:Wn)(r:Nat)(ev:List (Str×Str))(ts:List Pt)(ls:List Lt):Prop where
 p:Pj h κ ev ts
 w:Wj h ω r ev (ts.map Pt.nm) ls
 rw:∀ t∈ts,rowL ls t.nm=t.row
theorem Rel.ext {h h':Mem}{κ:Kp}{ω:Wn}{r:Nat}{ev:List (Str×Str)}{ts:List Pt}{ls:List Lt}(j:Rel h κ ω r ev ts ls)(e:∀ n,n<h.length→h'[n]? = h[n]?):Rel h' κ ω r ev ts ls:=
 ⟨j.p.fr fun n q=>by rcases j.p.is q with z | ⟨_,z⟩ <;> exact e n (List.getElem?_eq_some_iff.mp z).1,j.w.fr fun n q=>e n (j.w.lt q),j.rw⟩
theorem Rel.app {h:Mem}{κ:Kp}{ω:Wn}{r:Nat}{ev:List (Str×Str)}{ts:List Pt}{ls:List Lt}(j:Rel h κ ω r ev ts ls)(o:List O):Rel (h++o) κ ω r ev ts ls:=j.ext fun n hn=>by rw [List.getElem?_append_left hn]
def S_same (F:Fm):Prop:=∀ h κ ω r ev ts ls (q:Int),Rel h κ ω r ev ts ls→∃ h',F [.ref κ.a,.ref ω.o,.int q] h=.ok (.bl true) h'∧h.length≤h'.length∧∀ n,n<h.length→h'[n]? = h[n]?
theorem ok_same (T:Tx K mg C){Fr' Ff Fs Fm' Fb:Fm}(hr:S_running Fr')(hf:S_free Ff)(hs:S_slots Fs)(hm:S_made 15 Fm')(hb:S_below 15 Fb)(M_running:TabAt P w K mg base (T0 C) 1 "running" (tab1 Fr'))(M_free:TabX P w K mg base (T0 C) true 2 "free" (tab1 Ff))(M_slots:TabX P w K mg base (T0 C) true 2 "slots" (tab1 Fs))(M_made_by:TabX P w K mg base (T0 C) true 16 "made_by" (tab1 Fm'))(G_l_below:FnAt P w K mg base CX0 16 "_law_below" (spH (T0 C) Fb))(R:DefAt K mg "_law_same" s_l_same):∃ F,FnAt P w K mg base CX0 18 "_law_same" (spH (T0 C) F)∧S_same F:=by
 refine ⟨_,(def0s R sc_l_same bd_l_same (hB:=fun f cdv A outer s H E φ0 H0 hr=>(qb_cons (qs_set (i:=3) sc_l_same.nd rfl (Or.inl rfl) (fun _ _ _=>trivial) (q_cmp (op_eqF hr) eqO_ok (q_bin op_mod modM_ok (q_var 2) q_int) q_int (nomark _)))
   (qb_cons (qs_if (qt_w (qw_and (qt_tru (q_var 3)) (qw_and1 (qt_cmp (op_neF hr) neO_ok (q_meth0 T.ins M_running hr (by decide) (q_var 0)) (q_dget hr (q_var 1) q_str (fun _ _=>rfl)) (nomark _))))) (qb_one (qs_ret q_bl)) qb_nil)
   (qb_cons (qs_forS (tg_name (fun _ _ _=>trivial)) PassesOwn.never rfl (qi_list (q_dget hr (q_var 1) q_str (fun _ _=>rfl))) (qg_name (i:=4) sc_l_same.nd rfl (Or.inl rfl))
    (qb_cons (qs_set (i:=5) sc_l_same.nd rfl (Or.inr rfl) (fun _ _ _=>trivial) (q_dget hr (q_dget hr (q_var 1) q_str (fun _ _=>rfl)) (q_var 4) (fun _ _=>rfl)))
    (qb_cons (qs_setc (osc:=defScope s_l_same) (N:=["_law_tasks","_law_own","_law_number","_law_first","_law_name_here","_law_row","_law_due_here"]) (own:=["_law_slot"]) (fr:=["_law_row"]) (ix:=[5]) (i:=6) sc_l_same.nd rfl rfl (fun _ _ _=>trivial) rfl rfl rfl (by decide +kernel) (qi_range1 rfl T.b_range q_int) (fun _=>(tg_name (zb_set (by decide)))) (fun _ _ _ _ _=>(qg_cn 0 (by decide +kernel) rfl (by decide +kernel) rfl)) (fun _ _ _ _ _ _=>(qc_one (qt_cmp op_notN notNM_ok (q_ix ix_any ixM_ok (q_var 1) (q_var 0) (fun _ _=>rfl)) q_non (nomark _)))) (fun _ _ _ _ _ _=>(q_tup (qa_cons (q_var 0) (qa_cons (q_ix ix_any ixM_ok (q_var 1) (q_var 0) (fun _ _=>rfl)) qa_nil)))))
    (qb_cons (qs_if (qt_w (qw_and (qt_cmp (op_eqF hr) eqO_ok (q_bin op_mod modM_ok (q_bin op_fdiv divM_ok (q_var 2) q_int) q_int) q_int (nomark _)) (qw_and1 (qt_cmp (op_neF hr) neO_ok (q_methX T.ins M_free (xok_no fun _ _ h=>h) hr (by decide) (q_var 0) (qa_cons (q_var 4) qa_nil)) (q_countF (q_var 5) (qa_cons q_non qa_nil)) (nomark _))))) (qb_one (qs_ret q_bl)) qb_nil)
    (qb_cons (qs_if (qt_w (qw_or (qt_cmp (op_neF hr) neO_ok (q_methX T.ins M_slots (xok_no fun _ _ h=>h) hr (by decide) (q_var 0) (qa_cons (q_var 4) qa_nil)) (q_var 6) (nomark _)) (qw_or1 (qt_cmp (op_neF hr) neO_ok (q_methX T.ins M_free (xok_no fun _ _ h=>h) hr (by decide) (q_var 0) (qa_cons (q_var 4) qa_nil)) (q_countF (q_var 5) (qa_cons q_non qa_nil)) (nomark _))))) (qb_one (qs_ret q_bl)) qb_nil)
    (qb_one (qs_if (qt_cmp (op_neF hr) neO_ok (q_methX T.ins M_made_by (xok_no fun _ _ h=>h) hr (by decide) (q_var 0) (qa_cons (q_var 4) qa_nil)) (q_fn0 G_l_below hr (by decide) rfl (qa_cons (q_dget hr (q_var 1) q_str (fun _ _=>rfl)) (qa_cons (q_dget hr (q_var 1) q_str (fun _ _=>rfl)) (qa_cons (q_var 4) qa_nil)))) (nomark _)) (qb_one (qs_ret q_bl)) qb_nil)))))))
   (qb_one (qs_ret (q_cmp (op_eqF hr) eqO_ok (q_meth0 T.ins M_running hr (by decide) (q_var 0)) (q_dget hr (q_var 1) q_str (fun _ _=>rfl)) (nomark _))))))))),?_⟩
 intro h κ ω r ev ts ls q j
 generalize hC:xComp (xIr1 _) _ _ _ _ _=Cm
 generalize hB:xSeq (xAsg (gN 5) _) _=B
 obtain ⟨N,hN⟩:∃ N,ts.map Pt.nm=N:=⟨_,rfl⟩
 obtain ⟨NW,hNW⟩:∃ NW,N.map W.str=NW:=⟨_,rfl⟩
 have nmw:nmW ts=NW:=by rw [nmW_eq,hN,hNW]
 have e:∀ {h ts},Pj h κ ev ts→h[κ.a]? = some (O.ins "Tasks" [("makers",.ref κ.m),("filled",.ref κ.f)]):=fun j=>j.t
 have dg1:∀ {h},Wj h ω r ev (ts.map Pt.nm) ls→dgetM h (.ref ω.o) (.str (Str.ofString "makers"))=some (.ref ω.m):=fun S=>by simp only [dgetM,dicts,S.o,keyW]; exact gm
 have dg2:∀ {h},Wj h ω r ev (ts.map Pt.nm) ls→dgetM h (.ref ω.o) (.str (Str.ofString "runs"))=some (.ref r):=fun S=>by simp only [dgetM,dicts,S.o,keyW]; exact gr
 have dg3:∀ {h},Wj h ω r ev (ts.map Pt.nm) ls→dgetM h (.ref ω.o) (.str (Str.ofString "rows"))=some (.ref ω.g):=fun S=>by simp only [dgetM,dicts,S.o,keyW]; exact gg
 have run:∀ {h},Rel h κ ω r ev ts ls→Fr' [.ref κ.a] h=.ok (.ref h.length) (h++[.lst NW])∧eqM (h++[.lst NW]) 4 (.ref h.length) (.ref r)=some true:=fun {h} j=>by
  refine ⟨by rw [← nmw]; exact hr h κ ev ts j.p,?_⟩
  have rr:=(j.app [.lst NW]).w.rr
  rw [hN,hNW] at rr
  exact eqM_items (ws:=NW) (by rw [← hNW]; exact allF) (by simp [items]) (by simp only [items,rr])
 have lp:∀ h0:Mem,Rel h0 κ ω r ev ts ls→∃ ρ' h',xLoopS (gN 4) B r NW NW [some (.ref κ.a),some (.ref ω.o),some (.int q),some (.bl (decide (q % 2=0))),none,none,none] h0=.nx ρ' h'∧((∃ v4 v5 v6,ρ'=[some (.ref κ.a),some (.ref ω.o),some (.int q),some (.bl (decide (q % 2=0))),v4,v5,v6])∧h0.length≤h'.length∧∀ n,n<h0.length→h'[n]? = h0[n]?):=by
  intro h0 j0
  have rr0:=j0.w.rr
  rw [hN,hNW] at rr0
  have rlt:=j0.w.lt (.inr (.inr (.inr (.inl rfl))))
  refine xLoopS_nx (fun ρ' h'=>(∃ v4 v5 v6,ρ'=[some (.ref κ.a),some (.ref ω.o),some (.int q),some (.bl (decide (q % 2=0))),v4,v5,v6])∧h0.length≤h'.length∧∀ n,n<h0.length→h'[n]? = h0[n]?) (fun ρ h e=>by rw [e.2.2 r rlt]; exact rr0) _ _ _ ⟨⟨none,none,none,rfl⟩,Nat.le_refl _,fun _ _=>rfl⟩ ?_
  rintro u hu ρ hh ⟨⟨v4,v5,v6,rfl⟩,k1,k2⟩
  rw [← hNW] at hu
  obtain ⟨x,hx,rfl⟩:=List.mem_map.mp hu
  obtain ⟨t,ht,rfl⟩:∃ t∈ts,t.nm=x:=by rw [← hN] at hx; exact List.mem_map.mp hx
  have j1:Rel hh κ ω r ev ts ls:=j0.ext k2
  have W1:=j1.w
  have hxl:t.nm∈ls.map Lt.nm:=by rw [W1.ln]; exact W1.ord.in (List.mem_map.mpr ⟨t,ht,rfl⟩)
  obtain ⟨l,hl,ln⟩:=List.mem_map.mp hxl
  have lrow:l.row=t.row:=by rw [← rowL_of W1.l.nn hl,ln]; exact j1.rw t ht
  obtain ⟨r1,r2⟩:=W1.l.rr l hl
  have gf:=W1.l.getF hl
  rw [ln] at gf
  have g2:=dg3 W1
  have n2:dgetM hh (.ref ω.g) (.str t.nm)=some (.ref l.r):=by simp only [dgetM,dicts,W1.l.g,keyW]; exact gf
  obtain ⟨L,hL⟩:∃ L,prs t.row=L:=⟨_,rfl⟩
  have ec:∀ v6:Option W,Cm [some (.ref κ.a),some (.ref ω.o),some (.int q),some (.bl (decide (q % 2=0))),some (.str t.nm),some (.ref l.r),v6] hh=.ok (.tl L) hh:=by
   intro v6
   rw [← hC]
   have:L=((List.range 16).filter fun k=>(l.row.getD k none).isSome).map fun (k:Nat)=>W.tup [.int (0+(k:Int)),ow (l.row.getD k none)]:=by
    rw [← hL,← lrow]
    unfold prs fullN
    apply List.map_congr_left
    intro k _
    rw [Int.zero_add]
   rw [this]
   refine xComp_fil (fun k:Nat=>W.int (0+(k:Int))) (fun (k:Nat)=>W.tup [.int (0+(k:Int)),ow (l.row.getD k none)]) (fun k=>(l.row.getD k none).isSome) (List.range 16) (s:=none) ?_ ?_ ?_
   ·simp! [rngW]
   ·rw [List.length_range,sizeLine_eq]; omega
   ·intro k hk acc
    have hk':=List.mem_range.mp hk
    have dk:(hh++[O.lst acc])[l.r]? = some (.lst (l.row.map ow)):=kept r1
    have a:atI (l.row.map ow) (k:Int)=some (ow (l.row.getD k none)):=by
     rw [atI_get' (by omega),List.getElem?_map,Int.toNat_natCast]
     have:k<l.row.length:=by omega
     rw [List.getD_eq_getElem?_getD,List.getElem?_eq_getElem this]; rfl
    obtain ⟨hx,ehx⟩:∃ hx,hh++[O.lst acc]=hx:=⟨_,rfl⟩
    rw [ehx] at dk ⊢
    refine ⟨_,rfl,⟨hx,?_⟩,fun _=>⟨⟨hx,?_⟩,?_⟩⟩
    ·cases e:l.row.getD k none with
     | none=>rw [e] at a; simp! [dk,a,ow]
     | some v=>rw [e] at a; simp! [dk,a,ow]
    ·simp! [dk,a]
    ·cases l.row.getD k none <;> rfl
  obtain ⟨ne,hne⟩:∃ ne:Nat,(l.row.filter Option.isNone).length=ne:=⟨_,rfl⟩
  have hsum:∀ r:List (Option Int),(r.filter Option.isSome).length+(r.filter Option.isNone).length=r.length:=fun r=>by
   induction r with
   | nil=>rfl
   | cons x r ih=>cases x <;> simp <;> omega
  have hq:(16 - ((t.row.filter Option.isSome).length:Int))=(ne:Int):=by
   have hs:=hsum l.row
   rw [r2,hne,lrow] at hs
   omega
  have cN:∀ {h':Mem},h'[l.r]? = some (.lst (l.row.map ow))→countFM h' (.ref l.r) [.non]=some (.int (ne:Nat)):=fun {h'} z=>by
   unfold countFM
   simp only [items,z,Option.bind_some]
   rw [if_pos (by rw [ow_flat]; rfl),ow_cntN,hne]
  have fr:∀ {h'},Pj h' κ ev ts→Ff [.ref κ.a,.str t.nm] h'=.ok (.int (ne:Int)) h':=fun {h'} z=>by rw [← hq]; exact (hf h' κ ev ts z).2 t ht
  have sl:Fs [.ref κ.a,.str t.nm] hh=.ok (.ref hh.length) (hh++[.lst L]):=by rw [← hL]; exact (hs hh κ ev ts j1.p).2 t ht
  have j2:=j1.app [.lst L]
  have a1:(hh++[O.lst L])[hh.length]? = some (.lst L):=by simp
  have i2:eqM (hh++[.lst L]) 4 (.ref hh.length) (.tl L)=some true:=by rw [← hL] at a1 ⊢; exact eqM_prs (by simp only [items,a1]) rfl
  have r1':(hh++[O.lst L])[l.r]? = some (.lst (l.row.map ow)):=kept r1
  have c0:=cN r1
  have c1:=cN r1'
  have f0:=fr j1.p
  have f1:=fr j2.p
  have e0:=e j1.p
  have e2:=e j2.p
  have kx:∀ n,n<hh.length→(hh++[O.lst L])[n]? = hh[n]?:=fun n hn=>by rw [List.getElem?_append_left hn]
  have lx:(hh++[O.lst L]).length=hh.length+1:=by simp
  generalize hh++[O.lst L]=h2 at sl j2 i2 r1' c1 f1 e2 kx lx
  have hts:ts.length≤1000:=by have:=j1.p.hl; omega
  have evl:ev.length<15:=by have:=W1.el; omega
  obtain ⟨h3,n3,s1,s2,s3,s4⟩:=(hm h2 κ ev ts j2.p.m hts).2 t ht (j2.p.fo.dep _ _ evl)
  have j3:=j2.ext s4
  obtain ⟨MW,hMW⟩:∃ MW,(mb ev (ts.map Pt.nm) 15 t.nm).map W.str=MW:=⟨_,rfl⟩
  have b1:Fb [.ref ω.m,.ref r,.str t.nm] h3=.ok (.tl MW) h3:=by
   rw [← hMW]
   exact hb h3 ω.m r ev _ (.inl j3.w.m) j3.w.rr j3.w.fo j3.w.nd (by have:=j3.w.rn; omega) j3.w.ord t.nm (j3.w.fo.dep _ _ evl)
  have i3:eqM h3 4 (.ref n3) (.tl MW)=some true:=eqM_items (ws:=MW) (by rw [← hMW]; exact allF) (by simp only [items,s3,hMW]) rfl
  have g31:=dg1 j3.w
  have g32:=dg2 j3.w
  have l3:h2.length≤h3.length:=by have:=(List.getElem?_eq_some_iff.mp s3).1; omega
  have es:∀ (h:Mem) (i:Int),eqM h 4 (.int i) (.int i)=some true:=fun h i=>eqM_flat rfl (eqFl_self rfl)
  refine ⟨_,rfl,[some (.ref κ.a),some (.ref ω.o),some (.int q),some (.bl (decide (q % 2=0))),some (.str t.nm),some (.ref l.r),some (.tl L)],h3,.inl ?_,⟨_,_,_,rfl⟩,by omega,fun n hn=>by rw [s4 n (by omega),kx n (by omega)]; exact k2 n hn⟩
  rw [← hB]
  refine (xSeq_nx (ρ':=[some (.ref κ.a),some (.ref ω.o),some (.int q),some (.bl (decide (q % 2=0))),some (.str t.nm),some (.ref l.r),v6]) (h':=hh) (by simp! [g2,n2])).trans ?_
  refine (xSeq_nx (ρ':=[some (.ref κ.a),some (.ref ω.o),some (.int q),some (.bl (decide (q % 2=0))),some (.str t.nm),some (.ref l.r),some (.tl L)]) (h':=hh) (by simp! [ec])).trans ?_
  refine (xSeq_nx (ρ':=[some (.ref κ.a),some (.ref ω.o),some (.int q),some (.bl (decide (q % 2=0))),some (.str t.nm),some (.ref l.r),some (.tl L)]) (h':=hh) ?_).trans ?_
  ·by_cases hq2:q / 2 % 2=0
   ·simp_all! [hq2,e0,f0,c0,r1,es,xBmL,tb1,no_free]
   ·simp! [hq2]
  refine (xSeq_nx (ρ':=[some (.ref κ.a),some (.ref ω.o),some (.int q),some (.bl (decide (q % 2=0))),some (.str t.nm),some (.ref l.r),some (.tl L)]) (h':=h2) (by simp_all! [e0,sl,i2,e2,f1,c1,r1',es,xBmL,tb1,no_free,no_slots])).trans ?_
  simp_all! [e2,s1,g31,g32,b1,i3,tb1,no_made_by]
 obtain ⟨h1,k1,k2,st⟩:∃ h1:Mem,h.length≤h1.length∧(∀ n,n<h.length→h1[n]? = h[n]?)∧∀ S2:Sm,S2=xIfS (xAnd (xVar 3) (xBin neO (xMeth (Str.ofString "running") (tab1 Fr') (xVar 0) xNil) (xBin dgetM (xVar 1) (xC (.str (Str.ofString "runs")))))) (xRet (xC (.bl false))) xNext→S2 [some (.ref κ.a),some (.ref ω.o),some (.int q),some (.bl (decide (q % 2=0))),none,none,none] h=.nx [some (.ref κ.a),some (.ref ω.o),some (.int q),some (.bl (decide (q % 2=0))),none,none,none] h1:=by
  by_cases hq:q % 2=0
  ·obtain ⟨c1,c2⟩:=run j
   have g2:=dg2 (j.app [.lst NW]).w
   have e0:=e j.p
   refine ⟨h++[.lst NW],by simp,fun n hn=>by rw [List.getElem?_append_left hn],?_⟩
   generalize h++[O.lst NW]=hx at c1 c2 g2
   rintro S2 rfl
   simp_all! [hq,e0,c1,c2,g2,xMeth,tb1,no_running]
  ·refine ⟨h,Nat.le_refl _,fun _ _=>rfl,?_⟩
   rintro S2 rfl
   simp! [hq]
 have j1:=j.ext k2
 obtain ⟨ρ',h2,lp,⟨v4,v5,v6,rfl⟩,k3,k4⟩:=lp h1 j1
 have j2:=j1.ext k4
 obtain ⟨c1,c2⟩:=run j2
 have g2:=dg2 (j2.app [.lst NW]).w
 have e2:=e j2.p
 have rr1:=j1.w.rr
 rw [hN,hNW] at rr1
 have g1:=dg2 j1.w
 refine ⟨h2++[.lst NW],selfF_ok rfl ?_ (by simp; omega),by simp; omega,fun n hn=>by rw [List.getElem?_append_left (by omega),k4 n (by omega)]; exact k2 n hn⟩
 refine congrArg Out.res (?_:_=Out.rt (.bl true) (h2++[.lst NW]))
 refine (xSeq_nx (ρ':=[some (.ref κ.a),some (.ref ω.o),some (.int q),some (.bl (decide (q % 2=0))),none,none,none]) (h':=h) (by simp! [xNo])).trans ?_
 refine (xSeq_nx (st _ rfl)).trans ?_
 refine (xSeq_nx ((xForS_loop (n:=r) (ws:=NW) (h':=h1) (by simp! [g1,rr1])).trans lp)).trans ?_
 generalize h2++[O.lst NW]=hx at c1 c2 g2
 simp_all! [e2,c1,c2,g2,xMeth,tb1,no_running]
theorem eqM_nil {h:Mem}{n:Nat}{x:W}{l:List W}(e:h[n]? = some (.lst (x::l))):eqM h 4 (.ref n) (.tl [])=some false:=by
 rw [eqM,if_neg (by simp [flatW])]
 simp only [sq,items,e]
 rfl
theorem eqM_nil' {h:Mem}{n:Nat}(e:h[n]? = some (.lst [])):eqM h 4 (.ref n) (.tl [])=some true:=eqM_items (ws:=[]) (by simp) (by simp only [items,e]) rfl
def Drawn (nm:Nat→Str)(rs:List Str)(w1 w2 w3:W):Prop:=
 (∃ i y,w1=.int 0∧i<14∧w2=.str (nm i)∧w3=.str y∧(y=Str.ofString ""∨y∈rs∨∃ j,j<14∧y=nm j)) ∨
 ∃ (k:Int) (z:Str) (v:Int),w1=.int k∧(k=1∨k=2∨k=3∨k=4)∧w2=.str z∧(z∈rs∨∃ i,i<14∧z=nm i)∧w3=.int v∧0≤v∧v<16
def S_deed (Fn:Fm)(F:Fm):Prop:=∀ (ns:List Int) (nm:Nat→Str),ns.length≤63→(∀ h k,k≤20→Fn [.tl (ns.map W.int),.int (k:Nat)] h=.ok (.str (nm k)) h)→∀ h ω r ev rs ls (k:Int),Wj h ω r ev rs ls→0≤k→k≤60→∃ w1 w2 w3,F [.tl (ns.map W.int),.int k,.ref ω.o] h=.ok (.tup [w1,w2,w3]) h∧Drawn nm rs w1 w2 w3
theorem ok_deed (T:Tx K mg C){Fn:Fm}(G_l_mix:FnAt P w K mg base CX0 1 "_law_mix" (spH (T0 C) F_mix))(G_l_name:FnAt P w K mg base CX0 2 "_law_name" (spH (T0 C) Fn))(R:DefAt K mg "_law_deed" s_l_deed):∃ F,FnAt P w K mg base CX0 3 "_law_deed" (spH (T0 C) F)∧S_deed Fn F:=by
 refine ⟨_,(def0s R sc_l_deed bd_l_deed (hB:=fun f cdv A outer s H E φ0 H0 hr=>(qb_cons (qs_set (i:=3) sc_l_deed.nd rfl (Or.inl rfl) (fun _ _ _=>trivial) (q_fn0 G_l_mix hr (by decide) rfl (qa_cons (q_var 0) (qa_cons (q_bin op_addV addM_ok q_int (q_bin op_mul mulM_ok q_int (q_var 1))) qa_nil))))
   (qb_cons (qs_set (i:=4) sc_l_deed.nd rfl (Or.inl rfl) (fun _ _ _=>trivial) (q_fn0 G_l_mix hr (by decide) rfl (qa_cons (q_var 0) (qa_cons (q_bin op_addV addM_ok q_int (q_bin op_mul mulM_ok q_int (q_var 1))) qa_nil))))
   (qb_cons (qs_set (i:=5) sc_l_deed.nd rfl (Or.inl rfl) (fun _ _ _=>trivial) (q_ix ix_any ixM_ok (q_lst (qa_cons q_int (qa_cons q_int (qa_cons q_int (qa_cons q_int (qa_cons q_int (qa_cons q_int (qa_cons q_int (qa_cons q_int (qa_cons q_int qa_nil)))))))))) (q_bin op_mod modM_ok (q_var 3) q_int) (fun _ _=>rfl)))
   (qb_cons (qs_set (i:=6) sc_l_deed.nd rfl (Or.inl rfl) (fun _ _ _=>trivial) (q_fn0 G_l_name hr (by decide) rfl (qa_cons (q_var 0) (qa_cons (q_bin op_mod modM_ok (q_bin op_fdiv divM_ok (q_var 3) q_int) q_int) qa_nil))))
   (qb_cons (qs_if (qt_w (qw_and (qt_cmp (op_neF hr) neO_ok (q_dget hr (q_var 2) q_str (fun _ _=>rfl)) (q_lst qa_nil) (nomark _)) (qw_and (qt_cmp op_gt gtM_ok (q_bin op_mod modM_ok (q_bin op_fdiv divM_ok (q_var 3) q_int) q_int) q_int (nomark _)) (qw_and1 (qt_cmp op_gt gtM_ok (q_var 5) q_int (nomark _)))))) (qb_one (qs_set (i:=6) sc_l_deed.nd rfl (Or.inl rfl) (fun _ _ _=>trivial) (q_ix ix_any ixM_ok (q_dget hr (q_var 2) q_str (fun _ _=>rfl)) (q_bin op_mod modM_ok (q_bin op_fdiv divM_ok (q_var 3) q_int) (q_cb lenM_ok call_lenV rfl T.b_len (by first | exact boot_b_len | rfl) (qa_cons (q_dget hr (q_var 2) q_str (fun _ _=>rfl)) qa_nil))) (fun _ _=>rfl)))) qb_nil)
   (qb_cons (qs_if (qt_cmp (op_eqF hr) eqO_ok (q_var 5) q_int (nomark _)) (qb_cons (qs_set (i:=7) sc_l_deed.nd rfl (Or.inl rfl) (fun _ _ _=>trivial) (q_ix ix_any ixM_ok (q_bin op_addV addM_ok (q_dget hr (q_var 2) q_str (fun _ _=>rfl)) (q_lst (qa_cons q_str (qa_cons (q_fn0 G_l_name hr (by decide) rfl (qa_cons (q_var 0) (qa_cons (q_bin op_mod modM_ok (q_var 4) q_int) qa_nil))) qa_nil)))) (q_bin op_mod modM_ok (q_bin op_fdiv divM_ok (q_var 4) q_int) (q_bin op_addV addM_ok (q_cb lenM_ok call_lenV rfl T.b_len (by first | exact boot_b_len | rfl) (qa_cons (q_dget hr (q_var 2) q_str (fun _ _=>rfl)) qa_nil)) q_int)) (fun _ _=>rfl)))
   (qb_one (qs_ret (q_tup (qa_cons (q_var 5) (qa_cons (q_var 6) (qa_cons (q_var 7) qa_nil))))))) qb_nil)
   (qb_one (qs_ret (q_tup (qa_cons (q_var 5) (qa_cons (q_var 6) (qa_cons (q_ix ix_any ixM_ok (q_lst (qa_cons (q_bin op_mod modM_ok (q_var 4) q_int) (qa_cons (q_bin op_mod modM_ok (q_var 4) q_int) qa_nil))) (q_cty intM_ok call_int1 rfl T.b_int (by first | exact boot_ty_int | rfl) (qa_cons (q_cmp (op_eqF hr) eqO_ok (q_var 5) q_int (nomark _)) qa_nil)) (fun _ _=>rfl)) qa_nil)))))))))))))),?_⟩
 intro ns nm hl hn h ω r ev rs ls k S k0 k1
 generalize hI:xIfS (xAnd _ _) _ _=I2
 have c1:(-18446744073709551616:Int)<k:=by omega
 have c2:k<(18446744073709551616:Int):=by omega
 have e2:=mix_is ns (20+2 * k) h (by omega) (by omega) hl
 have e3:=mix_is ns (21+2 * k) h (by omega) (by omega) hl
 have b3:=mix_ge ns (21+2 * k)
 generalize mixV ns (20+2 * k)=q at e2
 generalize mixV ns (21+2 * k)=mo at e3 b3
 have d2:dgetM h (.ref ω.o) (.str (Str.ofString "runs"))=some (.ref r):=by simp only [dgetM,dicts,S.o,keyW]; exact gr
 obtain ⟨RW',hRW⟩:∃ RW',rs.map W.str=RW':=⟨_,rfl⟩
 have RWl:RW'.length=rs.length:=by rw [← hRW]; simp
 have rn:=S.rn
 have er:=S.rr
 rw [hRW] at er
 obtain ⟨i,hi,hi14⟩:∃ i:Nat,q / 9 % 14=(i:Int)∧i<14:=⟨(q / 9 % 14).toNat,by omega,by omega⟩
 obtain ⟨j,hj,hj14⟩:∃ j:Nat,mo % 14=(j:Int)∧j<14:=⟨(mo % 14).toNat,by omega,by omega⟩
 have ni:=hn h i (by omega)
 have nj:=hn h j (by omega)
 obtain ⟨wy,hwy,wy5,ew⟩:∃ wy:Int,0≤wy∧wy≤4∧atI [W.int 0,.int 0,.int 1,.int 1,.int 1,.int 2,.int 2,.int 3,.int 4] (q % 9)=some (.int wy):=by
  obtain ⟨y,hy,ey⟩:=pickW (l:=[W.int 0,.int 0,.int 1,.int 1,.int 1,.int 2,.int 2,.int 3,.int 4]) (i:=q % 9) (by omega) (by show _<(9:Int); omega)
  simp only [List.mem_cons,List.not_mem_nil,or_false] at hy
  rcases hy with rfl | rfl | rfl | rfl | rfl | rfl | rfl | rfl | rfl <;> exact ⟨_,by decide,by decide,ey⟩
 obtain ⟨z,hz,st⟩:∃ z:Str,((z∈rs∧0<wy)∨z=nm i)∧∀ v7:Option W,I2 [some (.tl (ns.map W.int)),some (.int k),some (.ref ω.o),some (.int q),some (.int mo),some (.int wy),some (.str (nm i)),v7] h=.nx [some (.tl (ns.map W.int)),some (.int k),some (.ref ω.o),some (.int q),some (.int mo),some (.int wy),some (.str z),v7] h:=by
  cases hc:RW' with
  | nil=>
   rw [hc] at er
   have i0:=eqM_nil' er
   refine ⟨nm i,.inr rfl,fun v7=>?_⟩
   rw [← hI]
   simp_all! [d2,i0]
  | cons x0 l0=>
   have i0:=eqM_nil (hc ▸ er)
   by_cases a1:0<q / 126 % 4
   ·by_cases a2:0<wy
    ·have p0:0<RW'.length:=by rw [hc]; simp
     obtain ⟨w0,hw0,ey⟩:=pickW (l:=RW') (i:=q / 504 % (RW'.length:Int)) (Int.emod_nonneg _ (by omega)) (Int.emod_lt_of_pos _ (by omega))
     rw [← hRW] at hw0
     obtain ⟨z,hz,rfl⟩:=List.mem_map.mp hw0
     have b0:(0:Int)<(RW'.length:Int):=by omega
     have b1:(RW'.length:Int)<18446744073709551616:=by omega
     have b2:RW'.length≤16777216:=by omega
     refine ⟨z,.inl ⟨hz,a2⟩,fun v7=>?_⟩
     rw [← hI]
     simp_all! [d2,i0,a1,a2,er,ey,b0,b1,b2,p0]
    ·refine ⟨nm i,.inr rfl,fun v7=>?_⟩
     rw [← hI]
     simp_all! [d2,i0,a1,a2]
   ·refine ⟨nm i,.inr rfl,fun v7=>?_⟩
    rw [← hI]
    simp_all! [d2,i0,a1]
 have s1:xAsg (gN 3) (xCall0 F_mix (xCons (xVar 0) (xCons (xBin addM (xC (.int 20)) (xBin mulM (xC (.int 2)) (xVar 1))) xNil))) [some (.tl (ns.map W.int)),some (.int k),some (.ref ω.o),none,none,none,none,none] h=.nx [some (.tl (ns.map W.int)),some (.int k),some (.ref ω.o),some (.int q),none,none,none,none] h:=by simp! [e2,c1,c2]
 have s2:xAsg (gN 4) (xCall0 F_mix (xCons (xVar 0) (xCons (xBin addM (xC (.int 21)) (xBin mulM (xC (.int 2)) (xVar 1))) xNil))) [some (.tl (ns.map W.int)),some (.int k),some (.ref ω.o),some (.int q),none,none,none,none] h=.nx [some (.tl (ns.map W.int)),some (.int k),some (.ref ω.o),some (.int q),some (.int mo),none,none,none] h:=by simp! [e3,c1,c2]
 by_cases h0:wy=0
 ·subst h0
  have hz:z=nm i:=by rcases hz with ⟨_,q⟩ | q; exact absurd q (by decide); exact q
  subst hz
  obtain ⟨SM,hSM⟩:∃ SM,RW'++[.str (Str.ofString ""),.str (nm j)]=SM:=⟨_,rfl⟩
  have SMl:SM.length=RW'.length+2:=by rw [← hSM]; simp
  have b0:(0:Int)<(RW'.length:Int)+2:=by omega
  have b1:(RW'.length:Int)+2<18446744073709551616:=by omega
  have b2:RW'.length≤16777216:=by omega
  have b3:RW'.length+2≤16777216:=by omega
  obtain ⟨w0,hw0,ey⟩:=pickW (l:=SM) (i:=mo / 14 % ((RW'.length:Int)+2)) (Int.emod_nonneg _ (by omega)) (by rw [SMl]; have:=Int.emod_lt_of_pos (mo / 14) b0; omega)
  obtain ⟨y,rfl,hy⟩:∃ y,w0=.str y∧(y=Str.ofString ""∨y∈rs∨∃ j,j<14∧y=nm j):=by
   rw [← hSM] at hw0
   rcases List.mem_append.mp hw0 with hw0 | hw0
   ·rw [← hRW] at hw0
    obtain ⟨y,hy,rfl⟩:=List.mem_map.mp hw0
    exact ⟨y,rfl,.inr (.inl hy)⟩
   ·simp only [List.mem_cons,List.not_mem_nil,or_false] at hw0
    rcases hw0 with rfl | rfl
    ·exact ⟨_,rfl,.inl rfl⟩
    ·exact ⟨_,rfl,.inr (.inr ⟨j,hj14,rfl⟩)⟩
  have ad:addM h (.ref r) (.tl [.str (Str.ofString ""),.str (nm j)])=some (.tl SM):=by
   rw [← hSM]
   simp [addM,items,er,b3,sizeLine_eq]
  refine ⟨.int 0,.str (nm i),.str y,selfF_ok rfl ?_ (Nat.le_refl _),.inl ⟨i,y,rfl,hi14,rfl,rfl,hy⟩⟩
  refine congrArg Out.res (?_:_=Out.rt (.tup [.int 0,.str (nm i),.str y]) h)
  refine (xSeq_nx s1).trans ?_
  refine (xSeq_nx s2).trans ?_
  refine (xSeq_nx (ρ':=[some (.tl (ns.map W.int)),some (.int k),some (.ref ω.o),some (.int q),some (.int mo),some (.int 0),none,none]) (h':=h) (by simp! [ew])).trans ?_
  refine (xSeq_nx (ρ':=[some (.tl (ns.map W.int)),some (.int k),some (.ref ω.o),some (.int q),some (.int mo),some (.int 0),some (.str (nm i)),none]) (h':=h) (by simp! [hi,ni])).trans ?_
  refine (xSeq_nx (st _)).trans ?_
  have ad2:addM h (.int (RW'.length:Int)) (.int 2)=some (.int ((RW'.length:Int)+2)):=rfl
  simp_all_arith! [hj,nj,d2,ad,ad2,er,ey,b0,b1,b2]
 ·have hw:wy=1∨wy=2∨wy=3∨wy=4:=by omega
  obtain ⟨v,hv0,hv1,ev'⟩:∃ v:Int,0≤v∧v<16∧∀ ρ:Sg,ρ=[some (.tl (ns.map W.int)),some (.int k),some (.ref ω.o),some (.int q),some (.int mo),some (.int wy),some (.str z),none]→xBin ixM (xLst (xCons (xBin modM (xVar 4) (xC (.int 5))) (xCons (xBin modM (xVar 4) (xC (.int 16))) xNil))) (xCb intM (xCons (xBin eqO (xVar 5) (xC (.int 2))) xNil)) ρ h=.ok (.int v) h:=by
   by_cases h2:wy=2
   ·refine ⟨mo % 16,by omega,by omega,?_⟩
    rintro ρ rfl
    subst h2
    simp! [atI_0,atI_1]
   ·refine ⟨mo % 5,by omega,by omega,?_⟩
    rintro ρ rfl
    simp! [h2,atI_0,atI_1]
  refine ⟨.int wy,.str z,.int v,selfF_ok rfl ?_ (Nat.le_refl _),.inr ⟨wy,z,v,rfl,hw,rfl,?_,rfl,hv0,hv1⟩⟩
  ·refine congrArg Out.res (?_:_=Out.rt (.tup [.int wy,.str z,.int v]) h)
   refine (xSeq_nx s1).trans ?_
   refine (xSeq_nx s2).trans ?_
   refine (xSeq_nx (ρ':=[some (.tl (ns.map W.int)),some (.int k),some (.ref ω.o),some (.int q),some (.int mo),some (.int wy),none,none]) (h':=h) (by simp! [ew])).trans ?_
   refine (xSeq_nx (ρ':=[some (.tl (ns.map W.int)),some (.int k),some (.ref ω.o),some (.int q),some (.int mo),some (.int wy),some (.str (nm i)),none]) (h':=h) (by simp! [hi,ni])).trans ?_
   refine (xSeq_nx (st _)).trans ?_
   refine (xSeq_nx (ρ':=[some (.tl (ns.map W.int)),some (.int k),some (.ref ω.o),some (.int q),some (.int mo),some (.int wy),some (.str z),none]) (h':=h) (by simp! [h0])).trans ?_
   generalize hE:xBin ixM (xLst (xCons (xBin modM (xVar 4) (xC (.int 5))) (xCons (xBin modM (xVar 4) (xC (.int 16))) xNil))) (xCb intM (xCons (xBin eqO (xVar 5) (xC (.int 2))) xNil))=E at ev' ⊢
   have e9:=ev' _ rfl
   simp! [e9]
  ·rcases hz with ⟨q,_⟩ | q
   ·exact .inl q
   ·exact .inr ⟨i,hi14,q⟩
structure Sd where
 k:Kp
 o:Wn
 r:Nat
 ev:List (Str×Str)
 ts:List Pt
 ls:List Lt
def Sd.on (s:Sd)(n:Nat):Prop:=Pj.on s.k s.ts n∨Wj.on s.o s.r s.ls n
def Sd.ns (s:Sd):List Str:=s.ts.map Pt.nm
structure Rl (nm:Nat→Str)(h:Mem)(s:Sd):Prop where
 r:Rel h s.k s.o s.r s.ev s.ts s.ls
 ap:∀ n,Pj.on s.k s.ts n→¬Wj.on s.o s.r s.ls n
 nm:∀ p∈s.ev,∃ i,i<14∧p.1=nm i
theorem Pj.lt {h:Mem}{κ:Kp}{ev:List (Str×Str)}{ts:List Pt}(j:Pj h κ ev ts){n:Nat}(q:Pj.on κ ts n):n<h.length:=by
 rcases j.is q with e | ⟨_,e⟩ <;> exact (List.getElem?_eq_some_iff.mp e).1
theorem Rl.lt {nm:Nat→Str}{h:Mem}{s:Sd}(j:Rl nm h s){n:Nat}(q:s.on n):n<h.length:=q.elim (fun q=>j.r.p.lt q) fun q=>j.r.w.lt q
theorem Rl.fr {nm:Nat→Str}{h h':Mem}{s:Sd}(j:Rl nm h s)(e:∀ n,s.on n→h'[n]? = h[n]?):Rl nm h' s:=
 ⟨⟨j.r.p.fr fun n q=>e n (.inl q),j.r.w.fr fun n q=>e n (.inr q),j.r.rw⟩,j.ap,j.nm⟩
structure Tn (nm:Nat→Str)(h h':Mem)(s s':Sd):Prop where
 len:h.length≤h'.length
 st:∀ n,n<h.length→¬s.on n→h'[n]? = h[n]?
 nw:∀ n,s'.on n→s.on n∨h.length≤n
 k:s'.k=s.k
 o:s'.o=s.o
 r:Rl nm h' s'
theorem Tn.rf {nm:Nat→Str}{h:Mem}{s:Sd}(j:Rl nm h s):Tn nm h h s s:=⟨Nat.le_refl _,fun _ _ _=>rfl,fun _ q=>.inl q,rfl,rfl,j⟩
theorem Tn.trans {nm:Nat→Str}{a b c:Mem}{s t u:Sd}(x:Tn nm a b s t)(y:Tn nm b c t u):Tn nm a c s u:=by
 have l1:=x.len
 have l2:=y.len
 refine ⟨by omega,fun n hn hno=>?_,fun n q=>?_,y.k.trans x.k,y.o.trans x.o,y.r⟩
 ·rw [y.st n (by omega) fun q=>?_]
  ·exact x.st n hn hno
  ·rcases x.nw n q with q | q
   ·exact hno q
   ·omega
 ·rcases y.nw n q with q | q
  ·exact x.nw n q
  ·exact .inr (by omega)
def KeepP (κ:Kp)(ts ts':List Pt)(h h':Mem):Prop:=h.length≤h'.length∧(∀ n,n<h.length→¬Pj.on κ ts n→h'[n]? = h[n]?)∧∀ n,Pj.on κ ts' n→Pj.on κ ts n∨h.length≤n
theorem Keep.rf (ω:Wn)(r:Nat)(ls:List Lt)(h:Mem):Keep ω r ls r ls h h:=⟨Nat.le_refl _,fun _ _ _=>rfl,fun _ q=>.inl q⟩
theorem KeepP.rf (κ:Kp)(ts:List Pt)(h:Mem):KeepP κ ts ts h h:=⟨Nat.le_refl _,fun _ _ _=>rfl,fun _ q=>.inl q⟩
theorem KeepP.app (κ:Kp)(ts:List Pt)(h:Mem)(o:List O):KeepP κ ts ts h (h++o):=⟨by simp,fun n hn _=>by rw [List.getElem?_append_left hn],fun _ q=>.inl q⟩
theorem Rl.step {nm:Nat→Str}{h h1 h2:Mem}{s:Sd}(j:Rl nm h s){r':Nat}{ev':List (Str×Str)}{ts':List Pt}{ls':List Lt}(w1:Wj h1 s.o r' ev' (ts'.map Pt.nm) ls')(k1:Keep s.o s.r s.ls r' ls' h h1)(p2:Pj h2 s.k ev' ts')(k2:KeepP s.k s.ts ts' h1 h2)(hr:∀ t∈ts',rowL ls' t.nm=t.row)(hn:∀ p∈ev',∃ i,i<14∧p.1=nm i):Tn nm h h2 s ⟨s.k,s.o,r',ev',ts',ls'⟩:=by
 obtain ⟨a1,a2,a3⟩:=k1
 obtain ⟨b1,b2,b3⟩:=k2
 have no:∀ n,Wj.on s.o r' ls' n→¬Pj.on s.k s.ts n:=fun n q z=>by
  rcases a3 n q with q | q
  ·exact j.ap n z q
  ·have:=j.r.p.lt z; omega
 refine ⟨by omega,fun n hn hno=>?_,fun n q=>?_,rfl,rfl,⟨p2,w1.fr fun n q=>b2 n (w1.lt q) (no n q),hr⟩,fun n q z=>?_,hn⟩
 ·rw [b2 n (by omega) fun q=>hno (.inl q)]
  exact a2 n hn fun q=>hno (.inr q)
 ·rcases q with q | q
  ·rcases b3 n q with q | q
   ·exact .inl (.inl q)
   ·exact .inr (by omega)
  ·rcases a3 n q with q | q
   ·exact .inl (.inr q)
   ·exact .inr q
 ·rcases b3 n q with q | q
  ·exact no n z q
  ·have:=w1.lt z; omega
theorem Rl.step' {nm:Nat→Str}{h h1 h2:Mem}{s:Sd}(j:Rl nm h s){r':Nat}{ev':List (Str×Str)}{ts':List Pt}{ls':List Lt}(p1:Pj h1 s.k ev' ts')(k1:KeepP s.k s.ts ts' h h1)(w2:Wj h2 s.o r' ev' (ts'.map Pt.nm) ls')(k2:Keep s.o s.r s.ls r' ls' h1 h2)(hr:∀ t∈ts',rowL ls' t.nm=t.row)(hn:∀ p∈ev',∃ i,i<14∧p.1=nm i):Tn nm h h2 s ⟨s.k,s.o,r',ev',ts',ls'⟩:=by
 obtain ⟨a1,a2,a3⟩:=k1
 obtain ⟨b1,b2,b3⟩:=k2
 have no:∀ n,Pj.on s.k ts' n→¬Wj.on s.o s.r s.ls n:=fun n q z=>by
  rcases a3 n q with q | q
  ·exact j.ap n q z
  ·have:=j.r.w.lt z; omega
 refine ⟨by omega,fun n hn hno=>?_,fun n q=>?_,rfl,rfl,⟨p1.fr fun n q=>b2 n (p1.lt q) (no n q),w2,hr⟩,fun n q z=>?_,hn⟩
 ·rw [b2 n (by omega) fun q=>hno (.inr q)]
  exact a2 n hn fun q=>hno (.inl q)
 ·rcases q with q | q
  ·rcases a3 n q with q | q
   ·exact .inl (.inl q)
   ·exact .inr q
  ·rcases b3 n q with q | q
   ·exact .inl (.inr q)
   ·exact .inr (by omega)
 ·rcases b3 n z with z | z
  ·exact no n q z
  ·have:=p1.lt q; omega
def Ans (v:W):Prop:=v=.non∨(∃ i,v=.int i)∨(∃ z,v=.str z)∨∃ l:List Str,v=.tl (l.map W.str)
theorem Wn.fst_le {nm:Nat→Str}{ev:List (Str×Str)}(nd:(ev.map Prod.fst).Nodup)(hn:∀ p∈ev,∃ i,i<14∧p.1=nm i){i:Nat}(hi:i<14)(hm:¬nm i∈ev.map Prod.fst):ev.length<14:=by
 have:=nodup_le (l:=nm i::ev.map Prod.fst) (m:=(List.range 14).map nm) (List.nodup_cons.mpr ⟨hm,nd⟩) fun x hx=>by
  rcases List.mem_cons.mp hx with rfl | hx
  ·exact List.mem_map.mpr ⟨i,List.mem_range.mpr hi,rfl⟩
  ·obtain ⟨p,hp,rfl⟩:=List.mem_map.mp hx
   obtain ⟨k,hk,e⟩:=hn p hp
   exact List.mem_map.mpr ⟨k,List.mem_range.mpr hk,e.symm⟩
 simp at this
 omega
theorem on_mid {κ:Kp}{a b:List Pt}{t:Pt}{row:List (Option Int)}{n:Nat}(q:Pj.on κ (a ++ { t with row:=row }::b) n):Pj.on κ (a++t::b) n:=by
 rcases q with q | q | q | ⟨u,hu,q⟩
 ·exact .inl q
 ·exact .inr (.inl q)
 ·exact .inr (.inr (.inl q))
 ·rcases List.mem_append.mp hu with hu | hu
  ·exact .inr (.inr (.inr ⟨u,by simp [hu],q⟩))
  ·rcases List.mem_cons.mp hu with rfl | hu
   ·exact .inr (.inr (.inr ⟨t,by simp,q⟩))
   ·exact .inr (.inr (.inr ⟨u,by simp [hu],q⟩))
theorem on_filt {κ:Kp}{ts:List Pt}{p:Pt→Bool}{n:Nat}(q:Pj.on κ (ts.filter p) n):Pj.on κ ts n:=by
 rcases q with q | q | q | ⟨u,hu,q⟩
 ·exact .inl q
 ·exact .inr (.inl q)
 ·exact .inr (.inr (.inl q))
 ·exact .inr (.inr (.inr ⟨u,(List.mem_filter.mp hu).1,q⟩))
theorem on_wipe {κ:Kp}{ts:List Pt}{v:Int}{n:Nat}(q:Pj.on κ (ts.map (wipeT v)) n):Pj.on κ ts n:=by
 rcases q with q | q | q | ⟨u,hu,q⟩
 ·exact .inl q
 ·exact .inr (.inl q)
 ·exact .inr (.inr (.inl q))
 ·obtain ⟨t,ht,rfl⟩:=List.mem_map.mp hu
  exact .inr (.inr (.inr ⟨t,ht,q⟩))
theorem wipe_nm (ts:List Pt)(v:Int):(ts.map (wipeT v)).map Pt.nm=ts.map Pt.nm:=by rw [List.map_map]; rfl
theorem row_set {a b:List Pt}{t:Pt}{ls ls':List Lt}{row:List (Option Int)}(nn:((a++t::b).map Pt.nm).Nodup)(hr:∀ u∈a++t::b,rowL ls u.nm=u.row)(e:∀ x,rowL ls' x=if x=t.nm then row else rowL ls x):∀ u∈a ++ { t with row:=row }::b,rowL ls' u.nm=u.row:=by
 intro u hu
 rw [e]
 have hu':u = { t with row:=row }∨u∈a∨u∈b:=by
  rcases List.mem_append.mp hu with hu | hu
  ·exact .inr (.inl hu)
  ·rcases List.mem_cons.mp hu with hu | hu
   ·exact .inl hu
   ·exact .inr (.inr hu)
 rcases hu' with rfl | hu'
 ·rw [if_pos rfl]
 ·rw [if_neg (nodup_mid nn hu')]
  exact hr u (by rcases hu' with h | h <;> simp [h])
theorem turn {Fd Fo':Fm}(hd:S_due Fd)(ho:S_done Fo'){nm:Nat→Str}(wn:∀ i,i<14→nameS (nm i)=true){h:Mem}{s:Sd}(j:Rl nm h s){w1 w2 w3:W}(dr:Drawn nm s.ns w1 w2 w3):∃ v h1 h2 s',Fd [.ref s.o.o,w1,w2,w3] h=.ok v h1∧Fo' [.ref s.k.a,w1,w2,w3] h1=.ok v h2∧Ans v∧Tn nm h h2 s s':=by
 obtain ⟨κ,ω,r,ev,ts,ls⟩:=s
 have p:=j.r.p
 have w:=j.r.w
 have hrw:=j.r.rw
 have hap:=j.ap
 have hnm:=j.nm
 dsimp only [Sd.ns] at p w hrw hap hnm dr ⊢
 have evl:ev.length<15:=by have:=w.el; omega
 have tl:(ts.map Pt.nm).length=ts.length:=by simp
 obtain ⟨d0,d3,dn,d1,d2,d4⟩:=hd h ω r ev (ts.map Pt.nm) ls w
 obtain ⟨o0,o3,on,o1,o2,o4⟩:=ho h κ ev ts p evl
 have same:∀ (v:W) (h2:Mem),Fd [.ref ω.o,w1,w2,w3] h=.ok v h→Fo' [.ref κ.a,w1,w2,w3] h=.ok v h2→Ans v→(h2=h∨∃ o,h2=h++[o])→∃ v h1 h2 s',Fd [.ref ω.o,w1,w2,w3] h=.ok v h1∧Fo' [.ref κ.a,w1,w2,w3] h1=.ok v h2∧Ans v∧Tn nm h h2 ⟨κ,ω,r,ev,ts,ls⟩ s':=fun v h2 e1 e2 av q=>by
  refine ⟨v,h,h2,_,e1,e2,av,j.step w (Keep.rf _ _ _ _) ?_ ?_ hrw hnm⟩
  ·rcases q with rfl | ⟨o,rfl⟩
   ·exact p
   ·exact p.app [o]
  ·rcases q with rfl | ⟨o,rfl⟩
   ·exact KeepP.rf _ _ _
   ·exact KeepP.app _ _ _ _
 have pk:∀ {h1 r' ls'},Keep ω r ls r' ls' h h1→Pj h1 κ ev ts:=fun k=>p.fr fun n q=>k.2.1 n (p.lt q) (hap n q)
 rcases dr with ⟨i,y,rfl,hi,rfl,rfl,hy⟩ | ⟨k,z,v,rfl,hk,rfl,hz,rfl,v0,v1⟩
 ·have hz:=wn i hi
  by_cases a1:nm i∈ev.map Prod.fst
  ·obtain ⟨o,e⟩:=(o0 _ y hz).1 a1
   exact same _ _ ((d0 _ y hz).1 a1) e (.inr (.inr (.inl ⟨_,rfl⟩))) (.inr ⟨o,rfl⟩)
  ·by_cases a2:y=Str.ofString ""∨y∈ts.map Pt.nm
   ·by_cases a3:ts.length=12
    ·obtain ⟨o,e⟩:=(((o0 _ y hz).2 a1).2 a2).1 (by omega)
     exact same _ _ ((((d0 _ y hz).2 a1).2 a2).1 (by omega)) e (.inr (.inr (.inl ⟨_,rfl⟩))) (.inr ⟨o,rfl⟩)
    ·have hl:=p.hl
     have e14:=Wn.fst_le p.fo.nd hnm hi a1
     obtain ⟨h1,e1,W1,K1⟩:=(((d0 _ y hz).2 a1).2 a2).2 (by omega) e14
     have P1:=pk K1
     obtain ⟨h2,e2,f2,P2⟩:=((((ho h1 κ ev ts P1 evl).1 _ y hz).2 a1).2 a2).2 (by omega)
     refine ⟨_,h1,h2,_,e1,e2,.inl rfl,j.step (ts':=ts++[⟨nm i,h1.length,List.replicate 16 none⟩]) (by rw [List.map_append]; exact W1) K1 P2 ⟨f2.1,fun n hn hno=>f2.2 n hn (fun q=>hno (.inr (.inl q))) (fun q=>hno (.inr (.inr (.inl q)))),fun n q=>?_⟩ ?_ ?_⟩
     ·rcases q with q | q | q | ⟨u,hu,q⟩
      ·exact .inl (.inl q)
      ·exact .inl (.inr (.inl q))
      ·exact .inl (.inr (.inr (.inl q)))
      ·rcases List.mem_append.mp hu with hu | hu
       ·exact .inl (.inr (.inr (.inr ⟨u,hu,q⟩)))
       ·obtain rfl:=List.mem_singleton.mp hu
        exact .inr (by rw [q]; exact Nat.le_refl _)
     ·intro t ht
      rcases List.mem_append.mp ht with ht | ht
      ·have hx:t.nm∈ls.map Lt.nm:=by rw [w.ln]; exact p.sb t ht
       obtain ⟨l,hl',e⟩:=List.mem_map.mp hx
       have q1:=rowL_of W1.l.nn (List.mem_append_left _ hl')
       have q2:=rowL_of w.l.nn hl'
       rw [e] at q1 q2
       rw [q1,← q2]
       exact hrw t ht
      ·obtain rfl:=List.mem_singleton.mp ht
       exact rowL_of (l:=⟨nm i,h.length,rep0⟩) W1.l.nn (by simp)
     ·intro q hq
      rcases List.mem_append.mp hq with hq | hq
      ·exact hnm q hq
      ·obtain rfl:=List.mem_singleton.mp hq
       exact ⟨i,hi,rfl⟩
   ·rw [not_or] at a2
    obtain ⟨o,e⟩:=((o0 _ y hz).2 a1).1 a2.1 a2.2
    exact same _ _ (((d0 _ y hz).2 a1).1 a2.1 a2.2) e (.inr (.inr (.inl ⟨_,rfl⟩))) (.inr ⟨o,rfl⟩)
 ·by_cases k3:k=3
  ·subst k3
   obtain ⟨h1,ls',e1,W1,K1,r1,r2⟩:=d3 (.str z) v
   have P1:=pk K1
   obtain ⟨h2,e2,P2,l2,f2⟩:=(ho h1 κ ev ts P1 evl).2.1 (.str z) v
   have es:((ts.map Pt.nm).map fun x=>(cnt v (rowL ls x):Int)).sum=(ts.map fun t=>(cnt v t.row:Int)).sum:=by
    rw [List.map_map]
    congr 1
    apply List.map_congr_left
    intro t ht
    show (cnt v (rowL ls t.nm):Int)=_
    rw [hrw t ht]
   rw [es] at e1
   refine ⟨_,h1,h2,_,e1,e2,.inr (.inl ⟨_,rfl⟩),j.step (ts':=ts.map (wipeT v)) (by rw [wipe_nm]; exact W1) K1 P2 ⟨l2,fun n hn hno=>f2 n hn fun t ht q=>hno (.inr (.inr (.inr ⟨t,ht,q⟩))),fun n q=>.inl (on_wipe q)⟩ ?_ hnm⟩
   intro u hu
   obtain ⟨t,ht,rfl⟩:=List.mem_map.mp hu
   show rowL ls' t.nm=t.row.map (wipe v)
   rw [r1 _ (List.mem_map.mpr ⟨t,ht,rfl⟩),hrw t ht]
  ·have hk:k=1∨k=2∨k=4:=by omega
   by_cases a1:z∈ts.map Pt.nm
   ·obtain ⟨t,ht,rfl⟩:=List.mem_map.mp a1
    have hrt:=hrw t ht
    rcases hk with rfl | rfl | rfl
    ·obtain ⟨a,b,rfl⟩:=List.append_of_mem ht
     obtain ⟨c1,c2⟩:=d1 _ v a1
     obtain ⟨c3,c4⟩:=o1 a b t v rfl
     rw [hrt] at c1 c2
     cases hf:t.row.findIdx? Option.isNone with
     | none=>
      obtain ⟨o,e⟩:=c3 hf
      exact same _ _ (c1 hf) e (.inr (.inr (.inl ⟨_,rfl⟩))) (.inr ⟨o,rfl⟩)
     | some i=>
      obtain ⟨h1,ls',e1,W1,K1,r1⟩:=c2 i hf
      have P1:=pk K1
      obtain ⟨kvs,hkv,e2⟩:=((ho h1 κ ev _ P1 evl).2.2.2.1 a b t v rfl).2 i hf
      have P2:=P1.put hkv
      refine ⟨_,h1,_,_,e1,e2,.inr (.inl ⟨_,rfl⟩),j.step (ts':=a ++ { t with row:=t.row.set i (some v) }::b) (by rw [List.map_append,List.map_cons]; rw [List.map_append,List.map_cons] at W1; exact W1) K1 P2 ⟨by simp,fun n hn hno=>?_,fun n q=>.inl (on_mid q)⟩ (row_set p.nn hrw r1) hnm⟩
      rw [List.getElem?_set_ne fun q=>hno (.inr (.inr (.inr ⟨t,by simp,q.symm⟩)))]
    ·obtain ⟨c1,c2⟩:=d2 _ v a1 v0 v1
     obtain ⟨c3,c4⟩:=o2 t ht v
     rw [hrt] at c1 c2
     cases hf:slotV t.row v with
     | none=>
      obtain ⟨o,e⟩:=c3 hf
      exact same _ _ (c1 hf) e (.inr (.inr (.inl ⟨_,rfl⟩))) (.inr ⟨o,rfl⟩)
     | some x=>exact same _ _ (c2 x hf) (c4 x hf) (.inr (.inl ⟨_,rfl⟩)) (.inl rfl)
    ·obtain ⟨h1,r',e1,W1,K1⟩:=d4 _ (.int v) a1
     have P1:=pk K1
     obtain ⟨h2,e2,P2,f2⟩:=(ho h1 κ ev ts P1 evl).2.2.2.2.2 t ht (.int v)
     have ne:(lft ts (endd ev ts t.nm)).map Pt.nm=(ts.map Pt.nm).filter fun x=>!decide (x∈endd ev ts t.nm):=by unfold lft; rw [List.filter_map]; rfl
     refine ⟨_,h1,h2,_,e1,e2,.inr (.inr (.inr ⟨_,rfl⟩)),j.step (ts':=lft ts (endd ev ts t.nm)) (by rw [ne]; exact W1) K1 P2 ⟨f2.1,fun n hn hno=>f2.2 n hn (fun q=>hno (.inr (.inl q))) (fun q=>hno (.inr (.inr (.inl q)))),fun n q=>.inl (on_filt q)⟩ (fun u hu=>hrw u (List.mem_filter.mp hu).1) hnm⟩
   ·obtain ⟨o,e⟩:=on k z (.int v) hk (.inr ⟨z,rfl,a1⟩)
    exact same _ _ (dn k z (.int v) hk a1) e (.inr (.inr (.inl ⟨_,rfl⟩))) (.inr ⟨o,rfl⟩)
theorem none_less:∀ {r:List (Option Int)} {i:Nat} (v:Int),r.findIdx? Option.isNone=some i→((r.set i (some v)).filter Option.isNone).length+1=(r.filter Option.isNone).length
 | [],i,v,h=>by simp at h
 | none::r,i,v,h=>by
  rw [List.findIdx?_cons] at h
  have:i=0:=by simpa using h.symm
  subst this
  simp
 | some x::r,i,v,h=>by
  rw [List.findIdx?_cons] at h
  have h:(r.findIdx? Option.isNone).map (· + 1)=some i:=by simpa using h
  rw [Option.map_eq_some_iff] at h
  obtain ⟨k,hk,rfl⟩:=h
  have:=none_less v hk
  simpa using this
def S_filled (F:Fm):Prop:=∀ nm h s,Rl nm h s→∀ z∈s.ns,∃ h' s',F [.ref s.k.a,.ref s.o.o,.str z] h=.ok (.bl true) h'∧Tn nm h h' s s'∧s'.ns=s.ns
theorem ok_filled (T:Tx K mg C){Fd Fo':Fm}(hd:S_due Fd)(ho:S_done Fo')(G_l_due:FnAt P w K mg base CX0 17 "_law_due" (spH (T0 C) Fd))(G_l_done:FnAt P w K mg base CX0 18 "_law_done" (spH (T0 C) Fo'))(R:DefAt K mg "_law_filled" s_l_filled):∃ F,FnAt P w K mg base CX0 19 "_law_filled" (spH (T0 C) F)∧S_filled F:=by
 refine ⟨_,(def0s R sc_l_filled bd_l_filled (hB:=fun f cdv A outer s H E φ0 H0 hr=>(qb_cons (qs_while 17 PassesOwn.never (qt_cmp (op_inV hr) inM_ok q_non (q_dget hr (q_dget hr (q_var 1) q_str (fun _ _=>rfl)) (q_var 2) (fun _ _=>rfl)) (by rfl))
    (qb_one (qs_if (qt_cmp (op_neF hr) neO_ok (q_fn0 G_l_done hr (by decide) rfl (qa_cons (q_var 0) (qa_cons q_int (qa_cons (q_var 2) (qa_cons q_int qa_nil))))) (q_fn0 G_l_due hr (by decide) rfl (qa_cons (q_var 1) (qa_cons q_int (qa_cons (q_var 2) (qa_cons q_int qa_nil))))) (nomark _)) (qb_one (qs_ret q_bl)) qb_nil)))
   (qb_one (qs_ret q_bl))))),?_⟩
 intro nm h s j z hz
 generalize hc:xBin (inM false) _ _=c
 generalize hB:xIfS _ _ _=B
 obtain ⟨a0,ha0⟩:∃ a0,s.k.a=a0:=⟨_,rfl⟩
 obtain ⟨o0,ho0⟩:∃ o0,s.o.o=o0:=⟨_,rfl⟩
 have lp:∀ (fuel:Nat) (h:Mem) (s:Sd),Rl nm h s→s.k.a=a0→s.o.o=o0→z∈s.ns→((rowL s.ls z).filter Option.isNone).length<fuel→∃ h' s',xWhile c B fuel [some (.ref a0),some (.ref o0),some (.str z)] h=.nx [some (.ref a0),some (.ref o0),some (.str z)] h'∧Tn nm h h' s s'∧s'.ns=s.ns:=by
  intro fuel
  induction fuel with
  | zero=>intro h s j _ _ _ q; omega
  | succ fuel ih=>
   intro h s j ha0 ho0 hz hlt
   obtain ⟨κ,ω,r,ev,ts,ls⟩:=s
   have p:=j.r.p
   have w:=j.r.w
   have hrw:=j.r.rw
   have hap:=j.ap
   have hnm:=j.nm
   dsimp only [Sd.ns] at p w hrw hap hnm hz hlt ha0 ho0 ⊢
   obtain ⟨t,ht,rfl⟩:=List.mem_map.mp hz
   have hrt:=hrw t ht
   rw [hrt] at hlt
   have evl:ev.length<15:=by have:=w.el; omega
   have hxl:t.nm∈ls.map Lt.nm:=by rw [w.ln]; exact p.sb t ht
   obtain ⟨l,hl,ln⟩:=List.mem_map.mp hxl
   have lrow:l.row=t.row:=by rw [← rowL_of w.l.nn hl,ln]; exact hrt
   obtain ⟨r1,r2⟩:=w.l.rr l hl
   have gf:=w.l.getF hl
   rw [ln] at gf
   have d3:dgetM h (.ref o0) (.str (Str.ofString "rows"))=some (.ref ω.g):=by rw [← ho0]; simp only [dgetM,dicts,w.o,keyW]; exact gg
   have n2:dgetM h (.ref ω.g) (.str t.nm)=some (.ref l.r):=by simp only [dgetM,dicts,w.l.g,keyW]; exact gf
   have n3:inM false h .non (.ref l.r)=some (.bl (l.row.any Option.isNone)):=by
    simp only [inM,dicts,seqs,items,r1,Option.bind_some]
    rw [if_pos (by rw [ow_flat]; rfl),ow_any,Bool.false_xor]
   rw [any_idx,lrow] at n3
   have ec:c [some (.ref a0),some (.ref o0),some (.str t.nm)] h=.ok (.bl (t.row.findIdx? Option.isNone).isSome) h:=by
    rw [← hc]
    simp_all_arith [d3,n2,n3]
   unfold xWhile
   rw [ec]
   cases hf:t.row.findIdx? Option.isNone with
   | none=>exact ⟨h,_,rfl,Tn.rf j,rfl⟩
   | some i=>
    obtain ⟨a,b,rfl⟩:=List.append_of_mem ht
    obtain ⟨kvs,hkv,e1⟩:=((ho h κ ev _ p evl).2.2.2.1 a b t 3 rfl).2 i hf
    have P1:=p.put hkv
    have hno:∀ n,Wj.on ω r ls n→t.d≠n:=fun n q z=>hap n (.inr (.inr (.inr ⟨t,ht,z.symm⟩))) q
    have W0:Wj (h.set t.d (.dic kvs)) ω r ev ((a++t::b).map Pt.nm) ls:=w.fr fun n q=>by rw [List.getElem?_set_ne (hno n q)]
    obtain ⟨h2,ls',e2,W2,K2,r3⟩:=((hd _ ω r ev _ ls W0).2.2.2.1 t.nm 3 hz).2 i (by rw [hrt]; exact hf)
    rw [hrt] at r3
    have tn:=j.step' (ts':=a ++ { t with row:=t.row.set i (some 3) }::b) P1 ⟨by simp,fun n hn hno=>by rw [List.getElem?_set_ne fun q=>hno (.inr (.inr (.inr ⟨t,ht,q.symm⟩)))],fun n q=>.inl (on_mid q)⟩ (by rw [List.map_append,List.map_cons]; rw [List.map_append,List.map_cons] at W2; exact W2) K2 (row_set p.nn hrw r3) hnm
    have nse:(a ++ { t with row:=t.row.set i (some 3) }::b).map Pt.nm=(a++t::b).map Pt.nm:=by rw [List.map_append,List.map_append,List.map_cons,List.map_cons]
    obtain ⟨h',s',i1,i2,i3⟩:=ih h2 _ tn.r ha0 ho0 (by show t.nm∈(a ++ { t with row:=t.row.set i (some 3) }::b).map Pt.nm; rw [nse]; exact hz) (by
     show ((rowL ls' t.nm).filter Option.isNone).length<fuel
     rw [r3,if_pos rfl]
     have:=none_less 3 hf
     omega)
    refine ⟨h',s',?_,tn.trans i2,i3.trans nse⟩
    have eb:B [some (.ref a0),some (.ref o0),some (.str t.nm)] h=.nx [some (.ref a0),some (.ref o0),some (.str t.nm)] h2:=by
     have es:eqM h2 4 (.int (i:Nat)) (.int (i:Nat))=some true:=eqM_flat rfl (eqFl_self rfl)
     rw [ha0] at e1
     rw [ho0] at e2
     rw [← hB]
     simp_all! [e1,e2,es]
    show (match B [some (.ref a0),some (.ref o0),some (.str t.nm)] h with
     | .nx ρ' h'=>xWhile c B fuel ρ' h'
     | .ct ρ' h'=>xWhile c B fuel ρ' h'
     | .bk ρ' h'=>.nx ρ' h'
     | o=>o)=_
    rw [eb]
    exact i1
 have rl:((rowL s.ls z).filter Option.isNone).length<17:=by
  obtain ⟨t,ht,rfl⟩:=List.mem_map.mp hz
  have hxl:t.nm∈s.ls.map Lt.nm:=by rw [j.r.w.ln]; exact j.r.p.sb t ht
  obtain ⟨l,hl,ln⟩:=List.mem_map.mp hxl
  rw [← ln,rowL_of j.r.w.l.nn hl]
  have:=List.length_filter_le Option.isNone l.row
  have:=(j.r.w.l.rr l hl).2
  omega
 obtain ⟨h',s',i1,i2,i3⟩:=lp 17 h s j ha0 ho0 hz rl
 refine ⟨h',s',selfF_ok rfl ?_ i2.len,i2,i3⟩
 rw [ha0,ho0]
 refine congrArg Out.res (?_:_=Out.rt (.bl true) h')
 refine (xSeq_nx i1).trans ?_
 simp! [xNo]
structure J2 (nm:Nat→Str)(h:Mem)(a b:Sd):Prop where
 ra:Rl nm h a
 rb:Rl nm h b
 ap:∀ n,a.on n→¬b.on n
 ka:a.k.a=0
 kb:b.k.a=3
 oa:a.o.o=6
 ob:b.o.o=10
theorem J2.ext {nm:Nat→Str}{h h':Mem}{a b:Sd}(j:J2 nm h a b)(e:∀ n,n<h.length→h'[n]? = h[n]?):J2 nm h' a b:=⟨j.ra.fr fun n q=>e n (j.ra.lt q),j.rb.fr fun n q=>e n (j.rb.lt q),j.ap,j.ka,j.kb,j.oa,j.ob⟩
theorem J2.tA {nm:Nat→Str}{h h':Mem}{a b a':Sd}(j:J2 nm h a b)(t:Tn nm h h' a a'):J2 nm h' a' b:=by
 refine ⟨t.r,j.rb.fr fun n q=>t.st n (j.rb.lt q) fun z=>j.ap n z q,fun n q z=>?_,by rw [t.k]; exact j.ka,j.kb,by rw [t.o]; exact j.oa,j.ob⟩
 rcases t.nw n q with q | q
 ·exact j.ap n q z
 ·have:=j.rb.lt z; omega
theorem J2.tB {nm:Nat→Str}{h h':Mem}{a b b':Sd}(j:J2 nm h a b)(t:Tn nm h h' b b'):J2 nm h' a b':=by
 refine ⟨j.ra.fr fun n q=>t.st n (j.ra.lt q) fun z=>j.ap n q z,t.r,fun n z q=>?_,j.ka,by rw [t.k]; exact j.kb,j.oa,by rw [t.o]; exact j.ob⟩
 rcases t.nw n q with q | q
 ·exact j.ap n z q
 ·have:=j.ra.lt z; omega
theorem J2.pick {nm:Nat→Str}{h:Mem}{a b:Sd}(j:J2 nm h a b){x:Int}(hx:x=0∨x=1):∃ s ka oa,Rl nm h s∧s.k.a=ka∧s.o.o=oa∧atI [W.ref 0,.ref 3] x=some (.ref ka)∧atI [W.ref 6,.ref 10] x=some (.ref oa)∧∀ h' s',Tn nm h h' s s'→∃ a' b',J2 nm h' a' b':=by
 rcases hx with rfl | rfl
 ·exact ⟨a,0,6,j.ra,j.ka,j.oa,atI_0,atI_0,fun h' s' t=>⟨_,_,j.tA t⟩⟩
 ·exact ⟨b,3,10,j.rb,j.kb,j.ob,atI_1,atI_1,fun h' s' t=>⟨_,_,j.tB t⟩⟩
def sA:Sd:=⟨⟨0,1,2⟩,⟨6,7,9⟩,8,[],[],[]⟩
def sB:Sd:=⟨⟨3,4,5⟩,⟨10,11,13⟩,12,[],[],[]⟩
def hI:Mem:=[tkO 1 2,.dic [],.dic [],tkO 4 5,.dic [],.dic [],.dic (ownD ⟨6,7,9⟩ 8),.dic [],.lst [],.dic [],.dic (ownD ⟨10,11,13⟩ 12),.dic [],.lst [],.dic []]
theorem j2_0 (nm:Nat→Str):J2 nm hI sA sB:=by
 refine ⟨⟨⟨⟨rfl,rfl,rfl,fun t ht=>by simp [sA] at ht,by decide,by simp [sA],by simp [sA],by simp [sA],fun t ht=>by simp [sA] at ht,Fo.nil⟩,⟨rfl,rfl,rfl,⟨rfl,fun l hl=>by simp [sA] at hl,by simp [sA],by simp [sA]⟩,by decide,by decide,by decide,fun l hl=>by simp [sA] at hl,rfl,Fo.nil,rfl,by simp [sA],by simp [sA],by simp [sA]⟩,fun t ht=>by simp [sA] at ht⟩,fun n p q=>?_,fun p hp=>by simp [sA] at hp⟩,
  ⟨⟨⟨rfl,rfl,rfl,fun t ht=>by simp [sB] at ht,by decide,by simp [sB],by simp [sB],by simp [sB],fun t ht=>by simp [sB] at ht,Fo.nil⟩,⟨rfl,rfl,rfl,⟨rfl,fun l hl=>by simp [sB] at hl,by simp [sB],by simp [sB]⟩,by decide,by decide,by decide,fun l hl=>by simp [sB] at hl,rfl,Fo.nil,rfl,by simp [sB],by simp [sB],by simp [sB]⟩,fun t ht=>by simp [sB] at ht⟩,fun n p q=>?_,fun p hp=>by simp [sB] at hp⟩,fun n p q=>?_,rfl,rfl,rfl,rfl⟩
 ·simp [Pj.on,Wj.on,sA] at p q; omega
 ·simp [Pj.on,Wj.on,sB] at p q; omega
 ·simp [Sd.on,Pj.on,Wj.on,sA,sB] at p q; omega
theorem Ans.eq {v:W}(a:Ans v)(h:Mem):eqM h 4 v v=some true∧isiX kitL h [v,.ty "bool"]=some (.bl false):=by
 rcases a with rfl | ⟨i,rfl⟩ | ⟨z,rfl⟩ | ⟨l,rfl⟩
 ·exact ⟨eqM_flat rfl (eqFl_self rfl),by simp_arith [kg_0,kg_1,kg_2,kg_3,kg_4,kg_5,kg_6,kg_7,kg_8,kg_9,kg_10,kg_11,kg_12,kg_13,kg_14,kg_15]⟩
 ·exact ⟨eqM_flat rfl (eqFl_self rfl),by simp_arith [kg_0,kg_1,kg_2,kg_3,kg_4,kg_5,kg_6,kg_7,kg_8,kg_9,kg_10,kg_11,kg_12,kg_13,kg_14,kg_15]⟩
 ·exact ⟨eqM_flat rfl (eqFl_self rfl),by simp_arith [kg_0,kg_1,kg_2,kg_3,kg_4,kg_5,kg_6,kg_7,kg_8,kg_9,kg_10,kg_11,kg_12,kg_13,kg_14,kg_15]⟩
 ·refine ⟨eqM_items (ws:=l.map W.str) allF rfl rfl,?_⟩
  generalize l.map W.str=L
  simp_arith [kg_0,kg_1,kg_2,kg_3,kg_4,kg_5,kg_6,kg_7,kg_8,kg_9,kg_10,kg_11,kg_12,kg_13,kg_14,kg_15]
theorem ok_law {f:Addr}{fd:FuncData}(T:Tx K mg C)(R:Fun K "law" "law" s_law f fd){Fi Fn Fde Ffi Fdu Fdo Fsa:Fm}(hi:S_init Fi)(hn:S_nm Fn)(hde:S_deed Fn Fde)(hfi:S_filled Ffi)(hdu:S_due Fdu)(hdo:S_done Fdo)(hsa:S_same Fsa)(K_Tasks:MkAt P w K mg base (T0 C) 1 "Tasks" Fi)
  (G_l_mix:FnAt P w K mg base CX0 1 "_law_mix" (spH (T0 C) F_mix)) (G_l_deed:FnAt P w K mg base CX0 3 "_law_deed" (spH (T0 C) Fde)) (G_l_filled:FnAt P w K mg base CX0 19 "_law_filled" (spH (T0 C) Ffi)) (G_l_due:FnAt P w K mg base CX0 17 "_law_due" (spH (T0 C) Fdu)) (G_l_done:FnAt P w K mg base CX0 18 "_law_done" (spH (T0 C) Fdo)) (G_l_same:FnAt P w K mg base CX0 18 "_law_same" (spH (T0 C) Fsa)):FnOk P w K mg base CX0 20 f fd ["_law_script"] (spH (T0 C) lawF):=by
 refine fun0q R sc_law (hB:=fun cdv A outer s H E φ0 H0 hr=>(qb_cons (qs_set (i:=1) sc_law.nd rfl (Or.inl rfl) (fun _ _ _=>trivial) (q_lst (qa_cons (q_make0 K_Tasks hr (by decide) rfl) (qa_cons (q_make0 K_Tasks hr (by decide) rfl) qa_nil))))
   (qb_cons (qs_set (i:=2) sc_law.nd rfl (Or.inl rfl) (fun _ _ _=>trivial) (q_lst (qa_cons (q_disp (qp_cons q_str q_dnew (qp_cons q_str (q_lstN qa_nil) (qp_cons q_str q_dnew qp_nil)))) (qa_cons (q_disp (qp_cons q_str q_dnew (qp_cons q_str (q_lstN qa_nil) (qp_cons q_str q_dnew qp_nil)))) qa_nil))))
   (qb_cons (qs_for (tg_name (fun _ _ _=>trivial)) PassesOwn.never rfl (qi_range1 rfl T.b_range (q_bin op_addV addM_ok q_int (q_bin op_mod modM_ok (q_fn0 G_l_mix hr (by decide) rfl (qa_cons (q_var 0) (qa_cons q_int qa_nil))) q_int))) (qg_name (i:=3) sc_law.nd rfl (Or.inl rfl))
    (qb_cons (qs_set (i:=4) sc_law.nd rfl (Or.inl rfl) (fun _ _ _=>trivial) (q_bin op_mod modM_ok (q_fn0 G_l_mix hr (by decide) rfl (qa_cons (q_var 0) (qa_cons (q_bin op_addV addM_ok q_int (q_var 3)) qa_nil))) q_int))
    (qb_cons (qs_set (i:=5) sc_law.nd rfl (Or.inl rfl) (fun _ _ _=>trivial) (q_ix ix_any ixM_ok (q_var 2) (q_var 4) (fun _ _=>rfl)))
    (qb_cons (qs_asg (tg_tup3 (fun _ _ _=>trivial) (fun _ _ _=>trivial) (fun _ _ _=>trivial)) (q_fn0 G_l_deed hr (by decide) rfl (qa_cons (q_var 0) (qa_cons (q_var 3) (qa_cons (q_var 5) qa_nil)))) (qg_tupV (n:=3) rfl (qgs_cons (qg_name (i:=6) sc_law.nd rfl (Or.inl rfl)) (qgs_cons (qg_name (i:=7) sc_law.nd rfl (Or.inl rfl)) (qgs_cons (qg_name (i:=8) sc_law.nd rfl (Or.inl rfl)) qgs_nil)))))
    (qb_cons (qs_if (qt_w (qw_and (qt_cmp (op_eqF hr) eqO_ok (q_var 6) q_int (nomark _)) (qw_and (qt_cmp (op_inV hr) inM_ok (q_var 7) (q_dget hr (q_var 5) q_str (fun _ _=>rfl)) (by rfl)) (qw_and1 (qt_cmp (op_eqF hr) eqO_ok (q_bin op_mod modM_ok (q_bin op_fdiv divM_ok (q_fn0 G_l_mix hr (by decide) rfl (qa_cons (q_var 0) (qa_cons (q_bin op_addV addM_ok q_int (q_var 3)) qa_nil))) q_int) q_int) q_int (nomark _)))))) (qb_one (qs_if (qt_not (qt_val (q_fn0 G_l_filled hr (by decide) rfl (qa_cons (q_ix ix_any ixM_ok (q_var 1) (q_var 4) (fun _ _=>rfl)) (qa_cons (q_var 5) (qa_cons (q_var 7) qa_nil)))))) (qb_one (qs_ret q_bl)) qb_nil)) qb_nil)
    (qb_cons (qs_set (i:=9) sc_law.nd rfl (Or.inl rfl) (fun _ _ _=>trivial) (q_fn0 G_l_due hr (by decide) rfl (qa_cons (q_var 5) (qa_cons (q_var 6) (qa_cons (q_var 7) (qa_cons (q_var 8) qa_nil))))))
    (qb_cons (qs_set (i:=10) sc_law.nd rfl (Or.inl rfl) (fun _ _ _=>trivial) (q_fn0 G_l_done hr (by decide) rfl (qa_cons (q_ix ix_any ixM_ok (q_var 1) (q_var 4) (fun _ _=>rfl)) (qa_cons (q_var 6) (qa_cons (q_var 7) (qa_cons (q_var 8) qa_nil))))))
    (qb_cons (qs_if (qt_w (qw_or (qt_cmp (op_neF hr) neO_ok (q_var 10) (q_var 9) (nomark _)) (qw_or1 (qt_val (q_cb (isiX_ok T.ins T.exo T.kit) (call_isiX K rfl) rfl T.b_isinstance (by first | exact boot_b_isinstance | rfl) (qa_cons (q_var 10) (qa_cons (q_ty "bool" rfl T.b_bool (by first | exact boot_ty_bool | rfl)) qa_nil))))))) (qb_one (qs_ret q_bl)) qb_nil)
    (qb_cons (qs_set (i:=11) sc_law.nd rfl (Or.inl rfl) (fun _ _ _=>trivial) (q_fn0 G_l_mix hr (by decide) rfl (qa_cons (q_var 0) (qa_cons (q_bin op_addV addM_ok q_int (q_var 3)) qa_nil))))
    (qb_one (qs_for (tg_name (fun _ _ _=>trivial)) PassesOwn.never rfl (qi_tup (q_ix ix_any ixM_ok (q_lst (qa_cons (q_tup (qa_cons q_int (qa_cons q_int qa_nil))) (qa_cons (q_tup (qa_cons q_int (qa_cons q_int qa_nil))) qa_nil))) (q_bin op_mod modM_ok (q_var 11) q_int) (fun _ _=>rfl))) (qg_name (i:=12) sc_law.nd rfl (Or.inl rfl))
     (qb_one (qs_if (qt_not (qt_val (q_fn0 G_l_same hr (by decide) rfl (qa_cons (q_ix ix_any ixM_ok (q_var 1) (q_var 12) (fun _ _=>rfl)) (qa_cons (q_ix ix_any ixM_ok (q_var 2) (q_var 12) (fun _ _=>rfl)) (qa_cons (q_bin op_fdiv divM_ok (q_var 11) q_int) qa_nil)))))) (qb_one (qs_ret q_bl)) qb_nil)))))))))))))
   (qb_one (qs_ret q_bl)))))) ?_ ?_
 ·exact lawF_ex
 ·refine lawF_told fun ns hl=>?_
  obtain ⟨nm,hnm,_⟩:=hn ns hl
  generalize hB2:xIfS (xNot (xCall0 Fsa _)) _ _=B2
  generalize hI4:xIfS (xAnd (xBin eqO (xVar 6) _) _) _ _=I4
  generalize hB:xSeq (xAsg (gN 4) _) _=B
  have mx:∀ k:Int,0≤k→k≤1000→∀ h,F_mix [.tl (ns.map W.int),.int k] h=.ok (.int (mixV ns k)) h:=fun k a b h=>mix_is ns k h a b hl
  have m10:=mx 10 (by decide) (by decide)
  generalize mixV ns 10=q10 at m10
  obtain ⟨N1,hN1,hN12⟩:∃ N1:Nat,2+q10 % 49=(N1:Int)∧N1≤50:=⟨(2+q10 % 49).toNat,by omega,by omega⟩
  have wNm:∀ k,k<14→nameS (nm k)=true:=fun k hk=>(hnm [] k (by omega)).2
  have lp:∃ ρ' h',xLoop (gN 3) B (rngW 0 N1) [some (.tl (ns.map W.int)),some (.tl [.ref 0,.ref 3]),some (.tl [.ref 6,.ref 10]),none,none,none,none,none,none,none,none,none,none] hI=.nx ρ' h'∧(∃ v3 v4 v5 v6 v7 v8 v9 v10 v11 v12 a b,ρ'=[some (.tl (ns.map W.int)),some (.tl [.ref 0,.ref 3]),some (.tl [.ref 6,.ref 10]),v3,v4,v5,v6,v7,v8,v9,v10,v11,v12]∧J2 nm h' a b):=by
   refine xLoop_ix (fun i ρ' h'=>∃ v3 v4 v5 v6 v7 v8 v9 v10 v11 v12 a b,ρ'=[some (.tl (ns.map W.int)),some (.tl [.ref 0,.ref 3]),some (.tl [.ref 6,.ref 10]),v3,v4,v5,v6,v7,v8,v9,v10,v11,v12]∧J2 nm h' a b) (rngW 0 N1) 0 _ hI ⟨_,_,_,_,_,_,_,_,_,_,_,_,rfl,j2_0 nm⟩ ?_
   rintro i u hu ρ h ⟨v3,v4,v5,v6,v7,v8,v9,v10,v11,v12,a,b,rfl,j⟩
   obtain ⟨hiN,rfl⟩:=rngW_get hu
   rw [Int.zero_add]
   refine ⟨_,rfl,?_⟩
   have e1:=mx (130+(i:Int)) (by omega) (by omega)
   have e2:=mx (190+(i:Int)) (by omega) (by omega)
   generalize mixV ns (130+(i:Int))=q1 at e1
   generalize mixV ns (190+(i:Int))=q2 at e2
   have c1:(-18446744073709551616:Int)<(i:Int):=by omega
   have c2:(i:Int)<(18446744073709551616:Int):=by omega
   obtain ⟨x,hx⟩:∃ x,q1 % 2=x:=⟨_,rfl⟩
   have hx2:x=0∨x=1:=by omega
   obtain ⟨s,ka,oa,J,ek,eo,ak,ao,back⟩:=j.pick hx2
   obtain ⟨w1,w2,w3,ed,dr⟩:=hde ns nm hl (fun h k hk=>(hnm h k hk).1) h s.o s.r s.ev (s.ts.map Pt.nm) s.ls (i:Int) J.r.w (by omega) (by omega)
   rw [eo] at ed
   obtain ⟨h1,s1,t1,n1,st4⟩:∃ h1 s1,Tn nm h h1 s s1∧s1.ns=s.ns∧∀ v9 v10 v11 v12,I4 [some (.tl (ns.map W.int)),some (.tl [.ref 0,.ref 3]),some (.tl [.ref 6,.ref 10]),some (.int (i:Int)),some (.int x),some (.ref oa),some w1,some w2,some w3,v9,v10,v11,v12] h=.nx [some (.tl (ns.map W.int)),some (.tl [.ref 0,.ref 3]),some (.tl [.ref 6,.ref 10]),some (.int (i:Int)),some (.int x),some (.ref oa),some w1,some w2,some w3,v9,v10,v11,v12] h1:=by
    have d2:dgetM h (.ref oa) (.str (Str.ofString "runs"))=some (.ref s.r):=by rw [← eo]; simp only [dgetM,dicts,J.r.w.o,keyW]; exact gr
    rcases dr with ⟨k,y,rfl,hk,rfl,rfl,hy⟩ | ⟨k,z,v,rfl,hk,rfl,hz,rfl,v0,v1⟩
    ·refine ⟨h,s,Tn.rf J,rfl,fun v9 v10 v11 v12=>?_⟩
     rw [← hI4]
     simp! [xNo]
    ·by_cases k1:k=1
     ·subst k1
      have iR:=inM_list (z:=z) false J.r.w.rr
      rw [Bool.false_xor] at iR
      by_cases a1:z∈s.ts.map Pt.nm
      ·rw [decide_eq_true a1] at iR
       by_cases a2:q1 / 2 % 5=0
       ·obtain ⟨h1,s1,f1,f2,f3⟩:=hfi nm h s J z a1
        rw [ek,eo] at f1
        refine ⟨h1,s1,f2,f3,fun v9 v10 v11 v12=>?_⟩
        rw [← hI4]
        simp_all_arith [d2,iR,e1,c1,c2,a2,f1,ak]
       ·refine ⟨h,s,Tn.rf J,rfl,fun v9 v10 v11 v12=>?_⟩
        rw [← hI4]
        simp_all_arith [d2,iR,e1,c1,c2,a2]
      ·rw [decide_eq_false a1] at iR
       refine ⟨h,s,Tn.rf J,rfl,fun v9 v10 v11 v12=>?_⟩
       rw [← hI4]
       simp_all_arith [d2,iR]
     ·refine ⟨h,s,Tn.rf J,rfl,fun v9 v10 v11 v12=>?_⟩
      rw [← hI4]
      simp! [k1]
   have dr1:Drawn nm s1.ns w1 w2 w3:=by rw [n1]; exact dr
   obtain ⟨v,h2,h3,s3,u1,u2,av,t3⟩:=turn hdu hdo wNm t1.r dr1
   rw [t1.o,eo] at u1
   rw [t1.k,ek] at u2
   obtain ⟨a3,b3,j3⟩:=back h3 s3 (t1.trans t3)
   obtain ⟨es,ei⟩:=av.eq h3
   have lp2:∀ (l:List W),(∀ y∈l,y=.int 0∨y=.int 1)→∃ ρ' h',xLoop (gN 12) B2 l [some (.tl (ns.map W.int)),some (.tl [.ref 0,.ref 3]),some (.tl [.ref 6,.ref 10]),some (.int (i:Int)),some (.int x),some (.ref oa),some w1,some w2,some w3,some v,some v,some (.int q2),v12] h3=.nx ρ' h'∧((∃ v12,ρ'=[some (.tl (ns.map W.int)),some (.tl [.ref 0,.ref 3]),some (.tl [.ref 6,.ref 10]),some (.int (i:Int)),some (.int x),some (.ref oa),some w1,some w2,some w3,some v,some v,some (.int q2),v12])∧J2 nm h' a3 b3):=by
    intro l hl
    refine xLoop_nx (fun ρ' h'=>(∃ v12,ρ'=[some (.tl (ns.map W.int)),some (.tl [.ref 0,.ref 3]),some (.tl [.ref 6,.ref 10]),some (.int (i:Int)),some (.int x),some (.ref oa),some w1,some w2,some w3,some v,some v,some (.int q2),v12])∧J2 nm h' a3 b3) l _ h3 ⟨⟨_,rfl⟩,j3⟩ ?_
    rintro y hy ρ hh ⟨⟨v12,rfl⟩,jj⟩
    refine ⟨_,rfl,?_⟩
    rcases hl y hy with rfl | rfl
    ·obtain ⟨h',f1,f2,f3⟩:=hsa hh a3.k a3.o a3.r a3.ev a3.ts a3.ls (q2 / 2) jj.ra.r
     rw [jj.ka,jj.oa] at f1
     refine ⟨[some (.tl (ns.map W.int)),some (.tl [.ref 0,.ref 3]),some (.tl [.ref 6,.ref 10]),some (.int (i:Int)),some (.int x),some (.ref oa),some w1,some w2,some w3,some v,some v,some (.int q2),some (.int 0)],h',.inl ?_,⟨_,rfl⟩,jj.ext f3⟩
     rw [← hB2]
     simp! [f1,atI_0]
    ·obtain ⟨h',f1,f2,f3⟩:=hsa hh b3.k b3.o b3.r b3.ev b3.ts b3.ls (q2 / 2) jj.rb.r
     rw [jj.kb,jj.ob] at f1
     refine ⟨[some (.tl (ns.map W.int)),some (.tl [.ref 0,.ref 3]),some (.tl [.ref 6,.ref 10]),some (.int (i:Int)),some (.int x),some (.ref oa),some w1,some w2,some w3,some v,some v,some (.int q2),some (.int 1)],h',.inl ?_,⟨_,rfl⟩,jj.ext f3⟩
     rw [← hB2]
     simp! [f1,atI_1]
   obtain ⟨L,hL,eL⟩:∃ L:List W,(∀ y∈L,y=.int 0∨y=.int 1)∧atI [W.tup [.int 0,.int 1],.tup [.int 1,.int 0]] (q2 % 2)=some (.tup L):=by
    have:q2 % 2=0∨q2 % 2=1:=by omega
    rcases this with q | q
    ·exact ⟨[.int 0,.int 1],by simp,by rw [q]; exact atI_0⟩
    ·exact ⟨[.int 1,.int 0],by simp,by rw [q]; exact atI_1⟩
   obtain ⟨ρ',h4,lp3,⟨v12',rfl⟩,j4⟩:=lp2 L hL
   refine ⟨[some (.tl (ns.map W.int)),some (.tl [.ref 0,.ref 3]),some (.tl [.ref 6,.ref 10]),some (.int (i:Int)),some (.int x),some (.ref oa),some w1,some w2,some w3,some v,some v,some (.int q2),v12'],h4,.inl ?_,_,_,_,_,_,_,_,_,_,_,a3,b3,rfl,j4⟩
   rw [← hB]
   refine (xSeq_nx (ρ':=[some (.tl (ns.map W.int)),some (.tl [.ref 0,.ref 3]),some (.tl [.ref 6,.ref 10]),some (.int (i:Int)),some (.int x),v5,v6,v7,v8,v9,v10,v11,v12]) (h':=h) (by simp! [e1,c1,c2,hx])).trans ?_
   refine (xSeq_nx (ρ':=[some (.tl (ns.map W.int)),some (.tl [.ref 0,.ref 3]),some (.tl [.ref 6,.ref 10]),some (.int (i:Int)),some (.int x),some (.ref oa),v6,v7,v8,v9,v10,v11,v12]) (h':=h) (by simp! [ao])).trans ?_
   refine (xSeq_nx (ρ':=[some (.tl (ns.map W.int)),some (.tl [.ref 0,.ref 3]),some (.tl [.ref 6,.ref 10]),some (.int (i:Int)),some (.int x),some (.ref oa),some w1,some w2,some w3,v9,v10,v11,v12]) (h':=h) (by simp! [ed,gT3])).trans ?_
   refine (xSeq_nx (st4 _ _ _ _)).trans ?_
   refine (xSeq_nx (ρ':=[some (.tl (ns.map W.int)),some (.tl [.ref 0,.ref 3]),some (.tl [.ref 6,.ref 10]),some (.int (i:Int)),some (.int x),some (.ref oa),some w1,some w2,some w3,some v,v10,v11,v12]) (h':=h2) (by simp! [u1])).trans ?_
   refine (xSeq_nx (ρ':=[some (.tl (ns.map W.int)),some (.tl [.ref 0,.ref 3]),some (.tl [.ref 6,.ref 10]),some (.int (i:Int)),some (.int x),some (.ref oa),some w1,some w2,some w3,some v,some v,v11,v12]) (h':=h3) (by simp! [ak,u2])).trans ?_
   refine (xSeq_nx (ρ':=[some (.tl (ns.map W.int)),some (.tl [.ref 0,.ref 3]),some (.tl [.ref 6,.ref 10]),some (.int (i:Int)),some (.int x),some (.ref oa),some w1,some w2,some w3,some v,some v,v11,v12]) (h':=h3) (by generalize isiX kitL=IX at ei ⊢; simp_all! [es,ei])).trans ?_
   refine (xSeq_nx (ρ':=[some (.tl (ns.map W.int)),some (.tl [.ref 0,.ref 3]),some (.tl [.ref 6,.ref 10]),some (.int (i:Int)),some (.int x),some (.ref oa),some w1,some w2,some w3,some v,some v,some (.int q2),v12]) (h':=h3) (by simp! [e2,c1,c2])).trans ?_
   exact (xFor_loop (ws:=L) (h':=h3) (by simp! [eL])).trans lp3
  obtain ⟨ρ1,h1,lp,v3,v4,v5,v6,v7,v8,v9,v10,v11,v12,a,b,rfl,j⟩:=lp
  refine ⟨h1,congrArg Out.res (?_:_=Out.rt (.bl true) h1)⟩
  obtain ⟨i1,i2⟩:=hi
  refine (xSeq_nx (ρ':=[some (.tl (ns.map W.int)),some (.tl [.ref 0,.ref 3]),none,none,none,none,none,none,none,none,none,none,none]) (h':=[tkO 1 2,.dic [],.dic [],tkO 4 5,.dic [],.dic []]) (by simp! [xMake,show Fi [.ref 0] [.ins (Str.ofString "Tasks") []]=.ok .non [tkO 1 2,.dic [],.dic []] from i1,show Fi [.ref 3] [tkO 1 2,.dic [],.dic [],.ins (Str.ofString "Tasks") []]=.ok .non [tkO 1 2,.dic [],.dic [],tkO 4 5,.dic [],.dic []] from i2])).trans ?_
  refine (xSeq_nx (ρ':=[some (.tl (ns.map W.int)),some (.tl [.ref 0,.ref 3]),some (.tl [.ref 6,.ref 10]),none,none,none,none,none,none,none,none,none,none]) (h':=hI) ?_).trans ?_
  ·have kw:∀ a b c:Nat,keysW [(W.str (Str.ofString "makers"),W.ref a),(W.str (Str.ofString "runs"),W.ref b),(W.str (Str.ofString "rows"),W.ref c)]=some [(.inr (Str.ofString "makers"),.ref a),(.inr (Str.ofString "runs"),.ref b),(.inr (Str.ofString "rows"),.ref c)]:=fun _ _ _=>rfl
   have nk:ndK [(.inr (Str.ofString "makers"):Key),.inr (Str.ofString "runs"),.inr (Str.ofString "rows")]=true:=by decide +kernel
   simp! [xDisp,xPairs,xDNew,hI,ownD,kw,nk]
  have b1:(-4611686018427387904:Int)≤(N1:Int):=by omega
  have b2:(N1:Int)<4611686018427387904:=by omega
  refine (xSeq_nx ((xFor_loop (ws:=rngW 0 N1) (h':=hI) (by simp! [m10,hN1,b1,b2])).trans lp)).trans ?_
  simp! [xNo]
theorem lk_mem {c:Str}{A:Addr}:∀ {ks:List Str} {l:List Addr},(ks.zip l).lookup c=some A→A∈l
 | [],_,e=>by simp at e
 | k::ks,[],e=>by simp at e
 | k::ks,a::l,e=>by
  rw [List.zip_cons_cons] at e
  unfold List.lookup at e
  split at e
  ·cases e; exact List.mem_cons_self
  ·exact List.mem_cons_of_mem _ (lk_mem e)
theorem lk_key {c:Str}{A:Addr}:∀ {ks:List Str} {l:List Addr},(ks.zip l).lookup c=some A→c∈ks
 | [],_,e=>by simp at e
 | k::ks,[],e=>by simp at e
 | k::ks,a::l,e=>by
  rw [List.zip_cons_cons] at e
  unfold List.lookup at e
  split at e
  ·rename_i hc; rw [eq_of_beq hc]; exact List.mem_cons_self
  ·exact List.mem_cons_of_mem _ (lk_key e)
theorem no_tk:¬Str.ofString "Tasks"∈names:=by decide +kernel
theorem nt_x {C:Cs}{c:Str}{A:Addr}(e:(T0 C).x c=some A):T0 C c=none:=by
 have hm:c∈names:=lk_key e
 have hne:¬c=Str.ofString "Tasks":=fun h=>no_tk (h ▸ hm)
 exact if_neg hne
def ndA (l:List Addr):Bool:=decide l.Nodup
theorem x_i (C:Cs):∀ i,i<16→(T0 C).x (names.getD i "")=some (C.l.getD i 0)∧(T0 C).any (names.getD i "")=some (C.l.getD i 0)
 | 0,_=>⟨rfl,rfl⟩
 | 1,_=>⟨rfl,rfl⟩
 | 2,_=>⟨rfl,rfl⟩
 | 3,_=>⟨rfl,rfl⟩
 | 4,_=>⟨rfl,rfl⟩
 | 5,_=>⟨rfl,rfl⟩
 | 6,_=>⟨rfl,rfl⟩
 | 7,_=>⟨rfl,rfl⟩
 | 8,_=>⟨rfl,rfl⟩
 | 9,_=>⟨rfl,rfl⟩
 | 10,_=>⟨rfl,rfl⟩
 | 11,_=>⟨rfl,rfl⟩
 | 12,_=>⟨rfl,rfl⟩
 | 13,_=>⟨rfl,rfl⟩
 | 14,_=>⟨rfl,rfl⟩
 | 15,_=>⟨rfl,rfl⟩
 | n+16,h=>absurd h (by omega)
theorem fin {w:World}{h:Heap}{fa C_Empty C_Full C_Lacks C_NoDeed C_NoHandle C_NoKind C_NoName C_NoRights C_NoRow C_NoTask C_NoThing C_NoValue C_NoWords C_Taken C_TooGreat C_TooMany C_PassError C_Tasks:Addr}(KX:K.In h)(G:h.Ns mainGlobals mg)(hmg:mg "law"=some (.ref fa))(hNL:noList K=true)(D0:DefAt K mg "is_number" s_is_number)(D1:DefAt K mg "is_name" s_is_name)(D2:DefAt K mg "_law_mix" s_l_mix)(D3:DefAt K mg "_law_name" s_l_name)(D4:DefAt K mg "_law_word" s_l_word)(D5:DefAt K mg "_law_below" s_l_below)(D6:DefAt K mg "_law_done" s_l_done)(D7:DefAt K mg "_law_added" s_l_added)(D8:DefAt K mg "_law_out" s_l_out)(D9:DefAt K mg "_law_due" s_l_due)(D10:DefAt K mg "_law_same" s_l_same)(D11:DefAt K mg "_law_deed" s_l_deed)(D12:DefAt K mg "_law_filled" s_l_filled)(D13:DefAt K mg "law" s_law)(n0:mg "isinstance"=none)(n1:mg "str"=none)(n2:mg "len"=none)(n3:mg "range"=none)(n4:mg "all"=none)(n5:mg "list"=none)(n6:mg "ValueError"=none)(n7:mg "int"=none)(n8:mg "bool"=none)(n9:mg "sum"=none)(n10:mg "sorted"=none)(kt0:PySem.W.kitOne K (.type "str") (.type "str")=some true)(kt1:PySem.W.kitOne K (.type "NoneType") (.type "str")=some false)(kt2:PySem.W.kitOne K (.type "bool") (.type "str")=some false)(kt3:PySem.W.kitOne K (.type "int") (.type "str")=some false)(kt4:PySem.W.kitOne K (.type "list") (.type "str")=some false)(kt5:PySem.W.kitOne K (.type "tuple") (.type "str")=some false)(kt6:PySem.W.kitOne K (.type "int") (.type "int")=some true)(kt7:PySem.W.kitOne K (.type "bool") (.type "int")=some true)(kt8:PySem.W.kitOne K (.type "NoneType") (.type "int")=some false)(kt9:PySem.W.kitOne K (.type "str") (.type "int")=some false)(kt10:PySem.W.kitOne K (.type "list") (.type "int")=some false)(kt11:PySem.W.kitOne K (.type "int") (.type "bool")=some false)(kt12:PySem.W.kitOne K (.type "bool") (.type "bool")=some true)(kt13:PySem.W.kitOne K (.type "str") (.type "bool")=some false)(kt14:PySem.W.kitOne K (.type "NoneType") (.type "bool")=some false)(kt15:PySem.W.kitOne K (.type "list") (.type "bool")=some false)(c0:GC mg "LONGEST_NAME" (.int 8))(c1:GC mg "MOST_RUNNING" (.int 12))(c2:GC mg "SLOT_COUNT" (.int 16))(o_Empty:PySem.W.nsIn K mainGlobals "Empty"=some (some (.ref C_Empty)))(o_Full:PySem.W.nsIn K mainGlobals "Full"=some (some (.ref C_Full)))(o_Lacks:PySem.W.nsIn K mainGlobals "Lacks"=some (some (.ref C_Lacks)))(o_NoDeed:PySem.W.nsIn K mainGlobals "NoDeed"=some (some (.ref C_NoDeed)))(o_NoHandle:PySem.W.nsIn K mainGlobals "NoHandle"=some (some (.ref C_NoHandle)))(o_NoKind:PySem.W.nsIn K mainGlobals "NoKind"=some (some (.ref C_NoKind)))(o_NoName:PySem.W.nsIn K mainGlobals "NoName"=some (some (.ref C_NoName)))(o_NoRights:PySem.W.nsIn K mainGlobals "NoRights"=some (some (.ref C_NoRights)))(o_NoRow:PySem.W.nsIn K mainGlobals "NoRow"=some (some (.ref C_NoRow)))(o_NoTask:PySem.W.nsIn K mainGlobals "NoTask"=some (some (.ref C_NoTask)))(o_NoThing:PySem.W.nsIn K mainGlobals "NoThing"=some (some (.ref C_NoThing)))(o_NoValue:PySem.W.nsIn K mainGlobals "NoValue"=some (some (.ref C_NoValue)))(o_NoWords:PySem.W.nsIn K mainGlobals "NoWords"=some (some (.ref C_NoWords)))(o_Taken:PySem.W.nsIn K mainGlobals "Taken"=some (some (.ref C_Taken)))(o_TooGreat:PySem.W.nsIn K mainGlobals "TooGreat"=some (some (.ref C_TooGreat)))(o_TooMany:PySem.W.nsIn K mainGlobals "TooMany"=some (some (.ref C_TooMany)))(o_PassError:PySem.W.nsIn K mainGlobals "PassError"=some (some (.ref C_PassError)))(o_Tasks:PySem.W.nsIn K mainGlobals "Tasks"=some (some (.ref C_Tasks)))(iT:InsTy K C_Tasks)(a1:NoAttr K C_Tasks "makers")(a2:NoAttr K C_Tasks "filled")(xa:excAll K [C_Empty,C_Full,C_Lacks,C_NoDeed,C_NoHandle,C_NoKind,C_NoName,C_NoRights,C_NoRow,C_NoTask,C_NoThing,C_NoValue,C_NoWords,C_Taken,C_TooGreat,C_TooMany]=true)(cp:capAll K C_PassError [C_Empty,C_Full,C_Lacks,C_NoDeed,C_NoHandle,C_NoKind,C_NoName,C_NoRights,C_NoRow,C_NoTask,C_NoThing,C_NoValue,C_NoWords,C_Taken,C_TooGreat,C_TooMany]=true)(ra:rzAll K [C_NoName,C_Taken,C_NoTask,C_TooMany,C_NoHandle]=true)(ks:kitSq K [C_Empty,C_Full,C_Lacks,C_NoDeed,C_NoHandle,C_NoKind,C_NoName,C_NoRights,C_NoRow,C_NoTask,C_NoThing,C_NoValue,C_NoWords,C_Taken,C_TooGreat,C_TooMany] [C_Empty,C_Full,C_Lacks,C_NoDeed,C_NoHandle,C_NoKind,C_NoName,C_NoRights,C_NoRow,C_NoTask,C_NoThing,C_NoValue,C_NoWords,C_Taken,C_TooGreat,C_TooMany]=true)(kv:kitTy K [C_Empty,C_Full,C_Lacks,C_NoDeed,C_NoHandle,C_NoKind,C_NoName,C_NoRights,C_NoRow,C_NoTask,C_NoThing,C_NoValue,C_NoWords,C_Taken,C_TooGreat,C_TooMany] (.type "ValueError") true=true)(nd:ndA [C_Empty,C_Full,C_Lacks,C_NoDeed,C_NoHandle,C_NoKind,C_NoName,C_NoRights,C_NoRow,C_NoTask,C_NoThing,C_NoValue,C_NoWords,C_Taken,C_TooGreat,C_TooMany]=true)(mk:MkX K C_Tasks "Tasks.__init__" s_Tasks__init)(m_need:MthX K C_Tasks "need" "Tasks.need" s_Tasks_need)(m_need_new:MthX K C_Tasks "need_new" "Tasks.need_new" s_Tasks_need_new)(m_added:MthX K C_Tasks "added" "Tasks.added" s_Tasks_added)(m_running:MthX K C_Tasks "running" "Tasks.running" s_Tasks_running)(m_put:MthX K C_Tasks "put" "Tasks.put" s_Tasks_put)(m_at:MthX K C_Tasks "at" "Tasks.at" s_Tasks_at)(m_free:MthX K C_Tasks "free" "Tasks.free" s_Tasks_free)(m_emptied:MthX K C_Tasks "emptied" "Tasks.emptied" s_Tasks_emptied)(m_taken_out:MthX K C_Tasks "taken_out" "Tasks.taken_out" s_Tasks_taken_out)(m_slots:MthX K C_Tasks "slots" "Tasks.slots" s_Tasks_slots)(m_made_by:MthX K C_Tasks "made_by" "Tasks.made_by" s_Tasks_made_by)(m_stopped:MthX K C_Tasks "stopped" "Tasks.stopped" s_Tasks_stopped) :
  ∃ fd:FuncData,(∀ (s:Shared) (u:Value),BindsTo s fd ⟨[u],[]⟩ [("_law_script",u)])∧∀ base:Heap,K.In base→base.Ns mainGlobals mg→FnOk P w K mg base CX0 20 fa fd ["_law_script"] (sp_law K):=by
 obtain ⟨C,hC⟩:∃ C:Cs,C=⟨C_Empty,C_Full,C_Lacks,C_NoDeed,C_NoHandle,C_NoKind,C_NoName,C_NoRights,C_NoRow,C_NoTask,C_NoThing,C_NoValue,C_NoWords,C_Taken,C_TooGreat,C_TooMany,C_PassError,C_Tasks⟩:=⟨_,rfl⟩
 have hl:C.l=[C_Empty,C_Full,C_Lacks,C_NoDeed,C_NoHandle,C_NoKind,C_NoName,C_NoRights,C_NoRow,C_NoTask,C_NoThing,C_NoValue,C_NoWords,C_Taken,C_TooGreat,C_TooMany]:=by subst hC; rfl
 have hT:∀ c A,T0 C c=some A→A=C_Tasks:=fun c A e=>by
  subst hC
  have e:(if c="Tasks" then some C_Tasks else none)=some A:=e
  split at e
  ·cases e; rfl
  ·cases e
 have hX:∀ c A,(T0 C).x c=some A→A∈[C_Empty,C_Full,C_Lacks,C_NoDeed,C_NoHandle,C_NoKind,C_NoName,C_NoRights,C_NoRow,C_NoTask,C_NoThing,C_NoValue,C_NoWords,C_Taken,C_TooGreat,C_TooMany]:=fun c A e=>by rw [← hl]; exact lk_mem e
 have hI:InsOk K (T0 C):=fun c A e=>by rw [hT c A e]; exact iT
 have hE:ExcOk K (T0 C):=fun c A e=>⟨by subst hC; exact nt_x e,excAll_of xa (hX c A e)⟩
 have nd':([C_Empty,C_Full,C_Lacks,C_NoDeed,C_NoHandle,C_NoKind,C_NoName,C_NoRights,C_NoRow,C_NoTask,C_NoThing,C_NoValue,C_NoWords,C_Taken,C_TooGreat,C_TooMany]:List Addr).Nodup:=of_decide_eq_true nd
 rw [← hl] at nd'
 have hm:∀ i,i<16→C.l.getD i 0∈C.l:=fun i hi=>by
  have h:i<C.l.length:=hi
  rw [List.getD_eq_getElem?_getD,List.getElem?_eq_getElem h]
  exact List.getElem_mem h
 have hK:KitOk K (T0 C) kitL:=by
  intro e he
  unfold kitL at he
  rcases List.mem_append.mp he with he | he
  ·simp only [bents,List.mem_cons,List.not_mem_nil,or_false] at he
   rcases he with rfl | rfl | rfl | rfl | rfl | rfl | rfl | rfl | rfl | rfl | rfl | rfl | rfl | rfl | rfl | rfl
   ·exact ⟨_,_,rfl,rfl,kt0⟩
   ·exact ⟨_,_,rfl,rfl,kt1⟩
   ·exact ⟨_,_,rfl,rfl,kt2⟩
   ·exact ⟨_,_,rfl,rfl,kt3⟩
   ·exact ⟨_,_,rfl,rfl,kt4⟩
   ·exact ⟨_,_,rfl,rfl,kt5⟩
   ·exact ⟨_,_,rfl,rfl,kt6⟩
   ·exact ⟨_,_,rfl,rfl,kt7⟩
   ·exact ⟨_,_,rfl,rfl,kt8⟩
   ·exact ⟨_,_,rfl,rfl,kt9⟩
   ·exact ⟨_,_,rfl,rfl,kt10⟩
   ·exact ⟨_,_,rfl,rfl,kt11⟩
   ·exact ⟨_,_,rfl,rfl,kt12⟩
   ·exact ⟨_,_,rfl,rfl,kt13⟩
   ·exact ⟨_,_,rfl,rfl,kt14⟩
   ·exact ⟨_,_,rfl,rfl,kt15⟩
  ·unfold ents at he
   obtain ⟨i,hi,he⟩:=List.mem_flatMap.mp he
   have hi:=List.mem_range.mp hi
   rcases List.mem_cons.mp he with rfl | he
   ·exact ⟨_,_,⟨_,(x_i C i hi).2,rfl⟩,rfl,by rw [← hl] at kv; exact kitTy_get kv (hm i hi)⟩
   obtain ⟨j,hj,rfl⟩:=List.mem_map.mp he
   have hj:=List.mem_range.mp hj
   refine ⟨_,_,⟨_,(x_i C i hi).2,rfl⟩,⟨_,(x_i C j hj).2,rfl⟩,?_⟩
   rw [← hl] at ks
   rw [kitSq_get ks (hm i hi) (hm j hj)]
   have hi':i<C.l.length:=hi
   have hj':j<C.l.length:=hj
   congr 1
   rw [Bool.eq_iff_iff]
   simp only [beq_iff_eq,List.getD_eq_getElem?_getD,List.getElem?_eq_getElem hi',List.getElem?_eq_getElem hj',Option.getD_some]
   constructor
   ·intro q; exact (List.getElem_inj nd').mp q
   ·intro q; subst q; rfl
 have gc:∀ {x:Str} {A:Addr},PySem.W.nsIn K mainGlobals x=some (some (.ref A))→GC mg x (.ref A):=fun o=>gc_mk KX G o rfl
 have T:Tx K mg C:=⟨n0,n1,n2,n3,n4,n5,n6,n7,n8,n9,n10,c0,c1,c2,hI,hE,hK,fun c A e=>by rw [hT c A e]; exact ⟨iT.cl,a1⟩,fun c A e=>by rw [hT c A e]; exact ⟨iT.cl,a2⟩,⟨C_NoName,by subst hC; rfl,PySem.W.mg_of KX G o_NoName,rzAll_of ra (by simp)⟩,⟨C_Taken,by subst hC; rfl,PySem.W.mg_of KX G o_Taken,rzAll_of ra (by simp)⟩,⟨C_NoTask,by subst hC; rfl,PySem.W.mg_of KX G o_NoTask,rzAll_of ra (by simp)⟩,⟨C_TooMany,by subst hC; rfl,PySem.W.mg_of KX G o_TooMany,rzAll_of ra (by simp)⟩,⟨C_NoHandle,by subst hC; rfl,PySem.W.mg_of KX G o_NoHandle,rzAll_of ra (by simp)⟩,cap_of cp (PySem.W.mg_of KX G o_PassError) (fun c A _ e=>hX c A e),by subst hC; exact gc o_Empty,by subst hC; rfl,by subst hC; exact gc o_Full,by subst hC; rfl,by subst hC; exact gc o_Lacks,by subst hC; rfl,by subst hC; exact gc o_NoDeed,by subst hC; rfl,by subst hC; exact gc o_NoHandle,by subst hC; rfl,by subst hC; exact gc o_NoKind,by subst hC; rfl,by subst hC; exact gc o_NoName,by subst hC; rfl,by subst hC; exact gc o_NoRights,by subst hC; rfl,by subst hC; exact gc o_NoRow,by subst hC; rfl,by subst hC; exact gc o_NoTask,by subst hC; rfl,by subst hC; exact gc o_NoThing,by subst hC; rfl,by subst hC; exact gc o_NoValue,by subst hC; rfl,by subst hC; exact gc o_NoWords,by subst hC; rfl,by subst hC; exact gc o_Taken,by subst hC; rfl,by subst hC; exact gc o_TooGreat,by subst hC; rfl,by subst hC; exact gc o_TooMany,by subst hC; rfl⟩
 have hc:T0 C "Tasks"=some C_Tasks:=by subst hC; rfl
 refine law_mk D13 hmg bd_law fun f fd F base=>?_
 obtain ⟨f_i,d_i,x_i',R_i⟩:=mk
 obtain ⟨F_i,G_i,h_i⟩:=ok_init (P:=P) (w:=w) (base:=base) T R_i
 obtain ⟨F_nu,G_nu,h_nu⟩:=ok_num (P:=P) (w:=w) (base:=base) T D0
 obtain ⟨F_na,G_na,h_na⟩:=ok_name (P:=P) (w:=w) (base:=base) T D1
 obtain ⟨f_need,d_need,x_need,R_need⟩:=m_need
 obtain ⟨F_need,G_need,h_need⟩:=ok_need (P:=P) (w:=w) (base:=base) T R_need
 have Mn:=tab1_x (P:=P) (w:=w) (mg:=mg) (base:=base) (C:=C) ⟨C_Tasks,f_need,d_need,_,hc,x_need,G_need,R_need.binds bd_Tasks_need⟩
 obtain ⟨f_need_new,d_need_new,x_need_new,R_need_new⟩:=m_need_new
 obtain ⟨F_need_new,G_need_new,h_need_new⟩:=ok_new (P:=P) (w:=w) (base:=base) T h_na G_na R_need_new
 obtain ⟨f_added,d_added,x_added,R_added⟩:=m_added
 obtain ⟨F_added,G_added,h_added⟩:=ok_added (P:=P) (w:=w) (base:=base) T h_need h_need_new Mn (tab1_x ⟨C_Tasks,f_need_new,d_need_new,_,hc,x_need_new,G_need_new,R_need_new.binds bd_Tasks_need_new⟩) R_added
 obtain ⟨f_running,d_running,x_running,R_running⟩:=m_running
 obtain ⟨F_running,G_running,h_running⟩:=ok_running (P:=P) (w:=w) (base:=base) T R_running
 obtain ⟨f_put,d_put,x_put,R_put⟩:=m_put
 obtain ⟨F_put,G_put,h_put⟩:=ok_put (P:=P) (w:=w) (base:=base) T h_need Mn R_put
 obtain ⟨f_at,d_at,x_at,R_at⟩:=m_at
 obtain ⟨F_at,G_at,h_at⟩:=ok_at (P:=P) (w:=w) (base:=base) T h_need h_nu Mn G_nu R_at
 obtain ⟨f_free,d_free,x_free,R_free⟩:=m_free
 obtain ⟨F_free,G_free,h_free⟩:=ok_free (P:=P) (w:=w) (base:=base) T h_need Mn R_free
 obtain ⟨f_emptied,d_emptied,x_emptied,R_emptied⟩:=m_emptied
 obtain ⟨F_emptied,G_emptied,h_emptied⟩:=ok_emp (P:=P) (w:=w) (base:=base) T R_emptied
 obtain ⟨f_taken_out,d_taken_out,x_taken_out,R_taken_out⟩:=m_taken_out
 obtain ⟨F_taken_out,G_taken_out,h_taken_out⟩:=ok_out (P:=P) (w:=w) (base:=base) T h_running h_emptied h_nu (tab1_at ⟨C_Tasks,f_running,d_running,_,hc,x_running,G_running,R_running.binds bd_Tasks_running⟩) (tab1_at ⟨C_Tasks,f_emptied,d_emptied,_,hc,x_emptied,G_emptied,R_emptied.binds bd_Tasks_emptied⟩) G_nu R_taken_out
 obtain ⟨f_slots,d_slots,x_slots,R_slots⟩:=m_slots
 obtain ⟨F_slots,G_slots,h_slots⟩:=ok_slots (P:=P) (w:=w) (base:=base) T h_need Mn R_slots
 obtain ⟨f_made_by,d_made_by,x_made_by,R_made_by⟩:=m_made_by
 obtain ⟨F_made_by,G_made_by,h_made_by⟩:=ok_mades (P:=P) (w:=w) (base:=base) T h_need Mn R_made_by (fun k F G=>tab1_x ⟨C_Tasks,f_made_by,d_made_by,_,hc,x_made_by,G,R_made_by.binds bd_Tasks_made_by⟩) 15
 obtain ⟨f_stopped,d_stopped,x_stopped,R_stopped⟩:=m_stopped
 obtain ⟨F_stopped,G_stopped,h_stopped⟩:=ok_stop (P:=P) (w:=w) (base:=base) T h_made_by (tab1_x ⟨C_Tasks,f_made_by,d_made_by,_,hc,x_made_by,G_made_by,R_made_by.binds bd_Tasks_made_by⟩) R_stopped
 have Gm:=ok_mix (P:=P) (w:=w) (base:=base) T D2
 obtain ⟨F_nm,G_nm,h_nm⟩:=ok_nm (P:=P) (w:=w) (base:=base) T Gm D3
 obtain ⟨F_wo,G_wo,h_wo⟩:=ok_word (P:=P) (w:=w) (base:=base) T D4
 obtain ⟨F_be,G_be,h_be⟩:=ok_belows (P:=P) (w:=w) (base:=base) T D5 15
 obtain ⟨F_de,G_de,h_de⟩:=ok_deed (P:=P) (w:=w) (base:=base) T Gm G_nm D11
 obtain ⟨F_do,G_do,h_do⟩:=ok_done (P:=P) (w:=w) (base:=base) T h_added h_put h_at h_taken_out h_stopped h_wo (tab1_x ⟨C_Tasks,f_added,d_added,_,hc,x_added,G_added,R_added.binds bd_Tasks_added⟩) (tab1_x ⟨C_Tasks,f_put,d_put,_,hc,x_put,G_put,R_put.binds bd_Tasks_put⟩) (tab1_x ⟨C_Tasks,f_at,d_at,_,hc,x_at,G_at,R_at.binds bd_Tasks_at⟩) (tab1_at ⟨C_Tasks,f_taken_out,d_taken_out,_,hc,x_taken_out,G_taken_out,R_taken_out.binds bd_Tasks_taken_out⟩) (tab1_x ⟨C_Tasks,f_stopped,d_stopped,_,hc,x_stopped,G_stopped,R_stopped.binds bd_Tasks_stopped⟩) G_wo D6
 obtain ⟨F_oa,G_oa,h_oa⟩:=ok_oadd (P:=P) (w:=w) (base:=base) T D7
 obtain ⟨F_oo,G_oo,h_oo⟩:=ok_oout (P:=P) (w:=w) (base:=base) T D8
 obtain ⟨F_du,G_du,h_du⟩:=ok_due (P:=P) (w:=w) (base:=base) T h_oa h_oo h_be G_oa G_oo G_be D9
 obtain ⟨F_sa,G_sa,h_sa⟩:=ok_same (P:=P) (w:=w) (base:=base) T h_running h_free h_slots h_made_by h_be (tab1_at ⟨C_Tasks,f_running,d_running,_,hc,x_running,G_running,R_running.binds bd_Tasks_running⟩) (tab1_x ⟨C_Tasks,f_free,d_free,_,hc,x_free,G_free,R_free.binds bd_Tasks_free⟩) (tab1_x ⟨C_Tasks,f_slots,d_slots,_,hc,x_slots,G_slots,R_slots.binds bd_Tasks_slots⟩) (tab1_x ⟨C_Tasks,f_made_by,d_made_by,_,hc,x_made_by,G_made_by,R_made_by.binds bd_Tasks_made_by⟩) G_be D10
 obtain ⟨F_fi,G_fi,h_fi⟩:=ok_filled (P:=P) (w:=w) (base:=base) T h_du h_do G_du G_do D12
 exact (ok_law T F h_i h_nm h_de h_fi h_du h_do h_sa ⟨C_Tasks,f_i,d_i,_,hc,PySem.W.mg_of KX G o_Tasks,x_i',G_i,R_i.binds bd_Tasks__init⟩ Gm G_de G_fi G_du G_do G_sa).imp (lawF_sp hNL)
end
end K43
namespace PySem.W.Fast
def tw13361853395921583117:Nat:=0
def tw10305035995293962425:Nat:=0
def tw15417930599699912018:Nat:=0
def tw9762001527065944530:Nat:=0
def tw10718356730609585886:Nat:=0
def tw13638026593260582902:Nat:=0
def tw11059313040185013998:Nat:=0
def tw2000340145060222374:Nat:=0
def tw543596532504778389:Nat:=0
def tw8006259899770984244:Nat:=0
def tw2720604491701992527:Nat:=0
def tw5476122764581513135:Nat:=0
def tw16634776010357875953:Nat:=0
def tw12266273036910003077:Nat:=0
def tw11530599800464877939:Nat:=0
def tw13688753530704674827:Nat:=0
def tw17109761806456459367:Nat:=0
def tw6235959140117003785:Nat:=0
def tw16550906373030287616:Nat:=0
def tw11012127109121688293:Nat:=0
def tw4562057519916524733:Nat:=0
def tw4020173648366883953:Nat:=0
def tw8041153943462068178:Nat:=0
def tw9437032267839847707:Nat:=0
def tw16514904363133843867:Nat:=0
def tw6415846033567069257:Nat:=0
def tw12796784354953896732:Nat:=0
def tw3074104641474432800:Nat:=0
def tw17835415355250030212:Nat:=0
def tw14840236820139643182:Nat:=0
def tw1055051651345986286:Nat:=0
def tw11215103741875018456:Nat:=0
def tw5895921625045603211:Nat:=0
def tw15345560112922566301:Nat:=0
def tw8314689397925872444:Nat:=0
def tw13370690146133809895:Nat:=0
def tw1280260053970852034:Nat:=0
def tw15659775180332117021:Nat:=0
def tw10266567697914825097:Nat:=0
def tw11012747256196606056:Nat:=0
def tw12556728902115192460:Nat:=0
def tw3210369188358105763:Nat:=0
def tw15878183782991786728:Nat:=0
def tw11686347575595159911:Nat:=0
def tw13719781476226336010:Nat:=0
def tw15309828651760964408:Nat:=0
def tw12170327773678098329:Nat:=0
def tw11405833858905828385:Nat:=0
def tw16219980367241825289:Nat:=0
def tw9003506422231529457:Nat:=0
def tw15618444725876975170:Nat:=0
def tw8675947524532474525:Nat:=0
def tw6222359599540712099:Nat:=0
def tw9371666296916092618:Nat:=0
def tw8059538799312615411:Nat:=0
def tw1845384423736569540:Nat:=0
def tw17742325950000132724:Nat:=0
def tw6564639214336997962:Nat:=0
def tw3279471065702668350:Nat:=0
def tw8819870013406624809:Nat:=0
def tw13948260656772570052:Nat:=0
def tw18368446524434388655:Nat:=0
def tw11167764487083796739:Nat:=0
def tw8857044834573589653:Nat:=0
def tw16606188894166053644:Nat:=0
def tw6506295758666306587:Nat:=0
def tw5232296316907891935:Nat:=0
def tw3251401599821776718:Nat:=0
def tw17719964247549499264:Nat:=0
def tw17743385119632142018:Nat:=0
def tw7198873241337554718:Nat:=0
def tw5073360326099690957:Nat:=0
def tw16007200313090960350:Nat:=0
def tw5552669301579298187:Nat:=0
def tw10735891039759749936:Nat:=0
def tw7480277260199536543:Nat:=0
def tw6222785179158956977:Nat:=0
def tw13532715013966579872:Nat:=0
def tw17008739611924213377:Nat:=0
def tw7698021211502075254:Nat:=0
def tw7293886258906596888:Nat:=0
def tw15285454270115694461:Nat:=0
def tw14871071555777053292:Nat:=0
def tw14691357124531245642:Nat:=0
def tw12248366501641282259:Nat:=0
def tw6167340613590732693:Nat:=0
def tw7914452911598701722:Nat:=0
def tw10644582214496416485:Nat:=0
def tw10855830686097732611:Nat:=0
def tw667726985028324296:Nat:=0
def tw1363498189478899820:Nat:=0
def tw5015405787732413888:Nat:=0
def tw18217291901532230586:Nat:=0
def tw3374129359086019332:Nat:=0
def tw10272715267647492645:Nat:=0
def tw9536141828318539737:Nat:=0
def tw18043117109837017085:Nat:=0
def tw2243511350433312306:Nat:=0
def tw14945545980274435083:Nat:=0
def tw17070989790341896592:Nat:=0
def tw15327466551500386937:Nat:=0
def tw11039405760995317563:Nat:=0
def tw11277316055912010176:Nat:=0
def tw1294608512763682099:Nat:=0
def tw7900328567510188014:Nat:=0
def tw14048205006296544497:Nat:=0
def tw3862485491740057779:Nat:=0
def tw10347802595883705206:Nat:=0
def tw4830374692560704175:Nat:=0
def tw472683875628588500:Nat:=0
def tw3487117427290888127:Nat:=0
def tw14528986953024152036:Nat:=0
def tw2744313466029554426:Nat:=0
def tw12019919564091032931:Nat:=0
def tw16124625110924760639:Nat:=0
def tw4796909853341344734:Nat:=0
def tw16446728257677662363:Nat:=0
def tw15901656634199402265:Nat:=0
def tw11931633439152604842:Nat:=0
def tw7269821198234139834:Nat:=0
def tw11626787886892027626:Nat:=0
def tw14144952955063122504:Nat:=0
def tw9487730917585844287:Nat:=0
def tw17602678465438206132:Nat:=0
def tw1576127813628701897:Nat:=0
def tw6693970192328729534:Nat:=0
def tw7261373186954875313:Nat:=0
def tw2960162570906233164:Nat:=0
def tw1109462260766231132:Nat:=0
def tw9832344351416082077:Nat:=0
def tw9583823981011119164:Nat:=0
def tw5272925146586520778:Nat:=0
def tw3023531707360294483:Nat:=0
def tw10264057203615499525:Nat:=0
def tw2469317528597265689:Nat:=0
def tw18132579311533874821:Nat:=0
def tw1734639411214634795:Nat:=0
def tw11116489930767479068:Nat:=0
def tw16625611192334399814:Nat:=0
def tw703860089015825538:Nat:=0
def tw1366358830735147275:Nat:=0
def tw8490155580813400458:Nat:=0
def tw16319712582477086916:Nat:=0
def tw9701674265106509767:Nat:=0
def tw18050772124743073741:Nat:=0
def tw18151758929802878164:Nat:=0
def tw13355261007250216926:Nat:=0
def tw8713565831929839269:Nat:=0
def tw10373503780920003331:Nat:=0
def tw14444708340874675250:Nat:=0
def tw18338661456290047708:Nat:=0
def tw7951795458580847239:Nat:=0
def tw17397949892984265130:Nat:=0
def tw12736369216811015585:Nat:=0
def tw16070233813883479470:Nat:=0
def tw1461853238103794471:Nat:=0
def tw6152494752298623730:Nat:=0
def tw5080836654536323930:Nat:=0
def tw5956988828809854354:Nat:=0
def tw12937935750464759134:Nat:=0
def tw15364667612781541783:Nat:=0
def tw8285584851743497833:Nat:=0
def tw3162084780616116812:Nat:=0
def tw20768580580293766:Nat:=0
def tw17678975538094263733:Nat:=0
def tw32486795792196583:Nat:=0
def tw6871777106733095938:Nat:=0
def tw15047467818026179361:Nat:=0
def tw17475203803250765526:Nat:=0
def tw5341058394097604057:Nat:=0
def tw13276733652457799668:Nat:=0
def tw12290630463195588791:Nat:=0
def tw15647150266661492335:Nat:=0
def tw6647638637593702602:Nat:=0
def tw5682484275879894620:Nat:=0
def tw1319135325955765168:Nat:=0
def tw4833520678677944575:Nat:=0
def tw7750826555695350618:Nat:=0
def tw5649559107392420274:Nat:=0
def tw8925823624921443327:Nat:=0
def tw17388918528915369798:Nat:=0
def tw1940858944494447175:Nat:=0
def tw1443620656863207837:Nat:=0
def tw16957496634944585235:Nat:=0
def tw14037561092856550872:Nat:=0
def tw2629850775189981341:Nat:=0
def tw17491824576990673144:Nat:=0
def tw16360485592497461514:Nat:=0
def tw5661082459166395060:Nat:=0
def tw12652470140163542822:Nat:=0
def tw1511087623236844308:Nat:=0
def tw11712784119300162328:Nat:=0
def tw6005860086113548541:Nat:=0
def tw8309761551264173304:Nat:=0
def tw18214582075631177173:Nat:=0
def tw15709077177357850210:Nat:=0
def tw4520410572344095175:Nat:=0
def tw11835806598209790660:Nat:=0
def tw4418653780386834561:Nat:=0
def tw5378596411922126191:Nat:=0
def tw18089218052408923102:Nat:=0
def tw15212228855888508571:Nat:=0
def tw9933226865718942052:Nat:=0
def tw543854454723851914:Nat:=0
def tw6553483425993992131:Nat:=0
def tw16456536108489020822:Nat:=0
def tw14325103850331794543:Nat:=0
def tw15744793740118707014:Nat:=0
def tw7417040401523354350:Nat:=0
def tw274723047922548433:Nat:=0
def tw9540518229099036228:Nat:=0
def tw15445465892568006604:Nat:=0
def tw3070417745681393195:Nat:=0
def tw12827675506698043295:Nat:=0
def tw12482379925321127674:Nat:=0
def tw9213311747730430668:Nat:=0
def tw9416108682170296846:Nat:=0
def tw15474603852082251167:Nat:=0
def tw4651051589652552261:Nat:=0
def tw6211099254196879895:Nat:=0
def tw13708283842622324181:Nat:=0
def tw18018746117191793941:Nat:=0
def tw1061560770028113119:Nat:=0
def tw182152108633075798:Nat:=0
def tw16368327884592058259:Nat:=0
end PySem.W.Fast
open PySem PySem.W PyProof.Rows
set_option maxRecDepth 100000 in
set_option maxHeartbeats 0 in
theorem PySem.Challenge.cw_passkeep_k43_whole_two_keepers_holds : PySem.Challenge.rw_passkeep_k43_whole_two_keepers.Holds := by
 w_on; o_law; k_head; (case hw=>w_witness2)
 k_fill
 refine L2.walk0 (l:=PySem.Challenge.rw_passkeep_k43_whole_two_keepers) (k:=20) (x:="_law_script") rfl rfl ⟨by decide,by decide⟩ (fun w h Y=>PySem.W.kIn_of Y) ?F
 case F=>
  intro w mg fa h KX G hmg
  have hNL:M.noList (L2.KOf KX)=true:=by dsimp only [L2.KOf]; kernel_rfl
  have D_is_number:L2.DefAt (L2.KOf KX) mg "is_number" K43.s_is_number:=by
   dsimp only [L2.KOf]; refine' L2.def_mk KX G ?a ?l ?c ?k; (case a=>k_is); (case l=>k_is); (case c=>k_is); (case k=>k_is)
  have D_is_name:L2.DefAt (L2.KOf KX) mg "is_name" K43.s_is_name:=by
   dsimp only [L2.KOf]; refine' L2.def_mk KX G ?a ?l ?c ?k; (case a=>k_is); (case l=>k_is); (case c=>k_is); (case k=>k_is)
  have D_l_mix:L2.DefAt (L2.KOf KX) mg "_law_mix" K43.s_l_mix:=by
   dsimp only [L2.KOf]; refine' L2.def_mk KX G ?a ?l ?c ?k; (case a=>k_is); (case l=>k_is); (case c=>k_is); (case k=>k_is)
  have D_l_name:L2.DefAt (L2.KOf KX) mg "_law_name" K43.s_l_name:=by
   dsimp only [L2.KOf]; refine' L2.def_mk KX G ?a ?l ?c ?k; (case a=>k_is); (case l=>k_is); (case c=>k_is); (case k=>k_is)
  have D_l_word:L2.DefAt (L2.KOf KX) mg "_law_word" K43.s_l_word:=by
   dsimp only [L2.KOf]; refine' L2.def_mk KX G ?a ?l ?c ?k; (case a=>k_is); (case l=>k_is); (case c=>k_is); (case k=>k_is)
  have D_l_below:L2.DefAt (L2.KOf KX) mg "_law_below" K43.s_l_below:=by
   dsimp only [L2.KOf]; refine' L2.def_mk KX G ?a ?l ?c ?k; (case a=>k_is); (case l=>k_is); (case c=>k_is); (case k=>k_is)
  have D_l_done:L2.DefAt (L2.KOf KX) mg "_law_done" K43.s_l_done:=by
   dsimp only [L2.KOf]; refine' L2.def_mk KX G ?a ?l ?c ?k; (case a=>k_is); (case l=>k_is); (case c=>k_is); (case k=>k_is)
  have D_l_added:L2.DefAt (L2.KOf KX) mg "_law_added" K43.s_l_added:=by
   dsimp only [L2.KOf]; refine' L2.def_mk KX G ?a ?l ?c ?k; (case a=>k_is); (case l=>k_is); (case c=>k_is); (case k=>k_is)
  have D_l_out:L2.DefAt (L2.KOf KX) mg "_law_out" K43.s_l_out:=by
   dsimp only [L2.KOf]; refine' L2.def_mk KX G ?a ?l ?c ?k; (case a=>k_is); (case l=>k_is); (case c=>k_is); (case k=>k_is)
  have D_l_due:L2.DefAt (L2.KOf KX) mg "_law_due" K43.s_l_due:=by
   dsimp only [L2.KOf]; refine' L2.def_mk KX G ?a ?l ?c ?k; (case a=>k_is); (case l=>k_is); (case c=>k_is); (case k=>k_is)
  have D_l_same:L2.DefAt (L2.KOf KX) mg "_law_same" K43.s_l_same:=by
   dsimp only [L2.KOf]; refine' L2.def_mk KX G ?a ?l ?c ?k; (case a=>k_is); (case l=>k_is); (case c=>k_is); (case k=>k_is)
  have D_l_deed:L2.DefAt (L2.KOf KX) mg "_law_deed" K43.s_l_deed:=by
   dsimp only [L2.KOf]; refine' L2.def_mk KX G ?a ?l ?c ?k; (case a=>k_is); (case l=>k_is); (case c=>k_is); (case k=>k_is)
  have D_l_filled:L2.DefAt (L2.KOf KX) mg "_law_filled" K43.s_l_filled:=by
   dsimp only [L2.KOf]; refine' L2.def_mk KX G ?a ?l ?c ?k; (case a=>k_is); (case l=>k_is); (case c=>k_is); (case k=>k_is)
  have D_law:L2.DefAt (L2.KOf KX) mg "law" K43.s_law:=by
   dsimp only [L2.KOf]; refine' L2.def_mk KX G ?a ?l ?c ?k; (case a=>k_is); (case l=>k_is); (case c=>k_is); (case k=>k_is)
  have N_isinstance:mg "isinstance"=none:=PySem.W.mg_none_of KX G (by k_is)
  have N_str:mg "str"=none:=PySem.W.mg_none_of KX G (by k_is)
  have N_len:mg "len"=none:=PySem.W.mg_none_of KX G (by k_is)
  have N_range:mg "range"=none:=PySem.W.mg_none_of KX G (by k_is)
  have N_all:mg "all"=none:=PySem.W.mg_none_of KX G (by k_is)
  have N_list:mg "list"=none:=PySem.W.mg_none_of KX G (by k_is)
  have N_ValueError:mg "ValueError"=none:=PySem.W.mg_none_of KX G (by k_is)
  have N_int:mg "int"=none:=PySem.W.mg_none_of KX G (by k_is)
  have N_bool:mg "bool"=none:=PySem.W.mg_none_of KX G (by k_is)
  have N_sum:mg "sum"=none:=PySem.W.mg_none_of KX G (by k_is)
  have N_sorted:mg "sorted"=none:=PySem.W.mg_none_of KX G (by k_is)
  have k_str_str:PySem.W.kitOne (L2.KOf KX) (.type "str") (.type "str")=some true:=by dsimp only [L2.KOf]; kit_is
  have k_NoneType_str:PySem.W.kitOne (L2.KOf KX) (.type "NoneType") (.type "str")=some false:=by dsimp only [L2.KOf]; kit_is
  have k_bool_str:PySem.W.kitOne (L2.KOf KX) (.type "bool") (.type "str")=some false:=by dsimp only [L2.KOf]; kit_is
  have k_int_str:PySem.W.kitOne (L2.KOf KX) (.type "int") (.type "str")=some false:=by dsimp only [L2.KOf]; kit_is
  have k_list_str:PySem.W.kitOne (L2.KOf KX) (.type "list") (.type "str")=some false:=by dsimp only [L2.KOf]; kit_is
  have k_tuple_str:PySem.W.kitOne (L2.KOf KX) (.type "tuple") (.type "str")=some false:=by dsimp only [L2.KOf]; kit_is
  have k_int_int:PySem.W.kitOne (L2.KOf KX) (.type "int") (.type "int")=some true:=by dsimp only [L2.KOf]; kit_is
  have k_bool_int:PySem.W.kitOne (L2.KOf KX) (.type "bool") (.type "int")=some true:=by dsimp only [L2.KOf]; kit_is
  have k_NoneType_int:PySem.W.kitOne (L2.KOf KX) (.type "NoneType") (.type "int")=some false:=by dsimp only [L2.KOf]; kit_is
  have k_str_int:PySem.W.kitOne (L2.KOf KX) (.type "str") (.type "int")=some false:=by dsimp only [L2.KOf]; kit_is
  have k_list_int:PySem.W.kitOne (L2.KOf KX) (.type "list") (.type "int")=some false:=by dsimp only [L2.KOf]; kit_is
  have k_int_bool:PySem.W.kitOne (L2.KOf KX) (.type "int") (.type "bool")=some false:=by dsimp only [L2.KOf]; kit_is
  have k_bool_bool:PySem.W.kitOne (L2.KOf KX) (.type "bool") (.type "bool")=some true:=by dsimp only [L2.KOf]; kit_is
  have k_str_bool:PySem.W.kitOne (L2.KOf KX) (.type "str") (.type "bool")=some false:=by dsimp only [L2.KOf]; kit_is
  have k_NoneType_bool:PySem.W.kitOne (L2.KOf KX) (.type "NoneType") (.type "bool")=some false:=by dsimp only [L2.KOf]; kit_is
  have k_list_bool:PySem.W.kitOne (L2.KOf KX) (.type "list") (.type "bool")=some false:=by dsimp only [L2.KOf]; kit_is
  have c_LONGEST_NAME:L2.GC mg "LONGEST_NAME" (.int 8):=L2.gc_mk KX G (by k_is) ⟨_,rfl⟩
  have c_MOST_RUNNING:L2.GC mg "MOST_RUNNING" (.int 12):=L2.gc_mk KX G (by k_is) ⟨_,rfl⟩
  have c_SLOT_COUNT:L2.GC mg "SLOT_COUNT" (.int 16):=L2.gc_mk KX G (by k_is) ⟨_,rfl⟩
  refine' K43.fin KX G hmg hNL D_is_number D_is_name D_l_mix D_l_name D_l_word D_l_below D_l_done D_l_added D_l_out D_l_due D_l_same D_l_deed D_l_filled D_law N_isinstance N_str N_len N_range N_all N_list N_ValueError N_int N_bool N_sum N_sorted k_str_str k_NoneType_str k_bool_str k_int_str k_list_str k_tuple_str k_int_int k_bool_int k_NoneType_int k_str_int k_list_int k_int_bool k_bool_bool k_str_bool k_NoneType_bool k_list_bool c_LONGEST_NAME c_MOST_RUNNING c_SLOT_COUNT ?gg44 ?gg45 ?gg46 ?gg47 ?gg48 ?gg49 ?gg50 ?gg51 ?gg52 ?gg53 ?gg54 ?gg55 ?gg56 ?gg57 ?gg58 ?gg59 ?gg60 ?gg61 ?gg62 ?gg63 ?gg64 ?gg65 ?gg66 ?gg67 ?gg68 ?gg69 ?gg70 ?gg71 ?gg72 ?gg73 ?gg74 ?gg75 ?gg76 ?gg77 ?gg78 ?gg79 ?gg80 ?gg81 ?gg82 ?gg83
  (case gg44=>k_is)
  (case gg45=>k_is)
  (case gg46=>k_is)
  (case gg47=>k_is)
  (case gg48=>k_is)
  (case gg49=>k_is)
  (case gg50=>k_is)
  (case gg51=>k_is)
  (case gg52=>k_is)
  (case gg53=>k_is)
  (case gg54=>k_is)
  (case gg55=>k_is)
  (case gg56=>k_is)
  (case gg57=>k_is)
  (case gg58=>k_is)
  (case gg59=>k_is)
  (case gg60=>k_is)
  (case gg61=>k_is)
  (case gg62=>refine' M.ins_mk ?qa_62 ?qb_62 ?qc_62 ?qd_62 ?qe_62 ?qf_62 ?qg_62 ?qh_62; (case qa_62=>k_is); (case qb_62=>k_is); (case qc_62=>k_is); (case qd_62=>k_is); (case qe_62=>k_is); (case qf_62=>k_is); (case qg_62=>k_is); (case qh_62=>k_is))
  (case gg63=>show PySem.W.findIn _ _ _=_; k_is)
  (case gg64=>show PySem.W.findIn _ _ _=_; k_is)
  (case gg65=>first | kernel_rfl | decide +kernel | (dsimp only [L2.KOf]; kernel_rfl) | (trace_state; k_is))
  (case gg66=>first | kernel_rfl | decide +kernel | (dsimp only [L2.KOf]; kernel_rfl) | (trace_state; k_is))
  (case gg67=>first | kernel_rfl | decide +kernel | (dsimp only [L2.KOf]; kernel_rfl) | (trace_state; k_is))
  (case gg68=>first | kernel_rfl | decide +kernel | (dsimp only [L2.KOf]; kernel_rfl) | (trace_state; k_is))
  (case gg69=>first | kernel_rfl | decide +kernel | (dsimp only [L2.KOf]; kernel_rfl) | (trace_state; k_is))
  (case gg70=>first | kernel_rfl | decide +kernel | (dsimp only [L2.KOf]; kernel_rfl) | (trace_state; k_is))
  (case gg71=>refine' M.mkx ?qm_71 ?qn_71 ?qa_71 ?qi_71 ?ql_71 ?qc_71 ?qk_71; (case qm_71=>k_is); (case qn_71=>k_is); (case qa_71=>k_is); (case qi_71=>k_is); (case ql_71=>k_is); (case qc_71=>k_is); (case qk_71=>k_is))
  (case gg72=>refine' M.mthx ?qa_72 ?qi_72 ?ql_72 ?qc_72 ?qk_72; (case qa_72=>k_is); (case qi_72=>k_is); (case ql_72=>k_is); (case qc_72=>k_is); (case qk_72=>k_is))
  (case gg73=>refine' M.mthx ?qa_73 ?qi_73 ?ql_73 ?qc_73 ?qk_73; (case qa_73=>k_is); (case qi_73=>k_is); (case ql_73=>k_is); (case qc_73=>k_is); (case qk_73=>k_is))
  (case gg74=>refine' M.mthx ?qa_74 ?qi_74 ?ql_74 ?qc_74 ?qk_74; (case qa_74=>k_is); (case qi_74=>k_is); (case ql_74=>k_is); (case qc_74=>k_is); (case qk_74=>k_is))
  (case gg75=>refine' M.mthx ?qa_75 ?qi_75 ?ql_75 ?qc_75 ?qk_75; (case qa_75=>k_is); (case qi_75=>k_is); (case ql_75=>k_is); (case qc_75=>k_is); (case qk_75=>k_is))
  (case gg76=>refine' M.mthx ?qa_76 ?qi_76 ?ql_76 ?qc_76 ?qk_76; (case qa_76=>k_is); (case qi_76=>k_is); (case ql_76=>k_is); (case qc_76=>k_is); (case qk_76=>k_is))
  (case gg77=>refine' M.mthx ?qa_77 ?qi_77 ?ql_77 ?qc_77 ?qk_77; (case qa_77=>k_is); (case qi_77=>k_is); (case ql_77=>k_is); (case qc_77=>k_is); (case qk_77=>k_is))
  (case gg78=>refine' M.mthx ?qa_78 ?qi_78 ?ql_78 ?qc_78 ?qk_78; (case qa_78=>k_is); (case qi_78=>k_is); (case ql_78=>k_is); (case qc_78=>k_is); (case qk_78=>k_is))
  (case gg79=>refine' M.mthx ?qa_79 ?qi_79 ?ql_79 ?qc_79 ?qk_79; (case qa_79=>k_is); (case qi_79=>k_is); (case ql_79=>k_is); (case qc_79=>k_is); (case qk_79=>k_is))
  (case gg80=>refine' M.mthx ?qa_80 ?qi_80 ?ql_80 ?qc_80 ?qk_80; (case qa_80=>k_is); (case qi_80=>k_is); (case ql_80=>k_is); (case qc_80=>k_is); (case qk_80=>k_is))
  (case gg81=>refine' M.mthx ?qa_81 ?qi_81 ?ql_81 ?qc_81 ?qk_81; (case qa_81=>k_is); (case qi_81=>k_is); (case ql_81=>k_is); (case qc_81=>k_is); (case qk_81=>k_is))
  (case gg82=>refine' M.mthx ?qa_82 ?qi_82 ?ql_82 ?qc_82 ?qk_82; (case qa_82=>k_is); (case qi_82=>k_is); (case ql_82=>k_is); (case qc_82=>k_is); (case qk_82=>k_is))
  (case gg83=>refine' M.mthx ?qa_83 ?qi_83 ?ql_83 ?qc_83 ?qk_83; (case qa_83=>k_is); (case qi_83=>k_is); (case ql_83=>k_is); (case qc_83=>k_is); (case qk_83=>k_is))
