import PyProof.Rows.All
import Wide.All
import OpenK.AllK
import Wide.FinOn
import Lean
import PyProof.EqAt
import PyProof.EqKinds
import PyProof.TupleCall
import KE.LcSums
import KE.KDictList
import KE.KDictSum
import PyProof.Rows.SortWalk
import KE.KRevIter
import KE.KListMore
import KE.KEqDict
import PySem.Challenge.RW_passkeep_k33_handles_refused
set_option Elab.async false
set_option linter.all false
set_option maxRecDepth 100000
namespace L2
open PySem PySem.Spec PyProof.Rows
abbrev Key:=Sum Int Str
def ZiW:Key→Value→Bool
 | .inl k,v=>Value.isInt k v
 | .inr x,v=>Value.isStrOf x v
def Zum (w:World):Key→Int
 | .inl k=>hashInt k
 | .inr x=>hashStr w x
theorem ZaB:∀ {k:Key} {v:Value},ZiW k v=true→(∃ i t,k=Sum.inl i∧v=Value.int i t)∨(∃ x t,k=Sum.inr x∧v=Value.str x t)
 | .inl i,v,h=>by
  obtain ⟨t,e⟩:=Value.isInt_shape (k:=i) (v:=v) h
  exact .inl ⟨i,t,rfl,e⟩
 | .inr x,v,h=>by
  obtain ⟨t,e⟩:=Value.isStrOf_shape (x:=x) (v:=v) h
  exact .inr ⟨x,t,rfl,e⟩
theorem Zle (i:Int)(t:Tok):ZiW (.inl i) (.int i t)=true:=by simp [ZiW,Value.isInt]
theorem ZjR (x:Str)(t:Tok):ZiW (.inr x) (.str x t)=true:=by simp [ZiW,Value.isStrOf]
theorem ZqK (a b:Int):decide ((Sum.inl a:Key)=Sum.inl b)=(a == b):=by
 by_cases e:a=b
 ·subst e; simp
 ·have h:¬(Sum.inl a:Key)=Sum.inl b:=fun q=>e (Sum.inl.inj q)
  rw [decide_eq_false h]
  exact (beq_eq_false_iff_ne.mpr e).symm
theorem ZrJ (a b:Str):decide ((Sum.inr a:Key)=Sum.inr b)=decide (a=b):=by
 by_cases e:a=b
 ·subst e; simp
 ·have h:¬(Sum.inr a:Key)=Sum.inr b:=fun q=>e (Sum.inr.inj q)
  rw [decide_eq_false h,decide_eq_false e]
theorem Zra (a:Int)(b:Str):decide ((Sum.inl a:Key)=Sum.inr b)=false:=decide_eq_false (fun q=>nomatch q)
theorem ZqD (a:Str)(b:Int):decide ((Sum.inr a:Key)=Sum.inl b)=false:=decide_eq_false (fun q=>nomatch q)
def ZaF (prog:Program)(w:World):PySem.KeyKind prog w Key where
 is:=ZiW
 hash:=Zum w
 inj:=fun v a b ha hb=>by
  rcases ZaB ha with ⟨i,t,rfl,rfl⟩ | ⟨x,t,rfl,rfl⟩
  ·rcases ZaB hb with ⟨j,u,rfl,e⟩ | ⟨y,u,rfl,e⟩
   ·injection e with e1 _; rw [e1]
   ·exact nomatch e
  ·rcases ZaB hb with ⟨j,u,rfl,e⟩ | ⟨y,u,rfl,e⟩
   ·exact nomatch e
   ·injection e with e1 _; rw [e1]
 byValue:=fun k v h=>by
  rcases ZaB h with ⟨i,t,rfl,rfl⟩ | ⟨x,t,rfl,rfl⟩ <;> rfl
 pyHash:=fun hv h=>by
  rcases ZaB hv with ⟨i,t,rfl,rfl⟩ | ⟨x,t,rfl,rfl⟩
  ·exact wpAny_pyHash_int h
  ·exact wpAny_pyHash_str h
 eqBool:=fun hu hv h=>by
  rcases ZaB hu with ⟨i,t,rfl,rfl⟩ | ⟨x,t,rfl,rfl⟩
  ·rcases ZaB hv with ⟨j,u,rfl,rfl⟩ | ⟨y,u,rfl,rfl⟩
   ·rw [ZqK] at h; exact wpAny_eqBool_int h
   ·rw [Zra] at h; exact SeqAt.EqAt.int_str i t y u _ _ _ _ h
  ·rcases ZaB hv with ⟨j,u,rfl,rfl⟩ | ⟨y,u,rfl,rfl⟩
   ·rw [ZqD] at h; exact SeqAt.EqAt.str_int x t j u _ _ _ _ h
   ·rw [ZrJ] at h; exact wpAny_eqBool_str h
 «strs»:=fun k x t v h=>by
  rcases ZaB h with ⟨i,u,rfl,e⟩ | ⟨y,u,rfl,e⟩
  ·exact nomatch e
  ·injection e with e1 _
   subst e1
   cases v <;> rfl
theorem Zh1 (prog:Program)(w:World)(i:Int)(t:Tok):(ZaF prog w).is (.inl i) (.int i t)=true:=Zle i t
theorem ZhD (prog:Program)(w:World)(x:Str)(t:Tok):(ZaF prog w).is (.inr x) (.str x t)=true:=ZjR x t
end L2
namespace L2
open PySem PySem.Spec PyProof.Rows
inductive V where
 | non | bl (b:Bool) | int (i:Int) | str (x:Str) | byt (b:Array UInt8) | flt (b:UInt64) | ref (a:Addr) | ty (n:String)
 deriving DecidableEq
def RelV:V→Value→Prop
 | .non,u=>u=Value.none
 | .bl b,u=>u=Value.bool b
 | .int i,u=>∃ t,u=Value.int i t
 | .str x,u=>∃ t,u=Value.str x t
 | .byt b,u=>∃ t,u=Value.bytes b t
 | .flt b,u=>∃ t,u=Value.float b t
 | .ref a,u=>u=Value.ref a
 | .ty n,u=>u=Value.type n
abbrev Vals:List V→List Value→Prop:=Paired RelV
theorem Vals.length {xs:List V}{us:List Value}(r:Vals xs us):xs.length=us.length:=Paired.length r
theorem Vals.get:∀ {xs:List V} {us:List Value} {i:Nat} {x:V},Vals xs us→xs[i]? = some x→∃ u,us[i]? = some u∧RelV x u
 | _,_,_,_,.nil,e=>by simp at e
 | _,_,0,_,.cons r _,e=>by simp at e; subst e; exact ⟨_,rfl,r⟩
 | _,_,i+1,x,.cons _ t,e=>by
  obtain ⟨u,h1,h2⟩:=Vals.get (i:=i) (x:=x) t (by simpa using e)
  exact ⟨u,by simpa using h1,h2⟩
theorem Vals.set {x:V}{u:Value}(r:RelV x u):∀ {xs:List V} {us:List Value} (i:Nat),Vals xs us→Vals (xs.set i x) (us.set i u)
 | _,_,_,.nil=>.nil
 | _,_,0,.cons _ t=>.cons r t
 | _,_,i+1,.cons q t=>.cons q (Vals.set r i t)
theorem Vals.append:∀ {xs ys:List V} {us ws:List Value},Vals xs us→Vals ys ws→Vals (xs++ys) (us++ws)
 | _,_,_,_,.nil,s=>s
 | _,_,_,_,.cons r t,s=>.cons r (Vals.append t s)
def RelO:Option V→Option Value→Prop
 | some v,some u=>RelV v u
 | none,none=>True
 | _,_=>False
def KV {κ:Type}:List (κ×V)→List (κ×Value)→Prop:=Paired fun (p:κ×V) (q:κ×Value)=>p.1=q.1∧RelV p.2 q.2
def kV:Key→V
 | .inl i=>.int i
 | .inr x=>.str x
inductive HO where
 | lst (xs:List V)
 | tup (xs:List V)
 | dK (kvs:List (Key×V)) | dT (kvs:List (List Key×V))
 | set (S:Int→Bool) (n:Nat)
 | ins (C dx:Addr) (fs:List (Str×V))
 | own (x:Addr)
 | xd (fs:List (Str×V))
 | met (f x:Addr)
 | rng (lo hi:Int)
 | frz (o:Obj) (u:HO)
 | tbl (ps:Array Value)
 | ext (φ:Heap→Prop)
abbrev Hp:=Addr→Option HO
def upd (H:Hp)(a:Addr)(o:HO):Hp:=fun b=>if b=a then some o else H b
theorem ZaD {H:Hp}{a:Addr}{o:HO}:upd H a o a=some o:=by unfold upd; rw [if_pos rfl]
theorem Zak {H:Hp}{a b:Addr}{o:HO}(h:b≠a):upd H a o b=H b:=by unfold upd; rw [if_neg h]
theorem Zou {H:Hp}{a:Addr}{o u:HO}:upd (upd H a o) a u=upd H a u:=by
 funext b; unfold upd; split <;> rfl
theorem Zsn {H:Hp}{a b:Addr}{o u:HO}(h:H a=some o)(h':H b=some u)(d:o≠u):a≠b:=by
 intro e; subst e; rw [h] at h'; exact d (Option.some.inj h')
theorem Zau {H:Hp}{a b:Addr}{o:HO}(h:H a=some o)(h':H b=none):a≠b:=by
 intro e; subst e; rw [h] at h'; cases h'
section
variable (P:Program) (w:World)
def ObjOk (H:Hp)(h:Heap)(a:Addr):HO→Prop
 | .lst xs=>xs.length≤sizeLine∧∃ (its:List Value) (n:Nat),Vals xs its∧h.get? a=some { cls:=.type "list",data:=.seq its.toArray n }
 | .tup xs=>xs.length≤sizeLine∧∃ its:List Value,Vals xs its∧IsTup h a its.toArray
 | .dK kvs=>kvs.length≤sizeLine∧(a == sysModules)=false∧∃ vs,KV kvs vs∧h.DictOf (ZaF P w) a vs
 | .dT kvs=>kvs.length≤sizeLine∧(a == sysModules)=false∧∃ xs:List (List Key×Addr×Value),
   Paired (fun (p:List Key×V) (q:List Key×Addr×Value)=>p.1=q.1∧H q.2.1=some (.tup (p.1.map kV))∧RelV p.2 q.2.2) kvs xs ∧
   ∃ o es ep,h.get? a=some o∧o.ExactDict∧o.data=.dict es ep∧es.toList=xs.map (entryOfKey (tupleKind (ZaF P w)))∧(xs.map (·.1)).Nodup
 | .set S n=>h.SetOf (intKind P w) a S n
 | .ins C dx fs=>H dx=some (.own a)∧fs.length≤1000∧dx≠a∧h.get? a=some (PySem.W.instObj C dx) ∧
   ∃ mA,h.Ns1 dx mA∧(∀ f,RelO (fs.lookup f) (mA f))∧PySem.Within mA (fs.map (·.1))
 | .own _=>∃ o,h.get? a=some o
 | .xd fs=>∃ mA,h.Ns1 a mA∧∀ f,RelO (fs.lookup f) (mA f)
 | .rng lo hi=>∃ t u v,h.get? a=some { cls:=.type "range",data:=.fields #[.int lo t,.int hi u,.int 1 v] }
 | .frz o u=>h.get? a=some o∧ObjOk H h a u
 | .tbl ps=>h.get? a=some { cls:=.none,data:=.fields ps }
 | .met f x=>h.get? a=some (PySem.W.methodObj (.ref f) (.ref x))
 | .ext φ=>φ h∧(∃ o,h.get? a=some o)∧∀ h1 h2:Heap,φ h1→(∀ o,h1.get? a=some o→h2.get? a=some o)→φ h2
def HOk (H:Hp)(h:Heap):Prop:=∀ a o,H a=some o→ObjOk P w H h a o
end
section
variable {P:Program} {w:World} {H H':Hp} {h h':Heap} {a:Addr} {o:HO}
theorem ObjOk.lt (x:ObjOk P w H h a o):a<h.objs.size:=by
 cases o with
 | lst xs=>obtain ⟨_,_,_,_,e⟩:=x; exact Heap.lt_size e
 | tup xs=>obtain ⟨_,_,_,p⟩:=x; exact p.lt
 | dK kvs=>obtain ⟨_,_,_,_,o,_,_,e,_⟩:=x; exact Heap.lt_size e
 | dT kvs=>obtain ⟨_,_,_,_,o,_,_,e,_⟩:=x; exact Heap.lt_size e
 | set S n=>obtain ⟨o,_,_,_,e,_⟩:=x; exact Heap.lt_size e
 | ins C dx fs=>obtain ⟨_,_,_,e,_⟩:=x; exact Heap.lt_size e
 | own y=>obtain ⟨_,e⟩:=x; exact Heap.lt_size e
 | xd fs=>obtain ⟨_,⟨_,_,_,e,_⟩,_⟩:=x; exact Heap.lt_size e
 | rng lo hi=>obtain ⟨_,_,_,e⟩:=x; exact Heap.lt_size e
 | frz ob u=>obtain ⟨e,_⟩:=x; exact Heap.lt_size e
 | tbl ps=>exact Heap.lt_size (show h.get? a=some _ from x)
 | met f y=>exact Heap.lt_size (show h.get? a=some _ from x)
 | ext φ=>obtain ⟨_,⟨_,e⟩,_⟩:=x; exact Heap.lt_size e
theorem Paired.mapP {α β:Type}{F G:α→β→Prop}:∀ {l₁:List α} {l₂:List β},Paired F l₁ l₂→(∀ a b,F a b→G a b)→Paired G l₁ l₂
 | _,_,.nil,_=>.nil
 | _,_,.cons r t,f=>.cons (f _ _ r) (Paired.mapP t f)
theorem ObjOk.stay (x:ObjOk P w H h a o)(k:∀ b u,(b=a∨H b=some (.own a))→h.get? b=some u→h'.get? b=some u)
  (ho:∀ b,H b=some (.own a)→H' b=some (.own a)) (ht:∀ b xs,H b=some (.tup xs)→H' b=some (.tup xs)):ObjOk P w H' h' a o:=by
 induction o with
 | lst xs=>obtain ⟨z,its,n,r,e⟩:=x; exact ⟨z,its,n,r,k _ _ (.inl rfl) e⟩
 | tup xs=>obtain ⟨z,its,r,ob,e,c⟩:=x; exact ⟨z,its,r,ob,k _ _ (.inl rfl) e,c⟩
 | dK kvs=>obtain ⟨z,y,vs,r,ob,es,ep,e,c⟩:=x; exact ⟨z,y,vs,r,ob,es,ep,k _ _ (.inl rfl) e,c⟩
 | dT kvs=>
  obtain ⟨z,y,xs,r,ob,es,ep,e,c⟩:=x
  exact ⟨z,y,xs,Paired.mapP r fun p q z=>⟨z.1,ht _ _ z.2.1,z.2.2⟩,ob,es,ep,k _ _ (.inl rfl) e,c⟩
 | set S n=>obtain ⟨ob,es,ep,t,e,c⟩:=x; exact ⟨ob,es,ep,t,k _ _ (.inl rfl) e,c⟩
 | ins C dx fs=>
  obtain ⟨d,z,ne,e,mA,⟨od,es,ep,e2,c⟩,r⟩:=x
  exact ⟨ho _ d,z,ne,k _ _ (.inl rfl) e,mA,⟨od,es,ep,k _ _ (.inr d) e2,c⟩,r⟩
 | own y=>obtain ⟨ob,e⟩:=x; exact ⟨ob,k _ _ (.inl rfl) e⟩
 | xd fs=>obtain ⟨mA,⟨od,es,ep,e,c⟩,r⟩:=x; exact ⟨mA,⟨od,es,ep,k _ _ (.inl rfl) e,c⟩,r⟩
 | rng lo hi=>obtain ⟨t,u,v,e⟩:=x; exact ⟨t,u,v,k _ _ (.inl rfl) e⟩
 | frz ob u ih=>obtain ⟨e,q⟩:=x; exact ⟨k _ _ (.inl rfl) e,ih q⟩
 | tbl ps=>
  have e:h.get? a=some { cls:=.none,data:=.fields ps }:=x
  show h'.get? a=some { cls:=.none,data:=.fields ps }
  exact k a _ (.inl rfl) e
 | met f y=>
  have e:h.get? a=some (PySem.W.methodObj (.ref f) (.ref y)):=x
  show h'.get? a=some (PySem.W.methodObj (.ref f) (.ref y))
  exact k a _ (.inl rfl) e
 | ext φ=>obtain ⟨p,⟨o,e⟩,st⟩:=x; exact ⟨st _ _ p fun o q=>k _ _ (.inl rfl) q,⟨o,k _ _ (.inl rfl) e⟩,st⟩
theorem HOk.lt (x:HOk P w H h)(e:H a=some o):a<h.objs.size:=(x a o e).lt
theorem HOk.fresh (x:HOk P w H h)(e:h.objs.size≤a):H a=none:=by
 cases q:H a with
 | none=>rfl
 | some u=>exact absurd (Nat.lt_of_lt_of_le (x.lt q) e) (Nat.lt_irrefl _)
theorem HOk.kept (x:HOk P w H h)(k:∀ b u,h.get? b=some u→h'.get? b=some u):HOk P w H h':=fun a o e=>
 (x a o e).stay (fun b u _ q=>k b u q) (fun _ q=>q) fun _ _ q=>q
theorem HOk.laid (x:HOk P w H h)(k:∀ b u,h.get? b=some u→h'.get? b=some u)(hp:h.objs.size≤a)(new:ObjOk P w (upd H a o) h' a o):HOk P w (upd H a o) h':=fun b u e=>by
 have hn:=x.fresh hp
 by_cases hb:b=a
 ·subst hb; rw [ZaD] at e; cases e; exact new
 ·rw [Zak hb] at e
  exact (x b u e).stay (fun c v _ q=>k c v q) (fun c q=>by rw [Zak (Zau q hn)]; exact q) fun c xs q=>by rw [Zak (Zau q hn)]; exact q
end
def Rd (H:Hp)(a:Addr)(u:HO):Prop:=H a=some u∨∃ o,H a=some (.frz o u)
theorem Rd.of {H:Hp}{a:Addr}{u:HO}(h:H a=some u):Rd H a u:=.inl h
theorem Rd.ok {P:Program}{w:World}{H:Hp}{h:Heap}{a:Addr}{u:HO}(r:Rd H a u)(x:HOk P w H h):ObjOk P w H h a u:=by
 rcases r with r | ⟨o,r⟩
 ·exact x a u r
 ·obtain ⟨_,q⟩:=x a _ r
  exact q
def Mut:Option HO→Prop
 | some (.lst _)=>True
 | some (.dK _)=>True
 | some (.dT _)=>True
 | some (.set _ _)=>True
 | some (.ins _ _ _)=>True
 | some (.ext _)=>True
 | _=>False
section
variable {P:Program} {w:World} {H:Hp} {h h':Heap} {x e:Addr} {o':HO}
theorem HOk.write (ok:HOk P w H h)(mu:Mut (H x))(he:e=x∨H e=some (.own x))(k:∀ b u,b≠e→h.get? b=some u→h'.get? b=some u)(heo:∃ u,h'.get? e=some u)
  (new:ObjOk P w (upd H x o') h' x o'):HOk P w (upd H x o') h':=fun b u q=>by
 have nown:∀ c y,H c=some (.own y)→c≠x:=fun c y r z=>by subst z; rw [r] at mu; exact mu
 have ntup:∀ c xs,H c=some (.tup xs)→c≠x:=fun c xs r z=>by subst z; rw [r] at mu; exact mu
 by_cases hb:b=x
 ·subst hb; rw [ZaD] at q; cases q; exact new
 ·rw [Zak hb] at q
  by_cases hbe:b=e
  ·have q':H b=some (.own x):=by
    rcases he with z | z
    ·exact absurd (hbe.trans z) hb
    ·rw [hbe]; exact z
   rw [q] at q'; cases q'
   obtain ⟨v,hv⟩:=heo
   exact ⟨v,by rw [hbe]; exact hv⟩
  ·refine (ok b u q).stay (fun c v hc r=>k c v ?_ r) (fun c r=>by rw [Zak (nown c b r)]; exact r) fun c xs r=>by rw [Zak (ntup c xs r)]; exact r
   rcases hc with rfl | hc
   ·exact hbe
   ·rintro rfl
    rcases he with z | z
    ·exact nown c b hc z
    ·rw [hc] at z; cases z; exact hb rfl
end
structure Un (fs ex:List Addr)(H H':Hp)(h h':Heap):Prop where
 keep:∀ b o,h.get? b=some o→H b=none→b ∉ fs→b ∉ ex→h'.get? b=some o
 slot:∀ b o,h.get? b=some o→H b=none→b∈fs→b ∉ ex→∃ sl,h'.get? b=some { o with slots:=sl }
 free:∀ b o,h.get? b=some o→H b=none→b ∉ ex→H' b=none
 there:∀ b o,h.get? b=some o→b ∉ ex→∃ o',h'.get? b=some o'
 tups:∀ b xs,H b=some (.tup xs)→H' b=some (.tup xs)
 frzs:∀ b o u,H b=some (.frz o u)→H' b=some (.frz o u)
 tbls:∀ b ps,H b=some (.tbl ps)→∃ more,H' b=some (.tbl (ps++more))
section
variable {fs fs' ex ex':List Addr} {H H1 H2:Hp} {h h1 h2 h':Heap} {a x e:Addr} {o:HO}
theorem Un.any (u:Un fs ex H H1 h h1){b:Addr}{ob:Obj}(q:h.get? b=some ob)(n:H b=none)(hx:b ∉ ex):∃ sl,h1.get? b=some { ob with slots:=sl }:=by
 by_cases hb:b∈fs
 ·exact u.slot b ob q n hb hx
 ·exact ⟨ob.slots,u.keep b ob q n hb hx⟩
theorem Un.kept (k:∀ b u,h.get? b=some u→h'.get? b=some u):Un fs ex H H h h':=
 ⟨fun b ob q _ _ _=>k b ob q,fun b ob q _ _ _=>⟨ob.slots,k b ob q⟩,fun _ _ _ n _=>n,fun b ob q _=>⟨ob,k b ob q⟩,fun _ _ q=>q,fun _ _ _ q=>q,fun _ ps q=>⟨#[],by rw [q]; simp⟩⟩
theorem Un.refl:Un fs ex H H h h:=Un.kept fun _ _ q=>q
theorem Un.laid (k:∀ b u,h.get? b=some u→h'.get? b=some u)(hp:h.objs.size≤a)(hn:H a=none):Un fs ex H (upd H a o) h h' where
 keep:=fun b u q _ _ _=>k b u q
 slot:=fun b u q _ _ _=>⟨u.slots,k b u q⟩
 free:=fun b u q n _=>by rw [Zak (Nat.ne_of_lt (Nat.lt_of_lt_of_le (Heap.lt_size q) hp))]; exact n
 there:=fun b u q _=>⟨u,k b u q⟩
 tups:=fun b xs q=>by rw [Zak (Zau q hn)]; exact q
 frzs:=fun b u xs q=>by rw [Zak (Zau q hn)]; exact q
 tbls:=fun b ps q=>⟨#[],by rw [Zak (Zau q hn),q]; simp⟩
theorem Un.write (mu:Mut (H x))(he:e=x∨H e=some (.own x))(k:∀ b u,b≠e→h.get? b=some u→h'.get? b=some u)(heo:∃ u,h'.get? e=some u):Un fs ex H (upd H x o) h h':=by
 have hx:∀ b,H b=none→b≠x:=fun b n z=>by subst z; rw [n] at mu; exact mu
 have hb:∀ b,H b=none→b≠e:=fun b n z=>by
  subst z
  rcases he with r | r
  ·exact hx b n r
  ·rw [n] at r; cases r
 have hm:∀ b u,H b=some u→¬Mut (some u)→b≠x:=fun b u q nm z=>by subst z; rw [q] at mu; exact nm mu
 refine ⟨fun b u q n _ _=>k b u (hb b n) q,fun b u q n _ _=>⟨u.slots,k b u (hb b n) q⟩,fun b u q n _=>by rw [Zak (hx b n)]; exact n,fun b u q _=>?_,
  fun b xs q=>by rw [Zak (hm b _ q fun z=>z)]; exact q,fun b u xs q=>by rw [Zak (hm b _ q fun z=>z)]; exact q,fun b ps q=>⟨#[],by rw [Zak (hm b _ q fun z=>z),q]; simp⟩⟩
 by_cases hbe:b=e
 ·subst hbe; exact heo
 ·exact ⟨u,k b u hbe q⟩
end
def trk (h:Heap)(H:Hp):List Addr:=(List.range h.objs.size).filter fun a=>(H a).isSome
def ZmJ (h:Heap)(H:Hp):Heap:=PySem.W.hideAll h (trk h H)
theorem Zk6 (h:Heap)(H:Hp):(ZmJ h H).objs.size=h.objs.size:=PySem.W.hideAll_size _ _
theorem Zmn {h:Heap}{H:Hp}{b:Addr}{o:Obj}(e:h.get? b=some o)(n:H b=none):(ZmJ h H).get? b=some o:=
 PySem.W.hideAll_get _ e fun hm=>by
  have q:(H b).isSome=true:=(List.mem_filter.mp hm).2
  rw [n] at q; simp at q
theorem ZoJ {h:Heap}{H:Hp}{b:Addr}{o:Obj}(e:(ZmJ h H).get? b=some o):h.get? b=some o∧H b=none:=by
 have e':h.get? b=some o:=PySem.W.of_hideAll (trk h H) e
 refine ⟨e',?_⟩
 cases q:H b with
 | none=>rfl
 | some x=>
  have hm:b∈trk h H:=List.mem_filter.mpr ⟨List.mem_range.mpr (Heap.lt_size e'),by simp [q]⟩
  have z:(ZmJ h H).get? b=none:=PySem.W.hideAll_none (trk h H) hm
  rw [z] at e; cases e
end L2
namespace L2
open PySem PySem.Spec PyProof.Rows
structure Mod (K:PySem.W.Frag)(mg:Str→Option Value)(base:Heap):Prop where
 kin:K.In base
 glob:base.Ns mainGlobals mg
 blt:∃ mb,base.Ns builtinsNs mb∧∀ x:Str,x≠"__name__"→mb x=bootBuiltins x
 nolimit:base.NoLimit
structure Cx where
 prog:Program
 w:World
 K:PySem.W.Frag
 mg:Str→Option Value
 base:Heap
 A:Around
 N:List Str
 s₀:Shared
 H₀:Hp
 env:Env
 outer:List Env
 stack:List Env
 ex:List Addr
 fn:Str→Bool
 calm:Bool
 pn:List (Addr×Obj)
 xe:Value→Shared→Prop
def frs (l:List Env):List Addr:=l.filterMap (·.frame)
abbrev Cx.fs (X:Cx):List Addr:=frs X.outer
def Vis (sc:Scope)(x:Str):Prop:=sc.names.lookup x=some .local∨sc.names.lookup x=some .cell∨sc.names.lookup x=some .free
def Loc (sc:Scope)(x:Str):Prop:=sc.names.lookup x=some .local∨sc.names.lookup x=some .cell
def Zul (env:Env)(h:Heap)(m:Str→Option Value)(x:Str)(u:Value):Prop:=
 (env.kindOf x=some .local∧m x=some u)∨((env.kindOf x=some .cell∨env.kindOf x=some .free)∧∃ c,env.cells.lookup x=some c∧h.IsCell c (some u))
structure Cx.Ok (X:Cx):Prop where
 mod:Mod X.K X.mg X.base
 kind:X.env.scope.kind=.function
 glob:X.env.globals=mainGlobals
 blt:X.env.builtins=builtinsNs
 above:X.s₀.heap.objs.size≤X.env.locals
 inj:∀ x y c,X.env.cells.lookup x=some c→X.env.cells.lookup y=some c→x=y
 has:∀ x,(X.env.kindOf x=some .cell∨X.env.kindOf x=some .free)→∃ c,X.env.cells.lookup x=some c
 cab:∀ x c,X.fn x=true→X.env.cells.lookup x=some c→X.s₀.heap.objs.size≤c
 hd:X.calm=true→X.A.handled=none
 frames:X.A.frames=some X.stack
 stk:X.stack=X.outer∨(X.stack=X.env::X.outer∧X.env.frame=some X.env.locals)
 exf:∀ b∈X.ex,b≠X.env.locals∧∀ x c,X.env.cells.lookup x=some c→c≠b
 bs:∀ b o,X.base.get? b=some o→X.s₀.heap.get? b=some o∧X.H₀ b=none
 bsz:X.base.objs.size≤X.s₀.heap.objs.size
 noex:∀ b o,X.base.get? b=some o→b ∉ X.ex
 exfs:∀ b∈X.ex,b ∉ X.fs
 funs:X.s₀.heap.FunFrames X.base X.outer
 frf:∀ b∈X.fs,X.H₀ b=none
structure Inv (X:Cx)(pins:List (Addr×Obj))(σ:List (Option V))(H:Hp)(s:Shared):Prop where
 ok:X.Ok
 os:s.os=X.s₀.os
 bare:AllBare s.gens
 base:Un X.fs X.ex X.H₀ H X.s₀.heap s.heap
 loc:∃ m,s.heap.Ns X.env.locals m∧∀ (i:Nat) (x:Str) (v:V),X.N[i]? = some x→σ[i]? = some (some v)→Vis X.env.scope x→∃ u,RelV v u∧Zul X.env s.heap m x u
 cell:∀ x c,X.env.cells.lookup x=some c→∃ v,s.heap.IsCell c v
 free:H X.env.locals=none
 freeC:∀ x c,X.env.cells.lookup x=some c→H c=none
 pin:∀ p∈X.pn++pins,s.heap.get? p.1=some p.2∧H p.1=none∧p.1≠X.env.locals∧p.1 ∉ X.fs∧∀ v,p.2.data≠.cell v
 hok:HOk X.prog X.w H s.heap
 len:σ.length=X.N.length
section
variable {X:Cx} {pins:List (Addr×Obj)} {σ:List (Option V)} {H H':Hp} {s:Shared} {h':Heap}
theorem Cx.Ok.nofr (ok:X.Ok){b:Addr}{o:Obj}(e:X.base.get? b=some o):b ∉ X.fs:=fun hb=>by
 have:=(ok.funs.mem hb).1
 rw [e] at this; cases this
theorem Inv.bs (I:Inv X pins σ H s):∀ b o,X.base.get? b=some o→s.heap.get? b=some o∧H b=none:=fun b o e=>
 ⟨I.base.keep b o (I.ok.bs b o e).1 (I.ok.bs b o e).2 (I.ok.nofr e) (I.ok.noex b o e),I.base.free b o (I.ok.bs b o e).1 (I.ok.bs b o e).2 (I.ok.noex b o e)⟩
theorem Inv.bk (I:Inv X pins σ H s):∀ b o,X.base.get? b=some o→s.heap.get? b=some o:=fun b o e=>(I.bs b o e).1
theorem Inv.mod (I:Inv X pins σ H s):Mod X.K X.mg X.base:=I.ok.mod
theorem Inv.kIn (I:Inv X pins σ H s):X.K.In s.heap:=I.ok.mod.kin.keeps I.bk
theorem Inv.lt (I:Inv X pins σ H s):X.env.locals<s.heap.objs.size:=let ⟨_,hn,_⟩:=I.loc; hn.lt
theorem Inv.sz (I:Inv X pins σ H s):X.s₀.heap.objs.size≤s.heap.objs.size:=Nat.le_trans I.ok.above (Nat.le_of_lt I.lt)
theorem Inv.nofs (I:Inv X pins σ H s){a:Addr}(h:s.heap.objs.size≤a):a ∉ X.fs:=fun hb=>by
 obtain ⟨_,o,ho,_⟩:=I.ok.funs.mem hb
 exact absurd (Nat.lt_of_lt_of_le (Heap.lt_size ho) (Nat.le_trans I.sz h)) (Nat.lt_irrefl _)
theorem Inv.cne (I:Inv X pins σ H s):∀ x c,X.env.cells.lookup x=some c→c≠X.env.locals:=fun x c e z=>by
 obtain ⟨v,o,ho,hd⟩:=I.cell x c e
 obtain ⟨m,⟨o',es,ep,ho',hd',_⟩,_⟩:=I.loc
 rw [z,ho'] at ho; cases ho; rw [hd'] at hd; cases hd
theorem Inv.funs (I:Inv X pins σ H s):s.heap.FunFrames X.base X.outer:=by
 have all:∀ (l:List Env),(∀ b∈frs l,b∈X.fs)→X.s₀.heap.FunFrames X.base l→s.heap.FunFrames X.base l:=by
  intro l
  induction l with
  | nil=>intro _ _; trivial
  | cons env r ih=>
   intro hs hl
   obtain ⟨hk,⟨L,o,hf,hn,ho,hd⟩,hr⟩:=hl
   have hL:L∈X.fs:=hs L (by unfold frs; rw [List.filterMap_cons,hf]; exact List.mem_cons_self)
   obtain ⟨sl,e⟩:=I.base.slot L o ho (I.ok.frf L hL) hL fun z=>I.ok.exfs L z hL
   exact ⟨hk,⟨L,_,hf,hn,e,hd⟩,ih (fun b hb=>hs b (by unfold frs; rw [List.filterMap_cons,hf]; exact List.mem_cons_of_mem _ hb)) hr⟩
 exact all X.outer (fun _ hb=>hb) I.ok.funs
theorem Inv.stack (I:Inv X pins σ H s):s.heap.FunFrames X.base X.stack:=by
 rcases I.ok.stk with e | ⟨e,hf⟩
 ·rw [e]; exact I.funs
 ·rw [e]
  obtain ⟨m,hn,_⟩:=I.loc
  refine .cons (by rw [I.ok.kind]; decide) hf hn ?_ I.funs
  exact Heap.get?_none_of_le (Nat.le_trans I.ok.bsz I.ok.above)
theorem Inv.stkSub (I:Inv X pins σ H s):∀ b∈frs X.stack,b∈X.env.locals::X.fs:=fun b hb=>by
 rcases I.ok.stk with e | ⟨e,hf⟩
 ·rw [e] at hb; exact List.mem_cons_of_mem _ hb
 ·rw [e] at hb
  unfold frs at hb
  rw [List.filterMap_cons,hf] at hb
  exact hb
theorem Inv.stkFree (I:Inv X pins σ H s):∀ b∈frs X.stack,H b=none:=fun b hb=>by
 rcases List.mem_cons.mp (I.stkSub b hb) with e | hb
 ·rw [e]; exact I.free
 ·obtain ⟨_,o,ho,_⟩:=I.ok.funs.mem hb
  exact I.base.free b o ho (I.ok.frf b hb) fun z=>I.ok.exfs b z hb
theorem Inv.step {g':Array GenState}{t':Nat}{d':Drawn}{ch:List Addr}(I:Inv X pins σ H s)
  (hch:∀ b∈ch,(b∈X.ex∨X.s₀.heap.objs.size≤b)∧b≠X.env.locals∧(∀ x c,X.env.cells.lookup x=some c→c≠b)∧∀ p∈X.pn++pins,p.1≠b)
  (keep:∀ b o,b≠X.env.locals→b ∉ X.fs→b ∉ ch→s.heap.get? b=some o→H b=none→h'.get? b=some o)
  (slot:∀ b o,b≠X.env.locals→b∈X.fs→b ∉ ch→s.heap.get? b=some o→H b=none→∃ sl,h'.get? b=some { o with slots:=sl }) (free:∀ b o,b ∉ ch→s.heap.get? b=some o→H b=none→H' b=none)
  (there:∀ b o,b ∉ ch→s.heap.get? b=some o→∃ o',h'.get? b=some o')
  (tups:∀ b xs,H b=some (.tup xs)→H' b=some (.tup xs)) (frzs:∀ b o u,H b=some (.frz o u)→H' b=some (.frz o u)) (tbls:∀ b ps,H b=some (.tbl ps)→∃ more,H' b=some (.tbl (ps++more)))
  (ns:∀ m,s.heap.Ns X.env.locals m→h'.Ns X.env.locals m) (hok:HOk X.prog X.w H' h') (hg:AllBare g') :
  Inv X pins σ H' { s with heap:=h',gens:=g',drawn:=d',toks:=t' }:=by
 have neL:∀ b o,X.s₀.heap.get? b=some o→b≠X.env.locals:=fun b o e=>Nat.ne_of_lt (Nat.lt_of_lt_of_le (Heap.lt_size e) I.ok.above)
 have neC:∀ b o,X.s₀.heap.get? b=some o→b ∉ X.ex→b ∉ ch:=fun b o e hx hb=>by
  rcases (hch b hb).1 with z | z
  ·exact hx z
  ·exact absurd (Nat.lt_of_lt_of_le (Heap.lt_size e) z) (Nat.lt_irrefl _)
 have cellK:∀ x c,X.env.cells.lookup x=some c→∀ v,s.heap.IsCell c v→h'.IsCell c v:=fun x c e v ⟨o,ho,hd⟩=>by
  have nch:c ∉ ch:=fun z=>(hch c z).2.2.1 x c e rfl
  by_cases hc:c∈X.fs
  ·obtain ⟨sl,q⟩:=slot c o (I.cne x c e) hc nch ho (I.freeC x c e)
   exact ⟨_,q,hd⟩
  ·exact ⟨o,keep c o (I.cne x c e) hc nch ho (I.freeC x c e),hd⟩
 refine ⟨I.ok,I.os,hg,⟨fun b o e n hb hx=>?_,fun b o e n hb hx=>?_,fun b o e n hx=>?_,fun b o e hx=>?_,fun b xs e=>tups b xs (I.base.tups b xs e),fun b o xs e=>frzs b o xs (I.base.frzs b o xs e),fun b ps e=>?_⟩,?_,fun x c e=>?_,?_,fun x c e=>?_,fun p hp=>?_,hok,I.len⟩
 ·exact keep b o (neL b o e) hb (neC b o e hx) (I.base.keep b o e n hb hx) (I.base.free b o e n hx)
 ·obtain ⟨sl,e1⟩:=I.base.slot b o e n hb hx
  obtain ⟨sl',e2⟩:=slot b _ (neL b o e) hb (neC b o e hx) e1 (I.base.free b o e n hx)
  exact ⟨sl',e2⟩
 ·obtain ⟨o',e1⟩:=I.base.there b o e hx
  exact free b o' (neC b o e hx) e1 (I.base.free b o e n hx)
 ·obtain ⟨o',e1⟩:=I.base.there b o e hx
  exact there b o' (neC b o e hx) e1
 ·obtain ⟨m1,e1⟩:=I.base.tbls b ps e
  obtain ⟨m2,e2⟩:=tbls b _ e1
  exact ⟨m1++m2,by rw [e2,Array.append_assoc]⟩
 ·obtain ⟨m,hn,hl⟩:=I.loc
  refine ⟨m,ns m hn,fun i x v e1 e2 e3=>?_⟩
  obtain ⟨u,r,l⟩:=hl i x v e1 e2 e3
  refine ⟨u,r,?_⟩
  rcases l with l | ⟨k,c,e,z⟩
  ·exact .inl l
  ·exact .inr ⟨k,c,e,cellK x c e _ z⟩
 ·obtain ⟨v,z⟩:=I.cell x c e
  exact ⟨v,cellK x c e v z⟩
 ·obtain ⟨m,⟨o,_,_,ho,_⟩,_⟩:=I.loc
  exact free _ o (fun z=>(hch _ z).2.1 rfl) ho I.free
 ·obtain ⟨v,o,ho,hd⟩:=I.cell x c e
  exact free c o (fun z=>(hch c z).2.2.1 x c e rfl) ho (I.freeC x c e)
 ·obtain ⟨e,n,ne,nf,d⟩:=I.pin p hp
  have nch:p.1 ∉ ch:=fun z=>(hch p.1 z).2.2.2 p hp rfl
  exact ⟨keep p.1 p.2 ne nf nch e n,free p.1 p.2 nch e n,ne,nf,d⟩
theorem Inv.un {t':Nat}(I:Inv X pins σ H s)(u:Un X.fs [] H H' s.heap h')(hok:HOk X.prog X.w H' h'):Inv X pins σ H' { s with heap:=h',toks:=t' }:=by
 obtain ⟨m,⟨o,es,ep,ho,r⟩,_⟩:=id I.loc
 obtain ⟨sl,hL⟩:=u.any ho I.free (by simp)
 exact I.step (g':=s.gens) (d':=s.drawn) (ch:=[]) (fun _ z=>nomatch z) (fun b o _ hb _ e n=>u.keep b o e n hb (by simp)) (fun b o _ hb _ e n=>u.slot b o e n hb (by simp)) (fun b o _ e n=>u.free b o e n (by simp)) (fun b o _ e=>u.there b o e (by simp)) u.tups u.frzs u.tbls (fun m' hm=>by
  obtain ⟨o',es',ep',ho',r'⟩:=hm
  rw [ho] at ho'; cases ho'
  exact ⟨_,es',ep',hL,r'⟩) hok I.bare
theorem Inv.call {g':Array GenState}{t':Nat}{d':Drawn}{ch:List Addr}(I:Inv X pins σ H s)(u:Un (frs X.stack) ch H H' s.heap h')(hok:HOk X.prog X.w H' h')(hg:AllBare g')
  (hch:∀ b∈ch,(b∈X.ex∨X.s₀.heap.objs.size≤b)∧b≠X.env.locals∧(∀ x c,X.env.cells.lookup x=some c→c≠b)∧∀ p∈X.pn++pins,p.1≠b) :
  Inv X pins σ H' { s with heap:=h',gens:=g',drawn:=d',toks:=t' }:=by
 obtain ⟨m,⟨o,es,ep,ho,r⟩,_⟩:=id I.loc
 obtain ⟨sl,hL⟩:=u.any ho I.free fun z=>(hch _ z).2.1 rfl
 exact I.step (ch:=ch) hch (fun b o hL hb hc e n=>u.keep b o e n (fun z=>(List.mem_cons.mp (I.stkSub b z)).elim hL hb) hc) (fun b o _ _ hc e n=>u.any e n hc) (fun b o hc e n=>u.free b o e n hc) (fun b o hc e=>u.there b o e hc) u.tups u.frzs u.tbls (fun m' hm=>by
  obtain ⟨o',es',ep',ho',r'⟩:=hm
  rw [ho] at ho'; cases ho'
  exact ⟨_,es',ep',hL,r'⟩) hok hg
theorem Inv.turned {t':Nat}{it:Addr}(I:Inv X pins σ H s)(k:∀ b o,b≠it→s.heap.get? b=some o→h'.get? b=some o)(hn:H it=none)(hL:it≠X.env.locals)
  (h1:it∈X.ex∨X.s₀.heap.objs.size≤it) (h2:∀ x c,X.env.cells.lookup x=some c→c≠it) (h3:∀ p∈X.pn++pins,p.1≠it):Inv X pins σ H { s with heap:=h',toks:=t' }:=by
 have nit:∀ b u,H b=some u→b≠it:=fun b u e z=>by rw [z,hn] at e; cases e
 refine I.step (g':=s.gens) (d':=s.drawn) (ch:=[it]) (fun b hb=>?_) (fun b o _ _ hc e _=>k b o (fun z=>hc (by simp [z])) e) (fun b o _ _ hc e _=>⟨o.slots,k b o (fun z=>hc (by simp [z])) e⟩) (fun _ _ _ _ n=>n)
  (fun b o hc e=>⟨o,k b o (fun z=>hc (by simp [z])) e⟩) (fun _ _ e=>e) (fun _ _ _ e=>e) (fun b ps e=>⟨#[],by rw [e]; simp⟩) (fun m hm=>?_) (fun b u e=>?_) I.bare
 ·have e:b=it:=by simpa using hb
  subst e
  exact ⟨h1,hL,h2,h3⟩
 ·obtain ⟨o,es,ep,ho,r⟩:=hm
  exact ⟨o,es,ep,k _ o (Ne.symm hL) ho,r⟩
 ·refine (I.hok b u e).stay (fun c v hc q=>k c v ?_ q) (fun _ q=>q) fun _ _ q=>q
  rcases hc with z | z
  ·rw [z]; exact nit b u e
  ·exact nit c _ z
theorem Inv.tok (I:Inv X pins σ H s)(t:Nat):Inv X pins σ H { s with toks:=t }:=I.un (h':=s.heap) (t':=t) Un.refl I.hok
theorem Inv.kept {t':Nat}(I:Inv X pins σ H s)(k:∀ b u,s.heap.get? b=some u→h'.get? b=some u):Inv X pins σ H { s with heap:=h',toks:=t' }:=I.un (Un.kept k) (I.hok.kept k)
theorem Inv.laid {a:Addr}{o:HO}{t':Nat}(I:Inv X pins σ H s)(k:∀ b u,s.heap.get? b=some u→h'.get? b=some u)(hp:s.heap.objs.size≤a)(new:ObjOk X.prog X.w (upd H a o) h' a o) :
  Inv X pins σ (upd H a o) { s with heap:=h',toks:=t' }:=I.un (Un.laid k hp (I.hok.fresh hp)) (I.hok.laid k hp new)
theorem Inv.write {x e:Addr}{o:HO}{t':Nat}(I:Inv X pins σ H s)(mu:Mut (H x))(he:e=x∨H e=some (.own x))(k:∀ b u,b≠e→s.heap.get? b=some u→h'.get? b=some u)(heo:∃ u,h'.get? e=some u)
  (new:ObjOk X.prog X.w (upd H x o) h' x o):Inv X pins σ (upd H x o) { s with heap:=h',toks:=t' }:=I.un (Un.write mu he k heo) (I.hok.write mu he k heo new)
theorem Inv.weak {σ':List (Option V)}(I:Inv X pins σ H s)(hl:σ'.length=σ.length)(w:∀ (i:Nat) v,σ'[i]? = some (some v)→σ[i]? = some (some v)):Inv X pins σ' H s:=
 ⟨I.ok,I.os,I.bare,I.base,let ⟨m,hn,hl'⟩:=I.loc; ⟨m,hn,fun i x v e1 e2 e3=>hl' i x v e1 (w i v e2) e3⟩,I.cell,I.free,I.freeC,I.pin,I.hok,hl.trans I.len⟩
theorem Inv.pins_of {pins':List (Addr×Obj)}(I:Inv X pins σ H s)(h:∀ p∈pins',s.heap.get? p.1=some p.2∧H p.1=none∧p.1≠X.env.locals∧p.1 ∉ X.fs∧∀ v,p.2.data≠.cell v):Inv X pins' σ H s:=
 ⟨I.ok,I.os,I.bare,I.base,I.loc,I.cell,I.free,I.freeC,fun p hp=>(List.mem_append.mp hp).elim (fun z=>I.pin p (List.mem_append_left _ z)) (h p),I.hok,I.len⟩
theorem ZfY {N:List Str}(hN:N.Nodup){i j:Nat}{x:Str}(a:N[i]? = some x)(b:N[j]? = some x):i=j:=by
 obtain ⟨h1,e1⟩:=List.getElem?_eq_some_iff.mp a
 obtain ⟨h2,e2⟩:=List.getElem?_eq_some_iff.mp b
 exact (List.getElem_inj hN).mp (e1.trans e2.symm)
theorem ZjQ {M:Model}{A:Around}{E:Value→Shared→Prop}{i:Nat}{x:Str}{v:V}{u:Value}{Q:Unit→Shared→Prop}(I:Inv X pins σ H s)(hN:X.N.Nodup)(hi:X.N[i]? = some x)(hx:Loc X.env.scope x)(r:RelV v u)
  (h:∀ s',Inv X pins (σ.set i (some v)) H s'→(∃ a,Heap.SameBut a s.heap s'.heap∧(a=X.env.locals∨X.env.cells.lookup x=some a))→Q () s') (hf:X.fn x=true∨X.env.scope.names.lookup x=some .local:=by first | exact .inl rfl | exact .inr rfl | assumption):wpAny M A (storeName X.env x u) Q E s:=by
 obtain ⟨m,hn,hl⟩:=id I.loc
 have hcls:(X.env.scope.kind == .class || (X.env.scope.kind == .module && X.env.locals != X.env.globals))=false:=by rw [I.ok.kind]; rfl
 have hiσ:i<σ.length:=by rw [I.len]; exact (List.getElem?_eq_some_iff.mp hi).1
 have cne:=I.cne
 have tracked:∀ {a:Addr} {h':Heap},(∃ o,s.heap.get? a=some o∧H a=none)→Heap.SameBut a s.heap h'→HOk X.prog X.w H h':=fun {a h'} ha hs b ob e=>by
  obtain ⟨_,_,hfree⟩:=ha
  refine (I.hok b ob e).stay (fun c w' hc q=>(hs.2 c ?_).trans q) (fun _ q=>q) fun _ _ q=>q
  rintro rfl
  rcases hc with rfl | hc
  ·rw [hfree] at e; cases e
  ·rw [hfree] at hc; cases hc
 rcases hx with hk | hk
 ·refine wpAny_storeName_local hk hn (fun h' hn' hs=>?_) hcls
  obtain ⟨oL,_,_,hoL,_⟩:=id hn
  refine h _ ⟨I.ok,I.os,I.bare,⟨fun b o e n hb hx=>?_,fun b o e n hb hx=>?_,I.base.free,fun b o e hx=>?_,I.base.tups,I.base.frzs,I.base.tbls⟩,⟨_,hn',fun j y v' e1 e2 e3=>?_⟩,fun y c e=>?_,I.free,I.freeC,fun p hp=>?_,tracked ⟨oL,hoL,I.free⟩ hs,by simpa using I.len⟩ ⟨_,hs,.inl rfl⟩
  ·exact (hs.2 b (Nat.ne_of_lt (Nat.lt_of_lt_of_le (Heap.lt_size e) I.ok.above))).trans (I.base.keep b o e n hb hx)
  ·obtain ⟨sl,e1⟩:=I.base.slot b o e n hb hx
   exact ⟨sl,(hs.2 b (Nat.ne_of_lt (Nat.lt_of_lt_of_le (Heap.lt_size e) I.ok.above))).trans e1⟩
  ·obtain ⟨o',e1⟩:=I.base.there b o e hx
   exact ⟨o',(hs.2 b (Nat.ne_of_lt (Nat.lt_of_lt_of_le (Heap.lt_size e) I.ok.above))).trans e1⟩
  ·by_cases hj:j=i
   ·subst hj
    rw [hi] at e1; cases e1
    rw [List.getElem?_set_self hiσ] at e2
    cases e2
    exact ⟨u,r,.inl ⟨hk,by simp⟩⟩
   ·rw [List.getElem?_set_ne (Ne.symm hj)] at e2
    obtain ⟨u',r',q⟩:=hl j y v' e1 e2 e3
    refine ⟨u',r',?_⟩
    rcases q with ⟨k,e⟩ | ⟨k,c,e,z⟩
    ·refine .inl ⟨k,?_⟩
     have:y≠x:=fun e=>hj (ZfY hN e1 (e ▸ hi))
     simp [this,e]
    ·exact .inr ⟨k,c,e,z.sameBut hs (cne y c e)⟩
  ·obtain ⟨w',z⟩:=I.cell y c e
   exact ⟨w',z.sameBut hs (cne y c e)⟩
  ·obtain ⟨e,n,ne,nf,d⟩:=I.pin p hp
   exact ⟨(hs.2 p.1 ne).trans e,n,ne,nf,d⟩
 ·have hfn:X.fn x=true:=by
   rcases hf with z | z
   ·exact z
   ·rw [z] at hk; cases hk
  obtain ⟨c,hc⟩:=I.ok.has x (.inl hk)
  obtain ⟨w',z⟩:=I.cell x c hc
  refine wpAny_storeName_cell I.ok.kind hk hc z (fun h' hc' hs=>?_)
  obtain ⟨oc,hoc,hocd⟩:=id z
  refine h { s with heap:=h' } ⟨I.ok,I.os,I.bare,⟨fun b o e n hb hx=>?_,fun b o e n hb hx=>?_,I.base.free,fun b o e hx=>?_,I.base.tups,I.base.frzs,I.base.tbls⟩,⟨m,hn.sameBut hs (Ne.symm (cne x c hc)),fun j y v' e1 e2 e3=>?_⟩,fun y c' e=>?_,I.free,I.freeC,fun p hp=>?_,tracked ⟨oc,hoc,I.freeC x c hc⟩ hs,by simpa using I.len⟩ ⟨c,hs,.inr hc⟩
  ·exact (hs.2 b (Nat.ne_of_lt (Nat.lt_of_lt_of_le (Heap.lt_size e) (I.ok.cab x c hfn hc)))).trans (I.base.keep b o e n hb hx)
  ·obtain ⟨sl,e1⟩:=I.base.slot b o e n hb hx
   exact ⟨sl,(hs.2 b (Nat.ne_of_lt (Nat.lt_of_lt_of_le (Heap.lt_size e) (I.ok.cab x c hfn hc)))).trans e1⟩
  ·obtain ⟨o',e1⟩:=I.base.there b o e hx
   exact ⟨o',(hs.2 b (Nat.ne_of_lt (Nat.lt_of_lt_of_le (Heap.lt_size e) (I.ok.cab x c hfn hc)))).trans e1⟩
  ·by_cases hj:j=i
   ·subst hj
    rw [hi] at e1; cases e1
    rw [List.getElem?_set_self hiσ] at e2
    cases e2
    exact ⟨u,r,.inr ⟨.inl hk,c,hc,hc'⟩⟩
   ·rw [List.getElem?_set_ne (Ne.symm hj)] at e2
    obtain ⟨u',r',q⟩:=hl j y v' e1 e2 e3
    refine ⟨u',r',?_⟩
    rcases q with q | ⟨k,c',e,z'⟩
    ·exact .inl q
    ·refine .inr ⟨k,c',e,z'.sameBut hs ?_⟩
     rintro rfl
     exact hj (ZfY hN e1 (I.ok.inj _ _ _ e hc ▸ hi))
  ·by_cases hcc:c'=c
   ·subst hcc; exact ⟨_,hc'⟩
   ·obtain ⟨w2,z2⟩:=I.cell y c' e
    exact ⟨w2,z2.sameBut hs hcc⟩
  ·obtain ⟨e,n,ne,nf,d⟩:=I.pin p hp
   refine ⟨(hs.2 p.1 ?_).trans e,n,ne,nf,d⟩
   intro q
   rw [q,hoc] at e
   have q':oc=p.2:=Option.some.inj e
   exact d w' (by rw [← q']; exact hocd)
theorem ZeC {M:Model}{A:Around}{E:Value→Shared→Prop}{i:Nat}{x:Str}{v:V}{u:Value}{Q:Unit→Shared→Prop}(I:Inv X pins σ H s)(hN:X.N.Nodup)(hi:X.N[i]? = some x)(hx:Loc X.env.scope x)(r:RelV v u)
  (h:∀ s',Inv X pins (σ.set i (some v)) H s'→Q () s') (hf:X.fn x=true∨X.env.scope.names.lookup x=some .local:=by first | exact .inl rfl | exact .inr rfl | assumption):wpAny M A (storeName X.env x u) Q E s:=
 ZjQ I hN hi hx r (fun s' I' _=>h s' I') hf
theorem Inv.call' {s':Shared}{ch:List Addr}(I:Inv X pins σ H s)(ho:s'.os=s.os)(u:Un (frs X.stack) ch H H' s.heap s'.heap)(hok:HOk X.prog X.w H' s'.heap)(hg:AllBare s'.gens)
  (hch:∀ b∈ch,(b∈X.ex∨X.s₀.heap.objs.size≤b)∧b≠X.env.locals∧(∀ x c,X.env.cells.lookup x=some c→c≠b)∧∀ p∈X.pn++pins,p.1≠b):Inv X pins σ H' s':=by
 obtain ⟨h',g',d',t',o'⟩:=s'
 have e:o'=s.os:=ho
 subst e
 exact I.call (g':=g') (t':=t') (d':=d') u hok hg hch
end
abbrev XK:=Value→Option Addr→Hp→Prop
abbrev St:=List (Option V)
abbrev VK:=V→Hp→Prop
abbrev TE:=St→Hp→VK→Prop
abbrev TT:=St→Hp→(Bool→Hp→Prop)→Prop
abbrev TA:=St→Hp→(List V→Hp→Prop)→Prop
structure Ends where
 nx:St→Hp→Prop
 rt:VK
 bk:St→Hp→Prop:=fun _ _=>False
 ct:St→Hp→Prop:=fun _ _=>False
abbrev TS:=Ends→St→Hp→Prop
def EP (X:Cx)(pins:List (Addr×Obj))(σ:St)(Q:VK)(u:Value)(s':Shared):Prop:=∃ v H',Inv X pins σ H' s'∧RelV v u∧Q v H'
def TP (X:Cx)(pins:List (Addr×Obj))(σ:St)(Q:Bool→Hp→Prop)(b:Bool)(s':Shared):Prop:=∃ H',Inv X pins σ H' s'∧Q b H'
def AP (X:Cx)(pins:List (Addr×Obj))(σ:St)(Q:List V→Hp→Prop)(us:List Value)(s':Shared):Prop:=∃ vs H',Inv X pins σ H' s'∧Vals vs us∧Q vs H'
def SP (X:Cx)(pins:List (Addr×Obj))(D:Ends)(f:Flow)(s':Shared):Prop:=
 match f with
 | .next=>∃ σ' H',Inv X pins σ' H' s'∧D.nx σ' H'
 | .brk=>∃ σ' H',Inv X pins σ' H' s'∧D.bk σ' H'
 | .cont=>∃ σ' H',Inv X pins σ' H' s'∧D.ct σ' H'
 | .ret u=>∃ v σ' H',Inv X pins σ' H' s'∧RelV v u∧D.rt v H'
def PE (X:Cx)(e:Expr)(t:TE):Prop:=
 ∀ (pins:List (Addr×Obj)) (s:Shared) (σ:St) (H:Hp) (Q:VK),Inv X pins σ H s→t σ H Q→wpAny (model X.prog X.w) X.A (eval e X.env) (EP X pins σ Q) X.xe s
def PT (X:Cx)(e:Expr)(t:TT):Prop:=
 ∀ (pins:List (Addr×Obj)) (s:Shared) (σ:St) (H:Hp) (Q:Bool→Hp→Prop),Inv X pins σ H s→t σ H Q→wpAny (model X.prog X.w) X.A (isTrue e X.env (eval e X.env)) (TP X pins σ Q) X.xe s
def PW (X:Cx)(e:Expr)(t:TT):Prop:=
 ∀ (whole:Sem Value) (pins:List (Addr×Obj)) (s:Shared) (σ:St) (H:Hp) (Q:Bool→Hp→Prop),Inv X pins σ H s→t σ H Q→wpAny (model X.prog X.w) X.A (isTrue e X.env whole) (TP X pins σ Q) X.xe s
theorem PW.pt {X:Cx}{e:Expr}{t:TT}(h:PW X e t):PT X e t:=h _
def PA (X:Cx)(es:List Expr)(t:TA):Prop:=
 ∀ (pos:Pos) (pins:List (Addr×Obj)) (s:Shared) (σ:St) (H:Hp) (Q:List V→Hp→Prop),Inv X pins σ H s→t σ H Q→wpAny (model X.prog X.w) X.A (spliced (backTo pos (starEach es X.env))) (AP X pins σ Q) X.xe s
def PS (X:Cx)(st:Stmt)(t:TS):Prop:=
 ∀ (pins:List (Addr×Obj)) (s:Shared) (σ:St) (H:Hp) (D:Ends),Inv X pins σ H s→t D σ H→wpAny (model X.prog X.w) X.A (exec st X.env) (SP X pins D) X.xe s
def PSs (X:Cx)(st:List Stmt)(t:TS):Prop:=
 ∀ (pins:List (Addr×Obj)) (s:Shared) (σ:St) (H:Hp) (D:Ends),Inv X pins σ H s→t D σ H→wpAny (model X.prog X.w) X.A (execs st X.env) (SP X pins D) X.xe s
theorem thn {α:Type}{t:Sem α}{Q Q':α→Shared→Prop}{M:Model}{A:Around}{E:Value→Shared→Prop}{s:Shared}(h:wpAny M A t Q E s)(hQ:∀ a s,Q a s→Q' a s):wpAny M A t Q' E s:=wpAny_mono h hQ fun _ _ x=>x
end L2
namespace L2
open PySem PySem.Spec PyProof.Rows
section
variable {X:Cx}
def ZqF (i:Nat):TE:=fun σ H Q=>∃ v,σ[i]? = some (some v)∧Q v H
def tC (v:V):TE:=fun _ H Q=>Q v H
theorem ZiJ {i:Nat}{x:Str}{pos:Pos}(hN:X.N[i]? = some x)(hv:Vis X.env.scope x)(hd:(x == ("__debug__":Str))=false:=by decide)(hcd:(x == ("__classdict__":Str))=false:=by decide):PE X (.Name x pos) (ZqF i):=by
 intro pins s σ H Q I h
 obtain ⟨v,e,h⟩:=h
 obtain ⟨m,hn,hl⟩:=I.loc
 obtain ⟨u,r,l⟩:=hl i x v hN e hv
 have fin:EP X pins σ Q u s:=⟨v,H,I,r,h⟩
 rcases l with ⟨hk,hm⟩ | ⟨hk,c,hc,hcell⟩
 ·exact wpAny_Name (wpAny_loadName_local I.ok.kind hk hn hm fin) hd
 ·rcases hk with hk | hk
  ·exact wpAny_Name (wpAny_loadName_cell I.ok.kind hk hc hcell fin) hd
  ·exact wpAny_Name (wpAny_loadName_free I.ok.kind hk hc hcell fin hcd) hd
theorem ZrF {i j pos}:PE X (.Constant (.int i) j pos) (tC (.int i)):=fun _ _ _ H _ I h=>wpAny_Constant_int ⟨.int i,H,I.tok _,⟨_,rfl⟩,h⟩
theorem Zr0 {b j pos}:PE X (.Constant (.bool b) j pos) (tC (.bl b)):=fun _ _ _ H _ I h=>Constant_bool ⟨.bl b,H,I,rfl,h⟩
theorem Zqr {j pos}:PE X (.Constant .none j pos) (tC .non):=fun _ _ _ H _ I h=>Constant_none ⟨.non,H,I,rfl,h⟩
theorem Zns {x j pos}:PE X (.Constant (.str x) j pos) (tC (.str x)):=fun _ _ _ H _ I h=>Calls.Constant_str ⟨.str x,H,I.tok _,⟨_,rfl⟩,h⟩
def Gl (X:Cx)(x:Str):Prop:=X.env.kindOf x=some .globalImplicit
theorem Zck {E:Value→Shared→Prop}{pins:List (Addr×Obj)}{s:Shared}{σ:St}{H:Hp}{x:Str}{u:Value}{pos:Pos}{Q:Value→Shared→Prop}(I:Inv X pins σ H s)(hg:Gl X x)(hm:X.mg x=some u)(h:Q u s)
  (hd:(x == ("__debug__":Str))=false:=by decide):wpAny (model X.prog X.w) X.A (eval (.Name x pos) X.env) Q E s:=
 Calls.Name_function_global I.ok.kind hg (Calls.loadGlobal_global (by rw [I.ok.glob]; exact I.mod.glob.keeps I.bk) hm h) hd
theorem Zfi {E:Value→Shared→Prop}{pins:List (Addr×Obj)}{s:Shared}{σ:St}{H:Hp}{x:Str}{u:Value}{pos:Pos}{Q:Value→Shared→Prop}(I:Inv X pins σ H s)(hg:Gl X x)(hm:X.mg x=none)(hv:bootBuiltins x=some u)(h:Q u s)
  (hn:x≠"__name__":=by decide) (hd:(x == ("__debug__":Str))=false:=by decide):wpAny (model X.prog X.w) X.A (eval (.Name x pos) X.env) Q E s:=by
 obtain ⟨mb,h1,h2⟩:=I.mod.blt
 exact Calls.Name_function_global I.ok.kind hg (Calls.loadGlobal_builtin (by rw [I.ok.glob]; exact I.mod.glob.keeps I.bk) hm (by rw [I.ok.blt]; exact h1.keeps I.bk) ((h2 x hn).trans hv) h) hd
theorem Zo0 {x:Str}{v:V}{u:Value}{pos:Pos}(hg:Gl X x)(hm:X.mg x=some u)(r:RelV v u)(hd:(x == ("__debug__":Str))=false:=by decide):PE X (.Name x pos) (tC v):=
 fun _ _ _ H _ I h=>Zck I hg hm ⟨v,H,I,r,h⟩ hd
theorem Zot {x:Str}{v:V}{u:Value}{pos:Pos}(hg:Gl X x)(hm:X.mg x=none)(hv:bootBuiltins x=some u)(r:RelV v u)(hn:x≠"__name__":=by decide)(hd:(x == ("__debug__":Str))=false:=by decide):PE X (.Name x pos) (tC v):=
 fun _ _ _ H _ I h=>Zfi I hg hm hv ⟨v,H,I,r,h⟩ hn hd
variable {a b:Expr} {ta tb:TE} {pos:Pos}
def tB (t:TE):TT:=fun σ H Q=>t σ H fun x H1=>∃ c,x=.bl c∧Q c H1
theorem Zrc {e:Expr}{t:TE}(h:PE X e t)(he:∀ whole,isTrue e X.env whole=(do let v ← whole; standAt e.pos; holding [v] (truthy v)):=by intro _; rfl):PT X e (tB t):=by
 intro pins s σ H Q I hw
 refine isTrue_plain (thn (h pins s σ H _ I hw) fun v s1 ⟨x,H1,I1,r1,q1⟩=>?_) (he _)
 obtain ⟨d,rfl,q⟩:=q1
 cases r1
 exact wpAny_truthy_bool ⟨H1,I1,q⟩
variable {tA tB':TT} {rest:List Expr}
def Zta (t u:TT):TT:=fun σ H Q=>t σ H fun c H1=>if c=true then u σ H1 Q else Q false H1
def tOr (t u:TT):TT:=fun σ H Q=>t σ H fun c H1=>if c=true then Q true H1 else u σ H1 Q
def Ztd (t:TT):TT:=fun σ H Q=>t σ H fun c H1=>Q (!c) H1
theorem ZoM (ha:PT X a tA):PW X (.BoolOp .And [a] pos) tA:=by
 intro wh pins s σ H Q I h
 refine isTrue_and (thn (ha pins s σ H Q I h) fun c s1 e=>?_)
 cases c with
 | true=>exact isTrue_and_nil e
 | false=>exact e
theorem Zqp (ha:PT X a tA):PW X (.BoolOp .Or [a] pos) tA:=by
 intro wh pins s σ H Q I h
 refine isTrue_or (thn (ha pins s σ H Q I h) fun c s1 e=>?_)
 cases c with
 | false=>exact isTrue_or_nil e
 | true=>exact e
theorem ZrI (ha:PT X a tA)(hb:PW X (.BoolOp .And (b::rest) pos) tB'):PW X (.BoolOp .And (a::b::rest) pos) (Zta tA tB'):=by
 intro wh pins s σ H Q I h
 refine isTrue_and (thn (ha pins s σ H _ I h) fun c s1 ⟨H1,I1,q1⟩=>?_)
 cases c with
 | true=>exact hb wh pins s1 σ H1 Q I1 q1
 | false=>exact ⟨H1,I1,q1⟩
theorem Zse (ha:PT X a tA)(hb:PW X (.BoolOp .Or (b::rest) pos) tB'):PW X (.BoolOp .Or (a::b::rest) pos) (tOr tA tB'):=by
 intro wh pins s σ H Q I h
 refine isTrue_or (thn (ha pins s σ H _ I h) fun c s1 ⟨H1,I1,q1⟩=>?_)
 cases c with
 | true=>exact ⟨H1,I1,q1⟩
 | false=>exact hb wh pins s1 σ H1 Q I1 q1
theorem ZrM (ha:PT X a tA):PT X (.UnaryOp .Not a pos) (Ztd tA):=by
 intro pins s σ H Q I h
 exact isTrue_not (ha pins s σ H (fun c H1=>Q (!c) H1) I h)
def ZsO (ta tb:TE):TE:=fun σ H Q=>ta σ H fun x H1=>∃ c,x=.bl c∧if c=true then tb σ H1 Q else Q (.bl false) H1
def Zsz (ta:TE):TE:=fun σ H Q=>ta σ H fun x H1=>∃ c,x=.bl c∧Q (.bl (!c)) H1
theorem Zrm {op}{t:TE}(h:PE X a t):PE X (.BoolOp op [a] pos) t:=fun pins s σ H Q I hw=>BoolOp_one (h pins s σ H Q I hw)
theorem ZqT (ha:PE X a ta)(hb:PE X (.BoolOp .And (b::rest) pos) tb):PE X (.BoolOp .And (a::b::rest) pos) (ZsO ta tb):=by
 intro pins s σ H Q I h
 refine BoolOp_and (thn (ha pins s σ H _ I h) fun v s1 ⟨x,H1,I1,r1,q1⟩=>?_)
 obtain ⟨c,rfl,q1⟩:=q1
 cases r1
 refine wpAny_truthy_bool ?_
 cases c with
 | true=>exact hb pins s1 σ H1 Q I1 q1
 | false=>exact ⟨.bl false,H1,I1,rfl,q1⟩
theorem Zp4 (ha:PE X a ta):PE X (.UnaryOp .Not a pos) (Zsz ta):=by
 intro pins s σ H Q I h
 refine UnaryOp_ (thn (ha pins s σ H _ I h) fun v s1 ⟨x,H1,I1,r1,q1⟩=>?_)
 obtain ⟨c,rfl,q1⟩:=q1
 cases r1
 exact not_of (wpAny_truthy_bool ⟨.bl (!c),H1,I1,rfl,q1⟩)
end
end L2
namespace L2
open PySem PySem.Spec PyProof.Rows
def SqL (K:PySem.W.Frag)(H:Hp)(a:Addr)(xs:List V):Prop:=
 Rd H a (.lst xs) ∨
  ∃ (o:Obj) (its:Array Value) (n:Nat),K.lookup a=some o∧o.cls=.type "list"∧o.dict=none∧o.data=.seq its n∧its.size≤sizeLine∧Vals xs its.toList
def SqT (K:PySem.W.Frag)(H:Hp)(a:Addr)(xs:List V):Prop:=
 Rd H a (.tup xs) ∨
  ∃ (o:Obj) (its:Array Value) (n:Nat),K.lookup a=some o∧o.cls=.type "tuple"∧o.data=.seq its n∧its.size≤sizeLine∧Vals xs its.toList
def Zt4:Value→Option V
 | .none=>some .non
 | .bool b=>some (.bl b)
 | .int i _=>some (.int i)
 | .str x _=>some (.str x)
 | .bytes b _=>some (.byt b)
 | .float b _=>some (.flt b)
 | .ref a=>some (.ref a)
 | .type n=>some (.ty n)
 | _=>none
theorem RelV.abs {x:V}{u:Value}(r:RelV x u):Zt4 u=some x:=by
 cases x with
 | non=>cases r; rfl
 | bl _=>cases r; rfl
 | int _=>obtain ⟨t,rfl⟩:=r; rfl
 | str _=>obtain ⟨t,rfl⟩:=r; rfl
 | byt _=>obtain ⟨t,rfl⟩:=r; rfl
 | flt _=>obtain ⟨t,rfl⟩:=r; rfl
 | ref _=>cases r; rfl
 | ty _=>cases r; rfl
theorem RelV.inj {x y:V}{u:Value}(r:RelV x u)(q:RelV y u):x=y:=Option.some.inj (r.abs.symm.trans q.abs)
theorem Vals.inj:∀ {xs ys:List V} {us:List Value},Vals xs us→Vals ys us→xs=ys
 | _,_,_,.nil,.nil=>rfl
 | _,_,_,.cons r t,.cons r' t'=>by rw [r.inj r',Vals.inj t t']
section
variable {X:Cx} {pins:List (Addr×Obj)} {σ:St} {H:Hp} {s:Shared} {a:Addr} {xs ys:List V}
theorem SqL.of {K:PySem.W.Frag}(h:H a=some (.lst xs)):SqL K H a xs:=.inl (.inl h)
theorem SqT.of {K:PySem.W.Frag}(h:H a=some (.tup xs)):SqT K H a xs:=.inl (.inl h)
theorem Inv.list (I:Inv X pins σ H s)(h:SqL X.K H a xs):∃ its:List Value,Vals xs its∧PlainL s.heap a its.toArray∧xs.length≤sizeLine:=by
 rcases h with h | ⟨o,its,n,hk,hc,hd,hs,hz,r⟩
 ·obtain ⟨z,its,n,r,e⟩:=h.ok I.hok
  exact ⟨its,r,⟨_,n,e,rfl,rfl,rfl⟩,z⟩
 ·refine ⟨its.toList,r,⟨o,n,I.kIn a o hk,hc,hd,by simpa using hs⟩,?_⟩
  have e:=r.length
  simp only [Array.length_toList] at e
  omega
theorem Inv.tuple (I:Inv X pins σ H s)(h:SqT X.K H a xs):∃ its:List Value,Vals xs its∧IsTup s.heap a its.toArray∧xs.length≤sizeLine:=by
 rcases h with h | ⟨o,its,n,hk,hc,hs,hz,r⟩
 ·obtain ⟨z,its,r,p⟩:=h.ok I.hok
  exact ⟨its,r,p,z⟩
 ·refine ⟨its.toList,r,⟨o,I.kIn a o hk,hc,n,by simpa using hs⟩,?_⟩
  have e:=r.length
  simp only [Array.length_toList] at e
  omega
theorem Inv.list_inj (I:Inv X pins σ H s)(h:SqL X.K H a xs)(h':SqL X.K H a ys):xs=ys:=by
 obtain ⟨its,r,⟨o,n,e,_,_,d⟩,_⟩:=I.list h
 obtain ⟨its',r',⟨o',n',e',_,_,d'⟩,_⟩:=I.list h'
 rw [e] at e'; cases e'
 rw [d] at d'
 injection d' with d1 _
 have:its=its':=by simpa using congrArg Array.toList d1
 subst this
 exact r.inj r'
end
abbrev Cx.wish (X:Cx)(E:Value→Shared→Prop):Cx:={ X with xe:=E }
abbrev Cx.nox (X:Cx):Cx:=X.wish fun _ _=>False
theorem Cx.Ok.wish {X:Cx}(ok:X.Ok)(E:Value→Shared→Prop):(X.wish E).Ok:=
 ⟨ok.mod,ok.kind,ok.glob,ok.blt,ok.above,ok.inj,ok.has,ok.cab,ok.hd,ok.frames,ok.stk,ok.exf,ok.bs,ok.bsz,ok.noex,ok.exfs,ok.funs,ok.frf⟩
theorem Cx.Ok.unwish {X:Cx}{E:Value→Shared→Prop}(ok:(X.wish E).Ok):X.Ok:=
 ⟨ok.mod,ok.kind,ok.glob,ok.blt,ok.above,ok.inj,ok.has,ok.cab,ok.hd,ok.frames,ok.stk,ok.exf,ok.bs,ok.bsz,ok.noex,ok.exfs,ok.funs,ok.frf⟩
section
variable {X:Cx} {pins:List (Addr×Obj)} {σ:St} {H:Hp} {s:Shared} {E:Value→Shared→Prop}
theorem Inv.wish (I:Inv X pins σ H s)(E:Value→Shared→Prop):Inv (X.wish E) pins σ H s:=⟨I.ok.wish E,I.os,I.bare,I.base,I.loc,I.cell,I.free,I.freeC,I.pin,I.hok,I.len⟩
theorem Inv.unwish (I:Inv (X.wish E) pins σ H s):Inv X pins σ H s:=⟨I.ok.unwish,I.os,I.bare,I.base,I.loc,I.cell,I.free,I.freeC,I.pin,I.hok,I.len⟩
theorem SP.unwish {D:Ends}{f:Flow}{s':Shared}(h:SP (X.wish E) pins D f s'):SP X pins D f s':=by
 cases f with
 | next=>obtain ⟨σ',H',I,q⟩:=h; exact ⟨σ',H',I.unwish,q⟩
 | brk=>obtain ⟨σ',H',I,q⟩:=h; exact ⟨σ',H',I.unwish,q⟩
 | cont=>obtain ⟨σ',H',I,q⟩:=h; exact ⟨σ',H',I.unwish,q⟩
 | ret u=>obtain ⟨v,σ',H',I,r,q⟩:=h; exact ⟨v,σ',H',I.unwish,r,q⟩
theorem PSs.nox {st:List Stmt}{t:TS}(h:PSs X.nox st t):PSs X st t:=fun pins s σ H D I hw=>
 wpAny_mono (h pins s σ H D (I.wish _) hw) (fun _ _ q=>q.unwish) fun _ _ z=>False.elim z
end
section
variable {X:Cx} {st:Stmt} {rest:List Stmt} {t u:TS} {e:Expr} {te:TE} {pos:Pos}
def Ztb:TS:=fun D σ H=>D.nx σ H
def ZsV (t u:TS):TS:=fun D σ H=>t { D with nx:=u D } σ H
theorem pss_nil:PSs X [] Ztb:=fun _ _ σ H _ I h=>wpAny_execs_nil ⟨σ,H,I,h⟩
theorem Zie (h1:PS X st t)(h2:PSs X rest u):PSs X (st::rest) (ZsV t u):=by
 intro pins s σ H D I h
 refine wpAny_execs_cons (thn (h1 pins s σ H { D with nx:=u D } I h) fun f s1 q=>?_)
 cases f with
 | next=>
  obtain ⟨σ',H',I',q⟩:=q
  exact h2 pins s1 σ' H' D I' q
 | ret v=>exact q
 | brk=>exact q
 | cont=>exact q
theorem Zke (h1:PS X st t):PSs X [st] t:=by
 intro pins s σ H D I h
 refine wpAny_execs_cons (thn (h1 pins s σ H D I h) fun f s1 q=>?_)
 cases f with
 | next=>exact wpAny_execs_nil q
 | ret v=>exact q
 | brk=>exact q
 | cont=>exact q
theorem Inv.quiet {pins:List (Addr×Obj)}{σ:St}{H:Hp}{s:Shared}(I:Inv X pins σ H s):interactive X.env=false:=by simp [interactive,I.ok.kind]
def Zqh (te:TE):TS:=fun D σ H=>te σ H fun _ H1=>D.nx σ H1
theorem Zli (he:PE X e te)(hs:swapsWith e none pos.line X.env=pure false:=by rfl):PS X (.Expr e pos) (Zqh te):=by
 intro pins s σ H D I h
 exact wpAny_Expr_any (thn (he pins s σ H _ I h) fun v s1 ⟨x,H1,I1,r1,q1⟩=>⟨σ,H1,I1,q1⟩) I.quiet hs
def Zuf (te:TE):TS:=fun D σ H=>te σ H D.rt
theorem ZqX (he:PE X e te):PS X (.Return (some e) pos) (Zuf te):=by
 intro pins s σ H D I h
 exact wpAny_Return_some (thn (he pins s σ H _ I h) fun v s1 ⟨x,H1,I1,r1,q1⟩=>⟨x,σ,H1,I1,r1,q1⟩)
def Zun (c:TT)(t u:TS):TS:=fun D σ H=>c σ H fun b H1=>if b=true then t D σ H1 else u D σ H1
theorem Zst {c:Expr}{a b:List Stmt}{tc:TT}(hc:PT X c tc)(ha:PSs X a t)(hb:PSs X b u):PS X (.If c a b pos) (Zun tc t u):=by
 intro pins s σ H D I h
 refine wpAny_If (thn (hc pins s σ H _ I h) fun d s1 ⟨H1,I1,q1⟩=>?_)
 cases d with
 | true=>exact ha pins s1 σ H1 D I1 q1
 | false=>exact hb pins s1 σ H1 D I1 q1
end
abbrev TG:=V→St→Hp→(St→Hp→Prop)→Prop
def PG (X:Cx)(target:Expr)(t:TG):Prop:=
 ∀ (pins:List (Addr×Obj)) (s:Shared) (σ:St) (H:Hp) (v:V) (u:Value) (Q:St→Hp→Prop),Inv X pins σ H s→RelV v u→t v σ H Q →
  wpAny (model X.prog X.w) X.A (assign target X.env u) (fun _ s'=>∃ σ' H',Inv X pins σ' H' s'∧Q σ' H') X.xe s
abbrev Zs8:=V→V→V→Hp→(Hp→Prop)→Prop
def Ztf (X:Cx)(t:Zs8):Prop:=
 ∀ (pins:List (Addr×Obj)) (s:Shared) (σ:St) (H:Hp) (o i v:V) (ov iv u:Value) (Q:Hp→Prop),Inv X pins σ H s→RelV o ov→RelV i iv→RelV v u→t o i v H Q →
  wpAny (model X.prog X.w) X.A (setItem ov iv u) (fun _ s'=>∃ H',Inv X pins σ H' s'∧Q H') X.xe s
section
variable {X:Cx} {pos:Pos}
def Zjp (i:Nat):TG:=fun v σ H Q=>Q (σ.set i (some v)) H
theorem ZkM {i:Nat}{x:Str}(hN:X.N.Nodup)(hi:X.N[i]? = some x)(hx:Loc X.env.scope x)(hf:X.fn x=true∨X.env.scope.names.lookup x=some .local:=by first | exact .inl rfl | exact .inr rfl | assumption):PG X (.Name x pos) (Zjp i):=by
 intro pins s σ H v u Q I r h
 exact wpAny_assign_Name (ZeC I hN hi hx r (fun s' I'=>⟨_,H,I',h⟩) hf)
def Zuj (to ti:TE)(t:Zs8):TG:=fun v σ H Q=>to σ H fun o H1=>ti σ H1 fun i H2=>t o i v H2 fun H3=>Q σ H3
theorem ZrA {o i:Expr}{to ti:TE}{t:Zs8}(ho:PE X o to)(hi:PE X i ti)(hs:Ztf X t)
  (ha:∀ v,assign (.Subscript o i pos) X.env v=(do
   let ov ← holding [v] (eval o X.env)
   let iv ← holding [v,ov] (eval i X.env)
   standAt pos
   holding [v,ov,iv] (setItem ov iv v)
   release [v,ov,iv] []):=by intro _; rfl):PG X (.Subscript o i pos) (Zuj to ti t):=by
 intro pins s σ H v u Q I r h
 rw [ha]
 refine wpAny_bind (wpAny_holding (thn (ho pins s σ H _ I h) fun ov s1 ⟨x,H1,I1,r1,q1⟩=>?_))
 refine wpAny_bind (wpAny_holding (thn (hi pins s1 σ H1 _ I1 q1) fun iv s2 ⟨y,H2,I2,r2,q2⟩=>?_))
 refine wpAny_bind (wpAny_standAt (wpAny_bind (wpAny_holding (thn (hs pins s2 σ H2 x y v ov iv u _ I2 r1 r2 r q2) fun _ s3 ⟨H3,I3,q3⟩=>?_))))
 exact wpAny_release ⟨σ,H3,I3,q3⟩
def Zs4 (te:TE)(g:TG):TS:=fun D σ H=>te σ H fun x H1=>g x σ H1 D.nx
theorem Zq6 {tg e:Expr}{te:TE}{g:TG}(he:PE X e te)(hg:PG X tg g)(hs:swapsWithSole [tg] e pos.line X.env=pure false:=by rfl)(hw:swappedStores [tg] e X.env=pure none:=by rfl)
  (h1:(assignEach [tg] X.env).map (·.2)=[assign tg X.env]:=by rfl):PS X (.Assign [tg] e pos) (Zs4 te g):=by
 intro pins s σ H D I h
 refine wpAny_Assign_stores (thn (he pins s σ H _ I h) fun v s1 ⟨x,H1,I1,r1,q1⟩=>?_) hs hw
 rw [h1]
 exact thn (hg pins s1 σ H1 x v _ I1 r1 q1) fun _ s2 q=>q
theorem Zrq {i:Nat}{x:Str}{e:Expr}{te:TE}{pos':Pos}(hN:X.N.Nodup)(hi:X.N[i]? = some x)(hx:Loc X.env.scope x)(he:PE X e te)(hs:swapsWith e (some (.Name x pos')) pos.line X.env=pure false:=by rfl)(hf:X.fn x=true∨X.env.scope.names.lookup x=some .local:=by first | exact .inl rfl | exact .inr rfl | assumption) :
  PS X (.Assign [.Name x pos'] e pos) (Zs4 te (Zjp i)):=by
 intro pins s σ H D I h
 refine wpAny_Assign_Name (thn (he pins s σ H _ I h) fun v s1 ⟨y,H1,I1,r1,q1⟩=>?_) hs
 exact ZeC I1 hN hi hx r1 (fun s2 I2=>⟨_,H1,I2,q1⟩) hf
end
section
variable {X:Cx} {pos:Pos}
def Zm4 (c:TT)(tb:TS):TS:=fun D σ H=>∃ W:Nat→St→Hp→Prop,(∃ m,W m σ H)∧∀ m σ H,W m σ H →
 c σ H fun b H1=>if b=true then ∃ N:St→Hp→Prop,(∀ σ' H',N σ' H'→∃ m',m'<m∧W m' σ' H')∧tb { D with nx:=N,ct:=N,bk:=D.nx } σ H1 else D.nx σ H1
theorem Zmk {c:Expr}{body:List Stmt}{tc:TT}{tb:TS}(hp:PassesOwn (model X.prog X.w) X.A X.env X.xe)(hc:PT X c tc)(hb:PSs X body tb):PS X (.While c body [] pos) (Zm4 tc tb):=by
 intro pins s σ H D I h
 obtain ⟨W,⟨m0,w0⟩,turn⟩:=h
 refine wpAny_While (codeAny_whileLoop (fun n s'=>∃ σ' H',Inv X pins σ' H' s'∧W n σ' H') ?_ m0 ⟨σ,H,I,w0⟩)
 rintro n s1 ⟨σ1,H1,I1,w1⟩
 refine wpAny_passesOwn hp (thn (hc pins s1 σ1 H1 _ I1 (turn n σ1 H1 w1)) fun b s2 ⟨H2,I2,q2⟩=>?_)
 cases b with
 | true=>
  obtain ⟨N,hN,q2⟩:=q2
  rw [if_pos rfl]
  refine wpAny_passesOwn hp (thn (hb pins s2 σ1 H2 _ I2 q2) fun f s3 q3=>?_)
  cases f with
  | next=>
   obtain ⟨σ3,H3,I3,n3⟩:=q3
   obtain ⟨m',hm,w3⟩:=hN σ3 H3 n3
   exact ⟨m',hm,σ3,H3,I3,w3⟩
  | cont=>
   obtain ⟨σ3,H3,I3,n3⟩:=q3
   obtain ⟨m',hm,w3⟩:=hN σ3 H3 n3
   exact ⟨m',hm,σ3,H3,I3,w3⟩
  | brk=>exact q3
  | ret v=>exact q3
 | false=>
  rw [if_neg Bool.false_ne_true]
  exact wpAny_execs_nil ⟨σ1,H2,I2,q2⟩
end
structure It where
 go:Nat→Hp→Prop
 yld:Nat→Hp→V→Hp→Prop
 stop:Nat→Hp→Prop
def Zio (X:Cx)(pins:List (Addr×Obj))(H:Hp)(b:Addr):Prop:=
 H b=none∧b≠X.env.locals∧b ∉ X.fs∧(b∈X.ex∨X.s₀.heap.objs.size≤b)∧(∀ x c,X.env.cells.lookup x=some c→c≠b)∧∀ p∈X.pn++pins,p.1≠b
theorem Inv.fpOk {X:Cx}{pins:List (Addr×Obj)}{σ:St}{H H':Hp}{s:Shared}{b:Addr}(I:Inv X pins σ H s)(hb:s.heap.objs.size≤b)(hn:H' b=none):Zio X pins H' b:=by
 refine ⟨hn,Nat.ne_of_gt (Nat.lt_of_lt_of_le I.lt hb),I.nofs hb,.inr (Nat.le_trans I.sz hb),fun x c e z=>?_,fun p hp z=>?_⟩
 ·obtain ⟨v,q⟩:=I.cell x c e
  exact absurd (Nat.lt_of_lt_of_le q.lt (by rw [z]; exact hb)) (Nat.lt_irrefl _)
 ·exact absurd (Nat.lt_of_lt_of_le (Heap.lt_size (I.pin p hp).1) (by rw [z]; exact hb)) (Nat.lt_irrefl _)
structure Turn (P:Program)(w:World)(K:PySem.W.Frag)(tg:Expr)(J:It)(fp:List Addr)(it:Addr)(tn:Nat→Heap→Prop):Prop where
 mem:it∈fp
 obj:∀ i h,tn i h→∀ b∈fp,∃ o,h.get? b=some o∧∀ v,o.data≠.cell v
 keep:∀ i h h',tn i h→(∀ b∈fp,∀ o,h.get? b=some o→h'.get? b=some o)→tn i h'
 item:∀ (X:Cx),X.prog=P→X.w=w→X.K=K→X.calm=true→∀ (i:Nat) (pins:List (Addr×Obj)) (s:Shared) (σ:St) (H:Hp) (E:Value→Shared→Prop),Inv X pins σ H s→(∀ b∈fp,Zio X pins H b)→tn i s.heap→J.go i H →
  wpAny (model P w) X.A (pyNext (.ref it)) (fun r s1=>∃ u,r=some u ∧
   wpAny (model P w) X.A (letOwnedTupleGo tg (.ref it) u) (fun _ s2=>∃ x H',Inv X pins σ H' s2∧RelV x u∧J.yld i H x H'∧tn (i+1) s2.heap∧∀ b∈fp,H' b=none) E s1) E s
 done:∀ (X:Cx),X.prog=P→X.w=w→X.K=K→X.calm=true→∀ (i:Nat) (pins:List (Addr×Obj)) (s:Shared) (σ:St) (H:Hp) (E:Value→Shared→Prop),Inv X pins σ H s→(∀ b∈fp,Zio X pins H b)→tn i s.heap→J.stop i H →
  wpAny (model P w) X.A (pyNext (.ref it)) (fun r s1=>r=none∧Inv X pins σ H s1) E s
 self:∀ (A:Around) (i:Nat) (s:Shared) (Q:Value→Shared→Prop) (E:Value→Shared→Prop),tn i s.heap→Q (.ref it) s→wpAny (model P w) A (pyIter (.ref it)) Q E s
abbrev TI:=St→Hp→(It→Hp→Prop)→Prop
def PIE (X:Cx)(pins:List (Addr×Obj))(σ:St)(tg:Expr)(R:It→Hp→Prop)(itv:Value)(s2:Shared):Prop:=
 ∃ (it:Addr) (fp:List Addr) (tn:Nat→Heap→Prop) (J:It) (H':Hp),itv=.ref it∧Inv X pins σ H' s2∧Turn X.prog X.w X.K tg J fp it tn∧tn 0 s2.heap∧(∀ b∈fp,Zio X pins H' b)∧R J H'
def PI (X:Cx)(tg iter:Expr)(wi:TI):Prop:=
 ∀ (pins:List (Addr×Obj)) (s:Shared) (σ:St) (H:Hp) (R:It→Hp→Prop),Inv X pins σ H s→wi σ H R →
  wpAny (model X.prog X.w) X.A (eval iter X.env) (fun v s1=>wpAny (model X.prog X.w) X.A (pyIter v) (PIE X pins σ tg R) X.xe s1) X.xe s
theorem Zpw {M:Model}{A:Around}{E:Value→Shared→Prop}{s:Shared}{tg:Expr}{it:Addr}{u:Value}{o:Obj}{n:String}{vs:Array Value}{Q:Unit→Shared→Prop}(ho:s.heap.get? it=some o)(hc:o.cls=.type n)(hd:o.data=.fields vs)
    (hn:["enumerate","zip","dict_itemiterator","dict_reverseitemiterator","odict_iterator","itertools.zip_longest","itertools.pairwise"].contains n=false) (hQ:Q () s):wpAny M A (letOwnedTupleGo tg (.ref it) u) Q E s:=by
  unfold letOwnedTupleGo
  cases tg <;> first
    | exact wpAny_pure hQ
    | (cases u <;> first
        | exact wpAny_pure hQ
        | (refine wpAny_bind (wpAny_load ho ?_)
           rw [hc,hd]
           show wpAny M A (if (["enumerate","zip","dict_itemiterator","dict_reverseitemiterator","odict_iterator","itertools.zip_longest","itertools.pairwise"].contains n && vs[0]? == some (rawInt _))=true then _ else _) Q E s
           rw [if_neg (by intro h; rw [hn,Bool.false_and] at h; cases h)]
           exact wpAny_pure hQ))
def Itl (K:PySem.W.Frag)(a:Addr):It:=
 ⟨fun i H=>∃ xs x,SqL K H a xs∧xs[i]? = some x,fun i H x H'=>H'=H∧∀ xs,SqL K H a xs→xs[i]? = some x,fun i H=>∃ xs,SqL K H a xs∧xs.length≤i⟩
def Itr (lo:Int)(n:Nat):It:=⟨fun i _=>i<n,fun i H x H'=>H'=H∧x=.int (lo+i),fun i _=>n≤i⟩
theorem Zkx {P:Program}{w:World}{K:PySem.W.Frag}{tg:Expr}(a it:Addr):Turn P w K tg (Itl K a) [it] it (fun i h=>h.IsListIter it a i) where
 mem:=by simp
 obj:=fun i h st b hb=>by
  have e:b=it:=by simpa using hb
  subst e
  obtain ⟨o,e,c,d⟩:=st
  exact ⟨o,e,fun v z=>by rw [d] at z; cases z⟩
 keep:=fun i h h' st k=>st.at fun o e=>k it (by simp) o e
 item:=by
  intro X hP hw hK hc i pins s σ H E I hf st hg
  subst hP hw hK
  obtain ⟨xs,x,hq,hx⟩:=hg
  obtain ⟨its,rv,p,hz⟩:=I.list hq
  obtain ⟨u,hu,ru⟩:=rv.get hx
  obtain ⟨f0,f1,f2,f3,f4,f5⟩:=hf it (by simp)
  refine wpAny_pyNext_list_item st p.isList (x:=u) (by simpa using hu) fun h' st' sb=>?_
  have I1:Inv X pins σ H { s with heap:=h' }:=I.turned (t':=s.toks) (fun b o hb e=>(sb.2 b hb).trans e) f0 f1 f3 f4 f5
  obtain ⟨o,e,c,d⟩:=id st'
  exact ⟨u,rfl,Zpw (s:={ s with heap:=h' }) e c d (by decide) ⟨x,H,I1,ru,⟨rfl,fun ys hy=>by rw [I.list_inj hy hq]; exact hx⟩,st',fun b hb=>(hf b hb).1⟩⟩
 done:=by
  intro X hP hw hK hc i pins s σ H E I hf st hg
  subst hP hw hK
  obtain ⟨xs,hq,hx⟩:=hg
  obtain ⟨its,rv,p,hz⟩:=I.list hq
  obtain ⟨f0,f1,f2,f3,f4,f5⟩:=hf it (by simp)
  have hl:=rv.length
  exact wpAny_pyNext_list_end (I.ok.hd hc) st p.isList (by simp; omega) fun h' eb=>⟨rfl,I.turned (t':=s.toks) (fun b o hb e=>eb b o hb e) f0 f1 f3 f4 f5⟩
 self:=fun _ _ _ _ _ st h=>wpAny_pyIter_listiter st h
theorem Zjl {P:Program}{w:World}{K:PySem.W.Frag}{tg:Expr}(it:Addr)(lo:Int)(n:Nat):Turn P w K tg (Itr lo n) [it] it (fun i h=>IsRangeIter h it (lo+(i:Nat) * 1) ((n:Int) - (i:Nat)) 1) where
 mem:=by simp
 obj:=fun i h st b hb=>by
  have e:b=it:=by simpa using hb
  subst e
  exact ⟨_,st,fun v z=>by
   have z':Data.fields _=Data.cell v:=z
   cases z'⟩
 keep:=fun i h h' st k=>k it (by simp) _ st
 item:=by
  intro X hP hw hK hc i pins s σ H E I hf st hg
  subst hP hw hK
  obtain ⟨f0,f1,f2,f3,f4,f5⟩:=hf it (by simp)
  have W:=Walks.range (prog:=X.prog) (w:=X.w) (I.ok.hd hc) it lo 1 n
  refine W.item i s _ _ hg st fun v h' tk hv st' kk=>?_
  obtain ⟨t,rfl⟩:=hv
  have I1:Inv X pins σ H { s with heap:=h',toks:=tk }:=I.turned (fun b o hb e=>kk b o (by simpa using hb) e) f0 f1 f3 f4 f5
  refine ⟨_,rfl,Zpw (s:={ s with heap:=h',toks:=tk }) (n:="range_iterator") st' rfl rfl (by decide) ⟨.int (lo+i),H,I1,⟨t,?_⟩,⟨rfl,rfl⟩,st',fun b hb=>(hf b hb).1⟩⟩
  rw [Int.mul_one]
 done:=by
  intro X hP hw hK hc i pins s σ H E I hf st hg
  subst hP hw hK
  obtain ⟨f0,f1,f2,f3,f4,f5⟩:=hf it (by simp)
  exact wpAny_pyNext_range_end (I.ok.hd hc) st (by have:n≤i:=hg; omega) fun h' eb=>⟨rfl,I.turned (t':=s.toks) (fun b o hb e=>eb b o hb e) f0 f1 f3 f4 f5⟩
 self:=fun _ _ _ _ _ st h=>wpAny_pyIter_rangeiter st h
end L2
namespace L2
open PySem PySem.Spec PyProof.Rows
section
variable {X:Cx} {tg:Expr}
def ZsJ (K:PySem.W.Frag)(tl:TE):TI:=fun σ H R=>tl σ H fun x H1=>∃ a,x=.ref a∧(∃ xs,SqL K H1 a xs)∧R (Itl K a) H1
theorem Zor {l:Expr}{tl:TE}(hl:PE X l tl):PI X tg l (ZsJ X.K tl):=by
 intro pins s σ H R I h
 refine thn (hl pins s σ H _ I h) fun v s1 ⟨x,H1,I1,r1,q1⟩=>?_
 obtain ⟨a,e,⟨xs,hq⟩,q⟩:=q1
 subst e
 cases r1
 obtain ⟨its,rv,p,hz⟩:=I1.list hq
 refine wpAny_pyIter_list p.isList ?_
 refine ⟨s1.heap.objs.size,[s1.heap.objs.size],_,_,H1,rfl,I1.kept (t':=s1.toks) fun b o e=>Heap.get?_push_of_some _ e,Zkx a _,⟨_,Heap.get?_push_size _ rfl,rfl,rfl⟩,fun b hb=>?_,q⟩
 have e:b=s1.heap.objs.size:=by simpa using hb
 subst e
 exact I1.fpOk (Nat.le_refl _) (I1.hok.fresh (Nat.le_refl _))
theorem ZiH {pins:List (Addr×Obj)}{σ:St}{H:Hp}{s:Shared}{R:It→Hp→Prop}{E:Value→Shared→Prop}{lo hi:Int}{t u v:Tok}{tk:Nat}(I:Inv X pins σ H s)(h1:-(2 ^ 62)≤lo)(h2:lo<2 ^ 62)(h3:-(2 ^ 62)≤hi)(h4:hi<2 ^ 62)
  (q:R (Itr lo (hi - lo).toNat) H):wpAny (model X.prog X.w) X.A (pyIter (.ref s.heap.objs.size)) (PIE X pins σ tg R) E { s with heap:=s.heap.push { cls:=.type "range",data:=.fields #[.int lo t,.int hi u,.int 1 v] },toks:=tk }:=by
 refine wpAny_pyIter_range (IsRange.new ..) (small_one h1 h2 h3 h4) ?_
 have I1:Inv X pins σ H { s with heap:=s.heap.push { cls:=.type "range",data:=.fields #[.int lo t,.int hi u,.int 1 v] },toks:=tk }:=I.kept fun b o e=>Heap.get?_push_of_some _ e
 refine ⟨(s.heap.push { cls:=.type "range",data:=.fields #[.int lo t,.int hi u,.int 1 v] }).objs.size,[(s.heap.push { cls:=.type "range",data:=.fields #[.int lo t,.int hi u,.int 1 v] }).objs.size],_,_,H,rfl,
  I1.kept (t':=tk) fun b o e=>Heap.get?_push_of_some _ e,Zjl _ lo (hi - lo).toNat,?_,fun b hb=>?_,q⟩
 ·have e1:lo+((0:Nat):Int) * 1=lo:=by simp
  have e2:(((hi - lo).toNat:Nat):Int) - ((0:Nat):Int)=Builtin.Range.rangeSize lo hi 1:=by rw [rangeSize_one]; split <;> omega
  show IsRangeIter _ _ (lo+((0:Nat):Int) * 1) ((((hi - lo).toNat:Nat):Int) - ((0:Nat):Int)) 1
  rw [e1,e2]
  exact Heap.get?_push_size _ rfl
 ·have e:b=(s.heap.push { cls:=.type "range",data:=.fields #[.int lo t,.int hi u,.int 1 v] }).objs.size:=by simpa using hb
  subst e
  exact I1.fpOk (Nat.le_refl _) (I1.hok.fresh (Nat.le_refl _))
def ZsQ (ta:TA):TI:=fun σ H R=>ta σ H fun vs H1=>∃ j:Int,vs=[.int j] ∧ -(2 ^ 62)≤j∧j<2 ^ 62∧R (Itr 0 j.toNat) H1
def Zsw (ta:TA):TI:=fun σ H R=>ta σ H fun vs H1=>∃ i j:Int,vs=[.int i,.int j]∧(-(2 ^ 62)≤i∧i<2 ^ 62 ∧ -(2 ^ 62)≤j∧j<2 ^ 62)∧R (Itr i (j - i).toNat) H1
theorem ZjO {a:Expr}{ta:TA}{p pos:Pos}(hg:Gl X "range")(hm:X.mg "range"=none)(ha:PA X [a] ta)(hs:starEach [a] X.env=[(false,eval a X.env)]:=by rfl):PI X tg (.Call (.Name "range" p) [a] [] pos) (ZsQ ta):=by
 intro pins s σ H R I h
 refine Call_ (Zfi I hg hm boot_range (PyProof.Rows.callWith_type1 (thn (ha pos pins s σ H _ I h) fun us s1 ⟨vs,H1,I1,r1,q1⟩=>?_) hs rfl))
 obtain ⟨j,e,q1,q2,q⟩:=q1
 subst e
 cases r1 with
 | cons r rr=>
  cases rr
  obtain ⟨t,rfl⟩:=r
  exact call_range_1 (ZiH I1 (by omega) (by omega) q1 q2 (by simpa using q))
theorem ZjG {a b:Expr}{ta:TA}{p pos:Pos}(hg:Gl X "range")(hm:X.mg "range"=none)(ha:PA X [a,b] ta)(hs:starEach [a,b] X.env=[(false,eval a X.env),(false,eval b X.env)]:=by rfl)(hs2:starEach [b] X.env=[(false,eval b X.env)]:=by rfl) :
  PI X tg (.Call (.Name "range" p) [a,b] [] pos) (Zsw ta):=by
 intro pins s σ H R I h
 refine Call_ (Zfi I hg hm boot_range (PyProof.Rows.callWith_type1 (thn (ha pos pins s σ H _ I h) fun us s1 ⟨vs,H1,I1,r1,q1⟩=>?_) (by rw [hs,hs2]) (by rw [hs2]; rfl)))
 obtain ⟨i,j,e,⟨q1,q2,q3,q4⟩,q⟩:=q1
 subst e
 cases r1 with
 | cons r rr=>
  cases rr with
  | cons r' rr=>
   cases rr
   obtain ⟨t,rfl⟩:=r
   obtain ⟨t',rfl⟩:=r'
   exact call_range_2 (ZiH I1 q1 q2 q3 q4 q)
def ZsG (wi:TI)(g:TG)(tb:TS):TS:=fun D σ H=>wi σ H fun J H1=>∃ W:Nat→Nat→St→Hp→Prop,(∃ m,W 0 m σ H1)∧∀ i m σ H,W i m σ H →
 (J.stop i H∧D.nx σ H)∨(J.go i H∧∃ N:St→Hp→Prop,(∀ σ' H',N σ' H'→∃ m',m'<m∧W (i+1) m' σ' H')∧∀ x H',J.yld i H x H'→g x σ H' fun σ2 H2=>tb { D with nx:=N,ct:=N,bk:=D.nx } σ2 H2)
def ZgP (fp:List Addr)(h:Heap):List (Addr×Obj):=fp.filterMap fun b=>(h.get? b).map fun o=>(b,o)
theorem ZcT {fp:List Addr}{h:Heap}{b:Addr}{o:Obj}(hb:b∈fp)(e:h.get? b=some o):(b,o)∈ZgP fp h:=List.mem_filterMap.mpr ⟨b,hb,by rw [e]; rfl⟩
theorem ZkJ {fp:List Addr}{h:Heap}{p:Addr×Obj}(hp:p∈ZgP fp h):p.1∈fp∧h.get? p.1=some p.2:=by
 obtain ⟨b,hb,e⟩:=List.mem_filterMap.mp hp
 cases q:h.get? b with
 | none=>rw [q] at e; cases e
 | some o=>
  rw [q] at e
  have e':(b,o)=p:=Option.some.inj e
  subst e'
  exact ⟨hb,q⟩
theorem Inv.pinned {pins:List (Addr×Obj)}{σ:St}{H:Hp}{s:Shared}{fp:List Addr}(I:Inv X pins σ H s)(hf:∀ b∈fp,Zio X pins H b)(ho:∀ b∈fp,∃ o,s.heap.get? b=some o∧∀ v,o.data≠.cell v):Inv X (pins++ZgP fp s.heap) σ H s:=
 I.pins_of fun p hp=>(List.mem_append.mp hp).elim (fun z=>I.pin p (List.mem_append_right _ z)) fun z=>by
  obtain ⟨hb,e⟩:=ZkJ z
  obtain ⟨f0,f1,f2,_⟩:=hf p.1 hb
  obtain ⟨o,e',d⟩:=ho p.1 hb
  rw [e] at e'; cases e'
  exact ⟨e,f0,f1,f2,d⟩
theorem Inv.unpinned {pins pl:List (Addr×Obj)}{σ:St}{H:Hp}{s:Shared}(I:Inv X (pins++pl) σ H s):Inv X pins σ H s:=I.pins_of fun p hp=>I.pin p (List.mem_append_right _ (List.mem_append_left _ hp))
theorem Zk4 {iter:Expr}{body:List Stmt}{wi:TI}{g:TG}{tb:TS}{pos:Pos}(hp:PassesOwn (model X.prog X.w) X.A X.env X.xe)(hc:X.calm=true)(hi:PI X tg iter wi)(hg:PG X tg g)(hb:PSs X body tb)
  (hs:∀ x,foldedSetIterable iter X.env x=pure x:=by intro _; rfl):PS X (.For tg iter body [] pos) (ZsG wi g tb):=by
 intro pins s σ H D I h
 refine wpAny_For (thn (hi pins s σ H _ I h) fun v s1 h1=>thn h1 fun itv s2 h2=>?_) hs
 obtain ⟨it,fp,tn,J,H2,e,I2,T,st2,f2,W,⟨m0,w0⟩,turn⟩:=h2
 subst e
 have stat:∀ {H':Hp},(∀ b∈fp,H' b=none)→∀ b∈fp,Zio X pins H' b:=fun hn b hb=>⟨hn b hb,(f2 b hb).2⟩
 refine codeAny_forLoop_any (fun n s'=>∃ i σ' H',Inv X pins σ' H' s'∧tn i s'.heap∧(∀ b∈fp,H' b=none)∧W i n σ' H') ?_ m0 ⟨0,σ,H2,I2,st2,fun b hb=>(f2 b hb).1,w0⟩
 rintro n s3 ⟨i,σ3,H3,I3,st3,fr3,w3⟩
 rcases turn i n σ3 H3 w3 with ⟨stop,qn⟩ | ⟨go,N,hN,step⟩
 ·refine wpAny_passesOwn hp (thn (T.done X rfl rfl rfl hc i pins s3 σ3 H3 X.xe I3 (stat fr3) st3 stop) fun r s4 ⟨hr,I4⟩=>?_)
  subst hr
  exact wpAny_execs_nil ⟨σ3,H3,I4,qn⟩
 ·refine wpAny_passesOwn hp (thn (T.item X rfl rfl rfl hc i pins s3 σ3 H3 X.xe I3 (stat fr3) st3 go) fun r s4 ⟨u,hr,h4⟩=>?_)
  subst hr
  refine wpAny_passesOwn hp (thn h4 fun _ s5 ⟨x,H5,I5,r5,y5,st5,fr5⟩=>?_)
  have I5':=I5.pinned (stat fr5) (T.obj _ _ st5)
  refine wpAny_passesOwn hp (thn (hg _ s5 σ3 H5 x u _ I5' r5 (step x H5 y5)) fun _ s6 ⟨σ6,H6,I6,q6⟩=>?_)
  refine wpAny_passesOwn hp (thn (hb _ s6 σ6 H6 _ I6 q6) fun f s7 q7=>?_)
  have again:∀ {σ7:St} {H7:Hp},Inv X (pins++ZgP fp s5.heap) σ7 H7 s7→N σ7 H7→∃ m,m<n∧∃ i σ' H',Inv X pins σ' H' s7∧tn i s7.heap∧(∀ b∈fp,H' b=none)∧W i m σ' H':=fun {σ7 H7} I7 n7=>by
   obtain ⟨m',hm,w7⟩:=hN σ7 H7 n7
   refine ⟨m',hm,i+1,σ7,H7,I7.unpinned,T.keep _ _ _ st5 fun b hb o e=>(I7.pin (b,o) (List.mem_append_right _ (List.mem_append_right _ (ZcT hb e)))).1,fun b hb=>?_,w7⟩
   obtain ⟨o,e,d⟩:=T.obj _ _ st5 b hb
   exact (I7.pin (b,o) (List.mem_append_right _ (List.mem_append_right _ (ZcT hb e)))).2.1
  cases f with
  | next=>obtain ⟨σ7,H7,I7,n7⟩:=q7; exact again I7 n7
  | cont=>obtain ⟨σ7,H7,I7,n7⟩:=q7; exact again I7 n7
  | brk=>obtain ⟨σ7,H7,I7,q7⟩:=q7; exact ⟨σ7,H7,I7.unpinned,q7⟩
  | ret v=>obtain ⟨x7,σ7,H7,I7,r7,q7⟩:=q7; exact ⟨x7,σ7,H7,I7.unpinned,r7,q7⟩
end
end L2
namespace L2
open PySem PySem.Spec PyProof.Rows
abbrev R2:=V→V→Hp→VK→Prop
def OpR (X:Cx)(f:Value→Value→Sem Value)(r:R2):Prop:=
 ∀ (pins:List (Addr×Obj)) (s:Shared) (σ:St) (H:Hp) (x y:V) (v u:Value) (Q:VK),Inv X pins σ H s→RelV x v→RelV y u→r x y H Q →
  wpAny (model X.prog X.w) X.A (f v u) (EP X pins σ Q) X.xe s
def UnR (X:Cx)(f:Value→Sem Value)(r:V→Hp→VK→Prop):Prop:=
 ∀ (pins:List (Addr×Obj)) (s:Shared) (σ:St) (H:Hp) (x:V) (v:Value) (Q:VK),Inv X pins σ H s→RelV x v→r x H Q →
  wpAny (model X.prog X.w) X.A (f v) (EP X pins σ Q) X.xe s
def CallR (X:Cx)(f:Value)(r:List V→Hp→VK→Prop):Prop:=
 ∀ (pins:List (Addr×Obj)) (s:Shared) (σ:St) (H:Hp) (xs:List V) (us:List Value) (Q:VK),Inv X pins σ H s→Vals xs us→r xs H Q →
  wpAny (model X.prog X.w) X.A (call f us) (EP X pins σ Q) X.xe s
def tOp (r:R2)(ta tb:TE):TE:=fun σ H Q=>ta σ H fun x H1=>tb σ H1 fun y H2=>r x y H2 Q
def tUn (r:V→Hp→VK→Prop)(ta:TE):TE:=fun σ H Q=>ta σ H fun x H1=>r x H1 Q
def rI (C:Int→Int→Prop)(g:Int→Int→V):R2:=fun x y H Q=>∃ i j,x=.int i∧y=.int j∧C i j∧Q (g i j) H
def rI0 (g:Int→Int→V):R2:=fun x y H Q=>∃ i j,x=.int i∧y=.int j∧Q (g i j) H
def rU (g:Int→V):V→Hp→VK→Prop:=fun x H Q=>∃ i,x=.int i∧Q (g i) H
section
variable {X:Cx} {a b c:Expr} {ta tb tc:TE} {pos:Pos}
theorem Zr4 (ha:PE X a ta)(hb:PE X b tb){pins:List (Addr×Obj)}{s:Shared}{σ:St}{H:Hp}{R:V→V→Hp→Prop}(I:Inv X pins σ H s)
  (h:ta σ H fun x H1=>tb σ H1 fun y H2=>R x y H2) {Q:Value→Shared→Prop} {f:Value→Value→Sem Value}
  (hf:∀ v u s2 x y H2,Inv X pins σ H2 s2→RelV x v→RelV y u→R x y H2→wpAny (model X.prog X.w) X.A (f v u) Q X.xe s2) :
  wpAny (model X.prog X.w) X.A (eval a X.env) (fun v s₁=>wpAny (model X.prog X.w) X.A (eval b X.env) (fun u s₂=>wpAny (model X.prog X.w) X.A (f v u) Q X.xe s₂) X.xe s₁) X.xe s:=by
 refine thn (ha pins s σ H _ I h) fun v s1 ⟨x,H1,I1,r1,q1⟩=>?_
 refine thn (hb pins s1 σ H1 _ I1 q1) fun u s2 ⟨y,H2,I2,r2,q2⟩=>?_
 exact hf v u s2 x y H2 I2 r1 r2 q2
theorem ZsR {op:Operator}{r:R2}(ho:OpR X (binaryOp op) r)(ha:PE X a ta)(hb:PE X b tb):PE X (.BinOp a op b pos) (tOp r ta tb):=by
 intro pins s σ H Q I h
 exact wpAny_BinOp (Zr4 ha hb I h fun v u s2 x y H2 I2 rx ry q=>ho pins s2 σ H2 x y v u Q I2 rx ry q)
theorem Zso {op:UnaryOp}{r:V→Hp→VK→Prop}(ho:UnR X (unaryOp op) r)(ha:PE X a ta):PE X (.UnaryOp op a pos) (tUn r ta):=by
 intro pins s σ H Q I h
 exact UnaryOp_ (thn (ha pins s σ H _ I h) fun v s1 ⟨x,H1,I1,r1,q1⟩=>ho pins s1 σ H1 x v Q I1 r1 q1)
theorem opI {f:Value→Value→Sem Value}{C:Int→Int→Prop}{g:Int→Int→Int}
  (rule:∀ (i j:Int) (t u:Tok) (s:Shared) (Q:Value→Shared→Prop) (E:Value→Shared→Prop),C i j→Q (.int (g i j) s.toks) { s with toks:=s.toks+1 }→wpAny (model X.prog X.w) X.A (f (.int i t) (.int j u)) Q E s) :
  OpR X f (rI C fun i j=>.int (g i j)):=by
 intro pins s σ H x y v u Q I rx ry h
 obtain ⟨i,j,rfl,rfl,hc,q⟩:=h
 obtain ⟨t,rfl⟩:=rx
 obtain ⟨t',rfl⟩:=ry
 exact rule i j t t' s _ _ hc ⟨.int (g i j),H,I.tok _,⟨_,rfl⟩,q⟩
theorem ZsE {f:Value→Value→Sem Value}{g:Int→Int→Int}
  (rule:∀ (i j:Int) (t u:Tok) (s:Shared) (Q:Value→Shared→Prop) (E:Value→Shared→Prop),Q (.int (g i j) s.toks) { s with toks:=s.toks+1 }→wpAny (model X.prog X.w) X.A (f (.int i t) (.int j u)) Q E s) :
  OpR X f (rI0 fun i j=>.int (g i j)):=by
 intro pins s σ H x y v u Q I rx ry h
 obtain ⟨i,j,rfl,rfl,q⟩:=h
 obtain ⟨t,rfl⟩:=rx
 obtain ⟨t',rfl⟩:=ry
 exact rule i j t t' s _ _ ⟨.int (g i j),H,I.tok _,⟨_,rfl⟩,q⟩
theorem Zr1 {f:Value→Value→Sem Value}{g:Int→Int→Bool}
  (rule:∀ (i j:Int) (t u:Tok) (s:Shared) (Q:Value→Shared→Prop) (E:Value→Shared→Prop),Q (.bool (g i j)) s→wpAny (model X.prog X.w) X.A (f (.int i t) (.int j u)) Q E s) :
  OpR X f (rI0 fun i j=>.bl (g i j)):=by
 intro pins s σ H x y v u Q I rx ry h
 obtain ⟨i,j,rfl,rfl,q⟩:=h
 obtain ⟨t,rfl⟩:=rx
 obtain ⟨t',rfl⟩:=ry
 exact rule i j t t' s _ _ ⟨.bl (g i j),H,I,rfl,q⟩
def Zsf (i j:Int):Prop:=0<j∧j<1073741824
def Zsb (i j:Int):Prop:=0≤j∧j≤1000000∧i.natAbs<2 ^ 64
def CMul (i j:Int):Prop:=(-(2 ^ 64)<i∧i<2 ^ 64)∨(-(2 ^ 64)<j∧j<2 ^ 64)
theorem CMul.ok {i j:Int}(h:CMul i j):IntMulOk i j:=by
 rcases h with ⟨h1,h2⟩ | ⟨h1,h2⟩
 ·exact .of_left (intBits_le_64 h1 h2)
 ·exact .of_right (intBits_le_64 h1 h2)
theorem ZqN:OpR X (binaryOp .Add) (rI0 fun i j=>.int (i+j)):=ZsE fun _ _ _ _ _ _ _ q=>add_int q
theorem Zc3:OpR X (binaryOp .Sub) (rI0 fun i j=>.int (i - j)):=ZsE fun _ _ _ _ _ _ _ q=>sub_int q
theorem Zip:OpR X (binaryOp .Mult) (rI CMul fun i j=>.int (i * j)):=opI fun _ _ _ _ _ _ _ hc q=>mul_int q hc.ok
theorem Ze7:OpR X (binaryOp .FloorDiv) (rI Zsf fun i j=>.int (i / j)):=opI fun i j _ _ _ _ _ hc q=>by
 have h1:(0:Int)<j:=hc.1
 have h2:j<1073741824:=hc.2
 exact floordiv_int (by omega) (by rw [Int.fdiv_eq_ediv_of_nonneg i (by omega)]; exact q) (.inl (PyProof.noPylong_small (by omega)))
theorem Zbk:OpR X (binaryOp .Mod) (rI (fun _ j=>0<j) fun i j=>.int (i % j)):=opI fun i j _ _ _ _ _ hc q=>by
 have h1:(0:Int)<j:=hc
 exact mod_int' (by omega) (by rw [Int.fmod_eq_emod_of_nonneg i (by omega)]; exact q)
theorem Znt:OpR X (binaryOp .Pow) (rI Zsb fun i j=>.int (i ^ j.toNat)):=opI fun _ _ _ _ _ _ _ hc q=>pow_int_small hc.1 hc.2.1 hc.2.2 q
theorem ZrQ:OpR X (binaryOp .BitAnd) (rI0 fun i j=>.int (Builtin.bitAnd i j)):=ZsE fun _ _ _ _ _ _ _ q=>and_int q
theorem unI {f:Value→Sem Value}{g:Int→Int}
  (rule:∀ (i:Int) (t:Tok) (s:Shared) (Q:Value→Shared→Prop) (E:Value→Shared→Prop),Q (.int (g i) s.toks) { s with toks:=s.toks+1 }→wpAny (model X.prog X.w) X.A (f (.int i t)) Q E s) :
  UnR X f (rU fun i=>.int (g i)):=by
 intro pins s σ H x v Q I rx h
 obtain ⟨i,rfl,q⟩:=h
 obtain ⟨t,rfl⟩:=rx
 exact rule i t s _ _ ⟨.int (g i),H,I.tok _,⟨_,rfl⟩,q⟩
theorem Zrx:UnR X (unaryOp .USub) (rU fun i=>.int (-i)):=unI fun _ _ _ _ _ q=>neg_int q
theorem ZqI:UnR X (unaryOp .Invert) (rU fun i=>.int (Builtin.bitNot i)):=unI fun _ _ _ _ _ q=>invert_int q
end
section
variable {X:Cx} {a b c:Expr} {ta tb tc:TE} {pos:Pos}
theorem fin_bl {pins:List (Addr×Obj)}{σ:St}{H:Hp}{s:Shared}{Q:VK}{k k':Bool}(I:Inv X pins σ H s)(q:Q (.bl k) H)(e:k=k'):EP X pins σ Q (.bool k') s:=by
 subst e
 exact ⟨.bl k,H,I,rfl,q⟩
theorem Zqu:OpR X (compareOp .Lt) (rI0 fun i j=>.bl (decide (i<j))):=Zr1 fun _ _ _ _ _ _ _ q=>lt_int q
theorem Zl9:OpR X (compareOp .Gt) (rI0 fun i j=>.bl (decide (j<i))):=Zr1 fun _ _ _ _ _ _ _ q=>gt_int q
theorem ZsC:OpR X (compareOp .GtE) (rI0 fun i j=>.bl (decide (j≤i))):=Zr1 fun _ _ _ _ _ _ _ q=>ge_int q
theorem Zkk:OpR X (compareOp .In) (fun x y H Q=>∃ i j,x=.str i∧y=.str j∧Q (.bl (!(Builtin.Str.occurrences j i 0 j.length 1).isEmpty)) H):=by
 intro pins s σ H x y v u Q I rx ry h
 obtain ⟨i,j,rfl,rfl,q⟩:=h
 obtain ⟨t,rfl⟩:=rx
 obtain ⟨t',rfl⟩:=ry
 exact in_str (fin_bl I q rfl)
theorem ZmP:OpR X (compareOp .Is) (fun x y H Q=>y=.non∧Q (.bl (decide (x=.non))) H):=by
 intro pins s σ H x y v u Q I rx ry h
 obtain ⟨rfl,q⟩:=h
 cases ry
 refine is_none_gen (fin_bl I q ?_)
 cases x <;> first
  | (cases rx; rfl)
  | (obtain ⟨t,rfl⟩:=rx; rfl)
theorem ZhM:OpR X (compareOp .IsNot) (fun x y H Q=>y=.non∧Q (.bl (!decide (x=.non))) H):=by
 intro pins s σ H x y v u Q I rx ry h
 obtain ⟨rfl,q⟩:=h
 cases ry
 refine isnot_none_gen (fin_bl I q ?_)
 cases x <;> first
  | (cases rx; rfl)
  | (obtain ⟨t,rfl⟩:=rx; rfl)
theorem OpR.or {f:Value→Value→Sem Value}{r r':R2}(h:OpR X f r)(h':OpR X f r'):OpR X f (fun x y H Q=>r x y H Q∨r' x y H Q):=by
 intro pins s σ H x y v u Q I rx ry q
 rcases q with q | q
 ·exact h pins s σ H x y v u Q I rx ry q
 ·exact h' pins s σ H x y v u Q I rx ry q
theorem Zat (b:Expr){op:CmpOp}(h:op≠.In:=by decide)(h2:op≠.NotIn:=by decide):behindInMarks op b=false:=by
 have e1:(op == CmpOp.In)=false:=by cases op <;> first | rfl | exact absurd rfl h
 have e2:(op == CmpOp.NotIn)=false:=by cases op <;> first | rfl | exact absurd rfl h2
 cases b <;> simp [behindInMarks,e1,e2]
theorem Zo6 {op:CmpOp}{r:R2}(ho:OpR X (compareOp op) r)(ha:PE X a ta)(hb:PE X b tb)(hm:behindInMarks op b=false):PE X (.Compare a [op] [b] pos) (tOp r ta tb):=by
 intro pins s σ H Q I h
 exact wpAny_Compare1 (Zr4 ha hb I h fun v u s2 x y H2 I2 rx ry q=>ho pins s2 σ H2 x y v u Q I2 rx ry q) hm
def Zs1 (t:TE):TT:=fun σ H Q=>t σ H fun x H'=>∃ k,x=.bl k∧Q k H'
theorem ZnE {op:CmpOp}{r:R2}(ho:OpR X (compareOp op) r)(ha:PE X a ta)(hb:PE X b tb)(hm:behindInMarks op b=false):PT X (.Compare a [op] [b] pos) (Zs1 (tOp r ta tb)):=by
 intro pins s σ H Q I h
 refine wpAny_isTrue_Compare1 (thn (ha pins s σ H _ I h) fun v s1 ⟨x,H1,I1,r1,q1⟩=>thn (hb pins s1 σ H1 _ I1 q1) fun u s2 ⟨y,H2,I2,r2,q2⟩=>
  thn (ho pins s2 σ H2 x y v u _ I2 r1 r2 q2) fun c s3 ⟨z,H3,I3,r3,k,e,q3⟩=>?_) hm
 subst e
 cases r3
 exact wpAny_truthy_bool ⟨H3,I3,q3⟩
theorem ZgM:(sizeLine:Nat)<2 ^ 63:=by rw [sizeLine_eq]; decide
theorem Zi1:OpR X (binaryOp .Add) (fun x y H Q=>∃ i j,x=.str i∧y=.str j∧i.length+j.length≤sizeLine∧Q (.str (i++j)) H):=by
 intro pins s σ H x y v u Q I rx ry h
 obtain ⟨i,j,rfl,rfl,hz,q⟩:=h
 obtain ⟨t,rfl⟩:=rx
 obtain ⟨t',rfl⟩:=ry
 exact add_str (fun t' tk=>⟨.str (i++j),H,I.tok _,⟨_,rfl⟩,q⟩) hz
theorem ZhY {x:V}{us:List Value}(r:Vals [x] us):∃ u,us=[u]∧RelV x u:=by
 cases r with
 | cons r1 r2=>cases r2; exact ⟨_,rfl,r1⟩
theorem ZkE:CallR X (.type "int") (fun xs H Q=>(∃ i,xs=[.int i]∧Q (.int i) H)∨∃ k,xs=[.bl k]∧Q (.int (if k then 1 else 0)) H):=by
 intro pins s σ H xs us Q I r h
 rcases h with ⟨i,rfl,q⟩ | ⟨k,rfl,q⟩
 ·obtain ⟨u,rfl,t,rfl⟩:=ZhY r
  exact call_int_int ⟨.int i,H,I,⟨_,rfl⟩,q⟩
 ·obtain ⟨u,rfl,r1⟩:=ZhY r
  cases r1
  exact call_int_bool ⟨.int (if k then 1 else 0),H,I.tok _,⟨_,rfl⟩,q⟩
theorem ZcB:CallR X (.type "str") (fun xs H Q=>∃ i,xs=[.int i]∧i.natAbs.log2<1920∧Q (.str (toString i)) H):=by
 intro pins s σ H xs us Q I r h
 obtain ⟨i,rfl,hz,q⟩:=h
 obtain ⟨u,rfl,t,rfl⟩:=ZhY r
 exact PySem.P.str_of_int hz ⟨.str _,H,I.tok _,⟨_,rfl⟩,q⟩
def Zua (K:PySem.W.Frag)(x:V)(H:Hp)(n:Nat):Prop:=
 match x with
 | .str y=>y.length≤sizeLine∧n=y.length
 | .byt y=>y.size≤sizeLine∧n=y.size
 | .ref p=>(∃ xs,SqL K H p xs∧n=xs.length)∨∃ xs,SqT K H p xs∧n=xs.length
 | _=>False
theorem Zmv:CallR X (.builtin "len") (fun xs H Q=>∃ x n,xs=[x]∧Zua X.K x H n∧Q (.int n) H):=by
 intro pins s σ H xs us Q I r h
 obtain ⟨x,n,rfl,e,q⟩:=h
 obtain ⟨u,rfl,rx⟩:=ZhY r
 have hl:=ZgM
 have hs:sizeLine=16777216:=sizeLine_eq
 cases x with
 | str y=>
  obtain ⟨t,rfl⟩:=rx
  obtain ⟨hy,e'⟩:y.length≤sizeLine∧n=y.length:=e
  subst e'
  exact len_str (by omega) ⟨.int _,H,I.tok _,⟨_,rfl⟩,q⟩
 | byt y=>
  obtain ⟨t,rfl⟩:=rx
  obtain ⟨hy,e'⟩:y.size≤sizeLine∧n=y.size:=e
  subst e'
  exact PySem.W.len_bytes (by omega) ⟨.int _,H,I.tok _,⟨_,rfl⟩,q⟩
 | ref p=>
  cases rx
  have e':(∃ xs,SqL X.K H p xs∧n=xs.length)∨∃ xs,SqT X.K H p xs∧n=xs.length:=e
  rcases e' with ⟨xs,hx,e'⟩ | ⟨xs,hx,e'⟩
  ·subst e'
   obtain ⟨its,r',pl,hz⟩:=I.list hx
   have hlen:=r'.length
   exact Calls.call_len_list pl.isList (by simp only [List.size_toArray]; omega) ⟨.int xs.length,H,I.tok _,⟨_,by simp only [List.size_toArray]; rw [hlen]⟩,q⟩
  ·subst e'
   obtain ⟨its,r',pl,hz⟩:=I.tuple hx
   have hlen:=r'.length
   exact len_tuple pl (by simp only [List.size_toArray]; omega) ⟨.int xs.length,H,I.tok _,⟨_,by simp only [List.size_toArray]; rw [hlen]⟩,q⟩
 | _=>exact (show False from e).elim
end
end L2
namespace L2
open PySem PySem.Spec PyProof.Rows
structure ObjM (h:Heap)(x dx C:Addr)(mA:Str→Option Value):Prop where
 obj:h.get? x=some (PySem.W.instObj C dx)
 ns:h.Ns1 dx mA
 ne:dx≠x
theorem Zg9 {h:Heap}{dx:Addr}{mA:Str→Option Value}(n:h.Ns1 dx mA):∃ od,h.get? dx=some od∧∀ name,PySem.W.lookIn name od=some (mA name):=by
 obtain ⟨o,es,ep,ho,hd,hk,_,hm⟩:=n
 refine ⟨o,ho,fun name=>?_⟩
 have e:=hm name
 unfold nsFind findBy at e
 rw [← Array.find?_toList] at e
 unfold PySem.W.lookIn
 rw [hd]
 dsimp only
 split
 ·rename_i y q
  rw [q] at e
  exact congrArg some e
 ·rename_i q
  rw [q] at e
  have a:es.toList.any (·.refKey)=false:=by
   rw [List.any_eq_false]
   intro y hy
   obtain ⟨z,t,hkey⟩:=hk y (Array.mem_toList_iff.mp hy)
   simp [DictEntry.refKey,hkey]
  have a':¬es.toList.any (·.refKey)=true:=by rw [a]; exact Bool.false_ne_true
  rw [if_neg a']
  exact congrArg some e
theorem ObjM.look {h:Heap}{x dx C:Addr}{mA:Str→Option Value}(I:ObjM h x dx C mA):∃ od,PySem.W.InstAt h x (PySem.W.instObj C dx) C (some od)∧∀ name,PySem.W.lookIn name od=some (mA name):=
 let ⟨od,ho,hl⟩:=Zg9 I.ns
 ⟨od,⟨I.obj,rfl,rfl,ho⟩,hl⟩
section
variable {prog:Program} {w:World} {A:Around} {E:Value→Shared→Prop} {s:Shared} {K:PySem.W.Frag} {x dx C f:Addr} {mA:Str→Option Value} {name:Str} {v:Value}
theorem Zpe {expr:Bool}{Q:Value→Shared→Prop}(X:K.In s.heap)(I:ObjM s.heap x dx C mA)(hg:PySem.W.plainGet K C name=true)(hh:PySem.W.hasDictIn K C=true)
  (ha:PySem.W.findIn K (.ref C) name=some none) (hv:mA name=some v) (hv':PySem.W.handedIn v=true) (h:Q v { s with toks:=s.toks+1 }) :
  wpAny (model prog w) A (getAttr (.ref x) name expr) Q E s:=by
 obtain ⟨od,J,hl⟩:=I.look
 exact PySem.W.get_value X J (PySem.W.plainGet_of hg).1 (PySem.W.findObj_own hh ha rfl (by rw [hl,hv])) hv' h
theorem Zmc {pl:Sem Bool}{Q:Value×List Value→Shared→Prop}(X:K.In s.heap)(I:ObjM s.heap x dx C mA)(hg:PySem.W.plainGet K C name=true)
  (hf:PySem.W.findIn K (.ref C) name=some (some (.ref f))) (ht:PySem.W.isFn K (.ref f)=true) (hv:mA name=none) (h:Q (.ref f,[.ref x]) s) :
  wpAny (model prog w) A (getMethod (.ref x) name pl) Q E s:=by
 obtain ⟨od,J,hl⟩:=I.look
 exact PySem.W.method_fn X J (PySem.W.plainGet_of hg).1 (PySem.W.plainGet_of hg).2 hf (beq_iff_eq.mp ht) (by show (PySem.W.lookIn name od).map (·.isSome)=some false; rw [hl,hv]; rfl) h
theorem Zpj {ns:List Str}{Q:Unit→Shared→Prop}(X:K.In s.heap)(I:ObjM s.heap x dx C mA)
  (hs:PySem.W.findIn K (.ref C) "__setattr__"=some (some (.builtin "object.__setattr__"))) (hp:PySem.W.plainOver K C=true) (ht:PySem.W.takerIn K C name=some none) (hh:PySem.W.hasDictIn K C=true)
  (hw:PySem.Within mA ns) (hsz:ns.length≤sizeLine)
  (h:∀ h',ObjM h' x dx C (fun y=>if y=name then some v else mA y)→Heap.SameBut dx s.heap h'→Q () { s with heap:=h',toks:=s.toks+2 }) :
  wpAny (model prog w) A (setAttr (.ref x) name v) Q E s:=by
 obtain ⟨od,J,hl⟩:=I.look
 refine PySem.W.set_plain X J hs (PySem.W.osa_open (s:={ s with toks:=s.toks+1 }) (r:=none) X J hp ht fun b=>?_)
 obtain ⟨cd,hc,hd'⟩:=PySem.W.any_some hh
 have hx:s.heap.get? x=some ⟨.ref C,some dx,.plain,#[]⟩:=I.obj
 refine wpAny_bind (wpAny_pure (wpAny_bind (wpAny_bind (wpAny_loadPart hx (wpAny_bind (PySem.W.Looks.here (s:={ s with toks:=s.toks+1 }) (PySem.W.looks_clsIn X hc) ?_))))))
 rw [hd']
 refine wpAny_pure (a:=some dx) (wpAny_bind (wpAny_pure (wpAny_bind ?_)))
 refine wpAny_nsSet1 (s:={ s with toks:=s.toks+1 }) I.ns fun h' hn2 hs2=>?_
 obtain ⟨oD,esD,epD,hoD,hdD,hcD⟩:=hn2.count (PySem.Within.cons name v hw)
 refine wpAny_bind (wpAny_lookBehind hoD (by rw [hdD]; exact pastItsLine_dict (Nat.le_trans hcD (by rw [List.length_cons]; omega))) ?_)
 exact wpAny_pure (h _ ⟨(hs2.2 _ (Ne.symm I.ne)).trans I.obj,hn2,I.ne⟩ hs2)
theorem Zmz {R:Result→Shared→Prop}{vs:List Value}{kw:List (Str×Value)}(X:K.In s.heap)(hm:PySem.W.makesIn K C=true)
  (hi:PySem.W.findIn K (.ref C) "__init__"=some (some (.ref f))) (hf:PySem.W.typeIn K (.ref f)=some (.type "function"))
  (h:codeAny (model prog w) (A.under (.builtin "type.__call__" ⟨.ref C::vs,kw⟩)) (.call (.ref f) ⟨.ref (s.heap.objs.size+1)::vs,kw⟩) (PySem.W.InitBack (s.heap.objs.size+1) R)
   { s with heap:=(s.heap.push PySem.W.emptyDict).push (PySem.W.instObj C s.heap.objs.size) }) :
  codeAny (model prog w) A (.call (.ref C) ⟨vs,kw⟩) R s:=by
 obtain ⟨hh,g,d,t,os⟩:=s
 exact PySem.W.make_core (PySem.W.makes_of X hm) (PySem.W.looks_findIn X hi) (fun self=>PySem.W.bind_fn X self hf) (.inl rfl) h
end
def ZfR (f:Str)(v:V):List (Str×V)→List (Str×V)
 | []=>[(f,v)]
 | (g,x)::r=>if g=f then (g,v)::r else (g,x)::ZfR f v r
theorem Ze9 (f g:Str)(v:V):∀ fs:List (Str×V),(ZfR f v fs).lookup g=if g=f then some v else fs.lookup g
 | []=>by
  show List.lookup g [(f,v)]=_
  by_cases h:g=f
  ·have hb:(g == f)=true:=beq_iff_eq.mpr h
   simp only [List.lookup,hb,if_pos h]
  ·have hb:(g == f)=false:=beq_eq_false_iff_ne.mpr h
   simp only [List.lookup,hb,if_neg h]
 | (k,x)::r=>by
  have ih:=Ze9 f g v r
  rw [show ZfR f v ((k,x)::r)=(if k=f then (k,v)::r else (k,x)::ZfR f v r) from rfl]
  by_cases hk:k=f
  ·rw [if_pos hk]
   by_cases h:g=k
   ·have hb:(g == k)=true:=beq_iff_eq.mpr h
    simp only [List.lookup,hb,if_pos (h.trans hk)]
   ·have hb:(g == k)=false:=beq_eq_false_iff_ne.mpr h
    simp only [List.lookup,hb,if_neg (fun e:g=f=>h (e.trans hk.symm))]
  ·rw [if_neg hk]
   by_cases h:g=k
   ·have hb:(g == k)=true:=beq_iff_eq.mpr h
    simp only [List.lookup,hb,if_neg (fun e:g=f=>hk (h.symm.trans e))]
   ·have hb:(g == k)=false:=beq_eq_false_iff_ne.mpr h
    simp only [List.lookup,hb]
    exact ih
theorem ZeV (f:Str)(v:V):∀ fs:List (Str×V),f∈(ZfR f v fs).map (·.1)∧∀ g,g∈fs.map (·.1)→g∈(ZfR f v fs).map (·.1)
 | []=>⟨by simp [ZfR],fun g h=>by simp at h⟩
 | (k,x)::r=>by
  obtain ⟨i1,i2⟩:=ZeV f v r
  rw [show ZfR f v ((k,x)::r)=(if k=f then (k,v)::r else (k,x)::ZfR f v r) from rfl]
  by_cases hk:k=f
  ·rw [if_pos hk]
   subst hk
   exact ⟨by simp,fun g h=>by simpa using h⟩
  ·rw [if_neg hk]
   refine ⟨?_,fun g h=>?_⟩
   ·rw [List.map_cons]
    exact List.mem_cons_of_mem _ i1
   ·rw [List.map_cons] at h ⊢
    rcases List.mem_cons.mp h with e | e
    ·exact List.mem_cons.mpr (.inl e)
    ·exact List.mem_cons_of_mem _ (i2 g e)
theorem ZeX (f:Str)(v:V):∀ fs:List (Str×V),(ZfR f v fs).length≤fs.length+1
 | []=>by simp [ZfR]
 | (k,x)::r=>by
  have ih:=ZeX f v r
  rw [show ZfR f v ((k,x)::r)=(if k=f then (k,v)::r else (k,x)::ZfR f v r) from rfl]
  by_cases hk:k=f
  ·rw [if_pos hk,List.length_cons,List.length_cons]; omega
  ·rw [if_neg hk,List.length_cons,List.length_cons]; omega
theorem RelO.some_of {v:V}{o:Option Value}(r:RelO (some v) o):∃ u,o=some u∧RelV v u:=by
 cases o with
 | none=>exact (show False from r).elim
 | some u=>exact ⟨u,rfl,r⟩
theorem RelO.none_of {o:Option Value}(r:RelO none o):o=none:=by
 cases o with
 | none=>rfl
 | some u=>exact (show False from r).elim
theorem ZgZ {v:V}{u:Value}(r:RelV v u):PySem.W.handedIn u=true:=by
 cases v with
 | non=>cases (show u=Value.none from r); rfl
 | bl b=>cases (show u=Value.bool b from r); rfl
 | int i=>obtain ⟨t,e⟩:=(show ∃ t,u=Value.int i t from r); cases e; rfl
 | str x=>obtain ⟨t,e⟩:=(show ∃ t,u=Value.str x t from r); cases e; rfl
 | byt b=>obtain ⟨t,e⟩:=(show ∃ t,u=Value.bytes b t from r); cases e; rfl
 | flt b=>obtain ⟨t,e⟩:=(show ∃ t,u=Value.float b t from r); cases e; rfl
 | ref a=>cases (show u=Value.ref a from r); rfl
 | ty n=>cases (show u=Value.type n from r); rfl
section
variable {P:Program} {w:World} {H H':Hp} {h h':Heap} {a C dx:Addr} {fs fs':List (Str×V)}
theorem Zgy (hok:HOk P w H h)(e:H a=some (.ins C dx fs)):∃ mA,ObjM h a dx C mA∧(∀ f,RelO (fs.lookup f) (mA f))∧PySem.Within mA (fs.map (·.1))∧fs.length≤1000∧H dx=some (.own a):=by
 obtain ⟨d,z,ne,ob,mA,n,r,q⟩:=(show ObjOk P w H h a (.ins C dx fs) from hok a _ e)
 exact ⟨mA,⟨ob,n,ne⟩,r,q,z,d⟩
end
structure Cls (K:PySem.W.Frag)(C:Addr):Prop where
 pg:PySem.W.plainGet K C Str.empty=true
 hd:PySem.W.hasDictIn K C=true
 po:PySem.W.plainOver K C=true
 sa:PySem.W.findIn K (.ref C) "__setattr__"=some (some (.builtin "object.__setattr__"))
theorem Cls.get {K:PySem.W.Frag}{C:Addr}(c:Cls K C)(f:Str):PySem.W.plainGet K C f=true:=c.pg
def NoAttr (K:PySem.W.Frag)(C:Addr)(f:Str):Prop:=PySem.W.findIn K (.ref C) f=some none
theorem NoAttr.taker {K:PySem.W.Frag}{C:Addr}{f:Str}(n:NoAttr K C f):PySem.W.takerIn K C f=some none:=by
 unfold PySem.W.takerIn
 rw [show PySem.W.findIn K (.ref C) f=some none from n]
 rfl
structure Meth (K:PySem.W.Frag)(C:Addr)(m:Str)(f:Addr):Prop where
 at_:PySem.W.findIn K (.ref C) m=some (some (.ref f))
 fn:PySem.W.isFn K (.ref f)=true
 kp:PySem.W.keepIn K (.ref f)=true
section
variable {X:Cx} {pins:List (Addr×Obj)} {σ:St} {H:Hp} {s:Shared} {a C dx:Addr} {fs:List (Str×V)} {f:Str} {v:V} {A:Around} {E:Value→Shared→Prop}
theorem Zje {b:Bool}{Q:Value→Shared→Prop}(I:Inv X pins σ H s)(e:H a=some (.ins C dx fs))(c:Cls X.K C)(n:NoAttr X.K C f)(l:fs.lookup f=some v)
  (h:∀ u s',Inv X pins σ H s'→RelV v u→Q u s'):wpAny (model X.prog X.w) A (getAttr (.ref a) f b) Q E s:=by
 obtain ⟨mA,O,r,_,_,_⟩:=Zgy I.hok e
 obtain ⟨u,hu,ru⟩:=RelO.some_of (v:=v) (o:=mA f) (by rw [← l]; exact r f)
 exact Zpe I.kIn O (c.get f) c.hd n hu (ZgZ ru) (h u _ (I.tok _) ru)
theorem Zd1 {m:Str}{g:Addr}{pl:Sem Bool}{Q:Value×List Value→Shared→Prop}(I:Inv X pins σ H s)(e:H a=some (.ins C dx fs))(c:Cls X.K C)(k:Meth X.K C m g)(l:fs.lookup m=none)
  (h:Q (.ref g,[.ref a]) s):wpAny (model X.prog X.w) A (getMethod (.ref a) m pl) Q E s:=by
 obtain ⟨mA,O,r,_,_,_⟩:=Zgy I.hok e
 have hn:mA m=none:=RelO.none_of (by rw [← l]; exact r m)
 exact Zmc I.kIn O (c.get m) k.at_ k.fn hn h
theorem ZiV {y:V}{u:Value}{Q:Unit→Shared→Prop}(I:Inv X pins σ H s)(e:H a=some (.ins C dx fs))(c:Cls X.K C)(n:NoAttr X.K C f)(hl:fs.length<1000)(ry:RelV y u)
  (h:∀ s',Inv X pins σ (upd H a (.ins C dx (ZfR f y fs))) s'→Q () s'):wpAny (model X.prog X.w) A (setAttr (.ref a) f u) Q E s:=by
 obtain ⟨mA,O,r,wi,_,ho⟩:=Zgy I.hok e
 have hz:(fs.map (·.1)).length≤sizeLine:=by rw [List.length_map,sizeLine_eq]; omega
 refine Zpj I.kIn O c.sa c.po n.taker c.hd wi hz fun h' O' sb=>h _ ?_
 have hd:∃ o,h'.get? dx=some o:=let ⟨o,_,_,e',_⟩:=O'.ns; ⟨o,e'⟩
 refine I.write (x:=a) (e:=dx) (by rw [e]; exact True.intro) (.inr ho) (fun b q hb z=>(sb.2 b hb).trans z) hd ?_
 refine ⟨by rw [Zak O.ne]; exact ho,?_,O.ne,O'.obj,_,O'.ns,fun g=>?_,fun g hg=>?_⟩
 ·have:=ZeX f y fs; omega
 ·show RelO ((ZfR f y fs).lookup g) (if g=f then some u else mA g)
  rw [Ze9]
  by_cases q:g=f
  ·rw [if_pos q,if_pos q]; exact ry
  ·rw [if_neg q,if_neg q]; exact r g
 ·by_cases q:g=f
  ·rw [q]; exact (ZeV f y fs).1
  ·refine (ZeV f y fs).2 g (wi g fun z=>hg ?_)
   show (if g=f then some u else mA g)=none
   rw [if_neg q]; exact z
theorem Inv.made (I:Inv X pins σ H s):Inv X pins σ (upd (upd H s.heap.objs.size (.own (s.heap.objs.size+1))) (s.heap.objs.size+1) (.ins C s.heap.objs.size []))
  { s with heap:=(s.heap.push PySem.W.emptyDict).push (PySem.W.instObj C s.heap.objs.size) }:=by
 have e1:(s.heap.push PySem.W.emptyDict).get? s.heap.objs.size=some PySem.W.emptyDict:=Heap.get?_push_size s.heap rfl
 have e2:((s.heap.push PySem.W.emptyDict).push (PySem.W.instObj C s.heap.objs.size)).get? (s.heap.objs.size+1)=some (PySem.W.instObj C s.heap.objs.size):=by
  have:=Heap.get?_push_size (s.heap.push PySem.W.emptyDict) (o:=PySem.W.instObj C s.heap.objs.size) rfl
  rwa [Heap.size_push] at this
 have e3:(s.heap.push PySem.W.emptyDict).Ns s.heap.objs.size (fun _=>none):=⟨PySem.W.emptyDict,#[],_,e1,rfl,(fun e he=>absurd he (by simp)),fun _=>rfl⟩
 have I1:=I.laid (a:=s.heap.objs.size) (o:=.own (s.heap.objs.size+1)) (h':=s.heap.push PySem.W.emptyDict) (t':=s.toks) (fun b u q=>Heap.get?_push_of_some _ q) (Nat.le_refl _) ⟨_,e1⟩
 refine I1.laid (a:=s.heap.objs.size+1) (o:=.ins C s.heap.objs.size []) (t':=s.toks) (fun b u q=>Heap.get?_push_of_some _ q) (Nat.le_of_eq (Heap.size_push _ _)) ?_
 have ne:s.heap.objs.size≠s.heap.objs.size+1:=Nat.ne_of_lt (Nat.lt_succ_self _)
 refine ⟨by rw [Zak ne,ZaD],Nat.zero_le _,ne,e2,fun _=>none,(Heap.Ns1.of_empty e3).at fun o q=>Heap.get?_push_of_some _ q,fun _=>True.intro,fun y hy=>absurd rfl hy⟩
theorem Zk9 {prog:Program}{w:World}{env:Env}{e:Expr}{f:Str}{pos:Pos}{s:Shared}{Q:Value→Shared→Prop}(hb:attributeBase e f env (eval e env)=eval e env)
  (h:wpAny (model prog w) A (eval e env) (fun o s₁=>wpAny (model prog w) A (getAttr o f true) Q E s₁) E s):wpAny (model prog w) A (eval (.Attribute e f pos) env) Q E s:=
 Attribute_any_ h (by rw [arm_eval_Attribute,hb])
end
def Zui (K:PySem.W.Frag)(ta:TE)(f:Str):TE:=fun σ H Q=>ta σ H fun x H1=>∃ a C dx fs v,x=.ref a∧H1 a=some (.ins C dx fs)∧Cls K C∧NoAttr K C f∧fs.lookup f=some v∧Q v H1
def Zt7 (K:PySem.W.Frag)(ta tv:TE)(f:Str):TS:=fun D σ H=>tv σ H fun y H1=>ta σ H1 fun x H2=>∃ a C dx fs,x=.ref a∧H2 a=some (.ins C dx fs)∧Cls K C∧NoAttr K C f∧fs.length<1000 ∧
 D.nx σ (upd H2 a (.ins C dx (ZfR f y fs)))
section
variable {X:Cx} {o e value:Expr} {f:Str} {pos pos' tpos:Pos} {ta tv:TE}
theorem Zqm (he:PE X e ta)(hb:attributeBase e f X.env (eval e X.env)=eval e X.env):PE X (.Attribute e f pos) (Zui X.K ta f):=by
 intro pins s σ H Q I h
 refine Zk9 hb (thn (he pins s σ H _ I h) fun u s1 ⟨x,H1,I1,rx,a,C,dx,fs,v,ex,ea,c,n,l,q⟩=>?_)
 subst ex
 obtain rfl:u=Value.ref a:=rx
 exact Zje I1 ea c n l fun u' s2 I2 ru=>⟨v,H1,I2,ru,q⟩
theorem ZrK (ha:PE X o ta)(hv:PE X value tv)(hs:swapsWith value (some (.Attribute o f pos')) pos.line X.env=pure false):PS X (.Assign [.Attribute o f pos'] value pos) (Zt7 X.K ta tv f):=by
 intro pins s σ H D I h
 refine plainObj_wpAny_Assign_Attribute (thn (hv pins s σ H _ I h) fun u s1 ⟨y,H1,I1,ry,q⟩=>thn (ha pins s1 σ H1 _ I1 q) fun ov s2 ⟨x,H2,I2,rx,a,C,dx,fs,ex,ea,c,n,l,q2⟩=>?_) hs
 subst ex
 obtain rfl:ov=Value.ref a:=rx
 exact ZiV I2 ea c n l ry fun s3 I3=>⟨σ,_,I3,q2⟩
end
section
variable {X:Cx} {pins:List (Addr×Obj)} {σ:St} {H:Hp} {s:Shared} {A:Around} {E:Value→Shared→Prop} {Q:Value→Shared→Prop} {c:Value} {b:Bool}
inductive TyOf (K:PySem.W.Frag) (H:Hp):V→Value→Prop where
 | non:TyOf K H .non (.type "NoneType")
 | bl (x:Bool):TyOf K H (.bl x) (.type "bool")
 | int (i:Int):TyOf K H (.int i) (.type "int")
 | str (x:Str):TyOf K H (.str x) (.type "str")
 | flt (x:UInt64):TyOf K H (.flt x) (.type "float")
 | lst {a:Addr} {xs:List V} (e:H a=some (.lst xs)):TyOf K H (.ref a) (.type "list")
 | frz {a:Addr} {o:Obj} {xs:List V} (e:H a=some (.frz o (.lst xs))):TyOf K H (.ref a) (.type "list")
 | tup {a:Addr} {xs:List V} (e:H a=some (.tup xs)):TyOf K H (.ref a) (.type "tuple")
 | dK {a:Addr} {kvs:List (Key×V)} (e:H a=some (.dK kvs)):TyOf K H (.ref a) (.type "dict")
 | dT {a:Addr} {kvs:List (List Key×V)} (e:H a=some (.dT kvs)):TyOf K H (.ref a) (.type "dict")
 | ins {a C dx:Addr} {fs:List (Str×V)} (e:H a=some (.ins C dx fs)) (cl:Cls K C) (ha:PySem.W.findIn K (.ref C) "__class__"=some (some (.builtin "object.__class__")))
   (hn:PySem.W.specialIn K (.builtin "object.__class__") "__get__"=some (some (.builtin "getset_descriptor.__get__"))) (htk:PySem.W.takesIn K (.builtin "object.__class__")=some true)
   (hm:PySem.W.mroIn K C (.type "object")=some true):TyOf K H (.ref a) (.ref C)
end
end L2
namespace L2
open PySem PySem.Spec PyProof.Rows
structure Room (k:Nat)(A:Around):Prop where
 dp:A.depth+3 * k+5<recursionLimit
 un:A.units+16 * k+200<cLine
theorem Room.mono {j k:Nat}{A:Around}(r:Room k A)(h:j≤k):Room j A:=⟨by have:=r.dp; omega,by have:=r.un; omega⟩
theorem Room.deeper {k:Nat}{A:Around}(r:Room (k+1) A)(env:Env):Room k (A.deeper env):=
 ⟨by have:=r.dp; show A.depth+1+3 * k+5<_; omega,by have:=r.un; show A.units+3+16 * k+200<_; omega⟩
theorem Zjk {A:Around}{C:Addr}{us:List Value}{kw:List (Str×Value)}:(A.under (.builtin "type.__call__" ⟨.ref C::us,kw⟩)).depth=A.depth+1:=by
 first | rfl | simp [Around.under,Code.weight,Code.isCreation,Code.isGuard,Code.isCaller,Code.frames,Code.isFrame,guardIds]
theorem Zi6 {A:Around}{C:Addr}{us:List Value}{kw:List (Str×Value)}:(A.under (.builtin "type.__call__" ⟨.ref C::us,kw⟩)).units=A.units+1:=by
 first | rfl | simp [Around.under,Code.cUnits,Code.frames,Code.isFrame]
theorem Room.make {k:Nat}{A:Around}(r:Room (k+1) A)(C:Addr)(us:List Value)(kw:List (Str×Value)):Room k (A.under (.builtin "type.__call__" ⟨.ref C::us,kw⟩)):=
 ⟨by have:=r.dp; rw [Zjk]; omega,by have:=r.un; rw [Zi6]; omega⟩
theorem Room.depth {k:Nat}{A:Around}(r:Room k A):A.depth<recursionLimit:=by have:=r.dp; omega
theorem Room.units {k:Nat}{A:Around}(r:Room k A):A.units+64<cLine:=by have:=r.un; omega
def ZrR:TA:=fun _ H Q=>Q [] H
def ZpH (ta:TE)(tr:TA):TA:=fun σ H Q=>ta σ H fun x H1=>tr σ H1 fun xs H2=>Q (x::xs) H2
section
variable {X:Cx} {e:Expr} {es:List Expr} {te:TE} {t:TA} {pos:Pos}
theorem pa_nil:PA X [] ZrR:=fun _ _ _ _ H Q I h=>Calls.spliced_nil ⟨[],H,I,.nil,h⟩
theorem Zcf (ha:PE X e te)(hr:PA X es t)(hs:starEach (e::es) X.env=(false,eval e X.env)::starEach es X.env:=by rfl):PA X (e::es) (ZpH te t):=by
 intro pos pins s σ H Q I h
 rw [hs]
 show wpAny _ _ (spliced ((false,eval e X.env)::backTo pos (starEach es X.env))) _ _ s
 refine Calls.spliced_cons (thn (ha pins s σ H _ I h) fun u s1 ⟨x,H1,I1,r1,q1⟩=>?_)
 exact thn (hr pos pins s1 σ H1 _ I1 q1) fun us s2 ⟨xs,H2,I2,r2,q2⟩=>⟨x::xs,H2,I2,.cons r1 r2,q2⟩
def Zt5 (t:TA):TE:=fun σ H Q=>t σ H fun xs H1=>xs.length≤sizeLine∧∀ p,H1 p=none→Q (.ref p) (upd H1 p (.tup xs))
def Zt8 (t:TA):TE:=fun σ H Q=>t σ H fun xs H1=>xs.length≤sizeLine∧∀ p,H1 p=none→Q (.ref p) (upd H1 p (.lst xs))
theorem Zq9 {x1}(h:PA X es t):PE X (.Tuple es x1 pos) (Zt5 t):=by
 intro pins s σ H Q I hq
 refine wpAny_Tuple_spliced (thn (h pos pins s σ H _ I hq) fun us s1 ⟨xs,H1,I1,r,z,q⟩=>⟨by rw [← r.length]; exact z,?_⟩)
 have hf:H1 s1.heap.objs.size=none:=I1.hok.fresh (Nat.le_refl _)
 refine ⟨.ref s1.heap.objs.size,upd H1 s1.heap.objs.size (.tup xs),I1.laid (t':=s1.toks) (fun b u e=>Heap.get?_push_of_some _ e) (Nat.le_refl _) ?_,rfl,q _ hf⟩
 exact ⟨z,us,r,⟨_,Heap.get?_push_size _ rfl,rfl,_,rfl⟩⟩
theorem ZmR (h:PA X es t):PE X (.List es pos) (Zt8 t):=by
 intro pins s σ H Q I hq
 refine wpAny_List_spliced (thn (h pos pins s σ H _ I hq) fun us s1 ⟨xs,H1,I1,r,z,q⟩=>⟨by rw [← r.length]; exact z,?_⟩)
 have hf:H1 s1.heap.objs.size=none:=I1.hok.fresh (Nat.le_refl _)
 refine ⟨.ref s1.heap.objs.size,upd H1 s1.heap.objs.size (.lst xs),I1.laid (t':=s1.toks) (fun b u e=>Heap.get?_push_of_some _ e) (Nat.le_refl _) ?_,rfl,q _ hf⟩
 exact ⟨z,us,0,r,Heap.get?_push_size _ rfl⟩
end
abbrev Sp:=List V→Hp→VK→XK→Prop
structure CXT where
 ct:List Env→Hp→Shared→XK→Value→Shared→Prop
 q:Bool
instance:CoeFun CXT fun _=>List Env→Hp→Shared→XK→Value→Shared→Prop:=⟨CXT.ct⟩
structure Env0 (P:Program)(w:World)(K:PySem.W.Frag)(mg:Str→Option Value)(base:Heap)(A:Around)(outer:List Env)(s:Shared)(H:Hp):Prop where
 frames:A.frames=some outer
 mod:Mod K mg base
 bs:∀ b o,base.get? b=some o→s.heap.get? b=some o∧H b=none
 bsz:base.objs.size≤s.heap.objs.size
 funs:s.heap.FunFrames base outer
 frf:∀ b∈frs outer,H b=none
 hok:HOk P w H s.heap
 bare:AllBare s.gens
def CE (outer:List Env)(P:Program)(w:World)(H:Hp)(s:Shared)(Q:VK)(u:Value)(s':Shared):Prop:=
 ∃ v H',s'.os=s.os∧AllBare s'.gens∧Un (frs outer) [] H H' s.heap s'.heap∧HOk P w H' s'.heap∧RelV v u∧Q v H'
def CR (CX:CXT)(outer:List Env)(P:Program)(w:World)(H:Hp)(s:Shared)(Q:VK)(E:XK)(r:Result)(s':Shared):Prop:=
 match r with
 | .ok (.ret u)=>CE outer P w H s Q u s'
 | .ok _=>False
 | .error e=>CX outer H s E e s'
structure FnOk (P:Program)(w:World)(K:PySem.W.Frag)(mg:Str→Option Value)(base:Heap)(CX:CXT)(k:Nat)(f:Addr)(fd:FuncData)(ps:List Str)(sp:Sp):Prop where
 len:∀ vs H Q E,sp vs H Q E→vs.length=ps.length
 run:∀ (A:Around) (outer:List Env) (s:Shared) (H:Hp) (args:Args) (us:List Value) (vs:List V) (Q:VK) (E:XK),Room k A→(CX.q=true→A.handled=none)→Env0 P w K mg base A outer s H→BindsTo s fd args (ps.zip us)→Vals vs us→sp vs H Q E →
  codeAny (model P w) A (.call (.ref f) args) (CR CX outer P w H s Q E) s
theorem FnOk.imp {P:Program}{w:World}{K:PySem.W.Frag}{mg:Str→Option Value}{base:Heap}{CX:CXT}{k:Nat}{f:Addr}{fd:FuncData}{ps:List Str}{sp sp':Sp}(F:FnOk P w K mg base CX k f fd ps sp)
  (h:∀ vs H Q E,sp' vs H Q E→sp vs H Q E):FnOk P w K mg base CX k f fd ps sp':=
 ⟨fun vs H Q E q=>F.len vs H Q E (h _ _ _ _ q),fun A outer s H args us vs Q E hr hq he hb hv hs=>F.run A outer s H args us vs Q E hr hq he hb hv (h _ _ _ _ hs)⟩
theorem Env0.make {P:Program}{w:World}{K:PySem.W.Frag}{mg:Str→Option Value}{base:Heap}{A:Around}{outer:List Env}{s:Shared}{H:Hp}(e:Env0 P w K mg base A outer s H)(C:Addr)(us:List Value)(kw:List (Str×Value)) :
  Env0 P w K mg base (A.under (.builtin "type.__call__" ⟨.ref C::us,kw⟩)) outer s H:=⟨by first | exact e.frames | (simpa [Around.under,Code.envs,Code.isFrame,pushEnvs] using e.frames),e.mod,e.bs,e.bsz,e.funs,e.frf,e.hok,e.bare⟩
section
variable {X:Cx} {pins:List (Addr×Obj)} {σ:St} {H:Hp} {s s':Shared}
theorem Inv.env0 (I:Inv X pins σ H s):Env0 X.prog X.w X.K X.mg X.base X.A X.stack s H:=
 ⟨I.ok.frames,I.ok.mod,I.bs,Nat.le_trans I.ok.bsz I.sz,I.stack,I.stkFree,I.hok,I.bare⟩
theorem Inv.after {Q:VK}{u:Value}(I:Inv X pins σ H s)(h:CE X.stack X.prog X.w H s Q u s'):EP X pins σ Q u s':=by
 obtain ⟨v,H',os,bare,un,hok,r,q⟩:=h
 obtain ⟨hh,g,d,t,os'⟩:=s'
 obtain rfl:os'=s.os:=os
 exact ⟨v,H',I.call (h':=hh) (g':=g) (d':=d) (t':=t) (ch:=[]) un hok bare (fun b z=>absurd z (by simp)),r,q⟩
end
def ZnT (sp:Sp)(dvs:List V)(E:XK)(t:TA):TE:=fun σ H Q=>t σ H fun vs H1=>sp (vs++dvs) H1 Q E
def Zpd (C:Addr)(sp:Sp)(dvs:List V)(E:XK)(t:TA):TE:=fun σ H Q=>t σ H fun vs H1=>∀ x dx,H1 x=none→H1 dx=none→dx≠x →
 sp (.ref x::(vs++dvs)) (upd (upd H1 dx (.own x)) x (.ins C dx [])) (fun v H2=>v=.non∧Q (.ref x) H2) E
def Binds (K:PySem.W.Frag)(fd:FuncData)(ps:List Str)(ds:List Value):Prop:=
 ∀ (s:Shared) (us:List Value),K.In s.heap→(us++ds).length=ps.length→BindsTo s fd ⟨us,[]⟩ (ps.zip (us++ds))
theorem Binds.all {K:PySem.W.Frag}{fd:FuncData}{ps:List Str}(h:∀ us:List Value,us.length=ps.length→bindArgs fd ⟨us,[]⟩=pure (ps.zip us)):Binds K fd ps []:=fun s us _ hl=>by
 rw [List.append_nil] at hl ⊢
 exact .of_eq (h us hl)
def ZdR (CX:CXT)(X:Cx)(E:XK):Prop:=(CX.q=true→X.calm=true)∧∀ (pins:List (Addr×Obj)) (σ:St) (H:Hp) (s:Shared) (e:Value) (s':Shared),Inv X pins σ H s→CX X.stack H s E e s'→X.xe e s'
section
variable {X:Cx} {CX:CXT} {k:Nat} {f C:Addr} {fd:FuncData} {ps:List Str} {sp:Sp} {dvs:List V} {ds:List Value} {E:XK} {x m:Str} {p pos apos:Pos} {e o:Expr} {es:List Expr} {ta:TE} {t:TA}
theorem ZjU {pins:List (Addr×Obj)}{σ:St}{H:Hp}{s:Shared}{Q:VK}{us:List Value}{vs:List V}(F:FnOk X.prog X.w X.K X.mg X.base CX k f fd ps sp)(hr:Room k X.A)(hb:Binds X.K fd ps ds)(hd:Vals dvs ds)(hx:ZdR CX X E)
  (I:Inv X pins σ H s) (r:Vals vs us) (h:sp (vs++dvs) H Q E):wpAny (model X.prog X.w) X.A (call (.ref f) us) (EP X pins σ Q) X.xe s:=by
 have r2:Vals (vs++dvs) (us++ds):=r.append hd
 have hl:(us++ds).length=ps.length:=by rw [← r2.length]; exact F.len _ _ _ _ h
 refine wpAny_call (codeAny_mono (F.run X.A X.stack s H ⟨us,[]⟩ (us++ds) (vs++dvs) Q E hr (fun z=>I.ok.hd (hx.1 z)) I.env0 (hb s us I.kIn hl) r2 h) fun r s' hq=>?_)
 cases r with
 | error e=>exact hx.2 pins σ H s e s' I hq
 | ok fl=>
  cases fl with
  | ret u=>exact I.after hq
  | next=>exact False.elim hq
  | brk=>exact False.elim hq
  | cont=>exact False.elim hq
theorem ZnZ (F:FnOk X.prog X.w X.K X.mg X.base CX k f fd ps sp)(hr:Room k X.A)(hg:Gl X x)(hm:X.mg x=some (.ref f))(hk:PySem.W.keepIn X.K (.ref f)=true)(hb:Binds X.K fd ps ds)(hd:Vals dvs ds)(hx:ZdR CX X E)
  (ha:PA X (e::es) t) (hdb:(x == ("__debug__":Str))=false:=by decide) (he:starEach (e::es) X.env=(false,eval e X.env)::starEach es X.env:=by rfl) (hpl:(backTo pos (starEach es X.env)).any (·.1)=false:=by rfl) :
  PE X (.Call (.Name x p) (e::es) [] pos) (ZnT sp dvs E t):=by
 intro pins s σ H Q I h
 refine wpAny_Call_Name_kw (Zck I hg hm ?_ hdb)
 refine PySem.W.callWith_K (h₀:=X.base) I.ok.mod.kin hk (thn (ha pos pins s σ H _ I h) fun us s1 ⟨vs,H1,I1,r,q⟩=>⟨I1.kIn,?_⟩) he hpl
 exact ZjU F hr hb hd hx I1 r q
structure Mk (K:PySem.W.Frag)(C f:Addr):Prop where
 makes:PySem.W.makesIn K C=true
 init:PySem.W.findIn K (.ref C) "__init__"=some (some (.ref f))
 fn:PySem.W.isFn K (.ref f)=true
 kp:PySem.W.keepIn K (.ref C)=true
theorem ZiD {pins:List (Addr×Obj)}{σ:St}{H:Hp}{s:Shared}{Q:VK}{us:List Value}{vs:List V}(M:Mk X.K C f)(F:FnOk X.prog X.w X.K X.mg X.base CX k f fd ps sp)(hr:Room (k+1) X.A)(hb:Binds X.K fd ps ds)(hd:Vals dvs ds)
  (hx:ZdR CX X E) (I:Inv X pins σ H s) (r:Vals vs us)
  (h:∀ x dx,H x=none→H dx=none→dx≠x→sp (.ref x::(vs++dvs)) (upd (upd H dx (.own x)) x (.ins C dx [])) (fun v H2=>v=.non∧Q (.ref x) H2) E) :
  wpAny (model X.prog X.w) X.A (call (.ref C) us) (EP X pins σ Q) X.xe s:=by
 have hq:=h (s.heap.objs.size+1) s.heap.objs.size (I.hok.fresh (Nat.le_succ _)) (I.hok.fresh (Nat.le_refl _)) (Nat.ne_of_lt (Nat.lt_succ_self _))
 have I2:=Inv.made (C:=C) I
 have r2:Vals (V.ref (s.heap.objs.size+1)::(vs++dvs)) (Value.ref (s.heap.objs.size+1)::(us++ds)):=.cons rfl (r.append hd)
 have hl:(Value.ref (s.heap.objs.size+1)::us++ds).length=ps.length:=by
  have e:=r2.length
  rw [F.len _ _ _ _ hq] at e
  exact e.symm
 refine wpAny_call (Zmz (f:=f) I.kIn M.makes M.init (beq_iff_eq.mp M.fn) (codeAny_mono (F.run _ X.stack _ _ ⟨Value.ref (s.heap.objs.size+1)::us,[]⟩ (Value.ref (s.heap.objs.size+1)::(us++ds)) _ _ E (hr.make C us []) (fun z=>I.ok.hd (hx.1 z))
  (I2.env0.make C us []) (hb _ (Value.ref (s.heap.objs.size+1)::us) I2.kIn hl) r2 hq) fun r s' hq'=>?_))
 cases r with
 | error e=>exact hx.2 pins σ _ _ e s' I2 hq'
 | ok fl=>
  cases fl with
  | ret u=>
   obtain ⟨v,H',I3,rv,ev,q3⟩:=I2.after hq'
   subst ev
   exact ⟨rv,⟨V.ref (s.heap.objs.size+1),H',I3,rfl,q3⟩⟩
  | next=>exact False.elim hq'
  | brk=>exact False.elim hq'
  | cont=>exact False.elim hq'
theorem ZpR (M:Mk X.K C f)(F:FnOk X.prog X.w X.K X.mg X.base CX k f fd ps sp)(hr:Room (k+1) X.A)(hg:Gl X x)(hm:X.mg x=some (.ref C))(hb:Binds X.K fd ps ds)(hd:Vals dvs ds)(hx:ZdR CX X E)
  (ha:PA X (e::es) t) (hdb:(x == ("__debug__":Str))=false:=by decide) (he:starEach (e::es) X.env=(false,eval e X.env)::starEach es X.env:=by rfl) (hpl:(backTo pos (starEach es X.env)).any (·.1)=false:=by rfl) :
  PE X (.Call (.Name x p) (e::es) [] pos) (Zpd C sp dvs E t):=by
 intro pins s σ H Q I h
 refine wpAny_Call_Name_kw (Zck I hg hm ?_ hdb)
 refine PySem.W.callWith_K (h₀:=X.base) I.ok.mod.kin M.kp (thn (ha pos pins s σ H _ I h) fun us s1 ⟨vs,H1,I1,r,q⟩=>⟨I1.kIn,?_⟩) he hpl
 exact ZiD M F hr hb hd hx I1 r q
theorem ZlP (M:Mk X.K C f)(F:FnOk X.prog X.w X.K X.mg X.base CX k f fd ps sp)(hr:Room (k+1) X.A)(hg:Gl X x)(hm:X.mg x=some (.ref C))(hb:Binds X.K fd ps ds)(hd:Vals dvs ds)(hx:ZdR CX X E)
  (hdb:(x == ("__debug__":Str))=false:=by decide):PE X (.Call (.Name x p) [] [] pos) (Zpd C sp dvs E ZrR):=by
 intro pins s σ H Q I h
 refine wpAny_Call_Name_kw (Zck I hg hm ?_ hdb)
 exact PySem.W.callWith_K0 I.kIn M.kp (ZiD (us:=[]) M F hr hb hd hx I .nil h)
end
structure FnScope (N P:List Str)(sc:Scope):Prop where
 kind:sc.kind=.function
 co:sc.isCoroutine=false
 gen:sc.isGenerator=false
 nd:N.Nodup
 pre:N.take P.length=P
 par:∀ x∈P,sc.names.lookup x=some .local∨sc.names.lookup x=some .cell
 nofree:∀ y∈sc.names,y.2≠.free
theorem ZgE {kindOf:Str→Option NameKind}{x:Str}:∀ {binds:List (Str×Value)} {m:Str→Option Value},(∀ v,(x,v) ∉ binds)→bindL kindOf binds m x=m x
 | [],_,_=>rfl
 | (n,v)::r,m,h=>by
  unfold bindL
  rw [ZgE fun w hw=>h w (List.mem_cons_of_mem _ hw)]
  split
  ·have:x≠n:=by rintro rfl; exact h v List.mem_cons_self
   simp [this]
  ·rfl
theorem ZgS {kindOf:Str→Option NameKind}{x:Str}:∀ {binds:List (Str×Value)} {m:Str→Option Value},(∀ v,(x,v) ∉ binds)→bindC kindOf binds m x=m x
 | [],_,_=>rfl
 | (n,v)::r,m,h=>by
  unfold bindC
  rw [ZgS fun w hw=>h w (List.mem_cons_of_mem _ hw)]
  split
  ·rfl
  ·have:x≠n:=by rintro rfl; exact h v List.mem_cons_self
   simp [this]
theorem ZgV {kindOf:Str→Option NameKind}{x:Str}{v:Value}:∀ {P:List Str} {vs:List Value} {i:Nat} {m:Str→Option Value},P.Nodup→P[i]? = some x→vs[i]? = some v→kindOf x=some .local →
  bindL kindOf (P.zip vs) m x=some v
 | [],_,_,_,_,h,_,_=>by simp at h
 | _::_,[],_,_,_,_,h,_=>by simp at h
 | p::P,w::vs,0,m,nd,h1,h2,hk=>by
  simp at h1 h2; subst h1; subst h2
  show bindL kindOf ((p,w)::P.zip vs) m p=_
  unfold bindL
  rw [ZgE fun v hv=>(List.nodup_cons.mp nd).1 (List.of_mem_zip hv).1,if_pos hk]
  simp
 | p::P,w::vs,i+1,m,nd,h1,h2,hk=>by
  show bindL kindOf ((p,w)::P.zip vs) m x=_
  unfold bindL
  exact ZgV (i:=i) (List.nodup_cons.mp nd).2 (by simpa using h1) (by simpa using h2) hk
theorem ZgK {kindOf:Str→Option NameKind}{x:Str}{v:Value}:∀ {P:List Str} {vs:List Value} {i:Nat} {m:Str→Option Value},P.Nodup→P[i]? = some x→vs[i]? = some v→kindOf x≠some .local →
  bindC kindOf (P.zip vs) m x=some v
 | [],_,_,_,_,h,_,_=>by simp at h
 | _::_,[],_,_,_,_,h,_=>by simp at h
 | p::P,w::vs,0,m,nd,h1,h2,hk=>by
  simp at h1 h2; subst h1; subst h2
  show bindC kindOf ((p,w)::P.zip vs) m p=_
  unfold bindC
  rw [ZgS fun v hv=>(List.nodup_cons.mp nd).1 (List.of_mem_zip hv).1,if_neg hk]
  simp
 | p::P,w::vs,i+1,m,nd,h1,h2,hk=>by
  show bindC kindOf ((p,w)::P.zip vs) m x=_
  unfold bindC
  exact ZgK (i:=i) (List.nodup_cons.mp nd).2 (by simpa using h1) (by simpa using h2) hk
def start (N:List Str)(vs:List V):St:=vs.map some++List.replicate (N.length - vs.length) none
def ZfS (CX:CXT)(P:Program)(w:World)(K:PySem.W.Frag)(mg:Str→Option Value)(base:Heap)(N:List Str)(qual:Str)(scope:Scope)(f:Addr)(cd:Value)(A:Around)(outer:List Env)(s:Shared)(H:Hp)(E:XK):Cx where
 prog:=P
 w:=w
 K:=K
 mg:=mg
 base:=base
 A:=A.deeper (envOfC qual scope s.heap.objs.size f cd)
 N:=N
 s₀:=s
 H₀:=H
 env:=envOfC qual scope s.heap.objs.size f cd
 outer:=outer
 stack:=envOfC qual scope s.heap.objs.size f cd::outer
 ex:=[]
 calm:=CX.q
 fn:=fun _=>true
 pn:=[]
 xe:=fun e s'=>wpAny (model P w) (A.deeper (envOfC qual scope s.heap.objs.size f cd)) (leaving (envOfC qual scope s.heap.objs.size f cd) e) (fun _ s''=>CX outer H s E e s'') (fun e' s''=>CX outer H s E e' s'') s'
theorem Zis {sc:Scope}{n:Nat}{x:Str}(h:sc.names.lookup x=some .cell):∃ c,(cellsFrom n sc.names []).lookup x=some c:=by
 have q:=PySem.W.cellsFrom_some sc.names n [] (.inl h)
 exact Option.isSome_iff_exists.mp q
theorem Zka {CX:CXT}{P:Program}{w:World}{K:PySem.W.Frag}{mg:Str→Option Value}{base:Heap}{N ps:List Str}{qual:Str}{scope:Scope}{f:Addr}{cd:Value}{A:Around}{outer:List Env}{s s1:Shared}{H:Hp}{E:XK}{us:List Value}{vs:List V}
  (S:FnScope N ps scope) (hd:CX.q=true→A.handled=none) (e0:Env0 P w K mg base A outer s H) (hl:vs.length=ps.length) (r:Vals vs us)
  (x:InCallC s s.heap.objs.size (bindL (envOfC qual scope s.heap.objs.size f cd).kindOf (ps.zip us) fun _=>none) (cellsFrom (s.heap.objs.size+1) scope.names []) (bindC (envOfC qual scope s.heap.objs.size f cd).kindOf (ps.zip us) fun _=>none) s1) :
  Inv (ZfS CX P w K mg base N qual scope f cd A outer s H E) [] (start N vs) H s1:=by
 have hpl:ps.length≤N.length:=by have:=congrArg List.length S.pre; rw [List.length_take] at this; omega
 obtain ⟨h1,tk,rfl,hk⟩:=x.done
 have noA:∀ b:Addr,b ∉ (ZfS CX P w K mg base N qual scope f cd A outer s H E).ex:=fun b z=>absurd (show b∈([]:List Addr) from z) (by simp)
 refine ⟨⟨e0.mod,S.kind,rfl,rfl,Nat.le_refl _,fun y z c h1 h2=>?_,fun y hy=>?_,fun y c _ h=>?_,hd,Around.frames_deeper e0.frames,.inr ⟨rfl,rfl⟩,fun b z=>absurd z (noA b),e0.bs,e0.bsz,fun b _ _=>noA b,fun b z=>absurd z (noA b),e0.funs,e0.frf⟩,
  rfl,e0.bare,Un.kept hk,⟨_,x.toInCall.ns,fun i y v h1 h2 h3=>?_⟩,fun y c h=>⟨_,x.cell y c h⟩,e0.hok.fresh (Nat.le_refl _),fun y c h=>?_,fun p hp=>absurd (show p∈([]:List (Addr×Obj)) from hp) (by simp),e0.hok.kept hk,?_⟩
 ·exact name_of_addr x.apart (PySem.mem_of_lookup h1) (PySem.mem_of_lookup h2)
 ·have hy:scope.names.lookup y=some .cell∨scope.names.lookup y=some .free:=hy
  rcases hy with hy | hy
  ·exact Zis hy
  ·exact absurd rfl (S.nofree _ (PySem.mem_of_lookup hy))
 ·exact Nat.le_of_lt (x.above y c (PySem.mem_of_lookup h))
 ·have hi:i<vs.length:=by
   unfold start at h2
   by_cases hi:i<vs.length
   ·exact hi
   ·rw [List.getElem?_append_right (by simpa using hi)] at h2
    rw [List.getElem?_replicate] at h2
    split at h2 <;> cases h2
  have ha:vs[i]? = some v:=by
   unfold start at h2
   rw [List.getElem?_append_left (by simpa using hi),List.getElem?_map] at h2
   cases e:vs[i]? with
   | none=>rw [e] at h2; cases h2
   | some a=>rw [e] at h2; cases h2; rfl
  obtain ⟨u,hu,rv⟩:=r.get ha
  have hp:ps[i]? = some y:=by
   rw [← S.pre,List.getElem?_take_of_lt (by omega)]; exact h1
  have ndP:ps.Nodup:=by rw [← S.pre]; exact S.nd.sublist (List.take_sublist _ _)
  refine ⟨u,rv,?_⟩
  rcases S.par y (List.mem_of_getElem? hp) with k | k
  ·exact .inl ⟨k,ZgV ndP hp hu k⟩
  ·obtain ⟨c,e⟩:=Zis (n:=s.heap.objs.size+1) k
   refine .inr ⟨.inl k,c,e,?_⟩
   have q:=x.cell y c e
   rw [ZgK ndP hp hu (by show scope.names.lookup y≠_; rw [k]; decide)] at q
   exact q
 ·exact e0.hok.fresh (Nat.le_of_lt (x.above y c (PySem.mem_of_lookup h)))
 ·unfold start
  show _=N.length
  rw [List.length_append,List.length_map,List.length_replicate]
  omega
theorem Zp9 {CX:CXT}{P:Program}{w:World}{K:PySem.W.Frag}{mg:Str→Option Value}{base:Heap}{k:Nat}{f:Addr}{name qual:Str}{params:Arguments}{body:List Stmt}{scope:Scope}{dV kV doc pm cdv ct oc:Value}{an od:Option Addr}
  {osl:Array (Option Value)} {N ps:List Str} {sp:Sp} (lk:K.lookup f=some ⟨oc,od,.func (PySem.W.fnOf name qual params body scope dV kV doc pm an cdv ct),osl⟩) (hcd:PySem.W.codeIn K cdv qual=true) (S:FnScope N ps scope)
  (len:∀ vs H Q E,sp vs H Q E→vs.length=ps.length)
  (hbody:∀ (A:Around) (outer:List Env) (s:Shared) (H:Hp) (vs:List V) (Q:VK) (E:XK),Room k (A.deeper (envOfC qual scope s.heap.objs.size f cdv))→sp vs H Q E →
   ∃ t,PSs (ZfS CX P w K mg base N qual scope f cdv A outer s H E) body t∧t { nx:=fun _ H'=>Q .non H',rt:=Q } (start N vs) H) :
  FnOk P w K mg base CX (k+1) f (PySem.W.fnOf name qual params body scope dV kV doc pm an cdv ct) ps sp:=by
 refine ⟨len,fun A outer s H args us vs Q E hr hq0 e0 hb r hsp=>?_⟩
 have hl:=len _ _ _ _ hsp
 have KX:K.In s.heap:=e0.mod.kin.keeps fun b o e=>(e0.bs b o e).1
 have lim:s.heap.NoLimit:=e0.mod.nolimit.keeps fun b o e=>(e0.bs b o e).1
 have hkind:∀ y∈ps.zip us,scope.names.lookup y.1=some .local∨(scope.names.lookup y.1=some .cell∧((cellsFrom (s.heap.objs.size+1) scope.names []).lookup y.1).isSome=true):=fun ⟨n,v⟩ hy=>by
  rcases S.par n (List.of_mem_zip hy).1 with q | q
  ·exact .inl q
  ·exact .inr ⟨q,PySem.W.cellsFrom_some _ _ _ (.inl q)⟩
 refine codeAny_call_function hr.depth (KX _ _ lk) rfl S.co S.gen rfl (PySem.W.codeRec_of KX hcd) (hb _ _ _ _ ?_)
 refine wpAny_newFunctionEnv_cells S.kind hkind fun env he s1 x=>?_
 subst he
 refine ⟨lim.keeps x.toInCall.keep,codeAny_func ?_⟩
 obtain ⟨t,ht,hq⟩:=hbody A outer s H vs Q E (hr.deeper _) hsp
 have I:Inv (ZfS CX P w K mg base N qual scope f cdv A outer s H E) [] (start N vs) H s1:=Zka S hq0 e0 hl r x
 refine wpAny_mono (ht [] s1 (start N vs) H _ I hq) (fun fl s' hs=>?_) fun e s' hs=>hs
 have fin:∀ {σ':St} {H':Hp} {v:V} {u:Value},Inv (ZfS CX P w K mg base N qual scope f cdv A outer s H E) [] σ' H' s'→RelV v u→Q v H'→CE outer P w H s Q u s':=
  fun {σ' H' v u} J rv q=>⟨v,H',J.os,J.bare,J.base,J.hok,rv,q⟩
 cases fl with
 | ret u=>
  obtain ⟨v,σ',H',J,rv,q⟩:=hs
  exact fin J rv q
 | next=>
  obtain ⟨σ',H',J,q⟩:=hs
  exact fin (v:=V.non) (u:=Value.none) J rfl q
 | brk=>
  obtain ⟨_,_,_,q⟩:=hs
  exact False.elim q
 | cont=>
  obtain ⟨_,_,_,q⟩:=hs
  exact False.elim q
end L2
namespace L2
open PySem PySem.Spec PyProof.Rows
section
variable {X:Cx} {x:Str} {p pos:Pos} {e:Expr} {es:List Expr} {t:TA} {id T:String} {r:List V→Hp→VK→Prop}
def tCB (r:List V→Hp→VK→Prop)(t:TA):TE:=fun σ H Q=>t σ H fun vs H1=>r vs H1 Q
theorem ZfX (hc:CallR X (.builtin id) r)(hg:Gl X x)(hm:X.mg x=none)(hv:bootBuiltins x=some (.builtin id))(ha:PA X (e::es) t)(hn:x≠"__name__":=by decide)(hdb:(x == ("__debug__":Str))=false:=by decide)
  (he:starEach (e::es) X.env=(false,eval e X.env)::starEach es X.env:=by rfl) (hpl:(backTo pos (starEach es X.env)).any (·.1)=false:=by rfl):PE X (.Call (.Name x p) (e::es) [] pos) (tCB r t):=by
 intro pins s σ H Q I h
 refine wpAny_Call_Name_kw (Zfi I hg hm hv ?_ hn hdb)
 exact PyProof.Rows.callWith_builtin1 (thn (ha pos pins s σ H _ I h) fun us s1 ⟨vs,H1,I1,r1,q1⟩=>hc pins s1 σ H1 vs us Q I1 r1 q1) he hpl
theorem Zj0 (hc:CallR X (.type T) r)(hg:Gl X x)(hm:X.mg x=none)(hv:bootBuiltins x=some (.type T))(ha:PA X (e::es) t)(hn:x≠"__name__":=by decide)(hdb:(x == ("__debug__":Str))=false:=by decide)
  (he:starEach (e::es) X.env=(false,eval e X.env)::starEach es X.env:=by rfl) (hpl:(backTo pos (starEach es X.env)).any (·.1)=false:=by rfl):PE X (.Call (.Name x p) (e::es) [] pos) (tCB r t):=by
 intro pins s σ H Q I h
 refine wpAny_Call_Name_kw (Zfi I hg hm hv ?_ hn hdb)
 exact PyProof.Rows.callWith_type1 (thn (ha pos pins s σ H _ I h) fun us s1 ⟨vs,H1,I1,r1,q1⟩=>hc pins s1 σ H1 vs us Q I1 r1 q1) he hpl
end
end L2
namespace HT
open PySem PyProof.Rows
end HT
namespace L2
open PySem PySem.Spec PyProof.Rows
theorem ZcQ {ns:List Int}:∀ {us:List Value},Vals (ns.map V.int) us→IntsAre us ns:=by
 induction ns with
 | nil=>intro us r; rw [List.map_nil] at r; cases r; exact .nil
 | cons n ns ih=>
  intro us r
  rw [List.map_cons] at r
  cases r with
  | cons r1 r2=>
   obtain ⟨t,e⟩:=r1
   subst e
   exact .cons n t (ih r2)
end L2
namespace L2
open PySem PySem.Spec PyProof.Rows
def ixN (n:Nat)(i:Int):Option Nat:=if 0≤i then (if i<n then some i.toNat else none) else if -(n:Int)≤i then some (i+n).toNat else none
def atI {α:Type}(xs:List α)(i:Int):Option α:=(ixN xs.length i).bind fun j=>xs[j]?
theorem Zki {n:Nat}{i:Int}{j:Nat}(h:ixN n i=some j):seqIndex? i n=some j∧j<n ∧ -(n:Int)≤i∧i<n:=by
 unfold ixN at h
 by_cases h0:0≤i
 ·rw [if_pos h0] at h
  by_cases h1:i<n
  ·rw [if_pos h1] at h
   have e:i.toNat=j:=Option.some.inj h
   exact ⟨by rw [seqIndex_of h0 h1,e],by omega,by omega,h1⟩
  ·rw [if_neg h1] at h; cases h
 ·rw [if_neg h0] at h
  by_cases h1:-(n:Int)≤i
  ·rw [if_pos h1] at h
   have e:(i+n).toNat=j:=Option.some.inj h
   exact ⟨by rw [seqIndex_neg (by omega) h1,e],by omega,h1,by omega⟩
  ·rw [if_neg h1] at h; cases h
theorem Zhx {α:Type}{xs:List α}{i:Int}{v:α}(h:atI xs i=some v):∃ j,seqIndex? i xs.length=some j∧xs[j]? = some v∧j<xs.length ∧ -(xs.length:Int)≤i∧i<xs.length:=by
 unfold atI at h
 cases e:ixN xs.length i with
 | none=>rw [e] at h; cases h
 | some j=>
  rw [e] at h
  obtain ⟨h1,h2,h3,h4⟩:=Zki e
  exact ⟨j,h1,h,h2,h3,h4⟩
def ZhB (b:Expr):Prop:=∀ o i,subscripted b false o i=operate [o,i] (getItem o i)
def IxR (X:Cx)(r:R2):Prop:=
 ∀ (value slice:Expr) (pins:List (Addr×Obj)) (s:Shared) (σ:St) (H:Hp) (x y:V) (v u:Value) (Q:VK),Inv X pins σ H s→RelV x v→RelV y u→r x y H Q →
  subscripted slice false v u=operate [v,u] (getItem v u)→wpAny (model X.prog X.w) X.A (subscriptTail value slice v u) (EP X pins σ Q) X.xe s
def MtR (X:Cx)(id:String)(r:V→List V→Hp→VK→Prop):Prop:=
 ∀ (pins:List (Addr×Obj)) (s:Shared) (σ:St) (H:Hp) (x:V) (xs:List V) (v:Value) (us:List Value) (Q:VK),Inv X pins σ H s→RelV x v→Vals xs us→r x xs H Q →
  wpAny (model X.prog X.w) X.A (call (.builtin id) (v::us)) (EP X pins σ Q) X.xe s
section
variable {X:Cx} {a b:Expr} {ta tb:TE} {pos:Pos}
theorem IxR.or {r r':R2}(h:IxR X r)(h':IxR X r'):IxR X (fun x y H Q=>r x y H Q∨r' x y H Q):=by
 intro value slice pins s σ H x y v u Q I rx ry q hs
 rcases q with q | q
 ·exact h value slice pins s σ H x y v u Q I rx ry q hs
 ·exact h' value slice pins s σ H x y v u Q I rx ry q hs
theorem Zsi {r:R2}(hr:IxR X r)(ha:PE X a ta)(hb:PE X b tb)(hs:ZhB b):PE X (.Subscript a b pos) (tOp r ta tb):=by
 intro pins s σ H Q I h
 exact Subscript_ (Zr4 ha hb I h fun v u s2 x y H2 I2 rx ry q=>hr a b pins s2 σ H2 x y v u Q I2 rx ry q (hs _ _))
def Zth (K:PySem.W.Frag):R2:=fun x y H Q=>∃ p xs i v,x=.ref p∧y=.int i∧SqL K H p xs∧atI xs i=some v∧Q v H
def ZtH (K:PySem.W.Frag):R2:=fun x y H Q=>∃ p xs i v,x=.ref p∧y=.int i∧SqT K H p xs∧atI xs i=some v∧Q v H
def Zty:R2:=fun x y H Q=>∃ z i c,x=.str z∧y=.int i∧z.length≤sizeLine∧atI z.cps.toList i=some c∧Q (.str ⟨#[c]⟩) H
theorem ix_list:IxR X (Zth X.K):=by
 intro value slice pins s σ H x y v u Q I rx ry h hs
 obtain ⟨p,xs,i,z,rfl,rfl,hq,he,q⟩:=h
 cases rx
 obtain ⟨t,rfl⟩:=ry
 obtain ⟨its,r,pl,hz⟩:=I.list hq
 obtain ⟨j,h1,h2,h3,h4,h5⟩:=Zhx he
 obtain ⟨w,ew,rw'⟩:=r.get h2
 have hl:=r.length
 have hn:=ZgM
 have fin:EP X pins σ Q w s:=⟨z,H,I,rw',q⟩
 by_cases h0:0≤i
 ·have hj:i.toNat=j:=by
   rw [seqIndex_of h0 h5] at h1
   exact Option.some.inj h1
  exact item_listR pl.isList h0 (by omega) (by rw [hj]; simpa using ew) fin hs
 ·have hj:(i+(its.toArray.size:Int)).toNat=j:=by
   rw [seqIndex_neg (by omega) h4] at h1
   rw [List.size_toArray,← hl]
   exact Option.some.inj h1
  exact subscriptTail_builtinR (x:=w) pl.isList.typeIs slot_list_getitem.lookup
   (wpAny_getItem_list_neg (Q:=fun r s'=>r=w∧EP X pins σ Q r s') pl.isList (by omega) (by rw [List.size_toArray] <;> omega) (by omega) (by rw [hj]; simpa using ew) ⟨rfl,fin⟩) hs
theorem ix_tup:IxR X (ZtH X.K):=by
 intro value slice pins s σ H x y v u Q I rx ry h hs
 obtain ⟨p,xs,i,z,rfl,rfl,hq,he,q⟩:=h
 cases rx
 obtain ⟨t,rfl⟩:=ry
 obtain ⟨its,r,pl,hz⟩:=I.tuple hq
 obtain ⟨j,h1,h2,h3,h4,h5⟩:=Zhx he
 obtain ⟨w,ew,rw'⟩:=r.get h2
 have hl:=r.length
 have hn:=ZgM
 have fin:EP X pins σ Q w s:=⟨z,H,I,rw',q⟩
 exact subscriptTail_builtinR (x:=w) pl.typeIs slot_tuple_getitem.lookup
  (getItem_tuple (j:=j) (Q:=fun r s'=>r=w∧EP X pins σ Q r s') pl (by omega) (by omega) (by rw [List.size_toArray,← hl]; exact h1) (by simpa using ew) ⟨rfl,fin⟩) hs
theorem Zri:IxR X Zty:=by
 intro value slice pins s σ H x y v u Q I rx ry h hs
 obtain ⟨z,i,c,rfl,rfl,hz,he,q⟩:=h
 obtain ⟨t,rfl⟩:=rx
 obtain ⟨t',rfl⟩:=ry
 obtain ⟨j,h1,h2,h3,h4,h5⟩:=Zhx he
 have hl:z.cps.toList.length=z.length:=by simp [Str.length]
 rw [hl] at h1 h4 h5
 have hn:=ZgM
 exact tail_any (typeIs_str s z t) slot_str_getitem.lookup (getItem_str (c:=c) (by
  have e1:decide (i < -(2 ^ 63:Int))=false:=decide_eq_false (by omega)
  have e2:decide (i ≥ 2 ^ 63)=false:=decide_eq_false (by omega)
  rw [e1,e2,Bool.or_false]) (by rw [h1]; simpa using h2) ⟨.str ⟨#[c]⟩,H,I.tok _,⟨_,rfl⟩,q⟩) hs
def rIx (K:PySem.W.Frag):R2:=fun x y H Q=>Zth K x y H Q∨ZtH K x y H Q∨Zty x y H Q
theorem ZqH:IxR X (rIx X.K):=ix_list.or (ix_tup.or Zri)
theorem ZiS (its:List Value)(n j:Nat)(u:Value):Obj.mapSeq (·.setIfInBounds j u) { cls:=.type "list",data:=.seq its.toArray n } = { cls:=.type "list",data:=.seq (its.set j u).toArray n }:=by
 simp [Obj.mapSeq]
theorem Inv.lst {pins:List (Addr×Obj)}{σ:St}{H:Hp}{s:Shared}{p:Addr}{xs:List V}(I:Inv X pins σ H s)(h:H p=some (.lst xs)) :
  ∃ (its:List Value) (n:Nat),Vals xs its∧s.heap.get? p=some { cls:=.type "list",data:=.seq its.toArray n }∧xs.length≤sizeLine:=by
 obtain ⟨z,its,n,r,e⟩:=I.hok p _ h
 exact ⟨its,n,r,e,z⟩
theorem Inv.lstUpd {pins:List (Addr×Obj)}{σ:St}{H:Hp}{s:Shared}{p:Addr}{xs ys:List V}{its its':List Value}{n n':Nat}{f:Obj→Obj}(I:Inv X pins σ H s)(h:H p=some (.lst xs))
  (ho:s.heap.get? p=some { cls:=.type "list",data:=.seq its.toArray n }) (hf:f { cls:=.type "list",data:=.seq its.toArray n } = { cls:=.type "list",data:=.seq its'.toArray n' }) (r:Vals ys its') (hz:ys.length≤sizeLine) (t:Nat) :
  Inv X pins σ (upd H p (.lst ys)) { s with heap:=s.heap.update p f,toks:=t }:=by
 have e:(s.heap.update p f).get? p=some { cls:=.type "list",data:=.seq its'.toArray n' }:=by
  rw [Heap.get?_update_self f ho (by rw [hf] <;> rfl),hf]
 refine I.write (x:=p) (e:=p) (by rw [h]; trivial) (.inl rfl) (fun b u hb q=>(Heap.get?_update_other _ _ (Ne.symm hb)).trans q) ⟨_,e⟩ ?_
 exact ⟨hz,its',n',r,e⟩
def Zsy:V→V→V→Hp→(Hp→Prop)→Prop:=fun o i v H Q=>∃ p xs k j,o=.ref p∧i=.int k∧H p=some (.lst xs)∧ixN xs.length k=some j∧Q (upd H p (.lst (xs.set j v)))
theorem Zl8:Ztf X Zsy:=by
 intro pins s σ H o i v ov iv u Q I ro ri rv h
 obtain ⟨p,xs,k,j,rfl,rfl,hp,hj,q⟩:=h
 cases ro
 obtain ⟨t,rfl⟩:=ri
 obtain ⟨its,n,r,ho,hz⟩:=I.lst hp
 obtain ⟨h1,h2,h3,h4⟩:=Zki hj
 have hl:=r.length
 have hn:=ZgM
 have I':Inv X pins σ (upd H p (.lst (xs.set j v))) { s with heap:=s.heap.update p (Obj.mapSeq (·.setIfInBounds j u)) }:=
  I.lstUpd hp ho (ZiS its n j u) (r.set rv j) (by rw [List.length_set]; exact hz) s.toks
 by_cases h0:0≤k
 ·have hk:k.toNat=j:=by
   rw [seqIndex_of h0 h4] at h1
   exact Option.some.inj h1
  exact PySem.W.ki_setAt ho h0 (by omega) (by rw [List.size_toArray,← hl]; exact h4) (by rw [hk]; exact ⟨_,I',q⟩)
 ·have hk:(k+(its.toArray.size:Int)).toNat=j:=by
   rw [seqIndex_neg (by omega) h3] at h1
   rw [List.size_toArray,← hl]
   exact Option.some.inj h1
  exact PySem.W.ki_setBack ho (by omega) (by rw [List.size_toArray,← hl]; exact h3) (by omega) (by rw [hk]; exact ⟨_,I',q⟩)
def ZaA:V→Bool
 | .non=>true
 | .bl _=>true
 | .int _=>true
 | .str _=>true
 | _=>false
def eqV:V→V→Bool
 | .non,.non=>true
 | .bl a,.bl b=>a == b
 | .bl a,.int b=>(if a then 1 else 0) == b
 | .int a,.bl b=>a == (if b then 1 else 0)
 | .int a,.int b=>a == b
 | .str a,.str b=>a == b
 | _,_=>false
theorem ZmT {A:Around}{s:Shared}{y x:V}{u v:Value}(ry:RelV y u)(rx:RelV x v)(fy:ZaA y=true)(fx:ZaA x=true):SeqAt.EqAt A s u v (eqV y x):=by
 cases y with
 | non=>
  cases ry
  cases x with
  | non=>cases rx; exact SeqAt.EqAt.same _
  | bl b=>cases rx; exact SeqAt.EqAt.none_bool b
  | int b=>obtain ⟨t,rfl⟩:=rx; exact SeqAt.EqAt.none_int b t
  | str b=>obtain ⟨t,rfl⟩:=rx; exact SeqAt.EqAt.none_str b t
  | _=>exact absurd (show false=true from fx) Bool.false_ne_true
 | bl a=>
  cases ry
  cases x with
  | non=>cases rx; exact SeqAt.EqAt.bool_none a
  | bl b=>cases rx; exact SeqAt.EqAt.bool_bool a b
  | int b=>obtain ⟨t,rfl⟩:=rx; exact SeqAt.EqAt.bool_int a b t
  | str b=>obtain ⟨t,rfl⟩:=rx; exact SeqAt.EqAt.bool_str a b t
  | _=>exact absurd (show false=true from fx) Bool.false_ne_true
 | int a=>
  obtain ⟨t',rfl⟩:=ry
  cases x with
  | non=>cases rx; exact SeqAt.EqAt.int_none a t'
  | bl b=>cases rx; exact SeqAt.EqAt.int_bool a t' b
  | int b=>obtain ⟨t,rfl⟩:=rx; exact SeqAt.EqAt.int_int a t' b t
  | str b=>obtain ⟨t,rfl⟩:=rx; exact SeqAt.EqAt.int_str a t' b t
  | _=>exact absurd (show false=true from fx) Bool.false_ne_true
 | str a=>
  obtain ⟨t',rfl⟩:=ry
  cases x with
  | non=>cases rx; exact SeqAt.EqAt.str_none a t'
  | bl b=>cases rx; exact SeqAt.EqAt.str_bool a t' b
  | int b=>obtain ⟨t,rfl⟩:=rx; exact SeqAt.EqAt.str_int a t' b t
  | str b=>obtain ⟨t,rfl⟩:=rx; exact SeqAt.EqAt.str_str a t' b t
  | _=>exact absurd (show false=true from fx) Bool.false_ne_true
 | _=>exact absurd (show false=true from fy) Bool.false_ne_true
def eqU (x:V)(u:Value):Bool:=match u with
 | .none=>eqV .non x
 | .bool b=>eqV (.bl b) x
 | .int i _=>eqV (.int i) x
 | .str z _=>eqV (.str z) x
 | _=>false
theorem Zna {x y:V}{u:Value}(r:RelV y u)(f:ZaA y=true):eqU x u=eqV y x:=by
 cases y with
 | non=>cases r; rfl
 | bl b=>cases r; rfl
 | int i=>obtain ⟨t,rfl⟩:=r; rfl
 | str z=>obtain ⟨t,rfl⟩:=r; rfl
 | _=>exact absurd (show false=true from f) Bool.false_ne_true
theorem Zfj {x:V}:∀ {xs:List V} {us:List Value},Vals xs us→xs.all ZaA=true→us.any (eqU x)=xs.any fun y=>eqV y x
 | _,_,.nil,_=>rfl
 | y::xs,u::us,.cons r t,f=>by
  rw [List.all_cons,Bool.and_eq_true] at f
  rw [List.any_cons,List.any_cons,Zna r f.1,Zfj t f.2]
theorem ZdG {A:Around}{s:Shared}{x:V}{v:Value}(rx:RelV x v)(fx:ZaA x=true):∀ {xs:List V} {us:List Value},Vals xs us→xs.all ZaA=true→∀ u∈us,SeqAt.EqAt A s u v (eqU x u)
 | _,_,.nil,_=>fun u hu=>by cases hu
 | y::xs,u::us,.cons r t,f=>fun u' hu=>by
  rw [List.all_cons,Bool.and_eq_true] at f
  rcases List.mem_cons.mp hu with rfl | hu
  ·rw [Zna r f.1]; exact ZmT r rx f.1 fx
  ·exact ZdG rx fx t f.2 u' hu
def inV (x:V)(xs:List V):Bool:=xs.any fun y=>eqV y x
def rIn (K:PySem.W.Frag)(neg:Bool):R2:=fun x y H Q=>∃ p xs,y=.ref p∧(SqL K H p xs∨SqT K H p xs)∧ZaA x=true∧xs.all ZaA=true∧Q (.bl (if neg then !inV x xs else inV x xs)) H
theorem Zlf:OpR X (compareOp .In) (rIn X.K false):=by
 intro pins s σ H x y v u Q I rx ry h
 obtain ⟨p,xs,rfl,hq,fx,fs,q⟩:=h
 cases ry
 rcases hq with hq | hq
 ·obtain ⟨its,r,pl,hz⟩:=I.list hq
  refine SeqAt.in_listAt (eqU x) pl.isList (fun w hw=>ZdG rx fx r fs w (by simpa using hw)) ⟨.bl _,H,I,rfl,?_⟩
  rw [show its.toArray.any (eqU x)=its.any (eqU x) by simp,Zfj r fs]
  exact q
 ·obtain ⟨its,r,pl,hz⟩:=I.tuple hq
  refine SeqAt.in_tupleAt (eqU x) pl (fun w hw=>ZdG rx fx r fs w (by simpa using hw)) ⟨.bl _,H,I,rfl,?_⟩
  rw [show its.toArray.any (eqU x)=its.any (eqU x) by simp,Zfj r fs]
  exact q
theorem ZgD:OpR X (compareOp .NotIn) (rIn X.K true):=by
 intro pins s σ H x y v u Q I rx ry h
 obtain ⟨p,xs,rfl,hq,fx,fs,q⟩:=h
 cases ry
 rcases hq with hq | hq
 ·obtain ⟨its,r,pl,hz⟩:=I.list hq
  refine SeqAt.notIn_listAt (eqU x) pl.isList (fun w hw=>ZdG rx fx r fs w (by simpa using hw)) ⟨.bl _,H,I,rfl,?_⟩
  rw [show its.toArray.any (eqU x)=its.any (eqU x) by simp,Zfj r fs]
  exact q
 ·obtain ⟨its,r,pl,hz⟩:=I.tuple hq
  refine SeqAt.notIn_tupleAt (eqU x) pl (fun w hw=>ZdG rx fx r fs w (by simpa using hw)) ⟨.bl _,H,I,rfl,?_⟩
  rw [show its.toArray.any (eqU x)=its.any (eqU x) by simp,Zfj r fs]
  exact q
theorem ZgJ:OpR X (compareOp .NotIn) (fun x y H Q=>∃ i j,x=.str i∧y=.str j∧Q (.bl (!(!(Builtin.Str.occurrences j i 0 j.length 1).isEmpty))) H):=by
 intro pins s σ H x y v u Q I rx ry h
 obtain ⟨i,j,rfl,rfl,q⟩:=h
 obtain ⟨t,rfl⟩:=rx
 obtain ⟨t',rfl⟩:=ry
 exact notIn_str ⟨.bl _,H,I,rfl,q⟩
theorem CallR.or {f:Value}{r r':List V→Hp→VK→Prop}(h:CallR X f r)(h':CallR X f r'):CallR X f (fun xs H Q=>r xs H Q∨r' xs H Q):=by
 intro pins s σ H xs us Q I rs q
 rcases q with q | q
 ·exact h pins s σ H xs us Q I rs q
 ·exact h' pins s σ H xs us Q I rs q
def tyV (K:PySem.W.Frag)(T:String)(x:V)(H:Hp):Prop:=match x with
 | .str _=>T="str"
 | .int _=>T="int"
 | .ref p=>(T="list"∧∃ xs,SqL K H p xs)∨(T="tuple"∧∃ o,K.lookup p=some o∧o.cls=.type "tuple"∧o.dict=none) ∨
   (T="dict"∧((∃ kvs,H p=some (.dK kvs))∨∃ kvs,H p=some (.dT kvs)))∨(T="set"∧∃ S n,H p=some (.set S n))
 | _=>False
theorem ZqE {pins:List (Addr×Obj)}{σ:St}{H:Hp}{s:Shared}{T:String}{x:V}{v:Value}(I:Inv X pins σ H s)(r:RelV x v)(ty:tyV X.K T x H) :
  s.TypeIs v T∧∀ a,v=.ref a→∃ ob,s.heap.get? a=some ob∧ob.dict=none:=by
 cases x with
 | str z=>
  obtain ⟨t,rfl⟩:=r
  cases (show T="str" from ty)
  exact ⟨typeIs_str s z t,fun _ e=>nomatch e⟩
 | int i=>
  obtain ⟨t,rfl⟩:=r
  cases (show T="int" from ty)
  exact ⟨typeIs_int s i t,fun _ e=>nomatch e⟩
 | ref p=>
  cases r
  rcases ty with ⟨rfl,xs,hq⟩ | ⟨rfl,o,hk,hc,hd⟩ | ⟨rfl,hk⟩ | ⟨rfl,S,n,hk⟩
  ·obtain ⟨its,_,pl,_⟩:=I.list hq
   refine ⟨pl.isList.typeIs,fun a e=>?_⟩
   cases e
   obtain ⟨o,n,e,c,hd,_⟩:=pl
   exact ⟨o,e,hd⟩
  ·refine ⟨⟨o,I.kIn p o hk,hc⟩,fun a e=>?_⟩
   cases e
   exact ⟨o,I.kIn _ o hk,hd⟩
  ·have z:∃ o,s.heap.get? p=some o∧o.ExactDict:=by
    rcases hk with ⟨kvs,hk⟩ | ⟨kvs,hk⟩
    ·obtain ⟨_,_,_,_,o,_,_,e,ex,_⟩:=I.hok p _ hk
     exact ⟨o,e,ex⟩
    ·obtain ⟨_,_,_,_,o,_,_,e,ex,_⟩:=I.hok p _ hk
     exact ⟨o,e,ex⟩
   obtain ⟨o,e,ex⟩:=z
   refine ⟨⟨o,e,ex.1⟩,fun a e2=>?_⟩
   cases e2
   exact ⟨o,e,ex.2.1⟩
  ·obtain ⟨o,_,_,_,e,ex,_⟩:=I.hok p _ hk
   refine ⟨⟨o,e,ex.1⟩,fun a e2=>?_⟩
   cases e2
   exact ⟨o,e,ex.2.1⟩
 | _=>exact False.elim ty
def tBM (K:PySem.W.Frag)(T:String)(r:V→List V→Hp→VK→Prop)(to:TE)(t:TA):TE:=fun σ H Q=>to σ H fun x H1=>tyV K T x H1∧t σ H1 fun xs H2=>r x xs H2 Q
variable {o e:Expr} {es:List Expr} {to:TE} {t:TA} {name:Str} {apos cpos:Pos} {T id:String} {r:V→List V→Hp→VK→Prop}
theorem ZnF (pa:PlainAttrs T)(slot:Slot T name id)(hty:typeOf (.builtin id)=pure (.type "method_descriptor"))(hm:MtR X id r)(ho:PE X o to)(ha:PA X (e::es) t)
  (hbase:attributeBase o name X.env (eval o X.env)=eval o X.env:=by rfl)
  (hfew:((backTo cpos (starEach (e::es) X.env)).all (fun x=>!x.1) && (backToKw cpos (keywordEach [] X.env)).all (fun x=>x.1.isSome)
   && decide ((e::es).length+([]:List Keyword).length+(if ([]:List Keyword).isEmpty then 0 else 1)<30))=true:=by rfl)
  (hline:(apos.endLine == cpos.line)=true:=by rfl) (hs:starEach (e::es) X.env=(false,eval e X.env)::starEach es X.env:=by rfl) (hplain:(backTo cpos (starEach es X.env)).any (·.1)=false:=by rfl) :
  PE X (.Call (.Attribute o name apos) (e::es) [] cpos) (tBM X.K T r to t):=by
 intro pins s σ H Q I h
 refine wpAny_Call_method_late hbase hfew hline rfl (thn (ho pins s σ H _ I h) fun v s1 ⟨x,H1,I1,r1,ty,q1⟩=>?_)
 obtain ⟨h1,h2⟩:=ZqE I1 r1 ty
 refine ⟨T,id,pa,slot,hty,h1,h2,?_⟩
 have hA:=ha cpos pins s1 σ H1 _ I1 q1
 rw [hs] at hA ⊢
 refine Calls.callWith_builtin (by show (false || (backTo cpos (starEach es X.env)).any (·.1))=false; rw [hplain] <;> rfl) (Calls.evalArgs_plain ?_)
 exact thn hA fun us s2 ⟨vs,H2,I2,r2,q2⟩=>hm pins s2 σ H2 x vs v us Q I2 r1 r2 q2
end
end L2
namespace L2
open PySem PySem.Spec PyProof.Rows
def MtM (X:Cx)(id:String)(r:V→List V→Hp→VK→Prop):Prop:=
 ∀ (pins:List (Addr×Obj)) (s:Shared) (σ:St) (H:Hp) (x:V) (xs:List V) (v:Value) (us:List Value) (Q:VK),Inv X pins σ H s→RelV x v→Vals xs us→r x xs H Q →
  wpAny (model X.prog X.w) X.A (call (.builtin id) (v::us)) (EP X pins σ Q) X.xe s
theorem Vals.one:∀ {x:V} {us:List Value},Vals [x] us→∃ u,us=[u]∧RelV x u
 | _,_,.cons r .nil=>⟨_,rfl,r⟩
section
variable {X:Cx} {pins:List (Addr×Obj)} {σ:St} {H:Hp} {s:Shared} {l b:Addr} {xs ys zs:List V}
theorem Inv.lset {its its':List Value}{n:Nat}{f:Array Value→Array Value}{t':Nat}(I:Inv X pins σ H s)(hH:H l=some (.lst xs))
  (e:s.heap.get? l=some { cls:=.type "list",data:=.seq its.toArray n }) (hf:f its.toArray=its'.toArray) (hv:Vals ys its') (hz:ys.length≤sizeLine) :
  Inv X pins σ (upd H l (.lst ys)) { s with heap:=s.heap.update l (Obj.mapSeq f),toks:=t' }:=by
 have q:=PySem.IsL.update e f
 rw [hf] at q
 refine I.write (x:=l) (e:=l) (by rw [hH]; exact trivial) (.inl rfl) (fun b' u hb hu=>(Heap.get?_update_other s.heap (Obj.mapSeq f) (Ne.symm hb)).trans hu) ⟨_,q⟩ ?_
 exact ⟨hz,its',_,hv,q⟩
theorem Inv.lnew {its:List Value}{t':Nat}(I:Inv X pins σ H s)(hv:Vals ys its)(hz:ys.length≤sizeLine) :
  Inv X pins σ (upd H s.heap.objs.size (.lst ys)) { s with heap:=s.heap.push { cls:=.type "list",data:=.seq its.toArray },toks:=t' }:=
 I.laid (fun _ _ q=>Heap.get?_push_of_some _ q) (Nat.le_refl _) ⟨hz,its,0,hv,Heap.get?_push_size _ rfl⟩
theorem Inv.fresh (I:Inv X pins σ H s):H s.heap.objs.size=none:=I.hok.fresh (Nat.le_refl _)
theorem Inv.lstM (I:Inv X pins σ H s)(hH:H l=some (.lst xs)):xs.length≤sizeLine∧∃ (its:List Value) (n:Nat),Vals xs its∧xs.length=its.length∧s.heap.get? l=some { cls:=.type "list",data:=.seq its.toArray n }:=by
 obtain ⟨z,its,n,r,e⟩:=I.hok l _ hH
 exact ⟨z,its,n,r,r.length,e⟩
theorem ZlO {n:Nat}(h:n≤sizeLine):Builtin.List.listTooLong n=false:=by
 unfold Builtin.List.listTooLong
 exact decide_eq_false (by omega)
end
section
variable {X:Cx}
def Zo4:V→List V→Hp→VK→Prop:=fun x vs H Q=>∃ l xs y,x=.ref l∧vs=[y]∧H l=some (.lst xs)∧xs.length<sizeLine∧Q .non (upd H l (.lst (xs++[y])))
theorem ZgN:MtM X "list.append" Zo4:=by
 intro pins s σ H x vs v us Q I rx rv h
 obtain ⟨l,xs,y,rfl,rfl,hH,hz,q⟩:=h
 cases rx
 obtain ⟨u,rfl,ru⟩:=rv.one
 obtain ⟨z,its,n,r,hl,e⟩:=I.lstM hH
 refine call_meets F.slot_list_append ⟨_,e,rfl⟩ F.entry_list_append (F.args_list_append_2 _ _) (PySem.list_append l its.toArray n u (by rw [List.size_toArray]; omega)) ⟨e,?_⟩
 refine ⟨.non,_,I.lset (its':=its++[u]) hH e (by simp) (r.append (.cons ru .nil)) ?_,rfl,q⟩
 rw [List.length_append,List.length_singleton]
 omega
def Zow:V→List V→Hp→VK→Prop:=fun x vs H Q=>∃ l b xs zs,x=.ref l∧vs=[.ref b]∧H l=some (.lst xs)∧H b=some (.lst zs)∧xs.length+zs.length≤sizeLine∧Q .non (upd H l (.lst (xs++zs)))
theorem Zlb:MtM X "list.extend" Zow:=by
 intro pins s σ H x vs v us Q I rx rv h
 obtain ⟨l,b,xs,zs,rfl,rfl,hH,hB,hz,q⟩:=h
 cases rx
 obtain ⟨u,rfl,ru⟩:=rv.one
 cases ru
 obtain ⟨z,its,n,r,hl,e⟩:=I.lstM hH
 obtain ⟨z2,its2,n2,r2,hl2,e2⟩:=I.lstM hB
 have hsz:its.toArray.size+its2.toArray.size≤sizeLine:=by rw [List.size_toArray,List.size_toArray]; omega
 have hlong:¬(!its.toArray.isEmpty && Builtin.List.listTooLong (its.toArray.size+its2.toArray.size))=true:=by
  rw [ZlO hsz,Bool.and_false]
  exact Bool.false_ne_true
 refine call_meets F.slot_list_extend ⟨_,e,rfl⟩ F.entry_list_extend (F.args_list_extend_2 _ _)
  (AutoSeq1.list_extend_list_list_0 l its.toArray n b its2.toArray n2 hlong (by rw [List.size_toArray]; omega) (by omega)) ⟨e,e2,?_⟩
 refine ⟨.non,_,I.lset (its':=its++its2) hH e (by simp) (r.append r2) ?_,rfl,q⟩
 rw [List.length_append]
 omega
end
end L2
namespace L2
open PySem PySem.Spec PyProof.Rows
section
variable {κ:Type} [DecidableEq κ]
def ZeF (kvs:List (κ×V))(k:κ):Option V:=(kvs.find? fun kv=>decide (kv.1=k)).map (·.2)
def Zfk (kvs:List (κ×V))(k:κ)(v:V):List (κ×V):=
 if (kvs.any fun kv=>decide (kv.1=k))=true then kvs.map (fun kv=>if kv.1=k then (kv.1,v) else kv) else kvs++[(k,v)]
def Zf6 (kvs:List (κ×V))(k:κ):List (κ×V):=kvs.filter fun kv=>decide (kv.1≠k)
theorem Zgd {p:κ×V}{r:List (κ×V)}{k:κ}(e:p.1=k):ZeF (p::r) k=some p.2:=by simp [ZeF,List.find?_cons,e]
theorem Zf8 {p:κ×V}{r:List (κ×V)}{k:κ}(e:¬p.1=k):ZeF (p::r) k=ZeF r k:=by simp [ZeF,List.find?_cons,e]
theorem Ziz (k:κ):∀ kvs:List (κ×V),(kvs.any fun kv=>decide (kv.1=k))=(ZeF kvs k).isSome
 | []=>rfl
 | p::r=>by
  rw [List.any_cons]
  by_cases e:p.1=k
  ·simp only [Zgd e,decide_eq_true e,Bool.true_or,Option.isSome_some]
  ·rw [Zf8 e,decide_eq_false e,Bool.false_or]; exact Ziz k r
theorem Zdn (kvs:List (κ×V))(k:κ)(v:V):(Zfk kvs k v).length≤kvs.length+1:=by
 unfold Zfk
 split
 ·rw [List.length_map]; omega
 ·rw [List.length_append,List.length_cons,List.length_nil]; omega
theorem RelO.isSome_eq {o:Option V}{u:Option Value}(r:RelO o u):o.isSome=u.isSome:=by
 cases o with
 | none=>cases u with
  | none=>rfl
  | some _=>exact (show False from r).elim
 | some _=>cases u with
  | none=>exact (show False from r).elim
  | some _=>rfl
theorem RelO.getD {o:Option V}{u:Option Value}{d:V}{d':Value}(r:RelO o u)(rd:RelV d d'):RelV (o.getD d) (u.getD d'):=by
 cases o with
 | none=>cases u with
  | none=>exact rd
  | some _=>exact (show False from r).elim
 | some _=>cases u with
  | none=>exact (show False from r).elim
  | some _=>exact r
theorem KV.val {kvs:List (κ×V)}{vs:List (κ×Value)}(r:KV kvs vs)(k:κ):RelO (ZeF kvs k) (valueAt vs k):=by
 unfold KV at r
 induction r with
 | nil=>exact True.intro
 | @cons p q ps qs h t ih=>
  obtain ⟨h1,h2⟩:=h
  by_cases e:p.1=k
  ·have e':q.1=k:=h1.symm.trans e
   have b:valueAt (q::qs) k=some q.2:=by simp [valueAt,List.find?_cons,e']
   rw [Zgd e,b]; exact h2
  ·have e':¬q.1=k:=fun z=>e (h1.trans z)
   have b:valueAt (q::qs) k=valueAt qs k:=by simp [valueAt,List.find?_cons,e']
   rw [Zf8 e,b]; exact ih
theorem KV.any {kvs:List (κ×V)}{vs:List (κ×Value)}(r:KV kvs vs)(k:κ):(kvs.any fun kv=>decide (kv.1=k))=vs.any fun kv=>decide (kv.1=k):=by
 unfold KV at r
 induction r with
 | nil=>rfl
 | cons h t ih=>rw [List.any_cons,List.any_cons,ih,h.1]
theorem KV.repl {kvs:List (κ×V)}{vs:List (κ×Value)}(r:KV kvs vs)(k:κ){y:V}{u:Value}(ry:RelV y u) :
  KV (kvs.map fun kv=>if kv.1=k then (kv.1,y) else kv) (vs.map fun kv=>if kv.1=k then (kv.1,u) else kv):=by
 unfold KV at r ⊢
 induction r with
 | nil=>exact .nil
 | @cons p q ps qs h t ih=>
  rw [List.map_cons,List.map_cons]
  refine .cons ?_ ih
  obtain ⟨h1,h2⟩:=h
  by_cases e:p.1=k
  ·rw [if_pos e,if_pos (h1.symm.trans e)]; exact ⟨h1,ry⟩
  ·rw [if_neg e,if_neg (fun z=>e (h1.trans z))]; exact ⟨h1,h2⟩
theorem KV.put {kvs:List (κ×V)}{vs:List (κ×Value)}(r:KV kvs vs)(k:κ){y:V}{u:Value}(ry:RelV y u):KV (Zfk kvs k y) (stored vs k u):=by
 unfold Zfk stored
 rw [r.any k]
 by_cases e:(vs.any fun kv=>decide (kv.1=k))=true
 ·rw [if_pos e,if_pos e]; exact r.repl k ry
 ·rw [if_neg e,if_neg e]; exact Paired.snoc r ⟨rfl,ry⟩
theorem KV.drop {kvs:List (κ×V)}{vs:List (κ×Value)}(r:KV kvs vs)(k:κ):KV (Zf6 kvs k) (without vs k):=by
 unfold KV at r ⊢
 unfold Zf6 without
 induction r with
 | nil=>exact .nil
 | @cons p q ps qs h t ih=>
  obtain ⟨h1,h2⟩:=h
  rw [List.filter_cons,List.filter_cons]
  by_cases e:p.1=k
  ·have a:¬decide (p.1≠k)=true:=by simp [e]
   have b:¬decide (q.1≠k)=true:=by simp [h1.symm.trans e]
   rw [if_neg a,if_neg b]; exact ih
  ·have e':¬q.1=k:=fun z=>e (h1.trans z)
   have a:decide (p.1≠k)=true:=by simp [e]
   have b:decide (q.1≠k)=true:=by simp [e']
   rw [if_pos a,if_pos b]; exact .cons ⟨h1,h2⟩ ih
theorem KV.length {kvs:List (κ×V)}{vs:List (κ×Value)}(r:KV kvs vs):kvs.length=vs.length:=Paired.length r
theorem ZlF (kvs:List (κ×V))(k:κ):(Zf6 kvs k).length≤kvs.length:=List.length_filter_le _ _
end
theorem Zh3 {P:Program}{w:World}{k:Key}{u:Value}(r:RelV (kV k) u):(ZaF P w).is k u=true:=by
 cases k with
 | inl i=>obtain ⟨t,e⟩:=(show ∃ t,u=Value.int i t from r); subst e; exact Zh1 P w i t
 | inr x=>obtain ⟨t,e⟩:=(show ∃ t,u=Value.str x t from r); subst e; exact ZhD P w x t
theorem Zhh {P:Program}{w:World}:∀ {ks:List Key} {us:List Value},Vals (ks.map kV) us→ItemsAre (ZaF P w) ks us
 | [],_,r=>by rw [List.map_nil] at r; cases r; exact .nil
 | k::ks,_,r=>by
  rw [List.map_cons] at r
  cases r with
  | cons h t=>exact .cons (Zh3 h) (Zhh t)
abbrev KT (H:Hp):List (List Key×V)→List (List Key×Addr×Value)→Prop:=Paired fun p q=>p.1=q.1∧H q.2.1=some (.tup (p.1.map kV))∧RelV p.2 q.2.2
theorem KT.val {H:Hp}{kvs:List (List Key×V)}{xs:List (List Key×Addr×Value)}(r:KT H kvs xs)(k:List Key):RelO (ZeF kvs k) ((atKey xs k).map (·.2)):=by
 induction r with
 | nil=>exact True.intro
 | @cons p q ps qs h t ih=>
  obtain ⟨h1,_,h2⟩:=h
  by_cases e:p.1=k
  ·have e':q.1=k:=h1.symm.trans e
   have b:atKey (q::qs) k=some q.2:=by simp [atKey,List.find?_cons,e']
   rw [Zgd e,b]; exact h2
  ·have e':¬q.1=k:=fun z=>e (h1.trans z)
   have b:atKey (q::qs) k=atKey qs k:=by simp [atKey,List.find?_cons,e']
   rw [Zf8 e,b]; exact ih
theorem KT.repl {H:Hp}{kvs:List (List Key×V)}{xs:List (List Key×Addr×Value)}(r:KT H kvs xs)(k:List Key){y:V}{u:Value}(ry:RelV y u) :
  KT H (kvs.map fun kv=>if kv.1=k then (kv.1,y) else kv) (xs.map (putAt k u)):=by
 induction r with
 | nil=>exact .nil
 | @cons p q ps qs h t ih=>
  rw [List.map_cons,List.map_cons]
  refine .cons ?_ ih
  obtain ⟨h1,h2,h3⟩:=h
  unfold putAt
  by_cases e:p.1=k
  ·rw [if_pos e,if_pos (h1.symm.trans e)]; exact ⟨h1,h2,ry⟩
  ·rw [if_neg e,if_neg (fun z=>e (h1.trans z))]; exact ⟨h1,h2,h3⟩
theorem KT.put {H:Hp}{kvs:List (List Key×V)}{xs:List (List Key×Addr×Value)}(r:KT H kvs xs)(k:List Key){b:Addr}{y:V}{u:Value}(hb:H b=some (.tup (k.map kV)))(ry:RelV y u) :
  KT H (Zfk kvs k y) (storedH xs k b u):=by
 have e:(kvs.any fun kv=>decide (kv.1=k))=(atKey xs k).isSome:=by
  rw [Ziz,(r.val k).isSome_eq,Option.isSome_map]
 unfold Zfk storedH
 rw [e]
 by_cases q:(atKey xs k).isSome=true
 ·rw [if_pos q,if_pos q]; exact r.repl k ry
 ·rw [if_neg q,if_neg q]; exact Paired.snoc r ⟨rfl,hb,ry⟩
theorem KT.keeps {H H':Hp}{kvs:List (List Key×V)}{xs:List (List Key×Addr×Value)}(r:KT H kvs xs)(ht:∀ b ys,H b=some (.tup ys)→H' b=some (.tup ys)):KT H' kvs xs:=
 Paired.mapP r fun _ _ z=>⟨z.1,ht _ _ z.2.1,z.2.2⟩
section
variable {P:Program} {w:World} {H:Hp} {h:Heap} {a:Addr}
theorem ZnA {u:HO}(ok:HOk P w H h)(e:Rd H a u):ObjOk P w H h a u:=e.ok ok
theorem Zgg {kvs:List (Key×V)}(ok:HOk P w H h)(e:Rd H a (.dK kvs)):kvs.length≤sizeLine∧(a == sysModules)=false∧∃ vs,KV kvs vs∧h.DictOf (ZaF P w) a vs:=
 show ObjOk P w H h a (.dK kvs) from ZnA ok e
theorem ZnL {kvs:List (Key×V)}(ok:HOk P w H h)(e:H a=some (.dK kvs)):kvs.length≤sizeLine∧(a == sysModules)=false∧∃ vs,KV kvs vs∧h.DictOf (ZaF P w) a vs:=Zgg ok (.inl e)
theorem ZgL {ks:List Key}(ok:HOk P w H h)(e:H a=some (.tup (ks.map kV))):(tupleKind (ZaF P w)).is h ks a:=by
 obtain ⟨_,its,r,o,h1,h2,n,h3⟩:=(show ObjOk P w H h a (.tup (ks.map kV)) from ok a _ e)
 exact ⟨o,its.toArray,n,h1,h2,h3,by simpa using Zhh r⟩
theorem ZiZ {kvs:List (List Key×V)}(ok:HOk P w H h)(e:Rd H a (.dT kvs)):kvs.length≤sizeLine∧(a == sysModules)=false ∧
  ∃ xs,KT H kvs xs∧h.DictOfH (tupleKind (ZaF P w)) a xs:=by
 obtain ⟨z,y,xs,r,o,es,ep,h1,h2,h3,h4,h5⟩:=(show ObjOk P w H h a (.dT kvs) from ZnA ok e)
 refine ⟨z,y,xs,r,o,es,ep,h1,h2,h3,h4,fun x hx=>?_,h5⟩
 have all:∀ {l:List (List Key×V)} {m:List (List Key×Addr×Value)},KT H l m→∀ x∈m,(tupleKind (ZaF P w)).is h x.1 x.2.1:=by
  intro l m q
  induction q with
  | nil=>intro x hx; exact nomatch hx
  | @cons p q ps qs hq t ih=>
   intro x hx
   rcases List.mem_cons.mp hx with e | hx
   ·subst e
    exact ZgL ok (by rw [← hq.1]; exact hq.2.1)
   ·exact ih x hx
 exact all r x hx
theorem Zr2 {kvs:List (List Key×V)}(ok:HOk P w H h)(e:H a=some (.dT kvs)):kvs.length≤sizeLine∧(a == sysModules)=false ∧
  ∃ xs,KT H kvs xs∧h.DictOfH (tupleKind (ZaF P w)) a xs:=ZiZ ok (.inl e)
end
def DGet (H:Hp)(a:Addr)(y:V)(r:Option V):Prop:=
 (∃ kvs k,Rd H a (.dK kvs)∧y=kV k∧r=ZeF kvs k)∨∃ kvs k b,Rd H a (.dT kvs)∧y=.ref b∧H b=some (.tup (k.map kV))∧r=ZeF kvs k
def DPut (H:Hp)(a:Addr)(y v:V)(H':Hp):Prop:=
 (∃ kvs k,H a=some (.dK kvs)∧y=kV k∧kvs.length<sizeLine∧H'=upd H a (.dK (Zfk kvs k v))) ∨
 ∃ kvs k b,H a=some (.dT kvs)∧y=.ref b∧H b=some (.tup (k.map kV))∧kvs.length<sizeLine∧H'=upd H a (.dT (Zfk kvs k v))
theorem DGet.k {H:Hp}{a:Addr}{kvs:List (Key×V)}{k:Key}(e:H a=some (.dK kvs)):DGet H a (kV k) (ZeF kvs k):=.inl ⟨kvs,k,.inl e,rfl,rfl⟩
theorem DPut.k {H:Hp}{a:Addr}{kvs:List (Key×V)}{k:Key}{v:V}(e:H a=some (.dK kvs))(hl:kvs.length<sizeLine):DPut H a (kV k) v (upd H a (.dK (Zfk kvs k v))):=.inl ⟨kvs,k,e,rfl,hl,rfl⟩
section
variable {X:Cx} {pins:List (Addr×Obj)} {σ:St} {H:Hp} {s:Shared} {a:Addr} {y v:V} {u r:Value} {o:Option V} {A:Around} {E:Value→Shared→Prop}
theorem Inv.big (I:Inv X pins σ H s):sysModules<s.heap.objs.size:=by
 have h:mainGlobals<s.heap.objs.size:=(I.mod.glob.keeps I.bk).lt
 exact Nat.lt_trans (by decide) h
theorem Zkf {Q:Value→Shared→Prop}(hu:A.units+1<cLine)(I:Inv X pins σ H s)(g:DGet H a y (some v))(ry:RelV y u)(h:∀ w' s',Inv X pins σ H s'→RelV v w'→Q w' s') :
  wpAny (model X.prog X.w) A (getItem (.ref a) u) Q E s:=by
 rcases g with ⟨kvs,k,e,ey,l⟩ | ⟨kvs,k,b,e,ey,eb,l⟩
 ·subst ey
  obtain ⟨z,hd,vs,rel,dd⟩:=Zgg I.hok e
  obtain ⟨w',hw,rw'⟩:=RelO.some_of (v:=v) (o:=valueAt vs k) (by rw [l]; exact rel.val k)
  exact wpAny_getItem_of (Zh3 ry) dd.mapOf hw (h w' _ (I.tok _) rw')
 ·subst ey
  cases (show u=Value.ref b from ry)
  obtain ⟨z,hd,xs,rel,dd⟩:=ZiZ I.hok e
  obtain ⟨w',hw,rw'⟩:=RelO.some_of (v:=v) (o:=(atKey xs k).map (·.2)) (by rw [l]; exact rel.val k)
  obtain ⟨p,hp,hp2⟩:=Option.map_eq_some_iff.mp hw
  refine wpAny_getItem_heap (tupleKind_room_in1 hu) (ZgL I.hok eb) dd hp ?_
  rw [hp2]
  exact h w' _ (I.tok _) rw'
theorem ZtL {Q:Value→Shared→Prop}(hu:A.units+1<cLine)(I:Inv X pins σ H s)(g:DGet H a y o)(ry:RelV y u)(h:∀ s',Inv X pins σ H s'→Q (.bool o.isSome) s') :
  wpAny (model X.prog X.w) A (compareOp .In u (.ref a)) Q E s:=by
 rcases g with ⟨kvs,k,e,ey,l⟩ | ⟨kvs,k,b,e,ey,eb,l⟩
 ·subst ey
  obtain ⟨z,hd,vs,rel,dd⟩:=Zgg I.hok e
  refine wpAny_in_of (Zh3 ry) hd dd.mapOf ?_
  rw [← (rel.val k).isSome_eq,← l]
  exact h _ (I.tok _)
 ·subst ey
  cases (show u=Value.ref b from ry)
  obtain ⟨z,hd,xs,rel,dd⟩:=ZiZ I.hok e
  refine wpAny_in_heap (tupleKind_room_in1 hu) (ZgL I.hok eb) hd dd ?_
  have q:=(rel.val k).isSome_eq
  rw [Option.isSome_map] at q
  rw [← q,← l]
  exact h _ (I.tok _)
theorem ZkK {Q:Value→Shared→Prop}(hu:A.units+1<cLine)(I:Inv X pins σ H s)(g:DGet H a y o)(ry:RelV y u)(h:∀ s',Inv X pins σ H s'→Q (.bool (!o.isSome)) s') :
  wpAny (model X.prog X.w) A (compareOp .NotIn u (.ref a)) Q E s:=by
 rcases g with ⟨kvs,k,e,ey,l⟩ | ⟨kvs,k,b,e,ey,eb,l⟩
 ·subst ey
  obtain ⟨z,hd,vs,rel,dd⟩:=Zgg I.hok e
  refine wpAny_notIn_of (Zh3 ry) hd dd.mapOf ?_
  rw [← (rel.val k).isSome_eq,← l]
  exact h _ (I.tok _)
 ·subst ey
  cases (show u=Value.ref b from ry)
  obtain ⟨z,hd,xs,rel,dd⟩:=ZiZ I.hok e
  refine wpAny_notIn_heap (tupleKind_room_in1 hu) (ZgL I.hok eb) hd dd ?_
  have q:=(rel.val k).isSome_eq
  rw [Option.isSome_map] at q
  rw [← q,← l]
  exact h _ (I.tok _)
theorem Zf2 {h':Heap}{t':Nat}{ob:HO}(I:Inv X pins σ H s)(mu:Mut (H a))(hs:Heap.SameBut a s.heap h')(he:∃ q,h'.get? a=some q)(new:ObjOk X.prog X.w (upd H a ob) h' a ob) :
  Inv X pins σ (upd H a ob) { s with heap:=h',toks:=t' }:=
 I.write (x:=a) (e:=a) mu (.inl rfl) (fun b q hb z=>(hs.2 b hb).trans z) he new
theorem ZjM {P:Program}{w:World}{H':Hp}{h':Heap}{kvs:List (Key×V)}{vs:List (Key×Value)}(z:kvs.length≤sizeLine)(hd:(a == sysModules)=false)(rel:KV kvs vs)(dd:h'.DictOf (ZaF P w) a vs) :
  ObjOk P w H' h' a (.dK kvs):=⟨z,hd,vs,rel,dd⟩
theorem Zk1 {H':Hp}{Q:Unit→Shared→Prop}(hu:A.units+1<cLine)(I:Inv X pins σ H s)(g:DPut H a y v H')(ry:RelV y u)(rv:RelV v r)(h:∀ s',Inv X pins σ H' s'→Q () s') :
  wpAny (model X.prog X.w) A (setItem (.ref a) u r) Q E s:=by
 rcases g with ⟨kvs,k,e,ey,l,eH⟩ | ⟨kvs,k,b,e,ey,eb,l,eH⟩
 ·subst ey eH
  obtain ⟨z,hd,vs,rel,dd⟩:=ZnL I.hok e
  have hz:vs.length≤sizeLine:=by rw [← rel.length]; exact z
  have hl:(Zfk kvs k v).length≤sizeLine:=by have:=Zdn kvs k v; omega
  refine wpAny_setItem_pairs (hsz:=hz) (Zh3 ry) dd fun h' dd' hs=>h _ ?_
  have he:∃ q,h'.get? a=some q:=let ⟨q,_,_,hq,_⟩:=dd'; ⟨q,hq⟩
  exact Zf2 I (by rw [e]; exact True.intro) hs he (ZjM hl hd (rel.put k rv) dd')
 ·subst ey eH
  cases (show u=Value.ref b from ry)
  obtain ⟨z,hd,xs,rel,dd⟩:=Zr2 I.hok e
  have hz:xs.length≤sizeLine:=by rw [← Paired.length rel]; exact z
  have hl:(Zfk kvs k v).length≤sizeLine:=by have:=Zdn kvs k v; omega
  refine wpAny_setItem_heap (hsz:=hz) (tupleKind_room_in1 hu) (ZgL I.hok eb) dd fun h' dd' hs=>h _ ?_
  obtain ⟨q,es,ep,hq,h2,h3,h4,_,h5⟩:=dd'
  refine Zf2 I (by rw [e]; exact True.intro) hs ⟨q,hq⟩ ⟨hl,hd,_,(rel.put k eb rv).keeps fun c ys ec=>?_,q,es,ep,hq,h2,h3,h4,h5⟩
  rw [Zak (Zsn ec e (fun z=>nomatch z))]
  exact ec
end
section
variable {X:Cx} {pins:List (Addr×Obj)} {σ:St} {H:Hp} {s:Shared} {a:Addr} {kvs:List (Key×V)} {k:Key} {u:Value} {A:Around} {E:Value→Shared→Prop}
theorem Zsc {v:V}{more:List Value}{Q:Value→Shared→Prop}(I:Inv X pins σ H s)(e:H a=some (.dK kvs))(ry:RelV (kV k) u)(l:ZeF kvs k=some v)(hm:more=[]∨∃ x,more=[x])
  (h:∀ w' s',Inv X pins σ (upd H a (.dK (Zf6 kvs k))) s'→RelV v w'→Q w' s'):wpAny (model X.prog X.w) A (call (.builtin "dict.pop") (.ref a::u::more)) Q E s:=by
 obtain ⟨z,hd,vs,rel,dd⟩:=ZnL I.hok e
 obtain ⟨w',hw,rw'⟩:=RelO.some_of (v:=v) (o:=valueAt vs k) (by rw [← l]; exact rel.val k)
 have hp:(keyPart u).isSome=true:=by
  cases k with
  | inl i=>obtain ⟨t,q⟩:=(show ∃ t,u=Value.int i t from ry); subst q; rfl
  | inr x=>obtain ⟨t,q⟩:=(show ∃ t,u=Value.str x t from ry); subst q; rfl
 have ha:argsOk "dict.pop" ⟨.ref a::u::more,[]⟩:=by
  rcases hm with q | ⟨x,q⟩
  ·subst q; exact PySem.F.args_dict_pop_2 _ _
  ·subst q; exact PySem.F.args_dict_pop_3 _ _ _
 refine call_meetsIn PySem.F.slot_dict_pop dd.typeIs PySem.F.entry_dict_pop ha (meets_dict_pop_there (ZaF X.prog X.w) a (Zh3 ry) more hm hp)
  ⟨vs,w',dd,by rw [← rel.length]; exact z,hw,fun h' dd' hs=>h w' _ ?_ rw'⟩
 have he:∃ q,h'.get? a=some q:=let ⟨q,_,_,hq,_⟩:=dd'; ⟨q,hq⟩
 exact Zf2 I (by rw [e]; exact True.intro) hs he (ZjM (Nat.le_trans (ZlF kvs k) z) hd (rel.drop k) dd')
theorem Zs3 {Q:Value→Shared→Prop}(I:Inv X pins σ H s)(e:Rd H a (.dK kvs))(h:∀ t s',Inv X pins σ H s'→Q (.int kvs.length t) s'):wpAny (model X.prog X.w) A (call (.builtin "len") [.ref a]) Q E s:=by
 obtain ⟨z,hd,vs,rel,dd⟩:=Zgg I.hok e
 refine call_len_dict hd dd (by rw [← rel.length]; rw [sizeLine_eq] at z; omega) ?_
 rw [← rel.length]
 exact h _ _ (I.tok _)
end
def Zsj (i:Expr):Prop:=∀ ov iv,subscripted i false ov iv=operate [ov,iv] (getItem ov iv)
theorem ZnK {prog:Program}{w:World}{A:Around}{E:Value→Shared→Prop}{s:Shared}{env:Env}{value slice:Expr}{pos:Pos}{T id:String}{Q:Value→Shared→Prop}
  (hl:typeLookup (.type T) "__getitem__"=pure (some (.builtin id))) (hs:Zsj slice)
  (h:wpAny (model prog w) A (eval value env) (fun o s₁=>wpAny (model prog w) A (eval slice env) (fun i s₂=>s₂.TypeIs o T∧wpAny (model prog w) A (getItem o i) Q E s₂) E s₁) E s) :
  wpAny (model prog w) A (eval (.Subscript value slice pos) env) Q E s:=by
 refine Subscript_ (wpAny_mono h (fun o s₁ h₁=>wpAny_mono h₁ (fun i s₂ h₂=>?_) fun _ _ x=>x) fun _ _ x=>x)
 obtain ⟨hT,h₂⟩:=h₂
 unfold subscriptTail
 refine wpAny_bind ?_
 rw [getitemInPython_of_ne hT.not_modules]
 refine wpAny_bind (wpAny_specialOf hT hl ?_)
 have fin:wpAny (model prog w) A (subscripted slice false o i) (fun r s₃=>wpAny (model prog w) A (letTemporaryGo value o r >>= fun _=>pure r) Q E s₃) E s₂:=by
  rw [hs o i]
  exact wpAny_operating (wpAny_mono h₂ (fun r s₃ h₃=>wpAny_bind (wpAny_letTemporaryGo (wpAny_pure h₃))) fun _ _ x=>x)
 first
  | exact wpAny_pure (wpAny_bind fin)
  | exact wpAny_bind (wpAny_pure (wpAny_bind fin))
  | exact wpAny_bind fin
theorem ZhU {X:Cx}{pins:List (Addr×Obj)}{σ:St}{H:Hp}{s:Shared}{a:Addr}{y:V}{o:Option V}(I:Inv X pins σ H s)(g:DGet H a y o):s.TypeIs (.ref a) "dict":=by
 rcases g with ⟨kvs,k,e,_,_⟩ | ⟨kvs,k,b,e,_,_,_⟩
 ·obtain ⟨_,_,vs,_,dd⟩:=Zgg I.hok e
  exact dd.typeIs
 ·obtain ⟨_,_,xs,_,dd⟩:=ZiZ I.hok e
  exact dd.typeIs
def ZsU (td ty:TE):TE:=fun σ H Q=>td σ H fun x H1=>ty σ H1 fun y H2=>∃ a v,x=.ref a∧DGet H2 a y (some v)∧Q v H2
def Zsl (td ty tv:TE):TS:=fun D σ H=>tv σ H fun v H1=>td σ H1 fun x H2=>ty σ H2 fun y H3=>∃ a H4,x=.ref a∧DPut H3 a y v H4∧D.nx σ H4
section
variable {X:Cx} {o i e value:Expr} {pos pos' tpos:Pos} {td ty tv:TE}
theorem Zpq (hu:X.A.units+1<cLine)(ho:PE X o td)(hi:PE X i ty)(hs:Zsj i):PE X (.Subscript o i pos) (ZsU td ty):=by
 intro pins s σ H Q I h
 refine ZnK PySem.F.slot_dict_getitem.lookup hs (thn (ho pins s σ H _ I h) fun u s1 ⟨x,H1,I1,rx,q1⟩=>thn (hi pins s1 σ H1 _ I1 q1) fun iv s2 ⟨y,H2,I2,ry,a,v,ex,g,q2⟩=>?_)
 subst ex
 obtain rfl:u=Value.ref a:=rx
 exact ⟨ZhU I2 g,Zkf hu I2 g ry fun w' s3 I3 rw'=>⟨v,H2,I3,rw',q2⟩⟩
theorem Zpc (hu:X.A.units+1<cLine)(ho:PE X o td)(hi:PE X i ty)(hv:PE X value tv)(hs:swapsWith value (some (.Subscript o i pos')) pos.line X.env=pure false) :
  PS X (.Assign [.Subscript o i pos'] value pos) (Zsl td ty tv):=by
 intro pins s σ H D I h
 refine wpAny_Assign_Subscript (thn (hv pins s σ H _ I h) fun r s1 ⟨v,H1,I1,rv,q1⟩=>thn (ho pins s1 σ H1 _ I1 q1) fun u s2 ⟨x,H2,I2,rx,q2⟩=>thn (hi pins s2 σ H2 _ I2 q2) fun iv s3 ⟨y,H3,I3,ry,a,H4,ex,g,q3⟩=>?_) hs
 subst ex
 obtain rfl:u=Value.ref a:=rx
 exact Zk1 hu I3 g ry rv fun s4 I4=>⟨σ,H4,I4,q3⟩
end
theorem ZiA {P:Program}{w:World}{H:Hp}(h:Heap)(hb:sysModules<h.objs.size):ObjOk P w H (h.push { cls:=.type "dict",data:=.dict #[] }) h.objs.size (.dK []):=
 ⟨Nat.zero_le _,beq_eq_false_iff_ne.mpr (Ne.symm (Nat.ne_of_lt hb)),[],.nil,Heap.DictOf.new h⟩
def ZrL:TE:=fun _ H Q=>∀ p,H p=none→Q (.ref p) (upd H p (.dK []))
section
variable {X:Cx} {pos:Pos}
theorem pe_dnewK:PE X (.Dict [] [] pos) ZrL:=fun pins s σ H Q I h=>
 wpAny_Dict_empty ⟨.ref s.heap.objs.size,_,I.laid (a:=s.heap.objs.size) (o:=.dK []) (t':=s.toks) (fun _ _ q=>Heap.get?_push_of_some _ q) (Nat.le_refl _) (ZiA s.heap I.big),rfl,h _ (I.hok.fresh (Nat.le_refl _))⟩
end
def ZiB:List (TE×TE)→St→Hp→(List (V×V)→Hp→Prop)→Prop
 | [],_,H,Q=>Q [] H
 | (tk,tv)::r,σ,H,Q=>tk σ H fun x H1=>tv σ H1 fun y H2=>ZiB r σ H2 fun ps H3=>Q ((x,y)::ps) H3
abbrev VV:List (V×V)→List (Value×Value)→Prop:=Paired fun p q=>RelV p.1 q.1∧RelV p.2 q.2
def PPs (X:Cx)(pos:Pos)(keys:List (Option Expr))(values:List Expr)(trs:List (TE×TE)):Prop:=
 ∀ (pins:List (Addr×Obj)) (s:Shared) (σ:St) (H:Hp) (Q:List (V×V)→Hp→Prop),Inv X pins σ H s→ZiB trs σ H Q →
  wpAny (model X.prog X.w) X.A (evalPairs (pairTrees keys values X.env pos)) (fun vs s'=>∃ ps H',Inv X pins σ H' s'∧VV ps vs∧Q ps H') X.xe s
theorem Zo3 {X:Cx}{pos:Pos}:PPs X pos [] [] []:=fun pins s σ H Q I h=>pairTrees_nil_walk ⟨[],H,I,.nil,h⟩
theorem ZlI {X:Cx}{pos:Pos}{k v:Expr}{ks:List (Option Expr)}{vs:List Expr}{tk tv:TE}{trs:List (TE×TE)}(hk:PE X k tk)(hv:PE X v tv)(hr:PPs X pos ks vs trs) :
  PPs X pos (some k::ks) (v::vs) ((tk,tv)::trs):=fun pins s σ H Q I h=>
 pairTrees_cons_walk (thn (hk pins s σ H _ I h) fun u s1 ⟨x,H1,I1,rx,q1⟩=>thn (hv pins s1 σ H1 _ I1 q1) fun w2 s2 ⟨y,H2,I2,ry,q2⟩=>
  thn (hr pins s2 σ H2 _ I2 q2) fun ws s3 ⟨ps,H3,I3,rel,q3⟩=>⟨(x,y)::ps,H3,I3,.cons ⟨rx,ry⟩ rel,q3⟩)
def Zej (kvs more:List (Key×V)):List (Key×V):=more.foldl (fun acc kv=>Zfk acc kv.1 kv.2) kvs
theorem KV.merge:∀ {more:List (Key×V)} {rs:List (Key×Value)} {kvs:List (Key×V)} {vs:List (Key×Value)},KV more rs→KV kvs vs→KV (Zej kvs more) (merged vs rs):=by
 intro more rs kvs vs r
 unfold KV at r
 induction r generalizing kvs vs with
 | nil=>intro q; exact q
 | @cons p q ps qs h t ih=>
  intro r0
  have e:KV (Zfk kvs p.1 p.2) (stored vs q.1 q.2):=by
   have:=r0.put p.1 h.2
   rw [← h.1]; exact this
  exact ih e
theorem ZdN:∀ (more kvs:List (Key×V)),(Zej kvs more).length≤kvs.length+more.length
 | [],kvs=>by show kvs.length≤kvs.length+0; omega
 | p::r,kvs=>by
  have h1:=ZdN r (Zfk kvs p.1 p.2)
  have h2:=Zdn kvs p.1 p.2
  show (Zej (Zfk kvs p.1 p.2) r).length≤_
  rw [List.length_cons]; omega
theorem ZfL {P:Program}{w:World}:∀ {kvs:List (Key×V)} {ws:List (Value×Value)},VV (kvs.map fun kv=>(kV kv.1,kv.2)) ws→∃ rs,Carries (ZaF P w) ws rs∧KV kvs rs
 | [],_,r=>by rw [List.map_nil] at r; cases r; exact ⟨[],True.intro,.nil⟩
 | p::kvs,_,r=>by
  rw [List.map_cons] at r
  cases r with
  | @cons a b as bs h t=>
   obtain ⟨rs,c,q⟩:=ZfL (P:=P) (w:=w) t
   obtain ⟨b1,b2⟩:=b
   exact ⟨(p.1,b2)::rs,⟨Zh3 h.1,rfl,c⟩,.cons ⟨rfl,h.2⟩ q⟩
def Zr9 (trs:List (TE×TE)):TE:=fun σ H Q=>∀ p,H p=none→ZiB trs σ (upd H p (.dK [])) fun ps H2=>H2 p=some (.dK [])∧∃ kvs:List (Key×V),ps=kvs.map (fun kv=>(kV kv.1,kv.2))∧kvs.length≤15∧Q (.ref p) (upd H2 p (.dK (Zej [] kvs)))
theorem Zn6 {X:Cx}{pos:Pos}{keys:List (Option Expr)}{values:List Expr}{trs:List (TE×TE)}(h:PPs X pos keys values trs)(hall:keys.all (·.isSome)=true)(hl:keys.length=values.length)(h0:keys≠[])
  (h15:keys.length≤15):PE X (.Dict keys values pos) (Zr9 trs):=by
 intro pins s σ H Q I q
 have hn:=I.hok.fresh (Nat.le_refl s.heap.objs.size)
 have I1:=I.laid (a:=s.heap.objs.size) (o:=.dK []) (h':=s.heap.push { cls:=.type "dict",data:=.dict #[] }) (t':=s.toks) (fun _ _ q=>Heap.get?_push_of_some _ q) (Nat.le_refl _) (ZiA s.heap I.big)
 refine wpAny_Dict_walk (knd:=ZaF X.prog X.w) hall hl h0 h15 (thn (h pins _ σ _ _ I1 (q _ hn)) fun ws s2 ⟨ps,H2,I2,rel,e,kvs,ep,lk,q2⟩=>?_)
 subst ep
 obtain ⟨rs,c,rk⟩:=ZfL (P:=X.prog) (w:=X.w) rel
 obtain ⟨z,hd,vs0,r0,dd⟩:=ZnL I2.hok e
 cases r0
 refine ⟨rs,c,dd,fun h' dd' hs=>⟨.ref s.heap.objs.size,_,?_,rfl,q2⟩⟩
 have hz:(Zej [] kvs).length≤sizeLine:=by
  have h1:=ZdN kvs []
  rw [List.length_nil] at h1
  rw [sizeLine_eq]; omega
 have he:∃ q,h'.get? s.heap.objs.size=some q:=let ⟨q,_,_,hq,_⟩:=dd'; ⟨q,hq⟩
 exact Zf2 I2 (by rw [e]; exact True.intro) hs he (ZjM hz hd (rk.merge .nil) dd')
structure M1 (X:Cx)(o:Expr)(m:Str)(apos:Pos)(e:Expr)(cpos:Pos):Prop where
 base:attributeBase o m X.env (eval o X.env)=eval o X.env
 few:((backTo cpos (starEach [e] X.env)).all (fun x=>!x.1) && (backToKw cpos (keywordEach [] X.env)).all (fun x=>x.1.isSome)
  && decide (([e]:List Expr).length+([]:List Keyword).length+(if ([]:List Keyword).isEmpty then 0 else 1)<30))=true
 line:(apos.endLine == cpos.line)=true
 trees:backTo cpos (starEach [e] X.env)=[(false,eval e X.env)]
def IsD (H:Hp)(a:Addr):Prop:=(∃ kvs,Rd H a (.dK kvs))∨∃ kvs,Rd H a (.dT kvs)
theorem Zrr {X:Cx}{pins:List (Addr×Obj)}{σ:St}{H:Hp}{s:Shared}{a:Addr}(I:Inv X pins σ H s)(d:IsD H a) :
  s.TypeIs (.ref a) "dict"∧(∀ b,Value.ref a=.ref b→∃ ob,s.heap.get? b=some ob∧ob.dict=none)∧(a == sysModules)=false:=by
 rcases d with ⟨kvs,e⟩ | ⟨kvs,e⟩
 ·obtain ⟨_,hd,vs,_,dd⟩:=Zgg I.hok e
  refine ⟨dd.typeIs,fun b q=>?_,hd⟩
  cases q
  obtain ⟨ob,_,_,h1,h2,_⟩:=dd
  exact ⟨ob,h1,h2.2.1⟩
 ·obtain ⟨_,hd,xs,_,dd⟩:=ZiZ I.hok e
  refine ⟨dd.typeIs,fun b q=>?_,hd⟩
  cases q
  obtain ⟨ob,_,_,h1,h2,_⟩:=dd
  exact ⟨ob,h1,h2.2.1⟩
def Zqw (td ty:TE):TE:=fun σ H Q=>td σ H fun x H1=>∃ a,x=.ref a∧IsD H1 a∧ty σ H1 fun y H2=>∃ kvs k v,H2 a=some (.dK kvs)∧y=kV k∧ZeF kvs k=some v∧Q v (upd H2 a (.dK (Zf6 kvs k)))
section
variable {X:Cx} {o e f:Expr} {apos cpos:Pos} {td ty tx:TE}
theorem Zl6 (ho:PE X o td)(he:PE X e ty)(m:M1 X o "pop" apos e cpos):PE X (.Call (.Attribute o "pop" apos) [e] [] cpos) (Zqw td ty):=by
 intro pins s σ H Q I h
 refine wpAny_Call_method m.base m.few m.line PySem.F.plainAttrs_dict PySem.F.slot_dict_pop PySem.F.type_dict_pop (thn (ho pins s σ H _ I h) fun u s1 ⟨x,H1,I1,rx,a,ex,d,q1⟩=>?_)
 subst ex
 obtain rfl:u=Value.ref a:=rx
 obtain ⟨t1,t2,_⟩:=Zrr I1 d
 refine ⟨t1,t2,?_⟩
 rw [m.trees]
 refine Calls.callWith_builtin rfl (Calls.evalArgs_plain (Calls.spliced_cons (thn (he pins s1 σ H1 _ I1 q1) fun iv s2 ⟨y,H2,I2,ry,kvs,k,v,ea,ey,l,q2⟩=>Calls.spliced_nil ?_)))
 subst ey
 exact Zsc I2 ea ry l (.inl rfl) fun w' s3 I3 rw'=>⟨v,_,I3,rw',q2⟩
end
end L2
namespace Att
open PySem PySem.W PySem.Calls PyProof.Rows
theorem Zfb {P:Params}{h:Heap}:∀ (ns:List Int) (vs:List Value),WellAll P h vs (ns.map WData.int)→IntsAre vs ns:=by
 intro ns
 induction ns with
 | nil=>
  intro vs w
  rw [List.map_nil] at w
  cases w
  exact .nil
 | cons n ns ih=>
  intro vs w
  rw [List.map_cons] at w
  cases w with
  | cons a b=>
   cases a
   exact .cons _ _ (ih _ b)
theorem Zj2 {l:OpenLaw}{n:Nat}(hn:l.most=some n){P:Params}{h:Heap}{args:List WData}{vals:List Value}
  (hpre:l.row.toRowW.claim.pre args=true) (hwl:WellAll P h vals args) :
  ∃ a vs ns,vals=[Value.ref a]∧args=[WData.list (ns.map WData.int)]∧h.get? a=some { cls:=.type "list",data:=.seq vs.toArray }∧IntsAre vs ns∧ns.length≤n:=by
 have hsh:WShape.hasAll [] args [.list .int]=true:=(pre_splitW hpre).1
 have hc:l.pre.holds [] { args:=args }=true:=(pre_splitW hpre).2
 obtain ⟨d,r,rfl,h1,h2⟩:=hasAllW_cons hsh
 obtain rfl:=hasAllW_nil h2
 obtain ⟨xs,rfl,h3⟩:=hasW_list h1
 obtain ⟨ns,rfl⟩:=items_int h3
 have hlen:ns.length≤n:=by
  unfold OpenLaw.pre at hc
  have h4:(WTm.not (.lt (.lit (.int (n:Int))) (.len (.arg 0)))).holds [] { args:=[.list (ns.map .int)] }=true:=by
   have h4:=(holds_andW hc).1
   rw [hn] at h4
   exact h4
  have h5:=condW_of h4 (w_not (w_lt w_lit (w_len_list (w_arg rfl))))
  rw [List.length_map] at h5
  refine Nat.le_of_not_lt fun q=>?_
  have q':(n:Int)<((ns.length:Nat):Int):=by omega
  first
   | (rw [decide_eq_true q'] at h5; exact absurd h5 (by decide))
   | (simp at h5; omega)
 cases hwl with
 | cons w1 w2=>
  cases w2
  cases w1 with
  | list ho hall=>exact ⟨_,_,ns,rfl,rfl,ho,Zfb ns _ hall,hlen⟩
theorem Zkc (l:OpenLaw)(args:List WData):l.row.toRowW.claim.post args (.bool true) args=true:=
 postW_of (r:=l.row.toRowW) (X:=(true == true))
  (show WShape.has [] (.bool true) .bool=true by first | rfl | decide | simp [WShape.has,WShape.arms,WShape.armsAll])
  (show (WTm.eq .res (.lit (.bool true))).value [] { args:=args,res:=some (.bool true),after:=args }=some (.bool (true == true)) from w_eq_bool (w_res rfl) w_lit) rfl
theorem attach_call {l:OpenLaw}{n:Nat}{q:Program}{loose:List Str}{XP:(Str→Option Value)→Heap→Prop}{YP:World→Heap→Prop}{d:DefRec}
  (hn:l.most=some n) (hdf:d.params.defaults=[])
  (call:∀ (w:World) (s₀ s₁:Shared) (mg mb:Str→Option Value) (fa:Addr) (o:Obj) (pm cd doc:Value) (a:Addr) (vs:List Value) (ns:List Int),
   Ground q loose [] XP w s₀ mg mb s₁.heap→YP w s₁.heap →
   s₁.heap.get? fa=some o→o.data=.func (docDef d.name d.params d.body d.scope pm cd doc)→s₁.heap.CodeRec cd d.name→mg d.name=some (.ref fa) →
   s₁.heap.get? a=some { cls:=.type "list",data:=.seq vs.toArray }→IntsAre vs ns→ns.length≤n→s₁.gens = #[] →
   codeAny (model l.prog w) callerA (.call (.ref fa) ⟨[.ref a],[]⟩) (fun r s'=>r=.ok (.ret (.bool true))∧OldK s₁.heap s'.heap∧s'.os=s₁.os∧AllBare s'.gens) s₁) :
  WalkO q loose XP YP l.row.toRowW d [] (fun f vs=>PySem.call f vs):=by
 intro w s₀ s₁ mg mb G Y fa o pm cd doc dV kV ho hd hcd hD hmg hg args vals as hpre hlay hrd hwl hlo
 obtain rfl:dV=.none:=Dflts.none hD hdf
 obtain rfl:kV=.none:=Dflts.noKw hD
 obtain ⟨a,vs,ns,rfl,rfl,hobj,hints,hlen⟩:=Zj2 hn hpre hwl
 refine enter_call (codeAny_mono (call w s₀ s₁ mg mb fa o pm cd doc a vs ns G Y ho (fd_plain hd) hcd hmg hobj hints hlen hg) fun r s' hq=>?_)
 obtain ⟨rfl,h2,h3,h4⟩:=hq
 exact ⟨.inl ⟨.bool true,.bool true,[],rfl,fun _=>rfl,.bool true,Zkc l _,fun _=>⟨List.Pairwise.nil,fun _ hm=>(nomatch hm)⟩⟩,h2,h3,h4⟩
end Att
namespace L2
open PySem PySem.Spec PyProof.Rows
theorem ZdI:∀ {vs:List Value} {ns:List Int},IntsAre vs ns→Vals (ns.map V.int) vs
 | _,_,.nil=>.nil
 | _,_,.cons n t h=>.cons ⟨t,rfl⟩ (ZdI h)
def ZrY (H:Hp):Prop:=∀ b,H b=none∨∃ o xs,H b=some (.frz o (.lst xs))
theorem ZlR {P:Program}{w:World}{K:PySem.W.Frag}{mg mb:Str→Option Value}{CX:CXT}{k:Nat}{fa a:Addr}{fd:FuncData}{x:Str}{sp:Sp}{s₁:Shared}{vs:List Value}{ns:List Int}
  (KX:K.In s₁.heap) (hns:s₁.heap.Ns mainGlobals mg) (hb:s₁.heap.Ns builtinsNs mb) (hbb:∀ x:Str,x≠"__name__"→mb x=bootBuiltins x) (hlim:s₁.heap.NoLimit) (hg:s₁.gens = #[])
  (ha:s₁.heap.get? a=some { cls:=.type "list",data:=.seq vs.toArray }) (hi:IntsAre vs ns) (hl:ns.length≤sizeLine) (hr:Room k callerA)
  (F:∀ base:Heap,K.In base→base.Ns mainGlobals mg→FnOk P w K mg base CX k fa fd [x] sp) (hbind:∀ (s:Shared) (u:Value),BindsTo s fd ⟨[u],[]⟩ [(x,u)])
  (hsp:∀ H:Hp,ZrY H→SqL K H a (ns.map V.int)→sp [.ref a] H (fun v _=>v=.bl true) fun _ _ _=>False)
  (hCX:∀ H e s',CX [] H s₁ (fun _ _ _=>False) e s'→False) :
  codeAny (model P w) callerA (.call (.ref fa) ⟨[.ref a],[]⟩) (fun r s'=>r=.ok (.ret (.bool true))∧OldK s₁.heap s'.heap∧s'.os=s₁.os∧AllBare s'.gens) s₁:=by
 have rv:=ZdI hi
 have ZpV:=hi.length
 have core:∀ H:Hp,ZrY H→SqL K H a (ns.map V.int)→HOk P w H s₁.heap→(∀ b,H b≠none→b=a)→(H a≠none→K.lookup a=none) →
   codeAny (model P w) callerA (.call (.ref fa) ⟨[.ref a],[]⟩) (fun r s'=>r=.ok (.ret (.bool true))∧OldK s₁.heap s'.heap∧s'.os=s₁.os∧AllBare s'.gens) s₁:=by
  intro H hO hS hok hA hK
  have base_of:∀ {b:Addr} {o:Obj},s₁.heap.get? b=some o→H b=none→(ZmJ s₁.heap H).get? b=some o:=fun e n=>Zmn e n
  have noA:∀ {b:Addr} {o:Obj} {es:Array DictEntry} {ep:Nat},s₁.heap.get? b=some o→o.data=.dict es ep→H b=none:=fun {b o es ep} e d=>by
   cases q:H b with
   | none=>rfl
   | some u=>
    have e':b=a:=hA b (by rw [q]; simp)
    subst e'
    rw [ha] at e; cases e
    have d':Data.seq vs.toArray _=Data.dict es ep:=d
    cases d'
  have nsK:∀ {b:Addr} {m:Str→Option Value},s₁.heap.Ns b m→(ZmJ s₁.heap H).Ns b m:=fun {b m} ⟨o,es,ep,e,d,r⟩=>⟨o,es,ep,base_of e (noA e d),d,r⟩
  have hKb:K.In (ZmJ s₁.heap H):=fun b o e=>base_of (KX b o e) (by
   cases q:H b with
   | none=>rfl
   | some u=>
    have e':b=a:=hA b (by rw [q]; simp)
    subst e'
    rw [hK (by rw [q]; simp)] at e; cases e)
  have hM:Mod K mg (ZmJ s₁.heap H):=⟨hKb,nsK hns,⟨mb,nsK hb,hbb⟩,let ⟨mc,h1,h2⟩:=hlim; ⟨mc,nsK h1,h2⟩⟩
  have e0:Env0 P w K mg (ZmJ s₁.heap H) callerA [] s₁ H:=⟨rfl,hM,fun b o e=>ZoJ e,Nat.le_of_eq (Zk6 _ _),trivial,fun b hb=>absurd (show b∈([]:List Addr) from hb) (by simp),hok,.of_eq hg⟩
  refine codeAny_mono ((F _ hKb (nsK hns)).run callerA [] s₁ H ⟨[.ref a],[]⟩ [.ref a] [.ref a] _ _ hr (fun _=>rfl) e0 (hbind s₁ (.ref a)) (.cons rfl .nil) (hsp H hO hS)) fun r s' h=>?_
  cases r with
  | error e=>exact (hCX H e s' h).elim
  | ok fl=>
   cases fl with
   | next=>exact False.elim h
   | brk=>exact False.elim h
   | cont=>exact False.elim h
   | ret u=>
    obtain ⟨v,H',os,bare,un,hok',r',q⟩:=h
    have q':v=.bl true:=q
    subst q'
    obtain rfl:u=Value.bool true:=r'
    refine ⟨rfl,OldK.of_keep fun b o e=>?_,os,bare⟩
    cases q:H b with
    | none=>exact un.keep b o e q (by intro z; exact absurd (show b∈([]:List Addr) from z) (by simp)) (by simp)
    | some u=>
     rcases hO b with z | ⟨ob,xs,z⟩
     ·rw [q] at z; cases z
     ·have z2:=un.frzs b ob _ z
      obtain ⟨e1,_⟩:=hok b _ z
      obtain ⟨e2,_⟩:=hok' b _ z2
      rw [e] at e1; cases e1
      exact e2
 cases hk:K.lookup a with
 | some o=>
  have e:=KX a o hk
  rw [ha] at e
  cases e
  refine core (fun _=>none) (fun _=>.inl rfl) (.inr ⟨_,vs.toArray,_,hk,rfl,rfl,rfl,by rw [List.size_toArray,ZpV]; exact hl,by simpa using rv⟩) (fun b u z=>by have z':(none:Option HO)=some u:=z; cases z') (fun b z=>absurd rfl z) fun z=>absurd rfl z
 | none=>
  refine core (fun b=>if b=a then some (.frz { cls:=.type "list",data:=.seq vs.toArray } (.lst (ns.map V.int))) else none) (fun b=>?_) (.inl (.inr ⟨{ cls:=.type "list",data:=.seq vs.toArray },if_pos rfl⟩)) (fun b u z=>?_) (fun b z=>?_) fun _=>hk
  ·by_cases hb:b=a
   ·exact .inr ⟨_,_,if_pos hb⟩
   ·exact .inl (if_neg hb)
  ·by_cases hb:b=a
   ·have z':=(if_pos hb).symm.trans z
    cases z'
    subst hb
    exact ⟨ha,by rw [List.length_map]; exact hl,vs,_,rv,ha⟩
   ·have z':=(if_neg hb).symm.trans z
    cases z'
  ·by_cases hb:b=a
   ·exact hb
   ·exact absurd (if_neg hb) z
end L2
namespace L2
open PySem PySem.Spec PyProof.Rows
abbrev KOf {K:PySem.W.Frag}{h:Heap}(_:K.In h):PySem.W.Frag:=K
theorem Zpk {l:PySem.W.OpenLaw}{n k:Nat}{q:Program}{loose:List Str}{XP:(Str→Option Value)→Heap→Prop}{YP:World→Heap→Prop}{d:DefRec}{K:Params→PySem.W.Frag}{CX:World→CXT}{sp:World→Sp}{x:Str}
  (hn:l.most=some n) (hn2:n≤sizeLine) (hdf:d.params.defaults=[]) (hr:Room k callerA)
  (hY:∀ (w:World) (h:Heap),YP w h→(K w.params).In h)
  (F:∀ (w:World) (mg:Str→Option Value) (fa:Addr) (h:Heap),(K w.params).In h→h.Ns mainGlobals mg→mg d.name=some (.ref fa) →
   ∃ fd:FuncData,(∀ (s:Shared) (u:Value),BindsTo s fd ⟨[u],[]⟩ [(x,u)]) ∧
    ∀ base:Heap,(K w.params).In base→base.Ns mainGlobals mg→FnOk l.prog w (K w.params) mg base (CX w) k fa fd [x] (sp w))
  (hsp:∀ (w:World) (H:Hp) (a:Addr) (ns:List Int),ns.length≤n→ZrY H→SqL (K w.params) H a (ns.map V.int)→sp w [.ref a] H (fun v _=>v=.bl true) fun _ _ _=>False)
  (hCX:∀ (w:World) (H:Hp) (s:Shared) (e:Value) (s':Shared),CX w [] H s (fun _ _ _=>False) e s'→False) :
  PySem.W.WalkO q loose XP YP l.row.toRowW d [] (fun f vs=>PySem.call f vs):=by
 refine Att.attach_call hn hdf fun w s₀ s₁ mg mb fa o pm cd doc a vs ns G Y ho hd hcd hmg hobj hints hlen hg=>?_
 have KX:=hY w _ Y
 obtain ⟨fd,hb,hF⟩:=F w mg fa _ KX G.T.g hmg
 exact ZlR KX G.T.g G.T.b G.T.builtins G.T.nolimit hg hobj hints (Nat.le_trans hlen hn2) hr hF hb (fun H hO hS=>hsp w H a ns hlen hO hS) fun H e s'=>hCX w H s₁ e s'
end L2
namespace L2
open PySem PySem.Spec PyProof.Rows
def Zbf (s:Stmt)(j:Nat):Stmt:=match s with
 | .ClassDef _ _ _ body _ _ _ _ _ _ _=>body.getD j (.Pass ⟨0,0,0,0⟩)
 | _=>.Pass ⟨0,0,0,0⟩
def Zcj (s:Stmt):Arguments:=match s with
 | .FunctionDef _ a _ _ _ _ _ _ _ _=>a
 | _=>{ posonlyargs:=[],args:=[],vararg:=none,kwonlyargs:=[],kw_defaults:=[],kwarg:=none,defaults:=[] }
def ZaZ (s:Stmt):List Stmt:=match s with
 | .FunctionDef _ _ b _ _ _ _ _ _ _=>b
 | _=>[]
def Zae (s:Stmt):Scope:=match s with
 | .FunctionDef _ _ _ _ _ _ sc _ _ _=>sc
 | _=>{ kind:=.function,names:=[],isGenerator:=false,isCoroutine:=false }
abbrev CX0:CXT:=⟨fun _ _ _ _ _ _=>False,true⟩
abbrev E0:XK:=fun _ _ _=>False
theorem Zj8 {X:Cx}(hc:X.calm=true):ZdR CX0 X E0:=⟨fun _=>hc,fun _ _ _ _ _ _ _ h=>False.elim h⟩
structure Fun (K:PySem.W.Frag)(x qual:Str)(st:Stmt)(f:Addr)(fd:FuncData):Prop where
 ex:∃ (oc:Value) (od:Option Addr) (kV doc pm:Value) (an:Option Addr) (cdv ct:Value) (osl:Array (Option Value)),
  fd=PySem.W.fnOf x qual (Zcj st) (ZaZ st) (Zae st) .none kV doc pm an cdv ct∧K.lookup f=some ⟨oc,od,.func fd,osl⟩∧PySem.W.codeIn K cdv qual=true
 kp:PySem.W.keepIn K (.ref f)=true
section
variable {P:Program} {w:World} {K:PySem.W.Frag} {mg:Str→Option Value} {base:Heap}
theorem Fun.ok {x qual:Str}{st:Stmt}{f:Addr}{fd:FuncData}{N ps:List Str}{k:Nat}{sp:Sp}(F:Fun K x qual st f fd)(S:FnScope N ps (Zae st))(len:∀ vs H Q E,sp vs H Q E→vs.length=ps.length)
  (hbody:∀ (cdv:Value) (A:Around) (outer:List Env) (s:Shared) (H:Hp) (vs:List V) (Q:VK) (E:XK),Room k (A.deeper (envOfC qual (Zae st) s.heap.objs.size f cdv))→sp vs H Q E →
   ∃ t,PSs (ZfS CX0 P w K mg base N qual (Zae st) f cdv A outer s H E).nox (ZaZ st) t∧t { nx:=fun _ H'=>Q .non H',rt:=Q } (start N vs) H):FnOk P w K mg base CX0 (k+1) f fd ps sp:=by
 obtain ⟨oc,od,kV,doc,pm,an,cdv,ct,osl,rfl,lk,hcd⟩:=F.ex
 refine Zp9 lk hcd S len fun A outer s H vs Q E hr hsp=>?_
 obtain ⟨t,h,q⟩:=hbody cdv A outer s H vs Q E hr hsp
 exact ⟨t,h.nox,q⟩
theorem Fun.binds {x qual:Str}{st:Stmt}{f:Addr}{fd:FuncData}{ps:List Str}(F:Fun K x qual st f fd)
  (h:∀ (kV doc pm:Value) (an:Option Addr) (cdv ct:Value) (us:List Value),us.length=ps.length→bindArgs (PySem.W.fnOf x qual (Zcj st) (ZaZ st) (Zae st) .none kV doc pm an cdv ct) ⟨us,[]⟩=pure (ps.zip us)):Binds K fd ps []:=by
 obtain ⟨oc,od,kV,doc,pm,an,cdv,ct,osl,rfl,lk,hcd⟩:=F.ex
 exact .all (h kV doc pm an cdv ct)
theorem Zin {x qual:Str}{st:Stmt}{f:Addr}{oc:Value}{od an:Option Addr}{osl:Array (Option Value)}{kV doc pm cdv ct:Value}(l:K.lookup f=some ⟨oc,od,.func (PySem.W.fnOf x qual (Zcj st) (ZaZ st) (Zae st) .none kV doc pm an cdv ct),osl⟩)
  (c:PySem.W.codeIn K cdv qual=true) (k:PySem.W.keepIn K (.ref f)=true):Fun K x qual st f (PySem.W.fnOf x qual (Zcj st) (ZaZ st) (Zae st) .none kV doc pm an cdv ct):=⟨⟨oc,od,kV,doc,pm,an,cdv,ct,osl,rfl,l,c⟩,k⟩
end
theorem Zi8 {A:Around}{k:Nat}(hr:Room k A):A.units+1<cLine:=Nat.lt_of_le_of_lt (Nat.add_le_add_left (by decide:1≤64) _) hr.units
section
variable {X:Cx}
theorem Zkh:CallR X (.builtin "len") (fun xs H Q=>∃ a kvs,xs=[V.ref a]∧H a=some (.dK kvs)∧Q (.int kvs.length) H):=by
 intro pins s σ H xs us Q I r h
 obtain ⟨a,kvs,rfl,ha,q⟩:=h
 obtain ⟨u,rfl,ru⟩:=ZhY r
 cases ru
 exact Zs3 I (.inl ha) fun t s' I'=>⟨.int kvs.length,H,I',⟨t,rfl⟩,q⟩
end
theorem Zoh {A B:Prop}(h:B):if false=true then A else B:=by
 rw [if_neg Bool.false_ne_true]
 exact h
theorem ZnR {A B:Prop}(h:A):if true=true then A else B:=by
 rw [if_pos rfl]
 exact h
def Same (H H':Hp):Prop:=∀ b o,H b=some o→H' b=some o
end L2
namespace L2
open PySem PySem.Spec PyProof.Rows
theorem ZbY:bootBuiltins "int"=some (.type "int"):=by decide +kernel
theorem Zb1:bootBuiltins "bool"=some (.type "bool"):=by decide +kernel
theorem Zcm:bootBuiltins "str"=some (.type "str"):=by decide +kernel
theorem ZbF:bootBuiltins "list"=some (.type "list"):=by decide +kernel
theorem ZdH:bootBuiltins "tuple"=some (.type "tuple"):=by decide +kernel
theorem ZdV:bootBuiltins "ValueError"=some (.type "ValueError"):=by decide +kernel
theorem Zbu:bootBuiltins "len"=some (.builtin "len"):=by decide +kernel
theorem Zag:bootBuiltins "isinstance"=some (.builtin "isinstance"):=by decide +kernel
theorem Zi4:bootBuiltins "sum"=some (.builtin "sum"):=by decide +kernel
theorem ZiT:bootBuiltins "all"=some (.builtin "all"):=by decide +kernel
theorem Zct:bootBuiltins "sorted"=some (.builtin "sorted"):=by decide +kernel
def DefAt (K:PySem.W.Frag)(mg:Str→Option Value)(x:Str)(st:Stmt):Prop:=∃ f fd,Fun K x x st f fd∧mg x=some (.ref f)
def ZbU (P:Program)(w:World)(K:PySem.W.Frag)(mg:Str→Option Value)(base:Heap)(CX:CXT)(k:Nat)(x:Str)(sp:Sp):Prop:=
 ∃ f fd ps,FnOk P w K mg base CX k f fd ps sp∧mg x=some (.ref f)∧PySem.W.keepIn K (.ref f)=true∧Binds K fd ps []
def Zal (x qual:Str)(st:Stmt)(ps:List Str):Prop:=∀ (kV doc pm:Value) (an:Option Addr) (cdv ct:Value) (us:List Value),us.length=ps.length →
 bindArgs (PySem.W.fnOf x qual (Zcj st) (ZaZ st) (Zae st) .none kV doc pm an cdv ct) ⟨us,[]⟩=pure (ps.zip us)
section
variable {X:Cx} {CX:CXT} {k j:Nat} {sp:Sp} {E:XK} {x:Str} {p pos:Pos} {e:Expr} {es:List Expr} {t:TA}
theorem Zsk (G:ZbU X.prog X.w X.K X.mg X.base CX k x sp)(hr:Room j X.A)(hkj:k≤j)(hg:Gl X x)(hx:ZdR CX X E)
  (ha:PA X (e::es) t) (hdb:(x == ("__debug__":Str))=false:=by decide) (he:starEach (e::es) X.env=(false,eval e X.env)::starEach es X.env:=by rfl) (hpl:(backTo pos (starEach es X.env)).any (·.1)=false:=by rfl) :
  PE X (.Call (.Name x p) (e::es) [] pos) (ZnT sp [] E t):=by
 obtain ⟨f,fd,ps,F,hm,hk,hb⟩:=G
 exact ZnZ F (hr.mono hkj) hg hm hk hb .nil hx ha hdb he hpl
def GC (mg:Str→Option Value)(x:Str)(v:V):Prop:=∃ u,mg x=some u∧RelV v u
theorem Zqa {v:V}(hg:Gl X x)(h:GC X.mg x v)(hd:(x == ("__debug__":Str))=false:=by decide):PE X (.Name x p) (tC v):=by
 obtain ⟨u,hm,r⟩:=h
 exact Zo0 hg hm r hd
theorem ZsD (n:String)(hg:Gl X x)(hm:X.mg x=none)(hv:bootBuiltins x=some (.type n))(hn:x≠"__name__":=by decide)(hd:(x == ("__debug__":Str))=false:=by decide):PE X (.Name x p) (tC (.ty n)):=
 Zot hg hm hv rfl hn hd
def Znf:V→Value→Prop
 | .ty n,c=>c=.type n
 | .ref a,c=>c=.ref a
 | _,_=>False
end
section
variable {K:PySem.W.Frag} {h:Heap} {mg:Str→Option Value}
theorem def_mk {x:Str}{st:Stmt}{f:Addr}{oc:Value}{od an:Option Addr}{osl:Array (Option Value)}{kV doc pm cdv ct:Value}(X:K.In h)(G:h.Ns mainGlobals mg)(a:PySem.W.nsIn K mainGlobals x=some (some (.ref f)))
  (l:K.lookup f=some ⟨oc,od,.func (PySem.W.fnOf x x (Zcj st) (ZaZ st) (Zae st) .none kV doc pm an cdv ct),osl⟩) (c:PySem.W.codeIn K cdv x=true) (k:PySem.W.keepIn K (.ref f)=true):DefAt K mg x st:=
 ⟨f,_,Zin l c k,PySem.W.mg_of X G a⟩
theorem gc_mk {x:Str}{u:Value}{v:V}(X:K.In h)(G:h.Ns mainGlobals mg)(a:PySem.W.nsIn K mainGlobals x=some (some u))(r:RelV v u):GC mg x v:=⟨u,PySem.W.mg_of X G a,r⟩
theorem Zrf {P:Program}{w:World}{CX:CXT}{k:Nat}{sp:Sp}{st:Stmt}{fa:Addr}{x:Str}(R:DefAt K mg "law" st)(hmg:mg "law"=some (.ref fa))(hb:Zal "law" "law" st [x])
  (F:∀ (f:Addr) (fd:FuncData),Fun K "law" "law" st f fd→∀ base:Heap,FnOk P w K mg base CX k f fd [x] sp) :
  ∃ fd:FuncData,(∀ (s:Shared) (u:Value),BindsTo s fd ⟨[u],[]⟩ [(x,u)])∧∀ base:Heap,K.In base→base.Ns mainGlobals mg→FnOk P w K mg base CX k fa fd [x] sp:=by
 obtain ⟨f,fd,F1,hm⟩:=R
 have e:=hmg.symm.trans hm
 cases e
 refine ⟨fd,fun s u=>?_,fun base _ _=>F fa fd F1 base⟩
 obtain ⟨oc,od,kV,doc,pm,an,cdv,ct,osl,rfl,lk,hcd⟩:=F1.ex
 exact .of_eq (hb kV doc pm an cdv ct [u] rfl)
end
def ZgH (K:PySem.W.Frag):Sp:=fun vs H Q _=>∃ (a:Addr) (ns:List Int),vs=[.ref a]∧SqL K H a (ns.map V.int)∧ns.length≤63∧ZrY H∧∀ H',Q (.bl true) H'
theorem walk0 {l:PySem.W.OpenLaw}{k:Nat}{q:Program}{loose:List Str}{XP:(Str→Option Value)→Heap→Prop}{YP:World→Heap→Prop}{d:DefRec}{K:Params→PySem.W.Frag}{x:Str}(hn:l.most=some 63)(hdf:d.params.defaults=[])(hr:Room k callerA)
  (hY:∀ (w:World) (h:Heap),YP w h→(K w.params).In h)
  (F:∀ (w:World) (mg:Str→Option Value) (fa:Addr) (h:Heap),(K w.params).In h→h.Ns mainGlobals mg→mg d.name=some (.ref fa) →
   ∃ fd:FuncData,(∀ (s:Shared) (u:Value),BindsTo s fd ⟨[u],[]⟩ [(x,u)])∧∀ base:Heap,(K w.params).In base→base.Ns mainGlobals mg→FnOk l.prog w (K w.params) mg base CX0 k fa fd [x] (ZgH (K w.params))) :
  PySem.W.WalkO q loose XP YP l.row.toRowW d [] (fun f vs=>PySem.call f vs):=
 Zpk (n:=63) (k:=k) (x:=x) (CX:=fun _=>CX0) (sp:=fun w=>ZgH (K w.params)) hn (by decide) hdf hr hY F (fun _ H a ns hl hO hS=>⟨a,ns,rfl,hS,hl,hO,fun _=>rfl⟩) fun _ _ _ _ _ z=>z
theorem Same.tup {K:PySem.W.Frag}{H H':Hp}{a:Addr}{xs:List V}(e:Same H H')(h:SqT K H a xs):SqT K H' a xs:=by
 rcases h with (h | ⟨o,h⟩) | h
 ·exact .inl (.inl (e _ _ h))
 ·exact .inl (.inr ⟨o,e _ _ h⟩)
 ·exact .inr h
end L2
namespace L2
open PySem PySem.Spec PyProof.Rows
def ZaQ (H:Hp)(a:Addr):Option (List V):=match H a with
 | some (.lst xs)=>some xs
 | some (.frz _ (.lst xs))=>some xs
 | _=>none
def Zdp (H:Hp)(a:Addr):Option (List V):=match H a with
 | some (.tup xs)=>some xs
 | _=>none
theorem ZbN {H:Hp}{a:Addr}{xs:List V}(h:ZaQ H a=some xs):Rd H a (.lst xs):=by
 unfold ZaQ at h
 split at h
 ·rename_i e; cases h; exact .inl e
 ·rename_i e; cases h; exact .inr ⟨_,e⟩
 ·cases h
theorem Zav {K:PySem.W.Frag}{H:Hp}{a:Addr}{xs:List V}(h:ZaQ H a=some xs):SqL K H a xs:=.inl (ZbN h)
theorem ZdM {H:Hp}{a:Addr}{xs:List V}(h:Zdp H a=some xs):H a=some (.tup xs):=by
 unfold Zdp at h
 split at h
 ·rename_i e; cases h; exact e
 ·cases h
theorem ZbR {K:PySem.W.Frag}{H:Hp}{a:Addr}{xs:List V}(h:Zdp H a=some xs):SqT K H a xs:=.inl (.inl (ZdM h))
theorem Zbj {H:Hp}{a:Addr}{xs:List V}(h:H a=some (.lst xs)):ZaQ H a=some xs:=by unfold ZaQ; rw [h]
theorem ZlV {H:Hp}{a:Addr}{xs:List V}(h:H a=some (.tup xs)):Zdp H a=some xs:=by unfold Zdp; rw [h]
def Zc0 {α:Type}(o:Option α)(k:α→Prop):Prop:=match o with
 | some a=>k a
 | none=>False
theorem Za9 {α:Type}{o:Option α}{k:α→Prop}(h:Zc0 o k):∃ a,o=some a∧k a:=by
 cases o with
 | none=>exact h.elim
 | some a=>exact ⟨a,rfl,h⟩
def ZbD (H:Hp)(a:Addr):Option (List V):=match H a with
 | some (.lst xs)=>some xs
 | some (.frz _ (.lst xs))=>some xs
 | some (.tup xs)=>some xs
 | _=>none
theorem ZdJ {H:Hp}{a:Addr}{xs:List V}(h:ZbD H a=some xs):ZaQ H a=some xs∨Zdp H a=some xs:=by
 unfold ZbD at h
 unfold ZaQ Zdp
 split at h
 ·rename_i e; cases h; left; rw [e]
 ·rename_i e; cases h; left; rw [e]
 ·rename_i e; cases h; right; rw [e]
 ·cases h
def ixV:R2:=fun x y H Q=>match x,y with
 | .ref p,.int i=>Zc0 (ZbD H p) fun xs=>Zc0 (atI xs i) fun v=>Q v H
 | .str z,.int i=>z.length≤sizeLine∧Zc0 (atI z.cps.toList i) fun c=>Q (.str ⟨#[c]⟩) H
 | _,_=>False
section
variable {X:Cx} {a b c:Expr} {ta tb tc:TE} {pos:Pos}
theorem IxR.imp {r r':R2}(h:IxR X r)(i:∀ x y H Q,r' x y H Q→r x y H Q):IxR X r':=fun value slice pins s σ H x y v u Q I rx ry q hs=>h value slice pins s σ H x y v u Q I rx ry (i _ _ _ _ q) hs
theorem OpR.imp {f:Value→Value→Sem Value}{r r':R2}(h:OpR X f r)(i:∀ x y H Q,r' x y H Q→r x y H Q):OpR X f r':=fun pins s σ H x y v u Q I rx ry q=>h pins s σ H x y v u Q I rx ry (i _ _ _ _ q)
theorem CallR.imp {f:Value}{r r':List V→Hp→VK→Prop}(h:CallR X f r)(i:∀ xs H Q,r' xs H Q→r xs H Q):CallR X f r':=fun pins s σ H xs us Q I rx q=>h pins s σ H xs us Q I rx (i _ _ _ q)
theorem Zbo:IxR X ixV:=by
 refine (ZqH (X:=X)).imp fun x y H Q h=>?_
 unfold ixV at h
 split at h
 ·rename_i p i
  obtain ⟨xs,e,h⟩:=Za9 h
  obtain ⟨v,e2,h⟩:=Za9 h
  rcases ZdJ e with e | e
  ·exact .inl ⟨p,xs,i,v,rfl,rfl,Zav e,e2,h⟩
  ·exact .inr (.inl ⟨p,xs,i,v,rfl,rfl,ZbR e,e2,h⟩)
 ·rename_i z i
  obtain ⟨hz,h⟩:=h
  obtain ⟨c,e2,h⟩:=Za9 h
  exact .inr (.inr ⟨z,i,c,rfl,rfl,hz,e2,h⟩)
 ·exact h.elim
theorem Inv.lstR {pins:List (Addr×Obj)}{s:Shared}{σ:St}{H:Hp}{l:Addr}{xs:List V}(I:Inv X pins σ H s)(hH:ZaQ H l=some xs) :
  xs.length≤sizeLine∧∃ (its:List Value) (n:Nat),Vals xs its∧xs.length=its.length∧s.heap.get? l=some { cls:=.type "list",data:=.seq its.toArray n }:=by
 obtain ⟨z,its,n,r,e⟩:=(ZbN hH).ok I.hok
 exact ⟨z,its,n,r,r.length,e⟩
def ZsX:R2:=fun x y H Q=>match x,y with
 | .ref l,.ref b=>Zc0 (ZaQ H l) fun xs=>Zc0 (ZaQ H b) fun zs=>xs.length+zs.length≤sizeLine∧∀ p,H p=none→Q (.ref p) (upd H p (.lst (xs++zs)))
 | _,_=>False
theorem Zon:OpR X (binaryOp .Add) ZsX:=by
 intro pins s σ H x y v u Q I rx ry h
 unfold ZsX at h
 split at h
 ·obtain ⟨xs,hH,h⟩:=Za9 h
  obtain ⟨zs,hB,hz,q⟩:=Za9 h
  cases rx
  cases ry
  obtain ⟨z,its,n,r,hl,e⟩:=I.lstR hH
  obtain ⟨z2,its2,n2,r2,hl2,e2⟩:=I.lstR hB
  refine PySem.P.add_list e e2 ?_ (by rw [List.size_toArray,List.size_toArray]; omega)
  have ea:its.toArray++its2.toArray=(its++its2).toArray:=by simp
  rw [ea]
  exact ⟨.ref _,_,I.lnew (t':=s.toks) (r.append r2) (by rw [List.length_append]; omega),rfl,q _ I.fresh⟩
 ·exact h.elim
def ZrZ:R2:=fun x y H Q=>match x,y with
 | .int i,.int j=>Q (.int (i+j)) H
 | .str i,.str j=>i.length+j.length≤sizeLine∧Q (.str (i++j)) H
 | .ref l,.ref b=>ZsX (.ref l) (.ref b) H Q
 | _,_=>False
theorem ZaH:OpR X (binaryOp .Add) ZrZ:=by
 refine ((ZqN (X:=X)).or ((Zi1 (X:=X)).or (Zon (X:=X)))).imp fun x y H Q h=>?_
 unfold ZrZ at h
 split at h
 ·exact .inl ⟨_,_,rfl,rfl,h⟩
 ·exact .inr (.inl ⟨_,_,rfl,rfl,h.1,h.2⟩)
 ·exact .inr (.inr h)
 ·exact h.elim
def ZpV:List V→Hp→VK→Prop:=fun xs H Q=>match xs with
 | [.str z]=>z.length≤sizeLine∧Q (.int z.length) H
 | [.ref p]=>(match H p with
  | some (.dK kvs)=>Q (.int kvs.length) H
  | _=>Zc0 (ZbD H p) fun ys=>Q (.int ys.length) H)
 | _=>False
theorem ZbZ:CallR X (.builtin "len") ZpV:=by
 refine ((Zmv (X:=X)).or (Zkh (X:=X))).imp fun xs H Q h=>?_
 unfold ZpV at h
 split at h
 ·exact .inl ⟨_,_,rfl,⟨h.1,rfl⟩,h.2⟩
 ·rename_i p
  split at h
  ·rename_i e
   exact .inr ⟨p,_,rfl,e,h⟩
  ·obtain ⟨ys,e,h⟩:=Za9 h
   rcases ZdJ e with e | e
   ·exact .inl ⟨_,_,rfl,.inl ⟨ys,Zav e,rfl⟩,h⟩
   ·exact .inl ⟨_,_,rfl,.inr ⟨ys,ZbR e,rfl⟩,h⟩
 ·exact h.elim
end
end L2
set_option maxHeartbeats 1000000
namespace L2
open PySem PySem.Spec PyProof.Rows
def ZaV (cells:List (Str×Addr)):List (Str×NameKind)→List (Str×Addr)→List (Str×Addr)
 | [],acc=>acc
 | (n,k)::r,acc=>if (k == .free)=true then (match cells.lookup n with
   | some c=>ZaV cells r ((n,c)::acc)
   | none=>ZaV cells r acc) else ZaV cells r acc
theorem ZdF {env:Env}:∀ (names:List (Str×NameKind)) (acc:List (Str×Addr)),(∀ x∈names,x.2=.free→∃ c,env.cells.lookup x.1=some c) →
  (forIn names acc fun (x:Str×NameKind) (cs:List (Str×Addr))=>(match x with
   | (name,kind)=>if (kind == NameKind.free)=true then do let a ← cellOf env name; pure (ForInStep.yield ((name,a)::cs)) else pure (ForInStep.yield cs):Sem (ForInStep (List (Str×Addr)))))=pure (ZaV env.cells names acc)
 | [],acc,_=>rfl
 | (n,k)::r,acc,h=>by
  have ih:=fun a=>ZdF (env:=env) r a fun x hx=>h x (List.mem_cons_of_mem _ hx)
  rw [List.forIn_cons]
  by_cases hk:(k == NameKind.free)=true
  ·obtain ⟨c,hc⟩:=h (n,k) List.mem_cons_self (by simpa using hk)
   have e1:cellOf env n=pure c:=by unfold cellOf; rw [hc]
   simp only [hk,if_true,e1,ZaV,hc]
   exact ih _
  ·simp only [hk,if_false,ZaV]
   exact ih _
theorem ZfO {scope:Scope}{env:Env}(h:∀ x∈scope.names,x.2=.free→∃ c,env.cells.lookup x.1=some c):closureFor scope env=pure (ZaV env.cells scope.names []):=by
 unfold closureFor
 simp only []
 have:=ZdF (env:=env) scope.names [] h
 rw [show (forIn scope.names [] fun x r=>(match x with
   | (name,kind)=>if (kind == NameKind.free)=true then do let __do_lift ← cellOf env name; pure (ForInStep.yield ((name,__do_lift)::r)) else pure (ForInStep.yield r):Sem (ForInStep (List (Str×Addr)))))=pure (ZaV env.cells scope.names []) from this]
 rfl
theorem ZbV {cells:List (Str×Addr)}{x:Str}{c:Addr}:∀ (names:List (Str×NameKind)) (acc:List (Str×Addr)),(∀ y d,acc.lookup y=some d→cells.lookup y=some d)→(ZaV cells names acc).lookup x=some c→cells.lookup x=some c
 | [],acc,ha,h=>ha x c h
 | (n,k)::r,acc,ha,h=>by
  unfold ZaV at h
  split at h
  ·split at h
   ·rename_i d hd
    refine ZbV r _ (fun y e hy=>?_) h
    rw [List.lookup_cons] at hy
    cases hb:y == n with
    | true=>
     rw [hb] at hy
     have:y=n:=eq_of_beq hb
     subst this
     cases hy
     exact hd
    | false=>
     rw [hb] at hy
     exact ha y e hy
   ·exact ZbV r acc ha h
  ·exact ZbV r acc ha h
theorem ZcM {cells:List (Str×Addr)}{x:Str}{c:Addr}(hx:cells.lookup x=some c):∀ (names:List (Str×NameKind)) (acc:List (Str×Addr)),acc.lookup x=some c→(ZaV cells names acc).lookup x=some c
 | [],_,h=>h
 | (n,k)::r,acc,h=>by
  unfold ZaV
  split
  ·split
   ·rename_i d hd
    refine ZcM hx r _ ?_
    rw [List.lookup_cons]
    cases hb:x == n with
    | true=>
     have:x=n:=eq_of_beq hb
     subst this
     rw [hx] at hd
     cases hd
     rfl
    | false=>exact h
   ·exact ZcM hx r acc h
  ·exact ZcM hx r acc h
theorem Zb7 {cells:List (Str×Addr)}{x:Str}{c:Addr}(hx:cells.lookup x=some c):∀ (names:List (Str×NameKind)) (acc:List (Str×Addr)),names.lookup x=some .free→(ZaV cells names acc).lookup x=some c
 | [],_,h=>by simp at h
 | (n,k)::r,acc,h=>by
  rw [List.lookup_cons] at h
  unfold ZaV
  cases hb:x == n with
  | true=>
   rw [hb] at h
   cases h
   have:x=n:=eq_of_beq hb
   subst this
   rw [if_pos (show (NameKind.free == NameKind.free)=true by decide),hx]
   exact ZcM hx r _ (by rw [List.lookup_cons,beq_self_eq_true])
  | false=>
   rw [hb] at h
   split
   ·split
    ·exact Zb7 hx r _ h
    ·exact Zb7 hx r acc h
   ·exact Zb7 hx r acc h
def compOk (osc:Scope)(N own fr:List Str)(ix:List Nat)(scope:Scope):Bool:=
 scope.kind == .function && scope.names.all (fun y=>y.2 != .cell) && scope.names.all (fun y=>y.2 != .local || scope.names.lookup y.1 == some .local) &&
 scope.names.all (fun y=>y.2 != .free || osc.names.lookup y.1 == some .cell) && own.all (fun x=>scope.names.lookup x == some .local) && fr.all (fun x=>scope.names.lookup x == some .free) && decide (ix.map (fun j=>N[j]?)=fr.map some) && decide ((own++fr).Nodup) && own.all (fun x=>scope.names.all fun y=>y.2 != .free || decide (y.1≠x))
def Zc1 (X:Cx)(own fr:List Str)(scope:Scope)(C:Addr)(s:Shared)(H:Hp)(pins:List (Addr×Obj))(fp:List Addr):Cx where
 prog:=X.prog
 w:=X.w
 K:=X.K
 mg:=X.mg
 base:=X.base
 A:=X.A
 N:=own++fr
 s₀:=s
 H₀:=H
 env:=compEnvC scope (ZaV X.env.cells scope.names []) C X.env
 outer:=X.stack
 stack:=X.stack
 ex:=fp
 calm:=true
 fn:=fun x=>decide (x∈own)
 pn:=X.pn++pins
 xe:=fun _ _=>False
def σC (own:List Str)(ix:List Nat)(σ:St):St:=List.replicate own.length none++ix.map fun j=>(σ[j]?).join
theorem Zbe {env:Env}:∀ {names:List (Str×NameKind)} {x:Str} {k:NameKind},(names.map fun (n,k)=>if (k == NameKind.free && env.scope.kind == .function && env.kindOf n == some .cell) then (n,NameKind.cell) else (n,k)).lookup x=some k →
  names.lookup x=some k∨(k=.cell∧names.lookup x=some .free)
 | [],_,_,h=>by simp at h
 | (n,k')::r,x,k,h=>by
  have ih:=@Zbe env r x k
  have h:List.lookup x ((if (k' == NameKind.free && env.scope.kind == .function && env.kindOf n == some .cell)=true then (n,NameKind.cell) else (n,k'))::_)=_:=h
  by_cases hc:(k' == NameKind.free && env.scope.kind == .function && env.kindOf n == some .cell)=true
  ·rw [if_pos hc,List.lookup_cons] at h
   have hk:k'=.free:=by
    have h0:=hc
    rw [Bool.and_eq_true,Bool.and_eq_true] at h0
    have:=h0.1.1
    cases k' <;> first | rfl | cases this
   rw [List.lookup_cons]
   cases hx:x == n with
   | true=>
    rw [hx] at h
    cases h
    exact .inr ⟨rfl,by rw [hk]⟩
   | false=>
    rw [hx] at h
    exact ih h
  ·rw [if_neg hc,List.lookup_cons] at h
   rw [List.lookup_cons]
   cases hx:x == n with
   | true=>
    rw [hx] at h
    exact .inl h
   | false=>
    rw [hx] at h
    exact ih h
theorem Zbr {env:Env}:∀ {names:List (Str×NameKind)} {x:Str},names.lookup x=some .free →
  (names.map fun (n,k)=>if (k == NameKind.free && env.scope.kind == .function && env.kindOf n == some .cell) then (n,NameKind.cell) else (n,k)).lookup x=some .cell ∨
  (names.map fun (n,k)=>if (k == NameKind.free && env.scope.kind == .function && env.kindOf n == some .cell) then (n,NameKind.cell) else (n,k)).lookup x=some .free
 | [],_,h=>by simp at h
 | (n,k')::r,x,h=>by
  have ih:=@Zbr env r x
  show List.lookup x ((if (k' == NameKind.free && env.scope.kind == .function && env.kindOf n == some .cell)=true then (n,NameKind.cell) else (n,k'))::_)=_∨List.lookup x ((if (k' == NameKind.free && env.scope.kind == .function && env.kindOf n == some .cell)=true then (n,NameKind.cell) else (n,k'))::_)=_
  rw [List.lookup_cons] at h
  by_cases hc:(k' == NameKind.free && env.scope.kind == .function && env.kindOf n == some .cell)=true
  ·rw [if_pos hc]; simp only [List.lookup_cons]
   cases hx:x == n with
   | true=>exact .inl rfl
   | false=>rw [hx] at h; exact ih h
  ·rw [if_neg hc]; simp only [List.lookup_cons]
   cases hx:x == n with
   | true=>rw [hx] at h; exact .inr h
   | false=>rw [hx] at h; exact ih h
structure CompScope (osc:Scope)(N own fr:List Str)(ix:List Nat)(scope:Scope):Prop where
 kind:scope.kind=.function
 nocell:∀ y∈scope.names,y.2≠.cell
 loc:∀ y∈scope.names,y.2=.local→scope.names.lookup y.1=some .local
 free:∀ y∈scope.names,y.2=.free→osc.names.lookup y.1=some .cell
 ow:∀ x∈own,scope.names.lookup x=some .local
 fe:∀ x∈fr,scope.names.lookup x=some .free
 ic:ix.map (fun j=>N[j]?)=fr.map some
 nd:(own++fr).Nodup
 lf:∀ x∈own,∀ y∈scope.names,y.2=.free→y.1≠x
theorem compOk.of {osc:Scope}{N own fr:List Str}{ix:List Nat}{scope:Scope}(h:compOk osc N own fr ix scope=true):CompScope osc N own fr ix scope:=by
 unfold compOk at h
 simp only [Bool.and_eq_true,decide_eq_true_eq] at h
 obtain ⟨⟨⟨⟨⟨⟨⟨⟨h1,h2⟩,h3⟩,h4⟩,h5⟩,h6⟩,h7⟩,h8⟩,h9⟩:=h
 refine ⟨?_,fun y hy e=>?_,fun y hy e=>?_,fun y hy e=>?_,fun x hx=>?_,fun x hx=>?_,h7,h8,fun x hx y hy e=>?_⟩
 ·revert h1; cases scope.kind <;> first | (intro _; rfl) | (intro z; cases z)
 ·have:=List.all_eq_true.mp h2 y hy
  rw [e] at this
  exact absurd this (by decide)
 ·have:=List.all_eq_true.mp h3 y hy
  rw [e] at this
  have q:(scope.names.lookup y.1 == some NameKind.local)=true:=by simpa using this
  exact eq_of_beq q
 ·have:=List.all_eq_true.mp h4 y hy
  rw [e] at this
  have q:(osc.names.lookup y.1 == some NameKind.cell)=true:=by simpa using this
  exact eq_of_beq q
 ·exact eq_of_beq (List.all_eq_true.mp h5 x hx)
 ·exact eq_of_beq (List.all_eq_true.mp h6 x hx)
 ·have:=List.all_eq_true.mp (List.all_eq_true.mp h9 x hx) y hy
  rw [e] at this
  simpa using this
section
variable {X:Cx} {pins:List (Addr×Obj)} {σ:St} {H H':Hp} {s:Shared} {own fr:List Str} {ix:List Nat} {scope:Scope} {fp:List Addr} {osc:Scope} {N:List Str}
theorem Inv.cellAt (I:Inv X pins σ H s){x:Str}(h:X.env.scope.names.lookup x=some .cell):∃ c,X.env.cells.lookup x=some c:=I.ok.has x (.inl h)
theorem Zn7 (I:Inv X pins σ H s)(S:CompScope X.env.scope X.N own fr ix scope)(hc:X.calm=true)(hf:∀ b∈fp,Zio X pins H b)(hx:∀ b∈fp,b<s.heap.objs.size) :
  (Zc1 X own fr scope s.heap.objs.size s H pins fp).Ok:=by
 have sub:∀ x c,(ZaV X.env.cells scope.names []).lookup x=some c→X.env.cells.lookup x=some c:=fun x c h=>ZbV scope.names [] (fun y d q=>by simp at q) h
 have frees:∀ x,scope.names.lookup x=some .free→∃ c,(ZaV X.env.cells scope.names []).lookup x=some c:=fun x h=>by
  obtain ⟨c,hc'⟩:=I.cellAt (S.free (x,.free) (PySem.mem_of_lookup h) rfl)
  exact ⟨c,Zb7 hc' scope.names [] h⟩
 refine ⟨I.ok.mod,S.kind,I.ok.glob,I.ok.blt,Nat.le_refl _,fun x y c h1 h2=>I.ok.inj x y c (sub x c h1) (sub y c h2),fun x hx'=>?_,fun x c h1 h2=>?_,fun _=>I.ok.hd hc,I.ok.frames,.inl rfl,fun b hb=>?_,I.bs,Nat.le_trans I.ok.bsz I.sz,fun b o e hb=>?_,fun b hb hs=>?_,I.stack,I.stkFree⟩
 ·have hx':(relabel scope X.env).names.lookup x=some .cell∨(relabel scope X.env).names.lookup x=some .free:=hx'
  rcases hx' with h | h
  ·rcases Zbe h with q | ⟨_,q⟩
   ·exact absurd rfl (S.nocell (x,.cell) (PySem.mem_of_lookup q))
   ·exact frees x q
  ·rcases Zbe h with q | ⟨z,_⟩
   ·exact frees x q
   ·cases z
 ·exfalso
  have h1:x∈own:=of_decide_eq_true h1
  have h3:=S.ow x h1
  have:∀ (names:List (Str×NameKind)) (acc:List (Str×Addr)),acc.lookup x=none→(∀ y∈names,y.2=.free→y.1≠x)→(ZaV X.env.cells names acc).lookup x=none:=by
   intro names
   induction names with
   | nil=>intro acc ha _; exact ha
   | cons y r ih=>
    intro acc ha hn
    obtain ⟨n,k⟩:=y
    unfold ZaV
    split
    ·rename_i hk
     have hk:k=.free:=by cases k <;> first | rfl | cases hk
     split
     ·refine ih _ ?_ fun z hz=>hn z (List.mem_cons_of_mem _ hz)
      rw [List.lookup_cons]
      have:(x == n)=false:=by
       have:=hn (n,k) List.mem_cons_self hk
       exact beq_eq_false_iff_ne.mpr fun z=>this z.symm
      rw [this]
      exact ha
     ·exact ih _ ha fun z hz=>hn z (List.mem_cons_of_mem _ hz)
    ·exact ih _ ha fun z hz=>hn z (List.mem_cons_of_mem _ hz)
  by_cases hm:∃ y∈scope.names,y.2=.free∧y.1=x
  ·obtain ⟨y,hy,e1,e2⟩:=hm
   exact S.lf x h1 y hy e1 e2
  ·have h5:=this scope.names [] (by simp) (fun y hy e z=>hm ⟨y,hy,e,z⟩)
   have h2:(ZaV X.env.cells scope.names []).lookup x=some c:=h2
   rw [h5] at h2
   cases h2
 ·refine ⟨Nat.ne_of_lt (hx b hb),fun x c h z=>?_⟩
  exact (hf b hb).2.2.2.2.1 x c (sub x c h) z
 ·rcases (hf b hb).2.2.2.1 with z | z
  ·exact I.ok.noex b o e z
  ·exact absurd (Nat.lt_of_lt_of_le (Heap.lt_size e) (Nat.le_trans I.ok.bsz z)) (Nat.lt_irrefl _)
 ·obtain ⟨_,h1,h2,_⟩:=hf b hb
  rcases List.mem_cons.mp (I.stkSub b hs) with z | z
  ·exact h1 z
  ·exact h2 z
theorem Zjt (I:Inv X pins σ H s)(S:CompScope X.env.scope X.N own fr ix scope)(hc:X.calm=true)(hf:∀ b∈fp,Zio X pins H b)(hx:∀ b∈fp,b<s.heap.objs.size){h1:Heap}{tk:Nat}{m:Str→Option Value}
  (hns:h1.Ns s.heap.objs.size m) (hk:∀ b o,s.heap.get? b=some o→h1.get? b=some o) :
  Inv (Zc1 X own fr scope s.heap.objs.size s H pins fp) [] (σC own ix σ) H { s with heap:=h1,toks:=tk }:=by
 have sub:∀ x c,(ZaV X.env.cells scope.names []).lookup x=some c→X.env.cells.lookup x=some c:=fun x c h=>ZbV scope.names [] (fun y d q=>by simp at q) h
 have hl:ix.length=fr.length:=by
  have:=congrArg List.length S.ic
  simpa using this
 refine ⟨Zn7 I S hc hf hx,rfl,I.bare,Un.kept hk,⟨m,hns,fun i x v h1' h2 h3=>?_⟩,fun x c h=>?_,I.hok.fresh (Nat.le_refl _),fun x c h=>I.freeC x c (sub x c h),fun p hp=>?_,I.hok.kept hk,?_⟩
 ·have h1':(own++fr)[i]? = some x:=h1'
  have hi:own.length≤i:=by
   by_cases z:i<own.length
   ·unfold σC at h2
    rw [List.getElem?_append_left (by simpa using z),List.getElem?_replicate] at h2
    split at h2 <;> cases h2
   ·omega
  unfold σC at h2
  rw [List.getElem?_append_right (by simpa using hi),List.length_replicate,List.getElem?_map] at h2
  rw [List.getElem?_append_right hi] at h1'
  cases e:ix[i - own.length]? with
  | none=>rw [e] at h2; cases h2
  | some j=>
   rw [e] at h2
   have h2:(σ[j]?).join=some v:=Option.some.inj h2
   have e2:σ[j]? = some (some v):=by
    cases q:σ[j]? with
    | none=>rw [q] at h2; cases h2
    | some o=>rw [q] at h2; exact congrArg some h2
   have e3:X.N[j]? = some x:=by
    have q:=congrArg (fun l=>l[i - own.length]?) S.ic
    simp only [List.getElem?_map,e,h1'] at q
    simpa using q
   have hfr:=S.fe x (List.mem_of_getElem? h1')
   have ho:=S.free (x,.free) (PySem.mem_of_lookup hfr) rfl
   obtain ⟨m0,_,hl0⟩:=I.loc
   obtain ⟨u,r,l⟩:=hl0 j x v e3 e2 (.inr (.inl ho))
   refine ⟨u,r,.inr ⟨?_,?_⟩⟩
   ·exact Zbr hfr
   ·rcases l with ⟨k,_⟩ | ⟨_,c,hcl,hcell⟩
    ·have k:X.env.scope.names.lookup x=some .local:=k
     rw [ho] at k; cases k
    ·refine ⟨c,Zb7 hcl scope.names [] hfr,?_⟩
     obtain ⟨o,q1,q2⟩:=hcell
     exact ⟨o,hk c o q1,q2⟩
 ·obtain ⟨v,o,q1,q2⟩:=I.cell x c (sub x c h)
  exact ⟨v,o,hk c o q1,q2⟩
 ·have hp:p∈(X.pn++pins)++[]:=hp
  rw [List.append_nil] at hp
  obtain ⟨e,n,ne,nf,d⟩:=I.pin p hp
  refine ⟨hk _ _ e,n,Nat.ne_of_lt (Heap.lt_size e),fun z=>?_,d⟩
  rcases List.mem_cons.mp (I.stkSub p.1 z) with q | q
  ·exact ne q
  ·exact nf q
 ·show (σC own ix σ).length=(own++fr).length
  unfold σC
  simp [hl]
theorem Zg4 (I:Inv X pins σ H s){pins':List (Addr×Obj)}{σ':St}{s':Shared}(J:Inv (Zc1 X own fr scope s.heap.objs.size s H pins fp) pins' σ' H' s')(hf:∀ b∈fp,Zio X pins H b):Inv X pins σ H' s':=
 I.call' (ch:=fp) J.os J.base J.hok J.bare fun b hb=>⟨(hf b hb).2.2.2.1,(hf b hb).2.1,(hf b hb).2.2.2.2.1,(hf b hb).2.2.2.2.2⟩
theorem ZjP (I:Inv X pins σ H s){pins':List (Addr×Obj)}{σ':St}{s':Shared}(J:Inv (Zc1 X own fr scope s.heap.objs.size s H pins fp) pins' σ' H' s')(hf:∀ b∈fp,Zio X pins H b){h':Heap}(hs:Heap.SameBut s.heap.objs.size s'.heap h') :
  Inv X pins σ H' { s' with heap:=h' }:=by
 have I':=Zg4 I J hf
 have f:=I.fpOk (H':=H') (Nat.le_refl _) J.free
 exact I'.turned (t':=s'.toks) (it:=s.heap.objs.size) (fun b o hb e=>hs.extBut b o hb e) f.1 f.2.1 f.2.2.2.1 f.2.2.2.2.1 f.2.2.2.2.2
end
end L2
namespace L2
open PySem PySem.Spec PyProof.Rows
def leS:St→St→Prop
 | [],[]=>True
 | none::a,_::b=>leS a b
 | some x::a,y::b=>y=some x∧leS a b
 | _,_=>False
theorem leS.len:∀ {a b:St},leS a b→a.length=b.length
 | [],[],_=>rfl
 | none::a,_::b,h=>by have:=leS.len (a:=a) (b:=b) h; simp [this]
 | some x::a,y::b,h=>by have:=leS.len (a:=a) (b:=b) h.2; simp [this]
 | [],_::_,h=>h.elim
 | none::_,[],h=>h.elim
 | some _::_,[],h=>h.elim
theorem leS.get:∀ {a b:St} {i:Nat} {v:V},leS a b→a[i]? = some (some v)→b[i]? = some (some v)
 | [],[],_,_,_,e=>by simp at e
 | none::a,_::b,0,_,_,e=>by simp at e
 | none::a,_::b,i+1,v,h,e=>by
  have:=leS.get (a:=a) (b:=b) (i:=i) (v:=v) h (by simpa using e)
  simpa using this
 | some x::a,y::b,0,v,h,e=>by
  simp at e; subst e
  simpa using h.1
 | some x::a,y::b,i+1,v,h,e=>by
  have:=leS.get (a:=a) (b:=b) (i:=i) (v:=v) h.2 (by simpa using e)
  simpa using this
 | [],_::_,_,_,h,_=>h.elim
 | none::_,[],_,_,h,_=>h.elim
 | some _::_,[],_,_,h,_=>h.elim
section
variable {X:Cx} {pins:List (Addr×Obj)} {σ σ':St} {H:Hp} {s:Shared}
theorem Inv.less (I:Inv X pins σ' H s)(h:leS σ σ'):Inv X pins σ H s:=I.weak h.len fun _ _ e=>h.get e
def PCs (X:Cx)(ifs:List Expr)(t:TT):Prop:=
 ∀ (pins:List (Addr×Obj)) (s:Shared) (σ:St) (H:Hp) (Q:Bool→Hp→Prop),Inv X pins σ H s→t σ H Q →
  wpAny (model X.prog X.w) X.A (forIn ifs true fun c r=>if r=true then do let ok ← isTrue c X.env (eval c X.env); pure (ForInStep.yield ok) else pure (ForInStep.yield r)) (TP X pins σ Q) X.xe s
def Zt3:TT:=fun _ H Q=>Q true H
theorem Zln:PCs X [] Zt3:=fun pins s σ H Q I h=>wpAny_pure ⟨H,I,h⟩
theorem ZiF {env:Env}:∀ (ifs:List Expr),(forIn ifs false fun c r=>if r=true then do let ok ← isTrue c env (eval c env); pure (ForInStep.yield ok) else pure (ForInStep.yield r):Sem Bool)=pure false
 | []=>rfl
 | c::r=>by
  rw [List.forIn_cons]
  simp only [Bool.false_eq_true,if_false]
  exact ZiF r
theorem ZmO {c:Expr}{r:List Expr}{t u:TT}(h:PT X c t)(h':PCs X r u):PCs X (c::r) (Zta t u):=by
 intro pins s σ H Q I q
 rw [List.forIn_cons]
 simp only [if_true]
 refine wpAny_bind (wpAny_bind (thn (h pins s σ H _ I q) fun b s1 ⟨H1,I1,q1⟩=>wpAny_pure ?_))
 cases b with
 | true=>
  rw [if_pos rfl] at q1
  exact h' pins s1 σ H1 Q I1 q1
 | false=>
  rw [if_neg (by simp)] at q1
  show wpAny _ _ (forIn r false _) _ _ _
  rw [ZiF]
  exact wpAny_pure ⟨H1,I1,q1⟩
end
theorem ZjD {prog:Program}{w:World}{A:Around}{R:Result→Shared→Prop}{s:Shared}{elt target iter:Expr}{ifs:List Expr}{scope:Scope}{pos:Pos}{it acc:Value}{env:Env}(I:Nat→Shared→Prop)
  (turn:∀ n s,I n s→wpAny (model prog w) A (pyNext it) (fun r s₁=>match r with
   | none=>R (.ok .next) s₁
   | some v=>wpAny (model prog w) A (letOwnedTupleGo target it v) (fun _ s₁'=>wpAny (model prog w) A (assign target env v) (fun _ s₂=>
     wpAny (model prog w) A (forIn ifs true fun c r=>if r=true then do let ok ← isTrue c env (eval c env); pure (ForInStep.yield ok) else pure (ForInStep.yield r)) (fun ok s₃=>
      if ok=true then wpAny (model prog w) A (eval elt env) (fun x s₄=>
       wpAny (model prog w) A (call (.builtin "list.append") [acc,x]) (fun _ s₅=>∃ m,m<n∧I m s₅) (fun _ _=>False) s₄) (fun _ _=>False) s₃
      else ∃ m,m<n∧I m s₃) (fun _ _=>False) s₂) (fun _ _=>False) s₁') (fun _ _=>False) s₁) (fun _ _=>False) s)
  (n:Nat) (h:I n s):codeAny (model prog w) A (.compLoop (.ListComp elt [⟨target,iter,ifs,0⟩] scope pos) 0 it acc env) R s:=by
 have mo:∀ {α:Type} {t:Sem α} {Q:α→Shared→Prop} {E:Value→Shared→Prop} {s:Shared},wpAny (model prog w) A t Q (fun _ _=>False) s→wpAny (model prog w) A t Q E s:=fun h=>wpAny_mono h (fun _ _ q=>q) fun _ _ z=>z.elim
 refine codeAny_loop rfl I (fun n s hI=>?_) n h
 show wpAny _ A ((compTurn (.ListComp elt [⟨target,iter,ifs,0⟩] scope pos) 0 it acc env).onRaise (fun x=>do noteFrame x env; theTreesLotGoes x)) _ _ s
 refine wpAny_noted ?_
 rw [compTurn_list]
 refine wpAny_bind (wpAny_standAt (wpAny_bind (mo (thn (turn n s hI) fun r s₁ h₁=>?_))))
 cases r with
 | none=>exact wpAny_pure h₁
 | some v=>
  refine wpAny_bind (mo (thn h₁ fun _ s₁' h₁'=>wpAny_bind (mo (thn h₁' fun _ s₂ h₂=>wpAny_bind (mo (thn h₂ fun ok s₃ h₃=>?_))))))
  cases ok with
  | false=>exact wpAny_pure ⟨rfl,h₃⟩
  | true=>exact wpAny_bind (wpAny_bind (mo (thn h₃ fun x s₄ h₄=>wpAny_bind (mo (thn h₄ fun _ s₅ h₅=>wpAny_pure (wpAny_pure ⟨rfl,h₅⟩))))))
def Zhn (J:It)(σ0:St)(acc:Addr)(g:TG)(tt:TT)(te:TE)(Q:Hp→Prop)(H:Hp):Prop:=
 ∃ W:Nat→Nat→Hp→Prop,(∃ m,W 0 m H)∧∀ i m H,W i m H→(J.stop i H∧Q H) ∨
  (J.go i H∧∀ x H',J.yld i H x H'→g x σ0 H' fun σ2 H2=>leS σ0 σ2∧tt σ2 H2 fun b H3=>if b=true then te σ2 H3 fun y H4=>∃ ys,H4 acc=some (.lst ys)∧ys.length<sizeLine∧∃ m',m'<m∧W (i+1) m' (upd H4 acc (.lst (ys++[y])))
   else ∃ m',m'<m∧W (i+1) m' H3)
def ZsM (own:List Str)(ix:List Nat)(wi:TI)(g:TG)(tt:TT)(te:TE):TE:=fun σ H Q=>wi σ H fun J H1=>∀ acc,H1 acc=none→Zhn J (σC own ix σ) acc g tt te (fun H2=>Q (.ref acc) H2) (upd H1 acc (.lst []))
def Zsr (own:List Str)(ix:List Nat)(i:Nat)(wi:TI)(g:TG)(tt:TT)(te:TE):TS:=fun D σ H=>wi σ H fun J H1=>∀ acc,H1 acc=none→Zhn J (σC own ix σ) acc g tt te (fun H2=>D.nx (σ.set i (some (.ref acc))) H2) (upd H1 acc (.lst []))
abbrev InC (X:Cx)(own fr:List Str)(scope:Scope)(p:Cx→Prop):Prop:=∀ (C:Addr) (s:Shared) (H:Hp) (pins:List (Addr×Obj)) (fp:List Addr),p (Zc1 X own fr scope C s H pins fp)
section
variable {X:Cx} {osc:Scope} {N own fr:List Str} {ix:List Nat} {scope:Scope} {tg iter elt:Expr} {ifs:List Expr} {pos:Pos} {wi:TI} {g:TG} {tt:TT} {te:TE}
theorem ZfH {pins:List (Addr×Obj)}{s:Shared}{σ:St}{H:Hp}{it:Addr}{fp:List Addr}{tn:Nat→Heap→Prop}{J:It}{E:Value→Shared→Prop}{Qf:Addr→Hp→Prop}(S:CompScope X.env.scope X.N own fr ix scope)(hc:X.calm=true)
  (hg:InC X own fr scope fun Y=>PG Y tg g) (ht:InC X own fr scope fun Y=>PCs Y ifs tt) (he:InC X own fr scope fun Y=>PE Y elt te)
  (I:Inv X pins σ H s) (T:Turn X.prog X.w X.K tg J fp it tn) (st:tn 0 s.heap) (hf:∀ b∈fp,Zio X pins H b) (h:∀ acc,H acc=none→Zhn J (σC own ix σ) acc g tt te (Qf acc) (upd H acc (.lst [])))
  {RR:Value→Addr→Result→Shared→Prop}
  (hR:∀ (acc C:Addr) (s₃:Shared) (H₃ H':Hp) (fp':List Addr) (s':Shared),C=s₃.heap.objs.size→s₃.os=s.os→Inv X pins σ H₃ s₃→(∀ b∈fp',Zio X pins H₃ b)→Inv (Zc1 X own fr scope C s₃ H₃ pins fp') [] (σC own ix σ) H' s'→Qf acc H'→(∃ m,s'.heap.Ns C m)→RR (.ref acc) C (.ok .next) s') :
  wpAny (model X.prog X.w) X.A (newList []) (fun acc s₃=>wpAny (model X.prog X.w) X.A (newFunctionEnv scope X.env.globals (ZaV X.env.cells scope.names []) [] X.env.qual none .none (some X.env)) (fun cenv s₄=>
   codeAny (model X.prog X.w) X.A (.compStart (.ListComp elt [⟨tg,iter,ifs,0⟩] scope pos) 0 (.ref it) acc { cenv with scope:=relabel scope X.env }) (RR acc cenv.locals) s₄) E s₃) E s:=by
 refine wpAny_newObj_type (wpAny_newFunctionEnv S.nocell (by intro y hy; simp at hy) (fun h₁ hns₁ hsb₁=>?_) S.kind)
 dsimp only at hns₁ hsb₁ ⊢
 have hfree:H s.heap.objs.size=none:=I.fresh
 have I3:Inv X pins σ (upd H s.heap.objs.size (.lst [])) { s with heap:=s.heap.push { cls:=.type "list",dict:=none,data:=.seq ([]:List Value).toArray },toks:=s.toks }:=
  I.lnew (its:=[]) (t':=s.toks) .nil (Nat.zero_le _)
 generalize hs3:({ s with heap:=s.heap.push { cls:=.type "list",dict:=none,data:=.seq ([]:List Value).toArray },toks:=s.toks }:Shared)=s3 at I3
 have eh:s.heap.push { cls:=.type "list",dict:=none,data:=.seq ([]:List Value).toArray }=s3.heap:=by rw [← hs3]
 have eo:s3.os=s.os:=by rw [← hs3]
 have es:({ s with heap:=h₁,toks:=s.toks+([]:List (Str×Value)).length }:Shared) = { s3 with heap:=h₁,toks:=s.toks }:=by rw [← hs3]; rfl
 rw [eh] at hns₁ hsb₁ ⊢
 have ek:∀ b o,s.heap.get? b=some o→s3.heap.get? b=some o:=fun b o e=>by rw [← eh]; exact Heap.get?_push_of_some _ e
 have hk1:∀ b o,s3.heap.get? b=some o→h₁.get? b=some o:=fun b o e=>hsb₁.extBut b o (Nat.ne_of_lt (Heap.lt_size e)) (Heap.get?_push_of_some _ e)
 have hobj:∀ b∈fp,∃ o,s.heap.get? b=some o∧∀ v,o.data≠.cell v:=T.obj 0 _ st
 have hx:∀ b∈fp,b<s3.heap.objs.size:=fun b hb=>by
  obtain ⟨o,e,_⟩:=hobj b hb
  exact Heap.lt_size (ek b o e)
 have hf3:∀ b∈fp,Zio X pins (upd H s.heap.objs.size (.lst [])) b:=fun b hb=>by
  obtain ⟨o,e,_⟩:=hobj b hb
  refine ⟨?_,(hf b hb).2⟩
  rw [Zak (Nat.ne_of_lt (Heap.lt_size e))]
  exact (hf b hb).1
 have st3:tn 0 h₁:=T.keep 0 _ _ st fun b hb o e=>hk1 b o (ek b o e)
 have J0:=Zjt (tk:=s.toks) I3 S hc hf3 hx hns₁ hk1
 generalize hY:Zc1 X own fr scope s3.heap.objs.size s3 (upd H s.heap.objs.size (.lst [])) pins fp=Y at J0
 have hgY:PG Y tg g:=hY ▸ hg _ _ _ _ _
 have htY:PCs Y ifs tt:=hY ▸ ht _ _ _ _ _
 have heY:PE Y elt te:=hY ▸ he _ _ _ _ _
 have y1:Y.prog=X.prog:=by rw [← hY]; rfl
 have y2:Y.w=X.w:=by rw [← hY]; rfl
 have y3:Y.K=X.K:=by rw [← hY]; rfl
 have y4:Y.calm=true:=by rw [← hY]; rfl
 have y5:Y.A=X.A:=by rw [← hY]; rfl
 have y6:Y.env=compEnvC scope (ZaV X.env.cells scope.names []) s3.heap.objs.size X.env:=by rw [← hY]; rfl
 have y7:Y.xe=fun _ _=>False:=by rw [← hY]; rfl
 have hloc:Y.env.locals=s3.heap.objs.size:=by rw [y6]; rfl
 have stat:∀ {H':Hp},(∀ b∈fp,H' b=none)→∀ b∈fp,Zio Y [] H' b:=fun hn b hb=>by
  refine ⟨hn b hb,by rw [hloc]; exact Nat.ne_of_lt (hx b hb),?_,?_,?_,?_⟩
  ·rw [← hY]
   intro z
   rcases List.mem_cons.mp (I.stkSub b z) with q | q
   ·exact (hf b hb).2.1 q
   ·exact (hf b hb).2.2.1 q
  ·rw [← hY]; exact .inl hb
  ·rw [y6]
   intro x c e
   exact (hf b hb).2.2.2.2.1 x c (ZbV scope.names [] (fun y d q=>by simp at q) e)
  ·rw [← hY]
   intro p hp
   have hp:p∈(X.pn++pins)++[]:=hp
   rw [List.append_nil] at hp
   exact (hf b hb).2.2.2.2.2 p hp
 obtain ⟨W,⟨m0,w0⟩,turn⟩:=h s.heap.objs.size hfree
 have loop:codeAny (model X.prog X.w) X.A (.compLoop (.ListComp elt [⟨tg,iter,ifs,0⟩] scope pos) 0 (.ref it) (.ref s.heap.objs.size) (compEnvC scope (ZaV X.env.cells scope.names []) s3.heap.objs.size X.env)) (RR (.ref s.heap.objs.size) s3.heap.objs.size) { s3 with heap:=h₁,toks:=s.toks }:=by
  refine ZjD (fun n s'=>∃ i H',Inv Y [] (σC own ix σ) H' s'∧tn i s'.heap∧(∀ b∈fp,H' b=none)∧W i n H') ?_ m0 ⟨0,_,J0,st3,fun b hb=>(hf3 b hb).1,w0⟩
  rintro n s4 ⟨i,H4,I4,st4,fr4,w4⟩
  rcases turn i n H4 w4 with ⟨stop,qn⟩ | ⟨go,step⟩
  ·have e0:=T.done Y y1 y2 y3 y4 i [] s4 _ H4 (fun _ _=>False) I4 (stat fr4) st4 stop
   rw [y5] at e0
   refine thn e0 fun r s5 ⟨hr,I5⟩=>?_
   subst hr
   have ns5:∃ m,s5.heap.Ns s3.heap.objs.size m:=by
    obtain ⟨m,hm,_⟩:=I5.loc
    rw [hloc] at hm
    exact ⟨m,hm⟩
   exact hR s.heap.objs.size s3.heap.objs.size s3 _ H4 fp s5 rfl eo I3 hf3 (by rw [hY]; exact I5) qn ns5
  ·have e0:=T.item Y y1 y2 y3 y4 i [] s4 _ H4 (fun _ _=>False) I4 (stat fr4) st4 go
   rw [y5] at e0
   refine thn e0 fun r s5 ⟨u,hr,h5⟩=>?_
   subst hr
   refine thn h5 fun _ s6 ⟨x,H6,I6,r6,y6',st6,fr6⟩=>?_
   have I6':=I6.pinned (stat fr6) (T.obj _ _ st6)
   have e1:=hgY _ s6 _ H6 x u _ I6' r6 (step x H6 y6')
   rw [y7,y6,y5,y2,y1] at e1
   refine thn e1 fun _ s7 ⟨σ7,H7,I7,le7,q7⟩=>?_
   have e2:=htY _ s7 σ7 H7 _ I7 q7
   rw [y7,y6,y5,y2,y1] at e2
   refine thn e2 fun b s8 ⟨H8,I8,q8⟩=>?_
   have again:∀ {m':Nat} {H9:Hp} {s9:Shared},Inv Y (([]:List (Addr×Obj))++ZgP fp s6.heap) σ7 H9 s9→m'<n→W (i+1) m' H9→∃ m,m<n∧∃ i H',Inv Y [] (σC own ix σ) H' s9∧tn i s9.heap∧(∀ b∈fp,H' b=none)∧W i m H':=fun {m' H9 s9} I9 hm w9=>by
    refine ⟨m',hm,i+1,H9,(I9.less le7).unpinned,T.keep _ _ _ st6 fun b hb o e=>(I9.pin (b,o) (List.mem_append_right _ (List.mem_append_right _ (ZcT hb e)))).1,fun b hb=>?_,w9⟩
    obtain ⟨o,e,d⟩:=T.obj _ _ st6 b hb
    exact (I9.pin (b,o) (List.mem_append_right _ (List.mem_append_right _ (ZcT hb e)))).2.1
   cases b with
   | false=>
    rw [if_neg (by simp)] at q8 ⊢
    obtain ⟨m',hm,w9⟩:=q8
    exact again I8 hm w9
   | true=>
    rw [if_pos rfl] at q8 ⊢
    have e3:=heY _ s8 σ7 H8 _ I8 q8
    rw [y7,y6,y5,y2,y1] at e3
    refine thn e3 fun v s9 ⟨y,H9,I9,r9,ys,ha,hz,m',hm,w9⟩=>?_
    have e4:=ZgN (X:=Y) _ s9 σ7 H9 (.ref s.heap.objs.size) [y] (.ref s.heap.objs.size) [v] (fun v' H'=>v'=.non∧H'=upd H9 s.heap.objs.size (.lst (ys++[y]))) I9 rfl (.cons r9 .nil) ⟨_,ys,y,rfl,rfl,ha,hz,rfl,rfl⟩
    rw [y7,y5,y2,y1] at e4
    refine thn e4 fun v' s10 ⟨v'',H10,I10,r10,_,eH⟩=>?_
    subst eH
    exact again I10 hm w9
 rw [es]
 exact codeAny_compStart_list loop (T.self X.A 0 _ _ _ st3 loop)
theorem ZjC (hc:X.calm=true)(ho:X.env.scope=osc)(hN:X.N=N)(hk:compOk osc N own fr ix scope=true)(hi:PI X tg iter wi)
  (hg:InC X own fr scope fun Y=>PG Y tg g) (ht:InC X own fr scope fun Y=>PCs Y ifs tt) (he:InC X own fr scope fun Y=>PE Y elt te) (hs:∀ x,foldedSetIterable iter X.env x=pure x:=by intro _; rfl) :
  PE X (.ListComp elt [⟨tg,iter,ifs,0⟩] scope pos) (ZsM own ix wi g tt te):=by
 subst ho hN
 have S:=compOk.of hk
 intro pins s σ H Q I h
 rw [eval_ListComp]
 have hclos:closureFor scope X.env=pure (ZaV X.env.cells scope.names []):=ZfO fun x hx e=>I.cellAt (S.free x hx e)
 refine wpAny_comprehension_free (use:=none) rfl hs hclos S.kind S.loc (thn (hi pins s σ H _ I h) fun v s1 h1=>thn h1 fun itv s2 h2=>?_)
 obtain ⟨it,fp,tn,J,H2,e,I2,T,st2,f2,q⟩:=h2
 subst e
 refine ZfH (Qf:=fun acc H'=>Q (.ref acc) H') (RR:=fun acc C=>compPost (model X.prog X.w) X.A X.xe none (EP X pins σ Q) acc C) S hc hg ht he I2 T st2 f2 q ?_
 intro acc C s3 H3 H' fp' s' eC _ I3 hf3 J' q' ⟨m,hm⟩
 subst eC
 exact ⟨m,hm,fun h' hs'=>⟨.ref acc,H',ZjP I3 J' hf3 hs',rfl,q'⟩⟩
theorem ZoQ {i:Nat}{x:Str}{px spos:Pos}(hnd:X.N.Nodup)(hi':X.N[i]? = some x)(hl:X.env.scope.names.lookup x=some .local)(hc:X.calm=true)(ho:X.env.scope=osc)(hN:X.N=N)(hk:compOk osc N own fr ix scope=true)(hi:PI X tg iter wi)
  (hg:InC X own fr scope fun Y=>PG Y tg g) (ht:InC X own fr scope fun Y=>PCs Y ifs tt) (he:InC X own fr scope fun Y=>PE Y elt te) (hs:∀ x,foldedSetIterable iter X.env x=pure x:=by intro _; rfl)
  (hsw:swapsWith (.ListComp elt [⟨tg,iter,ifs,0⟩] scope pos) (some (.Name x px)) spos.line X.env=pure true:=by rfl) :
  PS X (.Assign [.Name x px] (.ListComp elt [⟨tg,iter,ifs,0⟩] scope pos) spos) (Zsr own ix i wi g tt te):=by
 subst ho hN
 have S:=compOk.of hk
 intro pins s σ H D I h
 rw [exec_Assign_Name_used _ _ _ _ hsw]
 refine wpAny_bind (wpAny_standAt (wpAny_bind ?_))
 show wpAny _ X.A (do let _ ← comprehension (.ListComp elt [⟨tg,iter,ifs,0⟩] scope pos) scope X.env _ (newList []) false (eval iter X.env) (some (assign (.Name x px) X.env))) _ _ s
 have hclos:closureFor scope X.env=pure (ZaV X.env.cells scope.names []):=ZfO fun x hx e=>I.cellAt (S.free x hx e)
 refine wpAny_bind (wpAny_mono (wpAny_comprehension_free (use:=some (assign (.Name x px) X.env)) (Q:=fun _ s'=>SP X pins D .next s') rfl hs hclos S.kind S.loc (thn (hi pins s σ H _ I h) fun v s1 h1=>thn h1 fun itv s2 h2=>?_)) (fun _ s' hq=>wpAny_pure (wpAny_pure hq)) fun _ _ e=>e)
 obtain ⟨it,fp,tn,J,H2,e,I2,T,st2,f2,q⟩:=h2
 subst e
 refine ZfH (Qf:=fun acc H'=>D.nx (σ.set i (some (.ref acc))) H') (RR:=fun acc C=>compPost (model X.prog X.w) X.A X.xe (some (assign (.Name x px) X.env)) (fun _ s'=>SP X pins D .next s') acc C) S hc hg ht he I2 T st2 f2 q ?_
 intro acc C s3 H3 H' fp' s' eC _ I3 hf3 J' q' ⟨m,hm⟩
 subst eC
 have I':=Zg4 I3 J' hf3
 have f:=I3.fpOk (H':=H') (Nat.le_refl _) J'.free
 obtain ⟨oC,es,ep,hoC,hdC,r⟩:=id hm
 have IP:Inv X (pins++[(s3.heap.objs.size,oC)]) σ H' s':=I'.pins_of fun p hp=>by
  rcases List.mem_append.mp hp with z | z
  ·exact I'.pin p (List.mem_append_right _ z)
  ·have e:p=(s3.heap.objs.size,oC):=by simpa using z
   subst e
   exact ⟨hoC,f.1,f.2.1,f.2.2.1,fun v z=>by have z:oC.data=.cell v:=z; rw [hdC] at z; cases z⟩
 show wpAny _ X.A (assign (.Name x px) X.env (.ref acc)) _ _ _
 refine wpAny_assign_Name (ZeC IP hnd hi' (.inl hl) (v:=.ref acc) rfl (fun s'' I''=>?_) (.inr hl))
 have kC:=(I''.pin (s3.heap.objs.size,oC) (List.mem_append_right _ (List.mem_append_right _ (by simp)))).1
 refine ⟨m,⟨oC,es,ep,kC,hdC,r⟩,fun h' hs'=>?_⟩
 have I5:Inv X pins (σ.set i (some (.ref acc))) H' s'':=I''.unpinned
 exact ⟨_,H',I5.turned (t':=s''.toks) (it:=s3.heap.objs.size) (fun b o hb e=>hs'.extBut b o hb e) f.1 f.2.1 f.2.2.2.1 f.2.2.2.2.1 f.2.2.2.2.2,q'⟩
theorem Zsg (i:Nat){x:Str}{p:Pos}{C:Addr}{s:Shared}{H:Hp}{pins:List (Addr×Obj)}{fp:List Addr}(hnd:(own++fr).Nodup)(hi:(own++fr)[i]? = some x)(hx:x∈own)(hl:scope.names.lookup x=some .local):PG (Zc1 X own fr scope C s H pins fp) (.Name x p) (Zjp i):=
 ZkM (X:=Zc1 X own fr scope C s H pins fp) hnd hi (.inl (lookup_relabel_local hl)) (.inl (decide_eq_true hx))
end
end L2
namespace L2
open PySem PySem.Spec PyProof.Rows
theorem Zcw {α:Type}{l:List α}{i:Int}(h0:0≤i):atI l i=l[i.toNat]?:=by
 unfold atI ixN
 rw [if_pos h0]
 by_cases h:i<l.length
 ·rw [if_pos h]; rfl
 ·rw [if_neg h]
  have:l.length≤i.toNat:=by omega
  simp [List.getElem?_eq_none this]
theorem Zs0 {α:Type}{a:α}{l:List α}:atI (a::l) 0=some a:=by rw [Zcw (by decide)]; rfl
theorem ZsK {α:Type}{a b:α}{l:List α}:atI (a::b::l) 1=some b:=by rw [Zcw (by decide)]; rfl
theorem Zuo {α:Type}{a b c:α}{l:List α}:atI (a::b::c::l) 2=some c:=by rw [Zcw (by decide)]; rfl
theorem Zug {α:Type}{a b c d:α}{l:List α}:atI (a::b::c::d::l) 3=some d:=by rw [Zcw (by decide)]; rfl
theorem Zjw {H:Hp}{a:Addr}{xs:List V}(h:H a=some (.lst xs)):ZbD H a=some xs:=by unfold ZbD; rw [h]
theorem Ze2 {H:Hp}{a:Addr}{xs:List V}(h:H a=some (.tup xs)):ZbD H a=some xs:=by unfold ZbD; rw [h]
end L2
namespace L2
open PySem PySem.Spec PyProof.Rows
def Zhq (f:V→V→Option Bool):List V→List V→Option Bool
 | x::xs,y::ys=>match f x y,Zhq f xs ys with
  | some a,some b=>some (a && b)
  | _,_=>none
 | _,_=>some true
def eAt (f:V→V→Option Bool)(xs ys:List V)(j:Nat):Bool:=match xs[j]?,ys[j]? with
 | some x,some y=>(f x y).getD false
 | _,_=>true
theorem Ze6 {f:V→V→Option Bool}:∀ {xs ys:List V} {b:Bool},Zhq f xs ys=some b →
  (∀ (j:Nat) x y,xs[j]? = some x→ys[j]? = some y→f x y=some (eAt f xs ys j))∧b=(List.range (min xs.length ys.length)).all (eAt f xs ys)
 | [],ys,b,h=>by
  cases h
  exact ⟨fun j x y e _=>by simp at e,by simp⟩
 | x::xs,[],b,h=>by
  cases h
  exact ⟨fun j x y _ e=>by simp at e,by simp⟩
 | x::xs,y::ys,b,h=>by
  unfold Zhq at h
  cases e1:f x y with
  | none=>rw [e1] at h; cases h
  | some a=>
   cases e2:Zhq f xs ys with
   | none=>rw [e1,e2] at h; cases h
   | some c=>
    rw [e1,e2] at h
    cases h
    obtain ⟨h1,h2⟩:=Ze6 e2
    refine ⟨fun j x' y' ex ey=>?_,?_⟩
    ·cases j with
     | zero=>
      simp at ex ey
      subst ex ey
      simp [eAt,e1]
     | succ j=>
      have:=h1 j x' y' (by simpa using ex) (by simpa using ey)
      rw [this]
      simp [eAt]
    ·have em:min (x::xs).length (y::ys).length=min xs.length ys.length+1:=by simp
     rw [em,List.range_succ_eq_map,List.all_cons,List.all_map,h2]
     have e0:eAt f (x::xs) (y::ys) 0=a:=by simp [eAt,e1]
     have e3:(eAt f (x::xs) (y::ys) ∘ Nat.succ)=eAt f xs ys:=by
      funext j
      simp [eAt]
     rw [e0,e3]
def eqF (H:Hp):Nat→V→V→Option Bool
 | 0,x,y=>if (ZaA x && ZaA y)=true then some (eqV x y) else none
 | n+1,x,y=>if (ZaA x && ZaA y)=true then some (eqV x y) else match x,y with
  | .ref a,.ref b=>(match ZaQ H a,ZaQ H b with
   | some xs,some ys=>if xs.length=ys.length then Zhq (eqF H n) xs ys else some false
   | none,none=>(match Zdp H a,Zdp H b with
    | some xs,some ys=>(Zhq (eqF H n) xs ys).map (· && decide (xs.length=ys.length))
    | _,_=>none)
   | some _,none=>if (Zdp H b).isSome=true then some false else none
   | none,some _=>if (Zdp H a).isSome=true then some false else none)
  | .ref a,y=>if ((ZbD H a).isSome && ZaA y)=true then some false else none
  | x,.ref b=>if ((ZbD H b).isSome && ZaA x)=true then some false else none
  | _,_=>none
theorem Zh9 {x:V}(h:ZaA x=true):eqV x x=true:=by
 cases x <;> first | rfl | (simp [eqV]; done) | (simp [ZaA] at h)
theorem Zfe {f:V→V→Option Bool}(hf:∀ x b,f x x=some b→b=true):∀ {xs:List V} {b:Bool},Zhq f xs xs=some b→b=true
 | [],b,h=>by cases h; rfl
 | x::xs,b,h=>by
  unfold Zhq at h
  cases e1:f x x with
  | none=>rw [e1] at h; cases h
  | some a=>
   cases e2:Zhq f xs xs with
   | none=>rw [e1,e2] at h; cases h
   | some c=>
    rw [e1,e2] at h
    cases h
    rw [hf x a e1,Zfe hf e2]
    rfl
theorem ZfZ {H:Hp}:∀ {n:Nat} {x:V} {b:Bool},eqF H n x x=some b→b=true
 | 0,x,b,h=>by
  unfold eqF at h
  split at h
  ·rename_i hf
   cases h
   rw [Bool.and_self] at hf
   exact Zh9 hf
  ·cases h
 | n+1,x,b,h=>by
  unfold eqF at h
  split at h
  ·rename_i hf
   cases h
   rw [Bool.and_self] at hf
   exact Zh9 hf
  ·rename_i hf
   cases x with
   | ref a=>
    simp only at h
    cases e1:ZaQ H a with
    | some xs=>
     rw [e1] at h
     simp only [if_true] at h
     exact Zfe (fun x b h=>ZfZ h) h
    | none=>
     rw [e1] at h
     simp only at h
     cases e2:Zdp H a with
     | some xs=>
      rw [e2] at h
      simp only [decide_true,Bool.and_true] at h
      cases e3:Zhq (eqF H n) xs xs with
      | none=>rw [e3] at h; cases h
      | some c=>
       rw [e3] at h
       cases h
       exact Zfe (fun x b h=>ZfZ h) e3
     | none=>
      rw [e2] at h
      cases h
   | _=>first | (simp [ZaA] at hf; done) | (simp only at h; cases h)
theorem ZrG {A:Around}{s:Shared}{y x:V}{u v:Value}(ry:RelV y u)(rx:RelV x v)(fy:ZaA y=true)(fx:ZaA x=true):SeqAt.RcAt A s u v (eqV y x):=by
 cases y with
 | non=>
  cases ry
  cases x with
  | non=>cases rx; exact SeqAt.RcAt.none_none
  | bl b=>cases rx; exact SeqAt.RcAt.none_bool b
  | int b=>obtain ⟨t,rfl⟩:=rx; exact SeqAt.RcAt.none_int b t
  | str b=>obtain ⟨t,rfl⟩:=rx; exact SeqAt.RcAt.none_str b t
  | _=>exact absurd (show false=true from fx) Bool.false_ne_true
 | bl a=>
  cases ry
  cases x with
  | non=>cases rx; exact SeqAt.RcAt.bool_none a
  | bl b=>cases rx; exact SeqAt.RcAt.bool_bool a b
  | int b=>obtain ⟨t,rfl⟩:=rx; exact SeqAt.RcAt.bool_int a b t
  | str b=>obtain ⟨t,rfl⟩:=rx; exact SeqAt.RcAt.bool_str a b t
  | _=>exact absurd (show false=true from fx) Bool.false_ne_true
 | int a=>
  obtain ⟨t',rfl⟩:=ry
  cases x with
  | non=>cases rx; exact SeqAt.RcAt.int_none a t'
  | bl b=>cases rx; exact SeqAt.RcAt.int_bool a t' b
  | int b=>obtain ⟨t,rfl⟩:=rx; exact SeqAt.RcAt.int_int a t' b t
  | str b=>obtain ⟨t,rfl⟩:=rx; exact SeqAt.RcAt.int_str a t' b t
  | _=>exact absurd (show false=true from fx) Bool.false_ne_true
 | str a=>
  obtain ⟨t',rfl⟩:=ry
  cases x with
  | non=>cases rx; exact SeqAt.RcAt.str_none a t'
  | bl b=>cases rx; exact SeqAt.RcAt.str_bool a t' b
  | int b=>obtain ⟨t,rfl⟩:=rx; exact SeqAt.RcAt.str_int a t' b t
  | str b=>obtain ⟨t,rfl⟩:=rx; exact SeqAt.RcAt.str_str a t' b t
  | _=>exact absurd (show false=true from fx) Bool.false_ne_true
 | _=>exact absurd (show false=true from fy) Bool.false_ne_true
theorem ZqC {A:Around}{s:Shared}{y x:V}{u v:Value}(ry:RelV y u)(rx:RelV x v)(fy:ZaA y=true)(fx:ZaA x=true):SeqAt.RcNeAt A s u v (!eqV y x):=by
 cases y with
 | non=>
  cases ry
  cases x with
  | non=>cases rx; exact SeqAt.RcNeAt.none_none
  | bl b=>cases rx; exact SeqAt.RcNeAt.none_bool b
  | int b=>obtain ⟨t,rfl⟩:=rx; exact SeqAt.RcNeAt.none_int b t
  | str b=>obtain ⟨t,rfl⟩:=rx; exact SeqAt.RcNeAt.none_str b t
  | _=>exact absurd (show false=true from fx) Bool.false_ne_true
 | bl a=>
  cases ry
  cases x with
  | non=>cases rx; exact SeqAt.RcNeAt.bool_none a
  | bl b=>cases rx; exact SeqAt.RcNeAt.bool_bool a b
  | int b=>obtain ⟨t,rfl⟩:=rx; exact SeqAt.RcNeAt.bool_int a b t
  | str b=>obtain ⟨t,rfl⟩:=rx; exact SeqAt.RcNeAt.bool_str a b t
  | _=>exact absurd (show false=true from fx) Bool.false_ne_true
 | int a=>
  obtain ⟨t',rfl⟩:=ry
  cases x with
  | non=>cases rx; exact SeqAt.RcNeAt.int_none a t'
  | bl b=>cases rx; exact SeqAt.RcNeAt.int_bool a t' b
  | int b=>obtain ⟨t,rfl⟩:=rx; exact SeqAt.RcNeAt.int_int a t' b t
  | str b=>obtain ⟨t,rfl⟩:=rx; exact SeqAt.RcNeAt.int_str a t' b t
  | _=>exact absurd (show false=true from fx) Bool.false_ne_true
 | str a=>
  obtain ⟨t',rfl⟩:=ry
  cases x with
  | non=>cases rx; exact SeqAt.RcNeAt.str_none a t'
  | bl b=>cases rx; exact SeqAt.RcNeAt.str_bool a t' b
  | int b=>obtain ⟨t,rfl⟩:=rx; exact SeqAt.RcNeAt.str_int a t' b t
  | str b=>obtain ⟨t,rfl⟩:=rx; exact SeqAt.RcNeAt.str_str a t' b t
  | _=>exact absurd (show false=true from fx) Bool.false_ne_true
 | _=>exact absurd (show false=true from fy) Bool.false_ne_true
structure EqOk (A:Around)(s:Shared)(u v:Value)(b:Bool):Prop where
 rc:SeqAt.RcAt A s u v b
 rn:SeqAt.RcNeAt A s u v (!b)
 eq:SeqAt.EqAt A s u v b
theorem EqOk.flat {A:Around}{s:Shared}{y x:V}{u v:Value}(ry:RelV y u)(rx:RelV x v)(fy:ZaA y=true)(fx:ZaA x=true):EqOk A s u v (eqV y x):=⟨ZrG ry rx fy fx,ZqC ry rx fy fx,ZmT ry rx fy fx⟩
theorem EqOk.list_flat {A:Around}{s:Shared}{l:Addr}{items:Array Value}{x:V}{v:Value}(hl:s.heap.IsList l items)(hu:A.units<cLine)(rx:RelV x v)(fx:ZaA x=true):EqOk A s (.ref l) v false:=by
 cases x with
 | non=>cases rx; exact ⟨SeqAt.RcAt.list_none hl hu,SeqAt.RcNeAt.list_none hl hu,SeqAt.EqAt.list_none hl hu⟩
 | bl b=>cases rx; exact ⟨SeqAt.RcAt.list_bool b hl hu,SeqAt.RcNeAt.list_bool b hl hu,SeqAt.EqAt.list_bool b hl hu⟩
 | int b=>obtain ⟨t,rfl⟩:=rx; exact ⟨SeqAt.RcAt.list_int b t hl hu,SeqAt.RcNeAt.list_int b t hl hu,SeqAt.EqAt.list_int b t hl hu⟩
 | str b=>obtain ⟨t,rfl⟩:=rx; exact ⟨SeqAt.RcAt.list_str b t hl hu,SeqAt.RcNeAt.list_str b t hl hu,SeqAt.EqAt.list_str b t hl hu⟩
 | _=>exact absurd (show false=true from fx) Bool.false_ne_true
theorem EqOk.flat_list {A:Around}{s:Shared}{l:Addr}{items:Array Value}{x:V}{v:Value}(hl:s.heap.IsList l items)(hu:A.units<cLine)(rx:RelV x v)(fx:ZaA x=true):EqOk A s v (.ref l) false:=by
 cases x with
 | non=>cases rx; exact ⟨SeqAt.RcAt.none_list hl hu,SeqAt.RcNeAt.none_list hl hu,SeqAt.EqAt.none_list hl hu⟩
 | bl b=>cases rx; exact ⟨SeqAt.RcAt.bool_list b hl hu,SeqAt.RcNeAt.bool_list b hl hu,SeqAt.EqAt.bool_list b hl hu⟩
 | int b=>obtain ⟨t,rfl⟩:=rx; exact ⟨SeqAt.RcAt.int_list b t hl hu,SeqAt.RcNeAt.int_list b t hl hu,SeqAt.EqAt.int_list b t hl hu⟩
 | str b=>obtain ⟨t,rfl⟩:=rx; exact ⟨SeqAt.RcAt.str_list b t hl hu,SeqAt.RcNeAt.str_list b t hl hu,SeqAt.EqAt.str_list b t hl hu⟩
 | _=>exact absurd (show false=true from fx) Bool.false_ne_true
theorem EqOk.tuple_flat {A:Around}{s:Shared}{l:Addr}{items:Array Value}{x:V}{v:Value}(hl:s.heap.IsTuple l items)(hu:A.units<cLine)(rx:RelV x v)(fx:ZaA x=true):EqOk A s (.ref l) v false:=by
 cases x with
 | non=>cases rx; exact ⟨SeqAt.RcAt.tuple_none hl hu,SeqAt.RcNeAt.tuple_none hl hu,SeqAt.EqAt.tuple_none hl hu⟩
 | bl b=>cases rx; exact ⟨SeqAt.RcAt.tuple_bool b hl hu,SeqAt.RcNeAt.tuple_bool b hl hu,SeqAt.EqAt.tuple_bool b hl hu⟩
 | int b=>obtain ⟨t,rfl⟩:=rx; exact ⟨SeqAt.RcAt.tuple_int b t hl hu,SeqAt.RcNeAt.tuple_int b t hl hu,SeqAt.EqAt.tuple_int b t hl hu⟩
 | str b=>obtain ⟨t,rfl⟩:=rx; exact ⟨SeqAt.RcAt.tuple_str b t hl hu,SeqAt.RcNeAt.tuple_str b t hl hu,SeqAt.EqAt.tuple_str b t hl hu⟩
 | _=>exact absurd (show false=true from fx) Bool.false_ne_true
theorem EqOk.flat_tuple {A:Around}{s:Shared}{l:Addr}{items:Array Value}{x:V}{v:Value}(hl:s.heap.IsTuple l items)(hu:A.units<cLine)(rx:RelV x v)(fx:ZaA x=true):EqOk A s v (.ref l) false:=by
 cases x with
 | non=>cases rx; exact ⟨SeqAt.RcAt.none_tuple hl hu,SeqAt.RcNeAt.none_tuple hl hu,SeqAt.EqAt.none_tuple hl hu⟩
 | bl b=>cases rx; exact ⟨SeqAt.RcAt.bool_tuple b hl hu,SeqAt.RcNeAt.bool_tuple b hl hu,SeqAt.EqAt.bool_tuple b hl hu⟩
 | int b=>obtain ⟨t,rfl⟩:=rx; exact ⟨SeqAt.RcAt.int_tuple b t hl hu,SeqAt.RcNeAt.int_tuple b t hl hu,SeqAt.EqAt.int_tuple b t hl hu⟩
 | str b=>obtain ⟨t,rfl⟩:=rx; exact ⟨SeqAt.RcAt.str_tuple b t hl hu,SeqAt.RcNeAt.str_tuple b t hl hu,SeqAt.EqAt.str_tuple b t hl hu⟩
 | _=>exact absurd (show false=true from fx) Bool.false_ne_true
theorem IsTup.isTuple {h:Heap}{a:Addr}{items:Array Value}(x:IsTup h a items):h.IsTuple a items:=let ⟨o,ho,hc,n,hd⟩:=x; ⟨o,ho,hc,n,hd⟩
section
variable {X:Cx} {pins:List (Addr×Obj)} {σ:St} {H:Hp} {s:Shared}
theorem Vals.at {xs:List V}{us:List Value}(r:Vals xs us){j:Nat}(h:j<us.toArray.size):∃ x,xs[j]? = some x∧RelV x us.toArray[j]:=by
 have hl:=r.length
 have hj:j<us.length:=by simpa using h
 have hx:j<xs.length:=by omega
 obtain ⟨u,e,q⟩:=r.get (i:=j) (x:=xs[j]) (by simp [hx])
 refine ⟨xs[j],by simp [hx],?_⟩
 have:us.toArray[j]=u:=by
  rw [List.getElem_toArray]
  rw [List.getElem?_eq_getElem hj] at e
  exact Option.some.inj e
 rw [this]
 exact q
theorem Zlo (I:Inv X pins σ H s):∀ (n:Nat) (A:Around) {x y:V} {u v:Value} {b:Bool},A.units+n<cLine→eqF H n x y=some b→RelV x u→RelV y v→EqOk A s u v b
 | 0,A,x,y,u,v,b,hu,h,rx,ry=>by
  unfold eqF at h
  split at h
  ·rename_i hf
   cases h
   rw [Bool.and_eq_true] at hf
   exact .flat rx ry hf.1 hf.2
  ·cases h
 | n+1,A,x,y,u,v,b,hu,h,rx,ry=>by
  have ih:=fun {x y u v b}=>Zlo I n A.in1 (x:=x) (y:=y) (u:=u) (v:=v) (b:=b) (by show A.units+1+n<cLine; omega)
  have hu0:A.units<cLine:=by omega
  have h0:=h
  unfold eqF at h
  split at h
  ·rename_i hf
   cases h
   rw [Bool.and_eq_true] at hf
   exact .flat rx ry hf.1 hf.2
  ·split at h
   ·rename_i p q _
    cases rx
    cases ry
    have fin:SeqAt.RcAt A s (.ref p) (.ref q) b→SeqAt.RcNeAt A s (.ref p) (.ref q) (!b)→EqOk A s (.ref p) (.ref q) b:=fun h1 h2=>by
     refine ⟨h1,h2,?_⟩
     by_cases e:p=q
     ·subst e
      rw [ZfZ h0]
      exact SeqAt.EqAt.same _
     ·exact SeqAt.EqAt.of_refs e h1
    split at h
    ·rename_i xs ys e1 e2
     obtain ⟨its,r1,p1,z1⟩:=I.list (Zav (K:=X.K) e1)
     obtain ⟨its2,r2,p2,z2⟩:=I.list (Zav (K:=X.K) e2)
     have l1:=r1.length
     have l2:=r2.length
     split at h
     ·rename_i el
      obtain ⟨s1,s2⟩:=Ze6 h
      have hsz:its.toArray.size=its2.toArray.size:=by simp; omega
      have hm:min xs.length ys.length=its.toArray.size:=by simp; omega
      have he:∀ j (h1:j<its.toArray.size) (h2:j<its2.toArray.size),SeqAt.EqAt A.in1 s its.toArray[j] its2.toArray[j] (eAt (eqF H n) xs ys j):=fun j h1 h2=>by
       obtain ⟨x',ex,qx⟩:=r1.at h1
       obtain ⟨y',ey,qy⟩:=r2.at h2
       exact (ih (s1 j x' y' ex ey) qx qy).eq
      rw [hm] at s2
      subst s2
      exact fin (SeqAt.RcAt.lists p1.isList p2.isList hsz hu0 he) (SeqAt.RcNeAt.lists p1.isList p2.isList hsz hu0 he)
     ·rename_i el
      cases h
      have hsz:(its.toArray.size != its2.toArray.size)=true:=by
       simp only [List.size_toArray,bne_iff_ne,ne_eq]; omega
      exact fin (SeqAt.RcAt.lists_lengths p1.isList p2.isList hsz hu0) (SeqAt.RcNeAt.lists_lengths p1.isList p2.isList hsz hu0)
    ·rename_i e1 e2
     split at h
     ·rename_i xs ys e3 e4
      obtain ⟨its,r1,p1,z1⟩:=I.tuple (ZbR (K:=X.K) e3)
      obtain ⟨its2,r2,p2,z2⟩:=I.tuple (ZbR (K:=X.K) e4)
      have l1:=r1.length
      have l2:=r2.length
      cases ea:Zhq (eqF H n) xs ys with
      | none=>rw [ea] at h; cases h
      | some c=>
       rw [ea] at h
       cases h
       obtain ⟨s1,s2⟩:=Ze6 ea
       have hm:min xs.length ys.length=min its.toArray.size its2.toArray.size:=by simp; omega
       have hd:decide (xs.length=ys.length)=(its.toArray.size == its2.toArray.size):=by
        rw [Bool.eq_iff_iff]; simp; omega
       have he:∀ j (h1:j<its.toArray.size) (h2:j<its2.toArray.size),SeqAt.EqAt A.in1 s its.toArray[j] its2.toArray[j] (eAt (eqF H n) xs ys j):=fun j h1 h2=>by
        obtain ⟨x',ex,qx⟩:=r1.at h1
        obtain ⟨y',ey,qy⟩:=r2.at h2
        exact (ih (s1 j x' y' ex ey) qx qy).eq
       rw [hm] at s2
       rw [s2,hd] at fin ⊢
       exact fin (SeqAt.RcAt.tuples (IsTup.isTuple p1) (IsTup.isTuple p2) hu0 he) (SeqAt.RcNeAt.tuples (IsTup.isTuple p1) (IsTup.isTuple p2) hu0 he)
     ·cases h
    ·rename_i xs e1 e2
     split at h
     ·rename_i e3
      cases h
      obtain ⟨ys,e4⟩:=Option.isSome_iff_exists.mp e3
      obtain ⟨its,r1,p1,z1⟩:=I.list (Zav (K:=X.K) e1)
      obtain ⟨its2,r2,p2,z2⟩:=I.tuple (ZbR (K:=X.K) e4)
      exact fin (SeqAt.RcAt.list_tuple p1.isList (IsTup.isTuple p2) hu0) (SeqAt.RcNeAt.list_tuple p1.isList (IsTup.isTuple p2) hu0)
     ·cases h
    ·rename_i ys e1 e2
     split at h
     ·rename_i e3
      cases h
      obtain ⟨xs,e4⟩:=Option.isSome_iff_exists.mp e3
      obtain ⟨its,r1,p1,z1⟩:=I.tuple (ZbR (K:=X.K) e4)
      obtain ⟨its2,r2,p2,z2⟩:=I.list (Zav (K:=X.K) e2)
      exact fin (SeqAt.RcAt.tuple_list (IsTup.isTuple p1) p2.isList hu0) (SeqAt.RcNeAt.tuple_list (IsTup.isTuple p1) p2.isList hu0)
     ·cases h
   ·rename_i p _ _
    cases rx
    split at h
    ·rename_i e1
     cases h
     rw [Bool.and_eq_true] at e1
     obtain ⟨xs,e2⟩:=Option.isSome_iff_exists.mp e1.1
     rcases ZdJ e2 with e3 | e3
     ·obtain ⟨its,r1,p1,z1⟩:=I.list (Zav (K:=X.K) e3)
      exact .list_flat p1.isList hu0 ry e1.2
     ·obtain ⟨its,r1,p1,z1⟩:=I.tuple (ZbR (K:=X.K) e3)
      exact .tuple_flat (IsTup.isTuple p1) hu0 ry e1.2
    ·cases h
   ·rename_i p _ _
    cases ry
    split at h
    ·rename_i e1
     cases h
     rw [Bool.and_eq_true] at e1
     obtain ⟨xs,e2⟩:=Option.isSome_iff_exists.mp e1.1
     rcases ZdJ e2 with e3 | e3
     ·obtain ⟨its,r1,p1,z1⟩:=I.list (Zav (K:=X.K) e3)
      exact .flat_list p1.isList hu0 rx e1.2
     ·obtain ⟨its,r1,p1,z1⟩:=I.tuple (ZbR (K:=X.K) e3)
      exact .flat_tuple (IsTup.isTuple p1) hu0 rx e1.2
    ·cases h
   ·cases h
def ZsA:R2:=fun x y H Q=>Zc0 (eqF H 4 x y) fun b=>Q (.bl b) H
def ZsW:R2:=fun x y H Q=>Zc0 (eqF H 4 x y) fun b=>Q (.bl (!b)) H
theorem Za2 {k:Nat}(hr:Room k X.A):OpR X (compareOp .Eq) ZsA:=by
 intro pins s σ H x y v u Q I rx ry h
 obtain ⟨b,e,q⟩:=Za9 h
 refine PySem.W.cmp_ofEq ((Zlo I 4 X.A ?_ e rx ry).rc _ _ _ _ ⟨.bl b,H,I,rfl,q⟩)
 have:=hr.un
 omega
theorem ZfI {k:Nat}(hr:Room k X.A):OpR X (compareOp .NotEq) ZsW:=by
 intro pins s σ H x y v u Q I rx ry h
 obtain ⟨b,e,q⟩:=Za9 h
 refine PySem.W.cmp_ofNotEq ((Zlo I 4 X.A ?_ e rx ry).rn _ _ _ _ ⟨.bl (!b),H,I,rfl,q⟩)
 have:=hr.un
 omega
end
end L2
namespace L2
open PySem PySem.Spec PyProof.Rows
def Zek:List V→Option (List Str)
 | []=>some []
 | .str x::r=>(Zek r).map (x :: ·)
 | _::_=>none
def Zed:List V→Option (List Int)
 | []=>some []
 | .int x::r=>(Zed r).map (x :: ·)
 | _::_=>none
def Zel:List V→Option (List Bool)
 | []=>some []
 | .bl x::r=>(Zel r).map (x :: ·)
 | _::_=>none
theorem Zhe:∀ {xs:List V} {ts:List Str},Zek xs=some ts→xs=ts.map V.str
 | [],ts,h=>by cases h; rfl
 | x::r,ts,h=>by
  cases x with
  | str y=>
   unfold Zek at h
   cases e:Zek r with
   | none=>rw [e] at h; cases h
   | some t=>rw [e] at h; cases h; rw [Zhe e]; rfl
  | _=>cases h
theorem ZeJ:∀ {xs:List V} {ts:List Int},Zed xs=some ts→xs=ts.map V.int
 | [],ts,h=>by cases h; rfl
 | x::r,ts,h=>by
  cases x with
  | int y=>
   unfold Zed at h
   cases e:Zed r with
   | none=>rw [e] at h; cases h
   | some t=>rw [e] at h; cases h; rw [ZeJ e]; rfl
  | _=>cases h
theorem Zg3:∀ {xs:List V} {ts:List Bool},Zel xs=some ts→xs=ts.map V.bl
 | [],ts,h=>by cases h; rfl
 | x::r,ts,h=>by
  cases x with
  | bl y=>
   unfold Zel at h
   cases e:Zel r with
   | none=>rw [e] at h; cases h
   | some t=>rw [e] at h; cases h; rw [Zg3 e]; rfl
  | _=>cases h
theorem Zhi:∀ {ts:List Str} {us:List Value},Vals (ts.map V.str) us→∃ l:List (Str×Tok),us=strValues l∧l.map (·.1)=ts
 | [],us,h=>by cases h; exact ⟨[],rfl,rfl⟩
 | t::ts,us,h=>by
  cases h with
  | cons r h=>
   obtain ⟨tk,rfl⟩:=r
   obtain ⟨l,rfl,rfl⟩:=Zhi h
   exact ⟨(t,tk)::l,rfl,rfl⟩
section
variable {X:Cx} {o e:Expr} {to te:TE} {t:TA} {apos cpos:Pos}
def ZpG:V→List V→Hp→VK→Prop:=fun x vs H Q=>match x,vs with
 | .str sep,[.ref p]=>Zc0 (ZaQ H p) fun xs=>Zc0 (Zek xs) fun ts=>JoinOk sep ts=true∧Q (.str (Txt.join sep ts)) H
 | _,_=>False
theorem ZnN:MtM X "str.join" ZpG:=by
 intro pins s σ H x vs v us Q I rx rv h
 unfold ZpG at h
 split at h
 ·obtain ⟨xs,e1,h⟩:=Za9 h
  obtain ⟨ts,e2,hk,q⟩:=Za9 h
  obtain ⟨tk,rfl⟩:=rx
  obtain ⟨u,rfl,ru⟩:=rv.one
  cases ru
  obtain ⟨its,r,pl,z⟩:=I.list (Zav (K:=X.K) e1)
  rw [Zhe e2] at r
  obtain ⟨l,rfl,el⟩:=Zhi r
  exact SC.join pl.isList el hk fun t' k=>⟨.str _,H,I.tok k,⟨t',rfl⟩,q⟩
 ·exact h.elim
def Zsu:List V→Hp→VK→Prop:=fun vs H Q=>match vs with
 | [.ref p]=>Zc0 (ZaQ H p) fun xs=>Zc0 (Zed xs) fun ns=>Q (.int ns.sum) H
 | _=>False
theorem Zmj (hc:X.calm=true):CallR X (.builtin "sum") Zsu:=by
 intro pins s σ H xs us Q I rv h
 unfold Zsu at h
 split at h
 ·obtain ⟨xs,e1,h⟩:=Za9 h
  obtain ⟨ns,e2,q⟩:=Za9 h
  obtain ⟨u,rfl,ru⟩:=rv.one
  cases ru
  obtain ⟨its,r,pl,z⟩:=I.list (Zav (K:=X.K) e1)
  rw [ZeJ e2] at r
  have hi:=ZcQ r
  obtain ⟨ps,hx⟩:=hi.allInts.items
  have hn:numsOf its.toArray.toList=ns:=by rw [show its.toArray.toList=its from rfl,hi.numsOf]
  have hl:=pl.isList
  rw [hx] at hl hn
  rw [nums_intItems] at hn
  refine sum_intListG (I.ok.hd hc) hl fun h' tk t' hk=>?_
  rw [preSum_eq,List.take_of_length_le (by simp),hn]
  exact ⟨.int ns.sum,H,I.kept (t':=tk) hk,⟨_,rfl⟩,q⟩
 ·exact h.elim
end
end L2
namespace L2
theorem Zkm {H:Hp}{n:Nat}{x y:V}(h:(ZaA x && ZaA y)=true):eqF H n x y=some (eqV x y):=by
 cases n <;> (unfold eqF; rw [if_pos h])
end L2
namespace L2
open PySem PySem.Spec PyProof.Rows
end L2
namespace L2
open PySem PySem.Spec PyProof.Rows
theorem ZeN {H:Hp}{p:Addr}{xs:List V}:ZaQ (upd H p (.lst xs)) p=some xs:=Zbj ZaD
theorem Zt1 {α:Type}{a b c d e:α}{l:List α}:atI (a::b::c::d::e::l) 4=some e:=by rw [Zcw (by decide)]; rfl
end L2
namespace L2
open PySem PySem.Spec PyProof.Rows
theorem Zlh {H:Hp}{n:Nat}{a b:Addr}{xs ys:List V}(h1:ZaQ H a=some xs)(h2:ZaQ H b=some ys):eqF H (n+1) (.ref a) (.ref b)=if xs.length=ys.length then Zhq (eqF H n) xs ys else some false:=by
 unfold eqF
 rw [if_neg (by simp [ZaA])]
 simp only [h1,h2]
theorem ZiX {H:Hp}{n:Nat}{a b:Addr}{xs ys:List V}(h1:Zdp H a=some xs)(h2:Zdp H b=some ys):eqF H (n+1) (.ref a) (.ref b)=(Zhq (eqF H n) xs ys).map (· && decide (xs.length=ys.length)):=by
 have l1:ZaQ H a=none:=by unfold ZaQ; rw [ZdM h1]
 have l2:ZaQ H b=none:=by unfold ZaQ; rw [ZdM h2]
 unfold eqF
 rw [if_neg (by simp [ZaA])]
 simp only [h1,h2,l1,l2]
end L2
namespace L2
open PySem PySem.Spec PyProof.Rows
end L2
namespace L2
open PySem PySem.Spec PyProof.Rows
def Keep (S:List Addr)(H H':Hp):Prop:=∀ b o,H b=some o→b ∉ S→H' b=some o
theorem Same.keep {S:List Addr}{H H':Hp}(h:Same H H'):Keep S H H':=fun b o e _=>h b o e
theorem Keep.set {S:List Addr}{H:Hp}{p:Addr}{o:HO}(hp:p∈S):Keep S H (upd H p o):=fun b u e n=>by
 have:b≠p:=fun z=>n (by rw [z]; exact hp)
 rw [Zak this]; exact e
section
variable {X:Cx} {o e:Expr} {to:TE} {t:TA} {apos cpos:Pos}
def Zgf:V→List V→Hp→VK→Prop:=fun x vs H Q=>match x,vs with
 | .ref l,[y]=>(match H l with
  | some (.lst xs)=>xs.length<sizeLine∧Q .non (upd H l (.lst (xs++[y])))
  | _=>False)
 | _,_=>False
theorem Zjg:MtM X "list.append" Zgf:=by
 intro pins s σ H x vs v us Q I rx rv h
 unfold Zgf at h
 split at h
 ·split at h
  ·rename_i xs e
   exact ZgN pins s σ H _ _ v us Q I rx rv ⟨_,xs,_,rfl,rfl,e,h.1,h.2⟩
  ·exact h.elim
 ·exact h.elim
end
def EqP (H:Hp)(h:Addr)(x y:V):Prop:=(ZaA x=true∧ZaA y=true∧eqV x y=true) ∨
 ∃ a b xs,x=.ref a∧y=.ref b∧a≠h∧b≠h∧xs.all ZaA=true∧((H a=some (.lst xs)∧H b=some (.lst xs))∨(H a=some (.tup xs)∧H b=some (.tup xs)))
theorem EqP.keep {H H':Hp}{h:Addr}{x y:V}(k:Keep [h] H H')(e:EqP H h x y):EqP H' h x y:=by
 rcases e with e | ⟨a,b,xs,e1,e2,na,nb,f,q⟩
 ·exact .inl e
 ·refine .inr ⟨a,b,xs,e1,e2,na,nb,f,?_⟩
  rcases q with ⟨q1,q2⟩ | ⟨q1,q2⟩
  ·exact .inl ⟨k _ _ q1 (by simpa using na),k _ _ q2 (by simpa using nb)⟩
  ·exact .inr ⟨k _ _ q1 (by simpa using na),k _ _ q2 (by simpa using nb)⟩
structure Held (H:Hp)(h:Addr)(ts:List Addr):Prop where
 lst:H h=some (.lst (ts.map V.ref))
 prs:∀ t∈ts,t≠h∧∃ x y,H t=some (.tup [x,y])∧EqP H h x y
theorem Held.keep {H H':Hp}{h:Addr}{ts:List Addr}(k:Keep [h] H H')(hl:H' h=some (.lst (ts.map V.ref)))(e:Held H h ts):Held H' h ts:=
 ⟨hl,fun t ht=>by
  obtain ⟨n,x,y,q,r⟩:=e.prs t ht
  exact ⟨n,x,y,k _ _ q (by simpa using n),r.keep k⟩⟩
end L2
namespace M
open PySem PySem.Spec PyProof.Rows L2
inductive W where
 | non | bl (b:Bool) | int (i:Int) | str (x:Str) | ty (n:String) | cls (c:Str) | ref (n:Nat)
 | tup (ws:List W) | tl (ws:List W) | td (ks:List Key) (ws:List W) | ti (c:Str) (fs:List Str) (ws:List W) | exc (c:Str) (fs:List Str) (ws:List W)
inductive O where
 | lst (ws:List W) | dic (kvs:List (Key×W)) | ins (c:Str) (fs:List (Str×W))
 | fdic (kvs:List (Key×W))
abbrev Mem:=List O
abbrev Sg:=List (Option W)
structure CTb where
 t:Str→Option Addr
 x:Str→Option Addr
 o:Str→Option Addr
def CTb.any (T:CTb)(c:Str):Option Addr:=match T.t c with
 | some C=>some C
 | none=>(match T.x c with
  | some C=>some C
  | none=>T.o c)
instance:CoeFun CTb fun _=>Str→Option Addr:=⟨CTb.t⟩
theorem CTb.any_t {T:CTb}{c:Str}{C:Addr}(h:T c=some C):T.any c=some C:=by unfold CTb.any; rw [show T.t c=some C from h]
abbrev St:=L2.St
def Zcx (e C:Addr)(d:Option Addr)(h:Heap):Prop:=∃ o vs,h.get? e=some o∧o.cls=.ref C∧o.data=.fields vs∧o.dict=d
section
variable (T:CTb) (φ:List Addr) (H:Hp)
mutual
def RW:W→V→Prop
 | .non,v=>v=.non
 | .bl b,v=>v=.bl b
 | .int i,v=>v=.int i
 | .str x,v=>v=.str x
 | .ty n,v=>v=.ty n
 | .cls c,v=>∃ C,T.any c=some C∧v=.ref C
 | .ref n,v=>∃ a,φ[n]? = some a∧v=.ref a
 | .tup ws,v=>∃ p vs,v=.ref p∧p ∉ φ∧H p=some (.tup vs)∧RWs ws vs
 | .tl ws,v=>∃ p vs,v=.ref p∧p ∉ φ∧ZaQ H p=some vs∧RWs ws vs
 | .td ks ws,v=>∃ p vs,v=.ref p∧p ∉ φ∧H p=some (.dK (ks.zip vs))∧ks.length=ws.length∧RWs ws vs
 | .ti c fs ws,v=>∃ p C dx vs,v=.ref p∧p ∉ φ∧T c=some C∧H p=some (.ins C dx (fs.zip vs))∧fs.length=ws.length∧RWs ws vs
 | .exc c fs ws,v=>∃ e C d vs,v=.ref e∧e ∉ φ∧T.x c=some C∧H e=some (.ext (Zcx e C d))∧fs.length=ws.length∧(match d with
  | some da=>da ∉ φ∧H da=some (.xd (fs.zip vs))
  | none=>fs=[])∧RWs ws vs
def RWs:List W→List V→Prop
 | [],vs=>vs=[]
 | w::ws,vs=>∃ v r,vs=v::r∧RW w v∧RWs ws r
end
def RP {κ:Type}:List (κ×W)→List (κ×V)→Prop:=Paired fun p q=>p.1=q.1∧RW T φ H p.2 q.2
def RO:O→HO→Prop
 | .lst ws,o=>∃ vs,o=.lst vs∧RWs T φ H ws vs
 | .dic kvs,o=>∃ kv,o=.dK kv∧RP T φ H kvs kv
 | .ins c fs,o=>∃ C dx fv,o=.ins C dx fv∧T c=some C∧RP T φ H fs fv
 | .fdic kvs,o=>∃ ob kv,o=.frz ob (.dK kv)∧RP T φ H kvs kv
end
structure Step0 (φ:List Addr)(H:Hp)(φ':List Addr)(H':Hp):Prop where
 pre:φ <+: φ'
 keep:∀ a o,H a=some o→a ∉ φ→H' a=some o
 new:∀ a,a∈φ'→a ∉ φ→H a=none
structure Step (φ:List Addr)(H:Hp)(φ':List Addr)(H':Hp):Prop extends Step0 φ H φ' H' where
 fr:∀ a o u,H a=some (.frz o u)→H' a=some (.frz o u)
theorem Step.refl (φ:List Addr)(H:Hp):Step φ H φ H:=⟨⟨List.prefix_refl _,fun _ _ e _=>e,fun _ h n=>absurd h n⟩,fun _ _ _ e=>e⟩
theorem Step0.out {φ φ':List Addr}{H H':Hp}(s:Step0 φ H φ' H'){a:Addr}{o:HO}(e:H a=some o)(n:a ∉ φ):a ∉ φ':=fun z=>by rw [s.new a z n] at e; cases e
theorem Step0.trans {φ φ' φ'':List Addr}{H H' H'':Hp}(s:Step0 φ H φ' H')(t:Step0 φ' H' φ'' H''):Step0 φ H φ'' H'':=
 ⟨s.pre.trans t.pre,fun a o e n=>t.keep a o (s.keep a o e n) (s.out e n),fun a h n=>by
  by_cases z:a∈φ'
  ·exact s.new a z n
  ·cases e:H a with
   | none=>rfl
   | some o=>have:=t.new a h z; rw [s.keep a o e n] at this; cases this⟩
theorem Step.trans {φ φ' φ'':List Addr}{H H' H'':Hp}(s:Step φ H φ' H')(t:Step φ' H' φ'' H''):Step φ H φ'' H'':=⟨s.toStep0.trans t.toStep0,fun a o u e=>t.fr a o u (s.fr a o u e)⟩
theorem Step0.get {φ φ':List Addr}{H H':Hp}(s:Step0 φ H φ' H'){n:Nat}{a:Addr}(e:φ[n]? = some a):φ'[n]? = some a:=by
 obtain ⟨t,rfl⟩:=s.pre
 rw [List.getElem?_append_left (List.getElem?_eq_some_iff.mp e).1]
 exact e
theorem Ze0 {H:Hp}{p:Addr}{vs:List V}(h:ZaQ H p=some vs):∃ o,H p=some o∧∀ H':Hp,H' p=some o→ZaQ H' p=some vs:=by
 rcases ZbN h with q | ⟨o,q⟩
 ·exact ⟨_,q,fun H' e=>Zbj e⟩
 ·exact ⟨_,q,fun H' e=>by unfold ZaQ; rw [e]⟩
section
variable {T:CTb} {φ φ':List Addr} {H H':Hp}
mutual
theorem RW.step0 (s:Step0 φ H φ' H'):∀ {w:W} {v:V},RW T φ H w v→RW T φ' H' w v
 | .non,v,h=>by unfold RW at h ⊢; exact h
 | .bl b,v,h=>by unfold RW at h ⊢; exact h
 | .int i,v,h=>by unfold RW at h ⊢; exact h
 | .str x,v,h=>by unfold RW at h ⊢; exact h
 | .ty n,v,h=>by unfold RW at h ⊢; exact h
 | .cls c,v,h=>by unfold RW at h ⊢; exact h
 | .ref n,v,h=>by
  unfold RW at h ⊢
  obtain ⟨a,e,q⟩:=h
  exact ⟨a,s.get e,q⟩
 | .tup ws,v,h=>by
  unfold RW at h ⊢
  obtain ⟨p,vs,e,n,q,r⟩:=h
  exact ⟨p,vs,e,s.out q n,s.keep _ _ q n,RWs.step0 s r⟩
 | .tl ws,v,h=>by
  unfold RW at h ⊢
  obtain ⟨p,vs,e,n,q,r⟩:=h
  obtain ⟨o,ho,k⟩:=Ze0 q
  exact ⟨p,vs,e,s.out ho n,k _ (s.keep _ _ ho n),RWs.step0 s r⟩
 | .td ks ws,v,h=>by
  unfold RW at h ⊢
  obtain ⟨p,vs,e,n,q,l,r⟩:=h
  exact ⟨p,vs,e,s.out q n,s.keep _ _ q n,l,RWs.step0 s r⟩
 | .ti c fs ws,v,h=>by
  unfold RW at h ⊢
  obtain ⟨p,C,dx,vs,e,n,c,q,l,r⟩:=h
  exact ⟨p,C,dx,vs,e,s.out q n,c,s.keep _ _ q n,l,RWs.step0 s r⟩
 | .exc c fs ws,v,h=>by
  unfold RW at h ⊢
  obtain ⟨e,C,d,vs,q,n,c,x,l,m,r⟩:=h
  refine ⟨e,C,d,vs,q,s.out x n,c,s.keep _ _ x n,l,?_,RWs.step0 s r⟩
  cases d with
  | none=>exact m
  | some da=>exact ⟨s.out m.2 m.1,s.keep _ _ m.2 m.1⟩
theorem RWs.step0 (s:Step0 φ H φ' H'):∀ {ws:List W} {vs:List V},RWs T φ H ws vs→RWs T φ' H' ws vs
 | [],vs,h=>by unfold RWs at h ⊢; exact h
 | w::ws,vs,h=>by
  unfold RWs at h ⊢
  obtain ⟨v,r,e,a,b⟩:=h
  exact ⟨v,r,e,RW.step0 s a,RWs.step0 s b⟩
end
theorem RW.step (s:Step φ H φ' H'){w:W}{v:V}(h:RW T φ H w v):RW T φ' H' w v:=h.step0 s.toStep0
theorem RWs.step (s:Step φ H φ' H'){ws:List W}{vs:List V}(h:RWs T φ H ws vs):RWs T φ' H' ws vs:=h.step0 s.toStep0
theorem ZcG {κ:Type}(s:Step0 φ H φ' H'){ps:List (κ×W)}{qs:List (κ×V)}(h:RP T φ H ps qs):RP T φ' H' ps qs:=Paired.mapP h fun _ _ q=>⟨q.1,q.2.step0 s⟩
theorem RO.step0 (s:Step0 φ H φ' H'){o:O}{ho:HO}(h:RO T φ H o ho):RO T φ' H' o ho:=by
 cases o with
 | lst ws=>obtain ⟨vs,e,r⟩:=h; exact ⟨vs,e,r.step0 s⟩
 | dic kvs=>obtain ⟨kv,e,r⟩:=h; exact ⟨kv,e,ZcG s r⟩
 | ins c fs=>obtain ⟨C,dx,fv,e,c,r⟩:=h; exact ⟨C,dx,fv,e,c,ZcG s r⟩
 | fdic kvs=>obtain ⟨ob,kv,e,r⟩:=h; exact ⟨ob,kv,e,ZcG s r⟩
theorem RO.step (s:Step φ H φ' H'){o:O}{ho:HO}(h:RO T φ H o ho):RO T φ' H' o ho:=h.step0 s.toStep0
end
structure RH (T:CTb)(φ:List Addr)(h:Mem)(H:Hp):Prop where
 len:φ.length=h.length
 nd:φ.Nodup
 obj:∀ (n:Nat) o a,h[n]? = some o→φ[n]? = some a→∃ ho,H a=some ho∧RO T φ H o ho
structure RS (T:CTb)(φ:List Addr)(H:Hp)(ρ:Sg)(σ:St):Prop where
 len:ρ.length=σ.length
 var:∀ (i:Nat) w,ρ[i]? = some (some w)→∃ v,σ[i]? = some (some v)∧RW T φ H w v
section
variable {T:CTb} {φ φ':List Addr} {H H':Hp} {h:Mem} {ρ:Sg} {σ:St}
theorem RS.step (s:Step φ H φ' H')(r:RS T φ H ρ σ):RS T φ' H' ρ σ:=⟨r.len,fun i w e=>by
 obtain ⟨v,a,b⟩:=r.var i w e
 exact ⟨v,a,b.step s⟩⟩
theorem RS.set {i:Nat}{w:W}{v:V}(r:RS T φ H ρ σ)(q:RW T φ H w v):RS T φ H (ρ.set i (some w)) (σ.set i (some v)):=⟨by simp [r.len],fun j u e=>by
 rw [List.getElem?_set] at e ⊢
 split at e
 ·rename_i hij
  subst hij
  split at e
  ·rename_i hl
   rw [if_pos rfl,if_pos (by rw [← r.len]; exact hl)]
   cases e
   exact ⟨v,rfl,q⟩
  ·cases e
 ·rename_i hij
  rw [if_neg hij]
  exact r.var j u e⟩
theorem RH.at (r:RH T φ h H){n:Nat}{o:O}(e:h[n]? = some o):∃ a ho,φ[n]? = some a∧H a=some ho∧RO T φ H o ho:=by
 have hn:n<φ.length:=by rw [r.len]; exact (List.getElem?_eq_some_iff.mp e).1
 obtain ⟨ho,q,x⟩:=r.obj n o φ[n] e (by simp [hn])
 exact ⟨φ[n],ho,by simp [hn],q,x⟩
theorem RH.there (r:RH T φ h H){a:Addr}(m:a∈φ):∃ ho,H a=some ho:=by
 obtain ⟨n,hn,e⟩:=List.getElem_of_mem m
 have hl:n<h.length:=by rw [← r.len]; exact hn
 obtain ⟨ho,q,_⟩:=r.obj n h[n] a (by simp [hl]) (by simp [hn,e])
 exact ⟨ho,q⟩
theorem RH.fresh (r:RH T φ h H){p:Addr}(hp:H p=none):p ∉ φ:=fun m=>by
 obtain ⟨ho,q⟩:=r.there m
 rw [hp] at q; cases q
theorem Zcg {p:Addr}{ho:HO}(hp:H p=none):Step φ H φ (upd H p ho):=⟨⟨List.prefix_refl _,fun a o e _=>by rw [Zak (Zau e hp)]; exact e,fun _ m n=>absurd m n⟩,fun a o u e=>by rw [Zak (Zau e hp)]; exact e⟩
theorem RH.stay (r:RH T φ h H)(s:Step φ H φ H')(k:∀ a∈φ,H' a=H a):RH T φ h H':=⟨r.len,r.nd,fun n o a e q=>by
 obtain ⟨ho,x,y⟩:=r.obj n o a e q
 exact ⟨ho,by rw [k a (List.mem_of_getElem? q)]; exact x,y.step s⟩⟩
theorem RH.tmp (r:RH T φ h H){p:Addr}{ho:HO}(hp:H p=none):RH T φ h (upd H p ho):=r.stay (Zcg hp) fun a m=>Zak fun z=>by subst z; exact r.fresh hp m
theorem Zbw {p:Addr}{ho:HO}(hp:H p=none):Step φ H (φ++[p]) (upd H p ho):=⟨⟨List.prefix_append _ _,fun a o e _=>by rw [Zak (Zau e hp)]; exact e,fun a m n=>by
 rcases List.mem_append.mp m with m | m
 ·exact absurd m n
 ·have:a=p:=by simpa using m
  subst this; exact hp⟩,fun a o u e=>by rw [Zak (Zau e hp)]; exact e⟩
theorem RH.new (r:RH T φ h H){p:Addr}{o:O}{ho:HO}(hp:H p=none)(x:RO T φ H o ho):RH T (φ++[p]) (h++[o]) (upd H p ho):=by
 have s:=Zbw (φ:=φ) (ho:=ho) hp
 refine ⟨by simp [r.len],?_,fun n u a e q=>?_⟩
 ·rw [List.nodup_append]
  refine ⟨r.nd,by simp,fun a m b k z=>?_⟩
  have:b=p:=by simpa using k
  subst z this
  exact r.fresh hp m
 ·by_cases hn:n<h.length
  ·rw [List.getElem?_append_left hn] at e
   rw [List.getElem?_append_left (by rw [r.len]; exact hn)] at q
   obtain ⟨hu,y,z⟩:=r.obj n u a e q
   exact ⟨hu,by rw [Zak (fun z=>by subst z; exact r.fresh hp (List.mem_of_getElem? q))]; exact y,z.step s⟩
  ·have hn':h.length≤n:=Nat.le_of_not_lt hn
   rw [List.getElem?_append_right hn'] at e
   rw [List.getElem?_append_right (by rw [r.len]; exact hn'),r.len] at q
   have:n - h.length=0:=by
    have:=(List.getElem?_eq_some_iff.mp e).1
    simp at this; omega
   rw [this] at e q
   simp at e q
   subst e q
   exact ⟨ho,ZaD,x.step s⟩
theorem ZcI {a:Addr}{ho:HO}(m:a∈φ):Step0 φ H φ (upd H a ho):=⟨List.prefix_refl _,fun b o e n=>by rw [Zak (fun z=>by subst z; exact n m)]; exact e,fun _ m n=>absurd m n⟩
def ZmE (x:Option HO):Prop:=∀ o u,x≠some (.frz o u)
theorem ZgT {xs:List V}{x:Option HO}(e:x=some (.lst xs)):ZmE x:=fun o u z=>by rw [e] at z; cases z
theorem ZmK {xs:List (Key×V)}{x:Option HO}(e:x=some (.dK xs)):ZmE x:=fun o u z=>by rw [e] at z; cases z
theorem Zqq {C dx:Addr}{xs:List (Str×V)}{x:Option HO}(e:x=some (.ins C dx xs)):ZmE x:=fun o u z=>by rw [e] at z; cases z
theorem Zbx {a:Addr}{ho:HO}(m:a∈φ)(nf:ZmE (H a)):Step φ H φ (upd H a ho):=⟨ZcI m,fun b o u e=>by
 by_cases z:b=a
 ·subst z; exact absurd e (nf o u)
 ·rw [Zak z]; exact e⟩
theorem RH.set (r:RH T φ h H){n:Nat}{a:Addr}{o:O}{ho:HO}(q:φ[n]? = some a)(x:RO T φ H o ho):RH T φ (h.set n o) (upd H a ho):=by
 have s:=ZcI (H:=H) (ho:=ho) (List.mem_of_getElem? q)
 refine ⟨by simp [r.len],r.nd,fun k u b e q'=>?_⟩
 rw [List.getElem?_set] at e
 split at e
 ·rename_i hk
  subst hk
  rw [q] at q'
  cases q'
  split at e
  ·cases e
   exact ⟨ho,ZaD,x.step0 s⟩
  ·cases e
 ·rename_i hk
  obtain ⟨hu,y,z⟩:=r.obj k u b e q'
  refine ⟨hu,?_,z.step0 s⟩
  rw [Zak]
  ·exact y
  ·intro z
   subst z
   exact hk ((List.getElem?_inj (List.getElem?_eq_some_iff.mp q).1 r.nd).mp (q.trans q'.symm))
end
end M
namespace M
open PySem PySem.Spec PyProof.Rows L2
inductive Res where
 | ok (w:W) (h:Mem) | ex (w:W) (h:Mem) | no
inductive RsL where
 | ok (ws:List W) (h:Mem) | ex (w:W) (h:Mem) | no
abbrev Ex:=Sg→Mem→Res
abbrev Exs:=Sg→Mem→RsL
def Res.bind (r:Res)(k:W→Mem→Res):Res:=match r with
 | .ok w h=>k w h
 | .ex w h=>.ex w h
 | .no=>.no
def Res.of (o:Option W)(h:Mem):Res:=match o with
 | some w=>.ok w h
 | none=>.no
def Res.post (r:Res)(k:W→Mem→Prop)(e:W→Mem→Prop):Prop:=match r with
 | .ok w h=>k w h
 | .ex w h=>e w h
 | .no=>False
def RsL.post (r:RsL)(k:List W→Mem→Prop)(e:W→Mem→Prop):Prop:=match r with
 | .ok w h=>k w h
 | .ex w h=>e w h
 | .no=>False
theorem Res.post.mono {r:Res}{k k':W→Mem→Prop}{e:W→Mem→Prop}(h:r.post k e)(i:∀ w m,k w m→k' w m):r.post k' e:=by
 cases r <;> first | exact i _ _ h | exact h
structure Zc where
 T:CTb
 φ:List Addr
 H:Hp
 sg:St→Prop
 xw:W→Mem→Prop
structure Here (Z:Zc)(σ:St)(H:Hp)(φ:List Addr)(h:Mem)(ρ:Sg):Prop where
 sg:Z.sg σ
 st:Step Z.φ Z.H φ H
 rh:RH Z.T φ h H
 rs:RS Z.T φ H ρ σ
theorem Here.step {Z:Zc}{σ:St}{H H':Hp}{φ φ':List Addr}{h h':Mem}{ρ:Sg}(x:Here Z σ H φ h ρ)(s:Step φ H φ' H')(r:RH Z.T φ' h' H'):Here Z σ H' φ' h' ρ:=⟨x.sg,x.st.trans s,r,x.rs.step s⟩
def Kv (T:CTb)(φ:List Addr)(H:Hp)(Q:VK):W→Mem→Prop:=fun w h'=>∀ φ' H' v,Step φ H φ' H'→RH T φ' h' H'→RW T φ' H' w v→Q v H'
def Kvs (T:CTb)(φ:List Addr)(H:Hp)(Q:List V→Hp→Prop):List W→Mem→Prop:=fun ws h'=>∀ φ' H' vs,Step φ H φ' H'→RH T φ' h' H'→RWs T φ' H' ws vs→Q vs H'
theorem Kv.step {T:CTb}{φ φ':List Addr}{H H':Hp}{Q:VK}{w:W}{h:Mem}(k:Kv T φ H Q w h)(s:Step φ H φ' H'):Kv T φ' H' Q w h:=fun φ2 H2 v t r x=>k φ2 H2 v (s.trans t) r x
def tH (Z:Zc)(f:Ex):TE:=fun σ H Q=>∃ φ h ρ,Here Z σ H φ h ρ∧(f ρ h).post (Kv Z.T φ H Q) Z.xw
def tHA (Z:Zc)(f:Exs):TA:=fun σ H Q=>∃ φ h ρ,Here Z σ H φ h ρ∧(f ρ h).post (Kvs Z.T φ H Q) Z.xw
def tHT (Z:Zc)(f:Ex):TT:=fun σ H Q=>∃ φ h ρ,Here Z σ H φ h ρ∧(f ρ h).post (fun w h'=>∃ b,w=.bl b∧∀ φ' H',Step φ H φ' H'→RH Z.T φ' h' H'→Q b H') Z.xw
section
variable {X:Cx} {e a b c:Expr} {es:List Expr}
theorem _root_.L2.PE.imp {t t':TE}(h:PE X e t)(i:∀ σ H Q,t' σ H Q→t σ H Q):PE X e t':=fun pins s σ H Q I q=>h pins s σ H Q I (i σ H Q q)
theorem _root_.L2.PT.imp {t t':TT}(h:PT X e t)(i:∀ σ H Q,t' σ H Q→t σ H Q):PT X e t':=fun pins s σ H Q I q=>h pins s σ H Q I (i σ H Q q)
theorem _root_.L2.PW.imp {t t':TT}(h:PW X e t)(i:∀ σ H Q,t' σ H Q→t σ H Q):PW X e t':=fun w pins s σ H Q I q=>h w pins s σ H Q I (i σ H Q q)
theorem _root_.L2.PA.imp {t t':TA}(h:PA X es t)(i:∀ σ H Q,t' σ H Q→t σ H Q):PA X es t':=fun pos pins s σ H Q I q=>h pos pins s σ H Q I (i σ H Q q)
end
def ZaW (i:Nat):Ex:=fun ρ h=>match ρ[i]? with
 | some (some w)=>.ok w h
 | _=>.no
def xC (w:W):Ex:=fun _ h=>.ok w h
def ZbP:Exs:=fun _ h=>.ok [] h
def Zan (f:Ex)(g:Exs):Exs:=fun ρ h=>match f ρ h with
 | .ok w h1=>(match g ρ h1 with
  | .ok ws h2=>.ok (w::ws) h2
  | r=>r)
 | .ex w h1=>.ex w h1
 | .no=>.no
def Zbp (op:Mem→W→W→Option W)(f g:Ex):Ex:=fun ρ h=>(f ρ h).bind fun a h1=>(g ρ h1).bind fun b h2=>.of (op h2 a b) h2
def xUn (op:Mem→W→Option W)(f:Ex):Ex:=fun ρ h=>(f ρ h).bind fun a h1=>.of (op h1 a) h1
def xCb (op:Mem→List W→Option W)(f:Exs):Ex:=fun ρ h=>match f ρ h with
 | .ok ws h1=>.of (op h1 ws) h1
 | .ex w h1=>.ex w h1
 | .no=>.no
def ZdY (f g:Ex):Ex:=fun ρ h=>(f ρ h).bind fun w h1=>match w with
 | .bl true=>g ρ h1
 | .bl false=>.ok (.bl false) h1
 | _=>.no
def xOr (f g:Ex):Ex:=fun ρ h=>(f ρ h).bind fun w h1=>match w with
 | .bl true=>.ok (.bl true) h1
 | .bl false=>g ρ h1
 | _=>.no
def ZdW (f:Ex):Ex:=fun ρ h=>(f ρ h).bind fun w h1=>match w with
 | .bl b=>.ok (.bl (!b)) h1
 | _=>.no
def Zef (f:Exs):Ex:=fun ρ h=>match f ρ h with
 | .ok ws h1=>if ws.length≤sizeLine then .ok (.tup ws) h1 else .no
 | .ex w h1=>.ex w h1
 | .no=>.no
def Zeq (f:Exs):Ex:=fun ρ h=>match f ρ h with
 | .ok ws h1=>if ws.length≤sizeLine then .ok (.tl ws) h1 else .no
 | .ex w h1=>.ex w h1
 | .no=>.no
def ZbB (f:Exs):Ex:=fun ρ h=>match f ρ h with
 | .ok ws h1=>if ws.length≤sizeLine then .ok (.ref h1.length) (h1++[.lst ws]) else .no
 | .ex w h1=>.ex w h1
 | .no=>.no
def OpW (T:CTb)(op:Mem→W→W→Option W)(r:R2):Prop:=∀ φ h H a b u v w Q,RH T φ h H→RW T φ H a u→RW T φ H b v→op h a b=some w→(∀ H' x,Step φ H φ H'→RH T φ h H'→RW T φ H' w x→Q x H')→r u v H Q
def UnW (T:CTb)(op:Mem→W→Option W)(r:V→Hp→VK→Prop):Prop:=∀ φ h H a u w Q,RH T φ h H→RW T φ H a u→op h a=some w→(∀ H' x,Step φ H φ H'→RH T φ h H'→RW T φ H' w x→Q x H')→r u H Q
def CbW (T:CTb)(op:Mem→List W→Option W)(r:List V→Hp→VK→Prop):Prop:=∀ φ h H ws vs w Q,RH T φ h H→RWs T φ H ws vs→op h ws=some w→(∀ H' x,Step φ H φ H'→RH T φ h H'→RW T φ H' w x→Q x H')→r vs H Q
def BmW (T:CTb)(op:Mem→W→List W→Option W)(r:V→List V→Hp→VK→Prop):Prop:=∀ φ h H a u ws vs w Q,RH T φ h H→RW T φ H a u→RWs T φ H ws vs→op h a ws=some w→(∀ H' x,Step φ H φ H'→RH T φ h H'→RW T φ H' w x→Q x H')→r u vs H Q
section
variable {X:Cx} {Z:Zc} {f g k:Ex} {fa:Exs} {e a b c:Expr} {es rest:List Expr} {pos:Pos}
theorem ZdE {r:Res}{k:W→Mem→Res}{K:W→Mem→Prop}{E:W→Mem→Prop}:(r.bind k).post K E↔r.post (fun w h=>(k w h).post K E) E:=by cases r <;> rfl
theorem ofP {o:Option W}{h:Mem}{K:W→Mem→Prop}{E:W→Mem→Prop}(q:(Res.of o h).post K E):∃ w,o=some w∧K w h:=by
 cases o with
 | none=>exact q.elim
 | some w=>exact ⟨w,rfl,q⟩
theorem Kv.end {T:CTb}{φ:List Addr}{H:Hp}{Q:VK}{w:W}{h:Mem}(k:Kv T φ H Q w h):∀ H' x,Step φ H φ H'→RH T φ h H'→RW T φ H' w x→Q x H':=fun H' x s r y=>k φ H' x s r y
theorem ZrO (i:Nat)(h:PE X e (ZqF i)):PE X e (tH Z (ZaW i)):=h.imp fun σ H Q ⟨φ,m,ρ,x,q⟩=>by
 unfold ZaW at q
 split at q
 ·rename_i w e
  obtain ⟨v,hv,r⟩:=x.rs.var i w e
  exact ⟨v,hv,q φ H v (Step.refl _ _) x.rh r⟩
 ·exact q.elim
theorem ZnY {w:W}{v:V}(h:PE X e (tC v))(r:∀ φ H,RW Z.T φ H w v):PE X e (tH Z (xC w)):=h.imp fun σ H Q ⟨φ,m,ρ,x,q⟩=>q φ H v (Step.refl _ _) x.rh (r φ H)
theorem ZqL {i j pos}:PE X (.Constant (.int i) j pos) (tH Z (xC (.int i))):=ZnY ZrF fun _ _=>by unfold RW; rfl
theorem Zr8 {b j pos}:PE X (.Constant (.bool b) j pos) (tH Z (xC (.bl b))):=ZnY Zr0 fun _ _=>by unfold RW; rfl
theorem ZqM {j pos}:PE X (.Constant .none j pos) (tH Z (xC .non)):=ZnY Zqr fun _ _=>by unfold RW; rfl
theorem ZqO {x j pos}:PE X (.Constant (.str x) j pos) (tH Z (xC (.str x))):=ZnY Zns fun _ _=>by unfold RW; rfl
theorem two {σ:St}{H:Hp}{φ:List Addr}{h:Mem}{ρ:Sg}{k:W→W→Mem→Res}{Q:VK}(x:Here Z σ H φ h ρ)(q:((f ρ h).bind fun a h1=>(g ρ h1).bind fun b h2=>k a b h2).post (Kv Z.T φ H Q) Z.xw)
  {R:V→V→Hp→Prop} (i:∀ φ2 H2 h2 u v a b,Step φ H φ2 H2→Here Z σ H2 φ2 h2 ρ→RW Z.T φ2 H2 a u→RW Z.T φ2 H2 b v→(k a b h2).post (Kv Z.T φ2 H2 Q) Z.xw→R u v H2) :
  tH Z f σ H fun u H1=>tH Z g σ H1 fun v H2=>R u v H2:=by
 refine ⟨φ,h,ρ,x,?_⟩
 rw [ZdE] at q
 refine q.mono fun a h1 q1=>fun φ1 H1 u s1 r1 ra=>?_
 refine ⟨φ1,h1,ρ,x.step s1 r1,?_⟩
 rw [ZdE] at q1
 refine q1.mono fun b h2 q2=>fun φ2 H2 v s2 r2 rb=>?_
 exact i φ2 H2 h2 u v a b (s1.trans s2) ((x.step s1 r1).step s2 r2) (ra.step s2) rb (q2.mono fun w m k=>k.step (s1.trans s2))
theorem Zry {op:Operator}{o:Mem→W→W→Option W}{r:R2}(ho:OpR X (binaryOp op) r)(hw:OpW Z.T o r)(ha:PE X a (tH Z f))(hb:PE X b (tH Z g)):PE X (.BinOp a op b pos) (tH Z (Zbp o f g)):=
 (ZsR ho ha hb).imp fun σ H Q ⟨φ,m,ρ,x,q⟩=>two x q fun φ2 H2 h2 u v a b s y ra rb q2=>by
  obtain ⟨w,e,k⟩:=ofP q2
  exact hw φ2 h2 H2 a b u v w Q y.rh ra rb e k.end
theorem ZrH {op:CmpOp}{o:Mem→W→W→Option W}{r:R2}(ho:OpR X (compareOp op) r)(hw:OpW Z.T o r)(ha:PE X a (tH Z f))(hb:PE X b (tH Z g))(hm:behindInMarks op b=false):PE X (.Compare a [op] [b] pos) (tH Z (Zbp o f g)):=
 (Zo6 ho ha hb hm).imp fun σ H Q ⟨φ,m,ρ,x,q⟩=>two x q fun φ2 H2 h2 u v a b s y ra rb q2=>by
  obtain ⟨w,e,k⟩:=ofP q2
  exact hw φ2 h2 H2 a b u v w Q y.rh ra rb e k.end
theorem Zr6 {o:Mem→W→W→Option W}{r:R2}(ho:IxR X r)(hw:OpW Z.T o r)(ha:PE X a (tH Z f))(hb:PE X b (tH Z g))(hs:ZhB b):PE X (.Subscript a b pos) (tH Z (Zbp o f g)):=
 (Zsi ho ha hb hs).imp fun σ H Q ⟨φ,m,ρ,x,q⟩=>two x q fun φ2 H2 h2 u v a b s y ra rb q2=>by
  obtain ⟨w,e,k⟩:=ofP q2
  exact hw φ2 h2 H2 a b u v w Q y.rh ra rb e k.end
theorem Zr7 {op:UnaryOp}{o:Mem→W→Option W}{r:V→Hp→VK→Prop}(ho:UnR X (unaryOp op) r)(hw:UnW Z.T o r)(ha:PE X a (tH Z f)):PE X (.UnaryOp op a pos) (tH Z (xUn o f)):=
 (Zso ho ha).imp fun σ H Q ⟨φ,m,ρ,x,q⟩=>⟨φ,m,ρ,x,by
  unfold xUn at q
  rw [ZdE] at q
  refine q.mono fun a h1 q1=>fun φ1 H1 u s1 r1 ra=>?_
  obtain ⟨w,e,k⟩:=ofP q1
  exact hw φ1 h1 H1 a u w Q r1 ra e (k.step s1).end⟩
theorem Zha {T:CTb}{φ:List Addr}{H:Hp}{v:V}{c:Bool}(h:RW T φ H (.bl c) v):v=.bl c:=by unfold RW at h; exact h
theorem Zss {σ:St}{H:Hp}{Q:Bool→Hp→Prop}(h:tHT Z f σ H Q):tB (tH Z f) σ H Q:=by
 obtain ⟨φ,m,ρ,x,q⟩:=h
 refine ⟨φ,m,ρ,x,q.mono ?_⟩
 rintro w h1 ⟨b,rfl,k⟩ φ1 H1 v s1 r1 rw1
 exact ⟨b,Zha rw1,k φ1 H1 s1 r1⟩
theorem ZpD (h:PE X e (tH Z f))(he:∀ whole,isTrue e X.env whole=(do let v ← whole; standAt e.pos; holding [v] (truthy v)):=by intro _; rfl):PT X e (tHT Z f):=(Zrc h he).imp fun σ H Q q=>Zss q
theorem Zox {op:CmpOp}{o:Mem→W→W→Option W}{r:R2}(ho:OpR X (compareOp op) r)(hw:OpW Z.T o r)(ha:PE X a (tH Z f))(hb:PE X b (tH Z g))(hm:behindInMarks op b=false):PT X (.Compare a [op] [b] pos) (tHT Z (Zbp o f g)):=
 (ZnE ho ha hb hm).imp fun σ H Q ⟨φ,m,ρ,x,q⟩=>by
  have q':(Zbp o f g ρ m).post (Kv Z.T φ H fun v H'=>∃ k,v=.bl k∧Q k H') Z.xw:=q.mono (by
   rintro w h1 ⟨b,rfl,k⟩ φ1 H1 v s1 r1 rw1
   exact ⟨b,Zha rw1,k φ1 H1 s1 r1⟩)
  exact two x q' fun φ2 H2 h2 u v a b s y ra rb q2=>by
   obtain ⟨w,e,k⟩:=ofP q2
   exact hw φ2 h2 H2 a b u v w _ y.rh ra rb e k.end
theorem ZoS {σ:St}{H:Hp}{Q:Bool→Hp→Prop}(h:tHT Z (ZdY f g) σ H Q):Zta (tHT Z f) (tHT Z g) σ H Q:=by
 obtain ⟨φ,m,ρ,x,q⟩:=h
 refine ⟨φ,m,ρ,x,?_⟩
 unfold ZdY at q
 rw [ZdE] at q
 refine q.mono fun w h1 q1=>?_
 split at q1
 ·exact ⟨true,rfl,fun φ1 H1 s1 r1=>ZnR ⟨φ1,h1,ρ,x.step s1 r1,q1.mono fun w h2 ⟨b,e,k⟩=>⟨b,e,fun φ2 H2 s2 r2=>k φ2 H2 (s1.trans s2) r2⟩⟩⟩
 ·obtain ⟨b,e,k⟩:=q1
  cases e
  exact ⟨false,rfl,fun φ1 H1 s1 r1=>Zoh (k φ1 H1 s1 r1)⟩
 ·exact q1.elim
theorem Zrz {σ:St}{H:Hp}{Q:Bool→Hp→Prop}(h:tHT Z (xOr f g) σ H Q):tOr (tHT Z f) (tHT Z g) σ H Q:=by
 obtain ⟨φ,m,ρ,x,q⟩:=h
 refine ⟨φ,m,ρ,x,?_⟩
 unfold xOr at q
 rw [ZdE] at q
 refine q.mono fun w h1 q1=>?_
 split at q1
 ·obtain ⟨b,e,k⟩:=q1
  cases e
  exact ⟨true,rfl,fun φ1 H1 s1 r1=>ZnR (k φ1 H1 s1 r1)⟩
 ·exact ⟨false,rfl,fun φ1 H1 s1 r1=>Zoh ⟨φ1,h1,ρ,x.step s1 r1,q1.mono fun w h2 ⟨b,e,k⟩=>⟨b,e,fun φ2 H2 s2 r2=>k φ2 H2 (s1.trans s2) r2⟩⟩⟩
 ·exact q1.elim
theorem ZoZ {σ:St}{H:Hp}{Q:Bool→Hp→Prop}(h:tHT Z (ZdW f) σ H Q):Ztd (tHT Z f) σ H Q:=by
 obtain ⟨φ,m,ρ,x,q⟩:=h
 refine ⟨φ,m,ρ,x,?_⟩
 unfold ZdW at q
 rw [ZdE] at q
 refine q.mono fun w h1 q1=>?_
 split at q1
 ·obtain ⟨b,e,k⟩:=q1
  cases e
  exact ⟨_,rfl,k⟩
 ·exact q1.elim
theorem ZoX (h:PT X a (tHT Z f)):PT X (.UnaryOp .Not a pos) (tHT Z (ZdW f)):=(ZrM h).imp fun _ _ _ q=>ZoZ q
theorem ZlS (h:PT X a (tHT Z f)):PW X (.BoolOp .And [a] pos) (tHT Z f):=ZoM h
theorem Zo5 (h:PT X a (tHT Z f)):PW X (.BoolOp .Or [a] pos) (tHT Z f):=Zqp h
theorem Zn1 (ha:PT X a (tHT Z f))(hb:PW X (.BoolOp .And (b::rest) pos) (tHT Z g)):PW X (.BoolOp .And (a::b::rest) pos) (tHT Z (ZdY f g)):=(ZrI ha hb).imp fun _ _ _ q=>ZoS q
theorem ZrP (ha:PT X a (tHT Z f))(hb:PW X (.BoolOp .Or (b::rest) pos) (tHT Z g)):PW X (.BoolOp .Or (a::b::rest) pos) (tHT Z (xOr f g)):=(Zse ha hb).imp fun _ _ _ q=>Zrz q
theorem Zqt (ha:PE X a (tH Z f))(hb:PE X (.BoolOp .And (b::rest) pos) (tH Z g)):PE X (.BoolOp .And (a::b::rest) pos) (tH Z (ZdY f g)):=
 (ZqT ha hb).imp fun σ H Q ⟨φ,m,ρ,x,q⟩=>⟨φ,m,ρ,x,by
  unfold ZdY at q
  rw [ZdE] at q
  refine q.mono fun w h1 q1=>fun φ1 H1 v s1 r1 rw1=>?_
  split at q1
  ·exact ⟨true,Zha rw1,ZnR (⟨φ1,h1,ρ,x.step s1 r1,q1.mono fun w h2 k=>k.step s1⟩)⟩
  ·exact ⟨false,Zha rw1,Zoh (q1 φ1 H1 _ s1 r1 (by unfold RW; rfl))⟩
  ·exact q1.elim⟩
theorem ZqJ {op}(h:PE X a (tH Z f)):PE X (.BoolOp op [a] pos) (tH Z f):=Zrm h
theorem Zq8 (ha:PE X a (tH Z f)):PE X (.UnaryOp .Not a pos) (tH Z (ZdW f)):=
 (Zp4 ha).imp fun σ H Q ⟨φ,m,ρ,x,q⟩=>⟨φ,m,ρ,x,by
  unfold ZdW at q
  rw [ZdE] at q
  refine q.mono fun w h1 q1=>fun φ1 H1 v s1 r1 rw1=>?_
  split at q1
  ·exact ⟨_,Zha rw1,q1 φ1 H1 _ s1 r1 (by unfold RW; rfl)⟩
  ·exact q1.elim⟩
theorem Zpm:PA X [] (tHA Z ZbP):=pa_nil.imp fun σ H Q ⟨φ,m,ρ,x,q⟩=>q φ H [] (Step.refl _ _) x.rh (by unfold RWs; rfl)
theorem Zl2 (ha:PE X e (tH Z f))(hr:PA X es (tHA Z fa))(hs:starEach (e::es) X.env=(false,eval e X.env)::starEach es X.env:=by rfl):PA X (e::es) (tHA Z (Zan f fa)):=
 (Zcf ha hr hs).imp fun σ H Q ⟨φ,m,ρ,x,q⟩=>⟨φ,m,ρ,x,by
  unfold Zan at q
  cases e1:f ρ m with
  | no=>rw [e1] at q; exact q.elim
  | ex w h1=>rw [e1] at q; exact q
  | ok w h1=>
   rw [e1] at q
   intro φ1 H1 v s1 r1 rw1
   refine ⟨φ1,h1,ρ,x.step s1 r1,?_⟩
   simp only at q
   cases e2:fa ρ h1 with
   | no=>rw [e2] at q; exact q.elim
   | ex w2 h2=>rw [e2] at q; exact q
   | ok ws h2=>
    rw [e2] at q
    intro φ2 H2 vs s2 r2 rw2
    refine q φ2 H2 (v::vs) (s1.trans s2) r2 ?_
    unfold RWs
    exact ⟨v,vs,rfl,rw1.step s2,rw2⟩⟩
theorem RWs.length {T:CTb}{φ:List Addr}{H:Hp}:∀ {ws:List W} {vs:List V},RWs T φ H ws vs→ws.length=vs.length
 | [],vs,h=>by unfold RWs at h; subst h; rfl
 | w::ws,vs,h=>by
  unfold RWs at h
  obtain ⟨v,r,rfl,_,h⟩:=h
  simp [RWs.length h]
theorem Zp5 {x1}(h:PA X es (tHA Z fa)):PE X (.Tuple es x1 pos) (tH Z (Zef fa)):=
 (Zq9 h).imp fun σ H Q ⟨φ,m,ρ,x,q⟩=>⟨φ,m,ρ,x,by
  unfold Zef at q
  cases e1:fa ρ m with
  | no=>rw [e1] at q; exact q.elim
  | ex w h1=>rw [e1] at q; exact q
  | ok ws h1=>
   rw [e1] at q
   simp only at q
   split at q
   ·rename_i hz
    intro φ1 H1 vs s1 r1 rw1
    refine ⟨by rw [← rw1.length]; exact hz,fun p hp=>?_⟩
    have s2:=Zcg (φ:=φ1) (ho:=.tup vs) hp
    refine q φ1 _ _ (s1.trans s2) (r1.tmp hp) ?_
    unfold RW
    exact ⟨p,vs,rfl,r1.fresh hp,ZaD,rw1.step s2⟩
   ·exact q.elim⟩
theorem Zqn (h:PA X es (tHA Z fa)):PE X (.List es pos) (tH Z (Zeq fa)):=
 (ZmR h).imp fun σ H Q ⟨φ,m,ρ,x,q⟩=>⟨φ,m,ρ,x,by
  unfold Zeq at q
  cases e1:fa ρ m with
  | no=>rw [e1] at q; exact q.elim
  | ex w h1=>rw [e1] at q; exact q
  | ok ws h1=>
   rw [e1] at q
   simp only at q
   split at q
   ·rename_i hz
    intro φ1 H1 vs s1 r1 rw1
    refine ⟨by rw [← rw1.length]; exact hz,fun p hp=>?_⟩
    have s2:=Zcg (φ:=φ1) (ho:=.lst vs) hp
    refine q φ1 _ _ (s1.trans s2) (r1.tmp hp) ?_
    unfold RW
    exact ⟨p,vs,rfl,r1.fresh hp,ZeN,rw1.step s2⟩
   ·exact q.elim⟩
theorem Zoj (h:PA X es (tHA Z fa)):PE X (.List es pos) (tH Z (ZbB fa)):=
 (ZmR h).imp fun σ H Q ⟨φ,m,ρ,x,q⟩=>⟨φ,m,ρ,x,by
  unfold ZbB at q
  cases e1:fa ρ m with
  | no=>rw [e1] at q; exact q.elim
  | ex w h1=>rw [e1] at q; exact q
  | ok ws h1=>
   rw [e1] at q
   simp only at q
   split at q
   ·rename_i hz
    intro φ1 H1 vs s1 r1 rw1
    refine ⟨by rw [← rw1.length]; exact hz,fun p hp=>?_⟩
    refine q (φ1++[p]) _ _ (s1.trans (Zbw hp)) (r1.new hp (by unfold RO; exact ⟨vs,rfl,rw1⟩)) ?_
    unfold RW
    exact ⟨p,by rw [← r1.len]; simp,rfl⟩
   ·exact q.elim⟩
theorem Zrj {r:List V→Hp→VK→Prop}{o:Mem→List W→Option W}(hw:CbW Z.T o r)(h:∀ {t:TA},PA X es t→PE X e (tCB r t))(ha:PA X es (tHA Z fa)):PE X e (tH Z (xCb o fa)):=
 (h ha).imp fun σ H Q ⟨φ,m,ρ,x,q⟩=>⟨φ,m,ρ,x,by
  unfold xCb at q
  cases e1:fa ρ m with
  | no=>rw [e1] at q; exact q.elim
  | ex w h1=>rw [e1] at q; exact q
  | ok ws h1=>
   rw [e1] at q
   intro φ1 H1 vs s1 r1 rw1
   obtain ⟨w,e,k⟩:=ofP q
   exact hw φ1 h1 H1 ws vs w Q r1 rw1 e (k.step s1).end⟩
end
end M
namespace M
open PySem PySem.Spec PyProof.Rows L2
inductive Out where
 | nx (ρ:Sg) (h:Mem) | rt (w:W) (h:Mem) | bk (ρ:Sg) (h:Mem) | ct (ρ:Sg) (h:Mem) | ex (w:W) (h:Mem) | no
abbrev Sm:=Sg→Mem→Out
def Ks (Z:Zc)(φ:List Addr)(H:Hp)(n:St→Hp→Prop):Sg→Mem→Prop:=fun ρ' h'=>∀ φ' H' σ',Step φ H φ' H'→RH Z.T φ' h' H'→RS Z.T φ' H' ρ' σ'→Z.sg σ'→n σ' H'
def Out.post (Z:Zc)(φ:List Addr)(H:Hp)(D:Ends):Out→Prop
 | .nx ρ h=>Ks Z φ H D.nx ρ h
 | .rt w h=>Kv Z.T φ H D.rt w h
 | .bk ρ h=>Ks Z φ H D.bk ρ h
 | .ct ρ h=>Ks Z φ H D.ct ρ h
 | .ex w h=>Z.xw w h
 | .no=>False
theorem Ks.step {Z:Zc}{φ φ':List Addr}{H H':Hp}{n:St→Hp→Prop}{ρ:Sg}{h:Mem}(k:Ks Z φ H n ρ h)(s:Step φ H φ' H'):Ks Z φ' H' n ρ h:=fun φ2 H2 σ t r x g=>k φ2 H2 σ (s.trans t) r x g
theorem ZaI {Z:Zc}{φ φ':List Addr}{H H':Hp}{D:Ends}{o:Out}(k:o.post Z φ H D)(s:Step φ H φ' H'):o.post Z φ' H' D:=by
 cases o with
 | nx ρ h=>exact Ks.step k s
 | rt w h=>exact Kv.step k s
 | bk ρ h=>exact Ks.step k s
 | ct ρ h=>exact Ks.step k s
 | ex w h=>exact k
 | no=>exact k
def tHS (Z:Zc)(F:Sm):TS:=fun D σ H=>∃ φ h ρ,Here Z σ H φ h ρ∧(F ρ h).post Z φ H D
def Zbv:Sm:=fun ρ h=>.nx ρ h
def Zcc (F G:Sm):Sm:=fun ρ h=>match F ρ h with
 | .nx ρ' h'=>G ρ' h'
 | o=>o
def Zcl (c:Ex)(F G:Sm):Sm:=fun ρ h=>match c ρ h with
 | .ok (.bl true) h'=>F ρ h'
 | .ok (.bl false) h'=>G ρ h'
 | .ex w h'=>.ex w h'
 | _=>.no
def ZdT (f:Ex):Sm:=fun ρ h=>match f ρ h with
 | .ok w h'=>.rt w h'
 | .ex w h'=>.ex w h'
 | .no=>.no
def Zbq (f:Ex):Sm:=fun ρ h=>match f ρ h with
 | .ok _ h'=>.nx ρ h'
 | .ex w h'=>.ex w h'
 | .no=>.no
abbrev Tg:=W→Sg→Option Sg
def gN (i:Nat):Tg:=fun w ρ=>some (ρ.set i (some w))
def TgW (Z:Zc)(g:TG)(G:Tg):Prop:=∀ σ H φ h ρ w v ρ' Q,Here Z σ H φ h ρ→RW Z.T φ H w v→G w ρ=some ρ'→(∀ σ',RS Z.T φ H ρ' σ'→Z.sg σ'→Q σ' H)→g v σ H Q
theorem Zbt {Z:Zc}{i:Nat}(hsg:∀ σ v,Z.sg σ→Z.sg (σ.set i (some v))):TgW Z (Zjp i) (gN i):=fun σ H φ h ρ w v ρ' Q x r e k=>by
 cases e
 exact k _ (x.rs.set r) (hsg _ _ x.sg)
def ZcW (G:Tg)(f:Ex):Sm:=fun ρ h=>match f ρ h with
 | .ok w h'=>(match G w ρ with
  | some ρ'=>.nx ρ' h'
  | none=>.no)
 | .ex w h'=>.ex w h'
 | .no=>.no
def ZaC (G:Tg)(B:Sm):List W→Sm
 | [],ρ,h=>.nx ρ h
 | w::r,ρ,h=>match G w ρ with
  | none=>.no
  | some ρ1=>(match B ρ1 h with
   | .nx ρ' h'=>ZaC G B r ρ' h'
   | .ct ρ' h'=>ZaC G B r ρ' h'
   | .bk ρ' h'=>.nx ρ' h'
   | o=>o)
inductive RsI where
 | ok (src:Option Nat) (ws:List W) (h:Mem) | ex (w:W) (h:Mem) | no
abbrev Ei:=Sg→Mem→RsI
def ZnW (src:Option Nat)(ws:List W)(h:Mem):Prop:=match src with
 | none=>True
 | some n=>h[n]? = some (.lst ws)
structure ItOk (T:CTb)(φ:List Addr)(H:Hp)(J:It)(ws:List W)(P:Mem→Prop):Prop where
 go:∀ φ2 H2 h2 (i:Nat) w,Step φ H φ2 H2→RH T φ2 h2 H2→P h2→ws[i]? = some w→J.go i H2
 yld:∀ φ2 H2 h2 (i:Nat) w x H',Step φ H φ2 H2→RH T φ2 h2 H2→P h2→ws[i]? = some w→J.yld i H2 x H'→H'=H2∧RW T φ2 H2 w x
 stop:∀ φ2 H2 h2,Step φ H φ2 H2→RH T φ2 h2 H2→P h2→J.stop ws.length H2
def tHI (Z:Zc)(f:Ei):TI:=fun σ H R=>∃ φ h ρ,Here Z σ H φ h ρ∧match f ρ h with
 | .ok src ws h'=>∀ φ' H' J,Step φ H φ' H'→RH Z.T φ' h' H'→ZnW src ws h'→ItOk Z.T φ' H' J ws (ZnW src ws)→R J H'
 | .ex w h'=>Z.xw w h'
 | .no=>False
def Zer (f:Ei)(G:Tg)(B:Sm):Sm:=fun ρ h=>match f ρ h with
 | .ok none ws h'=>ZaC G B ws ρ h'
 | .ex w h'=>.ex w h'
 | _=>.no
section
variable {X:Cx} {Z:Zc} {f g k:Ex} {fa:Exs} {e a b c:Expr} {es:List Expr} {pos:Pos} {F G B:Sm} {st:Stmt} {rest sts body:List Stmt} {fi:Ei} {tg iter:Expr}
theorem _root_.L2.PS.imp {t t':TS}(h:PS X st t)(i:∀ D σ H,t' D σ H→t D σ H):PS X st t':=fun pins s σ H D I q=>h pins s σ H D I (i D σ H q)
theorem _root_.L2.PSs.imp {t t':TS}(h:PSs X sts t)(i:∀ D σ H,t' D σ H→t D σ H):PSs X sts t':=fun pins s σ H D I q=>h pins s σ H D I (i D σ H q)
theorem _root_.L2.PI.imp {t t':TI}(h:PI X tg iter t)(i:∀ σ H R,t' σ H R→t σ H R):PI X tg iter t':=fun pins s σ H R I q=>h pins s σ H R I (i σ H R q)
theorem Here.nx {σ:St}{H:Hp}{φ:List Addr}{h:Mem}{ρ:Sg}{n:St→Hp→Prop}(x:Here Z σ H φ h ρ)(q:Ks Z φ H n ρ h):n σ H:=q φ H σ (Step.refl _ _) x.rh x.rs x.sg
theorem ZlW:PSs X [] (tHS Z Zbv):=pss_nil.imp fun D σ H ⟨φ,h,ρ,x,q⟩=>x.nx q
theorem ZqR {D:Ends}{σ:St}{H:Hp}(h:tHS Z (Zcc F G) D σ H):ZsV (tHS Z F) (tHS Z G) D σ H:=by
 obtain ⟨φ,h,ρ,x,q⟩:=h
 refine ⟨φ,h,ρ,x,?_⟩
 unfold Zcc at q
 cases e:F ρ h with
 | nx ρ' h'=>
  rw [e] at q
  intro φ1 H1 σ1 s1 r1 rs1 g1
  exact ⟨φ1,h',ρ',⟨g1,x.st.trans s1,r1,rs1⟩,ZaI q s1⟩
 | rt w h'=>rw [e] at q; exact q
 | bk ρ' h'=>rw [e] at q; exact q
 | ct ρ' h'=>rw [e] at q; exact q
 | ex w h'=>rw [e] at q; exact q
 | no=>rw [e] at q; exact q
theorem Zj9 (h1:PS X st (tHS Z F))(h2:PSs X rest (tHS Z G)):PSs X (st::rest) (tHS Z (Zcc F G)):=(Zie h1 h2).imp fun D σ H q=>ZqR q
theorem ZlJ (h1:PS X st (tHS Z F)):PSs X [st] (tHS Z F):=Zke h1
theorem Zpf (he:PE X e (tH Z f)):PS X (.Return (some e) pos) (tHS Z (ZdT f)):=(ZqX he).imp fun D σ H ⟨φ,h,ρ,x,q⟩=>⟨φ,h,ρ,x,by
 unfold ZdT at q
 cases e:f ρ h with
 | ok w h'=>rw [e] at q; exact q
 | ex w h'=>rw [e] at q; exact q
 | no=>rw [e] at q; exact q⟩
theorem Zl1 (he:PE X e (tH Z f))(hs:swapsWith e none pos.line X.env=pure false:=by rfl):PS X (.Expr e pos) (tHS Z (Zbq f)):=(Zli he hs).imp fun D σ H ⟨φ,h,ρ,x,q⟩=>⟨φ,h,ρ,x,by
 unfold Zbq at q
 cases e:f ρ h with
 | ok w h'=>rw [e] at q; exact fun φ1 H1 v s1 r1 _=>q φ1 H1 σ s1 r1 (x.rs.step s1) x.sg
 | ex w h'=>rw [e] at q; exact q
 | no=>rw [e] at q; exact q⟩
theorem ZqV (hc:PT X c (tHT Z f))(ha:PSs X sts (tHS Z F))(hb:PSs X rest (tHS Z G)):PS X (.If c sts rest pos) (tHS Z (Zcl f F G)):=(Zst hc ha hb).imp fun D σ H ⟨φ,h,ρ,x,q⟩=>⟨φ,h,ρ,x,by
 unfold Zcl at q
 cases e:f ρ h with
 | ok w h'=>
  rw [e] at q
  cases w with
  | bl b=>
   cases b with
   | true=>exact ⟨true,rfl,fun φ1 H1 s1 r1=>ZnR ⟨φ1,h',ρ,x.step s1 r1,ZaI q s1⟩⟩
   | false=>exact ⟨false,rfl,fun φ1 H1 s1 r1=>Zoh ⟨φ1,h',ρ,x.step s1 r1,ZaI q s1⟩⟩
  | _=>exact q.elim
 | ex w h'=>rw [e] at q; exact q
 | no=>rw [e] at q; exact q⟩
theorem ZjE {gg:TG}{Gt:Tg}(hw:TgW Z gg Gt){D:Ends}{σ:St}{H:Hp}(h:tHS Z (ZcW Gt f) D σ H):Zs4 (tH Z f) gg D σ H:=by
 obtain ⟨φ,h,ρ,x,q⟩:=h
 refine ⟨φ,h,ρ,x,?_⟩
 unfold ZcW at q
 cases e:f ρ h with
 | ok w h'=>
  rw [e] at q
  intro φ1 H1 v s1 r1 rw1
  simp only at q
  cases e2:Gt w ρ with
  | none=>rw [e2] at q; exact q.elim
  | some ρ'=>
   rw [e2] at q
   exact hw σ H1 φ1 h' ρ w v ρ' _ (x.step s1 r1) rw1 e2 fun σ' rs g=>q φ1 H1 σ' s1 r1 rs g
 | ex w h'=>rw [e] at q; exact q
 | no=>rw [e] at q; exact q
theorem ZnG {i:Nat}{x:Str}{pos':Pos}(hN:X.N.Nodup)(hi:X.N[i]? = some x)(hx:Loc X.env.scope x)(hsg:∀ σ v,Z.sg σ→Z.sg (σ.set i (some v)))(he:PE X e (tH Z f))(hs:swapsWith e (some (.Name x pos')) pos.line X.env=pure false:=by rfl)
  (hf:X.fn x=true∨X.env.scope.names.lookup x=some .local:=by first | exact .inl rfl | exact .inr rfl | assumption):PS X (.Assign [.Name x pos'] e pos) (tHS Z (ZcW (gN i) f)):=(Zrq hN hi hx he hs hf).imp fun D σ H q=>ZjE (Zbt hsg) q
theorem Zf7 {gg:TG}{Gt:Tg}(hw:TgW Z gg Gt){J:It}{D:Ends}{ws:List W}{φ1:List Addr}{H1:Hp}{h1:Mem}{σ:St}{ρ:Sg}(x:Here Z σ H1 φ1 h1 ρ)(it:ItOk Z.T φ1 H1 J ws fun _=>True)(q:(ZaC Gt B ws ρ h1).post Z φ1 H1 D) :
  ∃ Wd:Nat→Nat→St→Hp→Prop,(∃ m,Wd 0 m σ H1)∧∀ i m σ H,Wd i m σ H→(J.stop i H∧D.nx σ H)∨(J.go i H∧∃ N:St→Hp→Prop,(∀ σ' H',N σ' H'→∃ m',m'<m∧Wd (i+1) m' σ' H') ∧
   ∀ v H',J.yld i H v H'→gg v σ H' fun σ2 H2=>tHS Z B { D with nx:=N,ct:=N,bk:=D.nx } σ2 H2):=by
 refine ⟨fun i m σ H=>m=ws.length - i∧i≤ws.length∧∃ φ h ρ,Step φ1 H1 φ H∧Here Z σ H φ h ρ∧(ZaC Gt B (ws.drop i) ρ h).post Z φ H D,⟨ws.length,by simp,Nat.zero_le _,φ1,h1,ρ,Step.refl _ _,x,q⟩,?_⟩
 rintro i m σ H ⟨rfl,hi,φ,h,ρ,s,y,q⟩
 by_cases hlt:i<ws.length
 ·have ed:ws.drop i=ws[i]::ws.drop (i+1):=List.drop_eq_getElem_cons hlt
  have ei:ws[i]? = some ws[i]:=by simp [hlt]
  refine .inr ⟨it.go φ H h i _ s y.rh trivial ei,fun σ' H'=>i+1≤ws.length∧∃ φ h ρ,Step φ1 H1 φ H'∧Here Z σ' H' φ h ρ∧(ZaC Gt B (ws.drop (i+1)) ρ h).post Z φ H' D,fun σ' H' p=>⟨ws.length - (i+1),by omega,rfl,p⟩,fun v H' yl=>?_⟩
  obtain ⟨rfl,rw1⟩:=it.yld φ H h i _ v H' s y.rh trivial ei yl
  rw [ed] at q
  unfold ZaC at q
  cases e2:Gt ws[i] ρ with
  | none=>rw [e2] at q; exact q.elim
  | some ρ'=>
   rw [e2] at q
   simp only at q
   refine hw σ H' φ h ρ _ v ρ' _ y rw1 e2 fun σ' rs g=>⟨φ,h,ρ',⟨g,y.st,y.rh,rs⟩,?_⟩
   cases e3:B ρ' h with
   | nx ρ2 h2=>
    rw [e3] at q
    exact fun φ2 H2 σ2 s2 r2 rs2 g2=>⟨hlt,φ2,h2,ρ2,s.trans s2,⟨g2,y.st.trans s2,r2,rs2⟩,ZaI q s2⟩
   | ct ρ2 h2=>
    rw [e3] at q
    exact fun φ2 H2 σ2 s2 r2 rs2 g2=>⟨hlt,φ2,h2,ρ2,s.trans s2,⟨g2,y.st.trans s2,r2,rs2⟩,ZaI q s2⟩
   | bk ρ2 h2=>rw [e3] at q; exact q
   | rt w2 h2=>rw [e3] at q; exact q
   | ex w2 h2=>rw [e3] at q; exact q
   | no=>rw [e3] at q; exact q.elim
 ·have e:i=ws.length:=by omega
  subst e
  rw [List.drop_length] at q
  exact .inl ⟨it.stop φ H h s y.rh trivial,y.nx q⟩
theorem Zqz {gg:TG}{Gt:Tg}(hw:TgW Z gg Gt){D:Ends}{σ:St}{H:Hp}(h:tHS Z (Zer fi Gt B) D σ H):ZsG (tHI Z fi) gg (tHS Z B) D σ H:=by
 obtain ⟨φ,h,ρ,x,q⟩:=h
 refine ⟨φ,h,ρ,x,?_⟩
 unfold Zer at q
 cases e:fi ρ h with
 | no=>rw [e] at q; exact q.elim
 | ex w h'=>rw [e] at q; exact q
 | ok src ws h'=>
  rw [e] at q
  cases src with
  | some n=>exact q.elim
  | none=>exact fun φ1 H1 J s1 r1 _ it=>Zf7 hw (x.step s1 r1) it (ZaI q s1)
theorem ZoF {gg:TG}{Gt:Tg}(hw:TgW Z gg Gt)(hp:PassesOwn (model X.prog X.w) X.A X.env X.xe)(hc:X.calm=true)(hi:PI X tg iter (tHI Z fi))(hg:PG X tg gg)(hb:PSs X body (tHS Z B))(hs:∀ x,foldedSetIterable iter X.env x=pure x:=by intro _; rfl) :
  PS X (.For tg iter body [] pos) (tHS Z (Zer fi Gt B)):=(Zk4 hp hc hi hg hb hs).imp fun D σ H q=>Zqz hw q
def xIl (f:Ex):Ei:=fun ρ h=>match f ρ h with
 | .ok (.tl ws) h'=>.ok none ws h'
 | .ok (.ref n) h'=>(match h'[n]? with
  | some (.lst ws)=>.ok (some n) ws h'
  | _=>.no)
 | .ex w h'=>.ex w h'
 | _=>.no
theorem Zdi {T:CTb}{φ:List Addr}{H:Hp}:∀ {ws:List W} {vs:List V} {i:Nat} {w:W},RWs T φ H ws vs→ws[i]? = some w→∃ v,vs[i]? = some v∧RW T φ H w v
 | [],_,_,_,_,e=>by simp at e
 | w::ws,vs,i,u,h,e=>by
  unfold RWs at h
  obtain ⟨v,r,rfl,a,b⟩:=h
  cases i with
  | zero=>simp at e; subst e; exact ⟨v,by simp,a⟩
  | succ i=>
   obtain ⟨x,p,q⟩:=Zdi (i:=i) b (by simpa using e)
   exact ⟨x,by simpa using p,q⟩
theorem ZlM (h:PE X iter (tH Z f)):PI X tg iter (tHI Z (xIl f)):=by
 intro pins s σ H R I q
 have base:∀ b o,X.base.get? b=some o→H b=none:=fun b o e=>(I.bs b o e).2
 refine Zor h pins s σ H R I ?_
 obtain ⟨φ,m,ρ,x,q⟩:=q
 refine ⟨φ,m,ρ,x,?_⟩
 unfold xIl at q
 cases e:f ρ m with
 | no=>rw [e] at q; exact q.elim
 | ex w h'=>rw [e] at q; exact q
 | ok w h'=>
  rw [e] at q
  intro φ1 H1 v s1 r1 rw1
  cases w with
  | tl ws=>
   unfold RW at rw1
   obtain ⟨p,vs,rfl,np,hp,rws⟩:=rw1
   refine ⟨p,rfl,⟨vs,Zav hp⟩,q φ1 H1 _ s1 r1 trivial ?_⟩
   obtain ⟨o,ho,ko⟩:=Ze0 hp
   refine ⟨fun φ2 H2 h2 i w s2 r2 _ ei=>?_,fun φ2 H2 h2 i w y H' s2 r2 _ ei yl=>?_,fun φ2 H2 h2 s2 r2 _=>?_⟩
   ·obtain ⟨v,ev,_⟩:=Zdi rws ei
    exact ⟨vs,v,Zav (ko H2 (s2.keep _ _ ho np)),ev⟩
   ·obtain ⟨v,ev,rv⟩:=Zdi rws ei
    obtain ⟨rfl,z⟩:=yl
    have:=z vs (Zav (ko _ (s2.keep _ _ ho np)))
    rw [ev] at this; cases this
    exact ⟨rfl,rv.step s2⟩
   ·exact ⟨vs,Zav (ko H2 (s2.keep _ _ ho np)),by rw [rws.length]; exact Nat.le_refl _⟩
  | ref n=>
   simp only at q
   cases e2:h'[n]? with
   | none=>rw [e2] at q; exact q.elim
   | some o=>
    rw [e2] at q
    cases o with
    | lst ws=>
     simp only at q
     unfold RW at rw1
     obtain ⟨p,hp,rfl⟩:=rw1
     have rd:∀ φ2 H2 h2,Step φ1 H1 φ2 H2→RH Z.T φ2 h2 H2→h2[n]? = some (.lst ws)→∃ vs,H2 p=some (.lst vs)∧RWs Z.T φ2 H2 ws vs:=fun φ2 H2 h2 s2 r2 e3=>by
      obtain ⟨ho,y1,y2⟩:=r2.obj n _ p e3 (s2.get hp)
      obtain ⟨vs,rfl,y3⟩:=y2
      exact ⟨vs,y1,y3⟩
     obtain ⟨vs,hv,rws⟩:=rd φ1 H1 h' (Step.refl _ _) r1 e2
     refine ⟨p,rfl,⟨vs,Zav (Zbj hv)⟩,q φ1 H1 _ s1 r1 e2 ⟨fun φ2 H2 h2 i w s2 r2 e3 ei=>?_,fun φ2 H2 h2 i w y H' s2 r2 e3 ei yl=>?_,fun φ2 H2 h2 s2 r2 e3=>?_⟩⟩
     ·obtain ⟨vs2,hv2,rws2⟩:=rd φ2 H2 h2 s2 r2 e3
      obtain ⟨v,ev,_⟩:=Zdi rws2 ei
      exact ⟨vs2,v,Zav (Zbj hv2),ev⟩
     ·obtain ⟨vs2,hv2,rws2⟩:=rd φ2 H2 h2 s2 r2 e3
      obtain ⟨v,ev,rv⟩:=Zdi rws2 ei
      obtain ⟨rfl,z⟩:=yl
      have:=z vs2 (Zav (Zbj hv2))
      rw [ev] at this; cases this
      exact ⟨rfl,rv⟩
     ·obtain ⟨vs2,hv2,rws2⟩:=rd φ2 H2 h2 s2 r2 e3
      exact ⟨vs2,Zav (Zbj hv2),by rw [rws2.length]; exact Nat.le_refl _⟩
    | _=>exact q.elim
  | _=>exact q.elim
def ZdD (lo:Int)(n:Nat):List W:=(List.range n).map fun (i:Nat)=>.int (lo+(i:Int))
theorem ZdU {lo:Int}{n i:Nat}{w:W}(h:(ZdD lo n)[i]? = some w):i<n∧w=.int (lo+i):=by
 unfold ZdD at h
 rw [List.getElem?_map] at h
 by_cases hi:i<n
 ·rw [List.getElem?_range hi] at h
  simp at h
  exact ⟨hi,h.symm⟩
 ·rw [List.getElem?_eq_none (by simpa using hi)] at h
  cases h
theorem Znj {T:CTb}{φ:List Addr}{H:Hp}{lo:Int}{n:Nat}{P:Mem→Prop}:ItOk T φ H (Itr lo n) (ZdD lo n) P:=
 ⟨fun φ2 H2 h2 i w s2 r2 _ ei=>(ZdU ei).1,fun φ2 H2 h2 i w y H' s2 r2 _ ei yl=>⟨yl.1,by rw [(ZdU ei).2,yl.2]; unfold RW; rfl⟩,fun φ2 H2 h2 s2 r2 _=>by show n≤_; simp [ZdD]⟩
def Zeo (f:Ex):Ei:=fun ρ h=>match f ρ h with
 | .ok (.int j) h'=>cond (decide (-(2 ^ 62)≤j) && decide (j<2 ^ 62)) (.ok none (ZdD 0 j.toNat) h') .no
 | .ex w h'=>.ex w h'
 | _=>.no
theorem ZbC {T:CTb}{φ:List Addr}{H:Hp}{v:V}{c:Int}(h:RW T φ H (.int c) v):v=.int c:=by unfold RW at h; exact h
theorem Zc6 {T:CTb}{φ:List Addr}{H:Hp}{v:V}{c:Str}(h:RW T φ H (.str c) v):v=.str c:=by unfold RW at h; exact h
theorem Zjf {p:Pos}(hg:Gl X "range")(hm:X.mg "range"=none)(ha:PE X a (tH Z f))(hs:starEach [a] X.env=[(false,eval a X.env)]:=by rfl):PI X tg (.Call (.Name "range" p) [a] [] pos) (tHI Z (Zeo f)):=
 (ZjO hg hm (Zcf ha pa_nil hs) hs).imp fun σ H R ⟨φ,m,ρ,x,q⟩=>⟨φ,m,ρ,x,by
  unfold Zeo at q
  cases e:f ρ m with
  | no=>rw [e] at q; exact q.elim
  | ex w h'=>rw [e] at q; exact q
  | ok w h'=>
   rw [e] at q
   intro φ1 H1 v s1 r1 rw1
   cases w with
   | int j=>
    simp only at q
    cases hj:(decide (-(2 ^ 62)≤j) && decide (j<2 ^ 62)) with
    | true=>
     rw [hj] at q
     simp only [Bool.and_eq_true,decide_eq_true_eq] at hj
     rw [ZbC rw1]
     exact ⟨j,rfl,hj.1,hj.2,q φ1 H1 _ s1 r1 trivial Znj⟩
    | false=>
     rw [hj] at q
     exact q.elim
   | _=>exact q.elim⟩
def ZrT (f g:Ex):Ei:=fun ρ h=>match f ρ h with
 | .ok (.int i) h1=>(match g ρ h1 with
  | .ok (.int j) h2=>cond ((decide (-(2 ^ 62)≤i) && decide (i<2 ^ 62)) && (decide (-(2 ^ 62)≤j) && decide (j<2 ^ 62))) (.ok none (ZdD i (j - i).toNat) h2) .no
  | .ex w h'=>.ex w h'
  | _=>.no)
 | .ex w h'=>.ex w h'
 | _=>.no
theorem Zi5 {p:Pos}(hg:Gl X "range")(hm:X.mg "range"=none)(ha:PE X a (tH Z f))(hb:PE X b (tH Z g))(hs:starEach [a,b] X.env=[(false,eval a X.env),(false,eval b X.env)]:=by rfl)(hs2:starEach [b] X.env=[(false,eval b X.env)]:=by rfl):PI X tg (.Call (.Name "range" p) [a,b] [] pos) (tHI Z (ZrT f g)):=
 (ZjG hg hm (Zcf ha (Zcf hb pa_nil hs2) (by rw [hs,hs2])) hs hs2).imp fun σ H R ⟨φ,m,ρ,x,q⟩=>⟨φ,m,ρ,x,by
  unfold ZrT at q
  cases e:f ρ m with
  | no=>rw [e] at q; exact q.elim
  | ex w h'=>rw [e] at q; exact q
  | ok w h'=>
   rw [e] at q
   intro φ1 H1 v s1 r1 rw1
   cases w with
   | int i=>
    simp only at q
    refine ⟨φ1,h',ρ,x.step s1 r1,?_⟩
    cases e2:g ρ h' with
    | no=>rw [e2] at q; exact q.elim
    | ex w h2=>rw [e2] at q; exact q
    | ok w h2=>
     rw [e2] at q
     intro φ2 H2 v2 s2 r2 rw2
     cases w with
     | int j=>
      simp only at q
      cases hj:((decide (-(2 ^ 62)≤i) && decide (i<2 ^ 62)) && (decide (-(2 ^ 62)≤j) && decide (j<2 ^ 62))) with
      | true=>
       rw [hj] at q
       simp only [Bool.and_eq_true,decide_eq_true_eq] at hj
       rw [ZbC rw1,ZbC rw2]
       exact ⟨i,j,rfl,⟨hj.1.1,hj.1.2,hj.2.1,hj.2.2⟩,q φ2 H2 _ (s1.trans s2) r2 trivial Znj⟩
      | false=>
       rw [hj] at q
       exact q.elim
     | _=>exact q.elim
   | _=>exact q.elim⟩
end
end M
namespace M
open PySem PySem.Spec PyProof.Rows L2
mutual
def ltW (k:Nat):W→Bool
 | .ref n=>decide (n<k)
 | .tup ws=>ZdK k ws
 | .tl ws=>ZdK k ws
 | .td _ ws=>ZdK k ws
 | .ti _ _ ws=>ZdK k ws
 | .exc _ _ ws=>ZdK k ws
 | .non=>true
 | .bl _=>true
 | .int _=>true
 | .str _=>true
 | .ty _=>true
 | .cls _=>true
def ZdK (k:Nat):List W→Bool
 | []=>true
 | w::ws=>ltW k w && ZdK k ws
end
def ltO (k:Nat):O→Bool
 | .lst ws=>ZdK k ws
 | .dic kvs=>ZdK k (kvs.map (·.2))
 | .fdic kvs=>ZdK k (kvs.map (·.2))
 | .ins _ fs=>ZdK k (fs.map (·.2))
section
variable {T:CTb} {φ φ':List Addr} {H H':Hp}
mutual
theorem RW.lt:∀ {w:W} {v:V},RW T φ H w v→ltW φ.length w=true
 | .non,v,h=>by unfold ltW; rfl
 | .bl b,v,h=>by unfold ltW; rfl
 | .int i,v,h=>by unfold ltW; rfl
 | .str x,v,h=>by unfold ltW; rfl
 | .ty n,v,h=>by unfold ltW; rfl
 | .cls c,v,h=>by unfold ltW; rfl
 | .ref n,v,h=>by
  unfold RW at h; unfold ltW
  obtain ⟨a,e,q⟩:=h
  exact decide_eq_true (List.getElem?_eq_some_iff.mp e).1
 | .tup ws,v,h=>by
  unfold RW at h; unfold ltW
  obtain ⟨p,vs,e,n,q,r⟩:=h
  exact RWs.lt r
 | .tl ws,v,h=>by
  unfold RW at h; unfold ltW
  obtain ⟨p,vs,e,n,q,r⟩:=h
  exact RWs.lt r
 | .td ks ws,v,h=>by
  unfold RW at h; unfold ltW
  obtain ⟨p,vs,e,n,q,l,r⟩:=h
  exact RWs.lt r
 | .ti c fs ws,v,h=>by
  unfold RW at h; unfold ltW
  obtain ⟨p,C,dx,vs,e,n,c,q,l,r⟩:=h
  exact RWs.lt r
 | .exc c fs ws,v,h=>by
  unfold RW at h; unfold ltW
  obtain ⟨e,C,d,vs,q,n,c,x,l,m,r⟩:=h
  exact RWs.lt r
theorem RWs.lt:∀ {ws:List W} {vs:List V},RWs T φ H ws vs→ZdK φ.length ws=true
 | [],vs,h=>by unfold ZdK; rfl
 | w::ws,vs,h=>by
  unfold RWs at h; unfold ZdK
  obtain ⟨v,r,e,a,b⟩:=h
  rw [RW.lt a,RWs.lt b]; rfl
end
mutual
theorem RW.narrow (pre:φ <+: φ'):∀ {w:W} {v:V},ltW φ.length w=true→RW T φ' H w v→RW T φ H w v
 | .non,v,l,h=>by unfold RW at h ⊢; exact h
 | .bl b,v,l,h=>by unfold RW at h ⊢; exact h
 | .int i,v,l,h=>by unfold RW at h ⊢; exact h
 | .str x,v,l,h=>by unfold RW at h ⊢; exact h
 | .ty n,v,l,h=>by unfold RW at h ⊢; exact h
 | .cls c,v,l,h=>by unfold RW at h ⊢; exact h
 | .ref n,v,l,h=>by
  unfold RW at h ⊢; unfold ltW at l
  obtain ⟨a,e,q⟩:=h
  refine ⟨a,?_,q⟩
  obtain ⟨t,rfl⟩:=pre
  rw [List.getElem?_append_left (of_decide_eq_true l)] at e
  exact e
 | .tup ws,v,l,h=>by
  unfold RW at h ⊢; unfold ltW at l
  obtain ⟨p,vs,e,n,q,r⟩:=h
  exact ⟨p,vs,e,fun z=>n (pre.subset z),q,RWs.narrow pre l r⟩
 | .tl ws,v,l,h=>by
  unfold RW at h ⊢; unfold ltW at l
  obtain ⟨p,vs,e,n,q,r⟩:=h
  exact ⟨p,vs,e,fun z=>n (pre.subset z),q,RWs.narrow pre l r⟩
 | .td ks ws,v,l,h=>by
  unfold RW at h ⊢; unfold ltW at l
  obtain ⟨p,vs,e,n,q,g,r⟩:=h
  exact ⟨p,vs,e,fun z=>n (pre.subset z),q,g,RWs.narrow pre l r⟩
 | .ti c fs ws,v,l,h=>by
  unfold RW at h ⊢; unfold ltW at l
  obtain ⟨p,C,dx,vs,e,n,c,q,g,r⟩:=h
  exact ⟨p,C,dx,vs,e,fun z=>n (pre.subset z),c,q,g,RWs.narrow pre l r⟩
 | .exc c fs ws,v,l,h=>by
  unfold RW at h ⊢; unfold ltW at l
  obtain ⟨e,C,d,vs,q,n,c,x,g,m,r⟩:=h
  refine ⟨e,C,d,vs,q,fun z=>n (pre.subset z),c,x,g,?_,RWs.narrow pre l r⟩
  cases d with
  | none=>exact m
  | some da=>exact ⟨fun z=>m.1 (pre.subset z),m.2⟩
theorem RWs.narrow (pre:φ <+: φ'):∀ {ws:List W} {vs:List V},ZdK φ.length ws=true→RWs T φ' H ws vs→RWs T φ H ws vs
 | [],vs,l,h=>by unfold RWs at h ⊢; exact h
 | w::ws,vs,l,h=>by
  unfold RWs at h ⊢; unfold ZdK at l
  rw [Bool.and_eq_true] at l
  obtain ⟨v,r,e,a,b⟩:=h
  exact ⟨v,r,e,RW.narrow pre l.1 a,RWs.narrow pre l.2 b⟩
end
theorem ZoD {κ:Type}{ps:List (κ×W)}{qs:List (κ×V)}(h:RP T φ H ps qs):ZdK φ.length (ps.map (·.2))=true:=by
 induction h with
 | nil=>unfold ZdK; rfl
 | cons a _ ih=>rw [List.map_cons]; unfold ZdK; rw [RW.lt a.2,ih]; rfl
theorem Zfc {κ:Type}(pre:φ <+: φ'){ps:List (κ×W)}{qs:List (κ×V)}(l:ZdK φ.length (ps.map (·.2))=true)(h:RP T φ' H ps qs):RP T φ H ps qs:=by
 induction h with
 | nil=>exact .nil
 | cons a _ ih=>
  rw [List.map_cons] at l; unfold ZdK at l
  rw [Bool.and_eq_true] at l
  exact .cons ⟨a.1,RW.narrow pre l.1 a.2⟩ (ih l.2)
theorem RO.lt {o:O}{ho:HO}(h:RO T φ H o ho):ltO φ.length o=true:=by
 cases o with
 | lst ws=>obtain ⟨vs,e,r⟩:=h; exact RWs.lt r
 | dic kvs=>obtain ⟨kv,e,r⟩:=h; exact ZoD r
 | ins c fs=>obtain ⟨C,dx,fv,e,c,r⟩:=h; exact ZoD r
 | fdic kvs=>obtain ⟨ob,kv,e,r⟩:=h; exact ZoD r
theorem RO.narrow (pre:φ <+: φ'){o:O}{ho:HO}(l:ltO φ.length o=true)(h:RO T φ' H o ho):RO T φ H o ho:=by
 cases o with
 | lst ws=>obtain ⟨vs,e,r⟩:=h; exact ⟨vs,e,RWs.narrow pre l r⟩
 | dic kvs=>obtain ⟨kv,e,r⟩:=h; exact ⟨kv,e,Zfc pre l r⟩
 | ins c fs=>obtain ⟨C,dx,fv,e,c,r⟩:=h; exact ⟨C,dx,fv,e,c,Zfc pre l r⟩
 | fdic kvs=>obtain ⟨ob,kv,e,r⟩:=h; exact ⟨ob,kv,e,Zfc pre l r⟩
def Wf (h:Mem):Prop:=∀ o∈h,ltO h.length o=true
theorem RH.wf {h:Mem}(r:RH T φ h H):Wf h:=fun o m=>by
 obtain ⟨n,hn,e⟩:=List.getElem_of_mem m
 obtain ⟨a,ho,_,_,x⟩:=r.at (n:=n) (o:=o) (by simp [hn,e])
 rw [← r.len]
 exact x.lt
theorem RH.drop {h g:Mem}(r:RH T φ' (h++g) H)(w:Wf h):∃ φ,φ <+: φ'∧φ.length=h.length∧RH T φ h H:=by
 have hl:=r.len
 rw [List.length_append] at hl
 have hk:(φ'.take h.length).length=h.length:=by rw [List.length_take]; omega
 refine ⟨φ'.take h.length,List.take_prefix _ _,hk,hk,r.nd.sublist (List.take_sublist _ _),fun n o a e q=>?_⟩
 have hn:n<h.length:=(List.getElem?_eq_some_iff.mp e).1
 rw [List.getElem?_take_of_lt hn] at q
 obtain ⟨ho,x,y⟩:=r.obj n o a (by rw [List.getElem?_append_left hn]; exact e) q
 refine ⟨ho,x,y.narrow (List.take_prefix _ _) ?_⟩
 rw [hk]
 exact w o (List.mem_of_getElem? e)
end
theorem Zjy {φ φ':List Addr}(p:φ <+: φ')(h:φ'.length=φ.length):φ'=φ:=by
 obtain ⟨t,rfl⟩:=p
 have:t=[]:=List.length_eq_zero_iff.mp (by simpa using h)
 rw [this,List.append_nil]
def ρC (own:Nat)(ix:List Nat)(ρ:Sg):Sg:=List.replicate own none++ix.map fun j=>(ρ[j]?).join
def ZkB (G:Tg)(c el:Ex)(ρ0:Sg)(h:Mem):List W→List W→Option (List W)
 | [],acc=>some acc
 | w::r,acc=>match G w ρ0 with
  | none=>none
  | some ρ=>(match c ρ (h++[.lst acc]) with
   | .ok (.bl true) _=>(match el ρ (h++[.lst acc]) with
    | .ok x _=>if ltW h.length x=true then ZkB G c el ρ0 h r (acc++[x]) else none
    | _=>none)
   | .ok (.bl false) _=>ZkB G c el ρ0 h r acc
   | _=>none)
def ZfA (fi:Ei)(own:Nat)(ix:List Nat)(G:Tg)(c el:Ex):Ex:=fun ρ h=>match fi ρ h with
 | .ok _ ws h1=>if ws.length<sizeLine then (match ZkB G c el (ρC own ix ρ) h1 ws [] with
  | some out=>.ok (.tl out) h1
  | none=>.no) else .no
 | .ex w h1=>.ex w h1
 | .no=>.no
class Pu (f:Ex):Prop where
 pu:∀ ρ h w h',f ρ h=.ok w h'→h'=h
class PuS (f:Exs):Prop where
 pu:∀ ρ h w h',f ρ h=.ok w h'→h'=h
class PuI (f:Ei):Prop where
 pu:∀ ρ h s w h',f ρ h=.ok s w h'→h'=h
def Zb (T:CTb)(own:List Str)(ix:List Nat)(σ:St):Zc:=⟨T,[],fun _=>none,fun σ'=>leS (σC own ix σ) σ',fun _ _=>False⟩
theorem Zez {φ:List Addr}{H:Hp}:Step [] (fun _=>none) φ H:=⟨⟨List.nil_prefix,fun _ _ e=>(by cases e),fun _ _ _=>rfl⟩,fun _ _ _ e=>by cases e⟩
theorem ZeH:∀ (σ:St),leS σ σ
 | []=>trivial
 | none::r=>ZeH r
 | some x::r=>⟨rfl,ZeH r⟩
theorem ZhW:∀ {σ σ':St} {i:Nat} {o:Option V},leS σ σ'→σ[i]? = some none→leS σ (σ'.set i o)
 | [],_,_,_,h,e=>by simp at e
 | none::r,[],_,_,h,_=>h.elim
 | some x::r,[],_,_,h,_=>h.elim
 | none::r,y::s,0,o,h,_=>h
 | some x::r,y::s,0,o,h,e=>by simp at e
 | none::r,y::s,i+1,o,h,e=>ZhW (σ:=r) (σ':=s) h (by simpa using e)
 | some x::r,y::s,i+1,o,h,e=>⟨h.1,ZhW (σ:=r) (σ':=s) h.2 (by simpa using e)⟩
theorem Zh8 {T:CTb}{own:List Str}{ix:List Nat}{σ:St}{i:Nat}(hi:i<own.length):∀ σ' v,(Zb T own ix σ).sg σ'→(Zb T own ix σ).sg (σ'.set i (some v)):=fun σ' v h=>ZhW h (by
 unfold σC
 rw [List.getElem?_append_left (by simpa using hi)]
 simp [hi])
theorem Zti {T:CTb}{φ:List Addr}{H:Hp}{ρ:Sg}{σ:St}{own:List Str}{ix:List Nat}(r:RS T φ H ρ σ):RS T φ H (ρC own.length ix ρ) (σC own ix σ):=by
 refine ⟨by simp [ρC,σC],fun i w e=>?_⟩
 unfold ρC at e
 unfold σC
 by_cases hi:i<own.length
 ·rw [List.getElem?_append_left (by simpa using hi)] at e
  simp [hi] at e
 ·rw [List.getElem?_append_right (by simpa using hi),List.length_replicate,List.getElem?_map] at e
  rw [List.getElem?_append_right (by simpa using hi),List.length_replicate,List.getElem?_map]
  cases q:ix[i - own.length]? with
  | none=>rw [q] at e; cases e
  | some j=>
   rw [q] at e
   have e:(ρ[j]?).join=some w:=Option.some.inj e
   have e2:ρ[j]? = some (some w):=by
    cases z:ρ[j]? with
    | none=>rw [z] at e; cases e
    | some o=>rw [z] at e; exact congrArg some e
   obtain ⟨v,a,b⟩:=r.var j w e2
   exact ⟨v,by rw [Option.map_some,a]; rfl,b⟩
theorem ZeA {T:CTb}{φ:List Addr}{H:Hp}{w:W}{v:V}:∀ {ws:List W} {vs:List V},RWs T φ H ws vs→RW T φ H w v→RWs T φ H (ws++[w]) (vs++[v])
 | [],vs,h,q=>by unfold RWs at h; subst h; unfold RWs; exact ⟨v,[],rfl,q,by unfold RWs; rfl⟩
 | x::ws,vs,h,q=>by
  unfold RWs at h
  obtain ⟨y,r,rfl,a,b⟩:=h
  rw [List.cons_append,List.cons_append]
  unfold RWs
  exact ⟨y,_,rfl,a,ZeA b q⟩
section
variable {X:Cx} {Z:Zc} {f g k:Ex} {fa:Exs} {fi:Ei} {osc:Scope} {N own fr:List Str} {ix:List Nat} {scope:Scope} {tg iter elt:Expr} {ifs:List Expr} {pos:Pos} {e c:Expr}
theorem ZlN:PCs X [] (tHT Z (xC (.bl true))):=fun pins s σ H Q I ⟨φ,h,ρ,x,b,e,k⟩=>by
 cases e
 exact Zln pins s σ H Q I (k φ H (Step.refl _ _) x.rh)
theorem Zmo (h:PT X c (tHT Z f)):PCs X [c] (tHT Z f):=fun pins s σ H Q I q=>by
 refine ZmO h Zln pins s σ H Q I ?_
 obtain ⟨φ,h,ρ,x,q⟩:=q
 exact ⟨φ,h,ρ,x,q.mono fun w h' ⟨b,e,k⟩=>⟨b,e,fun φ' H' s r=>by
  cases b with
  | true=>exact ZnR (k φ' H' s r)
  | false=>exact Zoh (k φ' H' s r)⟩⟩
theorem ZqB {gg:TG}{G:Tg}{cc el:Ex}{T:CTb}{σ:St}{ρ:Sg}{φ1:List Addr}{H1:Hp}{h1:Mem}{J:It}{ws out:List W}{src:Option Nat}(hG:TgW (Zb T own ix σ) gg G)[hc:Pu cc][he:Pu el](hz:ws.length<sizeLine)
  (r1:RH T φ1 h1 H1) (rs:RS T φ1 H1 ρ σ) (sp:ZnW src ws h1) (it:ItOk T φ1 H1 J ws (ZnW src ws)) (q:ZkB G cc el (ρC own.length ix ρ) h1 ws []=some out) (acc:Addr) (ha:H1 acc=none) {Q:Hp→Prop}
  (k:∀ H',Step φ1 H1 φ1 H'→RH T φ1 h1 H'→RW T φ1 H' (.tl out) (.ref acc)→Q H') :
  Zhn J (σC own ix σ) acc gg (tHT (Zb T own ix σ) cc) (tH (Zb T own ix σ) el) Q (upd H1 acc (.lst [])):=by
 have s0:=Zbw (φ:=φ1) (ho:=.lst []) ha
 have rb:=r1.new (o:=.lst []) ha (by unfold RO; exact ⟨[],rfl,by unfold RWs; rfl⟩)
 have lenb:(φ1++[acc]).length=φ1.length+1:=by simp
 have spb:∀ aw,ZnW src ws (h1++[O.lst aw]):=fun aw=>by
  cases src with
  | none=>trivial
  | some n=>
   have sp:h1[n]? = some (.lst ws):=sp
   show (h1++[O.lst aw])[n]? = some (.lst ws)
   rw [List.getElem?_append_left (List.getElem?_eq_some_iff.mp sp).1]
   exact sp
 refine ⟨fun i m H=>m=ws.length - i∧i≤ws.length∧∃ aw,Step (φ1++[acc]) (upd H1 acc (.lst [])) (φ1++[acc]) H∧RH T (φ1++[acc]) (h1++[.lst aw]) H∧aw.length≤i∧ZdK h1.length aw=true∧ZkB G cc el (ρC own.length ix ρ) h1 (ws.drop i) aw=some out,
  ⟨ws.length,by simp,Nat.zero_le _,[],Step.refl _ _,rb,Nat.le_refl _,by unfold ZdK; rfl,q⟩,?_⟩
 rintro i m H ⟨rfl,hi,aw,sH,rH,al,lt,q⟩
 have hn:(φ1++[acc])[h1.length]? = some acc:=by rw [← r1.len]; simp
 by_cases hlt:i<ws.length
 ·have ed:ws.drop i=ws[i]::ws.drop (i+1):=List.drop_eq_getElem_cons hlt
  have ei:ws[i]? = some ws[i]:=by simp [hlt]
  refine .inr ⟨it.go _ H _ i _ (s0.trans sH) rH (spb aw) ei,fun x H' yl=>?_⟩
  obtain ⟨rfl,rwx⟩:=it.yld _ H _ i _ x H' (s0.trans sH) rH (spb aw) ei yl
  rw [ed] at q
  unfold ZkB at q
  cases e2:G ws[i] (ρC own.length ix ρ) with
  | none=>rw [e2] at q; cases q
  | some ρ'=>
   rw [e2] at q
   simp only at q
   have x0:Here (Zb T own ix σ) (σC own ix σ) H' (φ1++[acc]) (h1++[.lst aw]) (ρC own.length ix ρ):=⟨ZeH _,Zez,rH,Zti (rs.step (s0.trans sH))⟩
   refine hG _ _ _ _ _ _ x ρ' _ x0 rwx e2 fun σ' rs' le=>⟨le,?_⟩
   have x1:Here (Zb T own ix σ) σ' H' (φ1++[acc]) (h1++[.lst aw]) ρ':=⟨le,Zez,rH,rs'⟩
   refine ⟨_,_,ρ',x1,?_⟩
   cases e3:cc ρ' (h1++[.lst aw]) with
   | no=>rw [e3] at q; cases q
   | ex w h2=>rw [e3] at q; cases q
   | ok w h2=>
    have eh:=hc.pu _ _ _ _ e3
    subst eh
    rw [e3] at q
    cases w with
    | bl b=>
     refine ⟨b,rfl,fun φ3 H3 s3 r3=>?_⟩
     have e4:φ3=φ1++[acc]:=Zjy s3.pre (by rw [r3.len,rH.len])
     subst e4
     cases b with
     | false=>
      refine Zoh ⟨ws.length - (i+1),by omega,rfl,hlt,aw,sH.trans s3,r3,by omega,lt,q⟩
     | true=>
      refine ZnR ⟨_,_,ρ',x1.step s3 r3,?_⟩
      simp only at q
      cases e5:el ρ' (h1++[.lst aw]) with
      | no=>rw [e5] at q; cases q
      | ex w h2=>rw [e5] at q; cases q
      | ok y h2=>
       have eh:=he.pu _ _ _ _ e5
       subst eh
       rw [e5] at q
       simp only at q
       split at q
       ·rename_i ly
        intro φ4 H4 v s4 r4 rw4
        have e4:φ4=φ1++[acc]:=Zjy s4.pre (by rw [r4.len,rH.len])
        subst e4
        obtain ⟨ho,y1,ys,rfl,y2⟩:=r4.obj h1.length (.lst aw) acc (by simp) hn
        have lw:=y2.length
        have s5:=Zbx (H:=H4) (ho:=.lst (ys++[v])) (List.mem_of_getElem? hn) (ZgT y1)
        have r5:=r4.set (o:=.lst (aw++[y])) (ho:=.lst (ys++[v])) hn (by unfold RO; exact ⟨_,rfl,ZeA y2 rw4⟩)
        rw [List.set_append_right _ _ (Nat.le_refl _),Nat.sub_self,List.set_cons_zero] at r5
        refine ⟨ys,y1,by omega,ws.length - (i+1),by omega,rfl,hlt,aw++[y],(sH.trans s3).trans (s4.trans s5),r5,by simp; omega,?_,q⟩
        have snoc:∀ (l:List W),ZdK h1.length l=true→ZdK h1.length (l++[y])=true:=by
         intro l
         induction l with
         | nil=>intro _; show ZdK _ [y]=true; unfold ZdK; rw [ly]; unfold ZdK; rfl
         | cons z r ih=>
          intro hz
          rw [List.cons_append]
          unfold ZdK at hz ⊢
          rw [Bool.and_eq_true] at hz
          rw [hz.1,ih hz.2]; rfl
        exact snoc aw lt
       ·cases q
    | _=>cases q
 ·have e:i=ws.length:=by omega
  subst e
  rw [List.drop_length] at q
  unfold ZkB at q
  have q:=Option.some.inj q
  subst q
  refine .inl ⟨it.stop _ H _ (s0.trans sH) rH (spb _),?_⟩
  have s2:Step φ1 H1 φ1 H:=⟨⟨List.prefix_refl _,fun a o e n=>(s0.trans sH).keep a o e n,fun _ m n=>absurd m n⟩,fun a o u e=>(s0.trans sH).fr a o u e⟩
  obtain ⟨φ2,p2,l2,r2⟩:=rH.drop r1.wf
  have e2:φ2=φ1:=by
   have:=List.prefix_of_prefix_length_le p2 (List.prefix_append φ1 [acc]) (by rw [l2,← r1.len]; exact Nat.le_refl _)
   exact (Zjy this (by rw [l2,← r1.len])).symm
  subst e2
  obtain ⟨ho,y1,ys,rfl,y2⟩:=rH.obj h1.length (.lst aw) acc (by simp) hn
  refine k H s2 r2 ?_
  unfold RW
  exact ⟨acc,ys,rfl,r1.fresh ha,Zbj y1,y2.narrow (List.prefix_append _ _) (by rw [r1.len]; exact lt)⟩
theorem ZpF {gg:TG}{G:Tg}{cc el:Ex}(hcalm:X.calm=true)(ho:X.env.scope=osc)(hN:X.N=N)(hk:compOk osc N own fr ix scope=true)(hi:PI X tg iter (tHI Z fi))(hG:∀ σ,TgW (Zb Z.T own ix σ) gg G)[hc:Pu cc][he:Pu el]
  (hg:InC X own fr scope fun Y=>PG Y tg gg) (ht:∀ σ,InC X own fr scope fun Y=>PCs Y ifs (tHT (Zb Z.T own ix σ) cc)) (hel:∀ σ,InC X own fr scope fun Y=>PE Y elt (tH (Zb Z.T own ix σ) el)) (hs:∀ x,foldedSetIterable iter X.env x=pure x:=by intro _; rfl) :
  PE X (.ListComp elt [⟨tg,iter,ifs,0⟩] scope pos) (tH Z (ZfA fi own.length ix G cc el)):=by
 intro pins s σ H Q I q
 refine ZjC hcalm ho hN hk hi hg (ht σ) (hel σ) hs pins s σ H Q I ?_
 obtain ⟨φ,h,ρ,x,q⟩:=q
 refine ⟨φ,h,ρ,x,?_⟩
 unfold ZfA at q
 cases e:fi ρ h with
 | no=>rw [e] at q; exact q.elim
 | ex w h'=>rw [e] at q; exact q
 | ok src ws h1=>
  rw [e] at q
  simp only at q
  split at q
  ·rename_i hz
   cases e2:ZkB G cc el (ρC own.length ix ρ) h1 ws [] with
   | none=>rw [e2] at q; exact q.elim
   | some out=>
    rw [e2] at q
    intro φ1 H1 J s1 r1 sp it acc ha
    exact ZqB (hG σ) hz r1 (x.rs.step s1) sp it e2 acc ha fun H' s2 r2 w2=>q φ1 H' _ (s1.trans s2) r2 w2
  ·exact q.elim
end
end M
namespace M
open PySem PySem.Spec PyProof.Rows L2
def RX (T:CTb)(φ:List Addr)(H:Hp)(w:W)(cv:Value)(da:Option Addr):Prop:=match w with
 | .exc c fs ws=>∃ C vs,T.x c=some C∧cv=.ref C∧fs.length=ws.length∧RWs T φ H ws vs∧(match da with
  | some d=>d ∉ φ∧H d=some (.xd (fs.zip vs))
  | none=>fs=[])
 | _=>False
abbrev Fm:=List W→Mem→Res
def spH (T:CTb)(F:Fm):Sp:=fun vs H Q E=>∃ φ h ws,RH T φ h H∧RWs T φ H ws vs∧(F ws h).post (Kv T φ H Q) (fun w h'=>∀ φ' H' cv da,Step φ H φ' H'→RH T φ' h' H'→RX T φ' H' w cv da→E cv da H')
def ZaS (n:Nat)(ws:List W):Sg:=ws.map some++List.replicate (n - ws.length) none
def Out.res:Out→Res
 | .rt w h=>.ok w h
 | .nx _ h=>.ok .non h
 | .ex w h=>.ex w h
 | _=>.no
def ZdA (n:Nat)(B:Sm)(ws:List W)(h:Mem):Res:=(B (ZaS n ws) h).res
def ZpT (k:Nat)(r r':Res):Prop:=match r,r' with
 | .ok w h,.ok w' h'=>∀ T φ' H' v,RH T φ' h' H'→RW T φ' H' w' v→∃ φ1,φ1 <+: φ'∧k≤φ1.length∧RH T φ1 h H'∧RW T φ1 H' w v
 | .ex w h,.ex w' h'=>∀ T φ' H' cv da,RH T φ' h' H'→RX T φ' H' w' cv da→∃ φ1,φ1 <+: φ'∧k≤φ1.length∧RH T φ1 h H'∧RX T φ1 H' w cv da
 | .no,_=>True
 | _,_=>False
theorem ZhF {k:Nat}{w:W}{h:Mem}(hk:k≤h.length):ZpT k (.ok w h) (.ok w h):=fun T φ' H' v r x=>⟨φ',List.prefix_refl _,by rw [r.len]; exact hk,r,x⟩
theorem Znx {k:Nat}{w:W}{h:Mem}(hk:k≤h.length):ZpT k (.ex w h) (.ex w h):=fun T φ' H' cv da r x=>⟨φ',List.prefix_refl _,by rw [r.len]; exact hk,r,x⟩
theorem ZjK {k:Nat}{w:W}{h g:Mem}(hk:k≤h.length)(wf:Wf h)(lt:ltW h.length w=true):ZpT k (.ok w h) (.ok w (h++g)):=fun T φ' H' v r x=>by
 obtain ⟨φ1,p1,l1,r1⟩:=r.drop wf
 exact ⟨φ1,p1,by rw [l1]; exact hk,r1,x.narrow p1 (by rw [l1]; exact lt)⟩
def Zf (T:CTb)(φ:List Addr)(H:Hp):Zc:=⟨T,φ,H,fun _=>True,fun _ _=>False⟩
theorem Zf1 {T:CTb}{φ:List Addr}{H:Hp}{ws:List W}{vs:List V}{N:List Str}(r:RWs T φ H ws vs):RS T φ H (ZaS N.length ws) (L2.start N vs):=by
 have hl:=r.length
 refine ⟨by simp [ZaS,L2.start,hl],fun i w e=>?_⟩
 unfold ZaS at e
 unfold L2.start
 by_cases hi:i<ws.length
 ·rw [List.getElem?_append_left (by simpa using hi),List.getElem?_map] at e
  cases q:ws[i]? with
  | none=>rw [q] at e; cases e
  | some u=>
   rw [q] at e
   cases e
   obtain ⟨v,a,b⟩:=Zdi r q
   exact ⟨v,by rw [List.getElem?_append_left (by simpa [← hl] using hi),List.getElem?_map,a]; rfl,b⟩
 ·rw [List.getElem?_append_right (by simpa using hi),List.getElem?_replicate] at e
  split at e <;> cases e
theorem ZcH {φ φ' φ1:List Addr}{H H':Hp}(s:Step φ H φ' H')(p:φ1 <+: φ')(l:φ.length≤φ1.length):Step φ H φ1 H':=
 ⟨⟨List.prefix_of_prefix_length_le s.pre p l,s.keep,fun a m n=>s.new a (p.subset m) n⟩,s.fr⟩
theorem ZjT {T:CTb}{φ:List Addr}{H:Hp}{h:Mem}{o:Out}{r:Res}{Q:VK}{E:W→Mem→Prop}(hl:φ.length=h.length)(ft:ZpT h.length r o.res)(q:r.post (Kv T φ H Q) E)(hE:∀ w m w' m',r=.ex w m→o=.ex w' m'→False) :
  o.post (Zf T φ H) φ H { nx:=fun _ H'=>Q .non H',rt:=Q }:=by
 cases r with
 | no=>exact q.elim
 | ex w m=>
  cases o with
  | ex w' m'=>exact (hE _ _ _ _ rfl rfl).elim
  | _=>exact ft.elim
 | ok w m=>
  cases o with
  | rt w' m'=>
   intro φ' H' v s r x
   obtain ⟨φ1,p1,l1,r1,x1⟩:=ft T φ' H' v r x
   exact q φ1 H' v (ZcH s p1 (by rw [hl]; exact l1)) r1 x1
  | nx ρ' m'=>
   intro φ' H' σ' s r rs _
   obtain ⟨φ1,p1,l1,r1,x1⟩:=ft T φ' H' .non r (by unfold RW; rfl)
   exact q φ1 H' .non (ZcH s p1 (by rw [hl]; exact l1)) r1 x1
  | _=>exact ft.elim
section
variable {P:Program} {w:World} {K:PySem.W.Frag} {mg:Str→Option Value} {base:Heap} {T:CTb}
def ZlC (n m:Nat)(B:Sm)(F:Fm):Prop:=∀ ws h,Wf h→ZdK h.length ws=true→F ws h=.no∨(ws.length=n∧ZpT h.length (F ws h) (ZdA m B ws h))
theorem Ztg {x:Str}{st:Stmt}{N ps:List Str}{k:Nat}{F:Fm}{f:Addr}{fd:FuncData}{B:Sm}(R:Fun K x x st f fd)(S:FnScope N ps (Zae st))
  (hB:∀ (cdv:Value) (A:Around) (outer:List Env) (s:Shared) (H:Hp) (E:XK) (φ0:List Addr) (H0:Hp),Room k (A.deeper (envOfC x (Zae st) s.heap.objs.size f cdv))→PSs (ZfS CX0 P w K mg base N x (Zae st) f cdv A outer s H E).nox (ZaZ st) (tHS (Zf T φ0 H0) B))
  (hx:∀ ws h w m,F ws h≠.ex w m) (hF:ZlC ps.length N.length B F):FnOk P w K mg base CX0 (k+1) f fd ps (spH T F):=by
 refine R.ok S (fun vs H Q E h=>?_) (fun cdv A outer s H vs Q E hr h=>?_)
 ·obtain ⟨φ,h,ws,r,rv,q⟩:=h
  rcases hF ws h r.wf (by rw [← r.len]; exact rv.lt) with e | ⟨e,_⟩
  ·rw [e] at q; exact q.elim
  ·rw [← rv.length]; exact e
 ·obtain ⟨φ,h,ws,r,rv,q⟩:=h
  refine ⟨_,hB cdv A outer s H E φ H hr,φ,h,ZaS N.length ws,⟨trivial,Step.refl _ _,r,Zf1 rv⟩,?_⟩
  rcases hF ws h r.wf (by rw [← r.len]; exact rv.lt) with e | ⟨e,ft⟩
  ·rw [e] at q; exact q.elim
  ·exact ZjT r.len ft q fun _ _ _ _ e _=>hx _ _ _ _ e
theorem Zt2 {x:Str}{st:Stmt}{N ps:List Str}{k:Nat}{F:Fm}{B:Sm}(R:DefAt K mg x st)(S:FnScope N ps (Zae st))(hb:Zal x x st ps)
  (hB:∀ (f:Addr) (cdv:Value) (A:Around) (outer:List Env) (s:Shared) (H:Hp) (E:XK) (φ0:List Addr) (H0:Hp),Room k (A.deeper (envOfC x (Zae st) s.heap.objs.size f cdv))→PSs (ZfS CX0 P w K mg base N x (Zae st) f cdv A outer s H E).nox (ZaZ st) (tHS (Zf T φ0 H0) B))
  (hx:∀ ws h w m,F ws h≠.ex w m) (hF:ZlC ps.length N.length B F):ZbU P w K mg base CX0 (k+1) x (spH T F):=by
 obtain ⟨f,fd,R,hm⟩:=R
 exact ⟨f,fd,ps,Ztg R S (hB f) hx hF,hm,R.kp,R.binds hb⟩
end
def Zaw (F:Fm)(f:Exs):Ex:=fun ρ h=>match f ρ h with
 | .ok ws h1=>(match F ws h1 with
  | .ok w h2=>.ok w h2
  | _=>.no)
 | .ex w h1=>.ex w h1
 | .no=>.no
section
variable {X:Cx} {Z:Zc} {fa:Exs} {k j:Nat} {F:Fm} {x:Str} {p pos:Pos} {e:Expr} {es:List Expr}
theorem Zmw {E:XK}{σ:St}{H:Hp}{Q:VK}(q:tH Z (Zaw F fa) σ H Q):ZnT (spH Z.T F) [] E (tHA Z fa) σ H Q:=by
 obtain ⟨φ,h,ρ,x,q⟩:=q
 refine ⟨φ,h,ρ,x,?_⟩
 unfold Zaw at q
 cases e:fa ρ h with
 | no=>rw [e] at q; exact q.elim
 | ex w h'=>rw [e] at q; exact q
 | ok ws h1=>
  rw [e] at q
  intro φ1 H1 vs s1 r1 rw1
  rw [List.append_nil]
  refine ⟨φ1,h1,ws,r1,rw1,?_⟩
  simp only at q
  cases e2:F ws h1 with
  | no=>rw [e2] at q; exact q.elim
  | ex w h'=>rw [e2] at q; exact q.elim
  | ok w h2=>rw [e2] at q; exact Kv.step q s1
theorem Zp8 (G:ZbU X.prog X.w X.K X.mg X.base CX0 k x (spH Z.T F))(hr:Room j X.A)(hkj:k≤j)(hg:Gl X x)(ha:PA X (e::es) (tHA Z fa))(hdb:(x == ("__debug__":Str))=false:=by decide)
  (he:starEach (e::es) X.env=(false,eval e X.env)::starEach es X.env:=by rfl) (hpl:(backTo pos (starEach es X.env)).any (·.1)=false:=by rfl) (hcl:X.calm=true:=by rfl):PE X (.Call (.Name x p) (e::es) [] pos) (tH Z (Zaw F fa)):=
 (Zsk G hr hkj hg (Zj8 hcl) ha hdb he hpl).imp fun σ H Q q=>Zmw q
end
class PuF (F:Fm):Prop where
 pu:∀ ws h w h',F ws h=.ok w h'→h'=h
instance ZtJ {i:Nat}:Pu (ZaW i):=⟨fun ρ h w h' e=>by
 unfold ZaW at e
 split at e
 ·cases e; rfl
 ·cases e⟩
instance Zuq {w:W}:Pu (xC w):=⟨fun ρ h w h' e=>by cases e; rfl⟩
theorem Ze1 {r:Res}{k:W→Mem→Res}{w:W}{h:Mem}(e:r.bind k=.ok w h):∃ a h1,r=.ok a h1∧k a h1=.ok w h:=by
 cases r with
 | ok a h1=>exact ⟨a,h1,rfl,e⟩
 | ex _ _=>cases e
 | no=>cases e
theorem Zp7 {o:Option W}{h h':Mem}{w:W}(e:Res.of o h=.ok w h'):o=some w∧h'=h:=by
 cases o with
 | none=>cases e
 | some x=>cases e; exact ⟨rfl,rfl⟩
instance Zte {o:Mem→W→W→Option W}{f g:Ex}[hf:Pu f][hg:Pu g]:Pu (Zbp o f g):=⟨fun ρ h w h' e=>by
 obtain ⟨a,h1,e1,e⟩:=Ze1 e
 obtain ⟨b,h2,e2,e⟩:=Ze1 e
 rw [(Zp7 e).2,hg.pu _ _ _ _ e2,hf.pu _ _ _ _ e1]⟩
instance Ztl:PuS ZbP:=⟨fun ρ h w h' e=>by cases e; rfl⟩
instance Zsq {f:Ex}{g:Exs}[hf:Pu f][hg:PuS g]:PuS (Zan f g):=⟨fun ρ h w h' e=>by
 unfold Zan at e
 cases e1:f ρ h with
 | no=>rw [e1] at e; cases e
 | ex _ _=>rw [e1] at e; cases e
 | ok a h1=>
  rw [e1] at e
  simp only at e
  cases e2:g ρ h1 with
  | no=>rw [e2] at e; cases e
  | ex _ _=>rw [e2] at e; cases e
  | ok b h2=>
   rw [e2] at e
   cases e
   rw [hg.pu _ _ _ _ e2,hf.pu _ _ _ _ e1]⟩
instance Zub {o:Mem→List W→Option W}{f:Exs}[hf:PuS f]:Pu (xCb o f):=⟨fun ρ h w h' e=>by
 unfold xCb at e
 cases e1:f ρ h with
 | no=>rw [e1] at e; cases e
 | ex _ _=>rw [e1] at e; cases e
 | ok a h1=>rw [e1] at e; rw [(Zp7 e).2,hf.pu _ _ _ _ e1]⟩
instance Ztk {f g:Ex}[hf:Pu f][hg:Pu g]:Pu (ZdY f g):=⟨fun ρ h w h' e=>by
 obtain ⟨a,h1,e1,e⟩:=Ze1 e
 split at e
 ·rw [hg.pu _ _ _ _ e,hf.pu _ _ _ _ e1]
 ·cases e; exact hf.pu _ _ _ _ e1
 ·cases e⟩
instance Zuk {f g:Ex}[hf:Pu f][hg:Pu g]:Pu (xOr f g):=⟨fun ρ h w h' e=>by
 obtain ⟨a,h1,e1,e⟩:=Ze1 e
 split at e
 ·cases e; exact hf.pu _ _ _ _ e1
 ·rw [hg.pu _ _ _ _ e,hf.pu _ _ _ _ e1]
 ·cases e⟩
instance ZtZ {f:Ex}[hf:Pu f]:Pu (ZdW f):=⟨fun ρ h w h' e=>by
 obtain ⟨a,h1,e1,e⟩:=Ze1 e
 split at e
 ·cases e; exact hf.pu _ _ _ _ e1
 ·cases e⟩
instance ZrU {F:Fm}{f:Exs}[hF:PuF F][hf:PuS f]:Pu (Zaw F f):=⟨fun ρ h w h' e=>by
 unfold Zaw at e
 cases e1:f ρ h with
 | no=>rw [e1] at e; cases e
 | ex _ _=>rw [e1] at e; cases e
 | ok a h1=>
  rw [e1] at e
  simp only at e
  cases e2:F a h1 with
  | no=>rw [e2] at e; cases e
  | ex _ _=>rw [e2] at e; cases e
  | ok b h2=>
   rw [e2] at e
   cases e
   rw [hF.pu _ _ _ _ e2,hf.pu _ _ _ _ e1]⟩
instance Ztz {f:Ex}[hf:Pu f]:PuI (Zeo f):=⟨fun ρ h s w h' e=>by
 unfold Zeo at e
 split at e
 ·rename_i j _ e1
  cases hj:(decide (-(2 ^ 62)≤j) && decide (j<2 ^ 62)) with
  | true=>rw [hj] at e; cases e; exact hf.pu _ _ _ _ e1
  | false=>rw [hj] at e; cases e
 ·cases e
 ·cases e⟩
instance Zsx {fi:Ei}{own:Nat}{ix:List Nat}{G:Tg}{c el:Ex}[hf:PuI fi]:Pu (ZfA fi own ix G c el):=⟨fun ρ h w h' e=>by
 unfold ZfA at e
 cases e1:fi ρ h with
 | no=>rw [e1] at e; cases e
 | ex _ _=>rw [e1] at e; cases e
 | ok s ws h1=>
  rw [e1] at e
  simp only at e
  split at e
  ·split at e
   ·cases e; exact hf.pu _ _ _ _ _ e1
   ·cases e
  ·cases e⟩
def noList (K:PySem.W.Frag):Bool:=K.all fun p=>match p.2.cls with
 | .type n=>n != "list"
 | _=>true
theorem ZfE {α β:Type}[BEq α][LawfulBEq α]{a:α}{b:β}:∀ {l:List (α×β)},l.lookup a=some b→(a,b)∈l
 | [],h=>by simp at h
 | (x,y)::r,h=>by
  rw [List.lookup_cons] at h
  cases e:a == x with
  | true=>
   rw [e] at h
   cases h
   rw [eq_of_beq e]
   exact List.mem_cons_self
  | false=>
   rw [e] at h
   exact List.mem_cons_of_mem _ (ZfE h)
theorem ZkR {K:PySem.W.Frag}(h:noList K=true){a:Addr}{o:Obj}(e:K.lookup a=some o):o.cls≠.type "list":=fun z=>by
 have:=List.all_eq_true.mp h (a,o) (ZfE e)
 simp [z] at this
theorem Zj1 {K:PySem.W.Frag}(hK:noList K=true){T:CTb}{H:Hp}{a:Addr}{ns:List Int}(hS:SqL K H a (ns.map V.int)):RW T [] H (.tl (ns.map W.int)) (.ref a):=by
 unfold RW
 rcases hS with hS | ⟨o,its,n,e,c,_⟩
 ·refine ⟨a,ns.map V.int,rfl,by simp,?_,?_⟩
  ·rcases hS with q | ⟨o,q⟩
   ·exact Zbj q
   ·unfold ZaQ; rw [q]
  ·induction ns with
   | nil=>unfold RWs; rfl
   | cons x r ih=>
    have:∀ (l:List Int),RWs T [] H (l.map W.int) (l.map V.int):=by
     intro l
     induction l with
     | nil=>unfold RWs; rfl
     | cons y s ih=>rw [List.map_cons,List.map_cons]; unfold RWs; exact ⟨_,_,rfl,by unfold RW; rfl,ih⟩
    exact this _
 ·exact absurd c (ZkR hK e)
theorem Zqv {T:CTb}{H:Hp}:RH T [] [] H:=⟨rfl,List.nodup_nil,fun n o a e=>by simp at e⟩
theorem Zqb {K:PySem.W.Frag}{T:CTb}{F:Fm}(hK:noList K=true)(hF:∀ ns:List Int,ns.length≤63→∃ h,F [.tl (ns.map W.int)] []=.ok (.bl true) h):∀ vs H Q E,ZgH K vs H Q E→spH T F vs H Q E:=by
 rintro vs H Q E ⟨a,ns,rfl,hS,hl,_,q⟩
 obtain ⟨h,e⟩:=hF ns hl
 refine ⟨[],[],[.tl (ns.map W.int)],Zqv,?_,?_⟩
 ·unfold RWs; exact ⟨_,[],rfl,Zj1 hK hS,by unfold RWs; rfl⟩
 ·rw [e]
  exact fun φ' H' v s r x=>by rw [Zha x]; exact q H'
end M
namespace M
open PySem PySem.Spec PyProof.Rows L2
def items (h:Mem):W→Option (List W)
 | .tl ws=>some ws
 | .ref n=>(match h[n]? with
  | some (.lst ws)=>some ws
  | _=>none)
 | _=>none
def Zep (h:Mem):W→Option (List W)
 | .tup ws=>some ws
 | w=>items h w
section
variable {T:CTb} {φ:List Addr} {H:Hp} {h:Mem} {w:W} {v:V} {ws:List W}
theorem ZbQ (r:RH T φ h H)(x:RW T φ H w v)(e:items h w=some ws):∃ p vs,v=.ref p∧ZaQ H p=some vs∧RWs T φ H ws vs:=by
 cases w with
 | tl us=>
  have e:some us=some ws:=e
  cases e
  unfold RW at x
  obtain ⟨p,vs,a,b,c,d⟩:=x
  exact ⟨p,vs,a,c,d⟩
 | ref n=>
  unfold items at e
  unfold RW at x
  obtain ⟨p,a,rfl⟩:=x
  cases q:h[n]? with
  | none=>simp [q] at e
  | some o=>
   cases o with
   | lst us=>
    simp [q] at e
    subst e
    obtain ⟨ho,y,vs,rfl,z⟩:=r.obj n _ p q a
    exact ⟨p,vs,rfl,Zbj y,z⟩
   | _=>simp [q] at e
 | _=>cases e
theorem Zhp (r:RH T φ h H)(x:RW T φ H w v)(e:Zep h w=some ws):∃ p vs,v=.ref p∧ZbD H p=some vs∧RWs T φ H ws vs:=by
 cases w with
 | tup us=>
  have e:some us=some ws:=e
  cases e
  unfold RW at x
  obtain ⟨p,vs,a,b,c,d⟩:=x
  exact ⟨p,vs,a,Ze2 c,d⟩
 | _=>
  obtain ⟨p,vs,a,b,c⟩:=ZbQ r x e
  refine ⟨p,vs,a,?_,c⟩
  rcases ZbN b with q | ⟨o,q⟩
  ·exact Zjw q
  ·unfold ZbD; rw [q]
theorem ZcO:∀ {ws us:List W} {vs xs:List V},RWs T φ H ws vs→RWs T φ H us xs→RWs T φ H (ws++us) (vs++xs)
 | [],us,vs,xs,h,q=>by unfold RWs at h; subst h; exact q
 | w::ws,us,vs,xs,h,q=>by
  unfold RWs at h
  obtain ⟨v,r,rfl,a,b⟩:=h
  rw [List.cons_append,List.cons_append]
  unfold RWs
  exact ⟨v,_,rfl,a,ZcO b q⟩
theorem Zq5 {p:Addr}{vs:List V}{Q:VK}(r:RH T φ h H)(hp:H p=none)(x:RWs T φ H ws vs)(k:∀ H' u,Step φ H φ H'→RH T φ h H'→RW T φ H' (.tl ws) u→Q u H'):Q (.ref p) (upd H p (.lst vs)):=by
 have s:=Zcg (φ:=φ) (ho:=.lst vs) hp
 refine k _ _ s (r.tmp hp) ?_
 unfold RW
 exact ⟨p,vs,rfl,r.fresh hp,ZeN,x.step s⟩
theorem ZaN {Q:VK}(r:RH T φ h H)(x:RW T φ H w v)(k:∀ H' u,Step φ H φ H'→RH T φ h H'→RW T φ H' w u→Q u H'):Q v H:=k H v (Step.refl _ _) r x
end
section
variable {X:Cx} {T:CTb}
def iop (g:Int→Int→W)(_:Mem):W→W→Option W
 | .int i,.int j=>some (g i j)
 | _,_=>none
theorem ZgG {g:Int→Int→W}{gv:Int→Int→V}(hg:∀ φ H i j,RW T φ H (g i j) (gv i j)):OpW T (iop g) (rI0 gv):=by
 intro φ h H a b u v w Q r ra rb e k
 unfold iop at e
 split at e
 ·cases e
  exact ⟨_,_,ZbC ra,ZbC rb,ZaN r (hg φ H _ _) k⟩
 ·cases e
def Zev (C:Int→Int→Bool)(g:Int→Int→W)(_:Mem):W→W→Option W
 | .int i,.int j=>cond (C i j) (some (g i j)) none
 | _,_=>none
theorem Zgi {C:Int→Int→Bool}{Cp:Int→Int→Prop}{g:Int→Int→W}{gv:Int→Int→V}(hC:∀ i j,C i j=true→Cp i j)(hg:∀ φ H i j,RW T φ H (g i j) (gv i j)):OpW T (Zev C g) (rI Cp gv):=by
 intro φ h H a b u v w Q r ra rb e k
 unfold Zev at e
 split at e
 ·rename_i i j
  cases hc:C i j with
  | true=>
   rw [hc] at e
   cases e
   exact ⟨_,_,ZbC ra,ZbC rb,hC _ _ hc,ZaN r (hg φ H _ _) k⟩
  | false=>rw [hc] at e; cases e
 ·cases e
theorem Zbs {φ:List Addr}{H:Hp}{i:Int}:RW T φ H (.int i) (.int i):=by unfold RW; rfl
theorem Zjm {φ:List Addr}{H:Hp}{i:Bool}:RW T φ H (.bl i) (.bl i):=by unfold RW; rfl
theorem ZrX {φ:List Addr}{H:Hp}{i:Str}:RW T φ H (.str i) (.str i):=by unfold RW; rfl
def ZeB:=iop fun i j=>.int (i - j)
theorem Zb6:OpW T ZeB (rI0 fun i j=>.int (i - j)):=ZgG fun _ _ _ _=>Zbs
def ZfG:=Zev (fun _ j=>decide (0<j) && decide (j<1073741824)) fun i j=>.int (i / j)
theorem ZeW:OpW T ZfG (rI Zsf fun i j=>.int (i / j)):=Zgi (fun i j h=>by unfold Zsf; simp only [Bool.and_eq_true,decide_eq_true_eq] at h; exact h) fun _ _ _ _=>Zbs
def ZfP:=Zev (fun _ j=>decide (0<j)) fun i j=>.int (i % j)
theorem ZaX:OpW T ZfP (rI (fun _ j=>0<j) fun i j=>.int (i % j)):=Zgi (fun i j h=>of_decide_eq_true h) fun _ _ _ _=>Zbs
def ZfK:=Zev (fun i j=>(decide (-(2 ^ 64)<i) && decide (i<2 ^ 64)) || (decide (-(2 ^ 64)<j) && decide (j<2 ^ 64))) fun i j=>.int (i * j)
theorem Zgp:OpW T ZfK (rI CMul fun i j=>.int (i * j)):=Zgi (fun i j h=>by unfold CMul; simp only [Bool.or_eq_true,Bool.and_eq_true,decide_eq_true_eq] at h; exact h) fun _ _ _ _=>Zbs
def ZfJ:=Zev (fun i j=>decide (0≤j) && (decide (j≤1000000) && decide (i.natAbs<2 ^ 64))) fun i j=>.int (i ^ j.toNat)
theorem ZjS:OpW T ZfJ (rI Zsb fun i j=>.int (i ^ j.toNat)):=Zgi (fun i j h=>by unfold Zsb; simp only [Bool.and_eq_true,decide_eq_true_eq] at h; exact h) fun _ _ _ _=>Zbs
def Zcb:=iop fun i j=>.int (Builtin.bitAnd i j)
theorem Zmp:OpW T Zcb (rI0 fun i j=>.int (Builtin.bitAnd i j)):=ZgG fun _ _ _ _=>Zbs
def ltM:=iop fun i j=>.bl (decide (i<j))
theorem Znc:OpW T ltM (rI0 fun i j=>.bl (decide (i<j))):=ZgG fun _ _ _ _=>Zjm
def gtM:=iop fun i j=>.bl (decide (j<i))
theorem Zix:OpW T gtM (rI0 fun i j=>.bl (decide (j<i))):=ZgG fun _ _ _ _=>Zjm
def geM:=iop fun i j=>.bl (decide (j≤i))
theorem Zrp:OpW T geM (rI0 fun i j=>.bl (decide (j≤i))):=ZgG fun _ _ _ _=>Zjm
def Zfq (_:Mem):W→Option W
 | .int i=>some (.int (-i))
 | _=>none
theorem Zpz:UnW T Zfq (rU fun i=>.int (-i)):=by
 intro φ h H a u w Q r ra e k
 unfold Zfq at e
 split at e
 ·cases e
  exact ⟨_,ZbC ra,ZaN r Zbs k⟩
 ·cases e
def ZfB (_:Mem):W→Option W
 | .int i=>some (.int (Builtin.bitNot i))
 | _=>none
theorem ZoV:UnW T ZfB (rU fun i=>.int (Builtin.bitNot i)):=by
 intro φ h H a u w Q r ra e k
 unfold ZfB at e
 split at e
 ·cases e
  exact ⟨_,ZbC ra,ZaN r Zbs k⟩
 ·cases e
def Zc8 (h:Mem)(a b:W):Option W:=match a,b with
 | .int i,.int j=>some (.int (i+j))
 | .str x,.str y=>if x.length+y.length≤sizeLine then some (.str (x++y)) else none
 | a,b=>(match items h a,items h b with
  | some xs,some ys=>if xs.length+ys.length≤sizeLine then some (.tl (xs++ys)) else none
  | _,_=>none)
theorem ZaG:OpW T Zc8 ZrZ:=by
 intro φ h H a b u v w Q r ra rb e k
 unfold Zc8 at e
 split at e
 ·cases e
  rw [ZbC ra,ZbC rb]
  exact ZaN r Zbs k
 ·split at e
  ·rename_i hz
   cases e
   rw [Zc6 ra,Zc6 rb]
   exact ⟨hz,ZaN r ZrX k⟩
  ·cases e
 ·split at e
  ·rename_i xs ys e1 e2
   obtain ⟨p,vs,rfl,q1,q2⟩:=ZbQ r ra e1
   obtain ⟨p',vs',rfl,q3,q4⟩:=ZbQ r rb e2
   split at e
   ·rename_i hz
    cases e
    show Zc0 (ZaQ H p) _
    rw [q1]
    show Zc0 (ZaQ H p') _
    rw [q3]
    exact ⟨by rw [← q2.length,← q4.length]; exact hz,fun z hp=>Zq5 r hp (ZcO q2 q4) k⟩
   ·cases e
  ·cases e
def ixM (h:Mem)(a b:W):Option W:=match b with
 | .int i=>(match a with
  | .str z=>if z.length≤sizeLine then (atI z.cps.toList i).map fun c=>.str ⟨#[c]⟩ else none
  | a=>(Zep h a).bind fun xs=>atI xs i)
 | _=>none
theorem ZoI {φ:List Addr}{H:Hp}{ws:List W}{vs:List V}{i:Int}{w:W}(r:RWs T φ H ws vs)(e:atI ws i=some w):∃ v,atI vs i=some v∧RW T φ H w v:=by
 unfold atI at e ⊢
 rw [← r.length]
 cases q:ixN ws.length i with
 | none=>rw [q] at e; cases e
 | some j=>
  rw [q] at e
  exact Zdi r e
theorem Zbn:OpW T ixM ixV:=by
 intro φ h H a b u v w Q r ra rb e k
 unfold ixM at e
 split at e
 ·rw [ZbC rb]
  split at e
  ·split at e
   ·rename_i hz
    rw [Zc6 ra]
    cases q:atI _ _ with
    | none=>rw [q] at e; cases e
    | some c=>
     rw [q] at e
     cases e
     refine ⟨hz,?_⟩
     show Zc0 (atI _ _) _
     rw [q]
     exact ZaN r ZrX k
   ·cases e
  ·cases q:Zep h a with
   | none=>rw [q] at e; cases e
   | some xs=>
    rw [q] at e
    obtain ⟨p,vs,rfl,q1,q2⟩:=Zhp r ra q
    obtain ⟨x,q3,q4⟩:=ZoI q2 e
    show Zc0 (ZbD H p) _
    rw [q1]
    show Zc0 (atI vs _) _
    rw [q3]
    exact ZaN r q4 k
 ·cases e
def ZaO:W→Bool
 | .non=>true
 | .bl _=>true
 | .int _=>true
 | .str _=>true
 | _=>false
def Zdg:W→W→Bool
 | .non,.non=>true
 | .bl a,.bl b=>decide (a=b)
 | .bl a,.int b=>decide ((if a then 1 else 0)=b)
 | .int a,.bl b=>decide (a=(if b then 1 else 0))
 | .int a,.int b=>decide (a=b)
 | .str a,.str b=>decide (a=b)
 | _,_=>false
def Zjv (f:W→W→Option Bool):List W→List W→Option Bool
 | x::xs,y::ys=>match f x y,Zjv f xs ys with
  | some a,some b=>some (a && b)
  | _,_=>none
 | _,_=>some true
def sq (h:Mem):W→Option (Bool×List W)
 | .tup ws=>some (false,ws)
 | w=>(items h w).map fun ws=>(true,ws)
def eqM (h:Mem):Nat→W→W→Option Bool
 | 0,a,b=>if (ZaO a && ZaO b)=true then some (Zdg a b) else none
 | n+1,a,b=>if (ZaO a && ZaO b)=true then some (Zdg a b) else match sq h a,sq h b with
  | some (true,xs),some (true,ys)=>if xs.length=ys.length then Zjv (eqM h n) xs ys else some false
  | some (false,xs),some (false,ys)=>(Zjv (eqM h n) xs ys).map (· && decide (xs.length=ys.length))
  | some (true,_),some (false,_)=>some false
  | some (false,_),some (true,_)=>some false
  | some _,none=>if ZaO b=true then some false else none
  | none,some _=>if ZaO a=true then some false else none
  | none,none=>none
theorem ZcA {φ:List Addr}{H:Hp}{a:W}{u:V}(r:RW T φ H a u)(f:ZaO a=true):ZaA u=true∧∀ {b:W} {v:V},RW T φ H b v→ZaO b=true→eqV u v=Zdg a b:=by
 cases a with
 | non=>
  unfold RW at r; subst r
  refine ⟨rfl,fun {b v} q f=>?_⟩
  cases b <;> first | (unfold RW at q; subst q; first | rfl | (simp [eqV,Zdg,Bool.beq_eq_decide_eq]; done)) | cases f
 | bl x=>
  unfold RW at r; subst r
  refine ⟨rfl,fun {b v} q f=>?_⟩
  cases b <;> first | (unfold RW at q; subst q; first | rfl | (simp [eqV,Zdg,Bool.beq_eq_decide_eq]; done)) | cases f
 | int x=>
  unfold RW at r; subst r
  refine ⟨rfl,fun {b v} q f=>?_⟩
  cases b <;> first | (unfold RW at q; subst q; first | rfl | (simp [eqV,Zdg,Bool.beq_eq_decide_eq]; done)) | cases f
 | str x=>
  unfold RW at r; subst r
  refine ⟨rfl,fun {b v} q f=>?_⟩
  cases b <;> first | (unfold RW at q; subst q; first | rfl | (simp [eqV,Zdg,Bool.beq_eq_decide_eq]; done)) | cases f
 | _=>cases f
theorem Zhu {φ:List Addr}{H:Hp}{f:W→W→Option Bool}{g:V→V→Option Bool}(hf:∀ a b u v c,f a b=some c→RW T φ H a u→RW T φ H b v→g u v=some c) :
  ∀ {ws us:List W} {vs xs:List V} {c:Bool},Zjv f ws us=some c→RWs T φ H ws vs→RWs T φ H us xs→Zhq g vs xs=some c
 | [],us,vs,xs,c,e,r,q=>by
  unfold RWs at r; subst r
  cases e; rfl
 | w::ws,[],vs,xs,c,e,r,q=>by
  unfold RWs at q; subst q
  cases e
  cases vs <;> rfl
 | w::ws,u::us,vs,xs,c,e,r,q=>by
  unfold RWs at r q
  obtain ⟨v,vr,rfl,r1,r2⟩:=r
  obtain ⟨x,xr,rfl,q1,q2⟩:=q
  unfold Zjv at e
  cases e1:f w u with
  | none=>rw [e1] at e; cases e
  | some a=>
   cases e2:Zjv f ws us with
   | none=>rw [e1,e2] at e; cases e
   | some b=>
    rw [e1,e2] at e
    cases e
    unfold Zhq
    rw [hf _ _ _ _ _ e1 r1 q1,Zhu hf e2 r2 q2]
theorem Zfs {φ:List Addr}{H:Hp}{h:Mem}{a:W}{u:V}{b:Bool}{ws:List W}(r:RH T φ h H)(x:RW T φ H a u)(e:sq h a=some (b,ws)):∃ p vs,u=.ref p∧RWs T φ H ws vs∧(b=true→ZaQ H p=some vs)∧(b=false→Zdp H p=some vs∧ZaQ H p=none):=by
 cases a with
 | tup us=>
  have e:some (false,us)=some (b,ws):=e
  cases e
  unfold RW at x
  obtain ⟨p,vs,y,_,c,d⟩:=x
  exact ⟨p,vs,y,d,fun z=>(by cases z),fun _=>⟨ZlV c,by unfold ZaQ; rw [c]⟩⟩
 | _=>
  unfold sq at e
  simp only [Option.map_eq_some_iff] at e
  obtain ⟨us,e1,e2⟩:=e
  cases e2
  obtain ⟨p,vs,y,c,d⟩:=ZbQ r x e1
  exact ⟨p,vs,y,d,fun _=>c,fun z=>by cases z⟩
theorem ZkU {φ:List Addr}{H:Hp}{h:Mem}(r:RH T φ h H):∀ (n:Nat) (a b:W) (u v:V) (c:Bool),eqM h n a b=some c→RW T φ H a u→RW T φ H b v→eqF H n u v=some c
 | 0,a,b,u,v,c,e,ra,rb=>by
  unfold eqM at e
  split at e
  ·rename_i hf
   cases e
   rw [Bool.and_eq_true] at hf
   have f1:=ZcA ra hf.1
   have f2:=ZcA rb hf.2
   unfold eqF
   rw [f1.1,f2.1,f1.2 rb hf.2]; rfl
  ·cases e
 | n+1,a,b,u,v,c,e,ra,rb=>by
  have ih:=fun a b u v c=>ZkU r n a b u v c
  unfold eqM at e
  split at e
  ·rename_i hf
   cases e
   rw [Bool.and_eq_true] at hf
   have f1:=ZcA ra hf.1
   have f2:=ZcA rb hf.2
   rw [Zkm (by rw [f1.1,f2.1]; rfl),f1.2 rb hf.2]
  ·split at e
   ·rename_i xs ys e1 e2
    obtain ⟨p,vs,rfl,q1,q2,_⟩:=Zfs r ra e1
    obtain ⟨p',vs',rfl,q3,q4,_⟩:=Zfs r rb e2
    rw [Zlh (q2 rfl) (q4 rfl),← q1.length,← q3.length]
    split at e
    ·rename_i hl
     rw [if_pos hl]
     exact Zhu ih e q1 q3
    ·rename_i hl
     rw [if_neg hl]; exact e
   ·rename_i xs ys e1 e2
    obtain ⟨p,vs,rfl,q1,_,q2⟩:=Zfs r ra e1
    obtain ⟨p',vs',rfl,q3,_,q4⟩:=Zfs r rb e2
    rw [ZiX (q2 rfl).1 (q4 rfl).1,← q1.length,← q3.length]
    cases e3:Zjv (eqM h n) xs ys with
    | none=>rw [e3] at e; cases e
    | some d=>
     rw [e3] at e
     rw [Zhu ih e3 q1 q3]
     exact e
   ·rename_i xs ys e1 e2
    cases e
    obtain ⟨p,vs,rfl,q1,q2,_⟩:=Zfs r ra e1
    obtain ⟨p',vs',rfl,q3,_,q4⟩:=Zfs r rb e2
    unfold eqF
    rw [if_neg (by simp [ZaA])]
    simp [q2 rfl,(q4 rfl).1,(q4 rfl).2]
   ·rename_i xs ys e1 e2
    cases e
    obtain ⟨p,vs,rfl,q1,_,q2⟩:=Zfs r ra e1
    obtain ⟨p',vs',rfl,q3,q4,_⟩:=Zfs r rb e2
    unfold eqF
    rw [if_neg (by simp [ZaA])]
    simp [q4 rfl,(q2 rfl).1,(q2 rfl).2]
   ·rename_i x e1 e2
    split at e
    ·rename_i hf
     cases e
     obtain ⟨bb,xs⟩:=x
     obtain ⟨p,vs,rfl,q1,q2,q3⟩:=Zfs r ra e1
     have f2:=(ZcA rb hf).1
     have hs:(ZbD H p).isSome=true:=by
      cases bb with
      | true=>
       rcases ZbN (q2 rfl) with z | ⟨o,z⟩ <;> (unfold ZbD; rw [z]; rfl)
      | false=>rw [Ze2 (ZdM (q3 rfl).1)]; rfl
     unfold eqF
     rw [if_neg (by simp [ZaA])]
     cases v <;> first | (simp [hs,f2]; done) | (simp [ZaA] at f2)
    ·cases e
   ·rename_i x e1 e2
    split at e
    ·rename_i hf
     cases e
     obtain ⟨bb,xs⟩:=x
     obtain ⟨p,vs,rfl,q1,q2,q3⟩:=Zfs r rb e2
     have f2:=(ZcA ra hf).1
     have hs:(ZbD H p).isSome=true:=by
      cases bb with
      | true=>
       rcases ZbN (q2 rfl) with z | ⟨o,z⟩ <;> (unfold ZbD; rw [z]; rfl)
      | false=>rw [Ze2 (ZdM (q3 rfl).1)]; rfl
     unfold eqF
     rw [if_neg (by simp [ZaA])]
     cases u <;> first | (simp [hs,f2]; done) | (simp [ZaA] at f2)
    ·cases e
   ·cases e
def eqO (h:Mem)(a b:W):Option W:=(eqM h 4 a b).map .bl
def neO (h:Mem)(a b:W):Option W:=(eqM h 4 a b).map fun c=>.bl (!c)
theorem Za3:OpW T eqO ZsA:=by
 intro φ h H a b u v w Q r ra rb e k
 unfold eqO at e
 cases q:eqM h 4 a b with
 | none=>rw [q] at e; cases e
 | some c=>
  rw [q] at e
  cases e
  unfold ZsA
  rw [ZkU r 4 a b u v c q ra rb]
  exact ZaN r Zjm k
theorem ZfN:OpW T neO ZsW:=by
 intro φ h H a b u v w Q r ra rb e k
 unfold neO at e
 cases q:eqM h 4 a b with
 | none=>rw [q] at e; cases e
 | some c=>
  rw [q] at e
  cases e
  unfold ZsW
  rw [ZkU r 4 a b u v c q ra rb]
  exact ZaN r Zjm k
abbrev Ty:=Sum String Str
def tyN (h:Mem):W→Option Ty
 | .non=>some (.inl "NoneType")
 | .bl _=>some (.inl "bool")
 | .int _=>some (.inl "int")
 | .str _=>some (.inl "str")
 | .tup _=>some (.inl "tuple")
 | .tl _=>some (.inl "list")
 | .td _ _=>some (.inl "dict")
 | .ti c _ _=>some (.inr c)
 | .ref n=>(match h[n]? with
  | some (.lst _)=>some (.inl "list")
  | some (.dic _)=>some (.inl "dict")
  | some (.ins c _)=>some (.inr c)
  | some (.fdic _)=>none
  | none=>none)
 | _=>none
def TV (T:CTb):Ty→Value→Prop
 | .inl n,v=>v=.type n
 | .inr c,v=>∃ C,T.any c=some C∧v=.ref C
abbrev Kit:=List ((Ty×Ty)×Bool)
def ZmB (K:PySem.W.Frag)(T:CTb)(kit:Kit):Prop:=∀ e∈kit,∃ tv cv,TV T e.1.1 tv∧TV T e.1.2 cv∧PySem.W.kitOne K tv cv=some e.2
structure InsTy (K:PySem.W.Frag)(C:Addr):Prop where
 cl:Cls K C
 ha:PySem.W.findIn K (.ref C) "__class__"=some (some (.builtin "object.__class__"))
 hn:PySem.W.specialIn K (.builtin "object.__class__") "__get__"=some (some (.builtin "getset_descriptor.__get__"))
 htk:PySem.W.takesIn K (.builtin "object.__class__")=some true
 hm:PySem.W.mroIn K C (.type "object")=some true
def Zfo (K:PySem.W.Frag)(T:CTb):Prop:=∀ c C,T c=some C→InsTy K C
def Kit.get (kit:Kit)(t c:Ty):Option Bool:=(kit.find? fun e=>decide (e.1=(t,c))).map (·.2)
theorem Kit.mem {kit:Kit}{t c:Ty}{b:Bool}(h:kit.get t c=some b):((t,c),b)∈kit:=by
 unfold Kit.get at h
 rw [Option.map_eq_some_iff] at h
 obtain ⟨⟨e1,e2⟩,e,rfl⟩:=h
 have:=List.find?_some e
 have q:e1=(t,c):=of_decide_eq_true this
 subst q
 exact List.mem_of_find?_eq_some e
theorem Zqe {K:PySem.W.Frag}(hI:Zfo K T){φ:List Addr}{H:Hp}{h:Mem}{w:W}{v:V}{t:Ty}{tv:Value}(r:RH T φ h H)(x:RW T φ H w v)(e:tyN h w=some t)(ht:TV T t tv):TyOf K H v tv:=by
 cases w with
 | non=>cases e; cases ht; unfold RW at x; subst x; exact .non
 | bl b=>cases e; cases ht; unfold RW at x; subst x; exact .bl b
 | int b=>cases e; cases ht; unfold RW at x; subst x; exact .int b
 | str b=>cases e; cases ht; unfold RW at x; subst x; exact .str b
 | tup b=>cases e; cases ht; unfold RW at x; obtain ⟨p,vs,rfl,_,c,_⟩:=x; exact .tup c
 | tl b=>
  cases e; cases ht; unfold RW at x
  obtain ⟨p,vs,rfl,_,c,_⟩:=x
  rcases ZbN c with q | ⟨o,q⟩
  ·exact .lst q
  ·exact .frz q
 | td k b=>cases e; cases ht; unfold RW at x; obtain ⟨p,vs,rfl,_,c,_⟩:=x; exact .dK c
 | ti c f b=>
  cases e; unfold RW at x
  obtain ⟨p,C,dx,vs,rfl,_,c1,c2,_⟩:=x
  obtain ⟨C',c3,rfl⟩:=ht
  rw [CTb.any_t c1] at c3; cases c3
  have i:=hI _ _ c1
  exact .ins c2 i.cl i.ha i.hn i.htk i.hm
 | ref n=>
  unfold tyN at e
  unfold RW at x
  obtain ⟨p,a,rfl⟩:=x
  cases q:h[n]? with
  | none=>simp [q] at e
  | some o=>
   obtain ⟨ho,y,z⟩:=r.obj n o p q a
   cases o with
   | lst us=>simp [q] at e; subst e; cases ht; obtain ⟨vs,rfl,_⟩:=z; exact .lst y
   | dic us=>simp [q] at e; subst e; cases ht; obtain ⟨vs,rfl,_⟩:=z; exact .dK y
   | ins c fs=>
    simp [q] at e; subst e
    obtain ⟨C,dx,fv,rfl,c1,_⟩:=z
    obtain ⟨C',c3,rfl⟩:=ht
    rw [CTb.any_t c1] at c3; cases c3
    have i:=hI _ _ c1
    exact .ins y i.cl i.ha i.hn i.htk i.hm
   | fdic us=>simp [q] at e
 | ty n=>cases e
 | cls n=>cases e
 | exc _ _ _=>cases e
end
section
variable {X:Cx} {Z:Zc} {f g:Ex} {x:Str} {p pos:Pos} {a:Expr} {st:Stmt}
theorem Zqd {i:Int}(hg:Gl X x)(h:GC X.mg x (.int i))(hd:(x == ("__debug__":Str))=false:=by decide):PE X (.Name x p) (tH Z (xC (.int i))):=ZnY (Zqa hg h hd) fun _ _=>Zbs
theorem Zr3 (n:String)(hg:Gl X x)(hm:X.mg x=none)(hv:bootBuiltins x=some (.type n))(hn:x≠"__name__":=by decide)(hd:(x == ("__debug__":Str))=false:=by decide):PE X (.Name x p) (tH Z (xC (.ty n))):=ZnY (ZsD n hg hm hv hn hd) fun _ _=>by unfold RW; rfl
theorem Zrt {C:Addr}(hg:Gl X x)(h:GC X.mg x (.ref C))(hT:Z.T.any x=some C)(hd:(x == ("__debug__":Str))=false:=by decide):PE X (.Name x p) (tH Z (xC (.cls x))):=ZnY (Zqa hg h hd) fun _ _=>by unfold RW; exact ⟨C,hT,rfl⟩
def xNo:Sm:=fun _ _=>.no
end
end M
namespace M
open PySem PySem.Spec PyProof.Rows L2
section
variable {X:Cx} {T:CTb}
theorem ZbJ {φ:List Addr}{H:Hp}{w:W}{vs:List V}(x:RWs T φ H [w] vs):∃ v,vs=[v]∧RW T φ H w v:=by
 unfold RWs at x
 obtain ⟨v1,r1,rfl,x1,x2⟩:=x
 unfold RWs at x2; subst x2
 exact ⟨v1,rfl,x1⟩
def ZdX (h:Mem):List W→Option W
 | [.str z]=>if z.length≤sizeLine then some (.int z.length) else none
 | [.td ks _]=>some (.int ks.length)
 | [.ref n]=>(match h[n]? with
  | some (.dic kvs)=>some (.int kvs.length)
  | some (.lst ws)=>some (.int ws.length)
  | _=>none)
 | [w]=>(Zep h w).map fun ws=>.int ws.length
 | _=>none
theorem ZcC {κ:Type}{φ:List Addr}{H:Hp}{ps:List (κ×W)}{qs:List (κ×V)}(h:RP T φ H ps qs):ps.length=qs.length:=Paired.length h
theorem Zc7:CbW T ZdX ZpV:=by
 intro φ h H ws vs w Q r x e k
 have seqc:∀ (a:W) (u:V) (us:List W),RW T φ H a u→Zep h a=some us→(∀ p kvs,u=.ref p→H p≠some (.dK kvs))→Q (.int us.length) H→ZpV [u] H Q:=by
  intro a u us ra e nd q
  obtain ⟨p,vs,rfl,q1,q2⟩:=Zhp r ra e
  show (match H p with | some (.dK kvs)=>Q (.int kvs.length) H | _=>Zc0 (ZbD H p) fun ys=>Q (.int ys.length) H)
  split
  ·rename_i kvs ek
   exact absurd ek (nd p kvs rfl)
  ·rw [q1]
   show Q (.int vs.length) H
   rw [← q2.length]; exact q
 unfold ZdX at e
 split at e
 ·obtain ⟨v,rfl,y0⟩:=ZbJ x
  split at e
  ·rename_i hz
   cases e
   rw [Zc6 y0]
   exact ⟨hz,ZaN r Zbs k⟩
  ·cases e
 ·obtain ⟨v,rfl,y0⟩:=ZbJ x
  cases e
  unfold RW at y0
  obtain ⟨p,vs,rfl,_,c,l,rr⟩:=y0
  show (match H p with | some (.dK kvs)=>Q (.int kvs.length) H | _=>Zc0 (ZbD H p) fun ys=>Q (.int ys.length) H)
  rw [c]
  show Q (.int ((_:List _).length:Nat)) H
  rw [List.length_zip,← rr.length,← l,Nat.min_self]
  exact ZaN r Zbs k
 ·obtain ⟨v,rfl,y0⟩:=ZbJ x
  rename_i n
  have x0:=y0
  unfold RW at y0
  obtain ⟨p,a,rfl⟩:=y0
  split at e
  ·rename_i kvs q
   cases e
   obtain ⟨ho,y,kv,rfl,z⟩:=r.obj n _ p q a
   show (match H p with | some (.dK kvs)=>Q (.int kvs.length) H | _=>Zc0 (ZbD H p) fun ys=>Q (.int ys.length) H)
   rw [y]
   show Q (.int kv.length) H
   rw [← ZcC z]
   exact ZaN r Zbs k
  ·rename_i us q
   cases e
   refine seqc (.ref n) (.ref p) us x0 (by show items h (.ref n)=_; simp [items,q]) (fun p' kvs e1 e2=>?_) (ZaN r Zbs k)
   cases e1
   obtain ⟨ho,y,kv,rfl,z⟩:=r.obj n _ p q a
   rw [y] at e2; cases e2
  ·cases e
 ·obtain ⟨v,rfl,y0⟩:=ZbJ x
  rename_i _ w1 n1 n2 n3
  rw [Option.map_eq_some_iff] at e
  obtain ⟨us,e,rfl⟩:=e
  refine seqc w1 v us y0 e (fun p kvs e1 e2=>?_) (ZaN r Zbs k)
  subst e1
  cases w1 with
  | tup a=>unfold RW at y0; obtain ⟨q,vs,e3,_,c,_⟩:=y0; cases e3; rw [e2] at c; cases c
  | tl a=>
   unfold RW at y0
   obtain ⟨q,vs,e3,_,c,_⟩:=y0
   cases e3
   rcases ZbN c with z | ⟨o,z⟩ <;> (rw [e2] at z; cases z)
  | ref n=>exact n3 n rfl
  | _=>cases e
 ·cases e
end
section
variable {X:Cx} {T:CTb}
def ZcZ:List W→Option (List Int)
 | []=>some []
 | .int i::r=>(ZcZ r).map (i :: ·)
 | _::_=>none
theorem Zht {φ:List Addr}{H:Hp}:∀ {ws:List W} {vs:List V} {ns:List Int},RWs T φ H ws vs→ZcZ ws=some ns→Zed vs=some ns
 | [],vs,ns,r,e=>by cases e; unfold RWs at r; subst r; rfl
 | w::ws,vs,ns,r,e=>by
  unfold RWs at r
  obtain ⟨v,s,rfl,a,b⟩:=r
  cases w with
  | int i=>
   unfold ZcZ at e
   rw [Option.map_eq_some_iff] at e
   obtain ⟨ms,e,rfl⟩:=e
   rw [ZbC a]
   unfold Zed
   rw [Zht b e]; rfl
  | _=>cases e
theorem Zmq (ns:List Int):ZcZ (ns.map W.int)=some ns:=by
 induction ns with
 | nil=>rfl
 | cons x r ih=>rw [List.map_cons]; unfold ZcZ; rw [ih]; rfl
def Zex (h:Mem):List W→Option W
 | [w]=>((items h w).bind ZcZ).map fun ns=>.int ns.sum
 | _=>none
theorem ZpQ:CbW T Zex Zsu:=by
 intro φ h H ws vs w Q r x e k
 unfold Zex at e
 split at e
 ·obtain ⟨v,rfl,y0⟩:=ZbJ x
  rw [Option.map_eq_some_iff] at e
  obtain ⟨ns,e,rfl⟩:=e
  rw [Option.bind_eq_some_iff] at e
  obtain ⟨us,e1,e2⟩:=e
  obtain ⟨p,vs,rfl,q1,q2⟩:=ZbQ r y0 e1
  show Zc0 (ZaQ H p) _
  rw [q1]
  show Zc0 (Zed vs) _
  rw [Zht q2 e2]
  exact ZaN r Zbs k
 ·cases e
def Zfv (_:Mem):List W→Option W
 | [.int i]=>some (.int i)
 | [.bl b]=>some (.int (if b then 1 else 0))
 | _=>none
theorem Zoi:CbW T Zfv (fun xs H Q=>(∃ i,xs=[.int i]∧Q (.int i) H)∨∃ k,xs=[.bl k]∧Q (.int (if k then 1 else 0)) H):=by
 intro φ h H ws vs w Q r x e k
 unfold Zfv at e
 split at e
 ·obtain ⟨v,rfl,y0⟩:=ZbJ x
  cases e
  rw [ZbC y0]
  exact .inl ⟨_,rfl,ZaN r Zbs k⟩
 ·obtain ⟨v,rfl,y0⟩:=ZbJ x
  cases e
  rw [Zha y0]
  exact .inr ⟨_,rfl,ZaN r Zbs k⟩
 ·cases e
def Za7:W→Bool
 | .non=>true
 | _=>false
def Zfy (_:Mem)(a b:W):Option W:=match b with
 | .non=>some (.bl (Za7 a))
 | _=>none
def ZbH (_:Mem)(a b:W):Option W:=match b with
 | .non=>some (.bl (!Za7 a))
 | _=>none
theorem Zls {φ:List Addr}{H:Hp}{v:V}(h:RW T φ H .non v):v=.non:=by unfold RW at h; exact h
theorem Zk5 {φ:List Addr}{H:Hp}{a:W}{v:V}(h:RW T φ H a v):decide (v=.non)=Za7 a:=by
 cases a with
 | non=>rw [Zls h]; rfl
 | cls c=>unfold RW at h; obtain ⟨_,_,rfl⟩:=h; rfl
 | ref c=>unfold RW at h; obtain ⟨_,_,rfl⟩:=h; rfl
 | tup c=>unfold RW at h; obtain ⟨_,_,rfl,_⟩:=h; rfl
 | tl c=>unfold RW at h; obtain ⟨_,_,rfl,_⟩:=h; rfl
 | td c d=>unfold RW at h; obtain ⟨_,_,rfl,_⟩:=h; rfl
 | ti c d f=>unfold RW at h; obtain ⟨_,_,_,_,rfl,_⟩:=h; rfl
 | exc c d f=>unfold RW at h; obtain ⟨_,_,_,_,rfl,_⟩:=h; rfl
 | _=>unfold RW at h; subst h; rfl
theorem Zkd:OpW T Zfy (fun x y H Q=>y=.non∧Q (.bl (decide (x=.non))) H):=by
 intro φ h H a b u v w Q r ra rb e k
 unfold Zfy at e
 split at e
 ·cases e
  exact ⟨Zls rb,by rw [Zk5 ra]; exact ZaN r Zjm k⟩
 ·cases e
theorem Zgq:OpW T ZbH (fun x y H Q=>y=.non∧Q (.bl (!decide (x=.non))) H):=by
 intro φ h H a b u v w Q r ra rb e k
 unfold ZbH at e
 split at e
 ·cases e
  exact ⟨Zls rb,by rw [Zk5 ra]; exact ZaN r Zjm k⟩
 ·cases e
def Zei:List W→Option (List Str)
 | []=>some []
 | .str i::r=>(Zei r).map (i :: ·)
 | _::_=>none
theorem Zkv {φ:List Addr}{H:Hp}:∀ {ws:List W} {vs:List V} {ns:List Str},RWs T φ H ws vs→Zei ws=some ns→Zek vs=some ns
 | [],vs,ns,r,e=>by cases e; unfold RWs at r; subst r; rfl
 | w::ws,vs,ns,r,e=>by
  unfold RWs at r
  obtain ⟨v,s,rfl,a,b⟩:=r
  cases w with
  | str i=>
   unfold Zei at e
   rw [Option.map_eq_some_iff] at e
   obtain ⟨ms,e,rfl⟩:=e
   rw [Zc6 a]
   unfold Zek
   rw [Zkv b e]; rfl
  | _=>cases e
def ZbG (h:Mem)(a:W)(ws:List W):Option W:=match a,ws with
 | .str sep,[w]=>((items h w).bind Zei).bind fun ts=>if JoinOk sep ts=true then some (.str (Txt.join sep ts)) else none
 | _,_=>none
theorem ZlZ:BmW T ZbG ZpG:=by
 intro φ h H a u ws vs w Q r ra x e k
 unfold ZbG at e
 split at e
 ·obtain ⟨v,rfl,y0⟩:=ZbJ x
  rw [Option.bind_eq_some_iff] at e
  obtain ⟨ts,e,e3⟩:=e
  rw [Option.bind_eq_some_iff] at e
  obtain ⟨us,e1,e2⟩:=e
  obtain ⟨p,vs,rfl,q1,q2⟩:=ZbQ r y0 e1
  split at e3
  ·rename_i hj
   cases e3
   rw [Zc6 ra]
   show Zc0 (ZaQ H p) _
   rw [q1]
   show Zc0 (Zek vs) _
   rw [Zkv q2 e2]
   exact ⟨hj,ZaN r ZrX k⟩
  ·cases e3
 ·cases e
end
section
variable {X:Cx} {Z:Zc} {f:Ex} {fa:Exs} {o e:Expr} {apos cpos:Pos}
def ZeY (op:Mem→W→List W→Option W)(f:Ex)(g:Exs):Ex:=fun ρ h=>(f ρ h).bind fun a h1=>match a with
 | .str z=>(match g ρ h1 with
  | .ok ws h2=>.of (op h2 (.str z) ws) h2
  | .ex w h2=>.ex w h2
  | .no=>.no)
 | _=>.no
theorem ZqU {op:Mem→W→List W→Option W}{r:V→List V→Hp→VK→Prop}(hw:BmW Z.T op r){K:PySem.W.Frag}{σ:St}{H:Hp}{Q:VK}(q:tH Z (ZeY op f fa) σ H Q):tBM K "str" r (tH Z f) (tHA Z fa) σ H Q:=by
 obtain ⟨φ,m,ρ,x,q⟩:=q
 refine ⟨φ,m,ρ,x,?_⟩
 unfold ZeY at q
 rw [ZdE] at q
 refine q.mono fun a h1 q1=>fun φ1 H1 u s1 r1 ra=>?_
 cases a with
 | str z=>
  rw [Zc6 ra]
  refine ⟨rfl,φ1,h1,ρ,x.step s1 r1,?_⟩
  simp only at q1
  cases e2:fa ρ h1 with
  | no=>rw [e2] at q1; exact q1.elim
  | ex w h2=>rw [e2] at q1; exact q1
  | ok ws h2=>
   rw [e2] at q1
   intro φ2 H2 vs s2 r2 rw2
   obtain ⟨w,e,k⟩:=ofP q1
   exact hw φ2 h2 H2 (.str z) (.str z) ws vs w Q r2 ZrX rw2 e (k.step (s1.trans s2)).end
 | _=>exact q1.elim
theorem ZpC (ho:PE X o (tH Z f))(ha:PA X [e] (tHA Z fa))(hbase:attributeBase o "join" X.env (eval o X.env)=eval o X.env:=by rfl)
  (hfew:((backTo cpos (starEach [e] X.env)).all (fun x=>!x.1) && (backToKw cpos (keywordEach [] X.env)).all (fun x=>x.1.isSome)
   && decide (([e]:List Expr).length+([]:List Keyword).length+(if ([]:List Keyword).isEmpty then 0 else 1)<30))=true:=by rfl)
  (hline:(apos.endLine == cpos.line)=true:=by rfl) (hs:starEach [e] X.env=(false,eval e X.env)::starEach [] X.env:=by rfl) (hplain:(backTo cpos (starEach [] X.env)).any (·.1)=false:=by rfl) :
  PE X (.Call (.Attribute o "join" apos) [e] [] cpos) (tH Z (ZeY ZbG f fa)):=
 (ZnF PySem.F.plainAttrs_str PySem.F.slot_str_join PySem.F.type_str_join ZnN ho ha hbase hfew hline hs hplain).imp fun σ H Q q=>ZqU ZlZ q
end
end M
namespace M
open PySem PySem.Spec PyProof.Rows L2
structure QE (X:Cx)(Z:Zc)(e:Expr)(f:Ex):Prop where
 pe:PE X e (tH Z f)
structure QT (X:Cx)(Z:Zc)(e:Expr)(f:Ex):Prop where
 pt:PT X e (tHT Z f)
structure QW (X:Cx)(Z:Zc)(e:Expr)(f:Ex):Prop where
 pw:PW X e (tHT Z f)
structure QA (X:Cx)(Z:Zc)(es:List Expr)(f:Exs):Prop where
 pa:PA X es (tHA Z f)
structure QI (X:Cx)(Z:Zc)(tg iter:Expr)(f:Ei):Prop where
 pi:PI X tg iter (tHI Z f)
structure QC (X:Cx)(Z:Zc)(ifs:List Expr)(f:Ex):Prop where
 pc:PCs X ifs (tHT Z f)
structure QG (X:Cx)(tg:Expr)(g:TG):Prop where
 pg:PG X tg g
structure QS (X:Cx)(Z:Zc)(st:Stmt)(F:Sm):Prop where
 ps:PS X st (tHS Z F)
structure QB (X:Cx)(Z:Zc)(sts:List Stmt)(F:Sm):Prop where
 ps:PSs X sts (tHS Z F)
section
variable {X:Cx} {Z:Zc} {f g k:Ex} {fa:Exs} {fi:Ei} {l u:Eo} {e a b c:Expr} {es rest:List Expr} {pos p p2:Pos} {F G B:Sm} {st:Stmt} {sts more:List Stmt} {tg iter:Expr} {x:Str} {gg:TG} {Gt:Tg}
theorem Zab (i:Nat){pos:Pos}(hN:X.N[i]? = some x:=by rfl)(hv:Vis X.env.scope x:=by first | exact Or.inl rfl | exact Or.inr (Or.inl rfl) | exact Or.inr (Or.inr rfl))(hd:(x == ("__debug__":Str))=false:=by decide)
  (hcd:(x == ("__classdict__":Str))=false:=by decide):QE X Z (.Name x pos) (ZaW i):=⟨ZrO i (ZiJ hN hv hd hcd)⟩
theorem Zaf {i j pos}:QE X Z (.Constant (.int i) j pos) (xC (.int i)):=⟨ZqL⟩
theorem Zhz {b j pos}:QE X Z (.Constant (.bool b) j pos) (xC (.bl b)):=⟨Zr8⟩
theorem Zgs {j pos}:QE X Z (.Constant .none j pos) (xC .non):=⟨ZqM⟩
theorem Zap {x j pos}:QE X Z (.Constant (.str x) j pos) (xC (.str x)):=⟨ZqO⟩
theorem ZsZ {i:Int}(hg:Gl X x)(h:GC X.mg x (.int i))(hd:(x == ("__debug__":Str))=false:=by decide):QE X Z (.Name x p) (xC (.int i)):=⟨Zqd hg h hd⟩
theorem Zho (n:String)(hg:Gl X x)(hm:X.mg x=none)(hv:bootBuiltins x=some (.type n))(hn:x≠"__name__":=by decide)(hd:(x == ("__debug__":Str))=false:=by decide):QE X Z (.Name x p) (xC (.ty n)):=⟨Zr3 n hg hm hv hn hd⟩
theorem Zgn {C:Addr}(hg:Gl X x)(h:GC X.mg x (.ref C))(hT:Z.T.any x=some C)(hd:(x == ("__debug__":Str))=false:=by decide):QE X Z (.Name x p) (xC (.cls x)):=⟨Zrt hg h hT hd⟩
theorem Zar {op:Operator}{o:Mem→W→W→Option W}{r:R2}(ho:OpR X (binaryOp op) r)(hw:OpW Z.T o r)(ha:QE X Z a f)(hb:QE X Z b g):QE X Z (.BinOp a op b pos) (Zbp o f g):=⟨Zry ho hw ha.pe hb.pe⟩
theorem Zji {op:CmpOp}{o:Mem→W→W→Option W}{r:R2}(ho:OpR X (compareOp op) r)(hw:OpW Z.T o r)(ha:QE X Z a f)(hb:QE X Z b g)(hm:behindInMarks op b=false):QE X Z (.Compare a [op] [b] pos) (Zbp o f g):=⟨ZrH ho hw ha.pe hb.pe hm⟩
theorem Zax {op:CmpOp}{o:Mem→W→W→Option W}{r:R2}(ho:OpR X (compareOp op) r)(hw:OpW Z.T o r)(ha:QE X Z a f)(hb:QE X Z b g)(hm:behindInMarks op b=false):QT X Z (.Compare a [op] [b] pos) (Zbp o f g):=⟨Zox ho hw ha.pe hb.pe hm⟩
theorem Zf3 {o:Mem→W→W→Option W}{r:R2}(ho:IxR X r)(hw:OpW Z.T o r)(ha:QE X Z a f)(hb:QE X Z b g)(hs:ZhB b):QE X Z (.Subscript a b pos) (Zbp o f g):=⟨Zr6 ho hw ha.pe hb.pe hs⟩
theorem Ztq {op:UnaryOp}{o:Mem→W→Option W}{r:V→Hp→VK→Prop}(ho:UnR X (unaryOp op) r)(hw:UnW Z.T o r)(ha:QE X Z a f):QE X Z (.UnaryOp op a pos) (xUn o f):=⟨Zr7 ho hw ha.pe⟩
theorem Zbm (h:QE X Z e f)(he:∀ whole,isTrue e X.env whole=(do let v ← whole; standAt e.pos; holding [v] (truthy v)):=by intro _; rfl):QT X Z e f:=⟨ZpD h.pe he⟩
theorem ZcD (h:QT X Z a f):QT X Z (.UnaryOp .Not a pos) (ZdW f):=⟨ZoX h.pt⟩
theorem ZlB (h:QW X Z e f):QT X Z e f:=⟨h.pw.pt⟩
theorem Zgm (h:QT X Z a f):QW X Z (.BoolOp .And [a] pos) f:=⟨ZlS h.pt⟩
theorem ZfU (h:QT X Z a f):QW X Z (.BoolOp .Or [a] pos) f:=⟨Zo5 h.pt⟩
theorem Zim (ha:QT X Z a f)(hb:QW X Z (.BoolOp .And (b::rest) pos) g):QW X Z (.BoolOp .And (a::b::rest) pos) (ZdY f g):=⟨Zn1 ha.pt hb.pw⟩
theorem Zjn (ha:QT X Z a f)(hb:QW X Z (.BoolOp .Or (b::rest) pos) g):QW X Z (.BoolOp .Or (a::b::rest) pos) (xOr f g):=⟨ZrP ha.pt hb.pw⟩
theorem Zjo (ha:QE X Z a f)(hb:QE X Z (.BoolOp .And (b::rest) pos) g):QE X Z (.BoolOp .And (a::b::rest) pos) (ZdY f g):=⟨Zqt ha.pe hb.pe⟩
theorem Zkl {op}(h:QE X Z a f):QE X Z (.BoolOp op [a] pos) f:=⟨ZqJ h.pe⟩
theorem ZqW (h:QE X Z a f):QE X Z (.UnaryOp .Not a pos) (ZdW f):=⟨Zq8 h.pe⟩
theorem Zac:QA X Z [] ZbP:=⟨Zpm⟩
theorem Zaa (ha:QE X Z e f)(hr:QA X Z es fa)(hs:starEach (e::es) X.env=(false,eval e X.env)::starEach es X.env:=by rfl):QA X Z (e::es) (Zan f fa):=⟨Zl2 ha.pe hr.pa hs⟩
theorem Zbl {x1}(h:QA X Z es fa):QE X Z (.Tuple es x1 pos) (Zef fa):=⟨Zp5 h.pa⟩
theorem Zd6 (h:QA X Z es fa):QE X Z (.List es pos) (Zeq fa):=⟨Zqn h.pa⟩
theorem ZgR (h:QA X Z es fa):QE X Z (.List es pos) (ZbB fa):=⟨Zoj h.pa⟩
theorem ZdS {r:List V→Hp→VK→Prop}{o:Mem→List W→Option W}{id:String}(hw:CbW Z.T o r)(hc:CallR X (.builtin id) r)(hg:Gl X x)(hm:X.mg x=none)(hv:bootBuiltins x=some (.builtin id))(ha:QA X Z (e::es) fa)(hn:x≠"__name__":=by decide)(hdb:(x == ("__debug__":Str))=false:=by decide)
  (he:starEach (e::es) X.env=(false,eval e X.env)::starEach es X.env:=by rfl) (hpl:(backTo pos (starEach es X.env)).any (·.1)=false:=by rfl):QE X Z (.Call (.Name x p) (e::es) [] pos) (xCb o fa):=
 ⟨Zrj hw (fun h=>ZfX hc hg hm hv h hn hdb he hpl) ha.pa⟩
theorem ZmI {r:List V→Hp→VK→Prop}{o:Mem→List W→Option W}{id:String}(hw:CbW Z.T o r)(hc:CallR X (.type id) r)(hg:Gl X x)(hm:X.mg x=none)(hv:bootBuiltins x=some (.type id))(ha:QA X Z (e::es) fa)(hn:x≠"__name__":=by decide)(hdb:(x == ("__debug__":Str))=false:=by decide)
  (he:starEach (e::es) X.env=(false,eval e X.env)::starEach es X.env:=by rfl) (hpl:(backTo pos (starEach es X.env)).any (·.1)=false:=by rfl):QE X Z (.Call (.Name x p) (e::es) [] pos) (xCb o fa):=
 ⟨Zrj hw (fun h=>Zj0 hc hg hm hv h hn hdb he hpl) ha.pa⟩
theorem Zaz {kk j:Nat}{Fm':Fm}(Gf:ZbU X.prog X.w X.K X.mg X.base CX0 kk x (spH Z.T Fm'))(hr:Room j X.A)(hkj:kk≤j)(hg:Gl X x)(ha:QA X Z (e::es) fa)(hdb:(x == ("__debug__":Str))=false:=by decide)
  (he:starEach (e::es) X.env=(false,eval e X.env)::starEach es X.env:=by rfl) (hpl:(backTo pos (starEach es X.env)).any (·.1)=false:=by rfl) (hcl:X.calm=true:=by rfl):QE X Z (.Call (.Name x p) (e::es) [] pos) (Zaw Fm' fa):=⟨Zp8 Gf hr hkj hg ha.pa hdb he hpl hcl⟩
theorem ZqS {o:Expr}{apos cpos:Pos}(ho:QE X Z o f)(ha:QA X Z [e] fa)(hbase:attributeBase o "join" X.env (eval o X.env)=eval o X.env:=by rfl)
  (hfew:((backTo cpos (starEach [e] X.env)).all (fun x=>!x.1) && (backToKw cpos (keywordEach [] X.env)).all (fun x=>x.1.isSome)
   && decide (([e]:List Expr).length+([]:List Keyword).length+(if ([]:List Keyword).isEmpty then 0 else 1)<30))=true:=by rfl)
  (hline:(apos.endLine == cpos.line)=true:=by rfl) (hs:starEach [e] X.env=(false,eval e X.env)::starEach [] X.env:=by rfl) (hplain:(backTo cpos (starEach [] X.env)).any (·.1)=false:=by rfl) :
  QE X Z (.Call (.Attribute o "join" apos) [e] [] cpos) (ZeY ZbG f fa):=⟨ZpC ho.pe ha.pa hbase hfew hline hs hplain⟩
theorem ZcE {i:Nat}(hN:X.N.Nodup)(hi:X.N[i]? = some x)(hx:Loc X.env.scope x)(hf:X.fn x=true∨X.env.scope.names.lookup x=some .local:=by first | exact .inl rfl | exact .inr rfl | assumption):QG X (.Name x pos) (Zjp i):=⟨ZkM hN hi hx hf⟩
theorem ZmN {own fr:List Str}{scope:Scope}(i:Nat){C:Addr}{s:Shared}{H:Hp}{pins:List (Addr×Obj)}{fp:List Addr}(hnd:(own++fr).Nodup)(hi:(own++fr)[i]? = some x)(hx:x∈own)(hl:scope.names.lookup x=some .local):QG (Zc1 X own fr scope C s H pins fp) (.Name x p) (Zjp i):=⟨Zsg i hnd hi hx hl⟩
theorem ZeR (h:QE X Z iter f):QI X Z tg iter (xIl f):=⟨ZlM h.pe⟩
theorem ZcF (hg:Gl X "range")(hm:X.mg "range"=none)(ha:QE X Z a f)(hs:starEach [a] X.env=[(false,eval a X.env)]:=by rfl):QI X Z tg (.Call (.Name "range" p) [a] [] pos) (Zeo f):=⟨Zjf hg hm ha.pe hs⟩
theorem ZkW (hg:Gl X "range")(hm:X.mg "range"=none)(ha:QE X Z a f)(hb:QE X Z b g)(hs:starEach [a,b] X.env=[(false,eval a X.env),(false,eval b X.env)]:=by rfl)(hs2:starEach [b] X.env=[(false,eval b X.env)]:=by rfl):QI X Z tg (.Call (.Name "range" p) [a,b] [] pos) (ZrT f g):=⟨Zi5 hg hm ha.pe hb.pe hs hs2⟩
theorem Zk8:QC X Z [] (xC (.bl true)):=⟨ZlN⟩
theorem Zp3 (h:QT X Z c f):QC X Z [c] f:=⟨Zmo h.pt⟩
theorem Znh {osc:Scope}{N own fr:List Str}{ix:List Nat}{scope:Scope}{elt:Expr}{ifs:List Expr}{cc el:Ex}(hcalm:X.calm=true)(ho:X.env.scope=osc)(hN:X.N=N)(hk:compOk osc N own fr ix scope=true)(hi:QI X Z tg iter fi)(hG:∀ σ,TgW (Zb Z.T own ix σ) gg Gt)[hc:Pu cc][he:Pu el]
  (hg:InC X own fr scope fun Y=>QG Y tg gg) (ht:∀ σ,InC X own fr scope fun Y=>QC Y (Zb Z.T own ix σ) ifs cc) (hel:∀ σ,InC X own fr scope fun Y=>QE Y (Zb Z.T own ix σ) elt el) (hs:∀ x,foldedSetIterable iter X.env x=pure x:=by intro _; rfl) :
  QE X Z (.ListComp elt [⟨tg,iter,ifs,0⟩] scope pos) (ZfA fi own.length ix Gt cc el):=⟨ZpF hcalm ho hN hk hi.pi hG (fun a b c d e=>(hg a b c d e).pg) (fun σ a b c d e=>(ht σ a b c d e).pc) (fun σ a b c d e=>(hel σ a b c d e).pe) hs⟩
theorem Zaq:QB X Z [] Zbv:=⟨ZlW⟩
theorem Zad (h1:QS X Z st F)(h2:QB X Z sts G):QB X Z (st::sts) (Zcc F G):=⟨Zj9 h1.ps h2.ps⟩
theorem Zai (h1:QS X Z st F):QB X Z [st] F:=⟨ZlJ h1.ps⟩
theorem Zam (he:QE X Z e f):QS X Z (.Return (some e) pos) (ZdT f):=⟨Zpf he.pe⟩
theorem ZaY (he:QE X Z e f)(hs:swapsWith e none pos.line X.env=pure false:=by rfl):QS X Z (.Expr e pos) (Zbq f):=⟨Zl1 he.pe hs⟩
theorem ZaK (hc:QT X Z c f)(ha:QB X Z sts F)(hb:QB X Z more G):QS X Z (.If c sts more pos) (Zcl f F G):=⟨ZqV hc.pt ha.ps hb.ps⟩
theorem Zay {i:Nat}{pos':Pos}(hN:X.N.Nodup)(hi:X.N[i]? = some x)(hx:Loc X.env.scope x)(hsg:∀ σ v,Z.sg σ→Z.sg (σ.set i (some v)))(he:QE X Z e f)(hs:swapsWith e (some (.Name x pos')) pos.line X.env=pure false:=by rfl)
  (hf:X.fn x=true∨X.env.scope.names.lookup x=some .local:=by first | exact .inl rfl | exact .inr rfl | assumption):QS X Z (.Assign [.Name x pos'] e pos) (ZcW (gN i) f):=⟨ZnG hN hi hx hsg he.pe hs hf⟩
theorem Zg5 (hw:TgW Z gg Gt)(hp:PassesOwn (model X.prog X.w) X.A X.env X.xe)(hc:X.calm=true)(hi:QI X Z tg iter fi)(hg:QG X tg gg)(hb:QB X Z sts B)(hs:∀ x,foldedSetIterable iter X.env x=pure x:=by intro _; rfl) :
  QS X Z (.For tg iter sts [] pos) (Zer fi Gt B):=⟨ZoF hw hp hc hi.pi hg.pg hb.ps hs⟩
end
section
variable {P:Program} {w:World} {K:PySem.W.Frag} {mg:Str→Option Value} {base:Heap} {T:CTb}
theorem ZsS {x:Str}{st:Stmt}{N ps:List Str}{k:Nat}{F:Fm}{f:Addr}{fd:FuncData}{B:Sm}(R:Fun K x x st f fd)(S:FnScope N ps (Zae st))
  (hB:∀ (cdv:Value) (A:Around) (outer:List Env) (s:Shared) (H:Hp) (E:XK) (φ0:List Addr) (H0:Hp),Room k (A.deeper (envOfC x (Zae st) s.heap.objs.size f cdv))→QB (ZfS CX0 P w K mg base N x (Zae st) f cdv A outer s H E).nox (Zf T φ0 H0) (ZaZ st) B)
  (hx:∀ ws h w m,F ws h≠.ex w m) (hF:ZlC ps.length N.length B F):FnOk P w K mg base CX0 (k+1) f fd ps (spH T F):=Ztg R S (fun a b c d e g h i j=>(hB a b c d e g h i j).ps) hx hF
theorem ZsI {x:Str}{st:Stmt}{N ps:List Str}{k:Nat}{F:Fm}{B:Sm}(R:DefAt K mg x st)(S:FnScope N ps (Zae st))(hb:Zal x x st ps)
  (hB:∀ (f:Addr) (cdv:Value) (A:Around) (outer:List Env) (s:Shared) (H:Hp) (E:XK) (φ0:List Addr) (H0:Hp),Room k (A.deeper (envOfC x (Zae st) s.heap.objs.size f cdv))→QB (ZfS CX0 P w K mg base N x (Zae st) f cdv A outer s H E).nox (Zf T φ0 H0) (ZaZ st) B)
  (hx:∀ ws h w m,F ws h≠.ex w m) (hF:ZlC ps.length N.length B F):ZbU P w K mg base CX0 (k+1) x (spH T F):=Zt2 R S hb (fun z a b c d e g h i j=>(hB z a b c d e g h i j).ps) hx hF
end
end M
namespace M
open PySem PySem.Spec PyProof.Rows L2
theorem Zkg:∀ {ws:List W} {ns:List Int},ZcZ ws=some ns→ws=ns.map W.int
 | [],ns,e=>by cases e; rfl
 | w::ws,ns,e=>by
  cases w with
  | int i=>
   unfold ZcZ at e
   rw [Option.map_eq_some_iff] at e
   obtain ⟨ms,e,rfl⟩:=e
   rw [Zkg e]; rfl
  | _=>cases e
theorem ZiG {G:Tg}{B:Sm}(I:Sg→Mem→Prop):∀ (ws:List W) (ρ:Sg) (h:Mem),I ρ h →
  (∀ w∈ws,∀ ρ h,I ρ h→∃ ρ1,G w ρ=some ρ1∧∃ ρ' h',(B ρ1 h=.nx ρ' h'∨B ρ1 h=.ct ρ' h')∧I ρ' h')→∃ ρ' h',ZaC G B ws ρ h=.nx ρ' h'∧I ρ' h'
 | [],ρ,h,i,_=>⟨ρ,h,rfl,i⟩
 | w::r,ρ,h,i,hb=>by
  obtain ⟨ρ1,e1,ρ',h',e2,i2⟩:=hb w List.mem_cons_self ρ h i
  obtain ⟨ρ2,h2,e3,i3⟩:=ZiG I r ρ' h' i2 fun w m=>hb w (List.mem_cons_of_mem _ m)
  refine ⟨ρ2,h2,?_,i3⟩
  unfold ZaC
  rw [e1]
  rcases e2 with e2 | e2 <;> (simp only [e2]; exact e3)
def Zo8:Fm:=fun ws h=>match ws with
 | [.tl l]=>(match ZcZ l with
  | some ns=>if ns.length≤63∧h.isEmpty=true then .ok (.bl true) h else .no
  | none=>.no)
 | _=>.no
theorem ZnQ (ws:List W)(h:Mem)(w:W)(m:Mem):Zo8 ws h≠.ex w m:=by
 unfold Zo8
 split
 ·split
  ·split <;> simp
  ·simp
 ·simp
theorem Zj3 {n:Nat}{B:Sm}(hB:∀ ns:List Int,ns.length≤63→∃ g,ZdA n B [.tl (ns.map W.int)] []=.ok (.bl true) g):ZlC 1 n B Zo8:=by
 intro ws h wf lt
 unfold Zo8
 split
 ·rename_i l
  cases e:ZcZ l with
  | none=>exact .inl rfl
  | some ns=>
   simp only
   split
   ·rename_i hl
    have:h=[]:=List.isEmpty_iff.mp hl.2
    subst this
    rw [Zkg e]
    obtain ⟨g,q⟩:=hB ns hl.1
    refine .inr ⟨rfl,?_⟩
    rw [q]
    exact ZjK (h:=[]) (g:=g) (Nat.le_refl _) (fun o m=>by simp at m) rfl
   ·exact .inl rfl
 ·exact .inl rfl
theorem Zoo {K:PySem.W.Frag}{T:CTb}(hK:noList K=true):∀ vs H Q E,ZgH K vs H Q E→spH T Zo8 vs H Q E:=Zqb hK fun ns hl=>⟨[],by simp [Zo8,Zmq,hl]⟩
end M
namespace L2
open PySem PySem.Spec PyProof.Rows
section
variable {X:Cx} {tg:Expr}
def Zsp:List V→Hp→VK→Prop:=fun vs H Q=>match vs with
 | [.ref p]=>Zc0 (ZaQ H p) fun xs=>Zc0 (Zel xs) fun bs=>Q (.bl (bs.all id)) H
 | _=>False
theorem ZhT {bs:List Bool}:∀ {us:List Value},Vals (bs.map V.bl) us→LSm.BoolsAre us bs:=by
 induction bs with
 | nil=>intro us h; cases h; exact .nil
 | cons b r ih=>
  intro us h
  cases h with
  | cons a q=>cases a; exact .cons _ (ih q)
theorem Zk0 (hc:X.calm=true):CallR X (.builtin "all") Zsp:=by
 intro pins s σ H xs us Q I rv h
 unfold Zsp at h
 split at h
 ·rename_i p
  obtain ⟨xs,e1,h⟩:=Za9 h
  obtain ⟨bs,e2,q⟩:=Za9 h
  obtain ⟨u,rfl,ru⟩:=rv.one
  cases ru
  obtain ⟨its,r,pl,z⟩:=I.list (Zav (K:=X.K) e1)
  rw [Zg3 e2] at r
  have hb:=ZhT r
  have hl:=pl.isList
  have hlt:p<s.heap.objs.size:=by obtain ⟨_,e,_⟩:=id hl; exact Heap.lt_size e
  refine call_all_walk (wpAny_pyIter_list hl ?_)
  refine ⟨s.heap.objs.size,[s.heap.objs.size,p],[s.heap.objs.size],its.toArray.size,_,_,fun i=>(bs[i]?).getD true,rfl,Walks.list (A:=X.A.in1) (I.ok.hd hc) _ p (Nat.ne_of_lt hlt) its.toArray,
   ⟨⟨_,Heap.get?_push_size _ rfl,rfl,rfl⟩,hl.push _⟩,fun i v s' Q' E' hP hQ=>?_,fun h' tk hk=>?_⟩
  ·obtain ⟨b,e,rfl⟩:=hb.get i v (by simpa using hP)
   simp only [e,Option.getD_some] at hQ
   exact wpAny_truthy_bool hQ
  ·have e:((List.range its.toArray.size).all fun i=>(bs[i]?).getD true)=bs.all id:=by
    have hl2:its.toArray.size=bs.length:=by simpa using hb.length
    rw [hl2]
    have key:∀ (l:List Bool),((List.range l.length).all fun i=>(l[i]?).getD true)=l.all id:=by
     intro l
     induction l with
     | nil=>rfl
     | cons x r ih=>
      rw [List.length_cons,List.range_succ_eq_map,List.all_cons,List.all_map,List.all_cons]
      have:((fun i=>((x::r)[i]?).getD true) ∘ Nat.succ)=fun i=>(r[i]?).getD true:=by
       funext i
       simp
      rw [this,ih]
      rfl
    exact key bs
   rw [e]
   exact ⟨.bl _,H,I.kept (t':=tk) (LSm.kept_iter hk),rfl,q⟩
 ·exact h.elim
def ZpX (neg:Bool):R2:=fun x y H Q=>match y with
 | .str j=>(match x with
  | .str i=>Q (.bl (neg ^^ !(Builtin.Str.occurrences j i 0 j.length 1).isEmpty)) H
  | _=>False)
 | .ref p=>(match H p with
  | some (.dK kvs)=>∃ k,x=kV k∧Q (.bl (neg ^^ (ZeF kvs k).isSome)) H
  | some (.frz _ (.dK kvs))=>∃ k,x=kV k∧Q (.bl (neg ^^ (ZeF kvs k).isSome)) H
  | _=>Zc0 (ZbD H p) fun xs=>ZaA x=true∧xs.all ZaA=true∧Q (.bl (neg ^^ inV x xs)) H)
 | _=>False
theorem Znw {K:PySem.W.Frag}{H:Hp}{p:Addr}{xs:List V}(h:ZbD H p=some xs):SqL K H p xs∨SqT K H p xs:=by
 rcases ZdJ h with h | h
 ·exact .inl (Zav h)
 ·exact .inr (ZbR h)
theorem Zrw {k:Nat}(hr:Room k X.A):OpR X (compareOp .In) (ZpX false):=by
 intro pins s σ H x y v u Q I rx ry h
 unfold ZpX at h
 split at h
 ·split at h
  ·exact Zkk pins s σ H _ _ v u Q I rx ry ⟨_,_,rfl,rfl,by simpa using h⟩
  ·exact h.elim
 ·split at h
  ·rename_i p kvs e
   obtain ⟨k,rfl,q⟩:=h
   cases ry
   exact ZtL (Zi8 hr) I (.k e) rx fun s' I'=>⟨.bl _,H,I',rfl,by simpa using q⟩
  ·rename_i p ob kvs e
   obtain ⟨k,rfl,q⟩:=h
   cases ry
   exact ZtL (Zi8 hr) I (.inl ⟨kvs,k,.inr ⟨ob,e⟩,rfl,rfl⟩) rx fun s' I'=>⟨.bl _,H,I',rfl,by simpa using q⟩
  ·obtain ⟨xs,e,h1,h2,q⟩:=Za9 h
   exact Zlf pins s σ H _ _ v u Q I rx ry ⟨_,xs,rfl,Znw e,h1,h2,by simpa using q⟩
 ·exact h.elim
theorem ZjY {k:Nat}(hr:Room k X.A):OpR X (compareOp .NotIn) (ZpX true):=by
 intro pins s σ H x y v u Q I rx ry h
 unfold ZpX at h
 split at h
 ·split at h
  ·exact ZgJ pins s σ H _ _ v u Q I rx ry ⟨_,_,rfl,rfl,by simpa using h⟩
  ·exact h.elim
 ·split at h
  ·rename_i p kvs e
   obtain ⟨k,rfl,q⟩:=h
   cases ry
   exact ZkK (Zi8 hr) I (.k e) rx fun s' I'=>⟨.bl _,H,I',rfl,by simpa using q⟩
  ·rename_i p ob kvs e
   obtain ⟨k,rfl,q⟩:=h
   cases ry
   exact ZkK (Zi8 hr) I (.inl ⟨kvs,k,.inr ⟨ob,e⟩,rfl,rfl⟩) rx fun s' I'=>⟨.bl _,H,I',rfl,by simpa using q⟩
  ·obtain ⟨xs,e,h1,h2,q⟩:=Za9 h
   exact ZgD pins s σ H _ _ v u Q I rx ry ⟨_,xs,rfl,Znw e,h1,h2,by simpa using q⟩
 ·exact h.elim
end
end L2
namespace M
open PySem PySem.Spec PyProof.Rows L2
section
variable {T:CTb}
def Zet:List W→Option (List Bool)
 | []=>some []
 | .bl i::r=>(Zet r).map (i :: ·)
 | _::_=>none
theorem Zkn {φ:List Addr}{H:Hp}:∀ {ws:List W} {vs:List V} {ns:List Bool},RWs T φ H ws vs→Zet ws=some ns→Zel vs=some ns
 | [],vs,ns,r,e=>by cases e; unfold RWs at r; subst r; rfl
 | w::ws,vs,ns,r,e=>by
  unfold RWs at r
  obtain ⟨v,s,rfl,a,b⟩:=r
  cases w with
  | bl i=>
   unfold Zet at e
   rw [Option.map_eq_some_iff] at e
   obtain ⟨ms,e,rfl⟩:=e
   rw [Zha a]
   unfold Zel
   rw [Zkn b e]; rfl
  | _=>cases e
def ZbO (h:Mem):List W→Option W
 | [w]=>((items h w).bind Zet).map fun bs=>.bl (bs.all id)
 | _=>none
theorem Zmd:CbW T ZbO Zsp:=by
 intro φ h H ws vs w Q r x e k
 unfold ZbO at e
 split at e
 ·obtain ⟨v,rfl,y0⟩:=ZbJ x
  rw [Option.map_eq_some_iff] at e
  obtain ⟨ns,e,rfl⟩:=e
  rw [Option.bind_eq_some_iff] at e
  obtain ⟨us,e1,e2⟩:=e
  obtain ⟨p,vs,rfl,q1,q2⟩:=ZbQ r y0 e1
  show Zc0 (ZaQ H p) _
  rw [q1]
  show Zc0 (Zel vs) _
  rw [Zkn q2 e2]
  exact ZaN r Zjm k
 ·cases e
def ZcR:W→Option Key
 | .int i=>some (.inl i)
 | .str x=>some (.inr x)
 | _=>none
def ZeD {α:Type}(kvs:List (Key×α))(k:Key):Option α:=(kvs.find? fun kv=>decide (kv.1=k)).map (·.2)
def Za1 (h:Mem):W→Option (List (Key×W))
 | .td ks ws=>some (ks.zip ws)
 | .ref n=>(match h[n]? with
  | some (.dic kvs)=>some kvs
  | some (.fdic kvs)=>some kvs
  | _=>none)
 | _=>none
def inM (neg:Bool)(h:Mem)(a b:W):Option W:=match b with
 | .str j=>(match a with
  | .str i=>some (.bl (neg ^^ !(Builtin.Str.occurrences j i 0 j.length 1).isEmpty))
  | _=>none)
 | b=>(match Za1 h b with
  | some kvs=>(ZcR a).map fun k=>.bl (neg ^^ (ZeD kvs k).isSome)
  | none=>(Zep h b).bind fun xs=>if (ZaO a && xs.all ZaO)=true then some (.bl (neg ^^ xs.any fun y=>Zdg y a)) else none)
theorem ZhL {φ:List Addr}{H:Hp}{kvs:List (Key×W)}{kv:List (Key×V)}(r:RP T φ H kvs kv)(k:Key):match ZeD kvs k,ZeF kv k with
  | some w,some v=>RW T φ H w v
  | none,none=>True
  | _,_=>False:=by
 unfold ZeD ZeF
 induction r with
 | nil=>trivial
 | @cons a b as bs h _ ih=>
  rw [List.find?_cons,List.find?_cons,h.1]
  by_cases e:b.1=k
  ·simp only [e,decide_true]
   exact h.2
  ·simp only [e,decide_false]
   exact ih
theorem Zm5 {φ:List Addr}{H:Hp}{κ:Type}:∀ {ks:List κ} {ws:List W} {vs:List V},RWs T φ H ws vs→RP T φ H (ks.zip ws) (ks.zip vs)
 | [],ws,vs,r=>by simp; exact .nil
 | k::ks,[],vs,r=>by unfold RWs at r; subst r; exact .nil
 | k::ks,w::ws,vs,r=>by
  unfold RWs at r
  obtain ⟨v,s,rfl,a,b⟩:=r
  rw [List.zip_cons_cons,List.zip_cons_cons]
  exact .cons ⟨rfl,a⟩ (Zm5 b)
theorem Zey {φ:List Addr}{H:Hp}{h:Mem}{w:W}{v:V}{kvs:List (Key×W)}(r:RH T φ h H)(x:RW T φ H w v)(e:Za1 h w=some kvs):∃ p kv,v=.ref p∧Rd H p (.dK kv)∧RP T φ H kvs kv:=by
 cases w with
 | td ks ws=>
  cases e
  unfold RW at x
  obtain ⟨p,vs,rfl,_,c,l,rr⟩:=x
  exact ⟨p,_,rfl,.inl c,Zm5 rr⟩
 | ref n=>
  unfold Za1 at e
  unfold RW at x
  obtain ⟨p,a,rfl⟩:=x
  cases q:h[n]? with
  | none=>simp [q] at e
  | some o=>
   cases o with
   | dic us=>
    simp [q] at e
    subst e
    obtain ⟨ho,y,kv,rfl,z⟩:=r.obj n _ p q a
    exact ⟨p,kv,rfl,.inl y,z⟩
   | fdic us=>
    simp [q] at e
    subst e
    obtain ⟨ho,y,ob,kv,rfl,z⟩:=r.obj n _ p q a
    exact ⟨p,kv,rfl,.inr ⟨ob,y⟩,z⟩
   | _=>simp [q] at e
 | _=>cases e
theorem ZeT {φ:List Addr}{H:Hp}{w:W}{v:V}{k:Key}(x:RW T φ H w v)(e:ZcR w=some k):v=kV k:=by
 cases w with
 | int i=>cases e; exact ZbC x
 | str i=>cases e; exact Zc6 x
 | _=>cases e
theorem Zif {φ:List Addr}{H:Hp}{a:W}{u:V}(ra:RW T φ H a u)(fa:ZaO a=true):∀ {ws:List W} {vs:List V},RWs T φ H ws vs→ws.all ZaO=true→vs.all ZaA=true∧inV u vs=ws.any fun y=>Zdg y a
 | [],vs,r,f=>by unfold RWs at r; subst r; exact ⟨rfl,rfl⟩
 | w::ws,vs,r,f=>by
  unfold RWs at r
  obtain ⟨v,s,rfl,x,y⟩:=r
  rw [List.all_cons,Bool.and_eq_true] at f
  have ih:=Zif ra fa y f.2
  have f1:=ZcA x f.1
  refine ⟨by rw [List.all_cons,f1.1,ih.1]; rfl,?_⟩
  unfold inV at ih ⊢
  rw [List.any_cons,List.any_cons,ih.2,f1.2 ra fa]
theorem ZmS {neg:Bool}:OpW T (inM neg) (ZpX neg):=by
 intro φ h H a b u v w Q r ra rb e k
 unfold inM at e
 split at e
 ·rw [Zc6 rb]
  split at e
  ·cases e
   rw [Zc6 ra]
   exact ZaN r Zjm k
  ·cases e
 ·rename_i b' hb
  cases q:Za1 h b with
  | some kvs=>
   rw [q] at e
   simp only [Option.map_eq_some_iff] at e
   obtain ⟨key,e1,rfl⟩:=e
   obtain ⟨p,kv,rfl,hp,rp⟩:=Zey r rb q
   have:=ZhL rp key
   have e2:(ZeF kv key).isSome=(ZeD kvs key).isSome:=by
    cases z1:ZeD kvs key <;> cases z2:ZeF kv key <;> simp [z1,z2] at this ⊢
   have fin:∃ k,u=kV k∧Q (.bl (neg ^^ (ZeF kv k).isSome)) H:=⟨key,ZeT ra e1,by rw [e2]; exact ZaN r Zjm k⟩
   unfold ZpX
   rcases hp with hp | ⟨ob,hp⟩
   ·simp only [hp]; exact fin
   ·simp only [hp]; exact fin
  | none=>
   rw [q] at e
   simp only [Option.bind_eq_some_iff] at e
   obtain ⟨xs,e1,e2⟩:=e
   split at e2
   ·rename_i hf
    cases e2
    rw [Bool.and_eq_true] at hf
    obtain ⟨p,vs,rfl,hp,rs⟩:=Zhp r rb e1
    have hd:∀ kvs,H p≠some (.dK kvs):=fun kvs z=>by
     unfold ZbD at hp; rw [z] at hp; cases hp
    have hd2:∀ ob kvs,H p≠some (.frz ob (.dK kvs)):=fun ob kvs z=>by
     unfold ZbD at hp; rw [z] at hp; cases hp
    have f:=Zif ra hf.1 rs hf.2
    have fin:Zc0 (ZbD H p) fun xs=>ZaA u=true∧xs.all ZaA=true∧Q (.bl (neg ^^ inV u xs)) H:=by
     rw [hp]
     exact ⟨(ZcA ra hf.1).1,f.1,by rw [f.2]; exact ZaN r Zjm k⟩
    show (match H p with
     | some (.dK kvs)=>∃ k,u=kV k∧Q (.bl (neg ^^ (ZeF kvs k).isSome)) H
     | some (.frz _ (.dK kvs))=>∃ k,u=kV k∧Q (.bl (neg ^^ (ZeF kvs k).isSome)) H
     | _=>Zc0 (ZbD H p) fun xs=>ZaA u=true∧xs.all ZaA=true∧Q (.bl (neg ^^ inV u xs)) H)
    cases z:H p with
    | none=>exact fin
    | some o=>
     cases o with
     | dK kvs=>exact absurd z (hd kvs)
     | frz ob u'=>
      cases u' with
      | dK kvs=>exact absurd z (hd2 ob kvs)
      | _=>exact fin
     | _=>exact fin
   ·cases e2
end
end M
namespace M
open PySem PySem.Spec PyProof.Rows L2
theorem Zii {α:Type}{G:Tg}{c el:Ex}{ρ0:Sg}{h:Mem}(g r:α→W)(p:α→Bool):∀ (l:List α) (acc:List W),
  (∀ a∈l,∀ acc:List W,∃ ρ,G (g a) ρ0=some ρ∧(∃ h',c ρ (h++[.lst acc])=.ok (.bl (p a)) h')∧(p a=true→(∃ h',el ρ (h++[.lst acc])=.ok (r a) h')∧ltW h.length (r a)=true)) →
  ZkB G c el ρ0 h (l.map g) acc=some (acc++(l.filter p).map r)
 | [],acc,_=>by simp [ZkB]
 | a::l,acc,hh=>by
  obtain ⟨ρ,e1,⟨h',e2⟩,e3⟩:=hh a List.mem_cons_self acc
  have ih:=fun acc=>Zii g r p l acc fun b m=>hh b (List.mem_cons_of_mem _ m)
  rw [List.map_cons]
  unfold ZkB
  simp only [e1,e2]
  cases q:p a with
  | false=>
   simp only [List.filter_cons,q]
   exact ih acc
  | true=>
   obtain ⟨⟨h'',e4⟩,e5⟩:=e3 q
   simp only [e4,e5,if_true,List.filter_cons,q,List.map_cons]
   rw [ih]
   simp
theorem Zhg {α:Type}{fi:Ei}{own:Nat}{ix:List Nat}{G:Tg}{c el:Ex}{ρ:Sg}{h h1:Mem}{s:Option Nat}(g r:α→W)(p:α→Bool)(l:List α)(hfi:fi ρ h=.ok s (l.map g) h1)(hz:l.length<sizeLine)
  (hh:∀ a∈l,∀ acc:List W,∃ ρ',G (g a) (ρC own ix ρ)=some ρ'∧(∃ h',c ρ' (h1++[.lst acc])=.ok (.bl (p a)) h')∧(p a=true→(∃ h',el ρ' (h1++[.lst acc])=.ok (r a) h')∧ltW h1.length (r a)=true)) :
  ZfA fi own ix G c el ρ h=.ok (.tl ((l.filter p).map r)) h1:=by
 unfold ZfA
 rw [hfi]
 simp only [List.length_map,hz,if_true]
 rw [Zii g r p l [] hh]
 rfl
theorem ZkP {α:Type}{fi:Ei}{own:Nat}{ix:List Nat}{G:Tg}{el:Ex}{ρ:Sg}{h h1:Mem}{s:Option Nat}(g r:α→W)(l:List α)(hfi:fi ρ h=.ok s (l.map g) h1)(hz:l.length<sizeLine)
  (hh:∀ a∈l,∀ acc:List W,∃ ρ',G (g a) (ρC own ix ρ)=some ρ'∧(∃ h',el ρ' (h1++[.lst acc])=.ok (r a) h')∧ltW h1.length (r a)=true) :
  ZfA fi own ix G (xC (.bl true)) el ρ h=.ok (.tl (l.map r)) h1:=by
 rw [Zhg g r (fun _=>true) l hfi hz fun a m acc=>by
  obtain ⟨ρ',e1,e2,e3⟩:=hh a m acc
  exact ⟨ρ',e1,⟨_,rfl⟩,fun _=>⟨e2,e3⟩⟩]
 rw [List.filter_eq_self.mpr (by simp)]
def ZeL (n m:Nat)(B:Sm):Fm:=fun ws h=>if ws.length=n then (match ZdA m B ws h with
 | .ok w h'=>if h.length≤h'.length then .ok w h' else .no
 | _=>.no) else .no
theorem Zaj {n m:Nat}{B:Sm}{ws:List W}{h h':Mem}{w:W}(hl:ws.length=n)(e:ZdA m B ws h=.ok w h')(hk:h.length≤h'.length):ZeL n m B ws h=.ok w h':=by
 unfold ZeL
 rw [if_pos hl,e]
 simp [hk]
section
variable {P:Program} {w:World} {K:PySem.W.Frag} {mg:Str→Option Value} {base:Heap} {T:CTb}
theorem Zd5 {x:Str}{st:Stmt}{N ps:List Str}{k:Nat}{B:Sm}(R:DefAt K mg x st)(S:FnScope N ps (Zae st))(hb:Zal x x st ps)
  (hB:∀ (f:Addr) (cdv:Value) (A:Around) (outer:List Env) (s:Shared) (H:Hp) (E:XK) (φ0:List Addr) (H0:Hp),Room k (A.deeper (envOfC x (Zae st) s.heap.objs.size f cdv))→QB (ZfS CX0 P w K mg base N x (Zae st) f cdv A outer s H E).nox (Zf T φ0 H0) (ZaZ st) B) :
  ZbU P w K mg base CX0 (k+1) x (spH T (ZeL ps.length N.length B)):=by
 refine ZsI R S hb hB (fun ws h w m=>?_) fun ws h wf lt=>?_
 ·unfold ZeL
  split
  ·split
   ·split <;> simp
   ·simp
  ·simp
 ·unfold ZeL
  split
  ·rename_i hl
   cases e:ZdA N.length B ws h with
   | ok w h'=>
    simp only
    split
    ·rename_i hk
     exact .inr ⟨hl,ZhF hk⟩
    ·exact .inl rfl
   | ex w h'=>exact .inl rfl
   | no=>exact .inl rfl
  ·exact .inl rfl
end
theorem ZmD {α:Type}{l:List α}{i:Int}(d:α)(h0:0≤i)(h1:i<l.length):atI l i=some (l.getD i.toNat d):=by
 rw [Zcw h0]
 have:i.toNat<l.length:=by omega
 simp [List.getD,this]
theorem Zoa (sep:Str)(ts:List Str):Txt.join sep ts=Str.join sep ts:=by
 unfold Txt.join
 rw [StrLaws.glued_eq_join]
theorem ZjF {sep:Str}{ts:List Str}(h:(ts.map fun t=>t.length+sep.length).sum≤sizeLine):JoinOk sep ts=true:=by
 have key:∀ (l:List Str) (n:Nat),l.foldl (fun acc t=>acc+t.length+sep.length) n=n+(l.map fun t=>t.length+sep.length).sum:=by
  intro l
  induction l with
  | nil=>intro n; simp
  | cons x r ih=>intro n; rw [List.foldl_cons,ih]; simp; omega
 unfold JoinOk
 rw [← Array.foldl_toList]
 rw [show (ts.toArray.toList)=ts from rfl,key]
 simp [PySem.Builtin.Str.tooLong]
 omega
end M
namespace L2
open PySem PySem.Spec PyProof.Rows PySem.Builtin.Str
end L2
namespace M
open PySem PySem.Spec PyProof.Rows L2 PySem.Builtin.Str
end M
namespace M
open PySem PySem.Spec PyProof.Rows L2
end M
namespace M
open PySem PySem.Spec PyProof.Rows L2
section
variable {T:CTb} {φ:List Addr} {H:Hp}
theorem ZdO {nm:Str}:∀ {fs:List (Str×W)} {fv:List (Str×V)},RP T φ H fs fv→(∀ w,fs.lookup nm=some w→∃ v,fv.lookup nm=some v∧RW T φ H w v)∧(fs.lookup nm=none→fv.lookup nm=none)
 | [],fv,r=>by
  cases r
  exact ⟨fun _ e=>(by cases e),fun _=>rfl⟩
 | (a,x)::fs,fv,r=>by
  cases r with
  | cons p q=>
   rename_i b l
   obtain ⟨k,v⟩:=b
   obtain ⟨e,rx⟩:=p
   dsimp only at e rx
   subst e
   obtain ⟨i1,i2⟩:=ZdO (nm:=nm) q
   rw [List.lookup_cons,List.lookup_cons]
   cases h:nm == a with
   | true=>exact ⟨fun w e=>by cases e; exact ⟨v,rfl,rx⟩,fun e=>by cases e⟩
   | false=>exact ⟨i1,i2⟩
def ZmF (f:Str)(w:W):List (Str×W)→List (Str×W)
 | []=>[(f,w)]
 | (g,x)::r=>bif g == f then (g,w)::r else (g,x)::ZmF f w r
theorem Znv {nm:Str}{w:W}{v:V}(x:RW T φ H w v):∀ {fs:List (Str×W)} {fv:List (Str×V)},RP T φ H fs fv→RP T φ H (ZmF nm w fs) (ZfR nm v fv)
 | [],fv,r=>by cases r; exact .cons ⟨rfl,x⟩ .nil
 | (a,y)::fs,fv,r=>by
  cases r with
  | cons p q=>
   rename_i b l
   obtain ⟨k,u⟩:=b
   obtain ⟨e,rx⟩:=p
   dsimp only at e rx
   subst e
   unfold ZmF ZfR
   by_cases h:a=nm
   ·rw [if_pos h,beq_iff_eq.mpr h]
    exact .cons ⟨rfl,x⟩ q
   ·rw [if_neg h,beq_eq_false_iff_ne.mpr h]
    exact .cons ⟨rfl,rx⟩ (Znv x q)
def Zes (nm:Str)(h:Mem):W→Option W
 | .ref n=>(match h[n]? with
  | some (.ins _ fs)=>fs.lookup nm
  | _=>none)
 | _=>none
def Zcn (K:PySem.W.Frag)(T:CTb)(nm:Str):Prop:=∀ c C,T c=some C→Cls K C∧NoAttr K C nm
def Zt6 (K:PySem.W.Frag)(nm:Str):V→Hp→VK→Prop:=fun x H Q=>∃ a C dx fs v,x=.ref a∧H a=some (.ins C dx fs)∧Cls K C∧NoAttr K C nm∧fs.lookup nm=some v∧Q v H
theorem Zgh {h:Mem}{n:Nat}{c:Str}{fs:List (Str×W)}{v:V}(r:RH T φ h H)(x:RW T φ H (.ref n) v)(e:h[n]? = some (.ins c fs)):∃ a C dx fv,v=.ref a∧φ[n]? = some a∧H a=some (.ins C dx fv)∧T c=some C∧RP T φ H fs fv:=by
 unfold RW at x
 obtain ⟨a,ea,rfl⟩:=x
 obtain ⟨ho,y,C,dx,fv,rfl,hc,rp⟩:=r.obj n _ a e ea
 exact ⟨a,C,dx,fv,rfl,ea,y,hc,rp⟩
theorem Zn0 {K:PySem.W.Frag}{nm:Str}(hK:Zcn K T nm):UnW T (Zes nm) (Zt6 K nm):=by
 intro φ h H a u w Q r ra e k
 unfold Zes at e
 split at e
 ·rename_i n
  split at e
  ·rename_i c fs q
   obtain ⟨p,C,dx,fv,rfl,_,y,hc,rp⟩:=Zgh r ra q
   obtain ⟨v,ev,rv⟩:=(ZdO rp).1 w e
   exact ⟨p,C,dx,fv,v,rfl,y,(hK c C hc).1,(hK c C hc).2,ev,k H v (Step.refl _ _) r rv⟩
  ·cases e
 ·cases e
end
def Zjq (nm:Str)(fo fv:Ex):Sm:=fun ρ h=>match fv ρ h with
 | .ok y h1=>(match fo ρ h1 with
  | .ok (.ref n) h2=>(match h2[n]? with
   | some (.ins c fs)=>bif decide (fs.length<1000) then .nx ρ (h2.set n (.ins c (ZmF nm y fs))) else .no
   | _=>.no)
  | .ex w h2=>.ex w h2
  | _=>.no)
 | .ex w h1=>.ex w h1
 | .no=>.no
def xLm (op:List W→List W→Option (W×List W))(f:Ex)(g:Exs):Ex:=fun ρ h=>(f ρ h).bind fun a h1=>match a with
 | .ref n=>(match h1[n]? with
  | some (.lst _)=>(match g ρ h1 with
   | .ok ws h2=>(match h2[n]? with
    | some (.lst xs)=>(match op xs ws with
     | some (w,ys)=>.ok w (h2.set n (.lst ys))
     | none=>.no)
    | _=>.no)
   | .ex w h2=>.ex w h2
   | .no=>.no)
  | _=>.no)
 | _=>.no
def LmW (T:CTb)(op:List W→List W→Option (W×List W))(r:V→List V→Hp→VK→Prop):Prop:=∀ φ h H n ws vs u xs ys w Q,RH T φ h H→RW T φ H (.ref n) u→RWs T φ H ws vs→h[n]? = some (.lst xs)→op xs ws=some (w,ys) →
 (∀ H' x,Step φ H φ H'→RH T φ (h.set n (.lst ys)) H'→RW T φ H' w x→Q x H')→r u vs H Q
def Zfh:List W→List W→Option (W×List W):=fun xs ws=>match ws with
 | [w]=>bif decide (xs.length<sizeLine) then some (.non,xs++[w]) else none
 | _=>none
section
variable {T:CTb}
theorem Ze5 {φ:List Addr}{H:Hp}{h:Mem}{n:Nat}{xs:List W}{v:V}(r:RH T φ h H)(x:RW T φ H (.ref n) v)(e:h[n]? = some (.lst xs)):∃ a us,v=.ref a∧φ[n]? = some a∧H a=some (.lst us)∧RWs T φ H xs us:=by
 unfold RW at x
 obtain ⟨a,ea,rfl⟩:=x
 obtain ⟨ho,y,us,rfl,rp⟩:=r.obj n _ a e ea
 exact ⟨a,us,rfl,ea,y,rp⟩
theorem Zpr:LmW T Zfh Zgf:=by
 intro φ h H n ws vs u xs ys w Q r ru rv e1 e2 k
 obtain ⟨a,us,rfl,ea,y,rx⟩:=Ze5 r ru e1
 unfold Zfh at e2
 split at e2
 ·rename_i w0
  cases hz:decide (xs.length<sizeLine) with
  | false=>rw [hz] at e2; cases e2
  | true=>
   rw [hz] at e2
   cases e2
   obtain ⟨v,rfl,rv1⟩:=ZbJ rv
   have ro:RO T φ H (.lst (xs++[w0])) (.lst (us++[v])):=⟨_,rfl,ZcO rx (by unfold RWs; exact ⟨_,_,rfl,rv1,by unfold RWs; rfl⟩)⟩
   show match H a with | some (.lst xs)=>_ | _=>False
   rw [y]
   exact ⟨by rw [← rx.length]; exact of_decide_eq_true hz,k _ _ (Zbx (List.mem_of_getElem? ea) (ZgT y)) (r.set ea ro) (by unfold RW; rfl)⟩
 ·cases e2
end
section
variable {X:Cx} {Z:Zc} {f g k:Ex} {fa:Exs} {o e v:Expr} {es:List Expr} {apos cpos pos pos':Pos} {nm:Str}
theorem Zbh (he:QE X Z e f)(hK:Zcn X.K Z.T nm)(hb:attributeBase e nm X.env (eval e X.env)=eval e X.env:=by rfl):QE X Z (.Attribute e nm pos) (xUn (Zes nm) f):=
 ⟨(Zqm he.pe hb).imp fun σ H Q ⟨φ,m,ρ,x,q⟩=>⟨φ,m,ρ,x,by
  unfold xUn at q
  rw [ZdE] at q
  refine q.mono fun a h1 q1=>fun φ1 H1 u s1 r1 ra=>?_
  obtain ⟨w,e,k⟩:=ofP q1
  exact Zn0 hK φ1 h1 H1 a u w Q r1 ra e (k.step s1).end⟩⟩
theorem Zc5 (ho:QE X Z o f)(hv:QE X Z v g)(hK:Zcn X.K Z.T nm)(hs:swapsWith v (some (.Attribute o nm pos')) pos.line X.env=pure false:=by rfl):QS X Z (.Assign [.Attribute o nm pos'] v pos) (Zjq nm f g):=
 ⟨(ZrK ho.pe hv.pe hs).imp fun D σ H ⟨φ,m,ρ,x,q⟩=>⟨φ,m,ρ,x,by
  unfold Zjq at q
  cases e1:g ρ m with
  | no=>rw [e1] at q; exact q.elim
  | ex w h1=>rw [e1] at q; exact q
  | ok y h1=>
   rw [e1] at q
   intro φ1 H1 vy s1 r1 ry
   refine ⟨φ1,h1,ρ,x.step s1 r1,?_⟩
   dsimp only at q
   cases e2:f ρ h1 with
   | no=>rw [e2] at q; exact q.elim
   | ex w h2=>rw [e2] at q; exact q
   | ok a h2=>
    rw [e2] at q
    intro φ2 H2 va s2 r2 ra
    cases a with
    | ref n=>
     dsimp only at q
     cases e3:h2[n]? with
     | none=>rw [e3] at q; exact q.elim
     | some ob=>
      rw [e3] at q
      cases ob with
      | ins c fs=>
       dsimp only at q
       cases hz:decide (fs.length<1000) with
       | false=>rw [hz] at q; exact q.elim
       | true=>
        rw [hz] at q
        obtain ⟨p,C,dx,fv,rfl,ep,yp,hc,rp⟩:=Zgh r2 ra e3
        have ro:RO Z.T φ2 H2 (.ins c (ZmF nm y fs)) (.ins C dx (ZfR nm vy fv)):=⟨C,dx,_,rfl,hc,Znv (ry.step s2) rp⟩
        have s3:=Zbx (H:=H2) (ho:=.ins C dx (ZfR nm vy fv)) (List.mem_of_getElem? ep) (Zqq yp)
        exact ⟨p,C,dx,fv,rfl,yp,(hK c C hc).1,(hK c C hc).2,by rw [← ZcC rp]; exact of_decide_eq_true hz,
         q φ2 _ σ (s1.trans (s2.trans s3)) (r2.set ep ro) (x.rs.step (s1.trans (s2.trans s3))) x.sg⟩
      | _=>exact q.elim
    | _=>exact q.elim⟩⟩
end
end M
namespace M
open PySem PySem.Spec PyProof.Rows L2
section
variable {X:Cx} {Z:Zc} {f g k:Ex} {fa:Exs} {o e v:Expr} {es:List Expr} {apos cpos pos pos' p:Pos} {nm:Str}
theorem ZsT {op:List W→List W→Option (W×List W)}{r:V→List V→Hp→VK→Prop}(hw:LmW Z.T op r){K:PySem.W.Frag}{σ:St}{H:Hp}{Q:VK}(q:tH Z (xLm op f fa) σ H Q):tBM K "list" r (tH Z f) (tHA Z fa) σ H Q:=by
 obtain ⟨φ,m,ρ,x,q⟩:=q
 refine ⟨φ,m,ρ,x,?_⟩
 unfold xLm at q
 rw [ZdE] at q
 refine q.mono fun a h1 q1=>fun φ1 H1 u s1 r1 ra=>?_
 cases a with
 | ref n=>
  dsimp only at q1
  cases e1:h1[n]? with
  | none=>rw [e1] at q1; exact q1.elim
  | some ob=>
   rw [e1] at q1
   cases ob with
   | lst xs0=>
    dsimp only at q1
    obtain ⟨a,us,rfl,ea,y,rx⟩:=Ze5 r1 ra e1
    refine ⟨.inl ⟨rfl,us,Zav (Zbj y)⟩,φ1,h1,ρ,x.step s1 r1,?_⟩
    cases e2:fa ρ h1 with
    | no=>rw [e2] at q1; exact q1.elim
    | ex w h2=>rw [e2] at q1; exact q1
    | ok ws h2=>
     rw [e2] at q1
     intro φ2 H2 vs s2 r2 rv
     dsimp only at q1
     cases e3:h2[n]? with
     | none=>rw [e3] at q1; exact q1.elim
     | some ob=>
      rw [e3] at q1
      cases ob with
      | lst xs=>
       dsimp only at q1
       cases e4:op xs ws with
       | none=>rw [e4] at q1; exact q1.elim
       | some wy=>
        rw [e4] at q1
        obtain ⟨w,ys⟩:=wy
        exact hw φ2 h2 H2 n ws vs _ xs ys w Q r2 (ra.step s2) rv e3 e4 fun H' z s r' rz=>q1 φ2 H' z (s1.trans (s2.trans s)) r' rz
      | _=>exact q1.elim
   | _=>exact q1.elim
 | _=>exact q1.elim
theorem ZcU (ho:QE X Z o f)(ha:QA X Z [e] fa)(hbase:attributeBase o "append" X.env (eval o X.env)=eval o X.env:=by rfl)
  (hfew:((backTo cpos (starEach [e] X.env)).all (fun x=>!x.1) && (backToKw cpos (keywordEach [] X.env)).all (fun x=>x.1.isSome)
   && decide (([e]:List Expr).length+([]:List Keyword).length+(if ([]:List Keyword).isEmpty then 0 else 1)<30))=true:=by rfl)
  (hline:(apos.endLine == cpos.line)=true:=by rfl) (hs:starEach [e] X.env=(false,eval e X.env)::starEach [] X.env:=by rfl) (hplain:(backTo cpos (starEach [] X.env)).any (·.1)=false:=by rfl) :
  QE X Z (.Call (.Attribute o "append" apos) [e] [] cpos) (xLm Zfh f fa):=
 ⟨(ZnF PySem.F.plainAttrs_list PySem.F.slot_list_append PySem.F.type_list_append Zjg ho.pe ha.pa hbase hfew hline hs hplain).imp fun σ H Q q=>ZsT Zpr q⟩
def ZkF (CX:CXT)(k:Nat)(X:Cx)(m:Str)(E:XK)(ta:TE)(t:TA):TE:=fun σ H Q=>ta σ H fun x H1=>∃ a C dx fs f fd ps sp,x=.ref a∧H1 a=some (.ins C dx fs)∧Cls X.K C∧Meth X.K C m f ∧
 FnOk X.prog X.w X.K X.mg X.base CX k f fd ps sp∧Binds X.K fd ps []∧fs.lookup m=none∧t σ H1 fun vs H2=>sp (x::vs) H2 Q E
theorem Zmh {CX:CXT}{k:Nat}{m:Str}{E:XK}{ta:TE}{t:TA}{pl:Sem Bool}(he:PE X o ta)(hr:Room k X.A)(hx:ZdR CX X E)(ha:PA X (e::es) t)
  (hst:starEach (e::es) X.env=(false,eval e X.env)::starEach es X.env:=by rfl) (hpl:(backTo pos (starEach es X.env)).any (·.1)=false:=by rfl)
  (ht:eval (.Call (.Attribute o m apos) (e::es) [] pos) X.env=(do
   let ov ← eval o X.env
   standAt apos.atName
   let (f,first) ← holding [ov] (getMethod ov m pl)
   callWith pos f first (backTo pos (starEach (e::es) X.env)) (backToKw pos (keywordEach [] X.env))):=by rfl) :
  PE X (.Call (.Attribute o m apos) (e::es) [] pos) (ZkF CX k X m E ta t):=by
 intro pins s σ H Q I h
 refine PySem.W.methodCall_KW (pl:=pl) (thn (he pins s σ H _ I h) fun u s1 ⟨x,H1,I1,rx,a,C,dx,fs,f,fd,ps,sp,ex,ea,c,hm,F,hb,l,q⟩=>?_) ht
 subst ex
 obtain rfl:u=Value.ref a:=rx
 refine Zd1 I1 ea c hm l ?_
 refine PySem.W.callWith_K (first:=[.ref a]) (h₀:=X.base) I.ok.mod.kin hm.kp (thn (ha pos pins s1 σ H1 _ I1 q) fun us s2 ⟨vs,H2,I2,r,q2⟩=>⟨I2.kIn,?_⟩) hst hpl
 exact ZjU (us:=.ref a::us) (vs:=.ref a::vs) F hr hb .nil hx I2 (.cons rfl r) (by rw [List.append_nil]; exact q2)
theorem ZkQ {CX:CXT}{k:Nat}{m:Str}{E:XK}{ta:TE}{pl:Sem Bool}(he:PE X o ta)(hr:Room k X.A)(hx:ZdR CX X E)
  (ht:eval (.Call (.Attribute o m apos) [] [] pos) X.env=(do
   let ov ← eval o X.env
   standAt apos.atName
   let (f,first) ← holding [ov] (getMethod ov m pl)
   callWith pos f first (backTo pos (starEach [] X.env)) (backToKw pos (keywordEach [] X.env))):=by rfl) :
  PE X (.Call (.Attribute o m apos) [] [] pos) (ZkF CX k X m E ta ZrR):=by
 intro pins s σ H Q I h
 refine PySem.W.methodCall_KW (pl:=pl) (thn (he pins s σ H _ I h) fun u s1 ⟨x,H1,I1,rx,a,C,dx,fs,f,fd,ps,sp,ex,ea,c,hm,F,hb,l,q⟩=>?_) ht
 subst ex
 obtain rfl:u=Value.ref a:=rx
 refine Zd1 I1 ea c hm l ?_
 exact PySem.W.callWith_K0 (first:=[.ref a]) I1.kIn hm.kp (ZjU (us:=[.ref a]) (vs:=[.ref a]) F hr hb .nil hx I1 (.cons rfl .nil) q)
def ZtF (P:Program)(w:World)(K:PySem.W.Frag)(mg:Str→Option Value)(base:Heap)(T:CTb)(k:Nat)(c m:Str)(F:Fm):Prop:=
 ∃ C f fd ps,T c=some C∧Meth K C m f∧FnOk P w K mg base CX0 k f fd ps (spH T F)∧Binds K fd ps []
abbrev Tab:=Str→Option Fm
def Zfm (P:Program)(w:World)(K:PySem.W.Frag)(mg:Str→Option Value)(base:Heap)(T:CTb)(k:Nat)(m:Str)(tab:Tab):Prop:=∀ c F,tab c=some F→ZtF P w K mg base T k c m F
def ZaM (m:Str)(tab:Tab)(f:Ex)(g:Exs):Ex:=fun ρ h=>(f ρ h).bind fun a h1=>match a with
 | .ref n=>(match h1[n]? with
  | some (.ins c fs)=>(match tab c,fs.lookup m with
   | some F,none=>(match g ρ h1 with
    | .ok ws h2=>(match F (.ref n::ws) h2 with
     | .ok w h3=>.ok w h3
     | _=>.no)
    | .ex w h2=>.ex w h2
    | .no=>.no)
   | _,_=>.no)
  | _=>.no)
 | _=>.no
theorem ZkD {m:Str}{tab:Tab}{kk:Nat}{E:XK}(hI:Zfo X.K Z.T)(ht:Zfm X.prog X.w X.K X.mg X.base Z.T kk m tab){σ:St}{H:Hp}{Q:VK}(q:tH Z (ZaM m tab f fa) σ H Q):ZkF CX0 kk X m E (tH Z f) (tHA Z fa) σ H Q:=by
 obtain ⟨φ,mm,ρ,x,q⟩:=q
 refine ⟨φ,mm,ρ,x,?_⟩
 unfold ZaM at q
 rw [ZdE] at q
 refine q.mono fun a h1 q1=>fun φ1 H1 u s1 r1 ra=>?_
 cases a with
 | ref n=>
  dsimp only at q1
  cases e1:h1[n]? with
  | none=>rw [e1] at q1; exact q1.elim
  | some ob=>
   rw [e1] at q1
   cases ob with
   | ins c fs=>
    dsimp only at q1
    obtain ⟨a,C,dx,fv,rfl,ea,y,hc,rp⟩:=Zgh r1 ra e1
    cases et:tab c with
    | none=>rw [et] at q1; exact q1.elim
    | some F=>
     cases el:fs.lookup m with
     | some w=>rw [et,el] at q1; exact q1.elim
     | none=>
      rw [et,el] at q1
      obtain ⟨C',f',fd,ps,hc',hm,Fk,hb⟩:=ht c F et
      rw [hc] at hc'; cases hc'
      refine ⟨a,C,dx,fv,f',fd,ps,_,rfl,y,(hI c C hc).cl,hm,Fk,hb,(ZdO rp).2 el,φ1,h1,ρ,x.step s1 r1,?_⟩
      dsimp only at q1
      cases e2:fa ρ h1 with
      | no=>rw [e2] at q1; exact q1.elim
      | ex w h2=>rw [e2] at q1; exact q1
      | ok ws h2=>
       rw [e2] at q1
       intro φ2 H2 vs s2 r2 rv
       refine ⟨φ2,h2,.ref n::ws,r2,by unfold RWs; exact ⟨_,_,rfl,ra.step s2,rv⟩,?_⟩
       dsimp only at q1
       cases e3:F (.ref n::ws) h2 with
       | no=>rw [e3] at q1; exact q1.elim
       | ex w h3=>rw [e3] at q1; exact q1.elim
       | ok w h3=>rw [e3] at q1; exact Kv.step q1 (s1.trans s2)
   | _=>exact q1.elim
 | _=>exact q1.elim
theorem Zhd {m:Str}{tab:Tab}{kk j:Nat}{pl:Sem Bool}(hI:Zfo X.K Z.T)(ht:Zfm X.prog X.w X.K X.mg X.base Z.T kk m tab)(hr:Room j X.A)(hkj:kk≤j)(ho:QE X Z o f)(ha:QA X Z (e::es) fa)
  (hst:starEach (e::es) X.env=(false,eval e X.env)::starEach es X.env:=by rfl) (hpl:(backTo pos (starEach es X.env)).any (·.1)=false:=by rfl)
  (hev:eval (.Call (.Attribute o m apos) (e::es) [] pos) X.env=(do
   let ov ← eval o X.env
   standAt apos.atName
   let (f,first) ← holding [ov] (getMethod ov m pl)
   callWith pos f first (backTo pos (starEach (e::es) X.env)) (backToKw pos (keywordEach [] X.env))):=by rfl) (hcl:X.calm=true:=by rfl):QE X Z (.Call (.Attribute o m apos) (e::es) [] pos) (ZaM m tab f fa):=
 ⟨(Zmh (pl:=pl) ho.pe (hr.mono hkj) (Zj8 hcl) ha.pa hst hpl hev).imp fun σ H Q q=>ZkD hI ht q⟩
theorem Zoe {m:Str}{tab:Tab}{kk j:Nat}{pl:Sem Bool}(hI:Zfo X.K Z.T)(ht:Zfm X.prog X.w X.K X.mg X.base Z.T kk m tab)(hr:Room j X.A)(hkj:kk≤j)(ho:QE X Z o f)
  (hev:eval (.Call (.Attribute o m apos) [] [] pos) X.env=(do
   let ov ← eval o X.env
   standAt apos.atName
   let (f,first) ← holding [ov] (getMethod ov m pl)
   callWith pos f first (backTo pos (starEach [] X.env)) (backToKw pos (keywordEach [] X.env))):=by rfl) (hcl:X.calm=true:=by rfl):QE X Z (.Call (.Attribute o m apos) [] [] pos) (ZaM m tab f ZbP):=
 ⟨(ZkQ (pl:=pl) ho.pe (hr.mono hkj) (Zj8 hcl) hev).imp fun σ H Q q=>by
  obtain ⟨φ,mm,ρ,x,q⟩:=ZkD (E:=E0) hI ht q
  refine ⟨φ,mm,ρ,x,q.mono fun a h1 q1=>fun φ1 H1 u s1 r1 ra=>?_⟩
  obtain ⟨a,C,dx,fs,f',fd,ps,sp,z1,z2,z3,z4,z5,z6,z7,φ2,m2,ρ2,x2,z8⟩:=q1 φ1 H1 u s1 r1 ra
  exact ⟨a,C,dx,fs,f',fd,ps,sp,z1,z2,z3,z4,z5,z6,z7,z8 φ2 H1 [] (Step.refl _ _) x2.rh (by unfold RWs; rfl)⟩⟩
def ZpW (P:Program)(w:World)(K:PySem.W.Frag)(mg:Str→Option Value)(base:Heap)(T:CTb)(k:Nat)(c:Str)(F:Fm):Prop:=
 ∃ C f fd ps,T c=some C∧mg c=some (.ref C)∧Mk K C f∧FnOk P w K mg base CX0 k f fd ps (spH T F)∧Binds K fd ps []
def ZhZ (c:Str)(F:Fm)(g:Exs):Ex:=fun ρ h=>match g ρ h with
 | .ok ws h1=>(match F (.ref h1.length::ws) (h1++[.ins c []]) with
  | .ok .non h2=>.ok (.ref h1.length) h2
  | _=>.no)
 | .ex w h1=>.ex w h1
 | .no=>.no
theorem ZkV {c:Str}{C:Addr}{F:Fm}{E:XK}(hc:Z.T c=some C){σ:St}{H:Hp}{Q:VK}(q:tH Z (ZhZ c F fa) σ H Q):Zpd C (spH Z.T F) [] E (tHA Z fa) σ H Q:=by
 obtain ⟨φ,mm,ρ,x,q⟩:=q
 refine ⟨φ,mm,ρ,x,?_⟩
 unfold ZhZ at q
 cases e2:fa ρ mm with
 | no=>rw [e2] at q; exact q.elim
 | ex w h2=>rw [e2] at q; exact q
 | ok ws h1=>
  rw [e2] at q
  intro φ1 H1 vs s1 r1 rv a dx ha hd hne
  rw [List.append_nil]
  have ha':upd H1 dx (.own a) a=none:=by rw [Zak (Ne.symm hne)]; exact ha
  have s2:=Zcg (φ:=φ1) (ho:=.own a) hd
  have s3:=Zbw (φ:=φ1) (ho:=.ins C dx []) ha'
  have r2:=r1.tmp (ho:=.own a) hd
  have r3:=r2.new (o:=.ins c []) (ho:=.ins C dx []) ha' ⟨C,dx,[],rfl,hc,.nil⟩
  have g0:(φ1++[a])[h1.length]? = some a:=by rw [← r1.len]; simp
  refine ⟨φ1++[a],h1++[.ins c []],.ref h1.length::ws,r3,by unfold RWs; exact ⟨_,_,rfl,by unfold RW; exact ⟨a,g0,rfl⟩,rv.step (s2.trans s3)⟩,?_⟩
  dsimp only at q
  cases e3:F (.ref h1.length::ws) (h1++[.ins c []]) with
  | no=>rw [e3] at q; exact q.elim
  | ex w h3=>rw [e3] at q; exact q.elim
  | ok w h3=>
   rw [e3] at q
   cases w with
   | non=>
    intro φ4 H4 v s4 r4 rw4
    refine ⟨by unfold RW at rw4; exact rw4,q φ4 H4 (.ref a) (s1.trans (s2.trans (s3.trans s4))) r4 ?_⟩
    unfold RW
    exact ⟨a,s4.get g0,rfl⟩
   | _=>exact q.elim
theorem ZmW {c:Str}{F:Fm}{kk j:Nat}(Mx:ZpW X.prog X.w X.K X.mg X.base Z.T kk c F)(hr:Room j X.A)(hkj:kk+1≤j)(hg:Gl X c)(ha:QA X Z (e::es) fa)(hdb:(c == ("__debug__":Str))=false:=by decide)
  (he:starEach (e::es) X.env=(false,eval e X.env)::starEach es X.env:=by rfl) (hpl:(backTo pos (starEach es X.env)).any (·.1)=false:=by rfl) (hcl:X.calm=true:=by rfl):QE X Z (.Call (.Name c p) (e::es) [] pos) (ZhZ c F fa):=by
 obtain ⟨C,f,fd,ps,hc,hm,Mc,Fk,hb⟩:=Mx
 exact ⟨(ZpR Mc Fk (hr.mono hkj) hg hm hb .nil (Zj8 hcl) ha.pa hdb he hpl).imp fun σ H Q q=>ZkV hc q⟩
end
section
variable {P:Program} {w:World} {K:PySem.W.Frag} {mg:Str→Option Value} {base:Heap} {T:CTb}
theorem ZpU {x qual:Str}{st:Stmt}{N ps:List Str}{k:Nat}{F:Fm}{f:Addr}{fd:FuncData}{B:Sm}(R:Fun K x qual st f fd)(S:FnScope N ps (Zae st))
  (hB:∀ (cdv:Value) (A:Around) (outer:List Env) (s:Shared) (H:Hp) (E:XK) (φ0:List Addr) (H0:Hp),Room k (A.deeper (envOfC qual (Zae st) s.heap.objs.size f cdv))→QB (ZfS CX0 P w K mg base N qual (Zae st) f cdv A outer s H E).nox (Zf T φ0 H0) (ZaZ st) B)
  (hx:∀ ws h w m,F ws h≠.ex w m) (hF:ZlC ps.length N.length B F):FnOk P w K mg base CX0 (k+1) f fd ps (spH T F):=by
 refine R.ok S (fun vs H Q E h=>?_) (fun cdv A outer s H vs Q E hr h=>?_)
 ·obtain ⟨φ,h,ws,r,rv,q⟩:=h
  rcases hF ws h r.wf (by rw [← r.len]; exact rv.lt) with e | ⟨e,_⟩
  ·rw [e] at q; exact q.elim
  ·rw [← rv.length]; exact e
 ·obtain ⟨φ,h,ws,r,rv,q⟩:=h
  refine ⟨_,(hB cdv A outer s H E φ H hr).ps,φ,h,ZaS N.length ws,⟨trivial,Step.refl _ _,r,Zf1 rv⟩,?_⟩
  rcases hF ws h r.wf (by rw [← r.len]; exact rv.lt) with e | ⟨e,ft⟩
  ·rw [e] at q; exact q.elim
  ·exact ZjT r.len ft q fun _ _ _ _ e _=>hx _ _ _ _ e
theorem ZcV {n m:Nat}{B:Sm}(ws:List W)(h:Mem)(w:W)(m':Mem):ZeL n m B ws h≠.ex w m':=by
 unfold ZeL
 split
 ·split
  ·split <;> simp
  ·simp
 ·simp
theorem ZbT {n m:Nat}{B:Sm}:ZlC n m B (ZeL n m B):=fun ws h wf lt=>by
 unfold ZeL
 split
 ·rename_i hl
  cases e:ZdA m B ws h with
  | ok w h'=>
   dsimp only
   split
   ·rename_i hk
    exact .inr ⟨hl,ZhF hk⟩
   ·exact .inl rfl
  | ex w h'=>exact .inl rfl
  | no=>exact .inl rfl
 ·exact .inl rfl
end
end M
namespace M
open PySem PySem.Spec PyProof.Rows L2
def ZcY (G:Tg)(c el:Ex)(ρ0:Sg)(n0:Nat):List W→Mem→Option Mem
 | [],h=>some h
 | w::r,h=>match G w ρ0 with
  | none=>none
  | some ρ=>(match c ρ h with
   | .ok (.bl true) h1=>(match el ρ h1 with
    | .ok x h2=>(match h2[n0]? with
     | some (.lst acc)=>bif decide (acc.length<sizeLine) then ZcY G c el ρ0 n0 r (h2.set n0 (.lst (acc++[x]))) else none
     | _=>none)
    | _=>none)
   | .ok (.bl false) h1=>ZcY G c el ρ0 n0 r h1
   | _=>none)
def Zem (fi:Ei)(own:Nat)(ix:List Nat)(G:Tg)(c el:Ex):Ex:=fun ρ h=>match fi ρ h with
 | .ok none ws h1=>(match ZcY G c el (ρC own ix ρ) h1.length ws (h1++[.lst []]) with
  | some h2=>.ok (.ref h1.length) h2
  | none=>.no)
 | .ex w h1=>.ex w h1
 | _=>.no
section
variable {X:Cx} {Z:Zc} {f g k:Ex} {fa:Exs} {fi:Ei} {osc:Scope} {N own fr:List Str} {ix:List Nat} {scope:Scope} {tg iter elt:Expr} {ifs:List Expr} {pos:Pos} {e c:Expr}
theorem Zlp {gg:TG}{G:Tg}{cc el:Ex}{T:CTb}{σ:St}{ρ:Sg}{φ1:List Addr}{H1:Hp}{h1 out:Mem}{J:It}{ws:List W}(hG:TgW (Zb T own ix σ) gg G)
  (r1:RH T φ1 h1 H1) (rs:RS T φ1 H1 ρ σ) (it:ItOk T φ1 H1 J ws (ZnW none ws)) (q:ZcY G cc el (ρC own.length ix ρ) h1.length ws (h1++[.lst []])=some out) (acc:Addr) (ha:H1 acc=none) {Q:Hp→Prop}
  (k:∀ φ' H',Step φ1 H1 φ' H'→RH T φ' out H'→φ'[h1.length]? = some acc→Q H') :
  Zhn J (σC own ix σ) acc gg (tHT (Zb T own ix σ) cc) (tH (Zb T own ix σ) el) Q (upd H1 acc (.lst [])):=by
 have s0:=Zbw (φ:=φ1) (ho:=.lst []) ha
 have rb:=r1.new (o:=.lst []) ha (by unfold RO; exact ⟨[],rfl,by unfold RWs; rfl⟩)
 have hn0:(φ1++[acc])[h1.length]? = some acc:=by rw [← r1.len]; simp
 refine ⟨fun i m H=>m=ws.length - i∧i≤ws.length∧∃ φ h,Step (φ1++[acc]) (upd H1 acc (.lst [])) φ H∧RH T φ h H∧ZcY G cc el (ρC own.length ix ρ) h1.length (ws.drop i) h=some out,
  ⟨ws.length,by simp,Nat.zero_le _,_,_,Step.refl _ _,rb,q⟩,?_⟩
 rintro i m H ⟨rfl,hi,φ,h,sH,rH,q⟩
 have hn:=sH.get hn0
 by_cases hlt:i<ws.length
 ·have ed:ws.drop i=ws[i]::ws.drop (i+1):=List.drop_eq_getElem_cons hlt
  have ei:ws[i]? = some ws[i]:=by simp [hlt]
  refine .inr ⟨it.go _ H _ i _ (s0.trans sH) rH trivial ei,fun x H' yl=>?_⟩
  obtain ⟨rfl,rwx⟩:=it.yld _ H _ i _ x H' (s0.trans sH) rH trivial ei yl
  rw [ed] at q
  unfold ZcY at q
  cases e2:G ws[i] (ρC own.length ix ρ) with
  | none=>rw [e2] at q; cases q
  | some ρ'=>
   rw [e2] at q
   simp only at q
   have x0:Here (Zb T own ix σ) (σC own ix σ) H' φ h (ρC own.length ix ρ):=⟨ZeH _,Zez,rH,Zti (rs.step (s0.trans sH))⟩
   refine hG _ _ _ _ _ _ x ρ' _ x0 rwx e2 fun σ' rs' le=>⟨le,?_⟩
   have x1:Here (Zb T own ix σ) σ' H' φ h ρ':=⟨le,Zez,rH,rs'⟩
   refine ⟨_,_,ρ',x1,?_⟩
   cases e3:cc ρ' h with
   | no=>rw [e3] at q; cases q
   | ex w h2=>rw [e3] at q; cases q
   | ok w h2=>
    rw [e3] at q
    cases w with
    | bl b=>
     refine ⟨b,rfl,fun φ3 H3 s3 r3=>?_⟩
     cases b with
     | false=>
      exact Zoh ⟨ws.length - (i+1),by omega,rfl,hlt,φ3,h2,sH.trans s3,r3,q⟩
     | true=>
      refine ZnR ⟨_,_,ρ',x1.step s3 r3,?_⟩
      simp only at q
      cases e5:el ρ' h2 with
      | no=>rw [e5] at q; cases q
      | ex w h3=>rw [e5] at q; cases q
      | ok y h3=>
       rw [e5] at q
       simp only at q
       cases e6:h3[h1.length]? with
       | none=>rw [e6] at q; cases q
       | some ob=>
        rw [e6] at q
        cases ob with
        | lst aw=>
         simp only at q
         cases hz:decide (aw.length<sizeLine) with
         | false=>rw [hz] at q; cases q
         | true=>
          rw [hz] at q
          intro φ4 H4 v s4 r4 rw4
          have hn4:=s4.get (s3.get hn)
          obtain ⟨ho,y1,ys,rfl,y2⟩:=r4.obj h1.length (.lst aw) acc e6 hn4
          have lw:=y2.length
          have s5:=Zbx (H:=H4) (ho:=.lst (ys++[v])) (List.mem_of_getElem? hn4) (ZgT y1)
          have r5:=r4.set (o:=.lst (aw++[y])) (ho:=.lst (ys++[v])) hn4 (by unfold RO; exact ⟨_,rfl,ZeA y2 rw4⟩)
          exact ⟨ys,y1,by rw [← lw]; exact of_decide_eq_true hz,ws.length - (i+1),by omega,rfl,hlt,φ4,_,(sH.trans s3).trans (s4.trans s5),r5,q⟩
        | _=>cases q
    | _=>cases q
 ·have e:i=ws.length:=by omega
  subst e
  rw [List.drop_length] at q
  unfold ZcY at q
  have q:=Option.some.inj q
  subst q
  exact .inl ⟨it.stop _ H _ (s0.trans sH) rH trivial,k φ H (s0.trans sH) rH hn⟩
theorem Zo9 {gg:TG}{G:Tg}{cc el:Ex}(hcalm:X.calm=true)(ho:X.env.scope=osc)(hN:X.N=N)(hk:compOk osc N own fr ix scope=true)(hi:QI X Z tg iter fi)(hG:∀ σ,TgW (Zb Z.T own ix σ) gg G)
  (hg:InC X own fr scope fun Y=>QG Y tg gg) (ht:∀ σ,InC X own fr scope fun Y=>QC Y (Zb Z.T own ix σ) ifs cc) (hel:∀ σ,InC X own fr scope fun Y=>QE Y (Zb Z.T own ix σ) elt el) (hs:∀ x,foldedSetIterable iter X.env x=pure x:=by intro _; rfl) :
  QE X Z (.ListComp elt [⟨tg,iter,ifs,0⟩] scope pos) (Zem fi own.length ix G cc el):=⟨by
 intro pins s σ H Q I q
 refine ZjC hcalm ho hN hk hi.pi (fun a b c d e=>(hg a b c d e).pg) (fun a b c d e=>(ht σ a b c d e).pc) (fun a b c d e=>(hel σ a b c d e).pe) hs pins s σ H Q I ?_
 obtain ⟨φ,h,ρ,x,q⟩:=q
 refine ⟨φ,h,ρ,x,?_⟩
 unfold Zem at q
 cases e:fi ρ h with
 | no=>rw [e] at q; exact q.elim
 | ex w h'=>rw [e] at q; exact q
 | ok src ws h1=>
  rw [e] at q
  cases src with
  | some n=>exact q.elim
  | none=>
   simp only at q
   cases e2:ZcY G cc el (ρC own.length ix ρ) h1.length ws (h1++[.lst []]) with
   | none=>rw [e2] at q; exact q.elim
   | some out=>
    rw [e2] at q
    intro φ1 H1 J s1 r1 sp it acc ha
    exact Zlp (hG σ) r1 (x.rs.step s1) it e2 acc ha fun φ' H' s2 r2 hn=>q φ' H' _ (s1.trans s2) r2 (by unfold RW; exact ⟨acc,hn,rfl⟩)⟩
theorem ZlD {gg:TG}{G:Tg}{cc el:Ex}{i:Nat}{x:Str}{px spos:Pos}(hnd:X.N.Nodup)(hi':X.N[i]? = some x)(hl:X.env.scope.names.lookup x=some .local)(hsg:∀ σ v,Z.sg σ→Z.sg (σ.set i (some v)))(hcalm:X.calm=true)(ho:X.env.scope=osc)(hN:X.N=N)
  (hk:compOk osc N own fr ix scope=true) (hi:QI X Z tg iter fi) (hG:∀ σ,TgW (Zb Z.T own ix σ) gg G)
  (hg:InC X own fr scope fun Y=>QG Y tg gg) (ht:∀ σ,InC X own fr scope fun Y=>QC Y (Zb Z.T own ix σ) ifs cc) (hel:∀ σ,InC X own fr scope fun Y=>QE Y (Zb Z.T own ix σ) elt el) (hs:∀ x,foldedSetIterable iter X.env x=pure x:=by intro _; rfl)
  (hsw:swapsWith (.ListComp elt [⟨tg,iter,ifs,0⟩] scope pos) (some (.Name x px)) spos.line X.env=pure true:=by rfl) :
  QS X Z (.Assign [.Name x px] (.ListComp elt [⟨tg,iter,ifs,0⟩] scope pos) spos) (ZcW (gN i) (Zem fi own.length ix G cc el)):=⟨by
 intro pins s σ H D I q
 refine ZoQ hnd hi' hl hcalm ho hN hk hi.pi (fun a b c d e=>(hg a b c d e).pg) (fun a b c d e=>(ht σ a b c d e).pc) (fun a b c d e=>(hel σ a b c d e).pe) hs hsw pins s σ H D I ?_
 obtain ⟨φ,h,ρ,x,q⟩:=q
 refine ⟨φ,h,ρ,x,?_⟩
 unfold ZcW Zem at q
 cases e:fi ρ h with
 | no=>rw [e] at q; exact q.elim
 | ex w h'=>rw [e] at q; exact q
 | ok src ws h1=>
  rw [e] at q
  cases src with
  | some n=>exact q.elim
  | none=>
   simp only at q
   cases e2:ZcY G cc el (ρC own.length ix ρ) h1.length ws (h1++[.lst []]) with
   | none=>rw [e2] at q; exact q.elim
   | some out=>
    rw [e2] at q
    intro φ1 H1 J s1 r1 sp it acc ha
    exact Zlp (hG σ) r1 (x.rs.step s1) it e2 acc ha fun φ' H' s2 r2 hn=>q φ' H' _ (s1.trans s2) r2 ((x.rs.step (s1.trans s2)).set (by unfold RW; exact ⟨acc,hn,rfl⟩)) (hsg _ _ x.sg)⟩
end
def ZsY (h:Mem)(o i v:W):Option Mem:=match o,i with
 | .ref n,.int k=>(match h[n]? with
  | some (.lst xs)=>(ixN xs.length k).map fun j=>h.set n (.lst (xs.set j v))
  | _=>none)
 | _,_=>none
def Zqj (fo fi fv:Ex):Sm:=fun ρ h=>match fv ρ h with
 | .ok v h1=>(match fo ρ h1 with
  | .ok o h2=>(match fi ρ h2 with
   | .ok i h3=>(match ZsY h3 o i v with
    | some h4=>.nx ρ h4
    | none=>.no)
   | .ex w h3=>.ex w h3
   | .no=>.no)
  | .ex w h2=>.ex w h2
  | .no=>.no)
 | .ex w h1=>.ex w h1
 | .no=>.no
theorem ZkS {T:CTb}{φ:List Addr}{H:Hp}{w:W}{v:V}(x:RW T φ H w v):∀ {ws:List W} {vs:List V} {j:Nat},RWs T φ H ws vs→RWs T φ H (ws.set j w) (vs.set j v)
 | [],vs,j,r=>by unfold RWs at r; subst r; simp; unfold RWs; rfl
 | a::ws,vs,j,r=>by
  unfold RWs at r
  obtain ⟨u,s,rfl,p,q⟩:=r
  cases j with
  | zero=>rw [List.set_cons_zero,List.set_cons_zero]; unfold RWs; exact ⟨_,_,rfl,x,q⟩
  | succ j=>rw [List.set_cons_succ,List.set_cons_succ]; unfold RWs; exact ⟨_,_,rfl,p,ZkS x q⟩
section
variable {X:Cx} {Z:Zc} {f g k:Ex} {o i v:Expr} {pos pos':Pos}
theorem Zn8 (ho:QE X Z o f)(hi:QE X Z i g)(hv:QE X Z v k)
  (ha:∀ w,assign (.Subscript o i pos') X.env w=(do
   let ov ← holding [w] (eval o X.env)
   let iv ← holding [w,ov] (eval i X.env)
   standAt pos'
   holding [w,ov,iv] (setItem ov iv w)
   release [w,ov,iv] []):=by intro _; rfl)
  (hs:swapsWithSole [.Subscript o i pos'] v pos.line X.env=pure false:=by rfl) (hw:swappedStores [.Subscript o i pos'] v X.env=pure none:=by rfl)
  (h1:(assignEach [.Subscript o i pos'] X.env).map (·.2)=[assign (.Subscript o i pos') X.env]:=by rfl):QS X Z (.Assign [.Subscript o i pos'] v pos) (Zqj f g k):=
 ⟨(Zq6 hv.pe (ZrA ho.pe hi.pe Zl8 ha) hs hw h1).imp fun D σ H ⟨φ,m,ρ,x,q⟩=>⟨φ,m,ρ,x,by
  unfold Zqj at q
  cases e1:k ρ m with
  | no=>rw [e1] at q; exact q.elim
  | ex w h1=>rw [e1] at q; exact q
  | ok y h1=>
   rw [e1] at q
   intro φ1 H1 vy s1 r1 ry
   refine ⟨φ1,h1,ρ,x.step s1 r1,?_⟩
   dsimp only at q
   cases e2:f ρ h1 with
   | no=>rw [e2] at q; exact q.elim
   | ex w h2=>rw [e2] at q; exact q
   | ok a h2=>
    rw [e2] at q
    intro φ2 H2 va s2 r2 ra
    refine ⟨φ2,h2,ρ,(x.step s1 r1).step s2 r2,?_⟩
    dsimp only at q
    cases e3:g ρ h2 with
    | no=>rw [e3] at q; exact q.elim
    | ex w h3=>rw [e3] at q; exact q
    | ok b h3=>
     rw [e3] at q
     intro φ3 H3 vb s3 r3 rb
     dsimp only at q
     cases e4:ZsY h3 a b y with
     | none=>rw [e4] at q; exact q.elim
     | some h4=>
      rw [e4] at q
      unfold ZsY at e4
      split at e4
      ·rename_i n j
       split at e4
       ·rename_i xs e5
        rw [Option.map_eq_some_iff] at e4
        obtain ⟨jj,e6,rfl⟩:=e4
        obtain ⟨p,us,rfl,ep,yp,rx⟩:=Ze5 r3 (ra.step s3) e5
        have ry3:=ry.step (s2.trans s3)
        have s4:=Zbx (H:=H3) (ho:=.lst (us.set jj vy)) (List.mem_of_getElem? ep) (ZgT yp)
        have r4:=r3.set (o:=.lst (xs.set jj y)) (ho:=.lst (us.set jj vy)) ep ⟨_,rfl,ZkS ry3 rx⟩
        exact ⟨p,us,j,jj,rfl,ZbC rb,yp,by rw [← rx.length]; exact e6,q φ3 _ σ (s1.trans (s2.trans (s3.trans s4))) r4 (x.rs.step (s1.trans (s2.trans (s3.trans s4)))) x.sg⟩
       ·cases e4
      ·cases e4⟩⟩
end
def Zfa:List (Ex×Ex)→Sg→Mem→Option (List (W×W)×Mem)
 | [],_,h=>some ([],h)
 | (k,v)::r,ρ,h=>match k ρ h with
  | .ok a h1=>(match v ρ h1 with
   | .ok b h2=>(match Zfa r ρ h2 with
    | some (ps,h3)=>some ((a,b)::ps,h3)
    | none=>none)
   | _=>none)
  | _=>none
def Zhw:List (W×W)→Option (List (Key×W))
 | []=>some []
 | (k,w)::r=>match ZcR k,Zhw r with
  | some a,some l=>some ((a,w)::l)
  | _,_=>none
def ndK (l:List Key):Bool:=decide l.Nodup
def ZoA (gs:List (Ex×Ex)):Ex:=fun ρ h=>match Zfa gs ρ (h++[.dic []]) with
 | some (ps,h2)=>(match Zhw ps,h2[h.length]? with
  | some kvs,some (.dic [])=>bif (decide (kvs.length≤15) && ndK (kvs.map (·.1))) then .ok (.ref h.length) (h2.set h.length (.dic kvs)) else .no
  | _,_=>.no)
 | none=>.no
structure QP (X:Cx)(Z:Zc)(pos:Pos)(keys:List (Option Expr))(values:List Expr)(gs:List (Ex×Ex)):Prop where
 pp:PPs X pos keys values (gs.map fun p=>(tH Z p.1,tH Z p.2))
abbrev R2W (T:CTb)(φ:List Addr)(H:Hp):List (W×W)→List (V×V)→Prop:=Paired fun p q=>RW T φ H p.1 q.1∧RW T φ H p.2 q.2
section
variable {X:Cx} {Z:Zc} {f g:Ex} {k v:Expr} {pos:Pos} {keys:List (Option Expr)} {values:List Expr} {gs:List (Ex×Ex)}
theorem Zqi:QP X Z pos [] [] []:=⟨Zo3⟩
theorem Zlr (hk:QE X Z k f)(hv:QE X Z v g)(hr:QP X Z pos keys values gs):QP X Z pos (some k::keys) (v::values) ((f,g)::gs):=⟨ZlI hk.pe hv.pe hr.pp⟩
theorem Zh7 {σ:St}{ρ:Sg}:∀ {gs:List (Ex×Ex)} {φ:List Addr} {H:Hp} {h h':Mem} {ps:List (W×W)} {Q:List (V×V)→Hp→Prop},Here Z σ H φ h ρ→Zfa gs ρ h=some (ps,h') →
  (∀ φ' H' vs,Step φ H φ' H'→RH Z.T φ' h' H'→R2W Z.T φ' H' ps vs→Q vs H')→ZiB (gs.map fun p=>(tH Z p.1,tH Z p.2)) σ H Q
 | [],φ,H,h,h',ps,Q,x,e,k=>by
  cases e
  exact k φ H [] (Step.refl _ _) x.rh .nil
 | (f,g)::gs,φ,H,h,h',ps,Q,x,e,k=>by
  unfold Zfa at e
  refine ⟨φ,h,ρ,x,?_⟩
  show (f ρ h).post _ _
  cases e1:f ρ h with
  | no=>rw [e1] at e; cases e
  | ex w h1=>rw [e1] at e; cases e
  | ok a h1=>
   rw [e1] at e
   dsimp only at e
   intro φ1 H1 va s1 r1 ra
   refine ⟨φ1,h1,ρ,x.step s1 r1,?_⟩
   show (g ρ h1).post _ _
   cases e2:g ρ h1 with
   | no=>rw [e2] at e; cases e
   | ex w h2=>rw [e2] at e; cases e
   | ok b h2=>
    rw [e2] at e
    dsimp only at e
    intro φ2 H2 vb s2 r2 rb
    cases e3:Zfa gs ρ h2 with
    | none=>rw [e3] at e; cases e
    | some pr=>
     obtain ⟨ps',h3⟩:=pr
     rw [e3] at e
     cases e
     exact Zh7 ((x.step s1 r1).step s2 r2) e3 fun φ3 H3 vs s3 r3 rr=>k φ3 H3 _ (s1.trans (s2.trans s3)) r3 (.cons ⟨ra.step (s2.trans s3),rb.step s3⟩ rr)
theorem ZiI {T:CTb}{φ:List Addr}{H:Hp}:∀ {ps:List (W×W)} {kvs:List (Key×W)} {vs:List (V×V)},Zhw ps=some kvs→R2W T φ H ps vs→∃ kv:List (Key×V),vs=kv.map (fun p=>(kV p.1,p.2))∧RP T φ H kvs kv
 | [],kvs,vs,e,r=>by
  cases e
  cases r
  exact ⟨[],rfl,.nil⟩
 | (a,b)::ps,kvs,vs,e,r=>by
  cases r with
  | cons p q=>
   rename_i z l
   obtain ⟨u,w⟩:=z
   unfold Zhw at e
   cases e1:ZcR a with
   | none=>rw [e1] at e; cases e
   | some k=>
    cases e2:Zhw ps with
    | none=>rw [e1,e2] at e; cases e
    | some l'=>
     rw [e1,e2] at e
     cases e
     obtain ⟨kv,rfl,rr⟩:=ZiI e2 q
     refine ⟨(k,w)::kv,?_,.cons ⟨rfl,p.2⟩ rr⟩
     rw [List.map_cons]
     have:=ZeT p.1 e1
     dsimp only at this
     rw [this]
theorem ZgB:∀ (more kvs:List (Key×V)),((kvs++more).map (·.1)).Nodup→Zej kvs more=kvs++more
 | [],kvs,h=>by simp [Zej]
 | p::r,kvs,h=>by
  have e:Zfk kvs p.1 p.2=kvs++[p]:=by
   unfold Zfk
   rw [if_neg]
   intro z
   rw [List.any_eq_true] at z
   obtain ⟨q,m,z⟩:=z
   have z:=of_decide_eq_true z
   rw [List.map_append,List.nodup_append] at h
   exact h.2.2 q.1 (List.mem_map.mpr ⟨q,m,rfl⟩) p.1 (by simp) z
  show Zej (Zfk kvs p.1 p.2) r=_
  rw [e,ZgB r (kvs++[p]) (by simpa using h)]
  simp
theorem Zlw {T:CTb}{φ:List Addr}{H:Hp}{κ:Type}:∀ {a:List (κ×W)} {b:List (κ×V)},RP T φ H a b→a.map (·.1)=b.map (·.1)
 | [],b,r=>by cases r; rfl
 | p::a,b,r=>by
  cases r with
  | cons h q=>rw [List.map_cons,List.map_cons,h.1,Zlw q]
theorem Zq3 (h:QP X Z pos keys values gs)(hall:keys.all (·.isSome)=true:=by rfl)(hl:keys.length=values.length:=by rfl)(h0:keys≠[]:=by simp)(h15:keys.length≤15:=by decide):QE X Z (.Dict keys values pos) (ZoA gs):=
 ⟨(Zn6 h.pp hall hl h0 h15).imp fun σ H Q ⟨φ,m,ρ,x,q⟩=>by
  intro p hp
  unfold ZoA at q
  cases e1:Zfa gs ρ (m++[.dic []]) with
  | none=>rw [e1] at q; exact q.elim
  | some pr=>
   obtain ⟨ps,h2⟩:=pr
   rw [e1] at q
   dsimp only at q
   have s0:=Zbw (φ:=φ) (ho:=.dK []) hp
   have r0:=x.rh.new (o:=.dic []) (ho:=.dK []) hp ⟨[],rfl,.nil⟩
   have hn0:(φ++[p])[m.length]? = some p:=by rw [← x.rh.len]; simp
   refine Zh7 (x.step s0 r0) e1 fun φ1 H1 vs s1 r1 rr=>?_
   cases e2:Zhw ps with
   | none=>rw [e2] at q; exact q.elim
   | some kvs=>
    cases e3:h2[m.length]? with
    | none=>rw [e2,e3] at q; exact q.elim
    | some ob=>
     rw [e2,e3] at q
     cases ob with
     | dic l=>
      cases l with
      | cons _ _=>exact q.elim
      | nil=>
       dsimp only at q
       cases hz:(decide (kvs.length≤15) && ndK (kvs.map (·.1))) with
       | false=>rw [hz] at q; exact q.elim
       | true=>
        rw [hz] at q
        rw [Bool.and_eq_true] at hz
        obtain ⟨kv,rfl,rk⟩:=ZiI e2 rr
        have hn1:=s1.get hn0
        obtain ⟨ho,y,kv0,rfl,z⟩:=r1.obj _ _ p e3 hn1
        cases z
        have nd:((([]:List (Key×V))++kv).map (·.1)).Nodup:=by rw [List.nil_append,← Zlw rk]; exact of_decide_eq_true hz.2
        refine ⟨y,kv,rfl,by rw [← ZcC rk]; exact of_decide_eq_true hz.1,?_⟩
        rw [ZgB kv [] nd,List.nil_append]
        have s2:=Zbx (H:=H1) (ho:=.dK kv) (List.mem_of_getElem? hn1) (ZmK y)
        have r2:=r1.set (o:=.dic kvs) (ho:=.dK kv) hn1 ⟨kv,rfl,rk⟩
        exact q φ1 _ _ (s0.trans (s1.trans s2)) r2 (by unfold RW; exact ⟨p,hn1,rfl⟩)
     | _=>exact q.elim⟩
end
def Zbi (h:Mem)(a b:W):Option W:=match Za1 h a,ZcR b with
 | some kvs,some k=>ZeD kvs k
 | _,_=>none
section
variable {X:Cx} {Z:Zc} {f g:Ex} {o i:Expr} {pos:Pos}
theorem Za6 {j:Nat}(hr:Room j X.A)(ho:QE X Z o f)(hi:QE X Z i g)(hs:Zsj i):QE X Z (.Subscript o i pos) (Zbp Zbi f g):=
 ⟨(Zpq (Zi8 hr) ho.pe hi.pe hs).imp fun σ H Q ⟨φ,m,ρ,x,q⟩=>two x q fun φ2 H2 h2 u v a b s y ra rb q2=>by
  obtain ⟨w,e,k⟩:=ofP q2
  unfold Zbi at e
  cases e1:Za1 h2 a with
  | none=>rw [e1] at e; cases e
  | some kvs=>
   cases e2:ZcR b with
   | none=>rw [e1,e2] at e; cases e
   | some kk=>
    rw [e1,e2] at e
    dsimp only at e
    obtain ⟨p,kv,rfl,hp,rp⟩:=Zey y.rh ra e1
    have hk:=ZeT rb e2
    subst hk
    have g:=ZhL rp kk
    rw [e] at g
    cases ev:ZeF kv kk with
    | none=>rw [ev] at g; exact g.elim
    | some z=>
     rw [ev] at g
     exact ⟨p,z,rfl,.inl ⟨kv,kk,hp,rfl,ev.symm⟩,k φ2 H2 z (Step.refl _ _) y.rh g⟩⟩
end
end M
namespace M
open PySem PySem.Spec PyProof.Rows L2
section
variable {K:PySem.W.Frag} {C:Addr}
theorem ins_mk (pg:PySem.W.plainGet K C Str.empty=true)(hd:PySem.W.hasDictIn K C=true)(po:PySem.W.plainOver K C=true)(sa:PySem.W.findIn K (.ref C) "__setattr__"=some (some (.builtin "object.__setattr__")))
  (ha:PySem.W.findIn K (.ref C) "__class__"=some (some (.builtin "object.__class__"))) (hn:PySem.W.specialIn K (.builtin "object.__class__") "__get__"=some (some (.builtin "getset_descriptor.__get__"))) (htk:PySem.W.takesIn K (.builtin "object.__class__")=some true) (hm:PySem.W.mroIn K C (.type "object")=some true):InsTy K C:=⟨⟨pg,hd,po,sa⟩,ha,hn,htk,hm⟩
def Zi7 (K:PySem.W.Frag)(C:Addr)(m qual:Str)(st:Stmt):Prop:=∃ f fd,Meth K C m f∧Fun K m qual st f fd
theorem mthx {m qual:Str}{st:Stmt}{f:Addr}{oc:Value}{od an:Option Addr}{osl:Array (Option Value)}{kV doc pm cdv ct:Value}(a:PySem.W.findIn K (.ref C) m=some (some (.ref f)))(i:PySem.W.isFn K (.ref f)=true)
  (l:K.lookup f=some ⟨oc,od,.func (PySem.W.fnOf m qual (Zcj st) (ZaZ st) (Zae st) .none kV doc pm an cdv ct),osl⟩) (c:PySem.W.codeIn K cdv qual=true) (k:PySem.W.keepIn K (.ref f)=true):Zi7 K C m qual st:=⟨f,_,⟨a,i,k⟩,Zin l c k⟩
def MkX (K:PySem.W.Frag)(C:Addr)(qual:Str)(st:Stmt):Prop:=∃ f fd,Mk K C f∧Fun K "__init__" qual st f fd
theorem mkx {qual:Str}{st:Stmt}{f:Addr}{oc:Value}{od an:Option Addr}{osl:Array (Option Value)}{kV doc pm cdv ct:Value}(m:PySem.W.makesIn K C=true)(kc:PySem.W.keepIn K (.ref C)=true)(a:PySem.W.findIn K (.ref C) "__init__"=some (some (.ref f)))(i:PySem.W.isFn K (.ref f)=true)
  (l:K.lookup f=some ⟨oc,od,.func (PySem.W.fnOf "__init__" qual (Zcj st) (ZaZ st) (Zae st) .none kV doc pm an cdv ct),osl⟩) (c:PySem.W.codeIn K cdv qual=true) (k:PySem.W.keepIn K (.ref f)=true):MkX K C qual st:=⟨f,_,⟨m,a,i,kc⟩,Zin l c k⟩
end
end M
namespace M
open PySem PySem.Spec PyProof.Rows L2
end M
namespace M
open PySem PySem.Spec PyProof.Rows L2
def Znz (h:Heap)(e:Addr)(cv:Value)(da T:Option Addr):Prop:=∃ oe vs,h.get? e=some oe∧oe.cls=cv∧oe.dict=da∧oe.data=.fields vs∧match T with
 | none=>vs[1]? = some Value.none
 | some t=>t≠e∧vs[1]? = some (.ref t)∧∃ ot ts x,h.get? t=some ot∧ot.data=.fields ts∧ts[3]? = some x
structure Ch (S ch:List Addr)(h h':Heap):Prop where
 keep:∀ b o,b ∉ S→b ∉ ch→h.get? b=some o→h'.get? b=some o
 slot:∀ b o,b ∉ ch→h.get? b=some o→∃ sl,h'.get? b=some { o with slots:=sl }
 old:∀ b o,h.get? b=some o→∃ o',h'.get? b=some o'
theorem Ch.refl (S ch:List Addr)(h:Heap):Ch S ch h h:=⟨fun _ _ _ _ e=>e,fun _ o _ e=>⟨o.slots,e⟩,fun _ o e=>⟨o,e⟩⟩
theorem Ch.mono {S S' ch ch':List Addr}{h h':Heap}(c:Ch S ch h h')(a:∀ b∈S,b∈S')(d:∀ b∈ch,b∈ch'):Ch S' ch' h h':=
 ⟨fun b o h1 h2 e=>c.keep b o (fun z=>h1 (a b z)) (fun z=>h2 (d b z)) e,fun b o h2 e=>c.slot b o (fun z=>h2 (d b z)) e,c.old⟩
theorem Ch.trans {S ch:List Addr}{h h1 h2:Heap}(a:Ch S ch h h1)(b:Ch S ch h1 h2):Ch S ch h h2:=
 ⟨fun x o p q e=>b.keep x o p q (a.keep x o p q e),fun x o q e=>by
  obtain ⟨sl,e1⟩:=a.slot x o q e
  obtain ⟨sl2,e2⟩:=b.slot x _ q e1
  exact ⟨sl2,e2⟩,fun x o e=>by
  obtain ⟨o1,e1⟩:=a.old x o e
  exact b.old x o1 e1⟩
theorem ZmG (o:Obj)(f:Array Value→Array Value):(o.mapFields f).dict=o.dict:=by
 obtain ⟨c,d,dt,sl⟩:=o
 cases dt <;> rfl
section
variable {Md:Model} {A:Around} {E:Value→Shared→Prop} {s:Shared} {base:Heap} {env:Env} {outer:List Env} {L e:Addr} {cv:Value} {da:Option Addr} {Q:Unit→Shared→Prop}
theorem Zm3 {h:Heap}{t:Addr}{ot:Obj}{ts:Array Value}(ht:h.get? t=some ot)(hd:ot.data=.fields ts)(f:Array Value→Array Value):Ch [] [t] h (h.update t (Obj.mapFields f)):=by
 have self:=Heap.get?_update_self (Obj.mapFields f) ht (Obj.isFreed_of_fields (Obj.data_mapFields hd _))
 have other:∀ b,b≠t→(h.update t (Obj.mapFields f)).get? b=h.get? b:=fun b n=>Heap.get?_update_other _ _ (Ne.symm n)
 refine ⟨fun b o _ n e=>?_,fun b o n e=>⟨o.slots,?_⟩,fun b o e=>?_⟩
 ·rw [other b (by simpa using n)]; exact e
 ·rw [other b (by simpa using n)]; exact e
 ·by_cases z:b=t
  ·subst z; exact ⟨_,self⟩
  ·exact ⟨o,by rw [other b z]; exact e⟩
theorem ZiQ {oe:Obj}{vs:Array Value}{head:Value}{hadNext:Bool}(hfr:A.frames=some (env::outer))(hl:s.heap.FunFrames base (env::outer))(hf:env.frame=some L)(he:s.heap.get? e=some oe)(hd:oe.data=.fields vs)(hsz:1<vs.size)
  (k:∀ h' T',Znz h' e oe.cls oe.dict (some T')→Ch (frs (env::outer)) [e] s.heap h'→s.heap.objs.size≤T'→Q () { s with heap:=h' }) :
  wpAny Md A (do let a ← frameOf env; let pl ← entryPlaceOf L hadNext; let b ← EntryCells.newEntry head a .none (rawInt L) .none pl; setField (.ref e) 1 b) Q E s:=by
 have nS:e ∉ frs (env::outer):=fun m=>by
  obtain ⟨_,o,ho,hnf⟩:=hl.mem m
  rw [he] at ho
  cases ho
  exact hnf vs hd
 refine wpAny_bind (wpAny_frameOf_fun hfr hl hf fun g hg=>wpAny_bind (wpAny_entryPlaceOf fun pl hpl=>?_))
 unfold EntryCells.newEntry newFields
 have e1:g.get? e=some oe:=(hg.2.1 e nS).trans he
 refine wpAny_bind (wpAny_newObj_type (wpAny_setField (Heap.get?_push_of_some (h:=g) _ e1) hd hsz ?_) (hpl.sizeOk5 _ _ _ _ _))
 have e2:=Heap.get?_push_of_some (h:=g) { cls:=.type "traceback",dict:=none,data:=.fields ([head,.ref L,.none,rawInt L,.none]++(if pl.isEmpty then List.replicate 6 Value.none else pl)).toArray } e1
 have d3:=Obj.data_mapFields hd fun u=>u.setIfInBounds 1 (Value.ref g.objs.size)
 have e3:=Heap.get?_update_self (Obj.mapFields fun u=>u.setIfInBounds 1 (Value.ref g.objs.size)) e2 (Obj.isFreed_of_fields d3)
 have hne:g.objs.size≠e:=Nat.ne_of_gt (Heap.lt_size e1)
 have oth:∀ b,b≠e→∀ tb:Obj,((g.push tb).update e (Obj.mapFields fun u=>u.setIfInBounds 1 (Value.ref g.objs.size))).get? b=(g.push tb).get? b:=fun b n tb=>Heap.get?_update_other _ _ (Ne.symm n)
 refine k _ g.objs.size ⟨_,_,e3,Obj.cls_mapFields _ _,ZmG _ _,d3,hne,by simp [hsz],_,_,rawInt L,(oth _ hne _).trans (Heap.get?_push_size g rfl),rfl,?_⟩ ⟨fun b o h1 h2 q=>?_,fun b o h2 q=>?_,fun b o q=>?_⟩ (Nat.le_of_eq hg.1.symm)
 ·first | (simp; done) | (rcases hpl with rfl | ⟨_,_,_,_,_,_,_,rfl⟩ <;> simp)
 ·rw [oth b (by simpa using h2)]
  exact Heap.get?_push_of_some _ ((hg.2.1 b h1).trans q)
 ·obtain ⟨sl,q1⟩:=hg.2.2 b o q
  exact ⟨sl,(oth b (by simpa using h2) _).trans (Heap.get?_push_of_some _ q1)⟩
 ·obtain ⟨sl,q1⟩:=hg.2.2 b o q
  by_cases z:b=e
  ·subst z; exact ⟨_,e3⟩
  ·exact ⟨_,(oth b z _).trans (Heap.get?_push_of_some _ q1)⟩
theorem ZkL {T:Option Addr}(hfr:A.frames=some (env::outer))(hl:s.heap.FunFrames base (env::outer))(hf:env.frame=some L)(R:Znz s.heap e cv da T)
  (k:∀ h' T',Znz h' e cv da (some T')→Ch (frs (env::outer)) (e::T.toList) s.heap h'→(T=some T'∨s.heap.objs.size≤T')→Q () { s with heap:=h' }):wpAny Md A (noteFrame (.ref e) env) Q E s:=by
 obtain ⟨oe,vs,he,rfl,rfl,hd,hT⟩:=R
 unfold noteFrame
 simp only [hf]
 cases T with
 | none=>
  refine wpAny_bind (wpAny_field he hd hT ?_)
  rw [if_neg (by decide)]
  exact ZiQ hfr hl hf he hd (Array.getElem?_eq_some_iff.mp hT).1 fun h' T' r c n=>k h' T' r c (.inr n)
 | some t=>
  obtain ⟨hte,h1,ot,ts,x,ht,hdt,h3⟩:=hT
  refine wpAny_bind (wpAny_field he hd h1 ?_)
  rw [if_pos (by simp)]
  refine wpAny_bind (wpAny_field ht hdt h3 ?_)
  by_cases hx:(x == rawInt L)=true
  ·rw [if_pos hx]
   obtain ⟨hh,gg,dd,tk,os⟩:=s
   exact wpAny_pure (k hh t ⟨oe,vs,he,rfl,rfl,hd,hte,h1,ot,ts,x,ht,hdt,h3⟩ (Ch.refl _ _ _) (.inl rfl))
  ·rw [if_neg hx]
   refine wpAny_bind (wpAny_setField ht hdt (Array.getElem?_eq_some_iff.mp h3).1 ?_)
   have c1:=Zm3 ht hdt fun u=>u.setIfInBounds 3 Value.none
   have oth:∀ b,b≠t→(s.heap.update t (Obj.mapFields fun u=>u.setIfInBounds 3 Value.none)).get? b=s.heap.get? b:=fun b n=>Heap.get?_update_other _ _ (Ne.symm n)
   have hl2:(s.heap.update t (Obj.mapFields fun u=>u.setIfInBounds 3 Value.none)).FunFrames base (env::outer):=hl.of_keeps fun b o hb hnf=>⟨o,(oth b fun z=>by subst z; rw [ht] at hb; cases hb; exact hnf ts hdt).trans hb,rfl⟩
   refine ZiQ (s:={ s with heap:=s.heap.update t (Obj.mapFields fun u=>u.setIfInBounds 3 Value.none) }) hfr hl2 hf ((oth e (Ne.symm hte)).trans he) hd (Array.getElem?_eq_some_iff.mp h1).1 fun h' T' r c n=>?_
   refine k h' T' r ((c1.mono (fun b z=>by cases z) fun b z=>by simp at z; subst z; simp).trans (c.mono (fun b z=>z) fun b z=>by simp at z; subst z; simp)) (.inr ?_)
   rw [← Heap.size_after_update s.heap t (Obj.mapFields fun u=>u.setIfInBounds 3 Value.none)]
   exact n
theorem Ze3 {T:Addr}(R:Znz s.heap e cv da (some T))(k:∀ h',Znz h' e cv da (some T)→Ch [] [T] s.heap h'→Q () { s with heap:=h' }):wpAny Md A (setFlight (.ref e) none) Q E s:=by
 obtain ⟨oe,vs,he,rfl,rfl,hd,hte,h1,ot,ts,x,ht,hdt,h3⟩:=R
 have hsz:=(Array.getElem?_eq_some_iff.mp h3).1
 have d2:=Obj.data_mapFields hdt fun u=>u.setIfInBounds 3 Value.none
 refine wpAny_setFlight_none he hd h1 ht hdt hsz (k _ ⟨oe,vs,?_,rfl,rfl,hd,hte,h1,_,_,Value.none,Heap.get?_update_self _ ht (Obj.isFreed_of_fields d2),d2,by simp [hsz]⟩ (Zm3 ht hdt _))
 exact (Heap.get?_update_other _ _ hte).trans he
end
end M
namespace M
open PySem PySem.Spec PyProof.Rows L2
def Zma (X:Cx)(pins:List (Addr×Obj))(b:Addr):Prop:=(X.s₀.heap.get? b=none∨b∈X.ex)∧b≠X.env.locals∧(∀ x c,X.env.cells.lookup x=some c→c≠b)∧∀ p∈X.pn++pins,p.1≠b
section
variable {X:Cx} {pins:List (Addr×Obj)} {σ:St} {H:Hp} {s:Shared} {h':Heap} {ch:List Addr}
theorem Zg1 {P:Program}{w:World}{hp:Heap}{a:Addr}{o:HO}(x:HOk P w H hp)(e:H a=some o):∃ ob,hp.get? a=some ob:=by
 have go:∀ (o:HO),ObjOk P w H hp a o→∃ ob,hp.get? a=some ob:=by
  intro o
  induction o with
  | lst xs=>intro x; obtain ⟨_,_,_,_,q⟩:=x; exact ⟨_,q⟩
  | tup xs=>intro x; obtain ⟨_,_,_,p⟩:=x; obtain ⟨o,q,_⟩:=p; exact ⟨_,q⟩
  | dK kvs=>intro x; obtain ⟨_,_,_,_,p⟩:=x; obtain ⟨o,es,ep,q,_⟩:=p; exact ⟨_,q⟩
  | dT kvs=>intro x; obtain ⟨_,_,_,_,o,_,_,q,_⟩:=x; exact ⟨_,q⟩
  | set S n=>intro x; obtain ⟨o,_,_,_,q,_⟩:=x; exact ⟨_,q⟩
  | ins C dx fs=>intro x; obtain ⟨_,_,_,q,_⟩:=x; exact ⟨_,q⟩
  | own y=>intro x; exact x
  | xd fs=>intro x; obtain ⟨_,⟨_,_,_,q,_⟩,_⟩:=x; exact ⟨_,q⟩
  | rng lo hi=>intro x; obtain ⟨_,_,_,q⟩:=x; exact ⟨_,q⟩
  | frz ob u _=>intro x; exact ⟨_,x.1⟩
  | tbl ps=>intro x; exact ⟨_,x⟩
  | met f y=>intro x; exact ⟨_,x⟩
  | ext φ=>intro x; exact x.2.1
 exact go o (x a o e)
theorem Ze4 {P:Program}{w:World}{hp:Heap}{a:Addr}(x:HOk P w H hp)(n:hp.get? a=none):H a=none:=by
 cases q:H a with
 | none=>rfl
 | some o=>obtain ⟨ob,e⟩:=Zg1 x q; rw [n] at e; cases e
theorem Zcu {b:Addr}(I:Inv X pins σ H s)(n:s.heap.get? b=none):Zma X pins b:=by
 refine ⟨?_,fun z=>?_,fun x c e z=>?_,fun p hp z=>?_⟩
 ·by_cases hx:b∈X.ex
  ·exact .inr hx
  ·cases q:X.s₀.heap.get? b with
   | none=>exact .inl rfl
   | some o=>obtain ⟨o',e⟩:=I.base.there b o q hx; rw [n] at e; cases e
 ·obtain ⟨m,⟨o,_,_,ho,_⟩,_⟩:=I.loc
  subst z; rw [n] at ho; cases ho
 ·obtain ⟨v,o,ho,_⟩:=I.cell x c e
  subst z; rw [n] at ho; cases ho
 ·have:=(I.pin p hp).1
  rw [z,n] at this; cases this
theorem chg (I:Inv X pins σ H s)(c:Ch (frs X.stack) ch s.heap h')(hc:∀ b∈ch,H b=none∧Zma X pins b):Inv X pins σ H { s with heap:=h' }:=by
 have nS:∀ b,b≠X.env.locals→b ∉ X.fs→b ∉ frs X.stack:=fun b h1 h2 z=>(List.mem_cons.mp (I.stkSub b z)).elim h1 h2
 have n0:∀ b o,X.s₀.heap.get? b=some o→b ∉ X.ex→b ∉ ch:=fun b o e hx z=>by
  rcases (hc b z).2.1 with q | q
  ·rw [e] at q; cases q
  ·exact hx q
 have cellK:∀ x c',X.env.cells.lookup x=some c'→∀ v,s.heap.IsCell c' v→h'.IsCell c' v:=fun x c' e v ⟨o,ho,hd⟩=>by
  obtain ⟨sl,q⟩:=c.slot c' o (fun z=>(hc c' z).2.2.2.1 x c' e rfl) ho
  exact ⟨_,q,hd⟩
 refine ⟨I.ok,I.os,I.bare,⟨fun b o e n hb hx=>?_,fun b o e n hb hx=>?_,I.base.free,fun b o e hx=>?_,I.base.tups,I.base.frzs,I.base.tbls⟩,?_,fun x c' e=>?_,I.free,I.freeC,fun p hp=>?_,fun b u e=>?_,I.len⟩
 ·exact c.keep b o (nS b (Nat.ne_of_lt (Nat.lt_of_lt_of_le (Heap.lt_size e) I.ok.above)) hb) (n0 b o e hx) (I.base.keep b o e n hb hx)
 ·obtain ⟨sl,e1⟩:=I.base.slot b o e n hb hx
  obtain ⟨sl2,e2⟩:=c.slot b _ (n0 b o e hx) e1
  exact ⟨sl2,e2⟩
 ·obtain ⟨o1,e1⟩:=I.base.there b o e hx
  exact c.old b o1 e1
 ·obtain ⟨m,⟨o,es,ep,ho,r⟩,hl⟩:=I.loc
  obtain ⟨sl,q⟩:=c.slot X.env.locals o (fun z=>(hc _ z).2.2.1 rfl) ho
  refine ⟨m,⟨_,es,ep,q,r⟩,fun i x v e1 e2 e3=>?_⟩
  obtain ⟨u,rv,l⟩:=hl i x v e1 e2 e3
  refine ⟨u,rv,?_⟩
  rcases l with l | ⟨k,c',e,z⟩
  ·exact .inl l
  ·exact .inr ⟨k,c',e,cellK x c' e _ z⟩
 ·obtain ⟨v,z⟩:=I.cell x c' e
  exact ⟨v,cellK x c' e v z⟩
 ·obtain ⟨e,n,ne,nf,d⟩:=I.pin p hp
  exact ⟨c.keep p.1 p.2 (nS _ ne nf) (fun z=>(hc _ z).2.2.2.2 p hp rfl) e,n,ne,nf,d⟩
 ·refine (I.hok b u e).stay (fun c' v hb q=>?_) (fun _ q=>q) fun _ _ q=>q
  have tr:H c'≠none:=by
   rcases hb with rfl | hb
   ·rw [e]; simp
   ·rw [hb]; simp
  exact c.keep c' v (fun z=>tr (I.stkFree c' z)) (fun z=>tr (hc c' z).1) q
end
structure XIs (X:Cx)(pins:List (Addr×Obj))(σ:St)(H:Hp)(s:Shared)(e:Addr)(cv:Value)(da T:Option Addr):Prop where
 inv:Inv X pins σ H s
 rc:Znz s.heap e cv da T
 own:∀ b∈e::T.toList,H b=none∧Zma X pins b
def Zs6 (X:Cx)(Z:Zc)(v:Value)(s:Shared):Prop:=∃ pins σ H e cv da T φ h w,v=.ref e∧XIs X pins σ H s e cv da T∧Z.sg σ∧Step Z.φ Z.H φ H∧RH Z.T φ h H∧RX Z.T φ H w cv da∧Z.xw w h
def XOk (X:Cx)(Z:Zc):Prop:=∀ v s,Zs6 X Z v s→X.xe v s
theorem ZmU {X:Cx}{Z:Zc}(h:∀ w m,¬Z.xw w m):XOk X Z:=fun _ _ ⟨_,_,_,_,_,_,_,_,_,_,_,_,_,_,_,_,x⟩=>absurd x (h _ _)
def CXe (q:Bool)(P:Program)(w:World):CXT:=⟨fun outer H s E v s'=>∃ e cv da T H',v=.ref e∧s'.os=s.os∧AllBare s'.gens∧Un (frs outer) [] H H' s.heap s'.heap∧HOk P w H' s'.heap∧Znz s'.heap e cv da (some T) ∧
 (H' e=none∧s.heap.get? e=none)∧(H' T=none∧s.heap.get? T=none)∧E cv da H',q⟩
def Zx (T:CTb)(φ:List Addr)(H:Hp)(E:XK):Zc:=⟨T,φ,H,fun _=>True,fun w h'=>∀ φ' H' cv da,Step φ H φ' H'→RH T φ' h' H'→RX T φ' H' w cv da→E cv da H'⟩
section
variable {P:Program} {w:World} {K:PySem.W.Frag} {mg:Str→Option Value} {base:Heap} {T:CTb}
theorem ZoW {q:Bool}{N:List Str}{qual:Str}{scope:Scope}{f:Addr}{cd:Value}{A:Around}{outer:List Env}{s:Shared}{H:Hp}{E:XK}{φ:List Addr} :
  XOk (ZfS (CXe q P w) P w K mg base N qual scope f cd A outer s H E) (Zx T φ H E):=by
 rintro v s' ⟨pins,σ,H',e,cv,da,T1,φ',h',w',rfl,⟨I,R,own⟩,_,st,rh,rx,xw⟩
 show wpAny _ _ (leaving (envOfC qual scope s.heap.objs.size f cd) (.ref e)) _ _ s'
 unfold leaving
 refine wpAny_bind (ZkL (base:=base) I.ok.frames I.stack rfl R fun g T2 r c n=>?_)
 have I1:=chg I c own
 have own1:∀ b∈[e,T2],H' b=none∧Zma (ZfS (CXe q P w) P w K mg base N qual scope f cd A outer s H E) pins b:=fun b hb=>by
  rcases List.mem_cons.mp hb with rfl | hb
  ·exact own b List.mem_cons_self
  ·have hb:b=T2:=by simpa using hb
   subst hb
   rcases n with n | n
   ·exact own b (by rw [n]; simp)
   ·exact ⟨I.hok.fresh n,Zcu I (Heap.get?_none_of_le n)⟩
 refine Ze3 r fun g2 r2 c2=>?_
 have I2:=chg I1 (c2.mono (fun b z=>by cases z) fun b z=>z) fun b hb=>own1 b (List.mem_cons_of_mem _ hb)
 have new:∀ b,Zma (ZfS (CXe q P w) P w K mg base N qual scope f cd A outer s H E) pins b→s.heap.get? b=none:=fun b o=>by
  rcases o.1 with z | z
  ·exact z
  ·cases z
 have o1:=own1 e (by simp)
 have o2:=own1 T2 (by simp)
 exact ⟨e,cv,da,T2,H',rfl,I2.os,I2.bare,I2.base,I2.hok,r2,⟨o1.1,new _ o1.2⟩,⟨o2.1,new _ o2.2⟩,xw φ' H' cv da st rh rx⟩
theorem ZmM {φ:List Addr}{H:Hp}{h:Mem}{o:Out}{r:Res}{Q:VK}{E:XK}(hl:φ.length=h.length)(ft:ZpT h.length r o.res)(q:r.post (Kv T φ H Q) (fun w h'=>∀ φ' H' cv da,Step φ H φ' H'→RH T φ' h' H'→RX T φ' H' w cv da→E cv da H')) :
  o.post (Zx T φ H E) φ H { nx:=fun _ H'=>Q .non H',rt:=Q }:=by
 cases r with
 | no=>exact q.elim
 | ex w m=>
  cases o with
  | ex w' m'=>
   intro φ' H' cv da s r x
   obtain ⟨φ1,p1,l1,r1,x1⟩:=ft T φ' H' cv da r x
   exact q φ1 H' cv da (ZcH s p1 (by rw [hl]; exact l1)) r1 x1
  | _=>exact ft.elim
 | ok w m=>
  cases o with
  | rt w' m'=>
   intro φ' H' v s r x
   obtain ⟨φ1,p1,l1,r1,x1⟩:=ft T φ' H' v r x
   exact q φ1 H' v (ZcH s p1 (by rw [hl]; exact l1)) r1 x1
  | nx ρ' m'=>
   intro φ' H' σ' s r rs _
   obtain ⟨φ1,p1,l1,r1,x1⟩:=ft T φ' H' .non r (by unfold RW; rfl)
   exact q φ1 H' .non (ZcH s p1 (by rw [hl]; exact l1)) r1 x1
  | _=>exact ft.elim
theorem ZlQ {qc:Bool}{x qual:Str}{st:Stmt}{N ps:List Str}{k:Nat}{F:Fm}{f:Addr}{fd:FuncData}{B:Sm}(R:Fun K x qual st f fd)(S:FnScope N ps (Zae st))
  (hB:∀ (cdv:Value) (A:Around) (outer:List Env) (s:Shared) (H:Hp) (E:XK) (φ0:List Addr),Room k (A.deeper (envOfC qual (Zae st) s.heap.objs.size f cdv)) →
   XOk (ZfS (CXe qc P w) P w K mg base N qual (Zae st) f cdv A outer s H E) (Zx T φ0 H E)→QB (ZfS (CXe qc P w) P w K mg base N qual (Zae st) f cdv A outer s H E) (Zx T φ0 H E) (ZaZ st) B)
  (hF:ZlC ps.length N.length B F):FnOk P w K mg base (CXe qc P w) (k+1) f fd ps (spH T F):=by
 obtain ⟨oc,od,kV,doc,pm,an,cdv,ct,osl,rfl,lk,hcd⟩:=R.ex
 refine Zp9 lk hcd S (fun vs H Q E h=>?_) fun A outer s H vs Q E hr h=>?_
 ·obtain ⟨φ,h,ws,r,rv,q⟩:=h
  rcases hF ws h r.wf (by rw [← r.len]; exact rv.lt) with e | ⟨e,_⟩
  ·rw [e] at q; exact q.elim
  ·rw [← rv.length]; exact e
 ·obtain ⟨φ,h,ws,r,rv,q⟩:=h
  refine ⟨_,(hB cdv A outer s H E φ hr ZoW).ps,φ,h,ZaS N.length ws,⟨trivial,Step.refl _ _,r,Zf1 rv⟩,?_⟩
  rcases hF ws h r.wf (by rw [← r.len]; exact rv.lt) with e | ⟨e,ft⟩
  ·rw [e] at q; exact q.elim
  ·exact ZmM r.len ft q
theorem Zt0 {qc:Bool}{x:Str}{st:Stmt}{N ps:List Str}{k:Nat}{F:Fm}{B:Sm}(R:DefAt K mg x st)(S:FnScope N ps (Zae st))(hb:Zal x x st ps)
  (hB:∀ (f:Addr) (cdv:Value) (A:Around) (outer:List Env) (s:Shared) (H:Hp) (E:XK) (φ0:List Addr),Room k (A.deeper (envOfC x (Zae st) s.heap.objs.size f cdv)) →
   XOk (ZfS (CXe qc P w) P w K mg base N x (Zae st) f cdv A outer s H E) (Zx T φ0 H E)→QB (ZfS (CXe qc P w) P w K mg base N x (Zae st) f cdv A outer s H E) (Zx T φ0 H E) (ZaZ st) B)
  (hF:ZlC ps.length N.length B F):ZbU P w K mg base (CXe qc P w) (k+1) x (spH T F):=by
 obtain ⟨f,fd,R,hm⟩:=R
 exact ⟨f,fd,ps,ZlQ R S (hB f) hF,hm,R.kp,R.binds hb⟩
end
section
variable {X:Cx} {Z:Zc} {qc:Bool} {k j:Nat} {F:Fm} {fa:Exs} {fo:Ex} {x m:Str} {p pos apos:Pos} {e o:Expr} {es:List Expr}
theorem ZoC {CX:CXT}{f:Addr}{fd:FuncData}{ps:List Str}{sp:Sp}{E:XK}{pins:List (Addr×Obj)}{σ:St}{H:Hp}{s:Shared}{Q:VK}{us:List Value}{vs:List V}(Fk:FnOk X.prog X.w X.K X.mg X.base CX k f fd ps sp)(hr:Room k X.A)(hq:CX.q=true→X.calm=true)(hb:Binds X.K fd ps [])
  (I:Inv X pins σ H s) (r:Vals vs us) (h:sp vs H Q E) (hx:∀ v s',CX X.stack H s E v s'→X.xe v s'):wpAny (model X.prog X.w) X.A (call (.ref f) us) (EP X pins σ Q) X.xe s:=by
 have hl:us.length=ps.length:=by rw [← r.length]; exact Fk.len _ _ _ _ h
 have hb2:=hb s us I.kIn (by rw [List.append_nil]; exact hl)
 rw [List.append_nil] at hb2
 refine wpAny_call (codeAny_mono (Fk.run X.A X.stack s H ⟨us,[]⟩ us vs Q E hr (fun z=>I.ok.hd (hq z)) I.env0 hb2 r h) fun r s' q=>?_)
 cases r with
 | error v=>exact hx v s' q
 | ok fl=>
  cases fl with
  | ret u=>exact I.after q
  | next=>exact False.elim q
  | brk=>exact False.elim q
  | cont=>exact False.elim q
theorem Zne {f:Addr}{fd:FuncData}{ps:List Str}{pins:List (Addr×Obj)}{σ:St}{H:Hp}{s:Shared}{Q:VK}{us:List Value}{vs:List V}{φ:List Addr}{h:Mem}{ws:List W}(Fk:FnOk X.prog X.w X.K X.mg X.base (CXe qc X.prog X.w) k f fd ps (spH Z.T F))(hx:XOk X Z)(hr:Room k X.A)(hq:qc=true→X.calm=true)
  (hb:Binds X.K fd ps []) (I:Inv X pins σ H s) (r:Vals vs us) (sg:Z.sg σ) (st:Step Z.φ Z.H φ H) (rh:RH Z.T φ h H) (rw:RWs Z.T φ H ws vs) (q:(F ws h).post (Kv Z.T φ H Q) Z.xw):wpAny (model X.prog X.w) X.A (call (.ref f) us) (EP X pins σ Q) X.xe s:=by
 refine ZoC (E:=fun cv da H'=>∃ φ' h' w,Step φ H φ' H'∧RH Z.T φ' h' H'∧RX Z.T φ' H' w cv da∧Z.xw w h') Fk hr hq hb I r ⟨φ,h,ws,rh,rw,?_⟩ ?_
 ·cases e:F ws h with
  | ok w m=>rw [e] at q; exact q
  | no=>rw [e] at q; exact q
  | ex w m=>rw [e] at q; exact fun φ' H' cv da s r x=>⟨φ',m,w,s,r,x,q⟩
 ·rintro v s' ⟨e,cv,da,T,H',rfl,os,bare,un,hok,R,⟨h1,h2⟩,⟨h3,h4⟩,φ',h',w,st',rh',rx,xw⟩
  refine hx _ _ ⟨pins,σ,H',e,cv,da,some T,φ',h',w,rfl,⟨I.call' os un hok bare (fun b z=>by cases z),R,fun b hb=>?_⟩,sg,st.trans st',rh',rx,xw⟩
  rcases List.mem_cons.mp hb with rfl | hb
  ·exact ⟨h1,Zcu I h2⟩
  ·have hb:b=T:=by simpa using hb
   subst hb
   exact ⟨h3,Zcu I h4⟩
def Za0 (F:Fm)(f:Exs):Ex:=fun ρ h=>match f ρ h with
 | .ok ws h1=>F ws h1
 | .ex w h1=>.ex w h1
 | .no=>.no
theorem ZmY {Q:VK}{pins:List (Addr×Obj)}{s:Shared}{σ:St}{H:Hp}(ha:QA X Z es fa)(I:Inv X pins σ H s){φ:List Addr}{h:Mem}{ρ:Sg}(x:Here Z σ H φ h ρ)(q:(Za0 F fa ρ h).post (Kv Z.T φ H Q) Z.xw) :
  wpAny (model X.prog X.w) X.A (spliced (backTo pos (starEach es X.env))) (AP X pins σ fun vs H1=>∃ φ1 h1 ws,Step φ H φ1 H1∧Here Z σ H1 φ1 h1 ρ∧RWs Z.T φ1 H1 ws vs∧(F ws h1).post (Kv Z.T φ1 H1 Q) Z.xw) X.xe s:=by
 refine ha.pa pos pins s σ H _ I ⟨φ,h,ρ,x,?_⟩
 unfold Za0 at q
 cases e:fa ρ h with
 | no=>rw [e] at q; exact q.elim
 | ex w h'=>rw [e] at q; exact q
 | ok ws h1=>
  rw [e] at q
  intro φ1 H1 vs s1 r1 rw1
  refine ⟨φ1,h1,ws,s1,x.step s1 r1,rw1,?_⟩
  exact q.mono fun w m k=>k.step s1
theorem ZsH (G:ZbU X.prog X.w X.K X.mg X.base (CXe qc X.prog X.w) k x (spH Z.T F))(hx:XOk X Z)(hr:Room j X.A)(hkj:k≤j)(hg:Gl X x)(ha:QA X Z (e::es) fa)(hdb:(x == ("__debug__":Str))=false:=by decide)
  (he:starEach (e::es) X.env=(false,eval e X.env)::starEach es X.env:=by rfl) (hpl:(backTo pos (starEach es X.env)).any (·.1)=false:=by rfl) (hq:qc=true→X.calm=true:=by first | exact fun _=>rfl | (intro h; cases h)):QE X Z (.Call (.Name x p) (e::es) [] pos) (Za0 F fa):=by
 obtain ⟨f,fd,ps,Fk,hm,kp,hb⟩:=G
 refine ⟨fun pins s σ H Q I ⟨φ,h,ρ,x0,q⟩=>?_⟩
 refine wpAny_Call_Name_kw (Zck I hg hm ?_ hdb)
 refine PySem.W.callWith_K (h₀:=X.base) I.ok.mod.kin kp (thn (ZmY (F:=F) ha I x0 q) fun us s1 ⟨vs,H1,I1,r,φ1,h1,ws,_,x1,rw1,q1⟩=>⟨I1.kIn,?_⟩) he hpl
 exact Zne Fk hx (hr.mono hkj) hq hb I1 r x1.sg x1.st x1.rh rw1 q1
def MtX (P:Program)(w:World)(K:PySem.W.Frag)(mg:Str→Option Value)(base:Heap)(T:CTb)(qc:Bool)(k:Nat)(c m:Str)(F:Fm):Prop:=
 ∃ C f fd ps,T c=some C∧Meth K C m f∧FnOk P w K mg base (CXe qc P w) k f fd ps (spH T F)∧Binds K fd ps []
def Zfz (P:Program)(w:World)(K:PySem.W.Frag)(mg:Str→Option Value)(base:Heap)(T:CTb)(qc:Bool)(k:Nat)(m:Str)(tab:Tab):Prop:=∀ c F,tab c=some F→MtX P w K mg base T qc k c m F
def ZaP (m:Str)(tab:Tab)(f:Ex)(g:Exs):Ex:=fun ρ h=>(f ρ h).bind fun a h1=>match a with
 | .ref n=>(match h1[n]? with
  | some (.ins c fs)=>(match tab c,fs.lookup m with
   | some F,none=>Za0 (fun ws=>F (.ref n::ws)) g ρ h1
   | _,_=>.no)
  | _=>.no)
 | _=>.no
theorem Zl4 {m:Str}{tab:Tab}(hI:Zfo X.K Z.T)(ht:Zfz X.prog X.w X.K X.mg X.base Z.T qc k m tab){pins:List (Addr×Obj)}{s:Shared}{σ:St}{H:Hp}{Q:VK}{φ:List Addr}{h:Mem}{ρ:Sg}(ho:QE X Z o fo)(I:Inv X pins σ H s)(x:Here Z σ H φ h ρ)(q:(ZaP m tab fo fa ρ h).post (Kv Z.T φ H Q) Z.xw) :
  wpAny (model X.prog X.w) X.A (eval o X.env) (EP X pins σ fun v H1=>∃ a C dx fs f fd ps F φ1 h1 n,v=.ref a∧H1 a=some (.ins C dx fs)∧Cls X.K C∧Meth X.K C m f∧FnOk X.prog X.w X.K X.mg X.base (CXe qc X.prog X.w) k f fd ps (spH Z.T F)∧Binds X.K fd ps []∧fs.lookup m=none ∧
   Here Z σ H1 φ1 h1 ρ∧RW Z.T φ1 H1 (.ref n) v∧(Za0 (fun ws=>F (.ref n::ws)) fa ρ h1).post (Kv Z.T φ1 H1 Q) Z.xw) X.xe s:=by
 refine ho.pe pins s σ H _ I ⟨φ,h,ρ,x,?_⟩
 unfold ZaP at q
 rw [ZdE] at q
 refine q.mono fun a h1 q1=>fun φ1 H1 u s1 r1 ra=>?_
 cases a with
 | ref n=>
  dsimp only at q1
  cases e1:h1[n]? with
  | none=>rw [e1] at q1; exact q1.elim
  | some ob=>
   rw [e1] at q1
   cases ob with
   | ins c fs=>
    dsimp only at q1
    obtain ⟨a,C,dx,fv,rfl,ea,y,hc,rp⟩:=Zgh r1 ra e1
    cases et:tab c with
    | none=>rw [et] at q1; exact q1.elim
    | some F=>
     cases el:fs.lookup m with
     | some w=>rw [et,el] at q1; exact q1.elim
     | none=>
      rw [et,el] at q1
      obtain ⟨C',f',fd,ps,hc',hm,Fk,hb⟩:=ht c F et
      rw [hc] at hc'; cases hc'
      exact ⟨a,C,dx,fv,f',fd,ps,F,φ1,h1,n,rfl,y,(hI c C hc).cl,hm,Fk,hb,(ZdO rp).2 el,x.step s1 r1,ra,q1.mono fun w m k=>k.step s1⟩
   | _=>exact q1.elim
 | _=>exact q1.elim
theorem Za8 {m:Str}{tab:Tab}{pl:Sem Bool}(hI:Zfo X.K Z.T)(ht:Zfz X.prog X.w X.K X.mg X.base Z.T qc k m tab)(hx:XOk X Z)(hr:Room j X.A)(hkj:k≤j)(ho:QE X Z o fo)(ha:QA X Z (e::es) fa)
  (hst:starEach (e::es) X.env=(false,eval e X.env)::starEach es X.env:=by rfl) (hpl:(backTo pos (starEach es X.env)).any (·.1)=false:=by rfl)
  (hev:eval (.Call (.Attribute o m apos) (e::es) [] pos) X.env=(do
   let ov ← eval o X.env
   standAt apos.atName
   let (f,first) ← holding [ov] (getMethod ov m pl)
   callWith pos f first (backTo pos (starEach (e::es) X.env)) (backToKw pos (keywordEach [] X.env))):=by rfl)
  (hq:qc=true→X.calm=true:=by first | exact fun _=>rfl | (intro h; cases h)):QE X Z (.Call (.Attribute o m apos) (e::es) [] pos) (ZaP m tab fo fa):=by
 refine ⟨fun pins s σ H Q I ⟨φ,h,ρ,x0,q⟩=>?_⟩
 refine PySem.W.methodCall_KW (pl:=pl) (thn (Zl4 hI ht ho I x0 q) fun u s1 ⟨v,H1,I1,rx,a,C,dx,fs,f,fd,ps,F,φ1,h1,n,ex,ea,c,hm,Fk,hb,l,x1,ra,q1⟩=>?_) hev
 subst ex
 obtain rfl:u=Value.ref a:=rx
 refine Zd1 I1 ea c hm l ?_
 refine PySem.W.callWith_K (first:=[.ref a]) (h₀:=X.base) I.ok.mod.kin hm.kp (thn (ZmY (F:=fun ws=>F (.ref n::ws)) ha I1 x1 q1) fun us s2 ⟨vs,H2,I2,r,φ2,h2,ws,s2',x2,rw2,q2⟩=>⟨I2.kIn,?_⟩) hst hpl
 exact Zne (us:=.ref a::us) (vs:=.ref a::vs) Fk hx (hr.mono hkj) hq hb I2 (.cons rfl r) x2.sg x2.st x2.rh (by unfold RWs; exact ⟨_,_,rfl,ra.step s2',rw2⟩) q2
end
end M
namespace M
open PySem PySem.Spec PyProof.Rows L2
def bmV:List Value:=[.type "ValueError",.type "Exception",.type "BaseException",.type "object"]
def Zi3 (K:PySem.W.Frag)(C:Addr)(newId:String):Bool:=match K.lookup C with
 | some ⟨.type "type",_,.cls cd,sl⟩=>(match cd.mro,sl.toList with
  | .ref C'::_,[_,_,_,_,some (.builtin n),_]=>C' == C && (n == newId && !cd.hasDel)
  | _,_=>false)
 | _=>false
theorem Zit {K:PySem.W.Frag}{C:Addr}{newId:String}(q:Zi3 K C newId=true):∃ nm qn N bs bm hd sn sub ab col dd k0 k1 k2 k3 k5,K.lookup C=some (excClassObj nm qn C N bs bm hd sn sub ab col dd k0 k1 k2 k3 k5 newId):=by
 unfold Zi3 at q
 split at q
 ·rename_i dd cd sl ho
  split at q
  ·rename_i C' bm k0 k1 k2 k3 n k5 hm hs
   simp only [Bool.and_eq_true,beq_iff_eq,Bool.not_eq_true'] at q
   obtain ⟨rfl,rfl,hdel⟩:=q
   obtain ⟨nm,bs,mro,ns,qn,hd,sn,sub,ab,col,del⟩:=cd
   dsimp only at hm hdel
   subst hm hdel
   obtain ⟨l⟩:=sl
   dsimp only at hs
   subst hs
   exact ⟨nm,qn,ns,bs,bm,hd,sn,sub,ab,col,dd,k0,k1,k2,k3,k5,ho⟩
  ·cases q
 ·cases q
theorem Znb {K:PySem.W.Frag}{C:Addr}{nm qn:Str}{N:Addr}{bs bm:List Value}{hd:Bool}{sn:List Str}{sub:List Value}{ab:Bool}{col:Option Bool}{dd:Option Addr}{k0 k1 k2 k3 k5:Option Value}{newId:String}{v:Value}{b:Bool}
  (ho:K.lookup C=some (excClassObj nm qn C N bs bm hd sn sub ab col dd k0 k1 k2 k3 k5 newId)) (q:PySem.W.mroIn K C v=some b):(Value.ref C::bm).contains v=b:=by
 unfold PySem.W.mroIn PySem.W.clsIn at q
 rw [ho] at q
 exact Option.some.inj q
section
variable {K:PySem.W.Frag} {h:Heap} {C:Addr} {newId:String}
def Zrn (K:PySem.W.Frag)(C:Addr):Bool:=PySem.W.excIn K C bmV "ValueError.__new__"
theorem Zs7 (X:K.In h)(q:Zrn K C=true):∃ bm N nm qn bs hd sn sub ab col dd k0 k1 k2 k3 k5 mN,h.get? C=some (excClassObj nm qn C N bs bm hd sn sub ab col dd k0 k1 k2 k3 k5 "ValueError.__new__")∧h.Ns N mN∧mN "__init__"=none∧OwnTail h bmV bm:=by
 unfold Zrn PySem.W.excIn at q
 split at q
 ·rename_i dd cd sl ho
  split at q
  ·rename_i C' bm k0 k1 k2 k3 n k5 hm hs
   simp only [Bool.and_eq_true,beq_iff_eq,Bool.not_eq_true'] at q
   obtain ⟨⟨⟨⟨⟨rfl,rfl⟩,hdel⟩,ht⟩,hok⟩,hni⟩:=q
   obtain ⟨nm,bs,mro,ns,qn,hd,sn,sub,ab,col,del⟩:=cd
   dsimp only at hm hdel hok hni
   subst hm hdel
   obtain ⟨l⟩:=sl
   dsimp only at hs
   subst hs
   have i1:=PySem.W.isNs_of_in X hok
   exact ⟨bm,ns,nm,qn,bs,hd,sn,sub,ab,col,dd,k0,k1,k2,k3,k5,h.nsMap ns,X _ _ ho,.of_isNs i1,PySem.W.nsMap_none_of_in X hok hni,PySem.W.tail_of_in X ht⟩
  ·cases q
 ·cases q
end
def Zsh (K:PySem.W.Frag)(mg:Str→Option Value)(T:CTb)(c:Str):Prop:=∃ C,T.x c=some C∧mg c=some (.ref C)∧Zrn K C=true
def Zba (c:Str)(f:Exs):Sm:=fun ρ h=>match f ρ h with
 | .ok ws h1=>bif decide (ws.length≤sizeLine) then .ex (.exc c [] []) h1 else .no
 | .ex w h1=>.ex w h1
 | .no=>.no
section
variable {X:Cx} {Z:Zc} {fa:Exs} {c:Str} {np cpos pos:Pos} {e:Expr} {es:List Expr}
theorem ZiO (Rz:Zsh X.K X.mg Z.T c)(hx:XOk X Z)(hg:Gl X c)(ha:QA X Z (e::es) fa)(hdb:(c == ("__debug__":Str))=false:=by decide)(he:starEach (e::es) X.env=(false,eval e X.env)::starEach es X.env:=by rfl)
  (hpl:(backTo cpos (starEach es X.env)).any (·.1)=false:=by rfl) (hcl:X.calm=true:=by rfl):QS X Z (.Raise (some (.Call (.Name c np) (e::es) [] cpos)) none pos) (Zba c fa):=by
 obtain ⟨C,hT,hm,hq⟩:=Rz
 refine ⟨fun pins s σ H D I ⟨φ,h,ρ,x,q⟩=>?_⟩
 obtain ⟨bm,N,nm,qn,bs,hd,sn,sub,ab,col,dd,k0,k1,k2,k3,k5,mN,hC,hN,hni,Tl⟩:=Zs7 I.ok.mod.kin hq
 have hps:=ha.pa cpos pins s σ H (fun vs H1=>∃ φ1 h1,Here Z σ H1 φ1 h1 ρ∧vs.length≤sizeLine∧Z.xw (.exc c [] []) h1) I ⟨φ,h,ρ,x,by
  unfold Zba at q
  cases e1:fa ρ h with
  | no=>rw [e1] at q; exact q.elim
  | ex w h1=>rw [e1] at q; exact q
  | ok ws h1=>
   rw [e1] at q
   dsimp only at q
   cases hz:decide (ws.length≤sizeLine) with
   | false=>rw [hz] at q; exact q.elim
   | true=>
    rw [hz] at q
    intro φ1 H1 vs s1 r1 rw1
    exact ⟨φ1,h1,x.step s1 r1,by rw [← rw1.length]; exact of_decide_eq_true hz,q⟩⟩
 refine wpAny_Raise_call_subT (nm:=nm) (q:=qn) (N:=N) (bs:=bs) (hdct:=hd) (sn:=sn) (sub:=sub) (ab:=ab) (col:=col) (dd:=dd) (k0:=k0) (k1:=k1) (k2:=k2) (k3:=k3) (k5:=k5) PySem.F.excBase_ValueError (Tl.hasType PySem.F.excBase_ValueError.hasBase) (I.ok.hd hcl) (by rw [he]; show (false || (backTo cpos (starEach es X.env)).any (·.1))=false; rw [hpl]; rfl) hni (Zck I hg hm ⟨rfl,?_⟩ hdb)
 rw [he] at hps ⊢
 refine Calls.evalArgs_plain (thn hps fun us s2 ⟨vs,H2,I2,r,φ2,h2,x2,hl,xw⟩=>⟨rfl,by rw [← r.length]; exact hl,I2.bk _ _ hC,hN.keeps I2.bk,Tl.keeps I2.bk,fun h' a hm'=>?_⟩)
 obtain ⟨t,ht,_,_⟩:=hm'.there
 refine hx _ _ ⟨pins,σ,H2,a,.ref C,none,none,φ2,h2,.exc c [] [],rfl,⟨I2.kept (t':=s2.toks) hm'.keeps,⟨_,_,ht,rfl,rfl,rfl,rfl⟩,fun b hb=>?_⟩,x2.sg,x2.st,x2.rh,⟨C,[],hT,rfl,rfl,by unfold RWs; rfl,rfl⟩,xw⟩
 have hb:b=a:=by simpa using hb
 subst hb
 exact ⟨Ze4 I2.hok hm'.new,Zcu I2 hm'.new⟩
end
end M
namespace M
open PySem PySem.Spec PyProof.Rows L2
abbrev _root_.L2.Cx.tr (X:Cx)(E:Value→Shared→Prop)(pn:List (Addr×Obj)):Cx:={ X with xe:=E,pn:=pn }
abbrev _root_.L2.Cx.loud (X:Cx)(e:Addr):Cx:={ X with A:=X.A.mark (some (.ref e)),calm:=false,xe:=fun _ _=>False }
theorem _root_.L2.Room.mark {k:Nat}{A:Around}(r:Room k A)(v:Option Value):Room k (A.mark v):=⟨r.dp,r.un⟩
section
variable {X:Cx} {pins:List (Addr×Obj)} {σ:St} {H:Hp} {s:Shared}
theorem Zrk (I:Inv X pins σ H s)(E:Value→Shared→Prop):Inv (X.tr E (X.pn++pins)) [] σ H s:=
 ⟨⟨I.ok.mod,I.ok.kind,I.ok.glob,I.ok.blt,I.ok.above,I.ok.inj,I.ok.has,I.ok.cab,I.ok.hd,I.ok.frames,I.ok.stk,I.ok.exf,I.ok.bs,I.ok.bsz,I.ok.noex,I.ok.exfs,I.ok.funs,I.ok.frf⟩,I.os,I.bare,I.base,I.loc,I.cell,I.free,I.freeC,fun p hp=>I.pin p (by simpa using hp),I.hok,I.len⟩
theorem ZdQ {E:Value→Shared→Prop}{pins1:List (Addr×Obj)}(ok:X.Ok)(I:Inv (X.tr E (X.pn++pins)) pins1 σ H s):Inv X pins σ H s:=
 ⟨ok,I.os,I.bare,I.base,I.loc,I.cell,I.free,I.freeC,fun p hp=>I.pin p (List.mem_append_left _ hp),I.hok,I.len⟩
theorem ZiP (I:Inv X pins σ H s)(e:Addr):Inv (X.loud e) pins σ H s:=
 ⟨⟨I.ok.mod,I.ok.kind,I.ok.glob,I.ok.blt,I.ok.above,I.ok.inj,I.ok.has,I.ok.cab,fun z=>(by cases z),I.ok.frames,I.ok.stk,I.ok.exf,I.ok.bs,I.ok.bsz,I.ok.noex,I.ok.exfs,I.ok.funs,I.ok.frf⟩,I.os,I.bare,I.base,I.loc,I.cell,I.free,I.freeC,I.pin,I.hok,I.len⟩
theorem ZcP {e:Addr}(ok:X.Ok)(I:Inv (X.loud e) pins σ H s):Inv X pins σ H s:=⟨ok,I.os,I.bare,I.base,I.loc,I.cell,I.free,I.freeC,I.pin,I.hok,I.len⟩
theorem ZqQ {e:Addr}{ho:HO}(I:Inv X pins σ H s)(he:H e=none)(o:Zma X pins e)(new:ObjOk X.prog X.w (upd H e ho) s.heap e ho):Inv X pins σ (upd H e ho) s:=by
 have ne:∀ b u,H b=some u→b≠e:=fun b u q=>Zau q he
 refine ⟨I.ok,I.os,I.bare,⟨I.base.keep,I.base.slot,fun b ob q n hx=>?_,I.base.there,fun b xs q=>?_,fun b ob xs q=>?_,fun b ps q=>?_⟩,I.loc,I.cell,?_,fun x c q=>?_,fun p hp=>?_,fun b u q=>?_,I.len⟩
 ·rw [Zak]
  ·exact I.base.free b ob q n hx
  ·rintro rfl
   rcases o.1 with z | z
   ·rw [z] at q; cases q
   ·exact hx z
 ·have:=I.base.tups b xs q
  rw [Zak (ne _ _ this)]; exact this
 ·have:=I.base.frzs b ob xs q
  rw [Zak (ne _ _ this)]; exact this
 ·obtain ⟨more,this⟩:=I.base.tbls b ps q
  exact ⟨more,by rw [Zak (ne _ _ this)]; exact this⟩
 ·rw [Zak (Ne.symm o.2.1)]; exact I.free
 ·rw [Zak (o.2.2.1 x c q)]; exact I.freeC x c q
 ·obtain ⟨e1,n,ne',nf,d⟩:=I.pin p hp
  exact ⟨e1,by rw [Zak (o.2.2.2 p hp)]; exact n,ne',nf,d⟩
 ·by_cases z:b=e
  ·subst z
   rw [ZaD] at q
   cases q
   exact new
  ·rw [Zak z] at q
   exact (I.hok b u q).stay (fun c v _ r=>r) (fun c r=>by rw [Zak (ne _ _ r)]; exact r) fun c xs r=>by rw [Zak (ne _ _ r)]; exact r
theorem Zgw {Md:Model}{A:Around}{E:Value→Shared→Prop}{i:Nat}{n:Str}{pos:Pos}{Q:Unit→Shared→Prop}(I:Inv X pins σ H s)(hN:X.N.Nodup)(hi:X.N[i]? = some n)(hk:X.env.scope.names.lookup n=some .local)(k:∀ s',Inv X pins (σ.set i none) H s'→Q () s') :
  wpAny Md A (do bindName X.env n .none; unbindBehindTheSuite X.env n pos) Q E s:=by
 obtain ⟨m,hn,hl⟩:=id I.loc
 refine wpAny_nameGoes_keeps hk hn (by rw [I.ok.kind]; rfl) fun h' v hn' hs=>k _ ?_
 have nL:∀ b o,X.s₀.heap.get? b=some o→b≠X.env.locals:=fun b o e=>Nat.ne_of_lt (Nat.lt_of_lt_of_le (Heap.lt_size e) I.ok.above)
 refine ⟨I.ok,I.os,I.bare,⟨fun b o e n' hb hx=>(hs.2 b (nL b o e)).trans (I.base.keep b o e n' hb hx),fun b o e n' hb hx=>?_,I.base.free,fun b o e hx=>?_,I.base.tups,I.base.frzs,I.base.tbls⟩,⟨_,hn',fun j y v' e1 e2 e3=>?_⟩,fun y c e=>?_,I.free,I.freeC,fun p hp=>?_,fun b u e=>?_,by simpa using I.len⟩
 ·obtain ⟨sl,e1⟩:=I.base.slot b o e n' hb hx
  exact ⟨sl,(hs.2 b (nL b o e)).trans e1⟩
 ·obtain ⟨o',e1⟩:=I.base.there b o e hx
  exact ⟨o',(hs.2 b (nL b o e)).trans e1⟩
 ·rw [List.getElem?_set] at e2
  split at e2
  ·split at e2 <;> cases e2
  ·rename_i hij
   obtain ⟨u',r',q⟩:=hl j y v' e1 e2 e3
   refine ⟨u',r',?_⟩
   rcases q with ⟨kk,e⟩ | ⟨kk,c,e,z⟩
   ·have ny:y≠n:=fun e=>hij (ZfY hN hi (e ▸ e1))
    exact .inl ⟨kk,by simp [ny,e]⟩
   ·exact .inr ⟨kk,c,e,z.sameBut hs (I.cne y c e)⟩
 ·obtain ⟨w',z⟩:=I.cell y c e
  exact ⟨w',z.sameBut hs (I.cne y c e)⟩
 ·obtain ⟨e,n',ne,nf,d⟩:=I.pin p hp
  exact ⟨(hs.2 p.1 ne).trans e,n',ne,nf,d⟩
 ·refine (I.hok b u e).stay (fun c v' hc q=>(hs.2 c ?_).trans q) (fun _ q=>q) fun _ _ q=>q
  rintro rfl
  rcases hc with rfl | hc
  ·rw [I.free] at e; cases e
  ·rw [I.free] at hc; cases hc
end
theorem exm {Md:Model}{A:Around}{E:Value→Shared→Prop}{s:Shared}{e C D:Addr}{oe:Obj}{Q:Bool→Shared→Prop}{nm qn nm' qn':Str}{N N':Addr}{bs bm bs' bm':List Value}{hd hd':Bool}{sn sn':List Str}{sub sub':List Value}{ab ab':Bool}{col col':Option Bool}{dd dd':Option Addr}{k0 k1 k2 k3 k5 k0' k1' k2' k3' k5':Option Value}{nw nw':String}
  (hC:s.heap.get? C=some (excClassObj nm qn C N bs bm hd sn sub ab col dd k0 k1 k2 k3 k5 nw)) (hD:s.heap.get? D=some (excClassObj nm' qn' D N' bs' bm' hd' sn' sub' ab' col' dd' k0' k1' k2' k3' k5' nw')) (he:s.heap.get? e=some oe) (hcls:oe.cls=.ref C)
  (hDB:(Value.ref D::bm').contains (.type "BaseException")=true) (hCD:(Value.ref C::bm).contains (.ref D)=true) (hq:Q true s):wpAny Md A (excMatches (.ref e) (.ref D)) Q E s:=by
 obtain ⟨hp,g,d,t,os⟩:=s
 have f:=tc_notTuple
 unfold excMatches
 repeat (first | (with_reducible refine wpAny_loadPart_at he ?_; rw [hcls]) | with_reducible refine wpAny_loadPart_at hD ?_ | (with_reducible refine wpAny_isSubtype_exc hD ?_; rw [hDB]) | (with_reducible refine wpAny_isSubtype_exc hC ?_; rw [hCD]) | wp_step)
 exact hq
def fgt:List Nat→Sg→Sg
 | [],ρ=>ρ
 | i::r,ρ=>fgt r (ρ.set i none)
theorem Zlk {j:Nat}{w:W}:∀ {asg:List Nat} {ρ:Sg},(fgt asg ρ)[j]? = some (some w)→j ∉ asg∧ρ[j]? = some (some w)
 | [],ρ,e=>⟨by simp,e⟩
 | i::r,ρ,e=>by
  obtain ⟨n,q⟩:=Zlk (asg:=r) e
  rw [List.getElem?_set] at q
  split at q
  ·split at q <;> cases q
  ·rename_i hij
   exact ⟨by simp only [List.mem_cons,not_or]; exact ⟨fun z=>hij z.symm,n⟩,q⟩
theorem Zk2:∀ {asg:List Nat} {ρ:Sg},(fgt asg ρ).length=ρ.length
 | [],_=>rfl
 | i::r,ρ=>by unfold fgt; rw [Zk2]; simp
theorem Zgc {T:CTb}{φ:List Addr}{H:Hp}{ρ:Sg}{σ:St}{i:Nat}(r:RS T φ H ρ σ):RS T φ H (ρ.set i none) (σ.set i none):=⟨by simp [r.len],fun j w e=>by
 rw [List.getElem?_set] at e
 split at e
 ·split at e <;> cases e
 ·rename_i hij
  obtain ⟨v,a,b⟩:=r.var j w e
  exact ⟨v,by rw [List.getElem?_set_ne hij]; exact a,b⟩⟩
def Zfw (i:Nat):Out→Out
 | .nx ρ h=>.nx (ρ.set i none) h
 | .bk ρ h=>.bk (ρ.set i none) h
 | .ct ρ h=>.ct (ρ.set i none) h
 | .rt w h=>.rt w h
 | _=>.no
def Zfr (sub:Str→Bool)(i:Nat)(asg:List Nat)(B Hn:Sm):Sm:=fun ρ h=>match B ρ h with
 | .ex w h'=>(match w with
  | .exc c fs ws=>bif sub c then Zfw i (Hn ((fgt asg ρ).set i (some (.exc c fs ws))) h') else .no
  | _=>.no)
 | o=>o
structure CatAt (K:PySem.W.Frag)(mg:Str→Option Value)(T:CTb)(d:Str)(sub:Str→Bool):Prop where
 ex:∃ D,mg d=some (.ref D)∧Zi3 K D "ValueError.__new__"=true∧PySem.W.mroIn K D (.type "BaseException")=some true∧∀ c C,sub c=true→T.x c=some C→Zi3 K C "ValueError.__new__"=true∧PySem.W.mroIn K C (.ref D)=some true
section
variable {X:Cx} {Z:Zc} {sub:Str→Bool} {i:Nat} {asg:List Nat} {B Hn:Sm} {n d:Str} {np hpos pos:Pos} {body suite:List Stmt} {b₀:Stmt}
theorem ZrC (hK:CatAt X.K X.mg Z.T d sub)(hg:Gl X d)(hN:X.N.Nodup)(hi:X.N[i]? = some n)(hk:X.env.scope.names.lookup n=some .local)(hsg:∀ σ,Z.sg σ)(hst:X.stack=X.env::X.outer)(hfr:X.env.frame=some X.env.locals)
  (hB:∀ E' pn φ' H' sg' xw',(∀ j∈asg,∀ σ v,sg' σ→sg' (σ.set j (some v)))→XOk (X.tr E' pn) ⟨Z.T,φ',H',sg',xw'⟩→QB (X.tr E' pn) ⟨Z.T,φ',H',sg',xw'⟩ body B)
  (hH:∀ e φ' H',QB (X.loud e) (Zf Z.T φ' H') (b₀::suite) Hn) (hdb:(d == ("__debug__":Str))=false:=by decide) :
  QS X Z (.Try body [.ExceptHandler (some (.Name d np)) (some n) (b₀::suite) hpos] [] [] pos) (Zfr sub i asg B Hn):=by
 obtain ⟨D,hd,hD,hDB,hsub⟩:=hK.ex
 refine ⟨fun pins s σ H Dn I ⟨φ,h,ρ,x,q⟩=>wpAny_Try_except ?_⟩
 obtain ⟨nmD,qnD,ND,bsD,bmD,hdD,snD,subD,abD,colD,ddD,a0,a1,a2,a3,a5,lkD⟩:=Zit hD
 refine wpAny_mono ((hB (fun v s₁=>wpAny (model X.prog X.w) X.A (noteFrame v X.env) (fun _ s₂=>wpAny (model X.prog X.w) X.A (setFlight v none) (fun _ s₃=>wpAny (model X.prog X.w) X.A (handleBy v X.env [.ExceptHandler (some (.Name d np)) (some n) (b₀::suite) hpos]) (SP X pins Dn) X.xe s₃) X.xe s₂) X.xe s₁) (X.pn++pins) φ H
  (fun σ'=>∀ j,j ∉ asg→σ'[j]? = σ[j]?) (fun w h1=>∃ c fs ws,w=.exc c fs ws∧sub c=true∧(Zfw i (Hn ((fgt asg ρ).set i (some w)) h1)).post Z φ H Dn) (fun j hj σ' v z j' hj'=>?_) ?_).ps [] s σ H Dn (Zrk I _) ⟨φ,h,ρ,⟨fun _ _=>rfl,Step.refl _ _,x.rh,x.rs⟩,?_⟩) (fun f s1 sp=>?_) fun v s1 z=>z
 ·rw [List.getElem?_set_ne (fun z'=>hj' (by rw [← z']; exact hj))]; exact z j' hj'
 ·rintro v s1 ⟨pins1,σ1,H1,e,cv,da,T1,φ1,h1,w,rfl,⟨I1,R,own⟩,sg1,st1,rh1,rx1,c,fs,ws,rfl,hs1,qp⟩
  replace I1:=ZdQ I.ok I1
  replace own:∀ b∈e::T1.toList,H1 b=none∧Zma X pins b:=fun b hb=>⟨(own b hb).1,(own b hb).2.1,(own b hb).2.2.1,(own b hb).2.2.2.1,fun p hp=>(own b hb).2.2.2.2 p (List.mem_append_left _ hp)⟩
  obtain ⟨C,vs,hTc,rfl,hfl,hrw,hda⟩:=rx1
  obtain ⟨hC,hCD⟩:=hsub c C hs1 hTc
  obtain ⟨nm,qn,N,bs,bm,hdc,sn,sb,ab,col,dd,k0,k1,k2,k3,k5,lkC⟩:=Zit hC
  show wpAny _ _ (noteFrame (.ref e) X.env) _ _ s1
  refine ZkL (base:=X.base) (by rw [← hst]; exact I1.ok.frames) (by rw [← hst]; exact I1.stack) hfr R fun g T2 r c1 nw=>?_
  have I2:=chg I1 (by rw [hst]; exact c1) own
  have own2:∀ b∈[e,T2],H1 b=none∧Zma X pins b:=fun b hb=>by
   rcases List.mem_cons.mp hb with rfl | hb
   ·exact own b List.mem_cons_self
   ·have hb:b=T2:=by simpa using hb
    subst hb
    rcases nw with nw | nw
    ·exact own b (by rw [nw]; simp)
    ·exact ⟨I1.hok.fresh nw,Zcu I1 (Heap.get?_none_of_le nw)⟩
  have ownT:∀ b∈[T2],H1 b=none∧Zma X pins b:=fun b hb=>own2 b (List.mem_cons_of_mem _ hb)
  refine Ze3 r fun g2 r2 c2=>?_
  have I3:=chg I2 (c2.mono (fun b z=>by cases z) fun b z=>z) ownT
  obtain ⟨oe,vv,he,hcls,hdi,hfd,hT2⟩:=id r2
  refine wpAny_handleBy_cons (codeAny_handlers_test (Zck (X:=X.loud e) (ZiP I3 e) hg hd ?_ hdb)) (by intro z; cases z)
  refine exm (I3.kIn _ _ lkC) (I3.kIn _ _ lkD) he hcls (Znb lkD hDB) (Znb lkC hCD) ?_
  refine codeAny_handlers_suite_as (Ze3 r2 fun g3 r3 c3=>?_)
  have I4:=chg I3 (c3.mono (fun b z=>by cases z) fun b z=>z) ownT
  obtain ⟨oe4,vv4,he4,hcls4,hdi4,hfd4,_⟩:=id r3
  have I5:=ZqQ (ho:=.ext (Zcx e C da)) I4 (own2 e (by simp)).1 (own2 e (by simp)).2 ⟨⟨oe4,vv4,he4,hcls4,hfd4,hdi4⟩,⟨oe4,he4⟩,fun h1 h2 ⟨o,us,a,b⟩ k=>⟨o,us,k o a,b⟩⟩
  have st5:=Zcg (φ:=φ1) (H:=H1) (ho:=.ext (Zcx e C da)) (own2 e (by simp)).1
  have rh5:=rh1.tmp (ho:=.ext (Zcx e C da)) (own2 e (by simp)).1
  have rwe:RW Z.T φ1 (upd H1 e (.ext (Zcx e C da))) (.exc c fs ws) (.ref e):=by
   unfold RW
   refine ⟨e,C,da,vs,rfl,rh1.fresh (own2 e (by simp)).1,hTc,ZaD,hfl,?_,hrw.step st5⟩
   cases da with
   | none=>exact hda
   | some d1=>exact ⟨hda.1,by rw [Zak (Zau hda.2 (own2 e (by simp)).1)]; exact hda.2⟩
  refine ZeC (X:=X.loud e) (v:=.ref e) (ZiP I5 e) hN hi (.inl hk) rfl (fun s6 I6=>?_) (.inr hk)
  have rs5:RS Z.T φ1 (upd H1 e (.ext (Zcx e C da))) ((fgt asg ρ).set i (some (.exc c fs ws))) (σ1.set i (some (.ref e))):=by
   refine RS.set ⟨?_,fun j w e1=>?_⟩ rwe
   ·rw [Zk2,x.rs.len,I.len,I1.len]
   ·obtain ⟨nj,e2⟩:=Zlk e1
    obtain ⟨v,a,b⟩:=x.rs.var j w e2
    exact ⟨v,by rw [sg1 j nj]; exact a,b.step (st1.trans st5)⟩
  refine wpAny_mono ((hH e φ1 (upd H1 e (.ext (Zcx e C da)))).ps pins s6 _ _ { nx:=fun σ' H'=>Dn.nx (σ'.set i none) H',rt:=Dn.rt,bk:=fun σ' H'=>Dn.bk (σ'.set i none) H',ct:=fun σ' H'=>Dn.ct (σ'.set i none) H' } I6 ⟨φ1,h1,_,⟨trivial,Step.refl _ _,rh5,rs5⟩,?_⟩) (fun f s7 sp=>?_) fun _ _ z=>z.elim
  ·cases e6:Hn ((fgt asg ρ).set i (some (.exc c fs ws))) h1 with
   | nx ρ' h2=>rw [e6] at qp; exact fun φ' H' σ' s r rs _=>qp φ' H' _ (st1.trans (st5.trans s)) r (Zgc rs) (hsg _)
   | bk ρ' h2=>rw [e6] at qp; exact fun φ' H' σ' s r rs _=>qp φ' H' _ (st1.trans (st5.trans s)) r (Zgc rs) (hsg _)
   | ct ρ' h2=>rw [e6] at qp; exact fun φ' H' σ' s r rs _=>qp φ' H' _ (st1.trans (st5.trans s)) r (Zgc rs) (hsg _)
   | rt w h2=>rw [e6] at qp; exact Kv.step qp (st1.trans st5)
   | ex w h2=>rw [e6] at qp; exact qp.elim
   | no=>rw [e6] at qp; exact qp.elim
  ·show wpAny _ X.A (do bindName X.env n .none; unbindBehindTheSuite X.env n hpos) _ _ s7
   cases f with
   | next=>obtain ⟨σ',H',J,z⟩:=sp; exact Zgw (ZcP I.ok J) hN hi hk fun s8 J8=>⟨_,H',J8,z⟩
   | brk=>obtain ⟨σ',H',J,z⟩:=sp; exact Zgw (ZcP I.ok J) hN hi hk fun s8 J8=>⟨_,H',J8,z⟩
   | cont=>obtain ⟨σ',H',J,z⟩:=sp; exact Zgw (ZcP I.ok J) hN hi hk fun s8 J8=>⟨_,H',J8,z⟩
   | ret u=>obtain ⟨v,σ',H',J,rv,z⟩:=sp; exact Zgw (ZcP I.ok J) hN hi hk fun s8 J8=>⟨v,_,H',J8,rv,z⟩
 ·unfold Zfr at q
  cases e1:B ρ h with
  | nx ρ' h'=>rw [e1] at q; exact fun φ' H' σ' s r rs _=>q φ' H' σ' s r rs (hsg _)
  | bk ρ' h'=>rw [e1] at q; exact fun φ' H' σ' s r rs _=>q φ' H' σ' s r rs (hsg _)
  | ct ρ' h'=>rw [e1] at q; exact fun φ' H' σ' s r rs _=>q φ' H' σ' s r rs (hsg _)
  | rt w h'=>rw [e1] at q; exact q
  | no=>rw [e1] at q; exact q
  | ex w h'=>
   rw [e1] at q
   dsimp only at q
   cases w with
   | exc c fs ws=>
    dsimp only at q
    cases hs:sub c with
    | false=>rw [hs] at q; exact q.elim
    | true=>rw [hs] at q; exact ⟨c,fs,ws,rfl,hs,q⟩
   | _=>exact q.elim
 ·cases f with
  | next=>obtain ⟨σ',H',J,z⟩:=sp; exact wpAny_execs_nil ⟨σ',H',ZdQ I.ok J,z⟩
  | brk=>obtain ⟨σ',H',J,z⟩:=sp; exact ⟨σ',H',ZdQ I.ok J,z⟩
  | cont=>obtain ⟨σ',H',J,z⟩:=sp; exact ⟨σ',H',ZdQ I.ok J,z⟩
  | ret u=>obtain ⟨v,σ',H',J,rv,z⟩:=sp; exact ⟨v,σ',H',ZdQ I.ok J,rv,z⟩
end
end M
namespace M
open PySem PySem.Spec PyProof.Rows L2
structure ExcTy (K:PySem.W.Frag)(C:Addr):Prop where
 ga:PySem.W.findIn K (.ref C) "__getattribute__"=some (some (.builtin "BaseException.__getattribute__"))
 gh:PySem.W.findIn K (.ref C) "__getattr__"=some none
 bx:PySem.W.mroIn K C (.type "BaseException")=some true
 ha:PySem.W.findIn K (.ref C) "__class__"=some (some (.builtin "object.__class__"))
 hn:PySem.W.specialIn K (.builtin "object.__class__") "__get__"=some (some (.builtin "getset_descriptor.__get__"))
 htk:PySem.W.takesIn K (.builtin "object.__class__")=some true
 hm:PySem.W.mroIn K C (.type "object")=some true
section
variable {prog:Program} {w:World} {A:Around} {E:Value→Shared→Prop} {s:Shared} {K:PySem.W.Frag} {x C:Addr} {ox:Obj} {odo:Option Obj} {name:Str}
def Zup (prog:Program)(w:World)(A:Around)(x C:Addr)(Q:Value→Shared→Prop)(s:Shared):Builtin.ObjectAttr.Found→Prop
 | .value v=>wpAny (model prog w) A (handedOut v) Q (fun _ _=>False) s
 | .bind g a=>wpAny (model prog w) A.in1 (call g [a,.ref x,.ref C]) (fun v s'=>wpAny (model prog w) A (handedOut v) Q (fun _ _=>False) s') (fun _ _=>False) s
 | .missing=>False
theorem Znm {fill expr:Bool}{tk:Tok}{Q:Value→Shared→Prop}{r:Builtin.ObjectAttr.Found}(X:K.In s.heap)(I:PySem.W.InstAt s.heap x ox C odo)(Z:ExcTy K C)(hf:PySem.W.findObj K C odo name=some r)(h:Zup prog w A x C Q s r) :
  wpAny (model prog w) A (getAttrBy (.ref x) (.str name tk) fill expr) Q E s:=by
 obtain ⟨hh,g,d,t,os⟩:=s
 have L0:=I.type (M:=model prog w)
 have L1:=PySem.W.looks_findIn (M:=model prog w) X Z.ga
 have L2:=PySem.W.looks_findIn (M:=model prog w) X Z.gh
 have L3:=PySem.W.looks_mroIn (M:=model prog w) X Z.bx
 unfold getAttrBy
 refine wpAny_holding (wpAny_bind (L0.at (wpAny_bind (L1.at ?_))))
 have hne:(Value.builtin "BaseException.__getattribute__" == Value.builtin "object.__getattribute__")=false:=by decide +kernel
 simp only [hne,Bool.and_false,Bool.false_eq_true,if_false]
 unfold getAttrByItsOwn hookBefore
 have ht:onTheHeap (Value.ref C)=true:=rfl
 simp only [ht,if_true]
 refine wpAny_bind (L2.at (wpAny_bind (wpAny_attempt (wpAny_holding ?_))))
 unfold callGetattribute
 have hfe:(expr && onTheHeap (Value.builtin "BaseException.__getattribute__"))=false:=by cases expr <;> rfl
 simp only [hfe,Bool.false_eq_true,if_false]
 unfold boundAndCalled
 rw [PySem.F.attr_ValueError.ga.bind]
 refine wpAny_bind (wpAny_pure (wpAny_call (codeAny_call_builtin PySem.F.attr_ValueError.ga.plain PySem.F.entry_bexc_ga ?_)))
 have hk:builtinKind "BaseException.__getattribute__"=some .slot:=by decide +kernel
 have hsplit:splitId "BaseException.__getattribute__"=some ("BaseException","__getattribute__"):=by decide +kernel
 have ha:=PySem.F.args_bexc_ga (.ref x) (.str name tk)
 simp only [checkBuiltinCall,hk,hsplit]
 refine wpAny_bind ((L0.andThen L3).at ?_)
 have L4:=PySem.W.looks_find (M:=model prog w) X I hf
 have e1:=I.at_
 have e2:=I.cls
 dsimp only at e1
 repeat (any_goals (first | assumption | (with_reducible refine wpAny_loadPart_at e1 ?_; rw [e2]; refine wpAny_pure ?_; refine wpAny_bind (L4.at ?_)) | wp_step))
 cases r with
 | value v=>exact wpAny_pure (wpAny_mono h (fun _ _ z=>z) fun _ _ z=>z.elim)
 | missing=>exact h.elim
 | bind g a=>
  show wpAny _ _ (holding [a] (call g [a,.ref x,.ref C]) >>= ret) _ _ _
  exact wpAny_bind (wpAny_holding (wpAny_mono h (fun v s' z=>wpAny_pure (wpAny_mono z (fun _ _ q=>q) fun _ _ q=>q.elim)) fun _ _ z=>z.elim))
theorem Zlg {Q:Option Value→Shared→Prop}(X:K.In s.heap)(I:PySem.W.InstAt s.heap x ox C odo)(Z:ExcTy K C)(h:Q (some (.ref C)) { s with toks:=s.toks+1 }):wpAny (model prog w) A (getAttr? (.ref x) "__class__") Q E s:=by
 obtain ⟨hh,g,d,t,os⟩:=s
 have hc:(PySem.W.clsIn K C).isSome=true:=by
  cases q:PySem.W.clsIn K C with
  | some cd=>rfl
  | none=>have:=Z.hm; unfold PySem.W.mroIn at this; rw [q] at this; cases this
 obtain ⟨cd,hc⟩:=Option.isSome_iff_exists.mp hc
 have hf:PySem.W.findObj K C odo "__class__"=some (.bind (.builtin "getset_descriptor.__get__") (.builtin "object.__class__")):=by
  unfold PySem.W.findObj
  rw [hc,Option.bind_some,Z.ha,Option.bind_some]
  simp [Z.hn,Z.htk]
 unfold getAttr? getAttrBy?
 refine wpAny_bind (wpAny_mkText (wpAny_bind (wpAny_attempt (Znm (s:=⟨hh,g,d,t+1,os⟩) X I Z hf (wpAny_call (PySem.W.class_get (s:=⟨hh,g,d,t+1,os⟩) (od:=odo) X I Z.hm ?_))))))
 exact PySem.W.handed_on rfl (wpAny_pure h)
def ZtN (e C:Addr)(odo:Option Obj)(h:Heap):Prop:=∃ ox,PySem.W.InstAt h e ox C odo
theorem ZlU {odo:Option Obj}(Z:ExcTy K C):PySem.W.KitX K (.ref x) (.ref C) (ZtN x C odo) where
 ty:=fun _ _ _ ⟨_,I⟩=>I.type
 it:=fun _ _ X _=>by
  cases q:K.lookup C with
  | none=>have:=Z.hm; unfold PySem.W.mroIn PySem.W.clsIn at this; rw [q] at this; cases this
  | some o=>
   obtain ⟨oc,od,dt,sl⟩:=o
   cases dt with
   | cls cd=>
    intro A' Q' E' s' k z
    unfold isType loadHead
    exact wpAny_bind (wpAny_loadPart (k _ _ (X _ _ q)) (wpAny_pure z))
   | _=>have:=Z.hm; unfold PySem.W.mroIn PySem.W.clsIn at this; rw [q] at this; cases this
 ne:=fun h tp dd its n sl X htp=>by
  refine Bool.eq_false_iff.mpr fun z=>?_
  have e:C=tp:=Value.ref.inj (beq_iff_eq.mp z)
  subst e
  cases q:K.lookup C with
  | none=>have:=Z.hm; unfold PySem.W.mroIn PySem.W.clsIn at this; rw [q] at this; cases this
  | some o=>
   have e2:=(X _ _ q).symm.trans htp
   cases e2
   have:=Z.hm; unfold PySem.W.mroIn PySem.W.clsIn at this; rw [q] at this; cases this
 ca:=fun X ⟨_,I⟩ k=>Zlg X I Z k
end
end M
namespace M
open PySem PySem.Spec PyProof.Rows L2
inductive TyX (K:PySem.W.Frag) (H:Hp):V→Value→Prop where
 | of {v:V} {t:Value} (h:TyOf K H v t):TyX K H v t
 | exc {e C:Addr} {d:Option Addr} (h:H e=some (.ext (Zcx e C d))) (hd:∀ da,d=some da→∃ o,H da=some o) (Z:ExcTy K C):TyX K H (.ref e) (.ref C)
def Zud (K:PySem.W.Frag)(H:Hp)(t:Value)(b:Bool)(c:V):Prop:=(∃ cv,Znf c cv∧PySem.W.kitOne K t cv=some b)∨∃ p vs cvs,c=.ref p∧H p=some (.tup vs)∧Paired Znf vs cvs∧PySem.W.kitAny K t cvs=some b
def Zod (K:PySem.W.Frag):List V→Hp→VK→Prop:=fun xs H Q=>∃ y c t b,xs=[y,c]∧TyX K H y t∧Zud K H t b c∧Q (.bl b) H
section
variable {X:Cx}
theorem ZiK {c:V}{cv u:Value}(h:Znf c cv)(r:RelV c u):u=cv:=by
 cases c <;> simp only [Znf] at h <;> first | (subst h; exact r) | exact h.elim
theorem Ziy:∀ {vs:List V} {cvs us:List Value},Paired Znf vs cvs→Vals vs us→us=cvs
 | _,_,_,.nil,.nil=>rfl
 | _,_,_,.cons h t,.cons r q=>by rw [ZiK h r,Ziy t q]
theorem ZpO {pins:List (Addr×Obj)}{σ:St}{H:Hp}{s:Shared}(I:Inv X pins σ H s){e C:Addr}{d:Option Addr}(h:H e=some (.ext (Zcx e C d)))(hd:∀ da,d=some da→∃ o,H da=some o):∃ odo,ZtN e C odo s.heap:=by
 obtain ⟨⟨o,vs,a,b,c,dd⟩,_⟩:=(show ObjOk X.prog X.w H s.heap e (.ext (Zcx e C d)) from I.hok e _ h)
 have no:PySem.W.notCls o=true:=by unfold PySem.W.notCls; rw [c]
 cases d with
 | none=>exact ⟨none,o,a,b,no,by rw [dd]; trivial⟩
 | some da=>
  obtain ⟨ho,q⟩:=hd da rfl
  obtain ⟨ob,q2⟩:=Zg1 I.hok q
  exact ⟨some ob,o,a,b,no,by rw [dd]; exact q2⟩
theorem Zas (K:PySem.W.Frag)(hK:X.K=K):CallR X (.builtin "isinstance") (Zod K):=by
 subst hK
 intro pins s σ H xs us Q I r h
 obtain ⟨y,c,t,b,rfl,ty,ca,q⟩:=h
 cases r with
 | cons r1 r2=>
  cases r2 with
  | cons r2 r3=>
   cases r3
   rename_i u1 u2
   have fin:∀ tk,EP X pins σ Q (.bool b) { s with toks:=tk }:=fun tk=>⟨.bl b,H,I.tok tk,rfl,q⟩
   have go:∀ (T:Value) (Hx:Heap→Prop),PySem.W.KitX X.K u1 T Hx→Hx s.heap→T=t→u1≠.builtin "__main__.__loader__#opaque"→wpAny (model X.prog X.w) X.A (call (.builtin "isinstance") [u1,u2]) (EP X pins σ Q) X.xe s:=by
    intro T Hx kx hx et ne
    subst et
    rcases ca with ⟨cv,hc,hk⟩ | ⟨p,vs,cvs,rfl,hp,hv,hk⟩
    ·rw [ZiK hc r2]
     exact PySem.W.kia_one kx I.kIn hx hk ne fin
    ·obtain rfl:u2=Value.ref p:=r2
     obtain ⟨_,its,rv,⟨o,h1,h2,n,h3⟩⟩:=(show ObjOk X.prog X.w H s.heap p (.tup vs) from I.hok p _ hp)
     obtain ⟨oc,od,dt,sl⟩:=o
     dsimp only at h2 h3
     subst h2 h3
     have:=Ziy hv rv
     subst this
     exact PySem.W.kia_tup kx I.kIn hx h1 hk ne fin
   cases ty with
   | exc h hd Z=>
    rename_i e C d
    obtain ⟨odo,hx⟩:=ZpO I h hd
    cases (show u1=Value.ref e from r1)
    exact go _ _ (ZlU Z) hx rfl (fun z=>nomatch z)
   | of h=>
    cases h with
    | non=>cases (show u1=Value.none from r1); exact go _ _ PySem.W.kitx_none True.intro rfl (fun z=>nomatch z)
    | bl y=>cases (show u1=Value.bool y from r1); exact go _ _ PySem.W.kitx_bool True.intro rfl (fun z=>nomatch z)
    | int i=>obtain ⟨t,q⟩:=(show ∃ t,u1=Value.int i t from r1); cases q; exact go _ _ PySem.W.kitx_int True.intro rfl (fun z=>nomatch z)
    | str y=>obtain ⟨t,q⟩:=(show ∃ t,u1=Value.str y t from r1); cases q; exact go _ _ PySem.W.kitx_str True.intro rfl (fun z=>nomatch z)
    | flt y=>obtain ⟨t,q⟩:=(show ∃ t,u1=Value.float y t from r1); cases q; exact go _ _ PySem.W.kitx_float True.intro rfl (fun z=>nomatch z)
    | @lst a xs ea=>
     cases (show u1=Value.ref a from r1)
     obtain ⟨_,_,n,_,h1⟩:=(show ObjOk X.prog X.w H s.heap a (.lst xs) from I.hok a _ ea)
     exact go _ _ PySem.W.kitx_list ⟨_,h1,rfl⟩ rfl (fun z=>nomatch z)
    | @frz a ob xs ea=>
     cases (show u1=Value.ref a from r1)
     obtain ⟨_,_,_,n,_,h1⟩:=(show ObjOk X.prog X.w H s.heap a (.frz ob (.lst xs)) from I.hok a _ ea)
     exact go _ _ PySem.W.kitx_list ⟨_,h1,rfl⟩ rfl (fun z=>nomatch z)
    | @tup a xs ea=>
     cases (show u1=Value.ref a from r1)
     obtain ⟨_,_,_,p⟩:=(show ObjOk X.prog X.w H s.heap a (.tup xs) from I.hok a _ ea)
     obtain ⟨o,h1,h2,_⟩:=p
     exact go _ _ PySem.W.kitx_tuple ⟨o,h1,h2⟩ rfl (fun z=>nomatch z)
    | @dK a kvs ea=>
     cases (show u1=Value.ref a from r1)
     obtain ⟨_,_,vs,_,p⟩:=(show ObjOk X.prog X.w H s.heap a (.dK kvs) from I.hok a _ ea)
     obtain ⟨o,es,ep,h1,h2,_⟩:=p
     exact go _ _ PySem.W.kitx_dict ⟨o,h1,h2.1⟩ rfl (fun z=>nomatch z)
    | @dT a kvs ea=>
     cases (show u1=Value.ref a from r1)
     obtain ⟨_,_,xs,_,o,es,ep,h1,h2,_⟩:=(show ObjOk X.prog X.w H s.heap a (.dT kvs) from I.hok a _ ea)
     exact go _ _ PySem.W.kitx_dict ⟨o,h1,h2.1⟩ rfl (fun z=>nomatch z)
    | @ins a C dx fs ea cl ha hn htk hm=>
     cases (show u1=Value.ref a from r1)
     obtain ⟨mA,O,_⟩:=Zgy I.hok ea
     obtain ⟨od,J,_⟩:=O.look
     exact go _ _ (PySem.W.kitx_own (cl.get _) cl.hd ha hn htk hm) J rfl (fun z=>nomatch z)
end
def tyX (h:Mem):W→Option Ty
 | .exc c _ _=>some (.inr c)
 | w=>tyN h w
def Zfp:W→Option Ty
 | .cls c=>some (.inr c)
 | .ty n=>some (.inl n)
 | _=>none
def ZeG (kit:Kit)(t:Ty):List W→Option Bool
 | []=>some false
 | w::r=>(Zfp w).bind fun cn=>(kit.get t cn).bind fun b=>(ZeG kit t r).bind fun b2=>some (b || b2)
def ZdZ (kit:Kit)(h:Mem):List W→Option W
 | [w,.ty n]=>(tyX h w).bind fun t=>(kit.get t (.inl n)).map .bl
 | [w,.cls c]=>(tyX h w).bind fun t=>(kit.get t (.inr c)).map .bl
 | [w,.tup (c::cs)]=>(tyX h w).bind fun t=>(ZeG kit t (c::cs)).map .bl
 | _=>none
def ZmC (K:PySem.W.Frag)(T:CTb):Prop:=∀ c C,T.x c=some C→T c=none∧ExcTy K C
theorem Zks {T:CTb}{φ:List Addr}{H:Hp}{w:W}{v:V}{cn:Ty}(e:Zfp w=some cn)(r:RW T φ H w v){cv:Value}(h:TV T cn cv):Znf v cv:=by
 cases w with
 | cls c=>
  cases e
  unfold RW at r
  obtain ⟨C,a,rfl⟩:=r
  obtain ⟨C',b,rfl⟩:=h
  rw [a] at b; cases b; rfl
 | ty n=>
  cases e
  unfold RW at r
  subst r
  exact h
 | _=>cases e
theorem Zjz {K:PySem.W.Frag}{T:CTb}{kit:Kit}(hk:ZmB K T kit){t:Ty}{tv:Value}(ht:∀ tv',TV T t tv'→tv'=tv){φ:List Addr}{H:Hp}:∀ {ws:List W} {vs:List V} {b:Bool},ZeG kit t ws=some b→RWs T φ H ws vs→∃ cvs,Paired Znf vs cvs∧PySem.W.kitAny K tv cvs=some b
 | [],vs,b,e,r=>by
  unfold RWs at r
  subst r
  cases e
  exact ⟨[],.nil,rfl⟩
 | w::ws,vs,b,e,r=>by
  unfold RWs at r
  obtain ⟨v,vr,rfl,r1,r2⟩:=r
  unfold ZeG at e
  rw [Option.bind_eq_some_iff] at e
  obtain ⟨cn,hw,e⟩:=e
  rw [Option.bind_eq_some_iff] at e
  obtain ⟨b0,g,e⟩:=e
  rw [Option.bind_eq_some_iff] at e
  obtain ⟨b2,g2,e⟩:=e
  cases e
  obtain ⟨tv',cv,h1,h2,h3⟩:=hk _ (Kit.mem g)
  rw [ht tv' h1] at h3
  obtain ⟨cvs,p,q⟩:=Zjz hk ht (ws:=ws) g2 r2
  refine ⟨cv::cvs,.cons (Zks hw r1 h2) p,?_⟩
  unfold PySem.W.kitAny
  rw [h3]
  cases b0 with
  | true=>rfl
  | false=>simpa using q
theorem ZmZ {K:PySem.W.Frag}{T:CTb}(hI:Zfo K T)(hE:ZmC K T){φ:List Addr}{H:Hp}{h:Mem}{w:W}{v:V}{t:Ty}(r:RH T φ h H)(x:RW T φ H w v)(e:tyX h w=some t){tv:Value}(ht:TV T t tv):TyX K H v tv:=by
 cases w with
 | exc c fs ws=>
  cases e
  unfold RW at x
  obtain ⟨p,C,d,vs,rfl,_,c1,c2,_,c3,_⟩:=x
  obtain ⟨C',c4,rfl⟩:=ht
  obtain ⟨n1,Z⟩:=hE c C c1
  have:T.any c=some C:=by unfold CTb.any; rw [show T.t c=none from n1]; dsimp only; rw [c1]
  rw [this] at c4; cases c4
  refine .exc c2 (fun da z=>?_) Z
  subst z
  exact ⟨_,c3.2⟩
 | _=>exact .of (Zqe hI r x e ht)
theorem Zq4 {T:CTb}{t:Ty}{a b:Value}(h:TV T t a)(k:TV T t b):b=a:=by
 cases t with
 | inl n=>rw [show a=.type n from h,show b=.type n from k]
 | inr c=>
  obtain ⟨C,x,rfl⟩:=h
  obtain ⟨C',y,rfl⟩:=k
  rw [x] at y; cases y; rfl
theorem ZaR {K:PySem.W.Frag}{T:CTb}{kit:Kit}(hI:Zfo K T)(hE:ZmC K T)(hk:ZmB K T kit):CbW T (ZdZ kit) (Zod K):=by
 intro φ h H ws vs w Q r x e k
 have one:∀ (a:W) (u cv0:V) (cn:Ty),(tyX h a).bind (fun t=>(kit.get t cn).map W.bl)=some w→RW T φ H a u→(∀ cv,TV T cn cv→Znf cv0 cv)→Zod K [u,cv0] H Q:=by
  intro a u cv0 cn e ra hc
  rw [Option.bind_eq_some_iff] at e
  obtain ⟨t,q,e⟩:=e
  rw [Option.map_eq_some_iff] at e
  obtain ⟨b,e1,rfl⟩:=e
  obtain ⟨tv,cv,h1,h2,h3⟩:=hk _ (Kit.mem e1)
  exact ⟨u,cv0,tv,b,rfl,ZmZ hI hE r ra q h1,.inl ⟨cv,hc cv h2,h3⟩,ZaN r Zjm k⟩
 unfold ZdZ at e
 split at e
 ·rename_i w1 n
  unfold RWs at x
  obtain ⟨v1,r1,rfl,x1,x2⟩:=x
  unfold RWs at x2
  obtain ⟨v2,r2,rfl,x3,x4⟩:=x2
  unfold RWs at x4; subst x4
  exact one _ _ _ (.inl n) e x1 fun cv h=>Zks rfl x3 h
 ·rename_i w1 n
  unfold RWs at x
  obtain ⟨v1,r1,rfl,x1,x2⟩:=x
  unfold RWs at x2
  obtain ⟨v2,r2,rfl,x3,x4⟩:=x2
  unfold RWs at x4; subst x4
  exact one _ _ _ (.inr n) e x1 fun cv h=>Zks rfl x3 h
 ·rename_i w1 c0 cs
  unfold RWs at x
  obtain ⟨v1,r1,rfl,x1,x2⟩:=x
  unfold RWs at x2
  obtain ⟨v2,r2,rfl,x3,x4⟩:=x2
  unfold RWs at x4; subst x4
  rw [Option.bind_eq_some_iff] at e
  obtain ⟨t,q,e⟩:=e
  rw [Option.map_eq_some_iff] at e
  obtain ⟨b,e1,rfl⟩:=e
  have e1':=e1
  unfold ZeG at e1
  rw [Option.bind_eq_some_iff] at e1
  obtain ⟨cn,hw,e1⟩:=e1
  rw [Option.bind_eq_some_iff] at e1
  obtain ⟨b0,g,_⟩:=e1
  obtain ⟨tv,cv,h1,_,_⟩:=hk _ (Kit.mem g)
  unfold RW at x3
  obtain ⟨p,us,rfl,_,hp,hrw⟩:=x3
  obtain ⟨cvs,pr,ka⟩:=Zjz hk (fun tv' z=>Zq4 h1 z) e1' hrw
  exact ⟨v1,_,tv,b,rfl,ZmZ hI hE r x1 q h1,.inr ⟨p,us,cvs,rfl,hp,pr,ka⟩,ZaN r Zjm k⟩
 ·cases e
end M
namespace M
open PySem PySem.Spec PyProof.Rows L2
def Zjr (n m:Nat)(B:Sm):Fm:=fun ws h=>bif decide (ws.length=n) then (match ZdA m B ws h with
 | .ok w h'=>bif decide (h.length≤h'.length) then .ok w h' else .no
 | .ex w h'=>bif decide (h.length≤h'.length) then .ex w h' else .no
 | .no=>.no) else .no
theorem Za5 {n m:Nat}{B:Sm}:ZlC n m B (Zjr n m B):=fun ws h wf lt=>by
 unfold Zjr
 cases hz:decide (ws.length=n) with
 | false=>exact .inl rfl
 | true=>
  dsimp only [cond_true]
  cases e:ZdA m B ws h with
  | no=>exact .inl rfl
  | ok w h'=>
   dsimp only
   cases hl:decide (h.length≤h'.length) with
   | false=>exact .inl rfl
   | true=>exact .inr ⟨of_decide_eq_true hz,ZhF (of_decide_eq_true hl)⟩
  | ex w h'=>
   dsimp only
   cases hl:decide (h.length≤h'.length) with
   | false=>exact .inl rfl
   | true=>exact .inr ⟨of_decide_eq_true hz,Znx (of_decide_eq_true hl)⟩
theorem Zbd {n m:Nat}{B:Sm}{ws:List W}{h h':Mem}{w:W}(hl:ws.length=n)(e:ZdA m B ws h=.ok w h')(hk:h.length≤h'.length):Zjr n m B ws h=.ok w h':=by
 unfold Zjr
 rw [decide_eq_true hl,e]
 simp [hk]
theorem Zbb {n m:Nat}{B:Sm}{ws:List W}{h h':Mem}{w:W}(hl:ws.length=n)(e:ZdA m B ws h=.ex w h')(hk:h.length≤h'.length):Zjr n m B ws h=.ex w h':=by
 unfold Zjr
 rw [decide_eq_true hl,e]
 simp [hk]
end M
namespace M
open PySem PySem.Spec PyProof.Rows L2
theorem Zcr {h:Mem}{n:Nat}{w:W}(f:ZaO w=true)(e:Zdg w w=true):eqM h n w w=some true:=by
 cases n <;> simp [eqM,f,e]
theorem Zfd {f:W→W→Option Bool}:∀ {ws:List W},(∀ w∈ws,f w w=some true)→Zjv f ws ws=some true
 | [],_=>rfl
 | w::r,h=>by
  unfold Zjv
  rw [h w List.mem_cons_self,Zfd fun u m=>h u (List.mem_cons_of_mem _ m)]
  rfl
theorem Zb0:∀ {w:W},ZaO w=true→Zdg w w=true:=by
 intro w h
 cases w <;> simp_all [ZaO,Zdg]
theorem eqM_tup {h:Mem}{n:Nat}{ws:List W}(hf:∀ w∈ws,ZaO w=true):eqM h (n+1) (.tup ws) (.tup ws)=some true:=by
 have:Zjv (eqM h n) ws ws=some true:=Zfd fun w m=>Zcr (hf w m) (Zb0 (hf w m))
 simp [eqM,ZaO,sq,this]
end M
namespace M
open PySem PySem.Spec PyProof.Rows L2
end M
namespace M
open PySem PySem.Spec PyProof.Rows L2
end M
namespace M
open PySem PySem.Spec PyProof.Rows L2
def Zm2 (K:PySem.W.Frag)(C:Addr):Bool:=match K.lookup C with
 | some ⟨.type "type",_,.cls cd,sl⟩=>(match cd.mro,sl.toList with
  | .ref C'::bm,[_,_,_,_,some (.builtin n),_]=>C' == C && (n == "ValueError.__new__" && (!cd.hasDel && PySem.W.tailIn K bmV bm))
  | _,_=>false)
 | _=>false
theorem ZhP {K:PySem.W.Frag}{h:Heap}{C:Addr}(X:K.In h)(q:Zm2 K C=true):∃ bm N nm qn bs hd sn sub ab col dd k0 k1 k2 k3 k5,h.get? C=some (excClassObj nm qn C N bs bm hd sn sub ab col dd k0 k1 k2 k3 k5 "ValueError.__new__")∧OwnTail h bmV bm:=by
 unfold Zm2 at q
 split at q
 ·rename_i dd cd sl ho
  split at q
  ·rename_i C' bm k0 k1 k2 k3 n k5 hm hs
   simp only [Bool.and_eq_true,beq_iff_eq,Bool.not_eq_true'] at q
   obtain ⟨rfl,rfl,hdel,ht⟩:=q
   obtain ⟨nm,bs,mro,ns,qn,hd,sn,sub,ab,col,del⟩:=cd
   dsimp only at hm hdel
   subst hm hdel
   obtain ⟨l⟩:=sl
   dsimp only at hs
   subst hs
   exact ⟨bm,ns,nm,qn,bs,hd,sn,sub,ab,col,dd,k0,k1,k2,k3,k5,X _ _ ho,PySem.W.tail_of_in X ht⟩
  ·cases q
 ·cases q
abbrev Zeg (us:List Value):Obj:={ cls:=.type "tuple",data:=.seq us.toArray }
abbrev ZbK (C t:Addr)(d:Option Addr):Obj:={ cls:=.ref C,dict:=d,data:=.fields #[.ref t,.none,.none,.none,.bool false,.none] }
section
variable {prog:Program} {w:World} {A:Around} {K:PySem.W.Frag} {C f:Addr} {R:Result→Shared→Prop} {h:Heap} {g:Array GenState} {d:Drawn} {t:Nat} {os:OsState}
theorem Zj5 {rest:List Value}(X:K.In h)(q:Zm2 K C=true)(hi:PySem.W.findIn K (.ref C) "__init__"=some (some (.ref f)))(hf:PySem.W.typeIn K (.ref f)=some (.type "function"))(hrest:rest.length≤sizeLine)
  (hq:codeAny (model prog w) (A.under (.builtin "type.__call__" ⟨.ref C::rest,[]⟩)) (.call (.ref f) ⟨.ref (h.objs.size+1)::rest,[]⟩) (PySem.W.InitBack (h.objs.size+1) R) ⟨(h.push (Zeg rest)).push (ZbK C h.objs.size none),g,d,t,os⟩) :
  codeAny (model prog w) A (.call (.ref C) ⟨rest,[]⟩) R ⟨h,g,d,t,os⟩:=by
 obtain ⟨bm,N,nm,qn,bs,hd,sn,sub,ab,col,dd,k0,k1,k2,k3,k5,hC,T⟩:=ZhP X q
 have F:=PySem.F.excBase_ValueError
 have f1:=tc_lookup
 have f2:=tc_bind (.ref C)
 have hT:(⟨h,g,d,t,os⟩:Shared).TypeIs (.ref C) "type":=⟨_,hC,rfl⟩
 refine codeAny_of_tree ?_
 show wpAny _ _ (callAny (.ref C) _) _ _ _
 repeat (any_goals (first | assumption | with_reducible refine wpAny_loadPart_at hC ?_ | wp_step))
 refine ⟨rfl,?_⟩
 refine codeAny_call_builtin_at (Code.quiet_builtin _ (by decide +kernel)) entry_typeCall (wpAny_check_type_call_sub hC ?_)
 repeat (first | with_reducible refine wpAny_loadPart_at hC ?_ | with_reducible refine wpAny_madeBy_exc hC ?_ | wp_step)
 refine codeAny_call_builtin_code (Code.quiet_builtin _ F.quiet) (wpAny_check_new_subT F T hC ?_)
 refine codeAny_exc_new_subT F T hC ?_ hrest
 show wpAny _ _ _ _ _ ⟨(h.push (Zeg rest)).push (ZbK C h.objs.size none),g,d,t,os⟩
 have k:∀ b o,h.get? b=some o→((h.push (Zeg rest)).push (ZbK C h.objs.size none)).get? b=some o:=fun b o e=>Heap.get?_push_of_some _ (Heap.get?_push_of_some _ e)
 have hC₁:=k _ _ hC
 have hget:((h.push (Zeg rest)).push (ZbK C h.objs.size none)).get? (h.objs.size+1)=some { cls:=.ref C,dict:=none,data:=.fields #[.ref h.objs.size,.none,.none,.none,.bool false,.none] }:=by heap_get
 have hcC:(Value.ref C::bm).contains (.ref C)=true:=by simp
 unfold isInstance
 repeat (first | with_reducible refine wpAny_loadPart_at hget ?_ | (refine wpAny_isSubtype_exc hC₁ ?_; rw [hcC]) | wp_step)
 show wpAny _ _ (typeLookup (.ref C) _) _ _ _
 refine ((PySem.W.looks_findIn X hi).keeps k).at ?_
 refine wpAny_holding (wpAny_bind (((PySem.W.bind_fn X _ hf).keeps k).at ?_))
 refine wpAny_bind (wpAny_call (codeAny_mono hq fun r s' z=>?_))
 rcases r with e | (v | _ | _ | _) <;> first | exact z | exact z.elim | skip
 obtain ⟨rfl,z⟩:=z
 exact wpAny_pure (wpAny_pure z)
end
section
variable {M:Model} {A:Around} {E:Value→Shared→Prop} {C:Addr} {env:Env} {nm q:Str} {N:Addr} {bs bm:List Value} {hdct:Bool} {sn:List Str} {sub:List Value} {ab:Bool} {col:Option Bool} {dd:Option Addr} {k0 k1 k2 k3 k5:Option Value} {newId:String}
theorem Zd4 {s:Shared}{x:Sem Value}{Q:Flow→Shared→Prop}(hbase:bm.contains (.type "BaseException")=true)(hh:A.handled=none)
  (h:wpAny M A x (fun v s₁=>∃ e t d,v=.ref e∧s₁.heap.get? C=some (excClassObj nm q C N bs bm hdct sn sub ab col dd k0 k1 k2 k3 k5 newId) ∧
   s₁.heap.get? e=some { cls:=.ref C,dict:=d,data:=.fields #[.ref t,.none,.none,.none,.bool false,.none] }∧E (.ref e) s₁) E s) :
  wpAny M A (raiseStmt env (some x) none) Q E s:=by
 have hcB:(Value.ref C::bm).contains (.type "BaseException")=true:=by rw [List.contains_cons,hbase,Bool.or_true]
 unfold raiseStmt
 refine wpAny_bind (wpAny_mono h (fun v s₁ h₁=>?_) fun _ _ x=>x)
 obtain ⟨e,t,d,rfl,hC,he,hE⟩:=h₁
 obtain ⟨hp,g,dr,tk,os⟩:=s₁
 repeat (first | with_reducible refine wpAny_loadPart_at he ?_ | with_reducible refine wpAny_loadPart_at hC ?_ | (with_reducible refine wpAny_isSubtype_exc hC ?_; rw [hcB]) | wp_step)
 exact wpAny_raiseNew_none hh hE
end
section
variable {prog:Program} {w:World} {A:Around} {E:Value→Shared→Prop} {K:PySem.W.Frag} {C e t0:Addr} {h:Heap} {g:Array GenState} {d:Drawn} {t:Nat} {os:OsState}
theorem Zld {us:List Value}{Q:Value→Shared→Prop}(X:K.In h)(q:Zm2 K C=true)(he:h.get? e=some (ZbK C t0 none))(hus:us.length≤sizeLine)
  (hq:∀ h' t',h'.get? e=some (ZbK C t' none)→(∀ b o,b≠e→h.get? b=some o→h'.get? b=some o)→Q .none ⟨h',g,d,t,os⟩) :
  wpAny (model prog w) A (call (.builtin "ValueError.__init__") (.ref e::us)) Q E ⟨h,g,d,t,os⟩:=by
 obtain ⟨bm,N,nm,qn,bs,hd,sn,sub,ab,col,dd,k0,k1,k2,k3,k5,hC,T⟩:=ZhP X q
 have F:=PySem.F.excBase_ValueError
 have he:h.get? e=some { cls:=.ref C,dict:=none,data:=.fields #[.ref t0,.none,.none,.none,.bool false,.none] }:=he
 have lt:e<h.objs.size:=Heap.lt_size he
 refine wpAny_call (codeAny_call_builtin F.init.plain F.initEntry (wpAny_check_init_subT F T hC he rfl ?_))
 wp_walk
 refine hq _ h.objs.size ?_ fun b o nb hb=>?_
 ·rw [Heap.get?_update_self _ (Heap.get?_push_of_some _ he) rfl]
  rfl
 ·rw [Heap.get?_update_other _ _ (Ne.symm nb)]
  exact Heap.get?_push_of_some _ hb
end
end M
namespace M
open PySem PySem.Spec PyProof.Rows L2 PySem.Builtin.ObjectAttr
def ZcK:List Value→Bool
 | .ref _::r=>ZcK r
 | l=>l == bmV
theorem Zgz:∀ {l:List Value},ZcK l=true→l=bmV∨∃ c r,l=.ref c::r∧ZcK r=true
 | [],e=>by cases (beq_iff_eq.mp (show (([]:List Value) == bmV)=true from e))
 | v::r,e=>by
  by_cases hv:∃ c,v=.ref c
  ·obtain ⟨c,rfl⟩:=hv
   exact .inr ⟨c,r,rfl,by unfold ZcK at e; exact e⟩
  ·have e':(v::r == bmV)=true:=by
    cases v <;> first | (unfold ZcK at e; exact e) | exact absurd ⟨_,rfl⟩ hv
   exact .inl (beq_iff_eq.mp e')
theorem Zhl (self:Value):∀ (n:Nat) {l:List Value},l.length≤n→ZcK l=true→refuseLoop self "__setattr__" l=pure ()
 | n,l,hn,e=>by
  rcases Zgz e with rfl | ⟨c,r,rfl,e'⟩
  ·exact PySem.F.store_ValueError.passes self
  ·rw [refuseLoop_ref]
   cases n with
   | zero=>simp at hn
   | succ n=>exact Zhl self n (by simpa using hn) e'
theorem ZjZ:∀ {l:List Value},ZcK l=true→l.contains (.type "object")=true
 | .ref c::r,e=>by rw [List.contains_cons,ZjZ (l:=r) (by unfold ZcK at e; exact e),Bool.or_true]
 | [],e=>by cases (beq_iff_eq.mp (show (([]:List Value) == bmV)=true from e))
 | v::r,e=>by
  by_cases hv:∃ c,v=.ref c
  ·obtain ⟨c,rfl⟩:=hv
   rw [List.contains_cons,ZjZ (l:=r) (by unfold ZcK at e; exact e),Bool.or_true]
  ·have e':(v::r == bmV)=true:=by
    cases v <;> first | (unfold ZcK at e; exact e) | exact absurd ⟨_,rfl⟩ hv
   rw [beq_iff_eq.mp e']; rfl
def Zlz (K:PySem.W.Frag)(C:Addr):Bool:=(PySem.W.clsIn K C).any fun cd=>ZcK cd.mro
section
variable {prog:Program} {w:World} {A:Around} {E:Value→Shared→Prop} {K:PySem.W.Frag} {C e t0:Addr} {s:Shared} {name:Str} {v:Value}
theorem Zoz {Q:Unit→Shared→Prop}(X:K.In s.heap)(he:s.heap.get? e=some (ZbK C t0 none))(hs:PySem.W.findIn K (.ref C) "__setattr__"=some (some (.builtin "object.__setattr__")))(hp:Zlz K C=true)
  (ht:PySem.W.takerIn K C name=some none) (hh:PySem.W.hasDictIn K C=true)
  (hq:∀ h' tk',h'.get? e=some (ZbK C t0 (some s.heap.objs.size))→h'.Ns1 s.heap.objs.size (fun y=>if y=name then some v else none)→(∀ b o,b≠e→s.heap.get? b=some o→h'.get? b=some o)→Q () { s with heap:=h',toks:=tk' }) :
  wpAny (model prog w) A (setAttr (.ref e) name v) Q E s:=by
 have J:PySem.W.InstAt s.heap e (ZbK C t0 none) C none:=⟨he,rfl,rfl,trivial⟩
 refine PySem.W.set_plain X J hs ?_
 obtain ⟨hp0,g,d,t,os⟩:=s
 have SF:=PySem.F.store_object
 obtain ⟨cd,hc,ho⟩:=PySem.W.any_some hp
 have ne:cd.mro.isEmpty=false:=by cases q:cd.mro with | nil=>rw [q] at ho; cases ho | cons _ _=>rfl
 have sub:PySem.W.Looks (model prog w) hp0 (isInstance (.ref e) (.type "object")) true:=J.type.andThen (PySem.W.looks_mroIn X (by unfold PySem.W.mroIn; rw [hc,Option.bind_some,if_neg (by rw [ne]; decide),ZjZ ho]))
 refine codeAny_call_builtin SF.slot.plain SF.entry (@PySem.W.check_slot (model prog w) _ _ ⟨hp0,g,d,t+1,os⟩ "object.__setattr__" "object" "__setattr__" (.ref e) [.str name t,v] [] _ SF.kind SF.split sub (SF.args (.ref e) (.str name t) v) ?_)
 obtain ⟨attr,ha,hr⟩:=Option.bind_eq_some_iff.mp ht
 have hm:PySem.W.Looks (model prog w) hp0 (mroOf (.ref C)) cd.mro:=(PySem.W.looks_clsIn X hc).andThen .now
 have L3:PySem.W.Looks (model prog w) hp0 (storeTaker? attr) none:=by
  cases attr with
  | none=>exact .now
  | some a=>
   obtain ⟨b,hb,hz⟩:=Option.map_eq_some_iff.mp hr
   refine (PySem.W.looks_takesIn X hb).andThen ?_
   cases b
   ·exact .now
   ·cases hz
 rw [PySem.W.osa_eq,refuse_eq]
 refine wpAny_bind (wpAny_bind (J.type.at (wpAny_bind (hm.at ?_))))
 rw [Zhl _ _ (Nat.le_refl _) ho]
 refine wpAny_pure (wpAny_bind (J.type.at (wpAny_bind ((PySem.W.looks_findIn X ha).at (wpAny_bind (L3.at ?_))))))
 obtain ⟨cd',hc',hd'⟩:=PySem.W.any_some hh
 show wpAny _ _ (storeInOwnDict (.ref e) (.ref C) (.str name t) name v _) _ _ _
 unfold storeInOwnDict ownDictForStores instanceDict
 have he:hp0.get? e=some { cls:=.ref C,dict:=none,data:=.fields #[.ref t0,.none,.none,.none,.bool false,.none] }:=he
 refine wpAny_bind (wpAny_pure (wpAny_bind (wpAny_bind (wpAny_loadPart_at he (wpAny_bind ((PySem.W.looks_clsIn X hc').at ?_))))))
 rw [hd']
 show wpAny _ _ (if (!true || !typeHasDict (.ref C))=true then pure none else do
   let d ← alloc { cls:=.type "dict",data:=.dict #[] }
   update e fun o=>{ cls:=o.cls,dict:=some d,data:=o.data,slots:=o.slots }
   dictMade (.ref C) e d) _ _ _
 rw [if_neg (by simp [typeHasDict])]
 have hx1:(hp0.push { cls:=.type "dict",data:=.dict #[] }).get? e=some { cls:=.ref C,dict:=none,data:=.fields #[.ref t0,.none,.none,.none,.bool false,.none] }:=Heap.get?_push_of_some _ he
 have hxs:e≠hp0.objs.size:=Nat.ne_of_lt (Heap.lt_size he)
 refine wpAny_bind (wpAny_alloc' (wpAny_bind (wpAny_update' hx1 (wpAny_pure ?_))))
 have hgd:((hp0.push { cls:=.type "dict",data:=.dict #[] }).update e fun o=>{ cls:=o.cls,dict:=some hp0.objs.size,data:=o.data,slots:=o.slots }).get? hp0.objs.size
   = some { cls:=.type "dict",data:=.dict #[] }:=
  (Heap.get?_update_ne _ _ _ _ hxs.symm).trans (Heap.get?_push_at rfl rfl)
 have hnd:((hp0.push { cls:=.type "dict",data:=.dict #[] }).update e fun o=>{ cls:=o.cls,dict:=some hp0.objs.size,data:=o.data,slots:=o.slots }).Ns hp0.objs.size (fun _=>none):=
  ⟨_,#[],_,hgd,rfl,fun e he=>absurd he (by simp),fun _=>rfl⟩
 show wpAny _ _ (storeInDict hp0.objs.size (.str name t) name v) _ _ _
 unfold storeInDict newKeyGuard
 refine wpAny_bind (wpAny_pure (wpAny_bind (wpAny_nsSet1 (Heap.Ns1.of_empty hnd) fun h' hn' hs=>?_)))
 obtain ⟨oD,esD,epD,hoD,hdD,hcD⟩:=hn'.count (PySem.Within.cons name v PySem.Within.nil)
 refine wpAny_bind (wpAny_lookBehind hoD (by rw [hdD]; exact pastItsLine_dict (Nat.le_trans hcD (by rw [List.length_cons,List.length_nil,sizeLine_eq]; omega))) ?_)
 refine wpAny_pure ?_
 refine hq h' _ ?_ hn' fun b ob hbx hb=>?_
 ·exact (hs.2 e hxs).trans (Heap.get?_update_self _ hx1 rfl)
 ·exact (hs.2 b (Nat.ne_of_lt (Heap.lt_size hb))).trans ((Heap.get?_update_ne _ _ _ _ hbx).trans (Heap.get?_push_of_some _ hb))
end
end M
namespace M
open PySem PySem.Spec PyProof.Rows L2
def Zg7 (e C:Addr)(d:Option Addr)(h:Heap):Prop:=∃ t,h.get? e=some (ZbK C t d)
theorem Zdw {e C:Addr}{d:Option Addr}:∀ h1 h2:Heap,Zg7 e C d h1→(∀ o,h1.get? e=some o→h2.get? e=some o)→Zg7 e C d h2:=fun _ _ ⟨t,he⟩ k=>⟨t,k _ he⟩
theorem ZlX {H:Hp}{e:Addr}{o:HO}(h:H e=some o):upd H e o=H:=by
 funext b; unfold upd; split
 ·rename_i z; subst z; exact h.symm
 ·rfl
section
variable {X:Cx} {pins:List (Addr×Obj)} {σ:St} {H:Hp} {s:Shared} {e:Addr}
theorem ZpM {φ:Heap→Prop}(I:Inv X pins σ (upd H e (.ext φ)) s)(he:H e=none):Inv X pins σ H s:=by
 have nn:∀ b,upd H e (.ext φ) b=none→H b=none:=fun b q=>by
  by_cases z:b=e
  ·subst z; exact he
  ·rwa [Zak z] at q
 have oo:∀ b u,upd H e (.ext φ) b=some u→u≠.ext φ→H b=some u:=fun b u q n=>by
  by_cases z:b=e
  ·subst z; rw [ZaD] at q; cases q; exact absurd rfl n
  ·rwa [Zak z] at q
 refine ⟨I.ok,I.os,I.bare,⟨I.base.keep,I.base.slot,fun b ob q n hx=>nn b (I.base.free b ob q n hx),I.base.there,fun b xs q=>oo b _ (I.base.tups b xs q) (by simp),fun b ob xs q=>oo b _ (I.base.frzs b ob xs q) (by simp),fun b ps q=>?_⟩,I.loc,I.cell,nn _ I.free,fun x c q=>nn _ (I.freeC x c q),fun p hp=>?_,fun b u q=>?_,I.len⟩
 ·obtain ⟨more,this⟩:=I.base.tbls b ps q
  exact ⟨more,oo b _ this (by simp)⟩
 ·obtain ⟨e1,n,ne',nf,d⟩:=I.pin p hp
  exact ⟨e1,nn _ n,ne',nf,d⟩
 ·have q':upd H e (.ext φ) b=some u:=by rw [Zak (Zau q he)]; exact q
  exact (I.hok b u q').stay (fun c v _ r=>r) (fun c r=>oo c _ r (by simp)) fun c xs r=>oo c _ r (by simp)
end
structure IniOk (K:PySem.W.Frag)(C:Addr)(F:Str):Prop where
 ei:Zm2 K C=true
 sa:PySem.W.findIn K (.ref C) "__setattr__"=some (some (.builtin "object.__setattr__"))
 ov:Zlz K C=true
 tk:PySem.W.takerIn K C F=some none
 hd:PySem.W.hasDictIn K C=true
structure BaseOk (K:PySem.W.Frag)(D:Addr):Prop where
 ex:∃ mc,PySem.W.specialIn K (.ref D) "__getattribute__"=some (some (.builtin "type.__getattribute__"))∧PySem.W.readsIn K D mc=true∧PySem.W.findCls K (.ref D) mc "__init__"=some (.val (.builtin "ValueError.__init__"))
def ZtO (C:Addr)(t:TA):TE:=fun σ H Q=>t σ H fun vs H1=>∃ e v,vs=[.ref e,v]∧H1 e=some (.ext (Zg7 e C none))∧Q .non H1
def ZtW (C:Addr)(F:Str)(ta tv:TE):TS:=fun D σ H=>tv σ H fun y H1=>ta σ H1 fun x H2=>∃ e,x=.ref e∧H2 e=some (.ext (Zg7 e C none)) ∧
 ∀ da,H2 da=none→da≠e→D.nx σ (upd (upd H2 e (.ext (Zg7 e C (some da)))) da (.xd [(F,y)]))
section
variable {X:Cx} {C D:Addr} {F c:Str} {e0:Expr} {es:List Expr} {t:TA} {ta tv:TE} {o value:Expr} {pos pos' apos p:Pos}
theorem Zqc {pl:Sem Bool}(hB:BaseOk X.K D)(hq:Zm2 X.K C=true)(hm:X.mg c=some (.ref D))(hg:Gl X c)(ha:PA X (e0::es) t)(hdb:(c == ("__debug__":Str))=false:=by decide)
  (hst:starEach (e0::es) X.env=(false,eval e0 X.env)::starEach es X.env:=by rfl) (hpl:(backTo pos (starEach es X.env)).any (·.1)=false:=by rfl)
  (hev:eval (.Call (.Attribute (.Name c p) "__init__" apos) (e0::es) [] pos) X.env=(do
   let ov ← eval (.Name c p) X.env
   standAt apos.atName
   let (f,first) ← holding [ov] (getMethod ov "__init__" pl)
   callWith pos f first (backTo pos (starEach (e0::es) X.env)) (backToKw pos (keywordEach [] X.env))):=by rfl):PE X (.Call (.Attribute (.Name c p) "__init__" apos) (e0::es) [] pos) (ZtO C t):=by
 intro pins s σ H Q I h
 obtain ⟨mc,h1,h2,h3⟩:=hB.ex
 refine PySem.W.methodCall_KW (pl:=pl) (Zck I hg hm ?_ hdb) hev
 refine PySem.W.method_cls I.kIn h1 (PySem.W.cls_value I.kIn h2 h3 rfl ?_)
 have hA:=ha pos pins _ σ H _ (I.tok (s.toks+1)) h
 rw [hst] at hA ⊢
 refine Calls.callWith_builtin (by show (false || (backTo pos (starEach es X.env)).any (·.1))=false; rw [hpl] <;> rfl) (Calls.evalArgs_plain ?_)
 refine thn hA fun us s2 ⟨vs,H2,I2,r,e,v,ev,ee,q2⟩=>?_
 subst ev
 obtain ⟨u1,u2,rfl,r1⟩:∃ u1 u2,us=[u1,u2]∧RelV (.ref e) u1:=by
  cases r with
  | cons r1 r2=>
   cases r2 with
   | cons r2 r3=>cases r3; exact ⟨_,_,rfl,r1⟩
 obtain rfl:u1=Value.ref e:=r1
 obtain ⟨⟨t0,he⟩,_,_⟩:=(show ObjOk X.prog X.w H2 s2.heap e (.ext (Zg7 e C none)) from I2.hok e _ ee)
 obtain ⟨hp,g,d,tk,os⟩:=s2
 refine Zld I2.kIn hq he (by rw [sizeLine_eq]; simp) fun h' t' he' k=>⟨.non,H2,?_,rfl,q2⟩
 have J:=I2.write (x:=e) (e:=e) (o:=.ext (Zg7 e C none)) (h':=h') (t':=tk) (by rw [ee]; trivial) (.inl rfl) (fun b u nb hb=>k b u nb hb) ⟨_,he'⟩ ⟨⟨t',he'⟩,⟨_,he'⟩,Zdw⟩
 rw [ZlX ee] at J
 exact J
theorem ZqP (hC:IniOk X.K C F)(ha:PE X o ta)(hv:PE X value tv)(hs:swapsWith value (some (.Attribute o F pos')) pos.line X.env=pure false:=by rfl):PS X (.Assign [.Attribute o F pos'] value pos) (ZtW C F ta tv):=by
 intro pins s σ H D I h
 refine plainObj_wpAny_Assign_Attribute (thn (hv pins s σ H _ I h) fun u s1 ⟨y,H1,I1,ry,q⟩=>thn (ha pins s1 σ H1 _ I1 q) fun ov s2 ⟨x,H2,I2,rx,e,ex,ee,q2⟩=>?_) hs
 subst ex
 obtain rfl:ov=Value.ref e:=rx
 obtain ⟨⟨t0,he⟩,_,_⟩:=(show ObjOk X.prog X.w H2 s2.heap e (.ext (Zg7 e C none)) from I2.hok e _ ee)
 refine Zoz I2.kIn he hC.sa hC.ov hC.tk hC.hd fun h' tk' he' hns k=>?_
 have fr:s2.heap.get? s2.heap.objs.size=none:=Heap.get?_none_of_le (Nat.le_refl _)
 have nH:H2 s2.heap.objs.size=none:=Ze4 I2.hok fr
 have nE:s2.heap.objs.size≠e:=Ne.symm (Nat.ne_of_lt (Heap.lt_size he))
 have J:=I2.write (x:=e) (e:=e) (o:=.ext (Zg7 e C (some s2.heap.objs.size))) (h':=h') (t':=tk') (by rw [ee]; trivial) (.inl rfl) (fun b u nb hb=>k b u nb hb) ⟨_,he'⟩ ⟨⟨t0,he'⟩,⟨_,he'⟩,Zdw⟩
 have J2:=ZqQ (e:=s2.heap.objs.size) (ho:=.xd [(F,y)]) J (by rw [Zak nE]; exact nH) (Zcu I2 fr) ⟨_,hns,fun f=>by
  show RelO (List.lookup f [(F,y)]) (if f=F then some u else none)
  by_cases z:f=F
  ·subst z; simp only [List.lookup,beq_self_eq_true,if_pos]; exact ry
  ·have:(f == F)=false:=beq_eq_false_iff_ne.mpr z
   simp only [List.lookup,this,if_neg z]; trivial⟩
 exact ⟨σ,_,J2,q2 _ nH nE⟩
end
def spI (C:Addr)(F:Str):Sp:=fun vs H Q _=>∃ e v,vs=[.ref e,v]∧H e=some (.ext (Zg7 e C none))∧∀ da,H da=none→da≠e→Q .non (upd (upd H e (.ext (Zg7 e C (some da)))) da (.xd [(F,v)]))
section
variable {P:Program} {w:World} {K:PySem.W.Frag} {mg:Str→Option Value} {base:Heap}
theorem ZqG {x qual a F z:Str}{st:Stmt}{f:Addr}{fd:FuncData}{C:Addr}(R:Fun K x qual st f fd)(S:FnScope ["self",a] ["self",a] (Zae st))
  (hb:∀ (cdv:Value) (A:Around) (outer:List Env) (s:Shared) (H:Hp) (E:XK),PSs (ZfS CX0 P w K mg base ["self",a] qual (Zae st) f cdv A outer s H E).nox (ZaZ st)
   (ZsV (Zqh (ZtO C (ZpH (ZqF 0) (ZpH (tC (.str z)) ZrR)))) (ZtW C F (ZqF 0) (ZqF 1)))):FnOk P w K mg base CX0 1 f fd ["self",a] (spI C F):=by
 refine R.ok S (fun vs H Q E h=>?_) (fun cdv A outer s H vs Q E hr h=>⟨_,hb cdv A outer s H E,?_⟩)
 ·obtain ⟨e,v,rfl,_⟩:=h
  rfl
 ·obtain ⟨e,v,rfl,he,q⟩:=h
  refine ⟨.ref e,rfl,e,.str z,rfl,he,v,rfl,.ref e,rfl,e,rfl,he,q⟩
end
section
variable {prog:Program} {w:World} {A:Around} {E:Value→Shared→Prop} {s:Shared} {env:Env} {C:Addr} {nm q:Str} {N:Addr} {bs bm:List Value} {hdct:Bool} {sn:List Str} {sub:List Value} {ab:Bool} {col:Option Bool} {dd:Option Addr} {k0 k1 k2 k3 k5:Option Value} {newId:String}
theorem ZhH {x:Str}{np cpos pos:Pos}{args:List Expr}{Q:Flow→Shared→Prop}(hbase:bm.contains (.type "BaseException")=true)(hh:A.handled=none)(hplain:(backTo cpos (starEach args env)).any (·.1)=false)
  (h:wpAny (model prog w) A (eval (.Name x np) env) (fun f s₁=>f=.ref C∧wpAny (model prog w) A (evalArgs (.ref C) true (backTo cpos (starEach args env)) [])
   (fun a s₂=>a.kw=[]∧s₂.heap.get? C=some (excClassObj nm q C N bs bm hdct sn sub ab col dd k0 k1 k2 k3 k5 newId) ∧
    wpAny (model prog w) A (call (.ref C) a.pos) (fun v s₃=>∃ e t d,v=.ref e∧s₃.heap.get? C=some (excClassObj nm q C N bs bm hdct sn sub ab col dd k0 k1 k2 k3 k5 newId)∧s₃.heap.get? e=some (ZbK C t d)∧E (.ref e) s₃) E s₂) E s₁) E s) :
  wpAny (model prog w) A (exec (.Raise (some (.Call (.Name x np) args [] cpos)) none pos) env) Q E s:=by
 rw [arm_exec_Raise]
 first
  | refine wpAny_bind (wpAny_standAt (Zd4 (C:=C) (nm:=nm) (q:=q) (N:=N) (bs:=bs) (bm:=bm) (hdct:=hdct) (sn:=sn) (sub:=sub) (ab:=ab) (col:=col) (dd:=dd) (k0:=k0) (k1:=k1) (k2:=k2) (k3:=k3) (k5:=k5) (newId:=newId) hbase hh (wpAny_bind (wpAny_mono (wpAny_Call_ofName (wpAny_mono h (fun f s₁ h₁=>?_) fun _ _ x=>x)) (fun v s₃ h₃=>wpAny_bind (wpAny_standAt (wpAny_pure h₃))) fun _ _ x=>x))))
  | (simp only [evalOpt,Option.map]; refine wpAny_bind (wpAny_standAt (Zd4 (C:=C) (nm:=nm) (q:=q) (N:=N) (bs:=bs) (bm:=bm) (hdct:=hdct) (sn:=sn) (sub:=sub) (ab:=ab) (col:=col) (dd:=dd) (k0:=k0) (k1:=k1) (k2:=k2) (k3:=k3) (k5:=k5) (newId:=newId) hbase hh (wpAny_bind (wpAny_mono (wpAny_Call_ofName (wpAny_mono h (fun f s₁ h₁=>?_) fun _ _ x=>x)) (fun v s₃ h₃=>wpAny_bind (wpAny_standAt (wpAny_pure h₃))) fun _ _ x=>x)))))
  | (refine wpAny_bind (wpAny_standAt (Zd4 (C:=C) (nm:=nm) (q:=q) (N:=N) (bs:=bs) (bm:=bm) (hdct:=hdct) (sn:=sn) (sub:=sub) (ab:=ab) (col:=col) (dd:=dd) (k0:=k0) (k1:=k1) (k2:=k2) (k3:=k3) (k5:=k5) (newId:=newId) hbase hh ?_)); refine wpAny_bind (wpAny_mono (wpAny_Call_ofName (wpAny_mono h (fun f s₁ h₁=>?_) fun _ _ x=>x)) (fun v s₃ h₃=>wpAny_bind (wpAny_standAt (wpAny_pure h₃))) fun _ _ x=>x))
 obtain ⟨rfl,h₁⟩:=h₁
 unfold callWith
 refine wpAny_bind (wpAny_holding (wpAny_mono h₁ (fun a s₂ h₂=>wpAny_bind (wpAny_standAt ?_)) fun _ _ x=>x))
 obtain ⟨apos,akw⟩:=a
 obtain ⟨hkw,hC,h₂⟩:=h₂
 obtain rfl:akw=[]:=hkw
 obtain ⟨hp,g,d,tk,os⟩:=s₂
 simp only [hplain]
 refine wpAny_bind (wpAny_keeperOf_exc hC ?_)
 exact wpAny_bind (wpAny_mono h₂ (fun v s₃ z=>wpAny_bind (wpAny_holding (wpAny_point (wpAny_pure z)))) fun _ _ z=>z)
end
def RzI (P:Program)(w:World)(K:PySem.W.Frag)(mg:Str→Option Value)(base:Heap)(T:CTb)(k:Nat)(c F:Str):Prop:=
 ∃ C f fd ps,T.x c=some C∧mg c=some (.ref C)∧Zm2 K C=true∧PySem.W.findIn K (.ref C) "__init__"=some (some (.ref f))∧PySem.W.typeIn K (.ref f)=some (.type "function")∧FnOk P w K mg base CX0 k f fd ps (spI C F)∧Binds K fd ps []
def ZaL (c F:Str)(f:Exs):Sm:=fun ρ h=>match f ρ h with
 | .ok [w] h1=>.ex (.exc c [F] [w]) h1
 | .ok _ _=>.no
 | .ex w h1=>.ex w h1
 | .no=>.no
section
variable {X:Cx} {Z:Zc} {fa:Exs} {c F:Str} {np cpos pos:Pos} {e:Expr} {es:List Expr} {kk j:Nat}
theorem ZjI (Rz:RzI X.prog X.w X.K X.mg X.base Z.T kk c F)(hr:Room j X.A)(hkj:kk+1≤j)(hx:XOk X Z)(hg:Gl X c)(ha:QA X Z (e::es) fa)(hdb:(c == ("__debug__":Str))=false:=by decide)(he:starEach (e::es) X.env=(false,eval e X.env)::starEach es X.env:=by rfl)
  (hpl:(backTo cpos (starEach es X.env)).any (·.1)=false:=by rfl) (hcl:X.calm=true:=by rfl):QS X Z (.Raise (some (.Call (.Name c np) (e::es) [] cpos)) none pos) (ZaL c F fa):=by
 obtain ⟨C,f,fd,ps,hT,hm,hq,hi,hf,Fk,hb⟩:=Rz
 refine ⟨fun pins s σ H D I ⟨φ,h,ρ,x,q⟩=>?_⟩
 obtain ⟨bm,N,nm,qn,bs,hd,sn,sub,ab,col,dd,k0,k1,k2,k3,k5,hC,Tl⟩:=ZhP I.ok.mod.kin hq
 have hps:=ha.pa cpos pins s σ H (fun vs H1=>∃ φ1 h1 w1 v1,vs=[v1]∧Here Z σ H1 φ1 h1 ρ∧RW Z.T φ1 H1 w1 v1∧Z.xw (.exc c [F] [w1]) h1) I ⟨φ,h,ρ,x,by
  unfold ZaL at q
  cases e1:fa ρ h with
  | no=>rw [e1] at q; exact q.elim
  | ex w h1=>rw [e1] at q; exact q
  | ok ws h1=>
   rw [e1] at q
   rcases ws with _ | ⟨w1,_ | ⟨w2,ws⟩⟩
   ·exact q.elim
   ·intro φ1 H1 vs s1 r1 rw1
    obtain ⟨v1,rfl,y⟩:=ZbJ rw1
    exact ⟨φ1,h1,w1,v1,rfl,x.step s1 r1,y,q⟩
   ·exact q.elim⟩
 refine ZhH (C:=C) (nm:=nm) (q:=qn) (N:=N) (bs:=bs) (bm:=bm) (hdct:=hd) (sn:=sn) (sub:=sub) (ab:=ab) (col:=col) (dd:=dd) (k0:=k0) (k1:=k1) (k2:=k2) (k3:=k3) (k5:=k5) (newId:="ValueError.__new__") (Tl.hasType PySem.F.excBase_ValueError.hasBase) (I.ok.hd hcl) (by rw [he]; show (false || (backTo cpos (starEach es X.env)).any (·.1))=false; rw [hpl]; rfl) (Zck I hg hm ⟨rfl,?_⟩ hdb)
 rw [he] at hps ⊢
 refine Calls.evalArgs_plain (thn hps fun us s2 ⟨vs,H2,I2,r,φ2,h2,w1,v1,ev,x2,rw1,xw⟩=>⟨rfl,I2.bk _ _ hC,?_⟩)
 subst ev
 obtain ⟨u1,rfl,ru⟩:=r.one
 obtain ⟨hp,g,d,tk,os⟩:=s2
 have I2':=I2
 have k:∀ b o,hp.get? b=some o→((hp.push (Zeg [u1])).push (ZbK C hp.objs.size none)).get? b=some o:=fun b o z=>Heap.get?_push_of_some _ (Heap.get?_push_of_some _ z)
 have hget:((hp.push (Zeg [u1])).push (ZbK C hp.objs.size none)).get? (hp.objs.size+1)=some (ZbK C hp.objs.size none):=by
  have:=Heap.get?_push_size (hp.push (Zeg [u1])) (o:=ZbK C hp.objs.size none) rfl
  rwa [Heap.size_push] at this
 have fr:hp.get? (hp.objs.size+1)=none:=Heap.get?_none_of_le (Nat.le_succ _)
 have nH:H2 (hp.objs.size+1)=none:=Ze4 I2.hok fr
 have I3:=I2.laid (a:=hp.objs.size+1) (o:=.ext (Zg7 (hp.objs.size+1) C none)) (h':=(hp.push (Zeg [u1])).push (ZbK C hp.objs.size none)) (t':=tk) k (Nat.le_succ _) ⟨⟨_,hget⟩,⟨_,hget⟩,Zdw⟩
 have r2:Vals [V.ref (hp.objs.size+1),v1] [Value.ref (hp.objs.size+1),u1]:=.cons rfl (.cons ru .nil)
 let Q':VK:=fun v H4=>v=.non∧∃ da,H2 da=none∧da≠hp.objs.size+1∧H4=upd (upd H2 (hp.objs.size+1) (.ext (Zg7 (hp.objs.size+1) C (some da)))) da (.xd [(F,v1)])
 have hsp:spI C F [V.ref (hp.objs.size+1),v1] (upd H2 (hp.objs.size+1) (.ext (Zg7 (hp.objs.size+1) C none))) Q' (fun _ _ _=>False):=
  ⟨hp.objs.size+1,v1,rfl,ZaD,fun da n1 n2=>⟨rfl,da,by rwa [Zak n2] at n1,n2,by rw [Zou]⟩⟩
 have hl:[Value.ref (hp.objs.size+1),u1].length=ps.length:=by rw [← r2.length]; exact Fk.len _ _ _ _ hsp
 refine wpAny_call (Zj5 (rest:=[u1]) I2.kIn hq hi hf (by rw [sizeLine_eq]; simp) (codeAny_mono (Fk.run _ X.stack _ _ ⟨[Value.ref (hp.objs.size+1),u1],[]⟩ [Value.ref (hp.objs.size+1),u1] _ Q' (fun _ _ _=>False) ((hr.mono hkj).make C [u1] []) (fun _=>I.ok.hd hcl)
  (I3.env0.make C [u1] []) (by have:=hb _ [Value.ref (hp.objs.size+1),u1] I3.kIn (by simpa using hl); simpa using this) r2 hsp) fun r s' hq'=>?_))
 cases r with
 | error e2=>exact hq'.elim
 | ok fl=>
  cases fl with
  | ret u=>
   obtain ⟨v,H',I4,rv,hv,da,n1,n2,rfl⟩:=I3.after hq'
   subst hv
   have eE:upd (upd H2 (hp.objs.size+1) (.ext (Zg7 (hp.objs.size+1) C (some da)))) da (.xd [(F,v1)])=upd (upd H2 da (.xd [(F,v1)])) (hp.objs.size+1) (.ext (Zg7 (hp.objs.size+1) C (some da))):=by
    funext b; unfold upd
    by_cases z1:b=da
    ·subst z1; simp [n2]
    ·by_cases z2:b=hp.objs.size+1
     ·subst z2; simp [Ne.symm n2]
     ·simp [z1,z2]
   rw [eE] at I4
   obtain ⟨⟨t0,he0⟩,_,_⟩:=(show ObjOk X.prog X.w _ s'.heap (hp.objs.size+1) (.ext (Zg7 (hp.objs.size+1) C (some da))) from I4.hok _ _ ZaD)
   have nE:upd H2 da (.xd [(F,v1)]) (hp.objs.size+1)=none:=by rw [Zak (Ne.symm n2)]; exact nH
   have I5:=ZpM I4 nE
   refine ⟨rv,hp.objs.size+1,t0,some da,rfl,I5.bk _ _ hC,he0,?_⟩
   have st:=Zcg (φ:=φ2) (H:=H2) (ho:=.xd [(F,v1)]) n1
   refine hx _ _ ⟨pins,σ,_,hp.objs.size+1,.ref C,some da,none,φ2,h2,.exc c [F] [w1],rfl,⟨I5,⟨_,_,he0,rfl,rfl,rfl,rfl⟩,fun b hb=>?_⟩,x2.sg,x2.st.trans st,x2.rh.tmp n1,⟨C,[v1],hT,rfl,rfl,?_,x2.rh.fresh n1,ZaD⟩,xw⟩
   ·have hb:b=hp.objs.size+1:=by simpa using hb
    subst hb
    exact ⟨nE,Zcu I2 fr⟩
   ·unfold RWs
    exact ⟨v1,[],rfl,rw1.step st,by unfold RWs; rfl⟩
  | next=>exact False.elim hq'
  | brk=>exact False.elim hq'
  | cont=>exact False.elim hq'
end
end M
namespace M
open PySem PySem.Spec PyProof.Rows L2
def ZtB (K:PySem.W.Frag)(T:CTb)(c nm:Str):Prop:=∀ C,T.x c=some C→ExcTy K C∧PySem.W.hasDictIn K C=true∧PySem.W.findIn K (.ref C) nm=some none
def xXf (c0 nm:Str)(f:Ex):Ex:=fun ρ h=>(f ρ h).bind fun a h1=>match a with
 | .exc c fs ws=>bif decide (c=c0) then (match (fs.zip ws).lookup nm with
  | some w=>.ok w h1
  | none=>.no) else .no
 | _=>.no
def tXf (K:PySem.W.Frag)(ta:TE)(nm:Str):TE:=fun σ H Q=>ta σ H fun x H1=>∃ e C d kvs v,x=.ref e∧H1 e=some (.ext (Zcx e C (some d)))∧H1 d=some (.xd kvs)∧ExcTy K C∧PySem.W.hasDictIn K C=true∧PySem.W.findIn K (.ref C) nm=some none∧kvs.lookup nm=some v∧Q v H1
theorem ZfT {T:CTb}{φ:List Addr}{H:Hp}{nm:Str}{w:W}:∀ {fs:List Str} {ws:List W} {vs:List V},RWs T φ H ws vs→(fs.zip ws).lookup nm=some w→∃ v,(fs.zip vs).lookup nm=some v∧RW T φ H w v
 | [],_,_,_,e=>by simp at e
 | f::fs,[],_,_,e=>by simp at e
 | f::fs,a::ws,vs,r,e=>by
  unfold RWs at r
  obtain ⟨v,vr,rfl,rv,rr⟩:=r
  rw [List.zip_cons_cons] at e ⊢
  by_cases z:nm=f
  ·subst z
   simp only [List.lookup,beq_self_eq_true] at e ⊢
   cases e
   exact ⟨v,rfl,rv⟩
  ·have:(nm == f)=false:=beq_eq_false_iff_ne.mpr z
   simp only [List.lookup,this] at e ⊢
   exact ZfT rr e
section
variable {X:Cx} {Z:Zc} {f:Ex} {o:Expr} {c0 nm:Str} {pos:Pos} {ta:TE}
theorem ZoU (he:PE X o ta)(hb:attributeBase o nm X.env (eval o X.env)=eval o X.env):PE X (.Attribute o nm pos) (tXf X.K ta nm):=by
 intro pins s σ H Q I h
 refine Zk9 hb (thn (he pins s σ H _ I h) fun u s1 ⟨x,H1,I1,rx,e,C,d,kvs,v,ex,ee,ed,hz,hh,ha,l,q⟩=>?_)
 subst ex
 obtain rfl:u=Value.ref e:=rx
 obtain ⟨⟨oe,vs,a,b,c,dd⟩,_⟩:=(show ObjOk X.prog X.w H1 s1.heap e (.ext (Zcx e C (some d))) from I1.hok e _ ee)
 obtain ⟨mA,hn,hr⟩:=(show ObjOk X.prog X.w H1 s1.heap d (.xd kvs) from I1.hok d _ ed)
 obtain ⟨od,ho,hl⟩:=Zg9 hn
 obtain ⟨u',hu,ru⟩:=RelO.some_of (v:=v) (o:=mA nm) (by rw [← l]; exact hr nm)
 have J:PySem.W.InstAt s1.heap e oe C (some od):=⟨a,b,by unfold PySem.W.notCls; rw [c],by rw [dd]; exact ho⟩
 unfold getAttr
 refine wpAny_bind (wpAny_mkText (Znm (s:={ s1 with toks:=s1.toks+1 }) I1.kIn J hz (PySem.W.findObj_own hh ha rfl (by rw [hl,hu])) ?_))
 exact PySem.W.handed_on (ZgZ ru) ⟨v,H1,I1.tok _,ru,q⟩
theorem Znr (ho:QE X Z o f)(hK:ZtB X.K Z.T c0 nm)(hb:attributeBase o nm X.env (eval o X.env)=eval o X.env:=by rfl):QE X Z (.Attribute o nm pos) (xXf c0 nm f):=
 ⟨(ZoU ho.pe hb).imp fun σ H Q q=>by
  obtain ⟨φ,m,ρ,x,q⟩:=q
  refine ⟨φ,m,ρ,x,?_⟩
  unfold xXf at q
  rw [ZdE] at q
  refine q.mono fun a h1 q1=>fun φ1 H1 u s1 r1 ra=>?_
  cases a with
  | exc c fs ws=>
   dsimp only at q1
   cases hc:decide (c=c0) with
   | false=>rw [hc] at q1; exact q1.elim
   | true=>
    rw [hc] at q1
    have hc:=of_decide_eq_true hc
    subst hc
    dsimp only [cond] at q1
    cases e2:(fs.zip ws).lookup nm with
    | none=>rw [e2] at q1; exact q1.elim
    | some w=>
     rw [e2] at q1
     unfold RW at ra
     obtain ⟨e,C,d,vs,rfl,ne,hT,hH,hl,hd,hrw⟩:=ra
     obtain ⟨v,lv,rv⟩:=ZfT hrw e2
     obtain ⟨z1,z2,z3⟩:=hK C hT
     cases d with
     | none=>rw [show fs=[] from hd] at e2; simp at e2
     | some d1=>exact ⟨e,C,d1,_,v,rfl,hH,hd.2,z1,z2,z3,lv,q1 φ1 H1 v s1 r1 rv⟩
  | _=>exact q1.elim⟩
end
end M
namespace M
open PySem PySem.Spec PyProof.Rows L2
def ZkO (K:PySem.W.Frag)(C:Addr):Bool:=
 PySem.W.findIn K (.ref C) "__getattribute__" == some (some (.builtin "BaseException.__getattribute__")) && (PySem.W.findIn K (.ref C) "__getattr__" == some none && (PySem.W.mroIn K C (.type "BaseException") == some true &&
 (PySem.W.findIn K (.ref C) "__class__" == some (some (.builtin "object.__class__")) && (PySem.W.specialIn K (.builtin "object.__class__") "__get__" == some (some (.builtin "getset_descriptor.__get__")) && (PySem.W.takesIn K (.builtin "object.__class__") == some true && PySem.W.mroIn K C (.type "object") == some true)))))
theorem Zme {K:PySem.W.Frag}{C:Addr}(h:ZkO K C=true):ExcTy K C:=by
 unfold ZkO at h
 simp only [Bool.and_eq_true,beq_iff_eq] at h
 obtain ⟨a,b,c,d,e,f,g⟩:=h
 exact ⟨a,b,c,d,e,f,g⟩
def Zm8 (K:PySem.W.Frag)(l:List Addr):Bool:=l.all (ZkO K)
theorem Zhj {K:PySem.W.Frag}{l:List Addr}(h:Zm8 K l=true){C:Addr}(m:C∈l):ExcTy K C:=Zme (List.all_eq_true.mp h C m)
def ZkI (K:PySem.W.Frag)(D:Addr)(l:List Addr):Bool:=Zi3 K D "ValueError.__new__" && (PySem.W.mroIn K D (.type "BaseException") == some true && l.all fun a=>Zi3 K a "ValueError.__new__" && PySem.W.mroIn K a (.ref D) == some true)
theorem Zp6 {K:PySem.W.Frag}{mg:Str→Option Value}{T:CTb}{d:Str}{sub:Str→Bool}{D:Addr}{l:List Addr}(h:ZkI K D l=true)(hm:mg d=some (.ref D))(hT:∀ c C,sub c=true→T.x c=some C→C∈l):CatAt K mg T d sub:=by
 unfold ZkI at h
 simp only [Bool.and_eq_true,beq_iff_eq] at h
 refine ⟨D,hm,h.1,h.2.1,fun c C hs e=>?_⟩
 have:=List.all_eq_true.mp h.2.2 C (hT c C hs e)
 simp only [Bool.and_eq_true,beq_iff_eq] at this
 exact this
def Zrl (K:PySem.W.Frag)(l:List Addr):Bool:=l.all (Zrn K)
theorem ZiE {K:PySem.W.Frag}{l:List Addr}(h:Zrl K l=true){C:Addr}(m:C∈l):Zrn K C=true:=List.all_eq_true.mp h C m
def Zqo (K:PySem.W.Frag)(l r:List Addr):Bool:=(List.range l.length).all fun i=>(List.range r.length).all fun j=>PySem.W.kitOne K (.ref (l.getD i 0)) (.ref (r.getD j 0)) == some (l.getD i 0 == r.getD j 0)
theorem ZkN {K:PySem.W.Frag}{l r:List Addr}(h:Zqo K l r=true){a b:Addr}(ha:a∈l)(hb:b∈r):PySem.W.kitOne K (.ref a) (.ref b)=some (a == b):=by
 obtain ⟨i,hi,rfl⟩:=List.getElem_of_mem ha
 obtain ⟨j,hj,rfl⟩:=List.getElem_of_mem hb
 have:=List.all_eq_true.mp (List.all_eq_true.mp h i (List.mem_range.mpr hi)) j (List.mem_range.mpr hj)
 simpa [List.getD,hi,hj] using this
def Zq1 (K:PySem.W.Frag)(l:List Addr)(v:Value)(b:Bool):Bool:=l.all fun a=>PySem.W.kitOne K (.ref a) v == some b
theorem ZlA {K:PySem.W.Frag}{l:List Addr}{v:Value}{b:Bool}(h:Zq1 K l v b=true){a:Addr}(ha:a∈l):PySem.W.kitOne K (.ref a) v=some b:=beq_iff_eq.mp (List.all_eq_true.mp h a ha)
def ZsL (K:PySem.W.Frag)(C:Addr)(F:Str):Bool:=Zm2 K C && (PySem.W.findIn K (.ref C) "__setattr__" == some (some (.builtin "object.__setattr__")) && (Zlz K C && (PySem.W.takerIn K C F == some none && (PySem.W.hasDictIn K C && PySem.W.findIn K (.ref C) F == some none))))
theorem Zic {K:PySem.W.Frag}{C:Addr}{F:Str}(h:ZsL K C F=true):IniOk K C F∧PySem.W.findIn K (.ref C) F=some none:=by
 unfold ZsL at h
 simp only [Bool.and_eq_true,beq_iff_eq] at h
 obtain ⟨a,b,c,d,e,f⟩:=h
 exact ⟨⟨a,b,c,d,e⟩,f⟩
def InX (K:PySem.W.Frag)(C:Addr)(qual:Str)(st:Stmt):Prop:=∃ f fd,PySem.W.findIn K (.ref C) "__init__"=some (some (.ref f))∧PySem.W.typeIn K (.ref f)=some (.type "function")∧Fun K "__init__" qual st f fd
section
variable {K:PySem.W.Frag} {C:Addr}
theorem inx {qual:Str}{st:Stmt}{f:Addr}{oc:Value}{od an:Option Addr}{osl:Array (Option Value)}{kV doc pm cdv ct:Value}(a:PySem.W.findIn K (.ref C) "__init__"=some (some (.ref f)))(i:PySem.W.isFn K (.ref f)=true)
  (l:K.lookup f=some ⟨oc,od,.func (PySem.W.fnOf "__init__" qual (Zcj st) (ZaZ st) (Zae st) .none kV doc pm an cdv ct),osl⟩) (c:PySem.W.codeIn K cdv qual=true) (k:PySem.W.keepIn K (.ref f)=true):InX K C qual st:=⟨f,_,a,beq_iff_eq.mp i,Zin l c k⟩
theorem basx {mc:Value}(g1:PySem.W.specialIn K (.ref C) "__getattribute__"=some (some (.builtin "type.__getattribute__")))(g0:PySem.W.typeIn K (.ref C)=some mc)(g2:PySem.W.readsIn K C mc=true)
  (g3:PySem.W.findCls K (.ref C) mc "__init__"=some (.val (.builtin "ValueError.__init__"))):BaseOk K C:=⟨⟨mc,g1,g2,g3⟩⟩
end
end M
namespace M
open PySem PySem.Spec PyProof.Rows L2
end M
namespace M
open PySem PySem.Spec PyProof.Rows L2
def Zl0:Ex:=fun _ h=>.ok (.ref h.length) (h++[.dic []])
section
variable {X:Cx} {Z:Zc} {f g k:Ex} {o i v:Expr} {pos pos':Pos}
theorem Zid:QE X Z (.Dict [] [] pos) Zl0:=⟨pe_dnewK.imp fun σ H Q ⟨φ,m,ρ,x,q⟩=>fun p hp=>
 q (φ++[p]) _ (.ref p) (Zbw hp) (x.rh.new (o:=.dic []) (ho:=.dK []) hp ⟨[],rfl,.nil⟩) (by unfold RW; exact ⟨p,by rw [← x.rh.len]; simp,rfl⟩)⟩
end
def ZjX (kvs:List (Key×W))(k:Key)(w:W):List (Key×W):=if (kvs.any fun kv=>decide (kv.1=k))=true then kvs.map (fun kv=>if kv.1=k then (kv.1,w) else kv) else kvs++[(k,w)]
def ZfV (kvs:List (Key×W))(k:Key):List (Key×W):=kvs.filter fun kv=>decide (kv.1≠k)
section
variable {T:CTb} {φ:List Addr} {H:Hp}
theorem Zm0 {k:Key}:∀ {a:List (Key×W)} {b:List (Key×V)},RP T φ H a b→(a.any fun kv=>decide (kv.1=k))=b.any fun kv=>decide (kv.1=k)
 | [],b,r=>by cases r; rfl
 | p::a,b,r=>by cases r with | cons h q=>rw [List.any_cons,List.any_cons,h.1,Zm0 q]
theorem ZjB {k:Key}{w:W}{v:V}(x:RW T φ H w v):∀ {a:List (Key×W)} {b:List (Key×V)},RP T φ H a b→RP T φ H (a.map fun kv=>if kv.1=k then (kv.1,w) else kv) (b.map fun kv=>if kv.1=k then (kv.1,v) else kv)
 | [],b,r=>by cases r; exact .nil
 | p::a,b,r=>by
  cases r with
  | @cons _ z _ l h q=>
   rw [List.map_cons,List.map_cons]
   refine .cons ?_ (ZjB x q)
   by_cases e:p.1=k
   ·have e':z.1=k:=by rw [← h.1]; exact e
    rw [if_pos e,if_pos e']; exact ⟨h.1,x⟩
   ·have e':¬z.1=k:=by rw [← h.1]; exact e
    rw [if_neg e,if_neg e']; exact h
theorem Zlq {p:Key×W}{z:Key×V}(h1:p.1=z.1)(x:RW T φ H p.2 z.2):∀ {a:List (Key×W)} {b:List (Key×V)},RP T φ H a b→RP T φ H (a++[p]) (b++[z])
 | [],b,r=>by cases r; exact .cons ⟨h1,x⟩ .nil
 | q::a,b,r=>by cases r with | cons h l=>exact .cons h (Zlq h1 x l)
theorem Zpg {k:Key}{w:W}{v:V}(x:RW T φ H w v){a:List (Key×W)}{b:List (Key×V)}(r:RP T φ H a b):RP T φ H (ZjX a k w) (Zfk b k v):=by
 unfold ZjX Zfk
 rw [Zm0 r]
 split
 ·exact ZjB x r
 ·exact Zlq rfl x r
theorem Zk3 {k:Key}:∀ {a:List (Key×W)} {b:List (Key×V)},RP T φ H a b→RP T φ H (ZfV a k) (Zf6 b k)
 | [],b,r=>by cases r; exact .nil
 | p::a,b,r=>by
  cases r with
  | @cons _ z _ l h q=>
   have ih:=Zk3 (k:=k) q
   unfold ZfV Zf6 at ih ⊢
   rw [List.filter_cons,List.filter_cons,h.1]
   split
   ·exact .cons h ih
   ·exact ih
theorem ZhO {h:Mem}{n:Nat}{kvs:List (Key×W)}{v:V}(r:RH T φ h H)(x:RW T φ H (.ref n) v)(e:h[n]? = some (.dic kvs)):∃ a kv,v=.ref a∧φ[n]? = some a∧H a=some (.dK kv)∧RP T φ H kvs kv:=by
 unfold RW at x
 obtain ⟨a,ea,rfl⟩:=x
 obtain ⟨ho,y,kv,rfl,rp⟩:=r.obj n _ a e ea
 exact ⟨a,kv,rfl,ea,y,rp⟩
end
def ZmV (h:Mem)(o i v:W):Option Mem:=match o with
 | .ref n=>(match h[n]?,ZcR i with
  | some (.dic kvs),some k=>if kvs.length<sizeLine then some (h.set n (.dic (ZjX kvs k v))) else none
  | _,_=>none)
 | _=>none
def ZeP (fo fi fv:Ex):Sm:=fun ρ h=>match fv ρ h with
 | .ok v h1=>(match fo ρ h1 with
  | .ok o h2=>(match fi ρ h2 with
   | .ok i h3=>(match ZmV h3 o i v with
    | some h4=>.nx ρ h4
    | none=>.no)
   | .ex w h3=>.ex w h3
   | .no=>.no)
  | .ex w h2=>.ex w h2
  | .no=>.no)
 | .ex w h1=>.ex w h1
 | .no=>.no
section
variable {X:Cx} {Z:Zc} {f g k:Ex} {o i v:Expr} {pos pos':Pos}
theorem Zdy {j:Nat}(hr:Room j X.A)(ho:QE X Z o f)(hi:QE X Z i g)(hv:QE X Z v k)(hs:swapsWith v (some (.Subscript o i pos')) pos.line X.env=pure false:=by rfl):QS X Z (.Assign [.Subscript o i pos'] v pos) (ZeP f g k):=
 ⟨(Zpc (Zi8 hr) ho.pe hi.pe hv.pe hs).imp fun D σ H ⟨φ,m,ρ,x,q⟩=>⟨φ,m,ρ,x,by
  unfold ZeP at q
  cases e1:k ρ m with
  | no=>rw [e1] at q; exact q.elim
  | ex w h1=>rw [e1] at q; exact q
  | ok y h1=>
   rw [e1] at q
   intro φ1 H1 vy s1 r1 ry
   refine ⟨φ1,h1,ρ,x.step s1 r1,?_⟩
   dsimp only at q
   cases e2:f ρ h1 with
   | no=>rw [e2] at q; exact q.elim
   | ex w h2=>rw [e2] at q; exact q
   | ok a h2=>
    rw [e2] at q
    intro φ2 H2 va s2 r2 ra
    refine ⟨φ2,h2,ρ,(x.step s1 r1).step s2 r2,?_⟩
    dsimp only at q
    cases e3:g ρ h2 with
    | no=>rw [e3] at q; exact q.elim
    | ex w h3=>rw [e3] at q; exact q
    | ok b h3=>
     rw [e3] at q
     intro φ3 H3 vb s3 r3 rb
     dsimp only at q
     cases e4:ZmV h3 a b y with
     | none=>rw [e4] at q; exact q.elim
     | some h4=>
      rw [e4] at q
      unfold ZmV at e4
      split at e4
      ·rename_i n
       split at e4
       ·rename_i kvs kk e5 e6
        split at e4
        ·rename_i hl
         cases e4
         obtain ⟨p,kv,rfl,ep,yp,rx⟩:=ZhO r3 (ra.step s3) e5
         have hk:=ZeT rb e6
         subst hk
         have ry3:=ry.step (s2.trans s3)
         have s4:=Zbx (H:=H3) (ho:=.dK (Zfk kv kk vy)) (List.mem_of_getElem? ep) (ZmK yp)
         have r4:=r3.set (o:=.dic (ZjX kvs kk y)) (ho:=.dK (Zfk kv kk vy)) ep ⟨_,rfl,Zpg ry3 rx⟩
         exact ⟨p,_,rfl,DPut.k yp (by rw [← ZcC rx]; exact hl),q φ3 _ σ (s1.trans (s2.trans (s3.trans s4))) r4 (x.rs.step (s1.trans (s2.trans (s3.trans s4)))) x.sg⟩
        ·cases e4
       ·cases e4
      ·cases e4⟩⟩
end
def Zdq (kvs:List (Key×W)):List W:=kvs.map fun kv=>match kv.1 with
 | .inl i=>.int i
 | .inr x=>.str x
theorem ZeM {P:Program}{w:World}:∀ {kv:List (Key×V)} {kvs:List (Key×Value)} {vs:List Value},KV kv kvs→vs.length=kvs.length→(∀ (j:Nat) (v:Value),vs[j]? = some v→∃ k x,kvs[j]? = some (k,x)∧(ZaF P w).is k v=true)→Vals (kv.map fun q=>kV q.1) vs
 | [],kvs,vs,r,hl,h=>by
  cases r
  cases vs with
  | nil=>exact .nil
  | cons _ _=>simp at hl
 | p::kv,kvs,vs,r,hl,h=>by
  cases r with
  | @cons _ z _ l hp q=>
   cases vs with
   | nil=>simp at hl
   | cons v vs=>
    obtain ⟨k,x,e,hk⟩:=h 0 v rfl
    simp only [List.getElem?_cons_zero,Option.some.injEq] at e
    rw [List.map_cons]
    refine .cons ?_ (ZeM (P:=P) (w:=w) q (by simpa using hl) fun j u hu=>by simpa using h (j+1) u (by simpa using hu))
    have:p.1=k:=by rw [hp.1,e]
    rw [this]
    rcases ZaB hk with ⟨i,t,rfl,rfl⟩ | ⟨y,t,rfl,rfl⟩
    ·exact ⟨t,rfl⟩
    ·exact ⟨t,rfl⟩
open Classical in
noncomputable def Zb8 (G:Tg)(B:Sm)(n:Nat)(all:List W):List W→Sm
 | [],ρ,h=>if h[n]? = some (.lst all) then .nx ρ h else .no
 | w::r,ρ,h=>if h[n]? = some (.lst all) then (match G w ρ with
  | none=>.no
  | some ρ1=>(match B ρ1 h with
   | .nx ρ' h'=>Zb8 G B n all r ρ' h'
   | .ct ρ' h'=>Zb8 G B n all r ρ' h'
   | .bk ρ' h'=>.nx ρ' h'
   | o=>o)) else .no
noncomputable def Zlt (f:Ei)(G:Tg)(B:Sm):Sm:=fun ρ h=>match f ρ h with
 | .ok none ws h'=>ZaC G B ws ρ h'
 | .ok (some n) ws h'=>Zb8 G B n ws ws ρ h'
 | .ex w h'=>.ex w h'
 | .no=>.no
section
variable {X:Cx} {Z:Zc} {B:Sm} {fi:Ei} {tg iter:Expr} {sts:List Stmt} {pos:Pos}
theorem Zmg {gg:TG}{Gt:Tg}(hw:TgW Z gg Gt){J:It}{D:Ends}{n:Nat}{ws:List W}{φ1:List Addr}{H1:Hp}{h1:Mem}{σ:St}{ρ:Sg}(x:Here Z σ H1 φ1 h1 ρ)(it:ItOk Z.T φ1 H1 J ws (ZnW (some n) ws))(q:(Zb8 Gt B n ws ws ρ h1).post Z φ1 H1 D) :
  ∃ Wd:Nat→Nat→St→Hp→Prop,(∃ m,Wd 0 m σ H1)∧∀ i m σ H,Wd i m σ H→(J.stop i H∧D.nx σ H)∨(J.go i H∧∃ N:St→Hp→Prop,(∀ σ' H',N σ' H'→∃ m',m'<m∧Wd (i+1) m' σ' H') ∧
   ∀ v H',J.yld i H v H'→gg v σ H' fun σ2 H2=>tHS Z B { D with nx:=N,ct:=N,bk:=D.nx } σ2 H2):=by
 refine ⟨fun i m σ H=>m=ws.length - i∧i≤ws.length∧∃ φ h ρ,Step φ1 H1 φ H∧Here Z σ H φ h ρ∧(Zb8 Gt B n ws (ws.drop i) ρ h).post Z φ H D,⟨ws.length,by simp,Nat.zero_le _,φ1,h1,ρ,Step.refl _ _,x,q⟩,?_⟩
 rintro i m σ H ⟨rfl,hi,φ,h,ρ,s,y,q⟩
 by_cases hlt:i<ws.length
 ·have ed:ws.drop i=ws[i]::ws.drop (i+1):=List.drop_eq_getElem_cons hlt
  have ei:ws[i]? = some ws[i]:=by simp [hlt]
  rw [ed] at q
  unfold Zb8 at q
  by_cases hP:h[n]? = some (.lst ws)
  ·rw [if_pos hP] at q
   refine .inr ⟨it.go φ H h i _ s y.rh hP ei,fun σ' H'=>i+1≤ws.length∧∃ φ h ρ,Step φ1 H1 φ H'∧Here Z σ' H' φ h ρ∧(Zb8 Gt B n ws (ws.drop (i+1)) ρ h).post Z φ H' D,fun σ' H' p=>⟨ws.length - (i+1),by omega,rfl,p⟩,fun v H' yl=>?_⟩
   obtain ⟨rfl,rw1⟩:=it.yld φ H h i _ v H' s y.rh hP ei yl
   cases e2:Gt ws[i] ρ with
   | none=>rw [e2] at q; exact q.elim
   | some ρ'=>
    rw [e2] at q
    simp only at q
    refine hw σ H' φ h ρ _ v ρ' _ y rw1 e2 fun σ' rs g=>⟨φ,h,ρ',⟨g,y.st,y.rh,rs⟩,?_⟩
    cases e3:B ρ' h with
    | nx ρ2 h2=>
     rw [e3] at q
     exact fun φ2 H2 σ2 s2 r2 rs2 g2=>⟨hlt,φ2,h2,ρ2,s.trans s2,⟨g2,y.st.trans s2,r2,rs2⟩,ZaI q s2⟩
    | ct ρ2 h2=>
     rw [e3] at q
     exact fun φ2 H2 σ2 s2 r2 rs2 g2=>⟨hlt,φ2,h2,ρ2,s.trans s2,⟨g2,y.st.trans s2,r2,rs2⟩,ZaI q s2⟩
    | bk ρ2 h2=>rw [e3] at q; exact q
    | rt w2 h2=>rw [e3] at q; exact q
    | ex w2 h2=>rw [e3] at q; exact q
    | no=>rw [e3] at q; exact q.elim
  ·rw [if_neg hP] at q; exact q.elim
 ·have e:i=ws.length:=by omega
  subst e
  rw [List.drop_length] at q
  unfold Zb8 at q
  by_cases hP:h[n]? = some (.lst ws)
  ·rw [if_pos hP] at q; exact .inl ⟨it.stop φ H h s y.rh hP,y.nx q⟩
  ·rw [if_neg hP] at q; exact q.elim
theorem Zoq {gg:TG}{Gt:Tg}(hw:TgW Z gg Gt){D:Ends}{σ:St}{H:Hp}(h:tHS Z (Zlt fi Gt B) D σ H):ZsG (tHI Z fi) gg (tHS Z B) D σ H:=by
 obtain ⟨φ,h,ρ,x,q⟩:=h
 refine ⟨φ,h,ρ,x,?_⟩
 unfold Zlt at q
 cases e:fi ρ h with
 | no=>rw [e] at q; exact q.elim
 | ex w h'=>rw [e] at q; exact q
 | ok src ws h'=>
  rw [e] at q
  cases src with
  | some n=>exact fun φ1 H1 J s1 r1 _ it=>Zmg hw (x.step s1 r1) it (ZaI q s1)
  | none=>exact fun φ1 H1 J s1 r1 _ it=>Zf7 hw (x.step s1 r1) it (ZaI q s1)
theorem Zjx {gg:TG}{Gt:Tg}(hw:TgW Z gg Gt)(hp:PassesOwn (model X.prog X.w) X.A X.env X.xe)(hc:X.calm=true)(hi:QI X Z tg iter fi)(hg:QG X tg gg)(hb:QB X Z sts B)(hs:∀ x,foldedSetIterable iter X.env x=pure x:=by intro _; rfl) :
  QS X Z (.For tg iter sts [] pos) (Zlt fi Gt B):=⟨(Zk4 hp hc hi.pi hg.pg hb.ps hs).imp fun D σ H q=>Zoq hw q⟩
end
end M
namespace M
open PySem PySem.Spec PyProof.Rows L2
open PySem.SeqAt (RcAt RcNeAt EqAt rc_eq_decline_or rc_ne_decline_or)
section
variable {X:Cx} {Z:Zc} {p pos:Pos}
theorem ZpP {c:Str}{F:Fm}{kk j:Nat}(Mx:ZpW X.prog X.w X.K X.mg X.base Z.T kk c F)(hr:Room j X.A)(hkj:kk+1≤j)(hg:Gl X c)(hdb:(c == ("__debug__":Str))=false:=by decide)(hcl:X.calm=true:=by rfl):QE X Z (.Call (.Name c p) [] [] pos) (ZhZ c F ZbP):=by
 obtain ⟨C,f,fd,ps,hc,hm,Mc,Fk,hb⟩:=Mx
 exact ⟨(ZlP Mc Fk (hr.mono hkj) hg hm hb .nil (Zj8 hcl) hdb).imp fun σ H Q q=>by
  obtain ⟨φ,m,ρ,x,z⟩:=ZkV hc q
  exact z φ H [] (Step.refl _ _) x.rh (by unfold RWs; rfl)⟩
end
end M
namespace M
open PySem PySem.Spec PyProof.Rows L2
end M
namespace L2
open PySem PySem.Spec PyProof.Rows
def Itd (ob:Obj)(a:Addr)(kvs:List (Key×V)):It:=⟨fun i H=>H a=some (.frz ob (.dK kvs))∧i<kvs.length,fun i H x H'=>H'=H∧∃ kv,kvs[i]? = some kv∧x=kV kv.1,fun i H=>H a=some (.frz ob (.dK kvs))∧kvs.length≤i⟩
def TnD (ob:Obj)(a it:Addr)(n:Nat)(i:Nat)(h:Heap):Prop:=∃ es ep,ob.data=.dict es ep∧h.IsKeyIter it a i n ep
section
variable {X:Cx} {pins:List (Addr×Obj)} {σ:St} {H:Hp} {s:Shared} {a:Addr} {ob:Obj} {kvs:List (Key×V)}
theorem Zih (I:Inv X pins σ H s)(e:H a=some (.frz ob (.dK kvs))){es:Array DictEntry}{ep:Nat}(hd:ob.data=.dict es ep):∃ vs,KV kvs vs∧s.heap.DictAt (ZaF X.prog X.w) a vs ep:=by
 obtain ⟨h1,_,_,vs,rel,o,es',ep',h2,h3,h4,h5⟩:=(show ObjOk X.prog X.w H s.heap a (.frz ob (.dK kvs)) from I.hok a _ e)
 rw [h1] at h2
 cases h2
 rw [hd] at h4
 cases h4
 exact ⟨vs,rel,ob,es,h1,h3,hd,h5⟩
theorem Zqf:∀ {kvs:List (Key×V)} {vs:List (Key×Value)} {i:Nat} {kv:Key×V},KV kvs vs→kvs[i]? = some kv→∃ x,vs[i]? = some (kv.1,x)
 | [],_,_,_,_,e=>by simp at e
 | p::kvs,vs,i,kv,r,e=>by
  cases r with
  | @cons _ q _ l h t=>
   cases i with
   | zero=>
    simp only [List.getElem?_cons_zero,Option.some.injEq] at e ⊢
    subst e
    exact ⟨q.2,by rw [h.1]⟩
   | succ i=>
    simp only [List.getElem?_cons_succ] at e ⊢
    exact Zqf t e
theorem ZnC {P:Program}{w:World}{k:Key}{v:Value}(h:(ZaF P w).is k v=true):RelV (kV k) v:=by
 rcases ZaB h with ⟨i,t,rfl,rfl⟩ | ⟨y,t,rfl,rfl⟩
 ·exact ⟨t,rfl⟩
 ·exact ⟨t,rfl⟩
theorem ZjN {P:Program}{w:World}{K:PySem.W.Frag}{tg:Expr}(ob:Obj)(a it:Addr)(kvs:List (Key×V)):Turn P w K tg (Itd ob a kvs) [it] it (TnD ob a it kvs.length) where
 mem:=by simp
 obj:=fun i h st b hb=>by
  have e:b=it:=by simpa using hb
  subst e
  obtain ⟨_,_,_,o,e,c,d⟩:=st
  exact ⟨o,e,fun v z=>by rw [d] at z; cases z⟩
 keep:=fun i h h' st k=>by
  obtain ⟨es,ep,hd,hit⟩:=st
  exact ⟨es,ep,hd,hit.at fun o e=>k it (by simp) o e⟩
 item:=by
  intro X hP hw hK hc i pins s σ H E I hf st hg
  subst hP hw hK
  obtain ⟨es,ep,hd,hit⟩:=st
  obtain ⟨e,hi⟩:=hg
  obtain ⟨vs,rel,hm⟩:=Zih I e hd
  obtain ⟨kv,hkv⟩:∃ kv,kvs[i]? = some kv:=⟨kvs[i],by simp [hi]⟩
  obtain ⟨x,hx⟩:=Zqf rel hkv
  obtain ⟨f0,f1,f2,f3,f4,f5⟩:=hf it (by simp)
  have hl:=rel.length
  rw [hl] at hit
  refine wpAny_pyNext_dict_item hit hm hx fun key h' hk hit' sb=>?_
  have I1:Inv X pins σ H { s with heap:=h' }:=I.turned (t':=s.toks) (fun b o hb e=>(sb.2 b hb).trans e) f0 f1 f3 f4 f5
  obtain ⟨o,e1,c,d⟩:=id hit'
  rw [← hl] at hit'
  exact ⟨key,rfl,Zpw (s:={ s with heap:=h' }) e1 c d (by decide) ⟨kV kv.1,H,I1,ZnC hk,⟨rfl,kv,hkv,rfl⟩,⟨es,ep,hd,hit'⟩,fun b hb=>(hf b hb).1⟩⟩
 done:=by
  intro X hP hw hK hc i pins s σ H E I hf st hg
  subst hP hw hK
  obtain ⟨es,ep,hd,hit⟩:=st
  obtain ⟨e,hi⟩:=hg
  obtain ⟨vs,rel,hm⟩:=Zih I e hd
  obtain ⟨f0,f1,f2,f3,f4,f5⟩:=hf it (by simp)
  have hl:=rel.length
  rw [hl] at hit
  exact wpAny_pyNext_dict_end (I.ok.hd hc) hit hm (by rw [List.getElem?_eq_none_iff]; omega) fun h' eb=>⟨rfl,I.turned (t':=s.toks) (fun b o hb e=>eb b o hb e) f0 f1 f3 f4 f5⟩
 self:=fun _ _ _ _ _ st h=>by
  obtain ⟨es,ep,hd,hit⟩:=st
  exact wpAny_pyIter_keyiter hit h
theorem ZrB (I:Inv X pins σ H s)(e:H a=some (.dK kvs))(ho:s.heap.get? a=some ob):Inv X pins σ (upd H a (.frz ob (.dK kvs))) s:=
 I.write (t':=s.toks) (h':=s.heap) (o:=.frz ob (.dK kvs)) (by rw [e]; trivial) (.inl rfl) (fun b u _ q=>q) ⟨ob,ho⟩ ⟨ho,(show ObjOk X.prog X.w H s.heap a (.dK kvs) from I.hok a _ e)⟩
theorem Zq7 (I:Inv X pins σ H s)(e:H a=some (.dK kvs)):∀ o u,X.H₀ a≠some (.frz o u):=fun o u z=>by
 have:=I.base.frzs a o u z
 rw [e] at this
 cases this
theorem Zuc (I:Inv X pins σ H s)(e:H a=some (.frz ob (.dK kvs)))(h0:∀ o u,X.H₀ a≠some (.frz o u)):Inv X pins σ (upd H a (.dK kvs)) s:=by
 have ne:∀ b,H b=none→b≠a:=fun b q z=>by subst z; rw [e] at q; cases q
 refine ⟨I.ok,I.os,I.bare,⟨I.base.keep,I.base.slot,fun b ob' q n hx=>?_,I.base.there,fun b xs q=>?_,fun b ob' u q=>?_,fun b ps q=>?_⟩,I.loc,I.cell,?_,fun x c q=>?_,fun p hp=>?_,fun b u q=>?_,I.len⟩
 ·have:=I.base.free b ob' q n hx
  rw [Zak (ne b this)]; exact this
 ·have:=I.base.tups b xs q
  rw [Zak (fun z=>by subst z; rw [e] at this; cases this)]; exact this
 ·have:=I.base.frzs b ob' u q
  rw [Zak (fun z=>by subst z; exact h0 _ _ q)]; exact this
 ·obtain ⟨more,this⟩:=I.base.tbls b ps q
  exact ⟨more,by rw [Zak (fun z=>by subst z; rw [e] at this; cases this)]; exact this⟩
 ·rw [Zak (ne _ I.free)]; exact I.free
 ·rw [Zak (ne _ (I.freeC x c q))]; exact I.freeC x c q
 ·obtain ⟨e1,n,r⟩:=I.pin p hp
  exact ⟨e1,by rw [Zak (ne _ n)]; exact n,r⟩
 ·by_cases z:b=a
  ·subst z
   rw [ZaD] at q
   cases q
   exact (show ObjOk X.prog X.w H s.heap b (.frz ob (.dK kvs)) from I.hok b _ e).2
  ·rw [Zak z] at q
   refine (I.hok b u q).stay (fun c v _ r=>r) (fun c r=>?_) fun c xs r=>?_
   ·rw [Zak (fun z=>by subst z; rw [e] at r; cases r)]; exact r
   ·rw [Zak (fun z=>by subst z; rw [e] at r; cases r)]; exact r
def ZsF (X:Cx)(tl:TE):TI:=fun σ H R=>tl σ H fun x H1=>∃ a kv,x=.ref a∧((H1 a=some (.dK kv)∧∀ ob,(∀ o u,X.H₀ a≠some (.frz o u))→R (Itd ob a kv) (upd H1 a (.frz ob (.dK kv))))∨∃ ob,H1 a=some (.frz ob (.dK kv))∧R (Itd ob a kv) H1)
theorem Zov {l tg:Expr}{tl:TE}(hl:PE X l tl):PI X tg l (ZsF X tl):=by
 intro pins s σ H R I h
 refine thn (hl pins s σ H _ I h) fun v s1 ⟨x,H1,I1,r1,q1⟩=>?_
 obtain ⟨a,kv,ex,q1⟩:=q1
 subst ex
 cases r1
 have fin:∀ (H2:Hp) (ob:Obj),Inv X pins σ H2 s1→H2 a=some (.frz ob (.dK kv))→R (Itd ob a kv) H2→wpAny (model X.prog X.w) X.A (pyIter (.ref a)) (PIE X pins σ tg R) X.xe s1:=fun H2 ob I2 e q=>by
  obtain ⟨h1,hz,lo,vs,rel,o,es,ep,h2,h3⟩:=(show ObjOk X.prog X.w H2 s1.heap a (.frz ob (.dK kv)) from I2.hok a _ e)
  have h2':=h2
  rw [h1] at h2'
  cases h2'
  have hat:s1.heap.DictAt (ZaF X.prog X.w) a vs ep:=⟨ob,es,h1,h3⟩
  refine wpAny_pyIter_dict lo hat ?_
  refine ⟨s1.heap.objs.size,[s1.heap.objs.size],_,_,H2,rfl,I2.kept (t':=s1.toks) fun b o e=>Heap.get?_push_of_some _ e,ZjN ob a _ kv,⟨es,ep,h3.2.1,⟨_,Heap.get?_push_size _ rfl,rfl,by rw [rel.length]; rfl⟩⟩,fun b hb=>?_,q⟩
  have e:b=s1.heap.objs.size:=by simpa using hb
  subst e
  exact I2.fpOk (Nat.le_refl _) (I2.hok.fresh (Nat.le_refl _))
 rcases q1 with ⟨ea,q⟩ | ⟨ob,ea,q⟩
 ·obtain ⟨_,_,vs,_,o,es,ep,ho,_⟩:=(show ObjOk X.prog X.w H1 s1.heap a (.dK kv) from I1.hok a _ ea)
  exact fin _ o (ZrB I1 ea ho) ZaD (q o (Zq7 I1 ea))
 ·exact fin _ ob I1 ea q
end
end L2
namespace M
open PySem PySem.Spec PyProof.Rows L2
theorem RS.step0 {T:CTb}{φ φ':List Addr}{H H':Hp}{ρ:Sg}{σ:St}(s:Step0 φ H φ' H')(r:RS T φ H ρ σ):RS T φ' H' ρ σ:=⟨r.len,fun i w e=>by
 obtain ⟨v,a,b⟩:=r.var i w e
 exact ⟨v,a,b.step0 s⟩⟩
def ZgW (n:Nat)(h:Mem):Option Mem:=match h[n]? with
 | some (.fdic kvs)=>some (h.set n (.dic kvs))
 | _=>none
def ZrS (n:Nat):Out→Out
 | .nx ρ h=>(match ZgW n h with
  | some h'=>.nx ρ h'
  | none=>.no)
 | .rt w h=>(match ZgW n h with
  | some h'=>.rt w h'
  | none=>.no)
 | _=>.no
def Zrs:Out→Out
 | .nx ρ h=>.nx ρ h
 | .rt w h=>.rt w h
 | _=>.no
def ZiU (f:Ex)(G:Tg)(B:Sm):Sm:=fun ρ h=>match f ρ h with
 | .ok (.ref n) h1=>(match h1[n]? with
  | some (.dic kvs)=>ZrS n (ZaC G B (Zdq kvs) ρ (h1.set n (.fdic kvs)))
  | some (.fdic kvs)=>Zrs (ZaC G B (Zdq kvs) ρ h1)
  | _=>.no)
 | .ex w h1=>.ex w h1
 | _=>.no
section
variable {T:CTb} {φ φ1 φ2:List Addr} {H H1 H2:Hp} {h h1 h2:Mem} {a:Addr} {n:Nat} {ob:Obj} {kv:List (Key×V)} {kvs:List (Key×W)}
theorem Zmr {v:V}(r:RH T φ h H)(x:RW T φ H (.ref n) v)(e:h[n]? = some (.fdic kvs)):∃ a ob kv,v=.ref a∧φ[n]? = some a∧H a=some (.frz ob (.dK kv))∧RP T φ H kvs kv:=by
 unfold RW at x
 obtain ⟨a,ea,rfl⟩:=x
 obtain ⟨ho,y,ob,kv,rfl,rp⟩:=r.obj n _ a e ea
 exact ⟨a,ob,kv,rfl,ea,y,rp⟩
theorem Zm9:∀ {kvs:List (Key×W)} {kv:List (Key×V)} {i:Nat} {w:W},RP T φ H kvs kv→(Zdq kvs)[i]? = some w→∃ p,kv[i]? = some p∧RW T φ2 H2 w (kV p.1)
 | [],_,_,_,_,e=>by simp [Zdq] at e
 | q::kvs,kv,i,w,r,e=>by
  cases r with
  | @cons _ z _ l hq t=>
   unfold Zdq at e
   rw [List.map_cons] at e
   cases i with
   | zero=>
    simp only [List.getElem?_cons_zero,Option.some.injEq] at e ⊢
    refine ⟨z,rfl,?_⟩
    rw [← e,← hq.1]
    cases q.1 <;> (unfold RW; rfl)
   | succ i=>
    simp only [List.getElem?_cons_succ] at e ⊢
    exact Zm9 t e
theorem ZmX (e:H1 a=some (.frz ob (.dK kv)))(rp:RP T φ1 H kvs kv):ItOk T φ1 H1 (Itd ob a kv) (Zdq kvs) fun _=>True:=by
 have hl:(Zdq kvs).length=kv.length:=by rw [show (Zdq kvs).length=kvs.length by simp [Zdq]]; exact ZcC rp
 refine ⟨fun φ2 H2 h2 i w s r _ ei=>⟨s.fr _ _ _ e,?_⟩,fun φ2 H2 h2 i w x H' s r _ ei yl=>?_,fun φ2 H2 h2 s r _=>⟨s.fr _ _ _ e,by rw [hl]; exact Nat.le_refl _⟩⟩
 ·rw [← hl]; exact (List.getElem?_eq_some_iff.mp ei).1
 ·obtain ⟨rfl,p,ep,rfl⟩:=yl
  obtain ⟨p',ep',rw'⟩:=Zm9 (T:=T) (φ2:=φ2) (H2:=H') rp ei
  rw [ep] at ep'
  cases ep'
  exact ⟨rfl,rw'⟩
theorem Zko (s:Step φ1 (upd H1 a (.frz ob (.dK kv))) φ2 H2)(m:a∈φ1)(e:H1 a=some (.dK kv)):Step φ1 H1 φ2 (upd H2 a (.dK kv)):=by
 have hm2:a∈φ2:=s.pre.subset m
 refine ⟨((ZcI (ho:=.frz ob (.dK kv)) m).trans s.toStep0).trans (ZcI hm2),fun b o u eb=>?_⟩
 have hne:b≠a:=fun z=>by subst z; rw [e] at eb; cases eb
 rw [Zak hne]
 refine s.fr b o u ?_
 rw [Zak hne]; exact eb
theorem ZnI (r:RH T φ2 h2 H2)(q:φ2[n]? = some a)(e:H2 a=some (.frz ob (.dK kv))){h3:Mem}(t:ZgW n h2=some h3):RH T φ2 h3 (upd H2 a (.dK kv)):=by
 unfold ZgW at t
 split at t
 ·rename_i kvs eh
  cases t
  obtain ⟨ho,y,ob',kv',rfl,rp⟩:=r.obj n _ a eh q
  rw [e] at y
  cases y
  exact r.set q ⟨kv,rfl,rp⟩
 ·cases t
end
section
variable {X:Cx} {Z:Zc} {B:Sm} {f:Ex} {tg iter:Expr} {sts:List Stmt} {pos:Pos}
def Zol (X:Cx)(Q:Hp→Prop)(H:Hp):Prop:=Q H∨∃ a ob kv,H a=some (.frz ob (.dK kv))∧(∀ o u,X.H₀ a≠some (.frz o u))∧Q (upd H a (.dK kv))
theorem Zhb {pins:List (Addr×Obj)}{σ:L2.St}{H:Hp}{s:Shared}{Q:Hp→Prop}(I:Inv X pins σ H s)(m:Zol X Q H):∃ H',Inv X pins σ H' s∧Q H':=by
 rcases m with q | ⟨a,ob,kv,e,n,q⟩
 ·exact ⟨H,I,q⟩
 ·exact ⟨_,Zuc I e n,q⟩
theorem ZnJ {gg:TG}{Gt:Tg}(hw:TgW Z gg Gt)(hp:PassesOwn (model X.prog X.w) X.A X.env X.xe)(hc:X.calm=true)(hi:QE X Z iter f)(hg:QG X tg gg)(hb:QB X Z sts B)(hs:∀ x,foldedSetIterable iter X.env x=pure x:=by intro _; rfl) :
  QS X Z (.For tg iter sts [] pos) (ZiU f Gt B):=⟨by
 intro pins s σ H D I q
 refine wpAny_mono (Zk4 hp hc (Zov hi.pe) hg.pg hb.ps hs pins s σ H { nx:=fun σ' H'=>Zol X (D.nx σ') H',rt:=fun v H'=>Zol X (D.rt v) H' } I ?_) (fun fl s1 sp=>?_) fun _ _ z=>z
 ·obtain ⟨φ,m,ρ,x,q⟩:=q
  refine ⟨φ,m,ρ,x,?_⟩
  unfold ZiU at q
  cases e:f ρ m with
  | no=>rw [e] at q; exact q.elim
  | ex w h'=>rw [e] at q; exact q
  | ok w h1=>
   rw [e] at q
   intro φ1 H1 v s1 r1 ra
   cases w with
   | ref n=>
    dsimp only at q
    cases e2:h1[n]? with
    | none=>rw [e2] at q; exact q.elim
    | some o=>
     rw [e2] at q
     cases o with
     | dic kvs=>
      dsimp only at q
      obtain ⟨a,kv,rfl,ea,ya,rp⟩:=ZhO r1 ra e2
      refine ⟨a,kv,rfl,.inl ⟨ya,fun ob nf=>?_⟩⟩
      have sf:=Zbx (H:=H1) (ho:=.frz ob (.dK kv)) (List.mem_of_getElem? ea) (ZmK ya)
      have rf:=r1.set (o:=.fdic kvs) (ho:=.frz ob (.dK kv)) ea ⟨ob,kv,rfl,rp⟩
      refine Zf7 hw (x.step (s1.trans sf) rf) (ZmX ZaD rp) ?_
      have key:∀ φ2 H2 h2 h3,Step φ1 (upd H1 a (.frz ob (.dK kv))) φ2 H2→RH Z.T φ2 h2 H2→ZgW n h2=some h3→H2 a=some (.frz ob (.dK kv))∧Step φ H φ2 (upd H2 a (.dK kv))∧RH Z.T φ2 h3 (upd H2 a (.dK kv))∧Step0 φ2 H2 φ2 (upd H2 a (.dK kv)):=fun φ2 H2 h2 h3 st r t=>by
       have e3:=st.fr a ob _ ZaD
       have en:=st.get ea
       exact ⟨e3,s1.trans (Zko st (List.mem_of_getElem? ea) ya),ZnI r en e3 t,ZcI (List.mem_of_getElem? en)⟩
      cases e4:ZaC Gt B (Zdq kvs) ρ (h1.set n (.fdic kvs)) with
      | nx ρ' h'=>
       rw [e4] at q
       unfold ZrS at q
       dsimp only at q
       cases e5:ZgW n h' with
       | none=>rw [e5] at q; exact q.elim
       | some h3=>
        rw [e5] at q
        intro φ2 H2 σ2 st r rs sg
        obtain ⟨k1,k2,k3,k4⟩:=key φ2 H2 h' h3 st r e5
        exact .inr ⟨a,ob,kv,k1,nf,q φ2 _ σ2 k2 k3 (rs.step0 k4) sg⟩
      | rt w h'=>
       rw [e4] at q
       unfold ZrS at q
       dsimp only at q
       cases e5:ZgW n h' with
       | none=>rw [e5] at q; exact q.elim
       | some h3=>
        rw [e5] at q
        intro φ2 H2 v st r rv
        obtain ⟨k1,k2,k3,k4⟩:=key φ2 H2 h' h3 st r e5
        exact .inr ⟨a,ob,kv,k1,nf,q φ2 _ v k2 k3 (rv.step0 k4)⟩
      | bk ρ' h'=>rw [e4] at q; exact q.elim
      | ct ρ' h'=>rw [e4] at q; exact q.elim
      | ex w h'=>rw [e4] at q; exact q.elim
      | no=>rw [e4] at q; exact q.elim
     | fdic kvs=>
      dsimp only at q
      obtain ⟨a,ob,kv,rfl,ea,ya,rp⟩:=Zmr r1 ra e2
      refine ⟨a,kv,rfl,.inr ⟨ob,ya,?_⟩⟩
      refine Zf7 hw (x.step s1 r1) (ZmX ya rp) ?_
      cases e4:ZaC Gt B (Zdq kvs) ρ h1 with
      | nx ρ' h'=>rw [e4] at q; exact fun φ2 H2 σ2 st r rs sg=>.inl (q φ2 H2 σ2 (s1.trans st) r rs sg)
      | rt w h'=>rw [e4] at q; exact fun φ2 H2 v st r rv=>.inl (q φ2 H2 v (s1.trans st) r rv)
      | bk ρ' h'=>rw [e4] at q; exact q.elim
      | ct ρ' h'=>rw [e4] at q; exact q.elim
      | ex w h'=>rw [e4] at q; exact q.elim
      | no=>rw [e4] at q; exact q.elim
     | _=>exact q.elim
   | _=>exact q.elim
 ·cases fl with
  | next=>
   obtain ⟨σ',H',J,z⟩:=sp
   obtain ⟨H2,J2,z2⟩:=Zhb J z
   exact ⟨σ',H2,J2,z2⟩
  | brk=>obtain ⟨σ',H',J,z⟩:=sp; exact z.elim
  | cont=>obtain ⟨σ',H',J,z⟩:=sp; exact z.elim
  | ret u=>
   obtain ⟨v,σ',H',J,rv,z⟩:=sp
   obtain ⟨H2,J2,z2⟩:=Zhb J z
   exact ⟨v,σ',H2,J2,rv,z2⟩⟩
end
def Zi9 (f g:Ex):Ex:=fun ρ h=>match f ρ h with
 | .ok (.ref n) h1=>(match h1[n]? with
  | some (.dic _)=>(match g ρ h1 with
   | .ok b h2=>(match h2[n]?,ZcR b with
    | some (.dic kvs),some k=>(match ZeD kvs k with
     | some w=>.ok w (h2.set n (.dic (ZfV kvs k)))
     | none=>.no)
    | _,_=>.no)
   | .ex w h2=>.ex w h2
   | .no=>.no)
  | _=>.no)
 | .ex w h1=>.ex w h1
 | _=>.no
section
variable {X:Cx} {Z:Zc} {f g:Ex} {o e:Expr} {apos cpos:Pos}
theorem Ziw (ho:QE X Z o f)(he:QE X Z e g)(m:M1 X o "pop" apos e cpos):QE X Z (.Call (.Attribute o "pop" apos) [e] [] cpos) (Zi9 f g):=
 ⟨(Zl6 ho.pe he.pe m).imp fun σ H Q ⟨φ,h,ρ,x,q⟩=>⟨φ,h,ρ,x,by
  unfold Zi9 at q
  cases e1:f ρ h with
  | no=>rw [e1] at q; exact q.elim
  | ex w h'=>rw [e1] at q; exact q
  | ok a h1=>
   rw [e1] at q
   intro φ1 H1 v s1 r1 ra
   cases a with
   | ref n=>
    dsimp only at q
    cases e2:h1[n]? with
    | none=>rw [e2] at q; exact q.elim
    | some ob=>
     rw [e2] at q
     cases ob with
     | dic kvs0=>
      dsimp only at q
      obtain ⟨p,kv0,rfl,ep,yp,rp0⟩:=ZhO r1 ra e2
      refine ⟨p,rfl,.inl ⟨kv0,.inl yp⟩,φ1,h1,ρ,x.step s1 r1,?_⟩
      cases e3:g ρ h1 with
      | no=>rw [e3] at q; exact q.elim
      | ex w h'=>rw [e3] at q; exact q
      | ok b h2=>
       rw [e3] at q
       intro φ2 H2 vb s2 r2 rb
       dsimp only at q
       cases e4:h2[n]? with
       | none=>rw [e4] at q; exact q.elim
       | some ob2=>
        rw [e4] at q
        cases ob2 with
        | dic kvs=>
         cases e5:ZcR b with
         | none=>rw [e5] at q; exact q.elim
         | some k=>
          rw [e5] at q
          dsimp only at q
          cases e6:ZeD kvs k with
          | none=>rw [e6] at q; exact q.elim
          | some w=>
           rw [e6] at q
           have ep2:=s2.get ep
           obtain ⟨ho',y,kv,rfl,rp⟩:=r2.obj n _ p e4 ep2
           have hk:=ZeT rb e5
           subst hk
           have gg:=ZhL rp k
           rw [e6] at gg
           cases ev:ZeF kv k with
           | none=>rw [ev] at gg; exact gg.elim
           | some z=>
            rw [ev] at gg
            have s3:=Zbx (H:=H2) (ho:=.dK (Zf6 kv k)) (List.mem_of_getElem? ep2) (ZmK y)
            have r3:=r2.set (o:=.dic (ZfV kvs k)) (ho:=.dK (Zf6 kv k)) ep2 ⟨_,rfl,Zk3 rp⟩
            exact ⟨kv,k,z,y,rfl,ev,q φ2 _ z (s1.trans (s2.trans s3)) r3 (RW.step s3 gg)⟩
        | _=>exact q.elim
     | _=>exact q.elim
   | _=>exact q.elim⟩⟩
end
end M
namespace M
open PySem PySem.Spec PyProof.Rows L2
def ZbX (ns:List Int):List Int:=ns.mergeSort fun a b=>decide (a≤b)
theorem Zir (ns:List Int):(ZbX ns).Pairwise (· ≤ ·):=by
 have h:=List.pairwise_mergeSort (le:=fun a b:Int=>decide (a≤b)) (fun a b c h1 h2=>by simp at *; omega) (fun a b=>by simp; omega) ns
 exact h.imp fun q=>by simpa using q
theorem Zce (ns:List Int):(ZbX ns).Perm ns:=List.mergeSort_perm ..
theorem ZeQ:∀ {a b:List Int},a.Perm b→a.Pairwise (· ≤ ·)→b.Pairwise (· ≤ ·)→a=b
 | [],b,p,_,_=>by have:=p.length_eq; cases b with
  | nil=>rfl
  | cons _ _=>simp at this
 | x::a,[],p,_,_=>by have:=p.length_eq; simp at this
 | x::a,y::b,p,ha,hb=>by
  have hx:x∈y::b:=p.mem_iff.mp List.mem_cons_self
  have hy:y∈x::a:=p.mem_iff.mpr List.mem_cons_self
  have hle1:x≤y:=by
   rcases List.mem_cons.mp hy with e | e
   ·rw [e]; exact Int.le_refl _
   ·exact (List.pairwise_cons.mp ha).1 y e
  have hle2:y≤x:=by
   rcases List.mem_cons.mp hx with e | e
   ·rw [e]; exact Int.le_refl _
   ·exact (List.pairwise_cons.mp hb).1 x e
  have e:x=y:=by omega
  subst e
  rw [ZeQ (List.Perm.cons_inv p) (List.pairwise_cons.mp ha).2 (List.pairwise_cons.mp hb).2]
theorem Zkb {a ns:List Int}(p:a.Perm ns)(o:a.Pairwise (· ≤ ·)):a=ZbX ns:=ZeQ (p.trans (Zce ns).symm) o (Zir ns)
def Zco:List (Key×W)→Option (List Int)
 | []=>some []
 | (.inl i,_)::r=>(Zco r).map (i :: ·)
 | _::_=>none
def ZfF (h:Mem)(w:W):Option (List Int):=match Za1 h w with
 | some kvs=>Zco kvs
 | none=>(items h w).bind ZcZ
def ZgA:List (Key×V)→Option (List Int)
 | []=>some []
 | (.inl i,_)::r=>(ZgA r).map (i :: ·)
 | _::_=>none
theorem Zgb {T:CTb}{φ:List Addr}{H:Hp}:∀ {kvs:List (Key×W)} {kv:List (Key×V)} {ns:List Int},RP T φ H kvs kv→Zco kvs=some ns→ZgA kv=some ns
 | [],kv,ns,r,e=>by cases r; exact e
 | p::kvs,kv,ns,r,e=>by
  cases r with
  | @cons _ z _ l h q=>
   obtain ⟨k,w⟩:=p
   obtain ⟨k',v⟩:=z
   have hk:k=k':=h.1
   subst hk
   cases k with
   | inr x=>cases e
   | inl i=>
    unfold Zco at e
    rw [Option.map_eq_some_iff] at e
    obtain ⟨ms,e,rfl⟩:=e
    unfold ZgA
    rw [Zgb q e]; rfl
theorem Zf5:∀ {kv:List (Key×V)} {ns:List Int},ZgA kv=some ns→kv.map (fun q=>kV q.1)=ns.map V.int
 | [],ns,e=>by cases e; rfl
 | (.inl i,v)::kv,ns,e=>by
  unfold ZgA at e
  rw [Option.map_eq_some_iff] at e
  obtain ⟨ms,e,rfl⟩:=e
  rw [List.map_cons,List.map_cons,Zf5 e]; rfl
 | (.inr x,v)::kv,ns,e=>by cases e
def Zok:List V→Hp→VK→Prop:=fun vs H Q=>∃ p ns,vs=[.ref p]∧ns.length<64∧((ZaQ H p=some (ns.map V.int))∨∃ kv,Rd H p (.dK kv)∧ZgA kv=some ns)∧∀ l,H l=none→Q (.ref l) (upd H l (.lst ((ZbX ns).map V.int)))
theorem _root_.L2.ObjOk.live {P:Program}{w:World}{H:Hp}{h:Heap}{a:Addr}{o:HO}(x:ObjOk P w H h a o):∃ u,h.get? a=some u:=by
 cases o with
 | lst xs=>obtain ⟨_,_,_,_,e⟩:=x; exact ⟨_,e⟩
 | tup xs=>obtain ⟨_,_,_,ob,e,_⟩:=x; exact ⟨_,e⟩
 | dK kvs=>obtain ⟨_,_,_,_,o,_,_,e,_⟩:=x; exact ⟨_,e⟩
 | dT kvs=>obtain ⟨_,_,_,_,o,_,_,e,_⟩:=x; exact ⟨_,e⟩
 | set S n=>obtain ⟨o,_,_,_,e,_⟩:=x; exact ⟨_,e⟩
 | ins C dx fs=>obtain ⟨_,_,_,e,_⟩:=x; exact ⟨_,e⟩
 | own y=>exact x
 | xd fs=>obtain ⟨_,⟨_,_,_,e,_⟩,_⟩:=x; exact ⟨_,e⟩
 | rng lo hi=>obtain ⟨_,_,_,e⟩:=x; exact ⟨_,e⟩
 | frz ob u=>obtain ⟨e,_⟩:=x; exact ⟨_,e⟩
 | tbl ps=>exact ⟨_,x⟩
 | met f y=>exact ⟨_,x⟩
 | ext φ=>obtain ⟨_,e,_⟩:=x; exact e
theorem Zn3 {X:Cx}{pins:List (Addr×Obj)}{σ:L2.St}{H:Hp}{s:Shared}{h':Heap}{a:Addr}{o:HO}{t':Nat}(I:Inv X pins σ H s)(k:∀ b u,s.heap.get? b=some u→h'.get? b=some u)(ha:s.heap.get? a=none)(new:ObjOk X.prog X.w (upd H a o) h' a o) :
  H a=none∧Inv X pins σ (upd H a o) { s with heap:=h',toks:=t' }:=by
 have hn:H a=none:=by
  cases e:H a with
  | none=>rfl
  | some u=>obtain ⟨v,q⟩:=(I.hok a u e).live; rw [ha] at q; cases q
 have nb:∀ b u,s.heap.get? b=some u→b≠a:=fun b u q z=>by subst z; rw [ha] at q; cases q
 refine ⟨hn,I.un ⟨fun b u q _ _ _=>k b u q,fun b u q _ _ _=>⟨u.slots,k b u q⟩,fun b u q n _=>by rw [Zak (nb b u q)]; exact n,fun b u q _=>⟨u,k b u q⟩,fun b xs q=>by rw [Zak (Zau q hn)]; exact q,fun b u xs q=>by rw [Zak (Zau q hn)]; exact q,fun b ps q=>⟨#[],by rw [Zak (Zau q hn),q]; simp⟩⟩ fun b u q=>?_⟩
 by_cases z:b=a
 ·subst z; rw [ZaD] at q; cases q; exact new
 ·rw [Zak z] at q
  exact (I.hok b u q).stay (fun c v _ r=>k c v r) (fun c r=>by rw [Zak (Zau r hn)]; exact r) fun c xs r=>by rw [Zak (Zau r hn)]; exact r
section
variable {X:Cx}
theorem Zeh (hh:X.calm=true):CallR X (.builtin "sorted") Zok:=by
 intro pins s σ H xs us Q I r h
 obtain ⟨p,ns,rfl,h64,hsrc,q⟩:=h
 obtain ⟨u,rfl,rx⟩:=ZhY r
 cases rx
 have fin:∀ (h':Heap) (tk:Nat) (l:Addr) (vs':List Value) (c:Nat) (ns':List Int),(∀ b o,s.heap.get? b=some o→h'.get? b=some o)→s.heap.get? l=none→h'.get? l=some { cls:=.type "list",data:=.seq vs'.toArray c }→IntsAre vs' ns'→ns'.Perm ns→ns'.Pairwise (· ≤ ·) →
   EP X pins σ Q (.ref l) { s with heap:=h',toks:=tk }:=fun h' tk l vs' c ns' kp hl e hI hp ho=>by
  obtain rfl:=Zkb hp ho
  have hv:=ZdI hI
  have hlen:(ZbX ns).length=ns.length:=(Zce ns).length_eq
  obtain ⟨hn,I2⟩:=Zn3 (t':=tk) I kp hl (show ObjOk X.prog X.w (upd H l (.lst ((ZbX ns).map V.int))) h' l (.lst ((ZbX ns).map V.int)) from ⟨by rw [List.length_map,hlen,sizeLine_eq]; omega,vs',c,hv,e⟩)
  exact ⟨.ref l,_,I2,rfl,q _ hn⟩
 rcases hsrc with hl | ⟨kv,hd,hk⟩
 ·obtain ⟨its,rv,pl,hz⟩:=I.list (Zav (K:=X.K) hl)
  have hI:=ZcQ rv
  have hlen:=IntsAre.length hI
  refine sorted_ints pl.isList hI (by omega) fun out ns' a1 a2 a3=>?_
  obtain ⟨e,he⟩:=sortedAll_at s.heap its out
  exact fin _ s.toks _ out.toList e ns' (fun b o q=>sortedAll_old q) (Heap.get?_none_of_le (Nat.le_succ _)) (by simpa [seqObj] using he) a1 a2 a3
 ·obtain ⟨hz,lo,kvs,rel,dd⟩:=Zgg I.hok hd
  obtain ⟨ep,hat⟩:=dd.dictAt
  refine Calls.call_function_entry kind_sorted plain_sorted entry_sorted (args_sorted1 _) ?_
  unfold Builtin.«sorted»
  refine wpAny_bind (m:=checkCount "sorted" 1 1 _) (wpAny_pure ?_)
  refine wpAny_bind (PySem.W.kdu_collect (A:=X.A.in1) (PySem.W.kdl_dict (knd:=ZaF X.prog X.w) (kvs:=kvs) (ep:=ep) lo) (I.ok.hd hh) hat (by rw [← rel.length]; exact hz) fun h' tk acc kp hacc=>?_)
  have hv:Vals (kv.map fun q=>kV q.1) acc.toList:=ZeM rel (by rw [Array.length_toList]; exact hacc.1) fun j v ej=>hacc.2 j v (by rw [← Array.getElem?_toList]; exact ej)
  rw [Zf5 hk] at hv
  have hI:=ZcQ hv
  have hlen:=IntsAre.length hI
  refine wpAny_bind (wpAny_newList ?_ (by rw [hlen,sizeLine_eq]; omega))
  have hoL:(h'.push { cls:=.type "list",data:=.seq acc.toList.toArray }).get? h'.objs.size=some (seqObj "list" acc.toList.toArray 0):=Heap.get?_push_size _ rfl
  refine wpAny_bind (wpAny_holding (wpAny_call_entry slot_list_sort ⟨_,hoL,rfl⟩ entry_list_sort (list_sort_tree hoL hI (by omega) fun out ns' a1 a2 a3=>⟨_,rfl,?_⟩) (args_list_sort _)))
  refine wpAny_pure ⟨_,rfl,?_⟩
  obtain ⟨e,he⟩:=sortedHeap_at (out:=out) hoL
  have hsz:s.heap.get? h'.objs.size=none:=by
   cases z:s.heap.get? h'.objs.size with
   | none=>rfl
   | some o=>exact absurd (Heap.lt_size (kp _ _ z)) (Nat.lt_irrefl _)
  exact fin _ tk _ out.toList e ns' (fun b o qq=>by rw [sortedHeap_old (Nat.ne_of_lt (Heap.lt_size (kp b o qq))) (Nat.lt_of_lt_of_le (Heap.lt_size (kp b o qq)) (by simp))]; exact Heap.get?_push_of_some _ (kp b o qq)) hsz (by simpa [seqObj] using he) a1 a2 a3
end
theorem Zga {T:CTb}{φ:List Addr}{H:Hp}:∀ (ns:List Int),RWs T φ H (ns.map W.int) (ns.map V.int)
 | []=>by unfold RWs; rfl
 | n::ns=>by rw [List.map_cons,List.map_cons]; unfold RWs; exact ⟨_,_,rfl,by unfold RW; rfl,Zga ns⟩
theorem Zro {T:CTb}{φ:List Addr}{h:Mem}{H:Hp}{w:W}{v:V}{ns:List Int}(r:RH T φ h H)(x:RW T φ H w v)(e:ZfF h w=some ns):∃ p,v=.ref p∧((ZaQ H p=some (ns.map V.int))∨∃ kv,Rd H p (.dK kv)∧ZgA kv=some ns):=by
 unfold ZfF at e
 cases e1:Za1 h w with
 | some kvs=>
  rw [e1] at e
  obtain ⟨p,kv,rfl,hp,rp⟩:=Zey r x e1
  exact ⟨p,rfl,.inr ⟨kv,hp,Zgb rp e⟩⟩
 | none=>
  rw [e1] at e
  dsimp only at e
  rw [Option.bind_eq_some_iff] at e
  obtain ⟨us,e2,e3⟩:=e
  obtain ⟨p,vs,rfl,q1,q2⟩:=ZbQ r x e2
  refine ⟨p,rfl,.inl ?_⟩
  rw [q1,ZeJ (Zht q2 e3)]
def ZfC (f:Ex):Ex:=fun ρ h=>match f ρ h with
 | .ok a h1=>(match ZfF h1 a with
  | some ns=>if ns.length<64 then .ok (.ref h1.length) (h1++[.lst ((ZbX ns).map W.int)]) else .no
  | none=>.no)
 | .ex w h1=>.ex w h1
 | .no=>.no
section
variable {X:Cx} {Z:Zc} {f:Ex} {e:Expr} {x:Str} {p pos:Pos}
theorem Zll (hh:X.calm=true)(hg:Gl X x)(hm:X.mg x=none)(hv:bootBuiltins x=some (.builtin "sorted"))(ho:QE X Z e f)(hn:x≠"__name__":=by decide)(hdb:(x == ("__debug__":Str))=false:=by decide)
  (he:starEach [e] X.env=(false,eval e X.env)::starEach [] X.env:=by rfl) (hpl:(backTo pos (starEach [] X.env)).any (·.1)=false:=by rfl):QE X Z (.Call (.Name x p) [e] [] pos) (ZfC f):=
 ⟨(ZfX (Zeh hh) hg hm hv (Zcf ho.pe pa_nil he) hn hdb he hpl).imp fun σ H Q ⟨φ,m,ρ,y,q⟩=>⟨φ,m,ρ,y,by
  unfold ZfC at q
  cases e1:f ρ m with
  | no=>rw [e1] at q; exact q.elim
  | ex w h1=>rw [e1] at q; exact q
  | ok a h1=>
   rw [e1] at q
   intro φ1 H1 va s1 r1 ra
   dsimp only at q
   cases e2:ZfF h1 a with
   | none=>rw [e2] at q; exact q.elim
   | some ns=>
    rw [e2] at q
    dsimp only at q
    by_cases h64:ns.length<64
    ·rw [if_pos h64] at q
     obtain ⟨d,rfl,hs⟩:=Zro r1 ra e2
     refine ⟨d,ns,rfl,h64,hs,fun l hl=>?_⟩
     have s2:=Zbw (φ:=φ1) (ho:=.lst ((ZbX ns).map V.int)) hl
     exact q (φ1++[l]) _ (.ref l) (s1.trans s2) (r1.new (o:=.lst ((ZbX ns).map W.int)) (ho:=.lst ((ZbX ns).map V.int)) hl ⟨_,rfl,Zga _⟩) (by unfold RW; exact ⟨l,by rw [← r1.len]; simp,rfl⟩)
    ·rw [if_neg h64] at q; exact q.elim⟩⟩
end
end M
namespace M
open PySem PySem.Spec PyProof.Rows L2
def Zb9 (c:Ex)(B:Sm):Nat→Sm
 | 0,_,_=>.no
 | n+1,ρ,h=>match c ρ h with
  | .ok (.bl true) h1=>(match B ρ h1 with
   | .nx ρ' h'=>Zb9 c B n ρ' h'
   | .ct ρ' h'=>Zb9 c B n ρ' h'
   | .bk ρ' h'=>.nx ρ' h'
   | o=>o)
  | .ok (.bl false) h1=>.nx ρ h1
  | .ex w h1=>.ex w h1
  | _=>.no
section
variable {X:Cx} {Z:Zc} {B:Sm} {c:Ex} {test:Expr} {sts:List Stmt} {pos:Pos}
theorem Zms {D:Ends}{σ:L2.St}{H:Hp}(n:Nat)(h:tHS Z (Zb9 c B n) D σ H):Zm4 (tHT Z c) (tHS Z B) D σ H:=by
 obtain ⟨φ0,h0,ρ0,x0,q0⟩:=h
 refine ⟨fun m σ' H'=>∃ φ h ρ,Here Z σ' H' φ h ρ∧(Zb9 c B m ρ h).post Z φ H' D,⟨n,φ0,h0,ρ0,x0,q0⟩,?_⟩
 rintro m σ H ⟨φ,h,ρ,x,q⟩
 refine ⟨φ,h,ρ,x,?_⟩
 cases m with
 | zero=>exact q.elim
 | succ m=>
  unfold Zb9 at q
  cases e:c ρ h with
  | no=>rw [e] at q; exact q.elim
  | ex w h1=>rw [e] at q; exact q
  | ok w h1=>
   rw [e] at q
   cases w with
   | bl b=>
    refine ⟨b,rfl,fun φ1 H1 s1 r1=>?_⟩
    cases b with
    | false=>rw [if_neg (by decide)]; exact q φ1 H1 σ s1 r1 (x.rs.step s1) x.sg
    | true=>
     rw [if_pos rfl]
     have y:=x.step s1 r1
     refine ⟨fun σ' H'=>∃ φ h ρ,Here Z σ' H' φ h ρ∧(Zb9 c B m ρ h).post Z φ H' D,fun σ' H' p=>⟨m,Nat.lt_succ_self m,p⟩,φ1,h1,ρ,y,?_⟩
     dsimp only at q
     cases e3:B ρ h1 with
     | nx ρ2 h2=>
      rw [e3] at q
      exact fun φ2 H2 σ2 s2 r2 rs2 g2=>⟨φ2,h2,ρ2,⟨g2,y.st.trans s2,r2,rs2⟩,ZaI q (s1.trans s2)⟩
     | ct ρ2 h2=>
      rw [e3] at q
      exact fun φ2 H2 σ2 s2 r2 rs2 g2=>⟨φ2,h2,ρ2,⟨g2,y.st.trans s2,r2,rs2⟩,ZaI q (s1.trans s2)⟩
     | bk ρ2 h2=>rw [e3] at q; exact ZaI (o:=.nx ρ2 h2) q s1
     | rt w2 h2=>rw [e3] at q; exact ZaI (o:=.rt w2 h2) q s1
     | ex w2 h2=>rw [e3] at q; exact q
     | no=>rw [e3] at q; exact q.elim
   | _=>exact q.elim
theorem Zig (n:Nat)(hp:PassesOwn (model X.prog X.w) X.A X.env X.xe)(hc:QT X Z test c)(hb:QB X Z sts B):QS X Z (.While test sts [] pos) (Zb9 c B n):=
 ⟨(Zmk hp hc.pt hb.ps).imp fun D σ H q=>Zms n q⟩
end
def Zsd (f g:Ex):Ex:=fun ρ h=>match f ρ h with
 | .ok (.ref n) h1=>(match h1[n]? with
  | some (.lst _)=>(match g ρ h1 with
   | .ok (.ref m) h2=>(match h2[n]?,h2[m]? with
    | some (.lst xs),some (.lst ys)=>if xs.length+ys.length≤sizeLine then .ok .non (h2.set n (.lst (xs++ys))) else .no
    | _,_=>.no)
   | .ex w h2=>.ex w h2
   | _=>.no)
  | _=>.no)
 | .ex w h1=>.ex w h1
 | _=>.no
section
variable {X:Cx} {Z:Zc} {f g:Ex} {o e:Expr} {apos cpos:Pos}
theorem Zml (ho:QE X Z o f)(he:QE X Z e g)(hbase:attributeBase o "extend" X.env (eval o X.env)=eval o X.env:=by rfl)
  (hfew:((backTo cpos (starEach [e] X.env)).all (fun x=>!x.1) && (backToKw cpos (keywordEach [] X.env)).all (fun x=>x.1.isSome)
   && decide (([e]:List Expr).length+([]:List Keyword).length+(if ([]:List Keyword).isEmpty then 0 else 1)<30))=true:=by rfl)
  (hline:(apos.endLine == cpos.line)=true:=by rfl) (hs:starEach [e] X.env=(false,eval e X.env)::starEach [] X.env:=by rfl) (hplain:(backTo cpos (starEach [] X.env)).any (·.1)=false:=by rfl) :
  QE X Z (.Call (.Attribute o "extend" apos) [e] [] cpos) (Zsd f g):=
 ⟨(ZnF PySem.F.plainAttrs_list PySem.F.slot_list_extend PySem.F.type_list_extend Zlb ho.pe (Zcf he.pe pa_nil hs) hbase hfew hline hs hplain).imp fun σ H Q ⟨φ,h,ρ,x,q⟩=>⟨φ,h,ρ,x,by
  unfold Zsd at q
  cases e1:f ρ h with
  | no=>rw [e1] at q; exact q.elim
  | ex w h'=>rw [e1] at q; exact q
  | ok a h1=>
   rw [e1] at q
   intro φ1 H1 v s1 r1 ra
   cases a with
   | ref n=>
    dsimp only at q
    cases e2:h1[n]? with
    | none=>rw [e2] at q; exact q.elim
    | some ob=>
     rw [e2] at q
     cases ob with
     | lst us0=>
      dsimp only at q
      obtain ⟨p,vs0,rfl,ep,yp,rx0⟩:=Ze5 r1 ra e2
      refine ⟨.inl ⟨rfl,vs0,Zav (Zbj yp)⟩,φ1,h1,ρ,x.step s1 r1,?_⟩
      cases e3:g ρ h1 with
      | no=>rw [e3] at q; exact q.elim
      | ex w h'=>rw [e3] at q; exact q
      | ok b h2=>
       rw [e3] at q
       cases b with
       | ref m=>
        intro φ2 H2 vb s2 r2 rb
        dsimp only at q
        cases e4:h2[n]? with
        | none=>rw [e4] at q; exact q.elim
        | some ob2=>
         cases e5:h2[m]? with
         | none=>rw [e4,e5] at q; cases ob2 <;> exact q.elim
         | some ob3=>
          rw [e4,e5] at q
          cases ob2 with
          | lst xs=>
           cases ob3 with
           | lst ys=>
            dsimp only at q
            by_cases hz:xs.length+ys.length≤sizeLine
            ·rw [if_pos hz] at q
             have ep2:=s2.get ep
             obtain ⟨hx,yx,vx,rfl,rx⟩:=r2.obj n _ p e4 ep2
             obtain ⟨p2,vy,rfl,ep3,yy,ry⟩:=Ze5 r2 rb e5
             have s3:=Zbx (H:=H2) (ho:=.lst (vx++vy)) (List.mem_of_getElem? ep2) (ZgT yx)
             have r3:=r2.set (o:=.lst (xs++ys)) (ho:=.lst (vx++vy)) ep2 ⟨_,rfl,ZcO rx ry⟩
             exact ⟨p,p2,vx,vy,rfl,rfl,yx,yy,by rw [← rx.length,← ry.length]; exact hz,q φ2 _ .non (s1.trans (s2.trans s3)) r3 (by unfold RW; rfl)⟩
            ·rw [if_neg hz] at q; exact q.elim
           | _=>exact q.elim
          | _=>cases ob3 <;> exact q.elim
       | _=>exact q.elim
     | _=>exact q.elim
   | _=>exact q.elim⟩⟩
end
end M
namespace M
open PySem PySem.Spec PyProof.Rows L2
theorem ZqZ {P:Program}{w:World}{K:PySem.W.Frag}{mg:Str→Option Value}{base:Heap}{CX:CXT}{k:Nat}{f:Addr}{fd:FuncData}{ps:List Str}{T:CTb}:FnOk P w K mg base CX k f fd ps (spH T fun _ _=>.no):=
 ⟨fun _ _ _ _ h=>by obtain ⟨_,_,_,_,_,q⟩:=h; exact q.elim,fun _ _ _ _ _ _ _ _ _ _ _ _ _ _ h=>by obtain ⟨_,_,_,_,_,q⟩:=h; exact q.elim⟩
end M
namespace PySem
open PySem.W
end PySem
namespace M
open PySem PySem.Spec PyProof.Rows L2
theorem ZeU {α β:Type}{F:α→β→Prop}{a:α}{b:β}(h:F a b):∀ {l₁:List α} {l₂:List β},Paired F l₁ l₂→Paired F (l₁++[a]) (l₂++[b])
 | _,_,.nil=>.cons h .nil
 | _,_,.cons r t=>.cons r (ZeU h t)
theorem ZfM {α β:Type}{F:α→β→Prop}:∀ {l₁:List α} {l₂:List β},Paired F l₁ l₂→Paired F l₁.reverse l₂.reverse
 | _,_,.nil=>.nil
 | _,_,.cons r t=>by
  rw [List.reverse_cons,List.reverse_cons]
  exact ZeU r (ZfM t)
section
variable {X:Cx} {Z:Zc} {f:Ex} {e:Expr} {x y:Str} {p p2 pos pos2:Pos} {te:TE}
theorem Zlc {T:CTb}{φ:List Addr}{H:Hp}:∀ {ws:List W} {vs:List V},RWs T φ H ws vs→RWs T φ H ws.reverse vs.reverse
 | [],vs,r=>by unfold RWs at r; subst r; unfold RWs; rfl
 | w::ws,vs,r=>by
  unfold RWs at r
  obtain ⟨v,s,rfl,a,b⟩:=r
  rw [List.reverse_cons,List.reverse_cons]
  exact ZeA (Zlc b) a
end
end M
namespace M
open PySem PySem.Spec PyProof.Rows L2
theorem Zkz {α:Type}(p:Key×α)(kvs:List (Key×α))(k:Key):ZeD (p::kvs) k=if p.1=k then some p.2 else ZeD kvs k:=by
 unfold ZeD
 rw [List.find?_cons]
 by_cases h:p.1=k <;> simp [h]
theorem ZeI {α:Type}{kvs:List (Key×α)}(nd:(kvs.map (·.1)).Nodup){k:Key}{v:α}:(k,v)∈kvs↔ZeD kvs k=some v:=by
 induction kvs with
 | nil=>simp [ZeD]
 | cons p r ih=>
  rw [List.map_cons,List.nodup_cons] at nd
  rw [Zkz,List.mem_cons]
  by_cases h:p.1=k
  ·rw [if_pos h]
   constructor
   ·rintro (e | e)
    ·rw [← e]
    ·exact absurd (List.mem_map.mpr ⟨_,e,h.symm⟩) nd.1
   ·intro e
    refine .inl ?_
    rw [← h,← Option.some.inj e]
  ·rw [if_neg h,← ih nd.2]
   constructor
   ·rintro (e | e)
    ·exact absurd (by rw [← e]) h
    ·exact e
   ·exact .inr
def ow:Option Int→W
 | none=>.non
 | some n=>.int n
def Zsm (p:Option Int→Bool)(row:List (Option Int)):List Nat:=(List.range 16).filter fun k=>p (row.getD k none)
def prs (row:List (Option Int)):List W:=(Zsm Option.isSome row).map fun (k:Nat)=>W.tup [.int (k:Int),ow (row.getD k none)]
end M
namespace M
open PySem PySem.Spec PyProof.Rows L2
end M
namespace L2
open PySem PySem.Spec PyProof.Rows
end L2
namespace M
open PySem PySem.Spec PyProof.Rows L2
theorem Zlv {P:Program}{w:World}{K:PySem.W.Frag}{mg:Str→Option Value}{base:Heap}{CX:CXT}{T:CTb}{x:Str}{st:Stmt}{ps:List Str}{k:Nat}(R:DefAt K mg x st)(hb:Zal x x st ps):ZbU P w K mg base CX k x (spH T fun _ _=>.no):=by
 obtain ⟨f,fd,F,e1⟩:=R
 exact ⟨f,fd,ps,ZqZ,e1,F.kp,F.binds hb⟩
section
variable {X:Cx} {Z:Zc}
def gT3 (i j l:Nat):Tg:=fun w ρ=>match w with
 | .tup [a,b,c]=>some (((ρ.set i (some a)).set j (some b)).set l (some c))
 | _=>none
end
end M
namespace PySem
namespace F
theorem slot_lri_hint:Slot "list_reverseiterator" "__length_hint__" "list_reverseiterator.__length_hint__":=
 .of (owner:="list_reverseiterator") (n:="__length_hint__") (by rw [typeLookup_type,builtinLookup_eq_fast]; kernel_rfl) (by decide +kernel) (by decide +kernel) (by decide +kernel)
  (by first | exact .inl (by decide +kernel) | exact .inr (by decide +kernel)) (by rw [isSubtype_type]; kernel_rfl)
theorem len_lri:typeLookup (.type "list_reverseiterator") "__len__"=pure none:=by rw [typeLookup_type,builtinLookup_eq_fast]; kernel_rfl
end F
open PySem.W
section
variable {prog:Program} {w:World} {A:Around} {E:Value→Shared→Prop} {s:Shared}
theorem Zmf {it l:Addr}{i:Int}{items:Array Value}{Q:Bool→Shared→Prop}(hit:s.heap.IsRevIter it l i)(hl:s.heap.IsList l items)(hi:i+1≤items.size)(h0:0≤i+1)(h1:i+1≤16777216)(h:∀ b tk,Q b { s with toks:=tk }) :
  wpAny (model prog w) A (Builtin.List.listLengthHint (.ref it)) Q E s:=by
 unfold Builtin.List.listLengthHint
 refine wpAny_bind (wpAny_specialOf hit.typeIs F.len_lri ?_)
 refine wpAny_ite_split (fun hab=>absurd hab (by decide)) (fun _=>?_)
 refine wpAny_ite_split (fun hab=>absurd hab (by decide)) (fun _=>?_)
 refine wpAny_bind (wpAny_specialOf hit.typeIs F.slot_lri_hint.lookup ?_)
 generalize hid:("list_reverseiterator.__length_hint__":String)=id0
 wp_delta
 rw [show splitId id0=some ("list_reverseiterator","__length_hint__") from by subst hid; decide +kernel]
 subst hid
 refine wpAny_bind (wpAny_isInstance (T:="list_reverseiterator") (b:=true) hit.typeIs (by rw [isSubtype_type]; kernel_rfl) ?_)
 refine wpAny_ite_split (fun hab=>absurd hab (by decide)) (fun _=>?_)
 refine wpAny_ite_split (fun _=>?_) (fun hab=>absurd (by decide +kernel) hab)
 refine wpAny_ite_split (fun hab=>absurd hab (by decide +kernel)) (fun _=>?_)
 try refine wpAny_bind (wpAny_pure ?_)
 exact wpAny_pure (h _ s.toks)
theorem Zi2 {it l:Addr}{items:Array Value}{R:Result→Shared→Prop}(hh:A.handled=none)(hne:l≠it)(hit:s.heap.IsRevIter it l ((items.size:Int) - 1))(hl:s.heap.IsList l items)(S:Addr)(hSr:S≠it)(hSd:S≠l)(res:Value)(c₀:Nat)(hS:s.heap.get? S=some { cls:=.type "list",data:=.seq #[] c₀ })
  (hR:∀ h' tk acc' c',(∀ b o,b≠S→b≠it→s.heap.get? b=some o→h'.get? b=some o)→h'.get? S=some { cls:=.type "list",dict:=none,data:=.seq acc' c',slots:=#[] }→ItemsOf (fun i v=>items[items.size - 1 - i]? = some v) acc' items.size→R (.ok (.ret res)) { s with heap:=h',toks:=tk }) (hn:items.size≤sizeLine) :
  wpAny (model prog w) A.in1 (Builtin.List.listExtendWith (.ref S) (.ref it) res)
   (fun fin s'=>match fin with | .done f=>R (.ok f) s' | .again c'=>c'.quiet=true∧codeAny (model prog w) A c' R s') (fun e s'=>R (.error e) s') s:=by
 have W:=Walks.listRev (prog:=prog) (w:=w) (A:=A.in1) hh it l hne items
 have hSf:S ∉ [it,l]:=by simp only [List.mem_cons,List.not_mem_nil,or_false,not_or]; exact ⟨hSr,hSd⟩
 have st:(fun (i:Nat) (h:Heap)=>i≤items.size∧h.IsRevIter it l ((items.size:Int) - 1 - (i:Int))∧h.IsList l items) 0 s.heap:=⟨Nat.zero_le _,by simpa using hit,hl⟩
 have key:∀ (h:Heap) (c₁ tk:Nat),(fun (i:Nat) (h:Heap)=>i≤items.size∧h.IsRevIter it l ((items.size:Int) - 1 - (i:Int))∧h.IsList l items) 0 h→(∀ b o,b≠S→s.heap.get? b=some o→h.get? b=some o) →
   h.get? S=some { cls:=.type "list",data:=.seq #[] c₁ }→codeAny (model prog w) A (.builtin "list.extend.loop" ⟨[.ref S,.ref it,res],[]⟩) R { s with heap:=h,toks:=tk }:=by
  intro h c₁ tk hst hk hS₁
  refine codeAny_extend_loopS W.toS hn S hSf res items.size 0 _ #[] c₁ rfl (Nat.zero_le _) hst hS₁ (ItemsOf.nil _) fun s' acc' c' hm hS' hacc=>?_
  rw [Moved.eq_with hm]
  refine hR s'.heap s'.toks acc' c' (fun b o hb hb2 e=>hm.heap b o (fun hmem=>?_) (hk b o hb e)) hS' hacc
  rcases List.mem_cons.mp hmem with e' | hmem
  ·exact hb e'
  ·exact hb2 (List.mem_singleton.mp hmem)
 unfold Builtin.List.listExtendWith
 refine wpAny_bind (wpAny_typeOf hit.typeIs ?_)
 have h1:Builtin.List.listSameRef (.ref S) (.ref it)=false:=by simp [Builtin.List.listSameRef,hSr]
 simp only [h1,show (Value.type "list_reverseiterator" == Value.type "list")=false by decide,show (Value.type "list_reverseiterator" == Value.type "tuple")=false by decide,Bool.or_false,Bool.false_eq_true,if_false]
 refine wpAny_bind (wpAny_pyIter_revIter hit ?_)
 rw [sizeLine_eq] at hn
 refine wpAny_bind (wpAny_holding (Zmf hit hl (by omega) (by omega) (by omega) fun room tk=>?_))
 refine wpAny_ite_split (fun _=>?_) (fun _=>wpAny_pure ⟨plainId_quiet PySem.F.plain_extend_loop _,key _ c₀ _ st (fun b o _ e=>e) hS⟩)
 refine wpAny_bind (wpAny_rule ?_)
 refine wpAny_bind ?_
 show wpAny _ _ (updateSeq S (·.push .none) >>= fun _=>updateSeq S (·.pop)) _ _ _
 refine wpAny_bind (wpAny_updateSeq (s:={ s with toks:=tk }) hS rfl ?_)
 have hS₂:=Heap.get?_update_self (Obj.mapSeq (·.push Value.none)) hS rfl
 refine wpAny_updateSeq (hz:=by seq_fits) hS₂ rfl ?_
 have hS₃:=Heap.get?_update_self (Obj.mapSeq (·.pop)) hS₂ rfl
 refine wpAny_pure ⟨plainId_quiet PySem.F.plain_extend_loop _,key _ _ _ ?_ (fun b o hb e=>?_) hS₃⟩
 ·refine W.frame 0 _ _ st fun b hb o e=>?_
  have hbS:b≠S:=fun h=>hSf (h ▸ hb)
  exact (Heap.get?_update_other _ _ (Ne.symm hbS)).trans ((Heap.get?_update_other _ _ (Ne.symm hbS)).trans e)
 ·exact (Heap.get?_update_other _ _ (Ne.symm hb)).trans ((Heap.get?_update_other _ _ (Ne.symm hb)).trans e)
theorem ZlG {it l:Addr}{items:Array Value}{R:Result→Shared→Prop}(hh:A.handled=none)(hne:l≠it)(hit:s.heap.IsRevIter it l ((items.size:Int) - 1))(hl:s.heap.IsList l items)(S:Addr)(hSr:S≠it)(hSd:S≠l)(hS:s.heap.get? S=some { cls:=.type "list",data:=.seq #[] })
  (hR:∀ h' tk acc' c',(∀ b o,b≠S→b≠it→s.heap.get? b=some o→h'.get? b=some o)→h'.get? S=some { cls:=.type "list",dict:=none,data:=.seq acc' c',slots:=#[] }→ItemsOf (fun i v=>items[items.size - 1 - i]? = some v) acc' items.size→R (.ok (.ret .none)) { s with heap:=h',toks:=tk }) (hn:items.size≤sizeLine) :
  wpAny (model prog w) A.in1 (Builtin.«list.__init__» ⟨[.ref S,.ref it],[]⟩)
   (fun fin s'=>match fin with | .done f=>R (.ok f) s' | .again c'=>c'.quiet=true∧codeAny (model prog w) A c' R s') (fun e s'=>R (.error e) s') s:=by
 show wpAny _ _ (do let old ← Builtin.List.listItems (.ref S); Builtin.List.listUpdate (.ref S) (fun _=>#[]); letGo old.toList.reverse; Builtin.List.listExtendWith (.ref S) (.ref it) .none) _ _ s
 refine wpAny_bind ?_
 unfold Builtin.List.listItems
 refine wpAny_bind (wpAny_seqItems hS rfl (wpAny_pure ?_))
 show wpAny _ _ (updateSeq S (fun _=>#[]) >>= fun _=>letGo (#[]:Array Value).toList.reverse >>= fun _=>Builtin.List.listExtendWith (.ref S) (.ref it) .none) _ _ s
 refine wpAny_bind (wpAny_updateSeq hS rfl ?_)
 have hS₂:=Heap.get?_update_self (Obj.mapSeq (fun _=>(#[]:Array Value))) hS rfl
 have oth:∀ b o,b≠S→s.heap.get? b=some o→(s.heap.update S (Obj.mapSeq (fun _=>(#[]:Array Value)))).get? b=some o:=
  fun b o hb e=>(Heap.get?_update_other _ _ (Ne.symm hb)).trans e
 refine wpAny_bind (wpAny_letGo ?_)
 refine Zi2 hh hne (hit.at fun o e=>oth _ o (Ne.symm hSr) e) (hl.at fun o e=>oth _ o (Ne.symm hSd) e) S hSr hSd .none _ hS₂ (fun h' tk acc' c' hk hS' hacc=>?_) hn
 exact hR h' tk acc' c' (fun b o hb hb2 e=>hk b o hb hb2 (oth b o hb e)) hS' hacc
theorem ZlY {it l:Addr}{items:Array Value}{Q:Value→Shared→Prop}(hh:A.handled=none)(hne:l≠it)(hit:s.heap.IsRevIter it l ((items.size:Int) - 1))(hl:s.heap.IsList l items)(hn:items.size≤sizeLine)
  (hQ:∀ h' tk acc' c',(∀ b o,b≠it→s.heap.get? b=some o→h'.get? b=some o)→h'.get? s.heap.objs.size=some { cls:=.type "list",dict:=none,data:=.seq acc' c',slots:=#[] }→ItemsOf (fun i v=>items[items.size - 1 - i]? = some v) acc' items.size→Q (.ref s.heap.objs.size) { s with heap:=h',toks:=tk }) :
  wpAny (model prog w) A (call (.type "list") [.ref it]) Q E s:=by
 refine callType_codes (Q₁:=fun obj s₁=>obj=.ref s.heap.objs.size∧s₁ = { s with heap:=s.heap.push { cls:=.type "list",data:=.seq #[] } }) PySem.F.called_list (PySem.F.typeCall_list_1 _) PySem.F.entry_list_init
  (code_list_new _ ⟨rfl,rfl⟩) fun obj s₁ h₁=>?_
 obtain ⟨rfl,rfl⟩:=h₁
 have hS:(s.heap.push { cls:=.type "list",data:=.seq #[] }).get? s.heap.objs.size=some { cls:=.type "list",data:=.seq #[] }:=Heap.get?_push_size _ rfl
 have hlt1:it<s.heap.objs.size:=let ⟨_,ho,_⟩:=hit; Heap.lt_size ho
 have hlt2:l<s.heap.objs.size:=let ⟨_,ho,_⟩:=hl; Heap.lt_size ho
 refine ⟨⟨_,hS,rfl⟩,PySem.F.args_list_init_2 _ _,ZlG (A:=A.in1) hh hne (hit.at fun o e=>Heap.get?_push_of_some _ e) (hl.at fun o e=>Heap.get?_push_of_some _ e) _ (Nat.ne_of_gt hlt1) (Nat.ne_of_gt hlt2) hS (fun h' tk acc' c' hk hS' hacc=>?_) hn⟩
 exact ⟨rfl,hQ h' tk acc' c' (fun b o hb e=>hk b o (Nat.ne_of_lt (Heap.lt_size e)) hb (Heap.get?_push_of_some _ e)) hS' hacc⟩
end
end PySem
namespace M
open PySem PySem.Spec PyProof.Rows L2
section
variable {X:Cx} {Z:Zc} {f:Ex} {e:Expr} {x y:Str} {p p2 pos pos2:Pos} {te:TE}
def Zs9 (te:TE):TE:=fun σ H Q=>te σ H fun v H1=>∃ d vs,v=.ref d∧ZaQ H1 d=some vs∧∀ l,H1 l=none→Q (.ref l) (upd H1 l (.lst vs.reverse))
theorem ZhQ (hh:X.calm=true)(hg:Gl X x)(hm:X.mg x=none)(hv:bootBuiltins x=some (.type "list"))(hg2:Gl X y)(hm2:X.mg y=none)(hv2:bootBuiltins y=some (.type "reversed"))(he:PE X e te)
  (hn:x≠"__name__":=by decide) (hdb:(x == ("__debug__":Str))=false:=by decide) (hn2:y≠"__name__":=by decide) (hdb2:(y == ("__debug__":Str))=false:=by decide)
  (hs:starEach [.Call (.Name y p2) [e] [] pos2] X.env=(false,eval (.Call (.Name y p2) [e] [] pos2) X.env)::starEach [] X.env:=by rfl) (hs2:starEach [e] X.env=(false,eval e X.env)::starEach [] X.env:=by rfl)
  (hpl:(backTo pos (starEach [] X.env)).any (·.1)=false:=by rfl) (hpl2:(backTo pos2 (starEach [] X.env)).any (·.1)=false:=by rfl) :
  PE X (.Call (.Name x p) [.Call (.Name y p2) [e] [] pos2] [] pos) (Zs9 te):=by
 intro pins s σ H Q I h
 refine wpAny_Call_Name_kw (Zfi I hg hm hv ?_ hn hdb)
 refine PyProof.Rows.callWith_type1 ?_ hs hpl
 rw [hs]
 show wpAny _ _ (spliced ((false,eval (.Call (.Name y p2) [e] [] pos2) X.env)::backTo pos (starEach [] X.env))) _ _ s
 refine Calls.spliced_cons ?_
 refine wpAny_Call_Name_kw (Zfi I hg2 hm2 hv2 ?_ hn2 hdb2)
 refine PyProof.Rows.callWith_type1 ?_ hs2 hpl2
 rw [hs2]
 show wpAny _ _ (spliced ((false,eval e X.env)::backTo pos2 (starEach [] X.env))) _ _ s
 refine Calls.spliced_cons (thn (he pins s σ H _ I h) fun u s1 ⟨v,H1,I1,rx,d,vs,ev,hd,q⟩=>wpAny_pure ?_)
 subst ev
 cases rx
 obtain ⟨hz,its,c0,rel,g⟩:=(show ObjOk X.prog X.w H1 s1.heap d (.lst vs) from ZnA I1.hok (ZbN hd))
 have isl:s1.heap.IsList d its.toArray:=⟨_,g,rfl,_,rfl⟩
 refine call_reversed_list isl ?_
 refine wpAny_pure ?_
 have hlt:d<s1.heap.objs.size:=Heap.lt_size g
 have hsize:its.toArray.size=vs.length:=by rw [List.size_toArray]; exact (Paired.length rel).symm
 have hit:(s1.heap.push (revObj d ((its.toArray.size:Int) - 1))).IsRevIter s1.heap.objs.size d ((its.toArray.size:Int) - 1):=⟨_,Heap.get?_push_size _ rfl,rfl,rfl⟩
 refine ZlY (I.ok.hd hh) (Nat.ne_of_lt hlt) hit (isl.at fun o e=>Heap.get?_push_of_some _ e) (by rw [hsize]; exact hz) fun h' tk acc c kp hl hacc=>?_
 have ea:acc.toList=its.reverse:=by
  apply List.ext_getElem?
  intro j
  obtain ⟨a1,a2⟩:=hacc
  by_cases hj:j<its.length
  ·have hj2:j<acc.size:=by rw [a1]; simpa using hj
   rw [List.getElem?_reverse hj]
   have e1:acc[j]? = some acc[j]:=Array.getElem?_eq_getElem hj2
   have e2:=a2 j _ e1
   rw [Array.getElem?_toList,e1,← e2]
   simp
  ·rw [List.getElem?_eq_none (l:=acc.toList) (by rw [Array.length_toList,a1]; simp; omega),List.getElem?_eq_none (l:=its.reverse) (by rw [List.length_reverse]; omega)]
 have hv:Vals vs.reverse acc.toList:=by rw [ea]; exact ZfM rel
 have kp':∀ b o,s1.heap.get? b=some o→h'.get? b=some o:=fun b o e=>kp b o (Nat.ne_of_lt (Heap.lt_size e)) (Heap.get?_push_of_some _ e)
 have hsz:(s1.heap.push (revObj d ((its.toArray.size:Int) - 1))).objs.size=s1.heap.objs.size+1:=by simp [Heap.push]
 rw [hsz] at hl ⊢
 obtain ⟨hn',I2⟩:=Zn3 (a:=s1.heap.objs.size+1) (t':=tk) (o:=.lst vs.reverse) I1 kp' (Heap.get?_none_of_le (Nat.le_succ _)) (show ObjOk X.prog X.w _ h' _ (.lst vs.reverse) from ⟨by simpa using hz,acc.toList,c,hv,by simpa using hl⟩)
 exact ⟨.ref _,_,I2,rfl,q _ hn'⟩
def ZpE (f:Ex):Ex:=fun ρ h=>match f ρ h with
 | .ok a h1=>(match items h1 a with
  | some ws=>.ok (.ref h1.length) (h1++[.lst ws.reverse])
  | none=>.no)
 | .ex w h1=>.ex w h1
 | .no=>.no
theorem Zqx (hh:X.calm=true)(hg:Gl X x)(hm:X.mg x=none)(hv:bootBuiltins x=some (.type "list"))(hg2:Gl X y)(hm2:X.mg y=none)(hv2:bootBuiltins y=some (.type "reversed"))(ho:QE X Z e f)
  (hn:x≠"__name__":=by decide) (hdb:(x == ("__debug__":Str))=false:=by decide) (hn2:y≠"__name__":=by decide) (hdb2:(y == ("__debug__":Str))=false:=by decide)
  (hs:starEach [.Call (.Name y p2) [e] [] pos2] X.env=(false,eval (.Call (.Name y p2) [e] [] pos2) X.env)::starEach [] X.env:=by rfl) (hs2:starEach [e] X.env=(false,eval e X.env)::starEach [] X.env:=by rfl)
  (hpl:(backTo pos (starEach [] X.env)).any (·.1)=false:=by rfl) (hpl2:(backTo pos2 (starEach [] X.env)).any (·.1)=false:=by rfl) :
  QE X Z (.Call (.Name x p) [.Call (.Name y p2) [e] [] pos2] [] pos) (ZpE f):=
 ⟨(ZhQ hh hg hm hv hg2 hm2 hv2 ho.pe hn hdb hn2 hdb2 hs hs2 hpl hpl2).imp fun σ H Q ⟨φ,m,ρ,y,q⟩=>⟨φ,m,ρ,y,by
  unfold ZpE at q
  cases e1:f ρ m with
  | no=>rw [e1] at q; exact q.elim
  | ex w h1=>rw [e1] at q; exact q
  | ok a h1=>
   rw [e1] at q
   intro φ1 H1 va s1 r1 ra
   dsimp only at q
   cases e2:items h1 a with
   | none=>rw [e2] at q; exact q.elim
   | some ws=>
    rw [e2] at q
    obtain ⟨d,vs,rfl,hd,rp⟩:=ZbQ r1 ra e2
    refine ⟨d,vs,rfl,hd,fun l hl=>?_⟩
    have s2:=Zbw (φ:=φ1) (ho:=.lst vs.reverse) hl
    exact q (φ1++[l]) _ (.ref l) (s1.trans s2) (r1.new (o:=.lst ws.reverse) (ho:=.lst vs.reverse) hl ⟨_,rfl,Zlc rp⟩) (by unfold RW; exact ⟨l,by rw [← r1.len]; simp,rfl⟩)⟩⟩
end
end M
namespace M
open PySem PySem.Spec PyProof.Rows L2
class PuM (F:Sm):Prop where
 rt:∀ ρ h w h',F ρ h=.rt w h'→h'=h
 nx:∀ ρ h ρ' h',F ρ h=.nx ρ' h'→h'=h
instance ZsB {f:Ex}[hf:Pu f]:PuM (ZdT f):=by
 refine ⟨fun ρ h w h' e=>?_,fun ρ h ρ' h' e=>?_⟩
 ·unfold ZdT at e
  cases e2:f ρ h with
  | ok a h1=>rw [e2] at e; cases e; exact hf.pu _ _ _ _ e2
  | ex a h1=>rw [e2] at e; cases e
  | no=>rw [e2] at e; cases e
 ·unfold ZdT at e
  cases e2:f ρ h with
  | ok a h1=>rw [e2] at e; cases e
  | ex a h1=>rw [e2] at e; cases e
  | no=>rw [e2] at e; cases e
instance ZrW:PuM Zbv:=⟨fun ρ h w h' e=>(by cases e),fun ρ h ρ' h' e=>(by cases e; rfl)⟩
theorem Znq {c:Ex}{F G:Sm}[hc:Pu c]{ρ:Sg}{h:Mem}{P:Out→Prop}(p0:∀ w h1,P (.ex w h1))(p1:P .no)(p2:P (F ρ h))(p3:P (G ρ h)):P (Zcl c F G ρ h):=by
 unfold Zcl
 cases e2:c ρ h with
 | ex w h1=>exact p0 w h1
 | no=>exact p1
 | ok a h1=>
  have:=hc.pu _ _ _ _ e2
  subst this
  cases a with
  | bl b=>cases b <;> assumption
  | _=>exact p1
instance ZtY {c:Ex}{F G:Sm}[hc:Pu c][hF:PuM F][hG:PuM G]:PuM (Zcl c F G):=by
 refine ⟨fun ρ h=>?_,fun ρ h=>?_⟩
 ·exact Znq (P:=fun o=>∀ w h',o=.rt w h'→h'=h) (fun _ _ _ _ e=>by cases e) (fun _ _ e=>by cases e) (hF.rt ρ h) (hG.rt ρ h)
 ·exact Znq (P:=fun o=>∀ ρ' h',o=.nx ρ' h'→h'=h) (fun _ _ _ _ e=>by cases e) (fun _ _ e=>by cases e) (hF.nx ρ h) (hG.nx ρ h)
instance Zsa {F G:Sm}[hF:PuM F][hG:PuM G]:PuM (Zcc F G):=by
 refine ⟨fun ρ h w h' e=>?_,fun ρ h ρ' h' e=>?_⟩
 ·unfold Zcc at e
  cases e2:F ρ h with
  | nx ρ1 h1=>rw [e2] at e; have:=hF.nx _ _ _ _ e2; subst this; exact hG.rt _ _ _ _ e
  | rt a h1=>rw [e2] at e; cases e; exact hF.rt _ _ _ _ e2
  | _=>rw [e2] at e; cases e
 ·unfold Zcc at e
  cases e2:F ρ h with
  | nx ρ1 h1=>rw [e2] at e; have:=hF.nx _ _ _ _ e2; subst this; exact hG.nx _ _ _ _ e
  | _=>rw [e2] at e; cases e
instance Zql {n m:Nat}{F:Sm}[hF:PuM F]:PuF (ZeL n m F):=⟨fun ws h w h' e=>by
 unfold ZeL ZdA at e
 by_cases hl:ws.length=n
 ·rw [if_pos hl] at e
  cases e2:F (ZaS m ws) h with
  | rt w1 h1=>
   have:=hF.rt _ _ _ _ e2
   subst this
   rw [e2] at e
   simp [Out.res] at e
   exact e.2.symm
  | nx ρ1 h1=>
   have:=hF.nx _ _ _ _ e2
   subst this
   rw [e2] at e
   simp [Out.res] at e
   first | exact e.2.symm | exact e.elim
  | _=>rw [e2] at e; simp [Out.res] at e
 ·rw [if_neg hl] at e; cases e⟩
def Zno (_:Mem):List W→Option W
 | [.int i]=>if i.natAbs.log2<1920 then some (.str (Str.ofString (toString i))) else none
 | _=>none
theorem Zhs {T:CTb}:CbW T Zno (fun xs H Q=>∃ i,xs=[.int i]∧i.natAbs.log2<1920∧Q (.str (toString i)) H):=by
 intro φ h H ws vs w Q r x e k
 unfold Zno at e
 split at e
 ·rename_i i
  obtain ⟨v,rfl,y0⟩:=ZbJ x
  rw [ZbC y0]
  split at e
  ·rename_i hi
   cases e
   exact ⟨_,rfl,hi,ZaN r (by unfold RW; rfl) k⟩
  ·cases e
 ·cases e
section
variable {X:Cx} {Z:Zc}
def gT4 (i j l m:Nat):Tg:=fun w ρ=>match w with
 | .tup [a,b,c,d]=>some ((((ρ.set i (some a)).set j (some b)).set l (some c)).set m (some d))
 | _=>none
end
end M
namespace M
open PySem PySem.Spec PyProof.Rows L2
end M
namespace M
open PySem PySem.Spec PyProof.Rows L2
theorem Ztt:∀ (fu n r:Nat),r≤1→minRun' fu n r≤n+r
 | 0,n,r,_=>Nat.le_refl _
 | fu+1,n,r,h=>by
  rw [minRun'_succ]
  split
  ·exact Nat.le_refl _
  ·have:=Ztt fu (n / 2) (max r (n % 2)) (by omega)
   omega
section
variable {p0:Program} {w0:World} {A0:Around} {E0:Value→Shared→Prop} {s0:Shared} {ks:Array Keyed}
theorem ZoH {st:SortSt}{Q:Option Nat→SortSt→Prop}(ik:IntKeys ks)(sb:SBase ks st)(one:1≤ks.size)(up:SortedTo (arrOf st) ks.size)(k:Q (some ks.size) st):wpS (model p0 w0) A0 E0 s0 (countRun' 0 ks.size) Q st:=by
 rw [countRun0_eq]
 refine wpS_bind (wpS_ascLoop ik (Nat.le_refl _) (Nat.le_refl 1) one sb (fun i j hij hj=>by
  obtain rfl:i=j:=by omega
  exact Int.le_refl _) fun n n1 n2 _ or=>?_)
 dsimp only
 have e:n=ks.size:=by
  rcases or with e | e
  ·exact e
  ·by_cases z:n=ks.size
   ·exact z
   ·have:=up (n - 1) n (by omega) (by omega)
    omega
 subst e
 rw [if_pos (by simp)]
 exact wpS_pure k
theorem Zqs {st:SortSt}{Q:Unit→SortSt→Prop}(ik:IntKeys ks)(sb:SBase ks st)(two:2≤ks.size)(up:SortedTo (arrOf st) ks.size)
  (k:∀ st2,arrOf st2=arrOf st→failedOf st2=none→Q () st2):wpS (model p0 w0) A0 E0 s0 sortRuns' Q st:=by
 rw [sortRuns'_eq]
 refine wpS_bind (wpS_get ?_)
 dsimp only
 have mr:¬ks.size<minRun' ks.size ks.size 0:=by
  have:=Ztt ks.size ks.size 0 (by omega)
  omega
 rw [sb.size]
 obtain ⟨mrv,hmr⟩:∃ mrv,minRun' ks.size ks.size 0=mrv:=⟨_,rfl⟩
 rw [hmr] at mr
 rw [hmr]
 refine wpS_bind (wpS_mono (wpS_forRange (I:=fun x c t=>(x=0∧c=(none,0)∧t=st)∨(1≤x∧c=(none,ks.size)∧t=setPending st ((pendingOf st).push (0,ks.size,0))))
  (Q:=fun c t=>c=(none,ks.size)∧t=setPending st ((pendingOf st).push (0,ks.size,0))) ?go ?end_ (.inl ⟨rfl,rfl,rfl⟩)) ?after)
 case end_=>
  rintro c t (⟨z,_,_⟩ | ⟨_,z1,z2⟩)
  ·omega
  ·exact ⟨z1,z2⟩
 case go=>
  rintro x c t _ hx (⟨rfl,rfl,rfl⟩ | ⟨_,rfl,rfl⟩)
  ·dsimp only
   rw [if_neg (by omega)]
   simp only [Nat.sub_zero,Nat.zero_add]
   refine wpS_bind (ZoH ik sb (by omega) up ?_)
   dsimp only
   rw [if_neg mr]
   refine wpS_bind (wpS_get ?_)
   have nb:(pendingOf t).back? = none:=by rw [sb.pend]; rfl
   rw [nb]
   dsimp only
   exact wpS_bind (wpS_modify (wpS_pure (.inr ⟨by omega,rfl,rfl⟩)))
  ·dsimp only
   rw [if_pos (Nat.le_refl _)]
   exact wpS_pure ⟨rfl,rfl⟩
 case after=>
  rintro c t ⟨rfl,rfl⟩
  dsimp only
  refine wpS_bind (wpS_mono (wpS_forRange (I:=fun _ c t2=>t2=setPending st ((pendingOf st).push (0,ks.size,0))∧c=(none,())) (Q:=fun c t2=>t2=setPending st ((pendingOf st).push (0,ks.size,0))∧c=(none,())) ?_ (fun _ _ z=>z) ⟨rfl,rfl⟩) ?_)
  ·rintro x c t2 _ _ ⟨rfl,rfl⟩
   refine wpS_bind (wpS_get ?_)
   rw [if_pos (by show ((pendingOf st).push _).size≤1; rw [sb.pend]; exact Nat.le_refl 1)]
   exact wpS_pure ⟨rfl,rfl⟩
  ·rintro c t2 ⟨rfl,rfl⟩
   exact wpS_pure (k _ rfl sb.failed)
theorem Zpl {vs:List Value}{ns:List Int}(hI:IntsAre vs ns)(up:ns.Pairwise (· ≤ ·)):SortedTo (pairsOf vs) (pairsOf vs).size:=by
 intro i j hij hj
 have hi:i<(pairsOf vs).size:=by omega
 rw [K_eq hi,K_eq hj]
 have hl:=pairsOf_size vs
 have e:=hI.nums
 have g:∀ (q:Nat) (hq:q<(pairsOf vs).size),numOf (pairsOf vs)[q].1=ns[q]'(by rw [← e]; simp; omega):=fun q hq=>by
  subst e
  simp [pairsOf]
 rw [g i hi,g j hj]
 by_cases z:i=j
 ·subst z; exact Int.le_refl _
 ·exact List.pairwise_iff_getElem.mp up i j _ _ (by omega)
theorem Zo7 {a:Addr}{vs:List Value}{ns:List Int}{c:Nat}{Pf:Fin→Shared→Prop}(ho:s0.heap.get? a=some (seqObj "list" vs.toArray c))(hI:IntsAre vs ns)(lim:vs.length≤1000)(two:2≤vs.length)(up:ns.Pairwise (· ≤ ·))
  (k:∀ (out:Array Value) (ns2:List Int),IntsAre out.toList ns2→ns2.Perm ns→ns2.Pairwise (· ≤ ·)→Pf (.done (.ret .none)) { s0 with heap:=sortedHeap s0.heap a vs out }):wpAny (model p0 w0) A0 (Builtin.«list.sort» ⟨[.ref a],[]⟩) Pf E0 s0:=by
 rw [list_sort_plain]
 have al:=Heap.lt_size ho
 refine wpAny_bind (listItems_at ho rfl (wpAny_bind (listUpdate_at ho rfl ?_ (by simp; rw [sizeLine_eq]; omega))))
 obtain ⟨ep,at1⟩:∃ ep,(s0.heap.update a (Obj.mapSeq fun _=>#[])).get? a=some (seqObj "list" #[] ep):=⟨_,get?_update_seq ho (fun _=>#[])⟩
 refine wpAny_bind (seqEpoch_at at1 rfl (wpAny_bind (wpAny_newTuple (wpAny_bind (wpAny_newList (wpAny_holding ?_))))))
 have at2:(((s0.heap.update a (Obj.mapSeq fun _=>#[])).push (seqObj "tuple" vs.toArray 0)).push (seqObj "list" #[] 0)).get? a=some (seqObj "list" #[] ep):=by
  have d1:a≠(s0.heap.update a (Obj.mapSeq fun _=>#[])).objs.size:=by rw [Heap.size_update]; exact Nat.ne_of_lt al
  have d2:a≠((s0.heap.update a (Obj.mapSeq fun _=>#[])).push (seqObj "tuple" vs.toArray 0)).objs.size:=by rw [size_push',Heap.size_update]; exact Nat.ne_of_lt (Nat.lt_succ_of_lt al)
  rw [Heap.get?_push_ne _ _ _ d2,Heap.get?_push_ne _ _ _ d1,at1]
 generalize hH:(((s0.heap.update a (Obj.mapSeq fun _=>#[])).push (seqObj "tuple" vs.toArray 0)).push (seqObj "list" #[] 0))=H2 at at2
 show wpAny _ _ _ _ _ { s0 with heap:=H2 }
 dsimp only
 have n2:¬vs.toArray.size<2:=by simp; omega
 rw [if_neg n2,if_neg n2]
 match vs,hI,two with
 | v1::v2::vr,hI,_=>
  rw [keyKind_ints hI]
  refine wpAny_bind (wpAny_pure ?_)
  have pu:=Zpl hI up
  refine wpAny_bind (wpAny_mono (Zqs (ks:=pairsOf (v1::v2::vr)) (st:=SortSt.mk' oneType' (pairsOf (v1::v2::vr)) #[] 7 none) (Q:=fun _ t=>arrOf t=pairsOf (v1::v2::vr)∧failedOf t=none) hI.intKeys ⟨Array.Perm.refl _,rfl,rfl,rfl⟩ (by rw [pairsOf_size]; simp) pu fun t e1 e2=>⟨e1,e2⟩) ?_ fun _ _ z=>z)
  rintro ⟨⟨⟩,t⟩ s' ⟨rfl,ea,ef⟩
  dsimp only
  have sz:((arrOf t).map (·.2)).size≤sizeLine+1:=by rw [Array.size_map,ea,pairsOf_size,sizeLine_eq]; omega
  refine wpAny_bind (seqEpoch_at at2 rfl (wpAny_bind (listUpdate_at at2 rfl ?_ (hsz2:=sz))))
  rw [ef]
  simp only [bne_self_eq_false,Bool.false_eq_true,if_false]
  obtain ⟨ns2,k1,k2,k3⟩:=sorted_out hI (xs:=arrOf t) (by rw [ea]) (by rw [ea]; exact pu)
  have kk:=k _ ns2 k1 k2 k3
  unfold sortedHeap at kk
  rw [hH] at kk
  exact wpAny_pure kk
end
def Zl5 (ns:List Int):Prop:=ns.length<64∨(ns.length≤1000∧ns.Pairwise (· ≤ ·))
def Zl3:List V→Hp→VK→Prop:=fun vs H Q=>∃ p ns,vs=[.ref p]∧Zl5 ns∧((ns.length<64∧ZaQ H p=some (ns.map V.int))∨∃ kv,Rd H p (.dK kv)∧ZgA kv=some ns)∧∀ l,H l=none→Q (.ref l) (upd H l (.lst ((ZbX ns).map V.int)))
section
variable {X:Cx}
theorem ZgF (hh:X.calm=true):CallR X (.builtin "sorted") Zl3:=by
 intro pins s σ H xs us Q I r h
 obtain ⟨p,ns,rfl,hok,hsrc,q⟩:=h
 by_cases h64:ns.length<64
 ·exact Zeh hh pins s σ H _ us Q I r ⟨p,ns,rfl,h64,hsrc.imp (fun z=>z.2) (fun z=>z),q⟩
 obtain ⟨hz0,up⟩:=hok.resolve_left h64
 obtain ⟨kv,hd,hk⟩:=hsrc.resolve_left fun z=>h64 z.1
 obtain ⟨u,rfl,rx⟩:=ZhY r
 cases rx
 obtain ⟨hz,lo,kvs,rel,dd⟩:=Zgg I.hok hd
 obtain ⟨ep,hat⟩:=dd.dictAt
 refine Calls.call_function_entry kind_sorted plain_sorted entry_sorted (args_sorted1 _) ?_
 unfold Builtin.«sorted»
 refine wpAny_bind (m:=checkCount "sorted" 1 1 _) (wpAny_pure ?_)
 refine wpAny_bind (PySem.W.kdu_collect (A:=X.A.in1) (PySem.W.kdl_dict (knd:=ZaF X.prog X.w) (kvs:=kvs) (ep:=ep) lo) (I.ok.hd hh) hat (by rw [← rel.length]; exact hz) fun h' tk acc kp hacc=>?_)
 have hv:Vals (kv.map fun q=>kV q.1) acc.toList:=ZeM rel (by rw [Array.length_toList]; exact hacc.1) fun j v ej=>hacc.2 j v (by rw [← Array.getElem?_toList]; exact ej)
 rw [Zf5 hk] at hv
 have hI:=ZcQ hv
 have hlen:=IntsAre.length hI
 refine wpAny_bind (wpAny_newList ?_ (by rw [hlen,sizeLine_eq]; omega))
 have hoL:(h'.push { cls:=.type "list",data:=.seq acc.toList.toArray }).get? h'.objs.size=some (seqObj "list" acc.toList.toArray 0):=Heap.get?_push_size _ rfl
 refine wpAny_bind (wpAny_holding (wpAny_call_entry slot_list_sort ⟨_,hoL,rfl⟩ entry_list_sort (Zo7 hoL hI (by omega) (by omega) up fun out ns' a1 a2 a3=>⟨_,rfl,?_⟩) (args_list_sort _)))
 refine wpAny_pure ⟨_,rfl,?_⟩
 obtain ⟨e,he⟩:=sortedHeap_at (out:=out) hoL
 have hsz:s.heap.get? h'.objs.size=none:=by
  cases z:s.heap.get? h'.objs.size with
  | none=>rfl
  | some o=>exact absurd (Heap.lt_size (kp _ _ z)) (Nat.lt_irrefl _)
 have kpA:∀ b o,s.heap.get? b=some o→(sortedHeap (h'.push { cls:=.type "list",data:=.seq acc.toList.toArray }) h'.objs.size acc.toList out).get? b=some o:=fun b o qq=>by
  rw [sortedHeap_old (Nat.ne_of_lt (Heap.lt_size (kp b o qq))) (Nat.lt_of_lt_of_le (Heap.lt_size (kp b o qq)) (by simp))]; exact Heap.get?_push_of_some _ (kp b o qq)
 obtain rfl:=Zkb a2 a3
 have hv2:=ZdI a1
 obtain ⟨hn,I2⟩:=Zn3 (t':=tk) I kpA hsz (show ObjOk X.prog X.w (upd H h'.objs.size (.lst ((ZbX ns).map V.int))) _ h'.objs.size (.lst ((ZbX ns).map V.int)) from ⟨by rw [List.length_map,(Zce ns).length_eq,sizeLine_eq]; omega,out.toList,e,hv2,by simpa [seqObj] using he⟩)
 exact ⟨.ref h'.objs.size,_,I2,rfl,q _ hn⟩
end
open Classical in
noncomputable def ZkG (f:Ex):Ex:=fun ρ h=>match f ρ h with
 | .ok a h1=>(match Za1 h1 a with
  | some kvs=>(match Zco kvs with
   | some ns=>if Zl5 ns then .ok (.ref h1.length) (h1++[.lst ((ZbX ns).map W.int)]) else .no
   | none=>.no)
  | none=>.no)
 | .ex w h1=>.ex w h1
 | .no=>.no
section
variable {X:Cx} {Z:Zc} {f:Ex} {e:Expr} {x:Str} {p pos:Pos}
theorem ZpL (hh:X.calm=true)(hg:Gl X x)(hm:X.mg x=none)(hv:bootBuiltins x=some (.builtin "sorted"))(ho:QE X Z e f)(hn:x≠"__name__":=by decide)(hdb:(x == ("__debug__":Str))=false:=by decide)
  (he:starEach [e] X.env=(false,eval e X.env)::starEach [] X.env:=by rfl) (hpl:(backTo pos (starEach [] X.env)).any (·.1)=false:=by rfl):QE X Z (.Call (.Name x p) [e] [] pos) (ZkG f):=
 ⟨(ZfX (ZgF hh) hg hm hv (Zcf ho.pe pa_nil he) hn hdb he hpl).imp fun σ H Q ⟨φ,m,ρ,y,q⟩=>⟨φ,m,ρ,y,by
  unfold ZkG at q
  cases e1:f ρ m with
  | no=>rw [e1] at q; exact q.elim
  | ex w h1=>rw [e1] at q; exact q
  | ok a h1=>
   rw [e1] at q
   intro φ1 H1 va s1 r1 ra
   dsimp only at q
   cases e2:Za1 h1 a with
   | none=>rw [e2] at q; exact q.elim
   | some kvs=>
    rw [e2] at q
    dsimp only at q
    cases e3:Zco kvs with
    | none=>rw [e3] at q; exact q.elim
    | some ns=>
     rw [e3] at q
     dsimp only at q
     by_cases ok:Zl5 ns
     ·rw [if_pos ok] at q
      obtain ⟨d,kv,rfl,hp,rp⟩:=Zey r1 ra e2
      refine ⟨d,ns,rfl,ok,.inr ⟨kv,hp,Zgb rp e3⟩,fun l hl=>?_⟩
      have s2:=Zbw (φ:=φ1) (ho:=.lst ((ZbX ns).map V.int)) hl
      exact q (φ1++[l]) _ (.ref l) (s1.trans s2) (r1.new (o:=.lst ((ZbX ns).map W.int)) (ho:=.lst ((ZbX ns).map V.int)) hl ⟨_,rfl,Zga _⟩) (by unfold RW; exact ⟨l,by rw [← r1.len]; simp,rfl⟩)
     ·rw [if_neg ok] at q; exact q.elim⟩⟩
end
end M
namespace K33
open PySem L2 M

local macro_rules | `(tactic| simp! [$ts,*])=>`(tactic| simp [$ts,*,ZdA,ZaS,Out.res,Zcc,Zcl,ZdT,Zbq,ZcW,gN,Zbv,ZaW,xC,ZbP,Zan,Zbp,xUn,xCb,ZdY,xOr,ZdW,Zef,Zeq,Zaw,xNo,Res.bind,Res.of,iop,Zev,ZeB,ZfG,ZfP,ZfK,ZfJ,Zcb,ltM,gtM,geM,Zfq,ZfB,Zc8,items,ixM,Zep,eqO,neO,eqM,ZaO,Zdg,tyN,Kit.get,sizeLine_eq,Zer,ZaC,xIl,ZdX,ZcZ,Zex,Zfv,Za7,Zfy,ZbH,Zei,ZbG,ZeY,ZbO,Zet,inM,ZcR,Za1,ρC,Za0,ZaP,Zba,Zfr,Zfw,fgt,ZdZ,tyX,ZeG,Zfp,ZbB,xLm,Zfh,Zeo,ZaL,xXf])
local macro_rules | `(tactic| simp_arith [$ts,*])=>`(tactic| simp [$ts,*,ZdA,ZaS,Out.res,Zcc,Zcl,ZdT,Zbq,ZcW,gN,Zbv,ZaW,xC,ZbP,Zan,Zbp,xUn,xCb,ZdY,xOr,ZdW,Zef,Zeq,Zaw,xNo,Res.bind,Res.of,iop,Zev,ZeB,ZfG,ZfP,ZfK,ZfJ,Zcb,ltM,gtM,geM,Zfq,ZfB,Zc8,items,ixM,Zep,eqO,neO,eqM,ZaO,Zdg,tyN,sizeLine_eq,Zer,ZaC,xIl,ZdX,ZcZ,Zex,Zfv,Za7,Zfy,ZbH,Zei,ZbG,ZeY,ZbO,Zet,inM,ZcR,Za1,ρC,Za0,ZaP,Zba,Zfr,Zfw,fgt,ZdZ,tyX,ZeG,Zfp,ZbB,xLm,Zfh,Zeo,ZaL,xXf])
local macro_rules | `(tactic| simp_all! [$ts,*])=>`(tactic| simp [$ts,*,ZdA,ZaS,Out.res,Zcc,Zcl,ZdT,Zbq,ZcW,gN,Zbv,ZaW,xC,ZbP,Zan,Zbp,xUn,xCb,ZdY,xOr,ZdW,Zef,Zeq,Zaw,xNo,Res.bind,Res.of,iop,Zev,ZeB,ZfG,ZfP,ZfK,ZfJ,Zcb,ltM,gtM,geM,Zfq,ZfB,Zc8,items,ixM,Zep,eqO,neO,ZaO,Zdg,tyN,Kit.get,sizeLine_eq,Zer,ZaC,xIl,ZdX,ZcZ,Zex,Zfv,Za7,Zfy,ZbH,Zei,ZbG,ZeY,ZbO,Zet,inM,ZcR,Za1,ρC,Za0,ZaP,Zba,Zfr,Zfw,fgt,ZdZ,tyX,ZeG,Zfp,ZbB,xLm,Zfh,Zeo,ZaL,xXf])
local macro_rules | `(tactic| simp_arith! [$ts,*])=>`(tactic| simp [$ts,*,ZdA,ZaS,Out.res,Zcc,Zcl,ZdT,Zbq,ZcW,gN,Zbv,ZaW,xC,ZbP,Zan,Zbp,xUn,xCb,ZdY,xOr,ZdW,Zef,Zeq,Zaw,xNo,Res.bind,Res.of,iop,Zev,ZeB,ZfG,ZfP,ZfK,ZfJ,Zcb,ltM,gtM,geM,Zfq,ZfB,items,ixM,Zep,eqO,neO,eqM,ZaO,Zdg,tyN,Kit.get,sizeLine_eq,Zer,ZaC,xIl,ZdX,ZcZ,Zex,Zfv,Za7,Zfy,ZbH,Zei,ZbG,ZeY,ZbO,Zet,inM,ZcR,Za1,ρC,Za0,ZaP,Zba,Zfr,Zfw,fgt,ZdZ,tyX,ZeG,Zfp,ZbB,xLm,Zfh,Zeo,ZaL,xXf])
local macro_rules | `(tactic| simp_all_arith [$ts,*])=>`(tactic| simp [$ts,*,ZdA,ZaS,Out.res,Zcc,Zcl,ZdT,Zbq,ZcW,gN,Zbv,ZaW,xC,ZbP,Zan,Zbp,xUn,xCb,ZdY,xOr,ZdW,Zef,Zeq,Zaw,xNo,Res.bind,Res.of,iop,Zev,ZeB,ZfG,ZfP,ZfK,ZfJ,Zcb,ltM,gtM,geM,Zfq,ZfB,Zc8,items,ixM,Zep,eqO,neO,eqM,ZaO,Zdg,tyN,Kit.get,sizeLine_eq,Zer,ZaC,xIl,ZdX,ZcZ,Zex,Zfv,Za7,Zfy,ZbH,Zei,ZbG,ZeY,ZbO,Zet,ZcR,Za1,ρC,Za0,ZaP,Zba,Zfr,Zfw,fgt,ZdZ,tyX,ZeG,Zfp,ZbB,xLm,Zfh,Zeo,ZaL,xXf])
def top (i:Nat):Stmt:=PySem.Challenge.pw_passkeep_k33_handles_refused.main.body.getD i (.Pass ⟨0,0,0,0⟩)
abbrev s_is_number:Stmt:=top 12
theorem Zhm:FnScope ["thing"] ["thing"] (Zae s_is_number):=⟨rfl,rfl,rfl,by decide +kernel,rfl,by decide +kernel,by decide +kernel⟩
theorem ZgI:Zal "is_number" "is_number" s_is_number ["thing"]:=fun _ _ _ _ _ _ us hl=>match us,hl with | [_],_=>rfl
abbrev s_missing:Stmt:=top 13
theorem Zju:FnScope ["needed","had"] ["needed","had"] (Zae s_missing):=⟨rfl,rfl,rfl,by decide +kernel,rfl,by decide +kernel,by decide +kernel⟩
theorem Zja:Zal "missing" "missing" s_missing ["needed","had"]:=fun _ _ _ _ _ _ us hl=>match us,hl with | [_,_],_=>rfl
abbrev s_within:Stmt:=top 14
theorem ZkY:FnScope ["some","more"] ["some","more"] (Zae s_within):=⟨rfl,rfl,rfl,by decide +kernel,rfl,by decide +kernel,by decide +kernel⟩
theorem Zlu:Zal "within" "within" s_within ["some","more"]:=fun _ _ _ _ _ _ us hl=>match us,hl with | [_,_],_=>rfl
abbrev s_l_cell_at:Stmt:=top 20
theorem Zg0:FnScope ["_law_script","_law_k"] ["_law_script","_law_k"] (Zae s_l_cell_at):=⟨rfl,rfl,rfl,by decide +kernel,rfl,by decide +kernel,by decide +kernel⟩
theorem Zhk:Zal "_law_cell_at" "_law_cell_at" s_l_cell_at ["_law_script","_law_k"]:=fun _ _ _ _ _ _ us hl=>match us,hl with | [_,_],_=>rfl
abbrev s_l_mixed:Stmt:=top 21
theorem sc_l_mixed:FnScope ["_law_cell","_law_k","_law_number"] ["_law_cell","_law_k"] (Zae s_l_mixed):=⟨rfl,rfl,rfl,by decide +kernel,rfl,by decide +kernel,by decide +kernel⟩
theorem Zjj:Zal "_law_mixed" "_law_mixed" s_l_mixed ["_law_cell","_law_k"]:=fun _ _ _ _ _ _ us hl=>match us,hl with | [_,_],_=>rfl
abbrev s_l_alike:Stmt:=top 22
theorem ZiY:FnScope ["_law_found","_law_due_here"] ["_law_found","_law_due_here"] (Zae s_l_alike):=⟨rfl,rfl,rfl,by decide +kernel,rfl,by decide +kernel,by decide +kernel⟩
theorem ZfQ:Zal "_law_alike" "_law_alike" s_l_alike ["_law_found","_law_due_here"]:=fun _ _ _ _ _ _ us hl=>match us,hl with | [_,_],_=>rfl
abbrev s_l_word:Stmt:=top 23
theorem sc_l_word:FnScope ["_law_e","_law_words"] ["_law_e"] (Zae s_l_word):=⟨rfl,rfl,rfl,by decide +kernel,rfl,by decide +kernel,by decide +kernel⟩
theorem Zkw:Zal "_law_word" "_law_word" s_l_word ["_law_e"]:=fun _ _ _ _ _ _ us hl=>match us,hl with | [_],_=>rfl
abbrev s_l_tree_deed:Stmt:=top 24
theorem sc_l_tree_deed:FnScope ["_law_tree","_law_way","_law_number","_law_rights","_law_holder","_law_one","_law_e"] ["_law_tree","_law_way","_law_number","_law_rights","_law_holder"] (Zae s_l_tree_deed):=⟨rfl,rfl,rfl,by decide +kernel,rfl,by decide +kernel,by decide +kernel⟩
theorem Zfu:Zal "_law_tree_deed" "_law_tree_deed" s_l_tree_deed ["_law_tree","_law_way","_law_number","_law_rights","_law_holder"]:=fun _ _ _ _ _ _ us hl=>match us,hl with | [_,_,_,_,_],_=>rfl
abbrev s_l_below:Stmt:=top 25
theorem Zi0:Zal "_law_below" "_law_below" s_l_below ["_law_rows","_law_number"]:=fun _ _ _ _ _ _ us hl=>match us,hl with | [_,_],_=>rfl
abbrev s_l_chain:Stmt:=top 26
theorem sc_l_chain:FnScope ["_law_rows","_law_number","_law_found"] ["_law_rows","_law_number"] (Zae s_l_chain):=⟨rfl,rfl,rfl,by decide +kernel,rfl,by decide +kernel,by decide +kernel⟩
theorem Zjd:Zal "_law_chain" "_law_chain" s_l_chain ["_law_rows","_law_number"]:=fun _ _ _ _ _ _ us hl=>match us,hl with | [_,_],_=>rfl
abbrev s_l_lacking:Stmt:=top 27
theorem sc_l_lacking:FnScope ["_law_rights","_law_had","_law_found","_law_right"] ["_law_rights","_law_had"] (Zae s_l_lacking):=⟨rfl,rfl,rfl,by decide +kernel,rfl,by decide +kernel,by decide +kernel⟩
theorem ZgC:Zal "_law_lacking" "_law_lacking" s_l_lacking ["_law_rights","_law_had"]:=fun _ _ _ _ _ _ us hl=>match us,hl with | [_,_],_=>rfl
abbrev s_l_due:Stmt:=top 28
theorem sc_l_due:FnScope ["_law_plain","_law_way","_law_number","_law_rights","_law_holder","_law_rows","_law_lacking_here","_law_gone","_law_one","_law_row"] ["_law_plain","_law_way","_law_number","_law_rights","_law_holder"] (Zae s_l_due):=⟨rfl,rfl,rfl,by decide +kernel,rfl,by decide +kernel,by decide +kernel⟩
theorem Zmm:Zal "_law_due" "_law_due" s_l_due ["_law_plain","_law_way","_law_number","_law_rights","_law_holder"]:=fun _ _ _ _ _ _ us hl=>match us,hl with | [_,_,_,_,_],_=>rfl
abbrev s_l_odd:Stmt:=top 29
theorem sc_l_odd:FnScope ["_law_tree","_law_number","_law_odd_here","_law_way"] ["_law_tree","_law_number"] (Zae s_l_odd):=⟨rfl,rfl,rfl,by decide +kernel,rfl,by decide +kernel,by decide +kernel⟩
theorem ZlH:Zal "_law_odd" "_law_odd" s_l_odd ["_law_tree","_law_number"]:=fun _ _ _ _ _ _ us hl=>match us,hl with | [_,_],_=>rfl
abbrev s_l_common:Stmt:=top 30
theorem Zhv:FnScope ["_law_rights","_law_had"] ["_law_rights","_law_had"] (Zae s_l_common):=⟨rfl,rfl,rfl,by decide +kernel,rfl,by decide +kernel,by decide +kernel⟩
theorem Zh5:Zal "_law_common" "_law_common" s_l_common ["_law_rights","_law_had"]:=fun _ _ _ _ _ _ us hl=>match us,hl with | [_,_],_=>rfl
abbrev s_l_built:Stmt:=top 31
theorem sc_l_built:FnScope ["_law_tree","_law_plain","_law_rights","_law_many","_law_cell","_law_k","_law_due_here"] ["_law_tree","_law_plain","_law_rights","_law_many","_law_cell"] (Zae s_l_built):=⟨rfl,rfl,rfl,by decide +kernel,rfl,by decide +kernel,by decide +kernel⟩
theorem Zjc:Zal "_law_built" "_law_built" s_l_built ["_law_tree","_law_plain","_law_rights","_law_many","_law_cell"]:=fun _ _ _ _ _ _ us hl=>match us,hl with | [_,_,_,_,_],_=>rfl
abbrev s_law:Stmt:=top 32
theorem sc_law:FnScope ["_law_script","_law_rights","_law_many","_law_tree","_law_plain","_law_beside","_law_k","_law_more","_law_at","_law_held","_law_turn","_law_due_here","_law_lacking_here"] ["_law_script"] (Zae s_law):=⟨rfl,rfl,rfl,by decide +kernel,rfl,by decide +kernel,by decide +kernel⟩
theorem Zqg:Zal "law" "law" s_law ["_law_script"]:=fun _ _ _ _ _ _ us hl=>match us,hl with | [_],_=>rfl
abbrev ZbS:Stmt:=Zbf (top 10) 0
theorem Zfx:FnScope ["self","missing"] ["self","missing"] (Zae ZbS):=⟨rfl,rfl,rfl,by decide +kernel,rfl,by decide +kernel,by decide +kernel⟩
theorem Zfn:Zal "__init__" "Lacks.__init__" ZbS ["self","missing"]:=fun _ _ _ _ _ _ us hl=>match us,hl with | [_,_],_=>rfl
abbrev Zbz:Stmt:=Zbf (top 17) 0
theorem ZeK:FnScope ["self","number","thing","rights","giver","holder"] ["self","number","thing","rights","giver","holder"] (Zae Zbz):=⟨rfl,rfl,rfl,by decide +kernel,rfl,by decide +kernel,by decide +kernel⟩
theorem ZeO:Zal "__init__" "Handle.__init__" Zbz ["self","number","thing","rights","giver","holder"]:=fun _ _ _ _ _ _ us hl=>match us,hl with | [_,_,_,_,_,_],_=>rfl
abbrev Zb4:Stmt:=Zbf (top 18) 0
theorem Zgv:FnScope ["self"] ["self"] (Zae Zb4):=⟨rfl,rfl,rfl,by decide +kernel,rfl,by decide +kernel,by decide +kernel⟩
theorem Zgo:Zal "__init__" "Tree.__init__" Zb4 ["self"]:=fun _ _ _ _ _ _ us hl=>match us,hl with | [_],_=>rfl
abbrev Zb3:Stmt:=Zbf (top 18) 1
theorem Zgr:FnScope ["self","number"] ["self","number"] (Zae Zb3):=⟨rfl,rfl,rfl,by decide +kernel,rfl,by decide +kernel,by decide +kernel⟩
theorem Zgj:Zal "keeps" "Tree.keeps" Zb3 ["self","number"]:=fun _ _ _ _ _ _ us hl=>match us,hl with | [_,_],_=>rfl
abbrev Zbc:Stmt:=Zbf (top 18) 2
theorem Zd2:FnScope ["self","number"] ["self","number"] (Zae Zbc):=⟨rfl,rfl,rfl,by decide +kernel,rfl,by decide +kernel,by decide +kernel⟩
theorem Zd9:Zal "need_kept" "Tree.need_kept" Zbc ["self","number"]:=fun _ _ _ _ _ _ us hl=>match us,hl with | [_,_],_=>rfl
abbrev ZaE:Stmt:=Zbf (top 18) 3
theorem Zcs:FnScope ["self","number"] ["self","number"] (Zae ZaE):=⟨rfl,rfl,rfl,by decide +kernel,rfl,by decide +kernel,by decide +kernel⟩
theorem Zcq:Zal "need_room_below" "Tree.need_room_below" ZaE ["self","number"]:=fun _ _ _ _ _ _ us hl=>match us,hl with | [_,_],_=>rfl
abbrev Zcv:Stmt:=Zbf (top 18) 4
theorem sc_Tree_keep:FnScope ["self","thing","rights","giver","holder","number"] ["self","thing","rights","giver","holder"] (Zae Zcv):=⟨rfl,rfl,rfl,by decide +kernel,rfl,by decide +kernel,by decide +kernel⟩
theorem Zee:Zal "keep" "Tree.keep" Zcv ["self","thing","rights","giver","holder"]:=fun _ _ _ _ _ _ us hl=>match us,hl with | [_,_,_,_,_],_=>rfl
abbrev ZbM:Stmt:=Zbf (top 18) 5
theorem Zft:FnScope ["self","thing","rights","holder"] ["self","thing","rights","holder"] (Zae ZbM):=⟨rfl,rfl,rfl,by decide +kernel,rfl,by decide +kernel,by decide +kernel⟩
theorem Zc4:Zal "rooted" "Tree.rooted" ZbM ["self","thing","rights","holder"]:=fun _ _ _ _ _ _ us hl=>match us,hl with | [_,_,_,_],_=>rfl
abbrev ZbA:Stmt:=Zbf (top 18) 6
theorem sc_Tree_derived:FnScope ["self","number","rights","holder","giver","made"] ["self","number","rights","holder"] (Zae ZbA):=⟨rfl,rfl,rfl,by decide +kernel,rfl,by decide +kernel,by decide +kernel⟩
theorem Zff:Zal "derived" "Tree.derived" ZbA ["self","number","rights","holder"]:=fun _ _ _ _ _ _ us hl=>match us,hl with | [_,_,_,_],_=>rfl
abbrev ZbL:Stmt:=Zbf (top 18) 7
theorem sc_Tree_handle:FnScope ["self","number","kept"] ["self","number"] (Zae ZbL):=⟨rfl,rfl,rfl,by decide +kernel,rfl,by decide +kernel,by decide +kernel⟩
theorem Zc2:Zal "handle" "Tree.handle" ZbL ["self","number"]:=fun _ _ _ _ _ _ us hl=>match us,hl with | [_,_],_=>rfl
abbrev Zch:Stmt:=Zbf (top 18) 8
theorem sc_Tree_held:FnScope ["self","number","holder","kept"] ["self","number","holder"] (Zae Zch):=⟨rfl,rfl,rfl,by decide +kernel,rfl,by decide +kernel,by decide +kernel⟩
theorem Zg6:Zal "held" "Tree.held" Zch ["self","number","holder"]:=fun _ _ _ _ _ _ us hl=>match us,hl with | [_,_,_],_=>rfl
abbrev ZbE:Stmt:=Zbf (top 18) 9
theorem sc_Tree_below:FnScope ["self","number","found","child"] ["self","number"] (Zae ZbE):=⟨rfl,rfl,rfl,by decide +kernel,rfl,by decide +kernel,by decide +kernel⟩
theorem Zcp:Zal "below" "Tree.below" ZbE ["self","number"]:=fun _ _ _ _ _ _ us hl=>match us,hl with | [_,_],_=>rfl
abbrev Zb5:Stmt:=Zbf (top 18) 10
theorem sc_Tree_chain:FnScope ["self","number","upward","step"] ["self","number"] (Zae Zb5):=⟨rfl,rfl,rfl,by decide +kernel,rfl,by decide +kernel,by decide +kernel⟩
theorem ZdL:Zal "chain" "Tree.chain" Zb5 ["self","number"]:=fun _ _ _ _ _ _ us hl=>match us,hl with | [_,_],_=>rfl
abbrev ZcX:Stmt:=Zbf (top 18) 11
theorem sc_Tree_cut:FnScope ["self","number","gone","giver","taken"] ["self","number"] (Zae ZcX):=⟨rfl,rfl,rfl,by decide +kernel,rfl,by decide +kernel,by decide +kernel⟩
theorem Zfg:Zal "cut" "Tree.cut" ZcX ["self","number"]:=fun _ _ _ _ _ _ us hl=>match us,hl with | [_,_],_=>rfl
abbrev Zci:Stmt:=Zbf (top 18) 12
theorem ZgQ:FnScope ["self"] ["self"] (Zae Zci):=⟨rfl,rfl,rfl,by decide +kernel,rfl,by decide +kernel,by decide +kernel⟩
theorem Zg2:Zal "kept" "Tree.kept" Zci ["self"]:=fun _ _ _ _ _ _ us hl=>match us,hl with | [_],_=>rfl
structure Cs where
 Empty:Addr
 Full:Addr
 Lacks:Addr
 NoHandle:Addr
 NoRights:Addr
 NoTask:Addr
 NoThing:Addr
 Taken:Addr
 TooMany:Addr
 PassError:Addr
 Tree:Addr
 Handle:Addr
def names:List Str:=["Empty","Full","Lacks","NoHandle","NoRights","NoTask","NoThing","Taken","TooMany"]
def Cs.l (C:Cs):List Addr:=[C.Empty,C.Full,C.Lacks,C.NoHandle,C.NoRights,C.NoTask,C.NoThing,C.Taken,C.TooMany]
def T0 (C:Cs):CTb:=⟨fun c=>if c="Tree" then some C.Tree else if c="Handle" then some C.Handle else none,fun c=>(names.zip C.l).lookup c,fun c=>if c="PassError" then some C.PassError else none⟩
def Ztv:List ((Ty×Ty)×Bool):=(List.range 9).flatMap fun i=>((.inr (names.getD i ""),.inl "ValueError"),true)::(List.range 9).map fun j=>((.inr (names.getD i ""),.inr (names.getD j "")),i == j)
def ZqA:List ((Ty×Ty)×Bool):=[((.inl "NoneType",.inl "int"),false),((.inl "bool",.inl "int"),true),((.inl "int",.inl "int"),true),((.inl "str",.inl "int"),false),((.inl "list",.inl "int"),false),((.inl "tuple",.inl "int"),false),((.inl "NoneType",.inl "bool"),false),((.inl "bool",.inl "bool"),true),((.inl "int",.inl "bool"),false),((.inl "str",.inl "bool"),false),((.inl "list",.inl "bool"),false),((.inl "tuple",.inl "bool"),false),((.inl "NoneType",.inl "list"),false),((.inl "bool",.inl "list"),false),((.inl "int",.inl "list"),false),((.inl "str",.inl "list"),false),((.inl "list",.inl "list"),true),((.inl "tuple",.inl "list"),false),((.inl "NoneType",.inl "tuple"),false),((.inl "bool",.inl "tuple"),false),((.inl "int",.inl "tuple"),false),((.inl "str",.inl "tuple"),false),((.inl "list",.inl "tuple"),false),((.inl "tuple",.inl "tuple"),true),((.inl "NoneType",.inl "str"),false),((.inl "bool",.inl "str"),false),((.inl "int",.inl "str"),false),((.inl "str",.inl "str"),true),((.inl "list",.inl "str"),false),((.inl "tuple",.inl "str"),false)]
def Za4:Kit:=ZqA++Ztv
theorem ZhR:Kit.get Za4 (.inl "NoneType") (.inl "int")=some false:=by decide +kernel
theorem ZhC:Kit.get Za4 (.inl "bool") (.inl "int")=some true:=by decide +kernel
theorem ZhX:Kit.get Za4 (.inl "int") (.inl "int")=some true:=by decide +kernel
theorem ZhS:Kit.get Za4 (.inl "str") (.inl "int")=some false:=by decide +kernel
theorem ZhE:Kit.get Za4 (.inl "list") (.inl "int")=some false:=by decide +kernel
theorem ZhI:Kit.get Za4 (.inl "tuple") (.inl "int")=some false:=by decide +kernel
theorem ZhK:Kit.get Za4 (.inl "NoneType") (.inl "bool")=some false:=by decide +kernel
theorem ZhV:Kit.get Za4 (.inl "bool") (.inl "bool")=some true:=by decide +kernel
theorem Zh6:Kit.get Za4 (.inl "int") (.inl "bool")=some false:=by decide +kernel
theorem ZhN:Kit.get Za4 (.inl "str") (.inl "bool")=some false:=by decide +kernel
theorem Zdz:Kit.get Za4 (.inl "list") (.inl "bool")=some false:=by decide +kernel
theorem Zda:Kit.get Za4 (.inl "tuple") (.inl "bool")=some false:=by decide +kernel
theorem Zdd:Kit.get Za4 (.inl "NoneType") (.inl "list")=some false:=by decide +kernel
theorem Zdl:Kit.get Za4 (.inl "bool") (.inl "list")=some false:=by decide +kernel
theorem Zc9:Kit.get Za4 (.inl "int") (.inl "list")=some false:=by decide +kernel
theorem Zdh:Kit.get Za4 (.inl "str") (.inl "list")=some false:=by decide +kernel
theorem Zde:Kit.get Za4 (.inl "list") (.inl "list")=some true:=by decide +kernel
theorem Zdb:Kit.get Za4 (.inl "tuple") (.inl "list")=some false:=by decide +kernel
theorem Zdv:Kit.get Za4 (.inl "NoneType") (.inl "tuple")=some false:=by decide +kernel
theorem Zdt:Kit.get Za4 (.inl "bool") (.inl "tuple")=some false:=by decide +kernel
theorem Zds:Kit.get Za4 (.inl "int") (.inl "tuple")=some false:=by decide +kernel
theorem Zdf:Kit.get Za4 (.inl "str") (.inl "tuple")=some false:=by decide +kernel
theorem Zdm:Kit.get Za4 (.inl "list") (.inl "tuple")=some false:=by decide +kernel
theorem Zdr:Kit.get Za4 (.inl "tuple") (.inl "tuple")=some true:=by decide +kernel
theorem Zdj:Kit.get Za4 (.inl "NoneType") (.inl "str")=some false:=by decide +kernel
theorem Zdx:Kit.get Za4 (.inl "bool") (.inl "str")=some false:=by decide +kernel
theorem Zdu:Kit.get Za4 (.inl "int") (.inl "str")=some false:=by decide +kernel
theorem Zdo:Kit.get Za4 (.inl "str") (.inl "str")=some true:=by decide +kernel
theorem Zdk:Kit.get Za4 (.inl "list") (.inl "str")=some false:=by decide +kernel
theorem Zdc:Kit.get Za4 (.inl "tuple") (.inl "str")=some false:=by decide +kernel
theorem Zpv:Kit.get Za4 (.inr (Str.ofString "NoHandle")) (.inl "ValueError")=some true:=by decide +kernel
theorem ZnO:Kit.get Za4 (.inr (Str.ofString "NoHandle")) (.inr (Str.ofString "Empty"))=some false:=by decide +kernel
theorem Zn5:Kit.get Za4 (.inr (Str.ofString "NoHandle")) (.inr (Str.ofString "Full"))=some false:=by decide +kernel
theorem Zo2:Kit.get Za4 (.inr (Str.ofString "NoHandle")) (.inr (Str.ofString "Lacks"))=some false:=by decide +kernel
theorem ZnV:Kit.get Za4 (.inr (Str.ofString "NoHandle")) (.inr (Str.ofString "NoHandle"))=some true:=by decide +kernel
theorem Zob:Kit.get Za4 (.inr (Str.ofString "NoHandle")) (.inr (Str.ofString "NoRights"))=some false:=by decide +kernel
theorem ZpN:Kit.get Za4 (.inr (Str.ofString "NoHandle")) (.inr (Str.ofString "NoTask"))=some false:=by decide +kernel
theorem ZoL:Kit.get Za4 (.inr (Str.ofString "NoHandle")) (.inr (Str.ofString "NoThing"))=some false:=by decide +kernel
theorem ZpK:Kit.get Za4 (.inr (Str.ofString "NoHandle")) (.inr (Str.ofString "Taken"))=some false:=by decide +kernel
theorem ZnM:Kit.get Za4 (.inr (Str.ofString "NoHandle")) (.inr (Str.ofString "TooMany"))=some false:=by decide +kernel
theorem ZnP:Kit.get Za4 (.inr (Str.ofString "TooMany")) (.inl "ValueError")=some true:=by decide +kernel
theorem ZoY:Kit.get Za4 (.inr (Str.ofString "TooMany")) (.inr (Str.ofString "Empty"))=some false:=by decide +kernel
theorem ZpB:Kit.get Za4 (.inr (Str.ofString "TooMany")) (.inr (Str.ofString "Full"))=some false:=by decide +kernel
theorem Zpn:Kit.get Za4 (.inr (Str.ofString "TooMany")) (.inr (Str.ofString "Lacks"))=some false:=by decide +kernel
theorem ZoK:Kit.get Za4 (.inr (Str.ofString "TooMany")) (.inr (Str.ofString "NoHandle"))=some false:=by decide +kernel
theorem Zpy:Kit.get Za4 (.inr (Str.ofString "TooMany")) (.inr (Str.ofString "NoRights"))=some false:=by decide +kernel
theorem Zn9:Kit.get Za4 (.inr (Str.ofString "TooMany")) (.inr (Str.ofString "NoTask"))=some false:=by decide +kernel
theorem Zof:Kit.get Za4 (.inr (Str.ofString "TooMany")) (.inr (Str.ofString "NoThing"))=some false:=by decide +kernel
theorem ZoB:Kit.get Za4 (.inr (Str.ofString "TooMany")) (.inr (Str.ofString "Taken"))=some false:=by decide +kernel
theorem Zpx:Kit.get Za4 (.inr (Str.ofString "TooMany")) (.inr (Str.ofString "TooMany"))=some true:=by decide +kernel
theorem Zom:Kit.get Za4 (.inr (Str.ofString "Lacks")) (.inl "ValueError")=some true:=by decide +kernel
theorem ZoT:Kit.get Za4 (.inr (Str.ofString "Lacks")) (.inr (Str.ofString "Empty"))=some false:=by decide +kernel
theorem ZoG:Kit.get Za4 (.inr (Str.ofString "Lacks")) (.inr (Str.ofString "Full"))=some false:=by decide +kernel
theorem Zps:Kit.get Za4 (.inr (Str.ofString "Lacks")) (.inr (Str.ofString "Lacks"))=some true:=by decide +kernel
theorem Zoc:Kit.get Za4 (.inr (Str.ofString "Lacks")) (.inr (Str.ofString "NoHandle"))=some false:=by decide +kernel
theorem Zop:Kit.get Za4 (.inr (Str.ofString "Lacks")) (.inr (Str.ofString "NoRights"))=some false:=by decide +kernel
theorem ZoN:Kit.get Za4 (.inr (Str.ofString "Lacks")) (.inr (Str.ofString "NoTask"))=some false:=by decide +kernel
theorem ZnX:Kit.get Za4 (.inr (Str.ofString "Lacks")) (.inr (Str.ofString "NoThing"))=some false:=by decide +kernel
theorem ZnD:Kit.get Za4 (.inr (Str.ofString "Lacks")) (.inr (Str.ofString "Taken"))=some false:=by decide +kernel
theorem Zpu:Kit.get Za4 (.inr (Str.ofString "Lacks")) (.inr (Str.ofString "TooMany"))=some false:=by decide +kernel
def ZrV (c:Str):Bool:=names.contains c
theorem ZaJ:ZrV (Str.ofString "NoHandle")=true:=by decide +kernel
theorem ZaU:ZrV (Str.ofString "TooMany")=true:=by decide +kernel
theorem Zbg:ZrV (Str.ofString "Lacks")=true:=by decide +kernel
structure Tx (K:PySem.W.Frag)(mg:Str→Option Value)(C:Cs):Prop where
 b_isinstance:mg "isinstance"=none
 b_int:mg "int"=none
 b_bool:mg "bool"=none
 b_len:mg "len"=none
 b_list:mg "list"=none
 b_reversed:mg "reversed"=none
 b_sorted:mg "sorted"=none
 b_str:mg "str"=none
 b_tuple:mg "tuple"=none
 b_ValueError:mg "ValueError"=none
 b_range:mg "range"=none
 b_min:mg "min"=none
 b_all:mg "all"=none
 b_sum:mg "sum"=none
 c_LONGEST_CHAIN:GC mg "LONGEST_CHAIN" (.int 40)
 ins:Zfo K (T0 C)
 exo:ZmC K (T0 C)
 kit:ZmB K (T0 C) Za4
 f_handles:Zcn K (T0 C) "handles"
 f_offspring:Zcn K (T0 C) "offspring"
 f_following:Zcn K (T0 C) "following"
 f_number:Zcn K (T0 C) "number"
 f_thing:Zcn K (T0 C) "thing"
 f_rights:Zcn K (T0 C) "rights"
 f_giver:Zcn K (T0 C) "giver"
 f_holder:Zcn K (T0 C) "holder"
 rz_NoHandle:Zsh K mg (T0 C) "NoHandle"
 rz_TooMany:Zsh K mg (T0 C) "TooMany"
 cat_PassError:CatAt K mg (T0 C) "PassError" ZrV
 fx_missing:ZtB K (T0 C) "Lacks" "missing"
 g_Empty:GC mg "Empty" (.ref C.Empty)
 t_Empty:(T0 C).any "Empty"=some C.Empty
 g_Full:GC mg "Full" (.ref C.Full)
 t_Full:(T0 C).any "Full"=some C.Full
 g_Lacks:GC mg "Lacks" (.ref C.Lacks)
 t_Lacks:(T0 C).any "Lacks"=some C.Lacks
 g_NoHandle:GC mg "NoHandle" (.ref C.NoHandle)
 t_NoHandle:(T0 C).any "NoHandle"=some C.NoHandle
 g_NoRights:GC mg "NoRights" (.ref C.NoRights)
 t_NoRights:(T0 C).any "NoRights"=some C.NoRights
 g_NoTask:GC mg "NoTask" (.ref C.NoTask)
 t_NoTask:(T0 C).any "NoTask"=some C.NoTask
 g_NoThing:GC mg "NoThing" (.ref C.NoThing)
 t_NoThing:(T0 C).any "NoThing"=some C.NoThing
 g_Taken:GC mg "Taken" (.ref C.Taken)
 t_Taken:(T0 C).any "Taken"=some C.Taken
 g_TooMany:GC mg "TooMany" (.ref C.TooMany)
 t_TooMany:(T0 C).any "TooMany"=some C.TooMany
def trO (m o:Nat)(ev:Int):O:=.ins "Tree" [("handles",.ref m),("offspring",.ref o),("following",.int ev)]
def ZcJ (F:Fm):Tab:=fun c=>if c="Tree" then some F else none
theorem tb1 {F:Fm}:ZcJ F (Str.ofString "Tree")=some F:=rfl
theorem lt0 {a b c:W}:List.lookup (Str.ofString "handles") [(Str.ofString "handles",a),(Str.ofString "offspring",b),(Str.ofString "following",c)]=some a:=rfl
theorem lt1 {a b c:W}:List.lookup (Str.ofString "offspring") [(Str.ofString "handles",a),(Str.ofString "offspring",b),(Str.ofString "following",c)]=some b:=rfl
theorem lt2 {a b c:W}:List.lookup (Str.ofString "following") [(Str.ofString "handles",a),(Str.ofString "offspring",b),(Str.ofString "following",c)]=some c:=rfl
theorem lh0 {a b c d e:W}:List.lookup (Str.ofString "number") [(Str.ofString "number",a),(Str.ofString "thing",b),(Str.ofString "rights",c),(Str.ofString "giver",d),(Str.ofString "holder",e)]=some a:=rfl
theorem lh1 {a b c d e:W}:List.lookup (Str.ofString "thing") [(Str.ofString "number",a),(Str.ofString "thing",b),(Str.ofString "rights",c),(Str.ofString "giver",d),(Str.ofString "holder",e)]=some b:=rfl
theorem lh2 {a b c d e:W}:List.lookup (Str.ofString "rights") [(Str.ofString "number",a),(Str.ofString "thing",b),(Str.ofString "rights",c),(Str.ofString "giver",d),(Str.ofString "holder",e)]=some c:=rfl
theorem lh3 {a b c d e:W}:List.lookup (Str.ofString "giver") [(Str.ofString "number",a),(Str.ofString "thing",b),(Str.ofString "rights",c),(Str.ofString "giver",d),(Str.ofString "holder",e)]=some d:=rfl
theorem lh4 {a b c d e:W}:List.lookup (Str.ofString "holder") [(Str.ofString "number",a),(Str.ofString "thing",b),(Str.ofString "rights",c),(Str.ofString "giver",d),(Str.ofString "holder",e)]=some e:=rfl
theorem Ziq {a b c:W}:List.lookup (Str.ofString "keeps") [(Str.ofString "handles",a),(Str.ofString "offspring",b),(Str.ofString "following",c)]=none:=rfl
theorem ZaT {a b c:W}:List.lookup (Str.ofString "need_kept") [(Str.ofString "handles",a),(Str.ofString "offspring",b),(Str.ofString "following",c)]=none:=rfl
theorem Zb2 {a b c:W}:List.lookup (Str.ofString "need_room_below") [(Str.ofString "handles",a),(Str.ofString "offspring",b),(Str.ofString "following",c)]=none:=rfl
theorem ZkH {a b c:W}:List.lookup (Str.ofString "keep") [(Str.ofString "handles",a),(Str.ofString "offspring",b),(Str.ofString "following",c)]=none:=rfl
theorem ZgU {a b c:W}:List.lookup (Str.ofString "rooted") [(Str.ofString "handles",a),(Str.ofString "offspring",b),(Str.ofString "following",c)]=none:=rfl
theorem ZcS {a b c:W}:List.lookup (Str.ofString "derived") [(Str.ofString "handles",a),(Str.ofString "offspring",b),(Str.ofString "following",c)]=none:=rfl
theorem Zcd {a b c:W}:List.lookup (Str.ofString "handle") [(Str.ofString "handles",a),(Str.ofString "offspring",b),(Str.ofString "following",c)]=none:=rfl
theorem ZkC {a b c:W}:List.lookup (Str.ofString "held") [(Str.ofString "handles",a),(Str.ofString "offspring",b),(Str.ofString "following",c)]=none:=rfl
theorem ZdP {a b c:W}:List.lookup (Str.ofString "below") [(Str.ofString "handles",a),(Str.ofString "offspring",b),(Str.ofString "following",c)]=none:=rfl
theorem ZeE {a b c:W}:List.lookup (Str.ofString "chain") [(Str.ofString "handles",a),(Str.ofString "offspring",b),(Str.ofString "following",c)]=none:=rfl
theorem ZjW {a b c:W}:List.lookup (Str.ofString "cut") [(Str.ofString "handles",a),(Str.ofString "offspring",b),(Str.ofString "following",c)]=none:=rfl
theorem Zpi {a b c:W}:List.lookup (Str.ofString "kept") [(Str.ofString "handles",a),(Str.ofString "offspring",b),(Str.ofString "following",c)]=none:=rfl
theorem Ztr:(Str.ofString "handles" == Str.ofString "offspring")=false:=by decide +kernel
theorem ZtT:(Str.ofString "handles" == Str.ofString "following")=false:=by decide +kernel
theorem ZtS:(Str.ofString "offspring" == Str.ofString "handles")=false:=by decide +kernel
theorem ZtU:(Str.ofString "offspring" == Str.ofString "following")=false:=by decide +kernel
theorem Ztx:(Str.ofString "following" == Str.ofString "handles")=false:=by decide +kernel
theorem ZtD:(Str.ofString "following" == Str.ofString "offspring")=false:=by decide +kernel
theorem ZtA:(Str.ofString "number" == Str.ofString "thing")=false:=by decide +kernel
theorem ZtR:(Str.ofString "number" == Str.ofString "rights")=false:=by decide +kernel
theorem Ztu:(Str.ofString "number" == Str.ofString "giver")=false:=by decide +kernel
theorem ZtP:(Str.ofString "number" == Str.ofString "holder")=false:=by decide +kernel
theorem ZtQ:(Str.ofString "thing" == Str.ofString "number")=false:=by decide +kernel
theorem ZtV:(Str.ofString "thing" == Str.ofString "rights")=false:=by decide +kernel
theorem ZtM:(Str.ofString "thing" == Str.ofString "giver")=false:=by decide +kernel
theorem ZtE:(Str.ofString "thing" == Str.ofString "holder")=false:=by decide +kernel
theorem Zts:(Str.ofString "rights" == Str.ofString "number")=false:=by decide +kernel
theorem Ztp:(Str.ofString "rights" == Str.ofString "thing")=false:=by decide +kernel
theorem ZtC:(Str.ofString "rights" == Str.ofString "giver")=false:=by decide +kernel
theorem Ztc:(Str.ofString "rights" == Str.ofString "holder")=false:=by decide +kernel
theorem ZtG:(Str.ofString "giver" == Str.ofString "number")=false:=by decide +kernel
theorem Ztw:(Str.ofString "giver" == Str.ofString "thing")=false:=by decide +kernel
theorem ZtI:(Str.ofString "giver" == Str.ofString "rights")=false:=by decide +kernel
theorem ZtK:(Str.ofString "giver" == Str.ofString "holder")=false:=by decide +kernel
theorem Ztn:(Str.ofString "holder" == Str.ofString "number")=false:=by decide +kernel
theorem Ztj:(Str.ofString "holder" == Str.ofString "thing")=false:=by decide +kernel
theorem Ztm:(Str.ofString "holder" == Str.ofString "rights")=false:=by decide +kernel
theorem ZtX:(Str.ofString "holder" == Str.ofString "giver")=false:=by decide +kernel
section
variable {P:Program} {w:World} {K:PySem.W.Frag} {mg:Str→Option Value} {base:Heap} {C:Cs}
theorem ZcL {fi:Ei}{G:Tg}{B:Sm}{ρ:Sg}{h h':Mem}{ws:List W}(e:fi ρ h=.ok none ws h'):Zer fi G B ρ h=ZaC G B ws ρ h':=by unfold Zer; rw [e]
theorem Zjs {fi:Ei}{G:Tg}{B:Sm}{ρ:Sg}{h h':Mem}{n:Nat}{ws:List W}(e:fi ρ h=.ok (some n) ws h'):Zlt fi G B ρ h=Zb8 G B n ws ws ρ h':=by unfold Zlt; rw [e]
theorem Zah {F G:Sm}{ρ ρ':Sg}{h h':Mem}(e:F ρ h=.nx ρ' h'):Zcc F G ρ h=G ρ' h':=by unfold Zcc; rw [e]
theorem Zea {k:Nat}{m:Str}{F:Fm}(h:ZtF P w K mg base (T0 C) k "Tree" m F):Zfm P w K mg base (T0 C) k m (ZcJ F):=fun c G e=>by
 unfold ZcJ at e
 split at e
 ·rename_i hc; subst hc; cases e; exact h
 ·cases e
theorem Zca {k:Nat}{m:Str}{F:Fm}{q:Bool}(h:MtX P w K mg base (T0 C) q k "Tree" m F):Zfz P w K mg base (T0 C) q k m (ZcJ F):=fun c G e=>by
 unfold ZcJ at e
 split at e
 ·rename_i hc; subst hc; cases e; exact h
 ·cases e
theorem Zkq {α:Type}{kvs:List (Key×α)}{l:List Nat}(e:kvs.map (·.1)=l.map fun (n:Nat)=>Sum.inl (n:Int))(z:Int):(ZeD kvs (.inl z)).isSome=l.any fun n=>decide ((n:Int)=z):=by
 unfold ZeD
 induction l generalizing kvs with
 | nil=>
  have:kvs=[]:=by simpa using e
  subst this; rfl
 | cons a l ih=>
  cases kvs with
  | nil=>simp at e
  | cons p kvs=>
   simp only [List.map_cons,List.cons.injEq] at e
   have:=ih e.2
   rw [List.find?_cons,List.any_cons]
   by_cases hz:(a:Int)=z
   ·simp [e.1,hz]
   ·have h1:¬p.1=.inl z:=by rw [e.1]; intro q; exact hz (Sum.inl.inj q)
    simp only [h1,hz,decide_false,Bool.false_or]
    exact this
structure Hn where
 n:Nat
 p:Nat
 q:Nat
 th:Int
 ri:Int
 gv:Option Nat
 ho:Str
structure Kt where
 t:Nat
 m:Nat
 o:Nat
def gvW:Option Nat→W
 | none=>.non
 | some g=>.int (g:Int)
def hnO (x:Hn):O:=.ins "Handle" [("number",.int (x.n:Int)),("thing",.int x.th),("rights",.int x.ri),("giver",gvW x.gv),("holder",.str x.ho)]
def ZbW (hs:List Hn)(n:Nat):List Nat:=(hs.filter fun x=>decide (x.gv=some n)).map Hn.n
def kdD (l:List Nat):List (Key×W):=l.map fun (k:Nat)=>(.inl (k:Int),.bl true)
def hdD (hs:List Hn):List (Key×W):=hs.map fun x=>(.inl (x.n:Int),.ref x.p)
def ofD (hs:List Hn):List (Key×W):=hs.map fun x=>(.inl (x.n:Int),.ref x.q)
structure Tm (h:Mem)(κ:Kt)(ev:Nat)(hs:List Hn):Prop where
 t:h[κ.t]? = some (trO κ.m κ.o ev)
 m:h[κ.m]? = some (.dic (hdD hs))
 o:h[κ.o]? = some (.dic (ofD hs))
 hp:∀ x∈hs,h[x.p]? = some (hnO x)
 hq:∀ x∈hs,h[x.q]? = some (.dic (kdD (ZbW hs x.n)))∨h[x.q]? = some (.fdic (kdD (ZbW hs x.n)))
 up:(hs.map Hn.n).Pairwise (· < ·)
 lt:∀ x∈hs,x.n<ev
 gv:∀ x∈hs,∀ g,x.gv=some g→g<x.n∧g∈hs.map Hn.n
 qm:∀ x∈hs,x.q≠κ.m∧x.q≠κ.o
theorem Zgt (hs:List Hn):(hdD hs).map (·.1)=(hs.map Hn.n).map fun (n:Nat)=>Sum.inl (n:Int):=by unfold hdD; rw [List.map_map,List.map_map]; rfl
theorem ZiN (hs:List Hn):(ofD hs).map (·.1)=(hs.map Hn.n).map fun (n:Nat)=>Sum.inl (n:Int):=by unfold ofD; rw [List.map_map,List.map_map]; rfl
theorem Zfl {hs:List Hn}(u:(hs.map Hn.n).Pairwise (· < ·)):(hs.map Hn.n).Nodup:=u.imp fun h e=>by omega
theorem ZfW {l:List Nat}(nd:l.Nodup):(l.map fun (n:Nat)=>(Sum.inl (n:Int):Key)).Nodup:=by
 unfold List.Nodup
 rw [List.pairwise_map]
 exact nd.imp fun h e=>h (by have:=Sum.inl.inj e; omega)
theorem Zeb {hs:List Hn}(nd:(hs.map Hn.n).Nodup){x:Hn}(hx:x∈hs):ZeD (hdD hs) (.inl (x.n:Int))=some (.ref x.p):=
 (ZeI (by rw [Zgt]; exact ZfW nd)).mp (List.mem_map.mpr ⟨x,hx,rfl⟩)
theorem Zd0 {hs:List Hn}(nd:(hs.map Hn.n).Nodup){x:Hn}(hx:x∈hs):ZeD (ofD hs) (.inl (x.n:Int))=some (.ref x.q):=
 (ZeI (by rw [ZiN]; exact ZfW nd)).mp (List.mem_map.mpr ⟨x,hx,rfl⟩)
theorem Zq0 (hs:List Hn)(z:Int):(ZeD (hdD hs) (.inl z)).isSome=decide (∃ x∈hs,(x.n:Int)=z):=by
 rw [Zkq (Zgt hs),Bool.eq_iff_iff]
 simp
def noH (hs:List Hn)(w:W):Prop:=(w=.bl true∨w=.bl false∨w=.non∨(∃ z,w=.str z)∨(∃ l,w=.tl l)∨∃ l,w=.tup l)∨∃ z:Int,w=.int z∧¬∃ x∈hs,(x.n:Int)=z
def Zp0 (F:Fm):Prop:=∀ h,(∀ z:Int,F [.int z] h=.ok (.bl true) h)∧(F [.bl true] h=.ok (.bl false) h∧F [.bl false] h=.ok (.bl false) h∧F [.non] h=.ok (.bl false) h)∧(∀ z,F [.str z] h=.ok (.bl false) h)∧(∀ l,F [.tl l] h=.ok (.bl false) h)∧∀ l,F [.tup l] h=.ok (.bl false) h
theorem Zrb (T:Tx K mg C)(R:DefAt K mg "is_number" s_is_number):∃ F,ZbU P w K mg base CX0 1 "is_number" (spH (T0 C) F)∧Zp0 F:=by
 refine ⟨_,(Zd5 R Zhm ZgI (hB:=fun f cdv A outer s H E φ0 H0 hr=>(Zai (Zam (Zjo (ZdS (ZaR T.ins T.exo T.kit) (Zas K rfl) rfl T.b_isinstance (by first | exact Zag | rfl) (Zaa (Zab 0) (Zaa (Zho "int" rfl T.b_int (by first | exact ZbY | rfl)) Zac))) (Zkl (ZqW (ZdS (ZaR T.ins T.exo T.kit) (Zas K rfl) rfl T.b_isinstance (by first | exact Zag | rfl) (Zaa (Zab 0) (Zaa (Zho "bool" rfl T.b_bool (by first | exact Zb1 | rfl)) Zac)))))))))),fun h=>⟨fun z=>Zaj rfl ?_ (Nat.le_refl _),⟨Zaj rfl ?_ (Nat.le_refl _),Zaj rfl ?_ (Nat.le_refl _),Zaj rfl ?_ (Nat.le_refl _)⟩,fun z=>Zaj rfl ?_ (Nat.le_refl _),fun z=>Zaj rfl ?_ (Nat.le_refl _),fun z=>Zaj rfl ?_ (Nat.le_refl _)⟩⟩ <;> simp_arith [ZhR,ZhC,ZhX,ZhS,ZhE,ZhI,ZhK,ZhV,Zh6,ZhN,Zdz,Zda,Zdd,Zdl,Zc9,Zdh,Zde,Zdb,Zdv,Zdt,Zds,Zdf,Zdm,Zdr,Zdj,Zdx,Zdu,Zdo,Zdk,Zdc]
abbrev mis (a b:Int):Int:=Builtin.bitAnd a (Builtin.bitNot b)
def ZpA (F:Fm):Prop:=∀ h a b,F [.int a,.int b] h=.ok (.int (mis a b)) h
theorem ZrD (T:Tx K mg C)(R:DefAt K mg "missing" s_missing):∃ F,ZbU P w K mg base CX0 1 "missing" (spH (T0 C) F)∧ZpA F:=by
 refine ⟨_,(Zd5 R Zju Zja (hB:=fun f cdv A outer s H E φ0 H0 hr=>(Zai (Zam (Zar ZrQ Zmp (Zab 0) (Ztq ZqI ZoV (Zab 1))))))),fun h a b=>Zaj rfl ?_ (Nat.le_refl _)⟩
 simp! [xNo]
def Zto (F:Fm):Prop:=∀ h a b,F [.int a,.int b] h=.ok (.bl (decide (mis a b=0))) h
theorem ZsN (T:Tx K mg C){Fm':Fm}(hm:ZpA Fm')(G_missing:ZbU P w K mg base CX0 1 "missing" (spH (T0 C) Fm'))(R:DefAt K mg "within" s_within):∃ F,ZbU P w K mg base CX0 2 "within" (spH (T0 C) F)∧Zto F:=by
 refine ⟨_,(Zd5 R ZkY Zlu (hB:=fun f cdv A outer s H E φ0 H0 hr=>(Zai (Zam (Zji (Za2 hr) Za3 (Zaz G_missing hr (by decide) rfl (Zaa (Zab 0) (Zaa (Zab 1) Zac))) Zaf (Zat _)))))),fun h a b=>Zaj rfl ?_ (Nat.le_refl _)⟩
 have e:=hm h a b
 generalize mis a b=q at e ⊢
 simp! [e]
def Zog (F:Fm):Prop:=∀ (h:Mem) (a b c d e:W),F [.ref h.length,a,b,c,d,e] (h++[.ins "Handle" []])=.ok .non (h++[.ins "Handle" [("number",a),("thing",b),("rights",c),("giver",d),("holder",e)]])
theorem Zny (T:Tx K mg C){f:Addr}{fd:FuncData}(R:Fun K "__init__" "Handle.__init__" Zbz f fd):∃ F,FnOk P w K mg base CX0 1 f fd ["self","number","thing","rights","giver","holder"] (spH (T0 C) F)∧Zog F:=by
 refine ⟨_,(ZpU R ZeK (hB:=fun cdv A outer s H E φ0 H0 hr=>(Zad (Zc5 (Zab 0) (Zab 1) T.f_number)
   (Zad (Zc5 (Zab 0) (Zab 2) T.f_thing)
   (Zad (Zc5 (Zab 0) (Zab 3) T.f_rights)
   (Zad (Zc5 (Zab 0) (Zab 4) T.f_giver)
   (Zai (Zc5 (Zab 0) (Zab 5) T.f_holder)))))))) ZcV ZbT,fun h a b c d e=>Zaj rfl ?_ (by simp)⟩
 simp! [Zjq,ZmF,ZtA,ZtR,Ztu,ZtP,ZtQ,ZtV,ZtM,ZtE,Zts,Ztp,ZtC,Ztc,ZtG,Ztw,ZtI,ZtK,Ztn,Ztj,Ztm,ZtX]
def Zm6 (F:Fm):Prop:=∀ h:Mem,F [.ref h.length] (h++[.ins "Tree" []])=.ok .non (h++[trO (h.length+1) (h.length+2) 0,.dic [],.dic []])
theorem Zpo (T:Tx K mg C){f:Addr}{fd:FuncData}(R:Fun K "__init__" "Tree.__init__" Zb4 f fd):∃ F,FnOk P w K mg base CX0 1 f fd ["self"] (spH (T0 C) F)∧Zm6 F:=by
 refine ⟨_,(ZpU R Zgv (hB:=fun cdv A outer s H E φ0 H0 hr=>(Zad (Zc5 (Zab 0) Zid T.f_handles)
   (Zad (Zc5 (Zab 0) Zid T.f_offspring)
   (Zai (Zc5 (Zab 0) Zaf T.f_following)))))) ZcV ZbT,fun h=>Zaj rfl ?_ (by simp)⟩
 simp! [Zl0,Zjq,ZmF,Ztr,ZtT,ZtS,ZtU,Ztx,ZtD,trO]
theorem kept {h:Mem}{n:Nat}{o x:O}(e:h[n]? = some x):(h++[o])[n]? = some x:=by rw [List.getElem?_append_left (List.getElem?_eq_some_iff.mp e).1]; exact e
def Zlx (F:Fm):Prop:=∀ h κ ev hs,Tm h κ ev hs→(∀ w,noH hs w→F [.ref κ.t,w] h=.ok (.bl false) h)∧∀ x∈hs,F [.ref κ.t,.int (x.n:Int)] h=.ok (.bl true) h
theorem Zmi (T:Tx K mg C){Fn:Fm}(hn:Zp0 Fn)(G_is_number:ZbU P w K mg base CX0 1 "is_number" (spH (T0 C) Fn)){f:Addr}{fd:FuncData}(R:Fun K "keeps" "Tree.keeps" Zb3 f fd):∃ F,FnOk P w K mg base CX0 2 f fd ["self","number"] (spH (T0 C) F)∧Zlx F:=by
 refine ⟨_,(ZpU R Zgr (hB:=fun cdv A outer s H E φ0 H0 hr=>(Zai (Zam (Zjo (Zaz G_is_number hr (by decide) rfl (Zaa (Zab 1) Zac)) (Zkl (Zji (Zrw hr) ZmS (Zab 1) (Zbh (Zab 0) T.f_handles) (by rfl)))))))) ZcV ZbT,?_⟩
 intro h κ ev hs S
 have e:=S.t
 simp only [trO] at e
 have e2:=S.m
 obtain ⟨n1,⟨n2,n3,n4⟩,n5,n6,n7⟩:=hn h
 refine ⟨fun w hw=>Zaj rfl ?_ (by simp),fun x hx=>Zaj rfl ?_ (by simp)⟩
 ·rcases hw with (rfl | rfl | rfl | ⟨z,rfl⟩ | ⟨z,rfl⟩ | ⟨z,rfl⟩) | ⟨z,rfl,hz⟩
  ·simp! [n2]
  ·simp! [n3]
  ·simp! [n4]
  ·simp! [n5 z]
  ·simp! [n6 z]
  ·simp! [n7 z]
  ·have g:=Zq0 hs z
   rw [decide_eq_false hz] at g
   have g:ZeD (hdD hs) (.inl z)=none:=by simpa using g
   simp! [n1 z,e,e2,Zes,lt0,lt1,lt2,g]
 ·have g:=Zeb (Zfl S.up) hx
  simp! [n1,e,e2,Zes,lt0,lt1,lt2,g]
def Zec (F:Fm):Prop:=∀ h κ ev hs,Tm h κ ev hs→(∀ w,noH hs w→F [.ref κ.t,w] h=.ex (.exc "NoHandle" [] []) h)∧∀ x∈hs,F [.ref κ.t,.int (x.n:Int)] h=.ok .non h
theorem Zmb (T:Tx K mg C){Fk:Fm}(hk:Zlx Fk)(M_keeps:Zfm P w K mg base (T0 C) 2 "keeps" (ZcJ Fk)){f:Addr}{fd:FuncData}(R:Fun K "need_kept" "Tree.need_kept" Zbc f fd):∃ F,FnOk P w K mg base (CXe true P w) 3 f fd ["self","number"] (spH (T0 C) F)∧Zec F:=by
 refine ⟨_,(ZlQ R Zd2 (hB:=fun cdv A outer s H E φ0 hr hx=>(Zai (ZaK (ZcD (Zbm (Zhd T.ins M_keeps hr (by decide) (Zab 0) (Zaa (Zab 1) Zac)))) (Zai (ZiO T.rz_NoHandle hx rfl (Zaa Zap Zac))) Zaq)))) Za5,?_⟩
 intro h κ ev hs S
 have e:=S.t
 simp only [trO] at e
 obtain ⟨k1,k2⟩:=hk h κ ev hs S
 refine ⟨fun w hw=>Zbb rfl ?_ (by simp),fun x hx=>Zbd rfl ?_ (by simp)⟩
 ·have q:=k1 w hw
  simp! [e,q,ZaM,tb1,Ziq]
 ·have q:=k2 x hx
  simp! [e,q,ZaM,tb1,Ziq]
def gvN (hs:List Hn)(n:Nat):Option Nat:=(hs.find? fun x=>decide (x.n=n)).bind Hn.gv
theorem Zen:∀ {hs:List Hn} {x:Hn},(hs.map Hn.n).Nodup→x∈hs→gvN hs x.n=x.gv
 | c::hs,x,nd,h=>by
  rw [List.map_cons,List.nodup_cons] at nd
  unfold gvN
  rw [List.find?_cons]
  rcases List.mem_cons.mp h with rfl | h
  ·simp
  ·have e:¬c.n=x.n:=fun e=>nd.1 (e ▸ List.mem_map.mpr ⟨x,h,rfl⟩)
   simp only [e,decide_false]
   exact Zen nd.2 h
theorem ZiC {hs:List Hn}{n g:Nat}(h:gvN hs n=some g):∃ x∈hs,x.n=n∧x.gv=some g:=by
 unfold gvN at h
 rw [Option.bind_eq_some_iff] at h
 obtain ⟨x,h1,h2⟩:=h
 have h3:=List.find?_some h1
 exact ⟨x,List.mem_of_find?_eq_some h1,of_decide_eq_true h3,h2⟩
def upw (hs:List Hn):Nat→Nat→List Nat
 | 0,_=>[]
 | f+1,n=>n::(match gvN hs n with
  | none=>[]
  | some g=>upw hs f g)
def upN (hs:List Hn)(n:Nat):List Nat:=upw hs (n+1) n
def Dn (hs:List Hn):Prop:=∀ x∈hs,∀ g,x.gv=some g→g<x.n
theorem ZrE {hs:List Hn}(d:Dn hs):∀ (f n:Nat),n<f→upw hs f n=upN hs n:=by
 have key:∀ f n f',n<f→n<f'→upw hs f n=upw hs f' n:=by
  intro f
  induction f with
  | zero=>intro n f' h; omega
  | succ f ih=>
   intro n f' h h'
   cases f' with
   | zero=>omega
   | succ f'=>
    unfold upw
    cases e:gvN hs n with
    | none=>rfl
    | some g=>
     obtain ⟨x,hx,e1,e2⟩:=ZiC e
     have:=d x hx g e2
     dsimp only
     rw [ih g f' (by omega) (by omega)]
 intro f n h
 exact key f n (n+1) h (by omega)
theorem Zcy {hs:List Hn}(d:Dn hs)(n:Nat):upN hs n=n::(match gvN hs n with
  | none=>[]
  | some g=>upN hs g):=by
 conv=>lhs; unfold upN upw
 cases e:gvN hs n with
 | none=>rfl
 | some g=>
  obtain ⟨x,hx,e1,e2⟩:=ZiC e
  have:=d x hx g e2
  dsimp only
  rw [ZrE d n g (by omega)]
theorem Tm.dn {h:Mem}{κ:Kt}{ev:Nat}{hs:List Hn}(S:Tm h κ ev hs):Dn hs:=fun x hx g e=>(S.gv x hx g e).1
theorem Tm.of {h:Mem}{κ:Kt}{ev:Nat}{hs:List Hn}(S:Tm h κ ev hs){n:Nat}(hn:n∈hs.map Hn.n):∃ x∈hs,x.n=n:=by
 obtain ⟨x,hx,e⟩:=List.mem_map.mp hn
 exact ⟨x,hx,e⟩
def Zh2 (F:Fm):Prop:=∀ h κ ev hs,Tm h κ ev hs→(∀ w,noH hs w→F [.ref κ.t,w] h=.ex (.exc "NoHandle" [] []) h)∧∀ x∈hs,(upN hs x.n).length<50→∃ h',F [.ref κ.t,.int (x.n:Int)] h=.ok (.ref (h.length+1)) h'∧h'[h.length+1]? = some (.lst ((upN hs x.n).reverse.map fun (n:Nat)=>W.int (n:Int)))∧∀ i,i<h.length→h'[i]? = h[i]?
theorem Zmu (T:Tx K mg C){Fk:Fm}(hk:Zec Fk)(M_need_kept:Zfz P w K mg base (T0 C) true 3 "need_kept" (ZcJ Fk)){f:Addr}{fd:FuncData}(R:Fun K "chain" "Tree.chain" Zb5 f fd):∃ F,FnOk P w K mg base (CXe true P w) 4 f fd ["self","number"] (spH (T0 C) F)∧Zh2 F:=by
 refine ⟨_,(ZlQ R sc_Tree_chain (hB:=fun cdv A outer s H E φ0 hr hx=>(Zad (ZaY (Za8 T.ins M_need_kept hx hr (by decide) (Zab 0) (Zaa (Zab 1) Zac)))
   (Zad (Zay (i:=2) sc_Tree_chain.nd rfl (Or.inl rfl) (fun _ _ _=>trivial) (ZgR Zac))
   (Zad (Zay (i:=3) sc_Tree_chain.nd rfl (Or.inl rfl) (fun _ _ _=>trivial) (Zab 1))
   (Zad (Zig 50 PassesOwn.leaving (Zax ZhM Zgq (Zab 3) Zgs (Zat _))
    (Zad (ZaY (ZcU (Zab 2) (Zaa (Zab 3) Zac)))
    (Zai (Zay (i:=3) sc_Tree_chain.nd rfl (Or.inl rfl) (fun _ _ _=>trivial) (Zbh (Za6 hr (Zbh (Zab 0) T.f_handles) (Zab 3) (fun _ _=>rfl)) T.f_giver)))))
   (Zai (Zam (Zqx rfl rfl T.b_list (by first | exact ZbF | rfl) rfl T.b_reversed (by first | exact PyProof.Rows.boot_reversed | decide +kernel) (Zab 2)))))))))) Za5,?_⟩
 intro h κ ev hs S
 have e:=S.t
 simp only [trO] at e
 obtain ⟨k1,k2⟩:=hk h κ ev hs S
 generalize hB:Zcc (Zbq _) (ZcW _ _)=B
 refine ⟨fun w hw=>Zbb rfl ?_ (by simp),fun x hx hl=>?_⟩
 ·have q:=k1 w hw
  simp! [e,q,ZaM,tb1,ZaT]
 have q:=k2 x hx
 have nd:=Zfl S.up
 have lp:∀ (fuel:Nat) (acc:List Nat) (y:Hn),y∈hs→(upN hs y.n).length<fuel→acc.length+(upN hs y.n).length≤1000→Zb9 (Zbp ZbH (ZaW 3) (xC .non)) B fuel [some (.ref κ.t),some (.int (x.n:Int)),some (.ref h.length),some (.int (y.n:Int))] (h++[.lst (acc.map fun (n:Nat)=>W.int (n:Int))])=.nx [some (.ref κ.t),some (.int (x.n:Int)),some (.ref h.length),some .non] (h++[.lst ((acc++upN hs y.n).map fun (n:Nat)=>W.int (n:Int))]):=by
  intro fuel
  induction fuel with
  | zero=>intro acc y _ z; omega
  | succ fuel ih=>
   intro acc y hy hf ha
   have g:=Zeb nd hy
   have e1:=S.m
   have e2:=S.hp y hy
   simp only [hnO] at e2
   have uq:=Zcy S.dn y.n
   rw [Zen nd hy] at uq
   have f1:(h++[O.lst (acc.map fun (n:Nat)=>W.int (n:Int))])[h.length]? = some (.lst (acc.map fun (n:Nat)=>W.int (n:Int))):=by simp
   have f2:(h++[O.lst (acc.map fun (n:Nat)=>W.int (n:Int))]).set h.length (.lst (acc.map (fun (n:Nat)=>W.int (n:Int))++[.int (y.n:Int)]))=h++[.lst ((acc++[y.n]).map fun (n:Nat)=>W.int (n:Int))]:=by
    rw [List.set_append_right _ _ (Nat.le_refl _)]; simp
   have f3:(acc.map fun (n:Nat)=>W.int (n:Int)).length<16777216:=by rw [List.length_map]; omega
   obtain ⟨h1,eh1⟩:∃ h1,h++[O.lst ((acc++[y.n]).map fun (n:Nat)=>W.int (n:Int))]=h1:=⟨_,rfl⟩
   have a0:h1[κ.t]? = some (O.ins "Tree" [("handles",.ref κ.m),("offspring",.ref κ.o),("following",.int ev)]):=by rw [← eh1]; exact kept e
   have a1:h1[κ.m]? = some (.dic (hdD hs)):=by rw [← eh1]; exact kept e1
   have a2:h1[y.p]? = some (O.ins "Handle" [("number",.int (y.n:Int)),("thing",.int y.th),("rights",.int y.ri),("giver",gvW y.gv),("holder",.str y.ho)]):=by rw [← eh1]; exact kept e2
   rw [eh1] at f2
   have eb:B [some (.ref κ.t),some (.int (x.n:Int)),some (.ref h.length),some (.int (y.n:Int))] (h++[.lst (acc.map fun (n:Nat)=>W.int (n:Int))])=.nx [some (.ref κ.t),some (.int (x.n:Int)),some (.ref h.length),some (gvW y.gv)] h1:=by
    rw [← hB]
    generalize h++[O.lst (acc.map fun (n:Nat)=>W.int (n:Int))]=h0 at f1 f2
    generalize (acc.map fun (n:Nat)=>W.int (n:Int))=aw at f1 f2 f3
    simp! [f1,f2,f3,a0,a1,a2,g,Zbi,Zes,lt0,lt1,lt2,lh0,lh1,lh2,lh3,lh4]
   unfold Zb9
   have ec:Zbp ZbH (ZaW 3) (xC .non) [some (.ref κ.t),some (.int (x.n:Int)),some (.ref h.length),some (.int (y.n:Int))] (h++[.lst (acc.map fun (n:Nat)=>W.int (n:Int))])=.ok (.bl true) (h++[.lst (acc.map fun (n:Nat)=>W.int (n:Int))]):=by simp! [xNo]
   rw [ec]
   dsimp only
   rw [eb]
   dsimp only
   cases hg:y.gv with
   | none=>
    rw [hg] at uq
    have uq:upN hs y.n=[y.n]:=uq
    rw [uq] at hf ⊢
    cases fuel with
    | zero=>simp at hf
    | succ fuel=>
     unfold Zb9
     have ec:Zbp ZbH (ZaW 3) (xC .non) [some (.ref κ.t),some (.int (x.n:Int)),some (.ref h.length),some (gvW none)] h1=.ok (.bl false) h1:=by simp! [gvW]
     rw [ec]
     dsimp only
     rw [← eh1]
     rfl
   | some g=>
    rw [hg] at uq
    have uq:upN hs y.n=y.n::upN hs g:=uq
    rw [uq,List.length_cons] at hf ha
    obtain ⟨z,hz,ez⟩:=S.of (S.gv y hy g hg).2
    rw [← ez] at uq hf ha
    have:=ih (acc++[y.n]) z hz (by omega) (by rw [List.length_append,List.length_singleton]; omega)
    rw [eh1] at this
    have gz:gvW (some g)=.int (z.n:Int):=by rw [← ez]; rfl
    rw [gz,this,uq]
    simp
 have l1:=lp 50 [] x hx hl (by simp; omega)
 rw [List.nil_append,List.map_nil] at l1
 obtain ⟨U,hU⟩:∃ U,upN hs x.n=U:=⟨_,rfl⟩
 rw [hU] at l1 ⊢
 refine ⟨h++[.lst (U.map fun (n:Nat)=>W.int (n:Int))]++[.lst (U.reverse.map fun (n:Nat)=>W.int (n:Int))],Zbd rfl ?_ (by simp),by simp,fun i hi=>by rw [List.append_assoc,List.getElem?_append_left hi]⟩
 refine congrArg Out.res (?_:_=Out.rt (.ref (h.length+1)) _)
 refine (Zah (ρ':=[some (.ref κ.t),some (.int (x.n:Int)),none,none]) (h':=h) (by simp! [e,q,ZaM,tb1,ZaT])).trans ?_
 refine (Zah (ρ':=[some (.ref κ.t),some (.int (x.n:Int)),some (.ref h.length),none]) (h':=h++[.lst []]) (by simp! [xNo])).trans ?_
 refine (Zah (ρ':=[some (.ref κ.t),some (.int (x.n:Int)),some (.ref h.length),some (.int (x.n:Int))]) (h':=h++[.lst []]) (by simp! [xNo])).trans ?_
 refine (Zah l1).trans ?_
 have f1:(h++[O.lst (U.map fun (n:Nat)=>W.int (n:Int))])[h.length]? = some (.lst (U.map fun (n:Nat)=>W.int (n:Int))):=by simp
 have f2:(h++[O.lst (U.map fun (n:Nat)=>W.int (n:Int))]).length=h.length+1:=by simp
 have f3:(U.reverse.map fun (n:Nat)=>W.int (n:Int))=(U.map fun (n:Nat)=>W.int (n:Int)).reverse:=by rw [List.map_reverse]
 rw [f3]
 generalize h++[O.lst (U.map fun (n:Nat)=>W.int (n:Int))]=h1 at f1 f2
 generalize (U.map fun (n:Nat)=>W.int (n:Int))=uw at f1
 rw [← f2]
 simp! [ZpE,f1]
def Zm1 (F:Fm):Prop:=∀ h κ ev hs,Tm h κ ev hs→∀ x∈hs,(upN hs x.n).length<50→((upN hs x.n).length<40→∃ h',F [.ref κ.t,.int (x.n:Int)] h=.ok .non h'∧h.length≤h'.length∧∀ i,i<h.length→h'[i]? = h[i]?)∧(40≤(upN hs x.n).length→∃ h',F [.ref κ.t,.int (x.n:Int)] h=.ex (.exc "TooMany" [] []) h'∧h.length≤h'.length∧∀ i,i<h.length→h'[i]? = h[i]?)
theorem Zpb (T:Tx K mg C){Fc:Fm}(hc:Zh2 Fc)(M_chain:Zfz P w K mg base (T0 C) true 4 "chain" (ZcJ Fc)){f:Addr}{fd:FuncData}(R:Fun K "need_room_below" "Tree.need_room_below" ZaE f fd):∃ F,FnOk P w K mg base (CXe true P w) 5 f fd ["self","number"] (spH (T0 C) F)∧Zm1 F:=by
 refine ⟨_,(ZlQ R Zcs (hB:=fun cdv A outer s H E φ0 hr hx=>(Zai (ZaK (Zax ZsC Zrp (ZdS Zc7 ZbZ rfl T.b_len (by first | exact Zbu | rfl) (Zaa (Za8 T.ins M_chain hx hr (by decide) (Zab 0) (Zaa (Zab 1) Zac)) Zac)) (ZsZ rfl T.c_LONGEST_CHAIN) (Zat _)) (Zai (ZiO T.rz_TooMany hx rfl (Zaa Zap Zac))) Zaq)))) Za5,?_⟩
 intro h κ ev hs S x hx hl
 have e:=S.t
 simp only [trO] at e
 obtain ⟨h',c1,c2,c3⟩:=(hc h κ ev hs S).2 x hx hl
 obtain ⟨L,hL⟩:∃ L,((upN hs x.n).reverse.map fun (n:Nat)=>W.int (n:Int))=L:=⟨_,rfl⟩
 have Ll:L.length=(upN hs x.n).length:=by rw [← hL]; simp
 rw [hL] at c2
 have b1:L.length≤16777216:=by omega
 have hl':h.length≤h'.length:=by have:=(List.getElem?_eq_some_iff.mp c2).1; omega
 refine ⟨fun q=>⟨h',Zbd rfl ?_ hl',hl',c3⟩,fun q=>⟨h',Zbb rfl ?_ hl',hl',c3⟩⟩
 ·have q':¬(40:Int)≤(L.length:Int):=by omega
  simp! [e,c1,c2,b1,q',ZaM,tb1,ZeE]
 ·have q':(40:Int)≤(L.length:Int):=by omega
  simp! [e,c1,c2,b1,q',ZaM,tb1,ZeE]
def Zgu (F:Fm):Prop:=∀ h κ ev hs,Tm h κ ev hs→(∀ w,noH hs w→F [.ref κ.t,w] h=.ex (.exc "NoHandle" [] []) h)∧∀ x∈hs,F [.ref κ.t,.int (x.n:Int)] h=.ok (.ref h.length) (h++[hnO x])
theorem Zku (T:Tx K mg C){Fk Fi:Fm}(hk:Zec Fk)(hi:Zog Fi)(M_need_kept:Zfz P w K mg base (T0 C) true 3 "need_kept" (ZcJ Fk))(K_Handle:ZpW P w K mg base (T0 C) 1 "Handle" Fi){f:Addr}{fd:FuncData}(R:Fun K "handle" "Tree.handle" ZbL f fd):∃ F,FnOk P w K mg base (CXe true P w) 4 f fd ["self","number"] (spH (T0 C) F)∧Zgu F:=by
 refine ⟨_,(ZlQ R sc_Tree_handle (hB:=fun cdv A outer s H E φ0 hr hx=>(Zad (ZaY (Za8 T.ins M_need_kept hx hr (by decide) (Zab 0) (Zaa (Zab 1) Zac)))
   (Zad (Zay (i:=2) sc_Tree_handle.nd rfl (Or.inl rfl) (fun _ _ _=>trivial) (Za6 hr (Zbh (Zab 0) T.f_handles) (Zab 1) (fun _ _=>rfl)))
   (Zai (Zam (ZmW K_Handle hr (by decide) rfl (Zaa (Zbh (Zab 2) T.f_number) (Zaa (Zbh (Zab 2) T.f_thing) (Zaa (Zbh (Zab 2) T.f_rights) (Zaa (Zbh (Zab 2) T.f_giver) (Zaa (Zbh (Zab 2) T.f_holder) Zac)))))))))))) Za5,?_⟩
 intro h κ ev hs S
 have e:=S.t
 simp only [trO] at e
 obtain ⟨k1,k2⟩:=hk h κ ev hs S
 refine ⟨fun w hw=>Zbb rfl ?_ (by simp),fun x hx=>Zbd rfl ?_ (by simp)⟩
 ·have q:=k1 w hw
  simp! [e,q,ZaM,tb1,ZaT]
 ·have q:=k2 x hx
  have g:=Zeb (Zfl S.up) hx
  have e1:=S.m
  have e2:=S.hp x hx
  have i1:=hi h (.int (x.n:Int)) (.int x.th) (.int x.ri) (gvW x.gv) (.str x.ho)
  simp only [hnO] at e2 ⊢
  simp! [e,q,e1,e2,g,i1,ZhZ,Zbi,Zes,lt0,lt1,lt2,lh0,lh1,lh2,lh3,lh4,ZaM,tb1,ZaT]
theorem Zj7 {β:Type}(f:β→Nat)(g:β→W):∀ l:List β,Zco (l.map fun x=>(.inl (f x:Int),g x))=some (l.map fun x=>(f x:Int))
 | []=>rfl
 | x::l=>by rw [List.map_cons]; unfold Zco; rw [Zj7 f g l]; rfl
theorem Zh4:∀ l:List Int,ZcZ (l.map W.int)=some l
 | []=>rfl
 | x::l=>by rw [List.map_cons]; unfold ZcZ; rw [Zh4 l]; rfl
theorem Zl7 {l:List Int}(h:l.Pairwise (· ≤ ·)):ZbX l=l:=ZeQ (Zce l) (Zir l) h
theorem ZsP {l:List Nat}(h:l.Pairwise (· < ·)):(l.map fun (n:Nat)=>(n:Int)).Pairwise (· ≤ ·):=by
 rw [List.pairwise_map]
 exact h.imp fun q=>by omega
structure Tj (h:Mem)(κ:Kt)(ev:Nat)(hs:List Hn):Prop where
 b:Tm h κ ev hs
 hq:∀ x∈hs,h[x.q]? = some (.dic (kdD (ZbW hs x.n)))
 mo:κ.m≠κ.o
 pd:(hs.map Hn.p).Nodup
 qd:(hs.map Hn.q).Nodup
 qm:∀ x∈hs,x.q≠κ.m∧x.q≠κ.o
 ri:∀ x∈hs,0≤x.ri∧x.ri<64
def Tj.on (κ:Kt)(hs:List Hn)(n:Nat):Prop:=n=κ.t∨n=κ.m∨n=κ.o∨∃ x∈hs,n=x.p∨n=x.q
theorem Tj.lt {h:Mem}{κ:Kt}{ev:Nat}{hs:List Hn}(S:Tj h κ ev hs){n:Nat}(q:Tj.on κ hs n):n<h.length:=by
 rcases q with rfl | rfl | rfl | ⟨x,hx,rfl | rfl⟩
 ·exact (List.getElem?_eq_some_iff.mp S.b.t).1
 ·exact (List.getElem?_eq_some_iff.mp S.b.m).1
 ·exact (List.getElem?_eq_some_iff.mp S.b.o).1
 ·exact (List.getElem?_eq_some_iff.mp (S.b.hp x hx)).1
 ·exact (List.getElem?_eq_some_iff.mp (S.hq x hx)).1
theorem Tj.fr {h h':Mem}{κ:Kt}{ev:Nat}{hs:List Hn}(S:Tj h κ ev hs)(e:∀ n,Tj.on κ hs n→h'[n]? = h[n]?):Tj h' κ ev hs:=
 ⟨⟨by rw [e _ (.inl rfl)]; exact S.b.t,by rw [e _ (.inr (.inl rfl))]; exact S.b.m,by rw [e _ (.inr (.inr (.inl rfl)))]; exact S.b.o,fun x hx=>by rw [e _ (.inr (.inr (.inr ⟨x,hx,.inl rfl⟩)))]; exact S.b.hp x hx,
  fun x hx=>.inl (by rw [e _ (.inr (.inr (.inr ⟨x,hx,.inr rfl⟩)))]; exact S.hq x hx),S.b.up,S.b.lt,S.b.gv,S.qm⟩,fun x hx=>by rw [e _ (.inr (.inr (.inr ⟨x,hx,.inr rfl⟩)))]; exact S.hq x hx,S.mo,S.pd,S.qd,S.qm,S.ri⟩
theorem Tj.app {h:Mem}{κ:Kt}{ev:Nat}{hs:List Hn}(S:Tj h κ ev hs)(o:List O):Tj (h++o) κ ev hs:=S.fr fun n q=>by rw [List.getElem?_append_left (S.lt q)]
theorem Tj.ne {h:Mem}{κ:Kt}{ev:Nat}{hs:List Hn}(S:Tj h κ ev hs):κ.t≠κ.m∧κ.t≠κ.o∧∀ x∈hs,κ.t≠x.p∧κ.t≠x.q∧κ.m≠x.p∧κ.o≠x.p∧∀ y∈hs,x.p≠y.q:=by
 have t:=S.b.t
 have m:=S.b.m
 have o:=S.b.o
 refine ⟨fun q=>?_,fun q=>?_,fun x hx=>⟨fun q=>?_,fun q=>?_,fun q=>?_,fun q=>?_,fun y hy q=>?_⟩⟩
 ·rw [q,m] at t; cases t
 ·rw [q,o] at t; cases t
 ·have:=S.b.hp x hx; rw [← q,t] at this; injection this with this; injection this with a _; exact absurd a (by decide +kernel)
 ·have:=S.hq x hx; rw [← q,t] at this; cases this
 ·have:=S.b.hp x hx; rw [← q,m] at this; cases this
 ·have:=S.b.hp x hx; rw [← q,o] at this; cases this
 ·have:=S.b.hp x hx; rw [q,S.hq y hy] at this; cases this
def Zpt (x:Hn)(z:Str):Hn:={ x with ho:=z }
def ZmQ (F:Fm):Prop:=∀ h κ ev hs,Tm h κ ev hs→(∀ w z,noH hs w→F [.ref κ.t,w,.str z] h=.ex (.exc "NoHandle" [] []) h)∧∀ x∈hs,∀ z,F [.ref κ.t,.int (x.n:Int),.str z] h=.ok .non (h.set x.p (hnO (Zpt x z)))
theorem Zoy (T:Tx K mg C){Fk:Fm}(hk:Zec Fk)(M_need_kept:Zfz P w K mg base (T0 C) true 3 "need_kept" (ZcJ Fk)){f:Addr}{fd:FuncData}(R:Fun K "held" "Tree.held" Zch f fd):∃ F,FnOk P w K mg base (CXe true P w) 4 f fd ["self","number","holder"] (spH (T0 C) F)∧ZmQ F:=by
 refine ⟨_,(ZlQ R sc_Tree_held (hB:=fun cdv A outer s H E φ0 hr hx=>(Zad (ZaY (Za8 T.ins M_need_kept hx hr (by decide) (Zab 0) (Zaa (Zab 1) Zac)))
   (Zad (Zay (i:=3) sc_Tree_held.nd rfl (Or.inl rfl) (fun _ _ _=>trivial) (Za6 hr (Zbh (Zab 0) T.f_handles) (Zab 1) (fun _ _=>rfl)))
   (Zai (Zc5 (Zab 3) (Zab 2) T.f_holder)))))) Za5,?_⟩
 intro h κ ev hs S
 have e:=S.t
 simp only [trO] at e
 obtain ⟨k1,k2⟩:=hk h κ ev hs S
 refine ⟨fun w z hw=>Zbb rfl ?_ (by simp),fun x hx z=>Zbd rfl ?_ (by simp)⟩
 ·have q:=k1 w hw
  simp! [e,q,ZaM,tb1,ZaT]
 ·have q:=k2 x hx
  have g:=Zeb (Zfl S.up) hx
  have e1:=S.m
  have e2:=S.hp x hx
  simp only [hnO,Zpt] at e2 ⊢
  simp! [e,q,e1,e2,g,Zjq,ZmF,ZtA,ZtR,Ztu,ZtP,ZtQ,ZtV,ZtM,ZtE,Zts,Ztp,ZtC,Ztc,ZtG,Ztw,ZtI,ZtK,Ztn,Ztj,Ztm,ZtX,Zbi,Zes,lt0,lt1,lt2,lh0,lh1,lh2,lh3,lh4,ZaM,tb1,ZaT]
def Zao (l:List Nat):List W:=l.map fun (n:Nat)=>W.int (n:Int)
def Znk (F:Fm):Prop:=∀ h κ ev hs,Tm h κ ev hs→hs.length≤1000→F [.ref κ.t] h=.ok (.ref h.length) (h++[.lst (Zao (hs.map Hn.n))])
theorem ZnU (T:Tx K mg C){f:Addr}{fd:FuncData}(R:Fun K "kept" "Tree.kept" Zci f fd):∃ F,FnOk P w K mg base CX0 1 f fd ["self"] (spH (T0 C) F)∧Znk F:=by
 refine ⟨_,(ZpU R ZgQ (hB:=fun cdv A outer s H E φ0 H0 hr=>(Zai (Zam (ZpL rfl rfl T.b_sorted (by first | exact Zct | rfl) (Zbh (Zab 0) T.f_handles)))))) ZcV ZbT,?_⟩
 intro h κ ev hs S hl
 have e:=S.t
 simp only [trO] at e
 have e1:=S.m
 refine Zaj rfl ?_ (by simp)
 have k1:Zco (hdD hs)=some (hs.map fun x=>(x.n:Int)):=Zj7 Hn.n (fun x=>.ref x.p) hs
 have k0:(hs.map fun x=>(x.n:Int)).Pairwise (· ≤ ·):=by
  have:=ZsP S.up
  rwa [List.map_map] at this
 have k2:ZbX (hs.map fun x=>(x.n:Int))=hs.map fun x=>(x.n:Int):=Zl7 k0
 have k3:Zl5 (hs.map fun x=>(x.n:Int)):=.inr ⟨by rw [List.length_map]; exact hl,k0⟩
 have k4:(hs.map fun x=>(x.n:Int)).map W.int=Zao (hs.map Hn.n):=by unfold Zao; rw [List.map_map,List.map_map]; rfl
 rw [← k4]
 generalize (hs.map fun x=>(x.n:Int))=L at k1 k2 k3
 simp! [ZkG,e,e1,k1,k2,k3,Zes,lt0,lt1,lt2]
theorem Zew {kvs:List (Key×W)}{l:List Nat}(e:kvs.map (·.1)=l.map fun (n:Nat)=>Sum.inl (n:Int)){z:Nat}{w:W}(h:¬z∈l):ZjX kvs (.inl (z:Int)) w=kvs++[(.inl (z:Int),w)]:=by
 unfold ZjX
 rw [if_neg]
 intro q
 rw [List.any_eq_true] at q
 obtain ⟨p,hp,q⟩:=q
 have q:=of_decide_eq_true q
 have:p.1∈l.map fun (n:Nat)=>(Sum.inl (n:Int):Key):=by rw [← e]; exact List.mem_map.mpr ⟨p,hp,rfl⟩
 rw [q] at this
 obtain ⟨y,hy,e2⟩:=List.mem_map.mp this
 have:=Sum.inl.inj e2
 have hyz:y=z:=by omega
 exact h (hyz ▸ hy)
theorem Zia (l:List Nat):(kdD l).map (·.1)=l.map fun (n:Nat)=>Sum.inl (n:Int):=by unfold kdD; rw [List.map_map]; rfl
theorem Zby {hs:List Hn}{n k:Nat}(h:k∈ZbW hs n):∃ x∈hs,x.n=k∧x.gv=some n:=by
 unfold ZbW at h
 obtain ⟨x,hx,e⟩:=List.mem_map.mp h
 obtain ⟨h1,h2⟩:=List.mem_filter.mp hx
 exact ⟨x,h1,e,of_decide_eq_true h2⟩
theorem Zf4 (hs:List Hn)(x:Hn)(n:Nat):ZbW (hs++[x]) n=if x.gv=some n then ZbW hs n++[x.n] else ZbW hs n:=by
 unfold ZbW
 rw [List.filter_append,List.map_append]
 by_cases h:x.gv=some n
 ·simp [h]
 ·simp [h]
theorem Tm.new {h:Mem}{κ:Kt}{ev:Nat}{hs:List Hn}(S:Tm h κ ev hs):¬ev∈hs.map Hn.n:=fun q=>by
 obtain ⟨x,hx,e⟩:=List.mem_map.mp q
 have:=S.lt x hx
 omega
theorem Tm.kn {h:Mem}{κ:Kt}{ev:Nat}{hs:List Hn}(S:Tm h κ ev hs):ZbW hs ev=[]:=by
 cases e:ZbW hs ev with
 | nil=>rfl
 | cons a l=>
  obtain ⟨x,hx,e1,e2⟩:=Zby (show a∈ZbW hs ev by rw [e]; simp)
  have:=(S.gv x hx ev e2).2
  exact (S.new this).elim
theorem Zm7 {ev:Nat}:∀ {l:List Nat} {b:Nat},l.Pairwise (· < ·)→(∀ a∈l,b≤a∧a<ev)→l=[]∨l.length+b≤ev
 | [],_,_,_=>.inl rfl
 | a::l,b,u,h=>by
  rw [List.pairwise_cons] at u
  have ha:=h a List.mem_cons_self
  rcases Zm7 (b:=a+1) u.2 (fun c hc=>⟨u.1 c hc,(h c (List.mem_cons_of_mem _ hc)).2⟩) with rfl | q
  ·exact .inr (by simp; omega)
  ·exact .inr (by simp; omega)
theorem Tm.len {h:Mem}{κ:Kt}{ev:Nat}{hs:List Hn}(S:Tm h κ ev hs):hs.length≤ev:=by
 rcases Zm7 (ev:=ev) (b:=0) S.up (fun a ha=>by
  obtain ⟨x,hx,rfl⟩:=List.mem_map.mp ha
  exact ⟨Nat.zero_le _,S.lt x hx⟩) with q | q
 ·have:hs=[]:=by simpa using q
  subst this; simp
 ·simpa using q
theorem Tj.add {h h':Mem}{κ:Kt}{ev:Nat}{hs:List Hn}(S:Tj h κ ev hs){x:Hn}(xn:x.n=ev)(xg:∀ g,x.gv=some g→g∈hs.map Hn.n)(xr:0≤x.ri∧x.ri<64)(xp:h.length≤x.p)(xq:h.length≤x.q)
  (e1:h'[κ.t]? = some (trO κ.m κ.o (ev+1:Nat))) (e2:h'[κ.m]? = some (.dic (hdD (hs++[x])))) (e3:h'[κ.o]? = some (.dic (ofD (hs++[x])))) (e4:h'[x.p]? = some (hnO x)) (e5:h'[x.q]? = some (.dic []))
  (e6:∀ y∈hs,h'[y.p]? = h[y.p]?) (e7:∀ y∈hs,h'[y.q]? = some (.dic (kdD (ZbW (hs++[x]) y.n)))):Tj h' κ (ev+1) (hs++[x]):=by
 have all:∀ {p:Hn→Prop},(∀ y∈hs,p y)→p x→∀ y∈hs++[x],p y:=fun h1 h2 y hy=>by
  rcases List.mem_append.mp hy with hy | hy
  ·exact h1 y hy
  ·rw [List.mem_singleton.mp hy]; exact h2
 have kx:ZbW (hs++[x]) x.n=[]:=by
  rw [Zf4,if_neg,xn]
  ·exact S.b.kn
  ·intro q
   have:=xg _ q
   rw [xn] at this
   exact S.b.new this
 have hq:∀ y∈hs++[x],h'[y.q]? = some (.dic (kdD (ZbW (hs++[x]) y.n))):=all e7 (by rw [kx]; exact e5)
 have qm:∀ y∈hs++[x],y.q≠κ.m∧y.q≠κ.o:=all S.qm ⟨by have:=S.lt (.inr (.inl rfl)); omega,by have:=S.lt (.inr (.inr (.inl rfl))); omega⟩
 refine ⟨⟨e1,e2,e3,all (fun y hy=>by rw [e6 y hy]; exact S.b.hp y hy) e4,fun y hy=>.inl (hq y hy),?_,all (fun y hy=>by have:=S.b.lt y hy; omega) (by omega),?_,qm⟩,hq,S.mo,?_,?_,qm,all S.ri xr⟩
 ·rw [List.map_append,List.pairwise_append]
  refine ⟨S.b.up,by simp,fun a ha b hb=>?_⟩
  have hb:b=x.n:=by simpa using hb
  obtain ⟨y,hy,rfl⟩:=List.mem_map.mp ha
  have:=S.b.lt y hy
  omega
 ·refine all (fun y hy g e=>?_) (fun g e=>?_)
  ·obtain ⟨a,b⟩:=S.b.gv y hy g e
   exact ⟨a,by rw [List.map_append]; exact List.mem_append_left _ b⟩
  ·have b:=xg g e
   refine ⟨?_,by rw [List.map_append]; exact List.mem_append_left _ b⟩
   obtain ⟨y,hy,e⟩:=List.mem_map.mp b
   have:=S.b.lt y hy
   omega
 ·rw [List.map_append,List.nodup_append]
  refine ⟨S.pd,by simp,fun a ha b hb q=>?_⟩
  have hb:b=x.p:=by simpa using hb
  obtain ⟨y,hy,rfl⟩:=List.mem_map.mp ha
  have:=S.lt (.inr (.inr (.inr ⟨y,hy,.inl rfl⟩)))
  omega
 ·rw [List.map_append,List.nodup_append]
  refine ⟨S.qd,by simp,fun a ha b hb q=>?_⟩
  have hb:b=x.q:=by simpa using hb
  obtain ⟨y,hy,rfl⟩:=List.mem_map.mp ha
  have:=S.lt (.inr (.inr (.inr ⟨y,hy,.inr rfl⟩)))
  omega
def Zeu (h:Mem)(κ:Kt)(ev:Nat)(hs:List Hn)(x:Hn):Mem:=((((h.set κ.t (trO κ.m κ.o (ev+1:Nat)))++[hnO x]).set κ.m (.dic (hdD (hs++[x]))))++[O.dic []]).set κ.o (.dic (ofD (hs++[x])))
theorem ZhA {h:Mem}{κ:Kt}{ev:Nat}{hs:List Hn}(S:Tj h κ ev hs)(x:Hn)(xp:x.p=h.length)(xq:x.q=h.length+1) :
  (Zeu h κ ev hs x).length=h.length+2∧(Zeu h κ ev hs x)[κ.t]? = some (trO κ.m κ.o (ev+1:Nat))∧(Zeu h κ ev hs x)[κ.m]? = some (.dic (hdD (hs++[x])))∧(Zeu h κ ev hs x)[κ.o]? = some (.dic (ofD (hs++[x])))∧(Zeu h κ ev hs x)[x.p]? = some (hnO x)∧(Zeu h κ ev hs x)[x.q]? = some (.dic [])∧∀ n,n<h.length→n≠κ.t→n≠κ.m→n≠κ.o→(Zeu h κ ev hs x)[n]? = h[n]?:=by
 obtain ⟨n1,n2,n3⟩:=S.ne
 have lt:=S.lt (.inl rfl)
 have lm:=S.lt (.inr (.inl rfl))
 have lo:=S.lt (.inr (.inr (.inl rfl)))
 have mo:=S.mo
 unfold Zeu
 refine ⟨by simp,?_,?_,?_,?_,?_,fun n hn a b c=>?_⟩
 ·rw [List.getElem?_set_ne n2.symm,List.getElem?_append_left (by simp; omega),List.getElem?_set_ne n1.symm,List.getElem?_append_left (by simp; omega),List.getElem?_set_self lt]
 ·rw [List.getElem?_set_ne mo.symm,List.getElem?_append_left (by simp; omega),List.getElem?_set_self (by simp; omega)]
 ·rw [List.getElem?_set_self (by simp; omega)]
 ·rw [xp,List.getElem?_set_ne (by omega),List.getElem?_append_left (by simp),List.getElem?_set_ne (by omega)]; simp
 ·rw [xq,List.getElem?_set_ne (by omega)]; simp
 ·rw [List.getElem?_set_ne (fun q=>c q.symm),List.getElem?_append_left (by simp; omega),List.getElem?_set_ne (fun q=>b q.symm),List.getElem?_append_left (by simp; omega),List.getElem?_set_ne (fun q=>a q.symm)]
def Zkt (F:Fm):Prop:=∀ h κ ev hs,Tj h κ ev hs→ev≤1000→∀ th ri g z,F [.ref κ.t,.int th,.int ri,gvW g,.str z] h=.ok (.int (ev:Int)) (Zeu h κ ev hs ⟨ev,h.length,h.length+1,th,ri,g,z⟩)
theorem Zph (T:Tx K mg C){Fi:Fm}(hi:Zog Fi)(K_Handle:ZpW P w K mg base (T0 C) 1 "Handle" Fi){f:Addr}{fd:FuncData}(R:Fun K "keep" "Tree.keep" Zcv f fd):∃ F,FnOk P w K mg base CX0 3 f fd ["self","thing","rights","giver","holder"] (spH (T0 C) F)∧Zkt F:=by
 refine ⟨_,(ZpU R sc_Tree_keep (hB:=fun cdv A outer s H E φ0 H0 hr=>(Zad (Zay (i:=5) sc_Tree_keep.nd rfl (Or.inl rfl) (fun _ _ _=>trivial) (Zbh (Zab 0) T.f_following))
   (Zad (Zc5 (Zab 0) (Zar ZaH ZaG (Zab 5) Zaf) T.f_following)
   (Zad (Zdy hr (Zbh (Zab 0) T.f_handles) (Zab 5) (ZmW K_Handle hr (by decide) rfl (Zaa (Zab 5) (Zaa (Zab 1) (Zaa (Zab 2) (Zaa (Zab 3) (Zaa (Zab 4) Zac)))))))
   (Zad (Zdy hr (Zbh (Zab 0) T.f_offspring) (Zab 5) Zid)
   (Zai (Zam (Zab 5))))))))) ZcV ZbT,?_⟩
 intro h κ ev hs S hev th ri g z
 obtain ⟨n1,n2,n3⟩:=S.ne
 have lt:=S.lt (.inl rfl)
 have lm:=S.lt (.inr (.inl rfl))
 have lo:=S.lt (.inr (.inr (.inl rfl)))
 obtain ⟨x,hx⟩:∃ x:Hn,⟨ev,h.length,h.length+1,th,ri,g,z⟩=x:=⟨_,rfl⟩
 have hl:=(ZhA S x (by rw [← hx]) (by rw [← hx])).1
 rw [hx]
 refine Zaj rfl ?_ (by rw [hl]; omega)
 unfold Zeu
 obtain ⟨h1,eh1⟩:∃ h1,h.set κ.t (trO κ.m κ.o (ev+1:Nat))=h1:=⟨_,rfl⟩
 have l1:h1.length=h.length:=by rw [← eh1]; simp
 obtain ⟨h2,eh2⟩:∃ h2,h1++[hnO x]=h2:=⟨_,rfl⟩
 have l2:h2.length=h.length+1:=by rw [← eh2]; simp [l1]
 obtain ⟨h3,eh3⟩:∃ h3,h2.set κ.m (.dic (hdD (hs++[x])))=h3:=⟨_,rfl⟩
 have l3:h3.length=h.length+1:=by rw [← eh3]; simp [l2]
 obtain ⟨h4,eh4⟩:∃ h4,h3++[O.dic []]=h4:=⟨_,rfl⟩
 rw [eh1,eh2,eh3,eh4]
 have t1:h1[κ.t]? = some (O.ins "Tree" [("handles",.ref κ.m),("offspring",.ref κ.o),("following",.int (ev+1:Nat))]):=by rw [← eh1,List.getElem?_set_self lt]; rfl
 have t2:h2[κ.t]? = some (O.ins "Tree" [("handles",.ref κ.m),("offspring",.ref κ.o),("following",.int (ev+1:Nat))]):=by rw [← eh2]; exact kept t1
 have m2:h2[κ.m]? = some (.dic (hdD hs)):=by rw [← eh2,List.getElem?_append_left (by omega),← eh1,List.getElem?_set_ne n1]; exact S.b.m
 have t3:h3[κ.t]? = some (O.ins "Tree" [("handles",.ref κ.m),("offspring",.ref κ.o),("following",.int (ev+1:Nat))]):=by rw [← eh3,List.getElem?_set_ne n1.symm]; exact t2
 have t4:h4[κ.t]? = some (O.ins "Tree" [("handles",.ref κ.m),("offspring",.ref κ.o),("following",.int (ev+1:Nat))]):=by rw [← eh4]; exact kept t3
 have o4:h4[κ.o]? = some (.dic (ofD hs)):=by rw [← eh4,List.getElem?_append_left (by omega),← eh3,List.getElem?_set_ne S.mo,← eh2,List.getElem?_append_left (by omega),← eh1,List.getElem?_set_ne n2]; exact S.b.o
 have e:=S.b.t
 simp only [trO] at e
 have p1:ZjX (hdD hs) (.inl (ev:Int)) (.ref h.length)=hdD (hs++[x]):=by
  rw [Zew (Zgt hs) S.b.new]
  unfold hdD
  rw [List.map_append,← hx]; rfl
 have p2:ZjX (ofD hs) (.inl (ev:Int)) (.ref (h.length+1))=ofD (hs++[x]):=by
  rw [Zew (ZiN hs) S.b.new]
  unfold ofD
  rw [List.map_append,← hx]; rfl
 have len:hs.length≤1000:=Nat.le_trans S.b.len hev
 have c1:(hdD hs).length<16777216:=by unfold hdD; rw [List.length_map]; omega
 have c2:(ofD hs).length<16777216:=by unfold ofD; rw [List.length_map]; omega
 have c3:(-18446744073709551616:Int)<(ev:Int):=by omega
 have c4:(ev:Int)<18446744073709551616:=by omega
 have s1:h.set κ.t (O.ins "Tree" [("handles",.ref κ.m),("offspring",.ref κ.o),("following",.int ((ev:Int)+1))])=h1:=by rw [← eh1]; rfl
 have i1:=hi h1 (.int (ev:Int)) (.int th) (.int ri) (gvW g) (.str z)
 rw [l1] at i1
 have i2:h1++[O.ins "Handle" [("number",.int (ev:Int)),("thing",.int th),("rights",.int ri),("giver",gvW g),("holder",.str z)]]=h2:=by rw [← eh2,← hx]; rfl
 rw [i2] at i1
 refine congrArg Out.res (?_:_=Out.rt (.int (ev:Int)) _)
 refine (Zah (ρ':=[some (.ref κ.t),some (.int th),some (.int ri),some (gvW g),some (.str z),some (.int (ev:Int))]) (h':=h) (by simp! [e,Zes,lt0,lt1,lt2])).trans ?_
 refine (Zah (ρ':=[some (.ref κ.t),some (.int th),some (.int ri),some (gvW g),some (.str z),some (.int (ev:Int))]) (h':=h1) (by simp! [e,s1,c3,c4,Zjq,ZmF,Ztr,ZtT,ZtS,ZtU,Ztx,ZtD])).trans ?_
 refine (Zah (ρ':=[some (.ref κ.t),some (.int th),some (.int ri),some (gvW g),some (.str z),some (.int (ev:Int))]) (h':=h3) ?_).trans ?_
 ·simp! [i1,l1,t2,m2,c1,p1,eh3,ZhZ,ZeP,ZmV,Zes,lt0,lt1,lt2]
 refine (Zah (ρ':=[some (.ref κ.t),some (.int th),some (.int ri),some (gvW g),some (.str z),some (.int (ev:Int))]) (h':=h4.set κ.o (.dic (ofD (hs++[x])))) ?_).trans ?_
 ·simp! [eh4,l3,t4,o4,c2,p2,Zl0,ZeP,ZmV,Zes,lt0,lt1,lt2]
 simp! [xNo]
theorem ZfD {α β:Type}{f:α→β}:∀ {l:List α},(l.map f).Nodup→∀ {a b:α},a∈l→b∈l→f a=f b→a=b
 | c::l,nd,a,b,ha,hb,e=>by
  rw [List.map_cons,List.nodup_cons] at nd
  rcases List.mem_cons.mp ha with ea | ha1
  ·rcases List.mem_cons.mp hb with eb | hb1
   ·rw [ea,eb]
   ·rw [ea] at e
    exact absurd (e ▸ List.mem_map.mpr ⟨b,hb1,rfl⟩) nd.1
  ·rcases List.mem_cons.mp hb with eb | hb1
   ·rw [eb] at e
    exact absurd (e ▸ List.mem_map.mpr ⟨a,ha1,rfl⟩) nd.1
   ·exact ZfD nd.2 ha1 hb1 e
def Ft (κ:Kt)(h h':Mem):Prop:=h.length≤h'.length∧∀ n,n<h.length→n≠κ.t→n≠κ.m→n≠κ.o→h'[n]? = h[n]?
def Zf0 (F:Fm):Prop:=∀ h κ ev hs,Tj h κ ev hs→ev≤1000→∀ th ri z,0≤ri→ri<64→∃ h',F [.ref κ.t,.int th,.int ri,.str z] h=.ok (.int (ev:Int)) h'∧Tj h' κ (ev+1) (hs++[⟨ev,h.length,h.length+1,th,ri,none,z⟩])∧Ft κ h h'
theorem Zlj (T:Tx K mg C){Fk:Fm}(hk:Zkt Fk)(M_keep:Zfm P w K mg base (T0 C) 3 "keep" (ZcJ Fk)){f:Addr}{fd:FuncData}(R:Fun K "rooted" "Tree.rooted" ZbM f fd):∃ F,FnOk P w K mg base CX0 4 f fd ["self","thing","rights","holder"] (spH (T0 C) F)∧Zf0 F:=by
 refine ⟨_,(ZpU R Zft (hB:=fun cdv A outer s H E φ0 H0 hr=>(Zai (Zam (Zhd T.ins M_keep hr (by decide) (Zab 0) (Zaa (Zab 1) (Zaa (Zab 2) (Zaa Zgs (Zaa (Zab 3) Zac))))))))) ZcV ZbT,?_⟩
 intro h κ ev hs S hev th ri z r0 r1
 have e:=S.b.t
 simp only [trO] at e
 have q:Fk [.ref κ.t,.int th,.int ri,.non,.str z] h=_:=hk h κ ev hs S hev th ri none z
 obtain ⟨x,hx⟩:∃ x:Hn,⟨ev,h.length,h.length+1,th,ri,none,z⟩=x:=⟨_,rfl⟩
 rw [hx] at q
 obtain ⟨k0,k1,k2,k3,k4,k5,k6⟩:=ZhA S x (by rw [← hx]) (by rw [← hx])
 obtain ⟨n1,n2,n3⟩:=S.ne
 generalize Zeu h κ ev hs x=h' at q k0 k1 k2 k3 k4 k5 k6
 rw [hx]
 refine ⟨h',Zaj rfl (by simp! [e,q,ZaM,tb1,ZkH]) (by omega),?_,by omega,k6⟩
 refine S.add (by rw [← hx]) (by rw [← hx]; intro g z; cases z) (by rw [← hx]; exact ⟨r0,r1⟩) (by rw [← hx]; exact Nat.le_refl _) (by rw [← hx]; exact Nat.le_succ _) k1 k2 k3 k4 k5 (fun y hy=>?_) (fun y hy=>?_)
 ·obtain ⟨a,b,c,d,_⟩:=n3 y hy
  exact k6 _ (S.lt (.inr (.inr (.inr ⟨y,hy,.inl rfl⟩)))) a.symm c.symm d.symm
 ·obtain ⟨a,b,c,d,_⟩:=n3 y hy
  have hg:¬x.gv=some y.n:=by rw [← hx]; exact fun z=>by cases z
  rw [k6 _ (S.lt (.inr (.inr (.inr ⟨y,hy,.inr rfl⟩)))) b.symm (S.qm y hy).1 (S.qm y hy).2,Zf4,if_neg hg]
  exact S.hq y hy
def Fq (κ:Kt)(y:Hn)(h h':Mem):Prop:=h.length≤h'.length∧∀ n,n<h.length→n≠κ.t→n≠κ.m→n≠κ.o→n≠y.q→h'[n]? = h[n]?
def ZgX (F:Fm):Prop:=∀ h κ ev hs,Tj h κ ev hs→ev≤1000→(∀ w (ri:Int) (z:Str),noH hs w→F [.ref κ.t,w,.int ri,.str z] h=.ex (.exc "NoHandle" [] []) h)∧∀ y∈hs,∀ ri z,
 (¬mis ri y.ri=0→F [.ref κ.t,.int (y.n:Int),.int ri,.str z] h=.ex (.exc "Lacks" ["missing"] [.int (mis ri y.ri)]) (h++[hnO y])) ∧
 (mis ri y.ri=0→(upN hs y.n).length<50→(40≤(upN hs y.n).length→∃ h',F [.ref κ.t,.int (y.n:Int),.int ri,.str z] h=.ex (.exc "TooMany" [] []) h'∧h.length≤h'.length∧∀ i,i<h.length→h'[i]? = h[i]?) ∧
  ((upN hs y.n).length<40→0≤ri→ri<64→∃ h' p,F [.ref κ.t,.int (y.n:Int),.int ri,.str z] h=.ok (.int (ev:Int)) h'∧h.length≤p∧Tj h' κ (ev+1) (hs++[⟨ev,p,p+1,y.th,ri,some y.n,z⟩])∧Fq κ y h h'))
theorem Zjh (T:Tx K mg C)(Z_Lacks:RzI P w K mg base (T0 C) 1 "Lacks" "missing"){Fh Fw Fmi Fr Fk:Fm}(hh:Zgu Fh)(hw:Zto Fw)(hm:ZpA Fmi)(hr':Zm1 Fr)(hk:Zkt Fk)(M_handle:Zfz P w K mg base (T0 C) true 4 "handle" (ZcJ Fh))(G_within:ZbU P w K mg base CX0 2 "within" (spH (T0 C) Fw))(G_missing:ZbU P w K mg base CX0 1 "missing" (spH (T0 C) Fmi))(M_need_room_below:Zfz P w K mg base (T0 C) true 5 "need_room_below" (ZcJ Fr))(M_keep:Zfm P w K mg base (T0 C) 3 "keep" (ZcJ Fk))
  {f:Addr} {fd:FuncData} (R:Fun K "derived" "Tree.derived" ZbA f fd):∃ F,FnOk P w K mg base (CXe true P w) 6 f fd ["self","number","rights","holder"] (spH (T0 C) F)∧ZgX F:=by
 refine ⟨_,(ZlQ R sc_Tree_derived (hB:=fun cdv A outer s H E φ0 hr hx=>(Zad (Zay (i:=4) sc_Tree_derived.nd rfl (Or.inl rfl) (fun _ _ _=>trivial) (Za8 T.ins M_handle hx hr (by decide) (Zab 0) (Zaa (Zab 1) Zac)))
   (Zad (ZaK (ZcD (Zbm (Zaz G_within hr (by decide) rfl (Zaa (Zab 2) (Zaa (Zbh (Zab 4) T.f_rights) Zac))))) (Zai (ZjI Z_Lacks hr (by decide) hx rfl (Zaa (Zaz G_missing hr (by decide) rfl (Zaa (Zab 2) (Zaa (Zbh (Zab 4) T.f_rights) Zac))) Zac))) Zaq)
   (Zad (ZaY (Za8 T.ins M_need_room_below hx hr (by decide) (Zab 0) (Zaa (Zab 1) Zac)))
   (Zad (Zay (i:=5) sc_Tree_derived.nd rfl (Or.inl rfl) (fun _ _ _=>trivial) (Zhd T.ins M_keep hr (by decide) (Zab 0) (Zaa (Zbh (Zab 4) T.f_thing) (Zaa (Zab 2) (Zaa (Zbh (Zab 4) T.f_number) (Zaa (Zab 3) Zac))))))
   (Zad (Zdy hr (Za6 hr (Zbh (Zab 0) T.f_offspring) (Zab 1) (fun _ _=>rfl)) (Zab 5) Zhz)
   (Zai (Zam (Zab 5)))))))))) Za5,?_⟩
 intro h κ ev hs S hev
 have e:=S.b.t
 simp only [trO] at e
 obtain ⟨h1',h2'⟩:=hh h κ ev hs S.b
 refine ⟨fun w ri z hw=>Zbb rfl ?_ (by simp),fun y hy ri z=>?_⟩
 ·have q:=h1' w hw
  simp! [e,q,ZaM,tb1,Zcd]
 have q:=h2' y hy
 have S1:=S.app [hnO y]
 have e1:=S1.b.t
 simp only [trO] at e1
 have y1:(h++[hnO y])[h.length]? = some (O.ins "Handle" [("number",.int (y.n:Int)),("thing",.int y.th),("rights",.int y.ri),("giver",gvW y.gv),("holder",.str y.ho)]):=by simp [hnO]
 have l1:(h++[hnO y]).length=h.length+1:=by simp
 have k1:∀ i,i<h.length→(h++[hnO y])[i]? = h[i]?:=fun i hi=>by rw [List.getElem?_append_left hi]
 have hl:h.length≤(h++[hnO y]).length:=by omega
 generalize h++[hnO y]=h1 at q S1 e1 y1 l1 k1 hl
 have w1:=hw h1 ri y.ri
 have m1:=hm h1 ri y.ri
 generalize hms:mis ri y.ri=ms at w1 m1
 refine ⟨fun h0=>Zbb rfl ?_ hl,fun h0 hu=>?_⟩
 ·simp! [e,q,w1,m1,h0,y1,Zes,lh0,lh1,lh2,lh3,lh4,ZaM,tb1,Zcd]
 subst h0
 have w1:Fw [.int ri,.int y.ri] h1=.ok (.bl true) h1:=by rw [w1]; rfl
 obtain ⟨r1,r2⟩:=hr' h1 κ ev hs S1.b y hy hu
 refine ⟨fun h4=>?_,fun h4 i0 i1=>?_⟩
 ·obtain ⟨h',a1,a2,a3⟩:=r2 h4
  exact ⟨h',Zbb rfl (by simp! [e,e1,q,w1,a1,y1,Zes,lh0,lh1,lh2,lh3,lh4,ZaM,tb1,Zcd,Zb2]) (by omega),by omega,fun i hi=>by rw [a3 i (by omega)]; exact k1 i hi⟩
 obtain ⟨h2,a1,a2,a3⟩:=r1 h4
 have S2:Tj h2 κ ev hs:=S1.fr fun n q=>a3 n (S1.lt q)
 have e2:=S2.b.t
 simp only [trO] at e2
 have y2:h2[h.length]? = some (O.ins "Handle" [("number",.int (y.n:Int)),("thing",.int y.th),("rights",.int y.ri),("giver",gvW y.gv),("holder",.str y.ho)]):=by rw [a3 _ (by omega)]; exact y1
 have kq:Fk [.ref κ.t,.int y.th,.int ri,.int (y.n:Int),.str z] h2=_:=hk h2 κ ev hs S2 hev y.th ri (some y.n) z
 obtain ⟨x,hx⟩:∃ x:Hn,⟨ev,h2.length,h2.length+1,y.th,ri,some y.n,z⟩=x:=⟨_,rfl⟩
 rw [hx] at kq
 obtain ⟨b0,b1,b2,b3,b4,b5,b6⟩:=ZhA S2 x (by rw [← hx]) (by rw [← hx])
 obtain ⟨n1,n2,n3⟩:=S2.ne
 generalize Zeu h2 κ ev hs x=h3 at kq b0 b1 b2 b3 b4 b5 b6
 have e3:=b1
 simp only [trO] at e3
 obtain ⟨c1,c2,c3,c4,c5⟩:=n3 y hy
 have yq:y.q<h2.length:=S2.lt (.inr (.inr (.inr ⟨y,hy,.inr rfl⟩)))
 have g3:h3[y.q]? = some (.dic (kdD (ZbW hs y.n))):=by rw [b6 _ yq c2.symm (S.qm y hy).1 (S.qm y hy).2]; exact S2.hq y hy
 have nd2:((hs++[x]).map Hn.n).Nodup:=by
  rw [List.map_append,List.nodup_append]
  refine ⟨Zfl S.b.up,by simp,fun a ha b hb q=>?_⟩
  have hb:b=x.n:=by simpa using hb
  rw [q,hb,← hx] at ha
  exact S.b.new ha
 have g4:ZeD (ofD (hs++[x])) (.inl (y.n:Int))=some (.ref y.q):=Zd0 nd2 (List.mem_append_left _ hy)
 have nk:¬ev∈ZbW hs y.n:=fun q=>by
  obtain ⟨u,hu,e,_⟩:=Zby q
  have:=S.b.lt u hu
  omega
 have p1:ZjX (kdD (ZbW hs y.n)) (.inl (ev:Int)) (.bl true)=kdD (ZbW hs y.n++[ev]):=by
  rw [Zew (Zia _) nk]
  unfold kdD
  rw [List.map_append]; rfl
 have kl:(kdD (ZbW hs y.n)).length<16777216:=by
  unfold kdD ZbW
  rw [List.length_map,List.length_map]
  have:=List.length_filter_le (fun x:Hn=>decide (x.gv=some y.n)) hs
  have:=S.b.len
  omega
 obtain ⟨h4',eh4⟩:∃ h4',h3.set y.q (.dic (kdD (ZbW hs y.n++[ev])))=h4':=⟨_,rfl⟩
 have k4:∀ n,n≠y.q→h4'[n]? = h3[n]?:=fun n q=>by rw [← eh4,List.getElem?_set_ne (fun z=>q z.symm)]
 have l4:h4'.length=h3.length:=by rw [← eh4]; simp
 have xe:x.n=ev∧x.p=h2.length∧x.q=h2.length+1∧x.gv=some y.n∧x.ri=ri:=by rw [← hx]; exact ⟨rfl,rfl,rfl,rfl,rfl⟩
 refine ⟨h4',h2.length,Zbd rfl ?_ (by omega),by omega,?_,by omega,fun n hn x1 x2 x3 x4=>?_⟩
 ·refine congrArg Out.res (?_:_=Out.rt (.int (ev:Int)) h4')
  refine (Zah (ρ':=[some (.ref κ.t),some (.int (y.n:Int)),some (.int ri),some (.str z),some (.ref h.length),none]) (h':=h1) (by simp! [e,q,ZaM,tb1,Zcd])).trans ?_
  refine (Zah (ρ':=[some (.ref κ.t),some (.int (y.n:Int)),some (.int ri),some (.str z),some (.ref h.length),none]) (h':=h1) (by simp! [w1,y1,Zes,lh0,lh1,lh2,lh3,lh4])).trans ?_
  refine (Zah (ρ':=[some (.ref κ.t),some (.int (y.n:Int)),some (.int ri),some (.str z),some (.ref h.length),none]) (h':=h2) (by simp! [e1,a1,ZaM,tb1,Zb2])).trans ?_
  refine (Zah (ρ':=[some (.ref κ.t),some (.int (y.n:Int)),some (.int ri),some (.str z),some (.ref h.length),some (.int (ev:Int))]) (h':=h3) (by simp! [e2,y2,kq,Zes,lh0,lh1,lh2,lh3,lh4,ZaM,tb1,ZkH])).trans ?_
  refine (Zah (ρ':=[some (.ref κ.t),some (.int (y.n:Int)),some (.int ri),some (.str z),some (.ref h.length),some (.int (ev:Int))]) (h':=h4') (by simp! [e3,b3,g4,g3,p1,kl,eh4,Zbi,ZeP,ZmV,Zes,lt0,lt1,lt2])).trans ?_
  simp! [xNo]
 ·rw [hx]
  refine S2.add xe.1 (by rw [xe.2.2.2.1]; intro g q; cases q; exact List.mem_map.mpr ⟨y,hy,rfl⟩) (by rw [xe.2.2.2.2]; exact ⟨i0,i1⟩) (by rw [xe.2.1]; exact Nat.le_refl _) (by rw [xe.2.2.1]; exact Nat.le_succ _) (by rw [k4 _ c2]; exact b1) (by rw [k4 _ (S.qm y hy).1.symm]; exact b2) (by rw [k4 _ (S.qm y hy).2.symm]; exact b3) (by rw [k4 _ (by omega)]; exact b4) (by rw [k4 _ (by omega)]; exact b5) (fun u hu=>?_) (fun u hu=>?_)
  ·obtain ⟨a,b,c,d,f⟩:=n3 u hu
   rw [k4 _ (f y hy)]
   exact b6 _ (S2.lt (.inr (.inr (.inr ⟨u,hu,.inl rfl⟩)))) a.symm c.symm d.symm
  ·obtain ⟨a,b,c,d,f⟩:=n3 u hu
   rw [Zf4,xe.2.2.2.1,xe.1]
   by_cases huy:u.n=y.n
   ·have hq:u.q=y.q:=by
     have e1:=Zd0 (Zfl S.b.up) hu
     have e2:=Zd0 (Zfl S.b.up) hy
     rw [huy,e2] at e1
     have:=Option.some.inj e1
     injection this with this
     exact this.symm
    rw [if_pos (by rw [huy]),hq,huy,← eh4,List.getElem?_set_self (by omega)]
   ·rw [if_neg (fun q=>huy (Option.some.inj q).symm)]
    have hq:u.q≠y.q:=fun q=>huy (by
     rw [ZfD S.qd hu hy q])
    rw [k4 _ hq,b6 _ (S2.lt (.inr (.inr (.inr ⟨u,hu,.inr rfl⟩)))) b.symm (S.qm u hu).1 (S.qm u hu).2]
    exact S2.hq u hu
 ·rw [k4 n x4,b6 n (by omega) x1 x2 x3,a3 n (by omega)]
  exact k1 n hn
theorem ZdC {G:Tg}{B:Sm}(I:Nat→Sg→Mem→Prop):∀ (ws:List W) (i:Nat) (ρ:Sg) (h:Mem),I i ρ h →
  (∀ j w,ws[j]? = some w→∀ ρ h,I (i+j) ρ h→∃ ρ1,G w ρ=some ρ1∧∃ ρ' h',(B ρ1 h=.nx ρ' h'∨B ρ1 h=.ct ρ' h')∧I (i+j+1) ρ' h')→∃ ρ' h',ZaC G B ws ρ h=.nx ρ' h'∧I (i+ws.length) ρ' h'
 | [],i,ρ,h,q,_=>⟨ρ,h,rfl,q⟩
 | w::ws,i,ρ,h,q,t=>by
  obtain ⟨ρ1,e1,ρ2,h2,e2,i2⟩:=t 0 w rfl ρ h q
  obtain ⟨ρ3,h3,e3,i3⟩:=ZdC I ws (i+1) ρ2 h2 i2 fun j u hu ρ h q=>by
   have:=t (j+1) u (by simpa using hu) ρ h (by rw [show i+(j+1)=i+1+j by omega]; exact q)
   rwa [show i+(j+1)+1=i+1+j+1 by omega] at this
  refine ⟨ρ3,h3,?_,by rw [List.length_cons,show i+(ws.length+1)=i+1+ws.length by omega]; exact i3⟩
  unfold ZaC
  rw [e1]
  rcases e2 with e2 | e2 <;> (dsimp only; rw [e2]; exact e3)
theorem ZgO {G:Tg}{B:Sm}{n:Nat}{all:List W}(I:Nat→Sg→Mem→Prop)(hI:∀ i ρ h,I i ρ h→h[n]? = some (.lst all)):∀ (ws:List W) (i:Nat) (ρ:Sg) (h:Mem),I i ρ h →
  (∀ j w,ws[j]? = some w→∀ ρ h,I (i+j) ρ h→∃ ρ1,G w ρ=some ρ1∧∃ ρ' h',(B ρ1 h=.nx ρ' h'∨B ρ1 h=.ct ρ' h')∧I (i+j+1) ρ' h')→∃ ρ' h',Zb8 G B n all ws ρ h=.nx ρ' h'∧I (i+ws.length) ρ' h'
 | [],i,ρ,h,q,_=>⟨ρ,h,by unfold Zb8; rw [if_pos (hI _ _ _ q)],q⟩
 | w::ws,i,ρ,h,q,t=>by
  obtain ⟨ρ1,e1,ρ2,h2,e2,i2⟩:=t 0 w rfl ρ h q
  obtain ⟨ρ3,h3,e3,i3⟩:=ZgO I hI ws (i+1) ρ2 h2 i2 fun j u hu ρ h q=>by
   have:=t (j+1) u (by simpa using hu) ρ h (by rw [show i+(j+1)=i+1+j by omega]; exact q)
   rwa [show i+(j+1)+1=i+1+j+1 by omega] at this
  refine ⟨ρ3,h3,?_,by rw [List.length_cons,show i+(ws.length+1)=i+1+ws.length by omega]; exact i3⟩
  unfold Zb8
  rw [if_pos (hI _ _ _ q),e1]
  rcases e2 with e2 | e2 <;> (dsimp only; rw [e2]; exact e3)
theorem ZjJ {f:Ex}{G:Tg}{B:Sm}{ρ ρ':Sg}{h h1 h':Mem}{n:Nat}{kvs kvs':List (Key×W)}(e:f ρ h=.ok (.ref n) h1)(hd:h1[n]? = some (.dic kvs))(lp:ZaC G B (Zdq kvs) ρ (h1.set n (.fdic kvs))=.nx ρ' h')(ht:h'[n]? = some (.fdic kvs')):ZiU f G B ρ h=.nx ρ' (h'.set n (.dic kvs')):=by
 unfold ZiU
 rw [e]
 dsimp only
 rw [hd]
 dsimp only
 rw [lp]
 unfold ZrS ZgW
 dsimp only
 rw [ht]
theorem Zjb {f:Ex}{G:Tg}{B:Sm}{ρ ρ':Sg}{h h1 h':Mem}{n:Nat}{kvs:List (Key×W)}(e:f ρ h=.ok (.ref n) h1)(hd:h1[n]? = some (.fdic kvs))(lp:ZaC G B (Zdq kvs) ρ h1=.nx ρ' h'):ZiU f G B ρ h=.nx ρ' h':=by
 unfold ZiU
 rw [e]
 dsimp only
 rw [hd]
 dsimp only
 rw [lp]
 rfl
theorem ZjA {α β:Type}(g:α→List β)(l:List α)(j:Nat):((l.take j).flatMap g).length≤(l.flatMap g).length:=by
 conv=>rhs; rw [← List.take_append_drop j l]
 rw [List.flatMap_append,List.length_append]
 omega
def bel (hs:List Hn):Nat→Nat→List Nat
 | 0,_=>[]
 | d+1,n=>(ZbW hs n).flatMap fun k=>k::bel hs d k
def pth (hs:List Hn)(n:Nat):List Nat:=(upN hs n).reverse
structure Hw (hs:List Hn):Prop where
 nd:(hs.map Hn.n).Nodup
 dn:Dn hs
theorem Tm.hw {h:Mem}{κ:Kt}{ev:Nat}{hs:List Hn}(S:Tm h κ ev hs):Hw hs:=⟨Zfl S.up,S.dn⟩
theorem Ziu {hs:List Hn}(W:Hw hs){n k:Nat}(h:k∈ZbW hs n):upN hs k=k::upN hs n∧n<k:=by
 obtain ⟨x,hx,rfl,e⟩:=Zby h
 have:=Zen W.nd hx
 rw [e] at this
 have u:=Zcy W.dn x.n
 rw [this] at u
 exact ⟨u,W.dn x hx n e⟩
theorem Zkj {hs:List Hn}(W:Hw hs){n k:Nat}(h:k∈ZbW hs n):pth hs k=pth hs n++[k]:=by
 unfold pth
 rw [(Ziu W h).1,List.reverse_cons]
theorem Zhy {hs:List Hn}{m:Nat}:∀ {d n:Nat},m∈bel hs d n→m∈hs.map Hn.n
 | 0,n,h=>by cases h
 | d+1,n,h=>by
  unfold bel at h
  obtain ⟨k,hk,h⟩:=List.mem_flatMap.mp h
  rcases List.mem_cons.mp h with rfl | h
  ·obtain ⟨x,hx,e,_⟩:=Zby hk
   exact List.mem_map.mpr ⟨x,hx,e⟩
  ·exact Zhy h
theorem Zgl {hs:List Hn}(W:Hw hs){m:Nat}:∀ {d n:Nat},m∈bel hs d n→∃ c,pth hs n++[c] <+: pth hs m
 | 0,n,h=>by cases h
 | d+1,n,h=>by
  unfold bel at h
  obtain ⟨k,hk,h⟩:=List.mem_flatMap.mp h
  have pk:=Zkj W hk
  rcases List.mem_cons.mp h with rfl | h
  ·exact ⟨m,by rw [pk]; exact List.prefix_rfl⟩
  ·obtain ⟨c,hc⟩:=Zgl W h
   refine ⟨k,?_⟩
   rw [← pk]
   exact List.IsPrefix.trans (List.prefix_append _ _) hc
theorem ZjV {hs:List Hn}(W:Hw hs)(n:Nat):(ZbW hs n).Nodup:=by
 unfold ZbW
 exact W.nd.sublist (List.filter_sublist.map _)
theorem Zkr {hs:List Hn}(W:Hw hs):∀ (d n:Nat),(bel hs d n).Nodup
 | 0,n=>by unfold bel; exact List.nodup_nil
 | d+1,n=>by
  have key:∀ k∈ZbW hs n,∀ x,x∈k::bel hs d k→pth hs n++[k] <+: pth hs x:=fun k hk x h=>by
   have pk:=Zkj W hk
   rcases List.mem_cons.mp h with rfl | h
   ·rw [pk]; exact List.prefix_rfl
   ·obtain ⟨c,hc⟩:=Zgl W h
    rw [← pk]
    exact List.IsPrefix.trans (List.prefix_append _ _) hc
  unfold bel
  unfold List.Nodup
  rw [List.pairwise_flatMap]
  refine ⟨fun k hk=>List.nodup_cons.mpr ⟨fun h=>?_,Zkr W d k⟩,?_⟩
  ·obtain ⟨c,hc⟩:=Zgl W h
   have:=hc.length_le
   rw [List.length_append] at this
   simp at this
   omega
  ·refine List.Pairwise.imp_of_mem (fun {a b} ha hb hab x hx y hy e=>hab ?_) (ZjV W n)
   subst e
   have h1:=key _ ha _ hx
   have h2:=key _ hb _ hy
   have h3:=List.prefix_of_prefix_length_le h1 h2 (by simp)
   have h4:=h3.eq_of_length (by simp)
   have h5:=List.append_cancel_left h4
   simpa using h5
theorem Ziv {α:Type}[DecidableEq α]:∀ {l m:List α},l.Nodup→(∀ x∈l,x∈m)→l.length≤m.length
 | [],m,_,_=>Nat.zero_le _
 | a::l,m,nd,h=>by
  obtain ⟨na,nl⟩:=List.nodup_cons.mp nd
  have hm:=h a List.mem_cons_self
  have:=Ziv (m:=m.erase a) nl fun x hx=>(List.mem_erase_of_ne (fun (e:x=a)=>na (e ▸ hx))).mpr (h x (List.mem_cons_of_mem _ hx))
  rw [List.length_erase_of_mem hm] at this
  have hp:0<m.length:=List.length_pos_of_mem hm
  rw [List.length_cons]; omega
theorem Zn4 {hs:List Hn}(W:Hw hs)(d n:Nat):(bel hs d n).length≤hs.length:=by
 have:=Ziv (Zkr W d n) fun x hx=>Zhy hx
 simpa using this
theorem ZmA {hs:List Hn}(W:Hw hs)(d n:Nat):¬n∈bel hs d n:=fun h=>by
 obtain ⟨c,hc⟩:=Zgl W h
 have:=hc.length_le
 rw [List.length_append] at this
 simp at this
 omega
def ZeZ (d:Nat)(F:Fm):Prop:=∀ h κ ev hs,Tm h κ ev hs→ev≤1000→(0<d→∀ w,noH hs w→F [.ref κ.t,w] h=.ex (.exc "NoHandle" [] []) h)∧∀ x∈hs,ev≤d+x.n →
 ∃ h' n,F [.ref κ.t,.int (x.n:Int)] h=.ok (.ref n) h'∧h.length≤n∧h'[n]? = some (.lst (Zao (bel hs d x.n)))∧∀ i,i<h.length→h'[i]? = h[i]?
theorem Zmx (T:Tx K mg C){Fn Fm':Fm}{d:Nat}(hFn:Zec Fn)(hFm:ZeZ d Fm')(M_need_kept:Zfz P w K mg base (T0 C) true 3 "need_kept" (ZcJ Fn))(M_below:Zfz P w K mg base (T0 C) true (d+4) "below" (ZcJ Fm'))
  {f:Addr} {fd:FuncData} (R:Fun K "below" "Tree.below" ZbE f fd):∃ F,FnOk P w K mg base (CXe true P w) (d+4+1) f fd ["self","number"] (spH (T0 C) F)∧ZeZ (d+1) F:=by
 refine ⟨_,(ZlQ R sc_Tree_below (hB:=fun cdv A outer s H E φ0 hr hx=>(Zad (ZaY (Za8 T.ins M_need_kept hx hr (by omega) (Zab 0) (Zaa (Zab 1) Zac)))
   (Zad (Zay (i:=2) sc_Tree_below.nd rfl (Or.inl rfl) (fun _ _ _=>trivial) (ZgR Zac))
   (Zad (ZnJ (Zbt (fun _ _ _=>trivial)) PassesOwn.leaving rfl (Za6 hr (Zbh (Zab 0) T.f_offspring) (Zab 1) (fun _ _=>rfl)) (ZcE (i:=3) sc_Tree_below.nd rfl (Or.inl rfl))
    (Zad (ZaY (ZcU (Zab 2) (Zaa (Zab 3) Zac)))
    (Zai (ZaY (Zml (Zab 2) (Za8 T.ins M_below hx hr (by omega) (Zab 0) (Zaa (Zab 3) Zac)))))))
   (Zai (Zam (Zab 2)))))))) Za5,?_⟩
 intro h κ ev hs S hev
 have e:=S.t
 simp only [trO] at e
 obtain ⟨b1,b2⟩:=hFn h κ ev hs S
 refine ⟨fun _ w hw=>Zbb rfl ?_ (by simp),fun x hx hd=>?_⟩
 ·have q:=b1 w hw
  simp! [e,q,ZaM,tb1,ZaT]
 have q:=b2 x hx
 generalize hB0:Zcc (Zbq (xLm Zfh _ _)) _=B
 obtain ⟨kl,hkl⟩:∃ kl,ZbW hs x.n=kl:=⟨_,rfl⟩
 have kw:Zdq (kdD kl)=Zao kl:=by
  unfold Zdq kdD Zao
  rw [List.map_map]; rfl
 have tl:κ.t<h.length:=(List.getElem?_eq_some_iff.mp S.t).1
 have ml:κ.m<h.length:=(List.getElem?_eq_some_iff.mp S.m).1
 have ol:κ.o<h.length:=(List.getElem?_eq_some_iff.mp S.o).1
 have hq:=S.hq x hx
 rw [hkl] at hq
 have ql:x.q<h.length:=by rcases hq with z | z <;> exact (List.getElem?_eq_some_iff.mp z).1
 have tq:κ.t≠x.q:=by intro z; rcases hq with y | y <;> (rw [← z,S.t] at y; cases y)
 have pq:∀ y∈hs,y.p≠x.q:=fun y hy z=>by rcases hq with u | u <;> (rw [← z,S.hp y hy] at u; cases u)
 have go:=Zd0 (Zfl S.up) hx
 obtain ⟨gk,hgk⟩:∃ gk:Nat→List Nat,gk=fun k=>k::bel hs d k:=⟨_,rfl⟩
 have hmb:bel hs (d+1) x.n=kl.flatMap gk:=by rw [hgk,← hkl]; rfl
 have big:∀ j,((kl.take j).flatMap gk).length≤1000:=fun j=>by
  refine Nat.le_trans (ZjA gk kl j) ?_
  rw [← hmb]
  exact Nat.le_trans (Zn4 S.hw _ _) (Nat.le_trans S.len hev)
 have qm:=S.qm x hx
 have lp:∀ h0:Mem,h0[h.length]? = some (.lst [])→h.length+1≤h0.length→h0[x.q]? = some (.fdic (kdD kl))→(∀ n,n<h.length→n≠x.q→h0[n]? = h[n]?) →
   ∃ ρ' h',ZaC (gN 3) B (Zao kl) [some (.ref κ.t),some (.int (x.n:Int)),some (.ref h.length),none] h0=.nx ρ' h'∧((∃ v3,ρ'=[some (.ref κ.t),some (.int (x.n:Int)),some (.ref h.length),v3])∧h'[h.length]? = some (.lst (Zao ((kl.take (0+(Zao kl).length)).flatMap gk)))∧h.length+1≤h'.length∧h'[x.q]? = some (.fdic (kdD kl))∧∀ n,n<h.length→n≠x.q→h'[n]? = h[n]?):=by
  intro h0 i1 i2 i3 i4
  refine ZdC (fun i ρ' h'=>(∃ v3,ρ'=[some (.ref κ.t),some (.int (x.n:Int)),some (.ref h.length),v3])∧h'[h.length]? = some (.lst (Zao ((kl.take i).flatMap gk)))∧h.length+1≤h'.length∧h'[x.q]? = some (.fdic (kdD kl))∧∀ n,n<h.length→n≠x.q→h'[n]? = h[n]?) (Zao kl) 0 _ _ ⟨⟨none,rfl⟩,by simpa [Zao] using i1,i2,i3,i4⟩ ?_
  rintro j w hw ρ hh ⟨⟨v3,rfl⟩,p1,p2,p3,p4⟩
  rw [Nat.zero_add] at p1
  rw [Nat.zero_add]
  unfold Zao at hw
  rw [List.getElem?_map,Option.map_eq_some_iff] at hw
  obtain ⟨o,hj,rfl⟩:=hw
  have ho:o∈kl:=List.mem_of_getElem? hj
  rw [← hkl] at ho
  obtain ⟨y,hy,rfl,yg⟩:=Zby ho
  have et:kl.take (j+1)=kl.take j++[y.n]:=by rw [List.take_succ,hj]; rfl
  have ef:(kl.take (j+1)).flatMap gk=(kl.take j).flatMap gk++(y.n::bel hs d y.n):=by rw [et,List.flatMap_append,hgk]; simp
  have b0:=big j
  have bj:=big (j+1)
  rw [ef,List.length_append,List.length_cons] at bj
  obtain ⟨acc,hacc⟩:∃ acc,(kl.take j).flatMap gk=acc:=⟨_,rfl⟩
  rw [hacc] at p1 ef b0 bj
  obtain ⟨aw,haw⟩:∃ aw,Zao acc=aw:=⟨_,rfl⟩
  have awl:aw.length=acc.length:=by rw [← haw]; unfold Zao; simp
  rw [haw] at p1
  have ea:hh[κ.t]? = some (trO κ.m κ.o ev):=by rw [p4 _ tl tq]; exact S.t
  have c1:aw.length<16777216:=by omega
  obtain ⟨h1,eh1⟩:∃ h1,hh.set h.length (.lst (aw++[.int (y.n:Int)]))=h1:=⟨_,rfl⟩
  have hl1:h1.length=hh.length:=by rw [← eh1]; simp
  have k1:∀ n,n<h.length→h1[n]? = hh[n]?:=fun n hn=>by rw [← eh1,List.getElem?_set_ne (by omega)]
  have k2:h1[h.length]? = some (.lst (aw++[.int (y.n:Int)])):=by rw [← eh1,List.getElem?_set_self (by omega)]
  have S1:Tm h1 κ ev hs:=by
   refine ⟨by rw [k1 _ tl]; exact ea,by rw [k1 _ ml,p4 _ ml qm.1.symm]; exact S.m,by rw [k1 _ ol,p4 _ ol qm.2.symm]; exact S.o,fun u hu=>?_,fun u hu=>?_,S.up,S.lt,S.gv,S.qm⟩
   ·have ul:=(List.getElem?_eq_some_iff.mp (S.hp u hu)).1
    rw [k1 _ ul,p4 _ ul (pq u hu)]; exact S.hp u hu
   ·have ul:u.q<h.length:=by rcases S.hq u hu with z | z <;> exact (List.getElem?_eq_some_iff.mp z).1
    by_cases uq:u.q=x.q
    ·refine .inr ?_
     have this:=S.hq u hu
     rw [uq] at this
     have eqk:kdD (ZbW hs u.n)=kdD kl:=by
      rcases hq with z | z
      ·rw [z] at this
       rcases this with q | q
       ·injection q with q; injection q with q; exact q.symm
       ·injection q with q; injection q
      ·rw [z] at this
       rcases this with q | q
       ·injection q with q; injection q
       ·injection q with q; injection q with q; exact q.symm
     rw [uq,k1 _ ql,p3,eqk]
    ·rw [k1 _ ul,p4 _ ul uq]; exact S.hq u hu
  have ea1:=S1.t
  simp only [trO] at ea ea1
  obtain ⟨h2,n2,m1,m2,m3,m4⟩:=(hFm h1 κ ev hs S1 hev).2 y hy (by have:=(Ziu S.hw ho).2; omega)
  have k3:h2[h.length]? = some (.lst (aw++[.int (y.n:Int)])):=by rw [m4 _ (by omega)]; exact k2
  obtain ⟨ms,hms⟩:∃ ms,Zao (bel hs d y.n)=ms:=⟨_,rfl⟩
  have msl:ms.length=(bel hs d y.n).length:=by rw [← hms]; unfold Zao; simp
  rw [hms] at m3
  have c2:aw.length+1+ms.length≤16777216:=by omega
  have h2l:h2.length > n2:=(List.getElem?_eq_some_iff.mp m3).1
  refine ⟨_,rfl,[some (.ref κ.t),some (.int (x.n:Int)),some (.ref h.length),some (.int (y.n:Int))],h2.set h.length (.lst (aw++[.int (y.n:Int)]++ms)),.inl ?_,⟨_,rfl⟩,?_,by simp; omega,?_,?_⟩
  ·rw [← hB0]
   simp! [ea,p1,c1,eh1,ea1,m1,k2,k3,m3,c2,Zsd,tb1,ZdP]
  ·rw [List.getElem?_set_self (by omega),ef,← haw,← hms]; simp [Zao]
  ·rw [List.getElem?_set_ne (by omega),m4 _ (by omega),k1 _ ql]; exact p3
  ·intro n hn hnf
   rw [List.getElem?_set_ne (by omega),m4 _ (by omega),k1 _ hn]; exact p4 n hn hnf
 have lf:(kl.take (0+(Zao kl).length)).flatMap gk=bel hs (d+1) x.n:=by rw [Nat.zero_add,show (Zao kl).length=kl.length by unfold Zao; simp,List.take_length,hmb]
 rw [lf] at lp
 have st1:Zbq (ZaP (Str.ofString "need_kept") (ZcJ Fn) (ZaW 0) (Zan (ZaW 1) ZbP)) [some (.ref κ.t),some (.int (x.n:Int)),none,none] h=.nx [some (.ref κ.t),some (.int (x.n:Int)),none,none] h:=by simp! [e,q,ZaM,tb1,ZaT]
 have e':(h++[O.lst []])[κ.t]? = some (O.ins "Tree" [("handles",.ref κ.m),("offspring",.ref κ.o),("following",.int ev)]):=kept e
 have o':(h++[O.lst []])[κ.o]? = some (.dic (ofD hs)):=kept S.o
 rcases hq with z | z
 ·obtain ⟨ρ',h',lp,⟨v3,rfl⟩,p1,p2,p3,p4⟩:=lp ((h++[O.lst []]).set x.q (.fdic (kdD kl))) (by rw [List.getElem?_set_ne (by omega)]; simp) (by simp) (by rw [List.getElem?_set_self (by simp; omega)]) (fun n hn hnf=>by rw [List.getElem?_set_ne (fun q=>hnf q.symm),List.getElem?_append_left hn])
  rw [← kw] at lp
  refine ⟨h'.set x.q (.dic (kdD kl)),h.length,Zbd rfl ?_ (by simp; omega),Nat.le_refl _,by rw [List.getElem?_set_ne (by omega)]; exact p1,fun i hi=>?_⟩
  ·refine congrArg Out.res (?_:_=Out.rt (.ref h.length) (h'.set x.q (.dic (kdD kl))))
   refine (Zah st1).trans ?_
   refine (Zah (ρ':=[some (.ref κ.t),some (.int (x.n:Int)),some (.ref h.length),none]) (h':=h++[.lst []]) (by simp! [xNo])).trans ?_
   refine (Zah (ZjJ (n:=x.q) (h1:=h++[.lst []]) (by simp! [e',o',go,Zbi,Zes,lt0,lt1,lt2]) (kept z) lp p3)).trans ?_
   simp! [xNo]
  ·by_cases hif:i=x.q
   ·subst hif; rw [List.getElem?_set_self (by omega)]; exact z.symm
   ·rw [List.getElem?_set_ne (fun q=>hif q.symm)]; exact p4 i hi hif
 ·obtain ⟨ρ',h',lp,⟨v3,rfl⟩,p1,p2,p3,p4⟩:=lp (h++[O.lst []]) (by simp) (by simp) (kept z) (fun n hn hnf=>by rw [List.getElem?_append_left hn])
  rw [← kw] at lp
  refine ⟨h',h.length,Zbd rfl ?_ (by omega),Nat.le_refl _,p1,fun i hi=>?_⟩
  ·refine congrArg Out.res (?_:_=Out.rt (.ref h.length) h')
   refine (Zah st1).trans ?_
   refine (Zah (ρ':=[some (.ref κ.t),some (.int (x.n:Int)),some (.ref h.length),none]) (h':=h++[.lst []]) (by simp! [xNo])).trans ?_
   refine (Zah (Zjb (n:=x.q) (h1:=h++[.lst []]) (by simp! [e',o',go,Zbi,Zes,lt0,lt1,lt2]) (kept z) lp)).trans ?_
   simp! [xNo]
  ·by_cases hif:i=x.q
   ·subst hif; rw [p3]; exact z.symm
   ·exact p4 i hi hif
theorem Zhc (T:Tx K mg C){Fn:Fm}(hFn:Zec Fn)(M_need_kept:Zfz P w K mg base (T0 C) true 3 "need_kept" (ZcJ Fn)){f:Addr}{fd:FuncData}(R:Fun K "below" "Tree.below" ZbE f fd)
  (hM:∀ k F,FnOk P w K mg base (CXe true P w) k f fd ["self","number"] (spH (T0 C) F)→Zfz P w K mg base (T0 C) true k "below" (ZcJ F)):∀ d,∃ F,FnOk P w K mg base (CXe true P w) (d+4) f fd ["self","number"] (spH (T0 C) F)∧ZeZ d F
 | 0=>⟨fun _ _=>.no,ZqZ,fun h κ ev hs S hev=>⟨fun z=>absurd z (by omega),fun x hx z=>by have:=S.lt x hx; omega⟩⟩
 | d+1=>by
  obtain ⟨F,G,hF⟩:=Zhc T hFn M_need_kept R hM d
  obtain ⟨F2,G2,hF2⟩:=Zmx T hFn hF M_need_kept (hM _ F G) R
  exact ⟨F2,G2,hF2⟩
theorem ZkA {hs:List Hn}(W:Hw hs){k g:Nat}(hk:k∈ZbW hs g):∀ {d n:Nat},k∈bel hs d n→g=n∨g∈bel hs d n
 | 0,n,h=>by cases h
 | d+1,n,h=>by
  unfold bel at h
  obtain ⟨c,hc,h⟩:=List.mem_flatMap.mp h
  rcases List.mem_cons.mp h with rfl | h
  ·refine .inl ?_
   obtain ⟨x,hx,e1,e2⟩:=Zby hk
   obtain ⟨y,hy,e3,e4⟩:=Zby hc
   have:=ZfD W.nd hx hy (e1.trans e3.symm)
   rw [this,e4] at e2
   exact (Option.some.inj e2).symm
  ·refine .inr ?_
   unfold bel
   refine List.mem_flatMap.mpr ⟨c,hc,?_⟩
   rcases ZkA W hk h with rfl | q
   ·exact List.mem_cons_self
   ·exact List.mem_cons_of_mem _ q
theorem Znn {hs:List Hn}(W:Hw hs){ev:Nat}(lt:∀ x∈hs,x.n<ev){k g:Nat}(hk:k∈ZbW hs g):∀ {d n:Nat},ev≤d+n→(g=n∨g∈bel hs d n)→k∈bel hs d n
 | 0,n,hd,h=>by
  rcases h with rfl | h
  ·obtain ⟨x,hx,e,_⟩:=Zby hk
   have:=(Ziu W hk).2
   have:=lt x hx
   omega
  ·cases h
 | d+1,n,hd,h=>by
  unfold bel
  rcases h with rfl | h
  ·exact List.mem_flatMap.mpr ⟨k,hk,List.mem_cons_self⟩
  ·unfold bel at h
   obtain ⟨c,hc,h⟩:=List.mem_flatMap.mp h
   have:=(Ziu W hc).2
   exact List.mem_flatMap.mpr ⟨c,hc,List.mem_cons_of_mem _ (Znn W lt hk (by omega) (List.mem_cons.mp h))⟩
theorem ZlT {l:List Nat}{m:List Int}(p:m.Perm (l.map fun (n:Nat)=>(n:Int))):((m.map Int.toNat).map fun (n:Nat)=>(n:Int))=m∧(m.map Int.toNat).Perm l:=by
 have nn:∀ x∈m,0≤x:=fun x hx=>by
  obtain ⟨y,_,rfl⟩:=List.mem_map.mp (p.mem_iff.mp hx)
  omega
 refine ⟨?_,?_⟩
 ·rw [List.map_map]
  conv=>rhs; rw [← List.map_id m]
  apply List.map_congr_left
  intro x hx
  show ((x.toNat:Nat):Int)=x
  have:=nn x hx
  omega
 ·have:=p.map Int.toNat
  rw [List.map_map] at this
  have e:l.map (Int.toNat ∘ fun (n:Nat)=>(n:Int))=l:=by
   conv=>rhs; rw [← List.map_id l]
   apply List.map_congr_left
   intro x _
   rfl
  rwa [e] at this
def gsN (hs:List Hn)(d n:Nat):List Nat:=(ZbX ((n::bel hs d n).map fun (n:Nat)=>(n:Int))).map Int.toNat
theorem Znu (hs:List Hn)(d n:Nat):(gsN hs d n).map (fun (n:Nat)=>(n:Int))=ZbX ((n::bel hs d n).map fun (n:Nat)=>(n:Int))∧(gsN hs d n).Perm (n::bel hs d n):=ZlT (Zce _)
def Zcz (hs:List Hn)(l:List Nat):List Hn:=hs.filter fun x=>!decide (x.n∈l)
theorem ZiL (hs:List Hn):Zcz hs []=hs:=by unfold Zcz; simp
theorem Zib (hs:List Hn)(l:List Nat)(k:Nat):Zcz hs (l++[k])=(Zcz hs l).filter fun x=>decide (x.n≠k):=by
 unfold Zcz
 rw [List.filter_filter]
 apply List.filter_congr
 intro x _
 by_cases h1:x.n∈l
 ·simp [h1]
 ·by_cases h2:x.n=k
  ·simp [h1,h2]
  ·simp [h1,h2]
theorem ZoO {α:Type}(f:α→Nat)(g:α→W)(l:List α)(k:Nat):ZfV (l.map fun x=>((.inl (f x:Int):Key),g x)) (.inl (k:Int))=(l.filter fun x=>decide (f x≠k)).map fun x=>((.inl (f x:Int):Key),g x):=by
 unfold ZfV
 rw [List.filter_map]
 congr 1
 apply List.filter_congr
 intro x _
 show decide ((Sum.inl (f x:Int):Key)≠.inl (k:Int))=decide (f x≠k)
 by_cases e:f x=k
 ·simp [e]
 ·have:¬(Sum.inl (f x:Int):Key)=.inl (k:Int):=fun q=>e (by have:=Sum.inl.inj q; omega)
  simp [e,this]
theorem ZmH (hs:List Hn)(l:List Nat)(m:Nat):ZbW (Zcz hs l) m=(ZbW hs m).filter fun k=>!decide (k∈l):=by
 unfold ZbW Zcz
 rw [List.filter_filter,List.filter_map,List.filter_filter]
 congr 1
 apply List.filter_congr
 intro x _
 simp [Bool.and_comm]
theorem Tj.cut {h h':Mem}{κ:Kt}{ev:Nat}{hs:List Hn}(S:Tj h κ ev hs){x:Hn}(hx:x∈hs){d:Nat}(hd:ev≤d+x.n){l:List Nat}(pl:l.Perm (x.n::bel hs d x.n))(e1:h'[κ.t]? = h[κ.t]?)(e2:h'[κ.m]? = some (.dic (hdD (Zcz hs l))))(e3:h'[κ.o]? = some (.dic (ofD (Zcz hs l))))
  (e4:∀ y∈hs,h'[y.p]? = h[y.p]?) (e5:∀ y∈hs,¬x.gv=some y.n→h'[y.q]? = h[y.q]?) (e6:∀ y∈hs,x.gv=some y.n→h'[y.q]? = some (.dic (kdD ((ZbW hs y.n).filter fun k=>decide (k≠x.n))))):Tj h' κ ev (Zcz hs l):=by
 have W:=S.b.hw
 have sub:∀ y∈Zcz hs l,y∈hs∧¬y.n∈l:=fun y hy=>by
  obtain ⟨a,b⟩:=List.mem_filter.mp hy
  exact ⟨a,by simpa using b⟩
 have inl:∀ k,k∈l↔k=x.n∨k∈bel hs d x.n:=fun k=>by rw [pl.mem_iff,List.mem_cons]
 have sl:(Zcz hs l).Sublist hs:=List.filter_sublist
 have kk:∀ y∈Zcz hs l,ZbW (Zcz hs l) y.n=(ZbW hs y.n).filter fun k=>decide (k≠x.n):=fun y hy=>by
  rw [ZmH]
  apply List.filter_congr
  intro k hk
  have:k∈l↔k=x.n:=by
   rw [inl]
   refine ⟨fun q=>?_,.inl⟩
   rcases q with q | q
   ·exact q
   ·exact absurd ((inl _).mpr (ZkA W hk q)) (sub y hy).2
  by_cases e:k=x.n
  ·rw [show decide (k∈l)=true from decide_eq_true (this.mpr e),show decide (k≠x.n)=false from decide_eq_false (fun z=>z e)]; rfl
  ·rw [show decide (k∈l)=false from decide_eq_false (fun q=>e (this.mp q)),show decide (k≠x.n)=true from decide_eq_true e]; rfl
 have hq:∀ y∈Zcz hs l,h'[y.q]? = some (.dic (kdD (ZbW (Zcz hs l) y.n))):=fun y hy=>by
  have yh:=(sub y hy).1
  rw [kk y hy]
  by_cases e:x.gv=some y.n
  ·exact e6 y yh e
  ·rw [e5 y yh e,S.hq y yh,List.filter_eq_self.mpr]
   intro k hk
   simp only [decide_eq_true_eq]
   rintro rfl
   obtain ⟨u,hu,e1,e2⟩:=Zby hk
   rw [ZfD W.nd hu hx e1] at e2
   exact e e2
 refine ⟨⟨by rw [e1]; exact S.b.t,e2,e3,fun y hy=>by rw [e4 y (sub y hy).1]; exact S.b.hp y (sub y hy).1,fun y hy=>.inl (hq y hy),S.b.up.sublist (sl.map _),fun y hy=>S.b.lt y (sub y hy).1,fun y hy g e=>?_,fun y hy=>S.qm y (sub y hy).1⟩,hq,S.mo,S.pd.sublist (sl.map _),S.qd.sublist (sl.map _),fun y hy=>S.qm y (sub y hy).1,fun y hy=>S.ri y (sub y hy).1⟩
 obtain ⟨a,b⟩:=S.b.gv y (sub y hy).1 g e
 refine ⟨a,?_⟩
 obtain ⟨u,hu,rfl⟩:=List.mem_map.mp b
 refine List.mem_map.mpr ⟨u,List.mem_filter.mpr ⟨hu,?_⟩,rfl⟩
 have nl:¬u.n∈l:=fun q=>(sub y hy).2 ((inl _).mpr (.inr (Znn W S.b.lt (List.mem_map.mpr ⟨y,List.mem_filter.mpr ⟨(sub y hy).1,by simpa using e⟩,rfl⟩) hd ((inl _).mp q))))
 simpa using nl
theorem ZpI {l:List Nat}(nd:l.Nodup){i k:Nat}(h:l[i]? = some k):¬k∈l.take i:=fun q=>by
 obtain ⟨j,hj,e⟩:=List.mem_take_iff_getElem.mp q
 obtain ⟨hi,e2⟩:=List.getElem?_eq_some_iff.mp h
 have:=(List.getElem_inj nd).mp (e.trans e2.symm)
 omega
def ZnH (d:Nat)(F:Fm):Prop:=∀ h κ ev hs,Tj h κ ev hs→ev≤1000→0<d→(∀ w,noH hs w→F [.ref κ.t,w] h=.ex (.exc "NoHandle" [] []) h)∧∀ x∈hs,ev≤d+x.n→(bel hs d x.n).length<60→∃ h' m,F [.ref κ.t,.int (x.n:Int)] h=.ok (.ref m) h'∧h.length≤m∧h'[m]? = some (.lst (Zao (gsN hs d x.n)))∧Tj h' κ ev (Zcz hs (gsN hs d x.n))∧h.length≤h'.length∧∀ n,n<h.length→n≠κ.m→n≠κ.o→(∀ y∈hs,n≠y.q)→h'[n]? = h[n]?
theorem Zrd (T:Tx K mg C){Fb:Fm}{d:Nat}(hb:ZeZ d Fb)(M_below:Zfz P w K mg base (T0 C) true (d+4) "below" (ZcJ Fb)){f:Addr}{fd:FuncData}(R:Fun K "cut" "Tree.cut" ZcX f fd):∃ F,FnOk P w K mg base (CXe true P w) (d+4+1) f fd ["self","number"] (spH (T0 C) F)∧ZnH d F:=by
 refine ⟨_,(ZlQ R sc_Tree_cut (hB:=fun cdv A outer s H E φ0 hr hx=>(Zad (Zay (i:=2) sc_Tree_cut.nd rfl (Or.inl rfl) (fun _ _ _=>trivial) (Zll rfl rfl T.b_sorted (by first | exact Zct | rfl) (Zar ZaH ZaG (Zd6 (Zaa (Zab 1) Zac)) (Za8 T.ins M_below hx hr (by omega) (Zab 0) (Zaa (Zab 1) Zac)))))
   (Zad (Zay (i:=3) sc_Tree_cut.nd rfl (Or.inl rfl) (fun _ _ _=>trivial) (Zbh (Za6 hr (Zbh (Zab 0) T.f_handles) (Zab 1) (fun _ _=>rfl)) T.f_giver))
   (Zad (ZaK (Zax ZhM Zgq (Zab 3) Zgs (Zat _)) (Zai (ZaY (Ziw (Za6 hr (Zbh (Zab 0) T.f_offspring) (Zab 3) (fun _ _=>rfl)) (Zab 1) ⟨rfl,rfl,rfl,rfl⟩))) Zaq)
   (Zad (Zjx (Zbt (fun _ _ _=>trivial)) PassesOwn.leaving rfl (ZeR (Zab 2)) (ZcE (i:=4) sc_Tree_cut.nd rfl (Or.inl rfl))
    (Zad (ZaY (Ziw (Zbh (Zab 0) T.f_handles) (Zab 4) ⟨rfl,rfl,rfl,rfl⟩))
    (Zai (ZaY (Ziw (Zbh (Zab 0) T.f_offspring) (Zab 4) ⟨rfl,rfl,rfl,rfl⟩)))))
   (Zai (Zam (Zab 2))))))))) Za5,?_⟩
 intro h κ ev hs S hev hd0
 have e:=S.b.t
 simp only [trO] at e
 obtain ⟨b1,b2⟩:=hb h κ ev hs S.b hev
 refine ⟨fun w hw=>Zbb rfl ?_ (by simp),fun x hx hd hbl=>?_⟩
 ·have q:=b1 hd0 w hw
  simp! [e,q,ZfC,ZaM,tb1,ZdP]
 obtain ⟨h1,n1,c1,c2,c3,c4⟩:=b2 x hx hd
 have Wh:=S.b.hw
 obtain ⟨g1,g2⟩:=Znu hs d x.n
 obtain ⟨G,hG⟩:∃ G,gsN hs d x.n=G:=⟨_,rfl⟩
 rw [hG] at g1 g2 ⊢
 have nG:G.Nodup:=g2.nodup_iff.mpr (List.nodup_cons.mpr ⟨ZmA Wh _ _,Zkr Wh _ _⟩)
 have iG:∀ k∈G,k∈hs.map Hn.n:=fun k hk=>by
  rcases List.mem_cons.mp (g2.mem_iff.mp hk) with rfl | q
  ·exact List.mem_map.mpr ⟨x,hx,rfl⟩
  ·exact Zhy q
 have lh1:n1<h1.length:=(List.getElem?_eq_some_iff.mp c3).1
 obtain ⟨h2,eh2⟩:∃ h2,h1++[O.lst (Zao G)]=h2:=⟨_,rfl⟩
 have l2:h2.length=h1.length+1:=by rw [← eh2]; simp
 have k2:∀ i,i<h.length→h2[i]? = h[i]?:=fun i hi=>by rw [← eh2,List.getElem?_append_left (by omega)]; exact c4 i hi
 have S2:Tj h2 κ ev hs:=S.fr fun n q=>k2 n (S.lt q)
 have f2:h2[h1.length]? = some (.lst (Zao G)):=by rw [← eh2]; simp
 have st1:ZfC (Zbp Zc8 (Zeq (Zan (ZaW 1) ZbP)) (ZaP (Str.ofString "below") (ZcJ Fb) (ZaW 0) (Zan (ZaW 1) ZbP))) [some (.ref κ.t),some (.int (x.n:Int)),none,none,none] h=.ok (.ref h1.length) h2:=by
  obtain ⟨B,hB⟩:∃ B,bel hs d x.n=B:=⟨_,rfl⟩
  rw [hB] at c3 g1 hbl
  have a1:Zc8 h1 (.tl [.int (x.n:Int)]) (.ref n1)=some (.tl (((x.n::B).map fun (n:Nat)=>(n:Int)).map W.int)):=by
   have b3:1+(Zao B).length≤16777216:=by unfold Zao; rw [List.length_map]; omega
   have e3:W.int (x.n:Int)::Zao B=((x.n::B).map fun (n:Nat)=>(n:Int)).map W.int:=by unfold Zao; rw [List.map_map]; rfl
   rw [← e3]
   generalize Zao B=bw at c3 b3
   simp [Zc8,items,c3,b3,sizeLine_eq]
  have a2:ZfF h1 (.tl (((x.n::B).map fun (n:Nat)=>(n:Int)).map W.int))=some ((x.n::B).map fun (n:Nat)=>(n:Int)):=by
   unfold ZfF
   simp only [Za1,items,Option.bind_some]
   exact Zh4 _
  have a3:((x.n::B).map fun (n:Nat)=>(n:Int)).length<64:=by rw [List.length_map,List.length_cons]; omega
  have a4:(ZbX ((x.n::B).map fun (n:Nat)=>(n:Int))).map W.int=Zao G:=by rw [← g1]; unfold Zao; rw [List.map_map]; rfl
  have a5:Zbp Zc8 (Zeq (Zan (ZaW 1) ZbP)) (ZaP (Str.ofString "below") (ZcJ Fb) (ZaW 0) (Zan (ZaW 1) ZbP)) [some (.ref κ.t),some (.int (x.n:Int)),none,none,none] h=.ok (.tl (((x.n::B).map fun (n:Nat)=>(n:Int)).map W.int)) h1:=by
   generalize ((x.n::B).map fun (n:Nat)=>(n:Int)).map W.int=bw at a1
   simp_arith! [e,c1,a1,ZaM,tb1,ZdP]
  unfold ZfC
  rw [a5]
  dsimp only
  rw [a2]
  dsimp only
  rw [if_pos a3,a4,eh2]
 have st1':ZcW (gN 2) (ZfC (Zbp Zc8 (Zeq (Zan (ZaW 1) ZbP)) (ZaP (Str.ofString "below") (ZcJ Fb) (ZaW 0) (Zan (ZaW 1) ZbP)))) [some (.ref κ.t),some (.int (x.n:Int)),none,none,none] h=.nx [some (.ref κ.t),some (.int (x.n:Int)),some (.ref h1.length),none,none] h2:=by unfold ZcW; rw [st1]; rfl
 have e2:=S2.b.t
 simp only [trO] at e2
 have gp:=Zeb Wh.nd hx
 have x2:=S2.b.hp x hx
 simp only [hnO] at x2
 have m2:=S2.b.m
 have o2:=S2.b.o
 obtain ⟨nt1,nt2,n3⟩:=S2.ne
 generalize hBd:Zcc (Zbq (Zi9 (xUn (Zes (Str.ofString "handles")) (ZaW 0)) _)) _=Bd
 obtain ⟨h3,st3,l3,k3,q3⟩:∃ h3,Zcl (Zbp ZbH (ZaW 3) (xC .non)) (Zbq (Zi9 (Zbp Zbi (xUn (Zes (Str.ofString "offspring")) (ZaW 0)) (ZaW 3)) (ZaW 1))) Zbv [some (.ref κ.t),some (.int (x.n:Int)),some (.ref h1.length),some (gvW x.gv),none] h2=.nx [some (.ref κ.t),some (.int (x.n:Int)),some (.ref h1.length),some (gvW x.gv),none] h3∧h3.length=h2.length∧(∀ n,(∀ y∈hs,x.gv=some y.n→n≠y.q)→h3[n]? = h2[n]?)∧∀ y∈hs,x.gv=some y.n→h3[y.q]? = some (.dic (kdD ((ZbW hs y.n).filter fun k=>decide (k≠x.n)))):=by
  cases hg:x.gv with
  | none=>exact ⟨h2,by simp [gvW,ZdA,ZaS,Out.res,Zcc,Zcl,ZdT,Zbq,ZcW,gN,Zbv,ZaW,xC,ZbP,Zan,Zbp,xUn,xCb,ZdY,xOr,ZdW,Zef,Zeq,Zaw,xNo,Res.bind,Res.of,iop,Zev,ZeB,ZfG,ZfP,ZfK,ZfJ,Zcb,ltM,gtM,geM,Zfq,ZfB,Zc8,items,ixM,Zep,eqO,neO,eqM,ZaO,Zdg,tyN,Kit.get,sizeLine_eq,Zer,ZaC,xIl,ZdX,ZcZ,Zex,Zfv,Za7,Zfy,ZbH,Zei,ZbG,ZeY,ZbO,Zet,inM,ZcR,Za1,ρC,Za0,ZaP,Zba,Zfr,Zfw,fgt,ZdZ,tyX,ZeG,Zfp,ZbB,xLm,Zfh,Zeo,ZaL,xXf],rfl,fun _ _=>rfl,fun y _ q=>by cases q⟩
  | some g=>
   obtain ⟨y,hy,rfl⟩:=S.b.of (S.b.gv x hx g hg).2
   have gq:=Zd0 Wh.nd hy
   have hk:x.n∈ZbW hs y.n:=List.mem_map.mpr ⟨x,List.mem_filter.mpr ⟨hx,by simpa using hg⟩,rfl⟩
   have gk:ZeD (kdD (ZbW hs y.n)) (.inl (x.n:Int))=some (.bl true):=(ZeI (by rw [Zia]; exact ZfW (ZjV Wh _))).mp (List.mem_map.mpr ⟨x.n,hk,rfl⟩)
   have dk:ZfV (kdD (ZbW hs y.n)) (.inl (x.n:Int))=kdD ((ZbW hs y.n).filter fun k=>decide (k≠x.n)):=ZoO (fun k:Nat=>k) (fun _=>.bl true) _ _
   have q2:=S2.hq y hy
   have yl:=S2.lt (.inr (.inr (.inr ⟨y,hy,.inr rfl⟩)))
   refine ⟨h2.set y.q (.dic (kdD ((ZbW hs y.n).filter fun k=>decide (k≠x.n)))),?_,by simp,fun n hn=>by rw [List.getElem?_set_ne (fun z=>hn y hy rfl z.symm)],fun u hu q=>?_⟩
   ·simp! [gvW,e2,o2,gq,q2,gk,dk,Zi9,Zbi,Zes,lt0,lt1,lt2]
   ·have:u=y:=ZfD Wh.nd hu hy (Option.some.inj q).symm
    rw [this,List.getElem?_set_self yl]
 have km:∀ y∈hs,y.q≠κ.m∧y.q≠κ.o:=S.qm
 have t3:h3[κ.t]? = h2[κ.t]?:=k3 _ fun y hy _=>(n3 y hy).2.1
 have m3:h3[κ.m]? = some (.dic (hdD hs)):=by rw [k3 _ fun y hy _ q=>(km y hy).1 q.symm]; exact m2
 have o3:h3[κ.o]? = some (.dic (ofD hs)):=by rw [k3 _ fun y hy _ q=>(km y hy).2 q.symm]; exact o2
 have f3:h3[h1.length]? = some (.lst (Zao G)):=by rw [k3 _ fun y hy _ q=>?_]; exact f2; have:=S.lt (.inr (.inr (.inr ⟨y,hy,.inr rfl⟩))); omega
 have lm:=S.lt (.inr (.inl rfl))
 have lo:=S.lt (.inr (.inr (.inl rfl)))
 have lt:=S.lt (.inl rfl)
 have lp:∃ ρ' h',Zb8 (gN 4) Bd h1.length (Zao G) (Zao G) [some (.ref κ.t),some (.int (x.n:Int)),some (.ref h1.length),some (gvW x.gv),none] h3=.nx ρ' h'∧((∃ v4,ρ'=[some (.ref κ.t),some (.int (x.n:Int)),some (.ref h1.length),some (gvW x.gv),v4])∧h'.length=h3.length∧h'[κ.m]? = some (.dic (hdD (Zcz hs (G.take (0+(Zao G).length)))))∧h'[κ.o]? = some (.dic (ofD (Zcz hs (G.take (0+(Zao G).length)))))∧∀ n,n≠κ.m→n≠κ.o→h'[n]? = h3[n]?):=by
  refine ZgO (fun i ρ' h'=>(∃ v4,ρ'=[some (.ref κ.t),some (.int (x.n:Int)),some (.ref h1.length),some (gvW x.gv),v4])∧h'.length=h3.length∧h'[κ.m]? = some (.dic (hdD (Zcz hs (G.take i))))∧h'[κ.o]? = some (.dic (ofD (Zcz hs (G.take i))))∧∀ n,n≠κ.m→n≠κ.o→h'[n]? = h3[n]?) (fun i ρ h q=>by rw [q.2.2.2.2 _ (by omega) (by omega)]; exact f3) (Zao G) 0 _ h3 ⟨⟨none,rfl⟩,rfl,by rw [List.take_zero,ZiL]; exact m3,by rw [List.take_zero,ZiL]; exact o3,fun _ _ _=>rfl⟩ ?_
  rintro j w hw ρ hh ⟨⟨v4,rfl⟩,p1,p2,p3,p4⟩
  rw [Nat.zero_add] at p2 p3
  rw [Nat.zero_add]
  unfold Zao at hw
  rw [List.getElem?_map,Option.map_eq_some_iff] at hw
  obtain ⟨k,hj,rfl⟩:=hw
  have hk:k∈G:=List.mem_of_getElem? hj
  have et:G.take (j+1)=G.take j++[k]:=by rw [List.take_succ,hj]; rfl
  have nk:¬k∈G.take j:=ZpI nG hj
  obtain ⟨y,hy,rfl⟩:=List.mem_map.mp (iG k hk)
  have yl:y∈Zcz hs (G.take j):=List.mem_filter.mpr ⟨hy,by simpa using nk⟩
  have nl:((Zcz hs (G.take j)).map Hn.n).Nodup:=Wh.nd.sublist (List.filter_sublist.map _)
  have ga:=Zeb nl yl
  have gb:=Zd0 nl yl
  have da:ZfV (hdD (Zcz hs (G.take j))) (.inl (y.n:Int))=hdD (Zcz hs (G.take (j+1))):=by rw [et,Zib]; exact ZoO Hn.n (fun x=>.ref x.p) _ _
  have db:ZfV (ofD (Zcz hs (G.take j))) (.inl (y.n:Int))=ofD (Zcz hs (G.take (j+1))):=by rw [et,Zib]; exact ZoO Hn.n (fun x=>.ref x.q) _ _
  generalize Zcz hs (G.take j)=L0 at p2 p3 ga gb da db
  generalize Zcz hs (G.take (j+1))=L1 at da db ⊢
  have ea:hh[κ.t]? = some (O.ins "Tree" [("handles",.ref κ.m),("offspring",.ref κ.o),("following",.int ev)]):=by rw [p4 _ nt1 nt2,t3]; exact e2
  obtain ⟨hA,ehA⟩:∃ hA,hh.set κ.m (.dic (hdD L1))=hA:=⟨_,rfl⟩
  have eA:hA[κ.t]? = some (O.ins "Tree" [("handles",.ref κ.m),("offspring",.ref κ.o),("following",.int ev)]):=by rw [← ehA,List.getElem?_set_ne nt1.symm]; exact ea
  have oA:hA[κ.o]? = some (.dic (ofD L0)):=by rw [← ehA,List.getElem?_set_ne S.mo]; exact p3
  have lA:hA.length=hh.length:=by rw [← ehA]; simp
  refine ⟨_,rfl,[some (.ref κ.t),some (.int (x.n:Int)),some (.ref h1.length),some (gvW x.gv),some (.int (y.n:Int))],hA.set κ.o (.dic (ofD L1)),.inl ?_,⟨_,rfl⟩,by simp [lA,p1],?_,?_,fun n a b=>?_⟩
  ·rw [← hBd]
   simp! [ea,p2,ga,da,ehA,eA,oA,gb,db,Zi9,Zes,lt0,lt1,lt2]
  ·rw [List.getElem?_set_ne S.mo.symm,← ehA,List.getElem?_set_self (by omega)]
  ·rw [List.getElem?_set_self (by omega)]
  ·rw [List.getElem?_set_ne (fun q=>b q.symm),← ehA,List.getElem?_set_ne (fun q=>a q.symm)]; exact p4 n a b
 obtain ⟨ρ',h4,lp,⟨v4,rfl⟩,l4,m4,o4,k4⟩:=lp
 have gl:(Zao G).length=G.length:=by unfold Zao; simp
 rw [Nat.zero_add,gl,List.take_length] at m4 o4
 have r4:h4[h1.length]? = some (.lst (Zao G)):=by rw [k4 _ (by omega) (by omega)]; exact f3
 refine ⟨h4,h1.length,Zbd rfl ?_ (by omega),by omega,r4,?_,by omega,fun n hn a b c=>?_⟩
 ·refine congrArg Out.res (?_:_=Out.rt (.ref h1.length) h4)
  refine (Zah st1').trans ?_
  refine (Zah (ρ':=[some (.ref κ.t),some (.int (x.n:Int)),some (.ref h1.length),some (gvW x.gv),none]) (h':=h2) (by simp! [e2,m2,gp,x2,Zbi,Zes,lt0,lt1,lt2,lh0,lh1,lh2,lh3,lh4])).trans ?_
  refine (Zah st3).trans ?_
  generalize Zao G=GW at f3 lp
  refine (Zah ((Zjs (n:=h1.length) (ws:=GW) (h':=h3) (by simp! [f3])).trans lp)).trans ?_
  simp! [xNo]
 ·refine S2.cut hx hd g2 (by rw [k4 _ nt1 nt2,t3]) m4 o4 (fun y hy=>?_) (fun y hy q=>?_) (fun y hy q=>?_)
  ·rw [k4 _ (n3 y hy).2.2.1.symm (n3 y hy).2.2.2.1.symm]
   exact k3 _ fun u hu _=>(n3 y hy).2.2.2.2 u hu
  ·rw [k4 _ (km y hy).1 (km y hy).2]
   exact k3 _ fun u hu z q'=>q (by rw [z,ZfD S.qd hu hy q'.symm])
  ·rw [k4 _ (km y hy).1 (km y hy).2]
   exact q3 y hy q
 ·rw [k4 n a b,k3 n fun y hy _=>c y hy]
  exact k2 n hn
def mxV (c k:Int):Int:=((c * 48271+k * 7919+1) % 2147483647) * ((c * 48271+k * 7919+1) % 2147483647+2 * k+5) % 2147483629 / 7
def ZhG (F:Fm):Prop:=∀ h c k,0≤k→k≤1000→F [.int c,.int k] h=.ok (.int (mxV c k)) h
theorem ZmL (T:Tx K mg C)(R:DefAt K mg "_law_mixed" s_l_mixed):∃ F,ZbU P w K mg base CX0 1 "_law_mixed" (spH (T0 C) F)∧ZhG F:=by
 refine ⟨_,(Zd5 R sc_l_mixed Zjj (hB:=fun f cdv A outer s H E φ0 H0 hr=>(Zad (Zay (i:=2) sc_l_mixed.nd rfl (Or.inl rfl) (fun _ _ _=>trivial) (Zar Zbk ZaX (Zar ZaH ZaG (Zar ZaH ZaG (Zar Zip Zgp (Zab 0) Zaf) (Zar Zip Zgp (Zab 1) Zaf)) Zaf) Zaf))
   (Zai (Zam (Zar Ze7 ZeW (Zar Zbk ZaX (Zar Zip Zgp (Zab 2) (Zar ZaH ZaG (Zar ZaH ZaG (Zab 2) (Zar Zip Zgp Zaf (Zab 1))) Zaf)) Zaf) Zaf)))))),fun h c k k0 k1=>Zaj rfl ?_ (Nat.le_refl _)⟩
 have h1:∀ x:Int,-18446744073709551616<x % 2147483647:=by intro x; omega
 have h2:∀ x:Int,x % 2147483647<18446744073709551616:=by intro x; omega
 have h3:∀ x:Int,-18446744073709551616<x % 2147483647+2 * k+5:=by intro x; omega
 have h4:∀ x:Int,x % 2147483647+2 * k+5<18446744073709551616:=by intro x; omega
 have h5:(-18446744073709551616:Int)<k:=by omega
 have h6:k<(18446744073709551616:Int):=by omega
 simp! [mxV,h1,h2,h3,h4,h5,h6]
theorem ZgY {α:Type}:∀ l:List α,Zet (l.map fun _=>W.bl true)=some (l.map fun _=>true)
 | []=>rfl
 | a::l=>by rw [List.map_cons,List.map_cons]; unfold Zet; rw [ZgY l]; rfl
theorem Zt9 {α:Type}(l:List α):(l.all fun _=>true)=true:=by simp
theorem ZiM {α:Type}:∀ l:List α,(l.map fun _=>true).all id=true
 | []=>rfl
 | a::l=>by rw [List.map_cons,List.all_cons,ZiM l]; rfl
def Alk (h:Mem):Nat→W→W→Prop
 | 0,_,_=>False
 | d+1,a,b=>(∃ i,a=.int i∧b=.int i)∨(∃ z,a=.str z∧b=.str z)∨(a=.non∧b=.non) ∨
  (∃ xs ys,((a=.tup xs∧b=.tup ys)∨((a=.tl xs∨∃ n,a=.ref n∧h[n]? = some (.lst xs))∧(b=.tl ys∨∃ n,b=.ref n∧h[n]? = some (.lst ys))))∧xs.length=ys.length∧xs.length≤100∧∀ (k:Nat) x y,xs[k]? = some x→ys[k]? = some y→Alk h d x y)
theorem Alk.app {h:Mem}{o:O}:∀ {d:Nat} {a b:W},Alk h d a b→Alk (h++[o]) d a b
 | 0,a,b,q=>by unfold Alk at q; exact q.elim
 | d+1,a,b,q=>by
  unfold Alk at q ⊢
  rcases q with q | q | q | ⟨xs,ys,q,e1,e2,e3⟩
  ·exact .inl q
  ·exact .inr (.inl q)
  ·exact .inr (.inr (.inl q))
  ·refine .inr (.inr (.inr ⟨xs,ys,?_,e1,e2,fun k x y a b=>(e3 k x y a b).app⟩))
   rcases q with q | ⟨q1,q2⟩
   ·exact .inl q
   ·refine .inr ⟨?_,?_⟩
    ·rcases q1 with q | ⟨n,a,b⟩
     ·exact .inl q
     ·exact .inr ⟨n,a,kept b⟩
    ·rcases q2 with q | ⟨n,a,b⟩
     ·exact .inl q
     ·exact .inr ⟨n,a,kept b⟩
def ZpS (d:Nat)(F:Fm):Prop:=∀ h a b,Alk h d a b→F [a,b] h=.ok (.bl true) h
set_option synthInstance.maxSize 100000 in
set_option synthInstance.maxHeartbeats 400000 in
theorem Zsv (T:Tx K mg C){Fa:Fm}{d:Nat}[PuF Fa](ha:ZpS d Fa)(G_l_alike:ZbU P w K mg base CX0 (d+1) "_law_alike" (spH (T0 C) Fa))(R:DefAt K mg "_law_alike" s_l_alike):∃ F,ZbU P w K mg base CX0 (d+1+1) "_law_alike" (spH (T0 C) F)∧ZpS (d+1) F∧PuF F:=by
 refine ⟨_,(Zd5 R ZiY ZfQ (hB:=fun f cdv A outer s H E φ0 H0 hr=>(Zad (ZaK (ZlB (Zjn (Zbm (ZdS (ZaR T.ins T.exo T.kit) (Zas K rfl) rfl T.b_isinstance (by first | exact Zag | rfl) (Zaa (Zab 1) (Zaa (Zho "list" rfl T.b_list (by first | exact ZbF | rfl)) Zac)))) (ZfU (Zbm (ZdS (ZaR T.ins T.exo T.kit) (Zas K rfl) rfl T.b_isinstance (by first | exact Zag | rfl) (Zaa (Zab 1) (Zaa (Zho "tuple" rfl T.b_tuple (by first | exact ZdH | rfl)) Zac))))))) (Zad (ZaK (ZlB (Zim (ZcD (Zbm (ZdS (ZaR T.ins T.exo T.kit) (Zas K rfl) rfl T.b_isinstance (by first | exact Zag | rfl) (Zaa (Zab 0) (Zaa (Zho "list" rfl T.b_list (by first | exact ZbF | rfl)) Zac))))) (Zgm (ZcD (Zbm (ZdS (ZaR T.ins T.exo T.kit) (Zas K rfl) rfl T.b_isinstance (by first | exact Zag | rfl) (Zaa (Zab 0) (Zaa (Zho "tuple" rfl T.b_tuple (by first | exact ZdH | rfl)) Zac)))))))) (Zai (Zam Zhz)) Zaq)
   (Zad (ZaK (ZlB (Zjn (Zax (ZfI hr) ZfN (ZdS (ZaR T.ins T.exo T.kit) (Zas K rfl) rfl T.b_isinstance (by first | exact Zag | rfl) (Zaa (Zab 0) (Zaa (Zho "list" rfl T.b_list (by first | exact ZbF | rfl)) Zac))) (ZdS (ZaR T.ins T.exo T.kit) (Zas K rfl) rfl T.b_isinstance (by first | exact Zag | rfl) (Zaa (Zab 1) (Zaa (Zho "list" rfl T.b_list (by first | exact ZbF | rfl)) Zac))) (Zat _)) (ZfU (Zax (ZfI hr) ZfN (ZdS Zc7 ZbZ rfl T.b_len (by first | exact Zbu | rfl) (Zaa (Zab 0) Zac)) (ZdS Zc7 ZbZ rfl T.b_len (by first | exact Zbu | rfl) (Zaa (Zab 1) Zac)) (Zat _))))) (Zai (Zam Zhz)) Zaq)
   (Zai (Zam (ZdS Zmd (Zk0 rfl) rfl T.b_all (by first | exact ZiT | rfl) (Zaa (Znh (osc:=Zae s_l_alike) (N:=["_law_found","_law_due_here"]) (own:=["_law_k"]) (fr:=["_law_found","_law_due_here"]) (ix:=[0,1]) rfl rfl rfl (by decide +kernel) (ZcF rfl T.b_range (ZdS Zc7 ZbZ rfl T.b_len (by first | exact Zbu | rfl) (Zaa (Zab 1) Zac))) (fun _=>(Zbt (Zh8 (by decide)))) (fun _ _ _ _ _=>(ZmN 0 (by decide +kernel) rfl (by decide +kernel) rfl)) (fun _ _ _ _ _ _=>Zk8) (fun _ _ _ _ _ _=>(Zaz G_l_alike hr (by omega) rfl (Zaa (Zf3 Zbo Zbn (Zab 1) (Zab 0) (fun _ _=>rfl)) (Zaa (Zf3 Zbo Zbn (Zab 2) (Zab 0) (fun _ _=>rfl)) Zac))))) Zac)))))) Zaq)
   (Zad (ZaK (Zbm (ZdS (ZaR T.ins T.exo T.kit) (Zas K rfl) rfl T.b_isinstance (by first | exact Zag | rfl) (Zaa (Zab 1) (Zaa (Zho "bool" rfl T.b_bool (by first | exact Zb1 | rfl)) Zac)))) (Zai (Zam (Zjo (ZdS (ZaR T.ins T.exo T.kit) (Zas K rfl) rfl T.b_isinstance (by first | exact Zag | rfl) (Zaa (Zab 0) (Zaa (Zho "bool" rfl T.b_bool (by first | exact Zb1 | rfl)) Zac))) (Zkl (Zji (Za2 hr) Za3 (Zab 0) (Zab 1) (Zat _)))))) Zaq)
   (Zad (ZaK (Zax ZmP Zkd (Zab 1) Zgs (Zat _)) (Zai (Zam (Zji ZmP Zkd (Zab 0) Zgs (Zat _)))) Zaq)
   (Zad (ZaK (Zbm (ZdS (ZaR T.ins T.exo T.kit) (Zas K rfl) rfl T.b_isinstance (by first | exact Zag | rfl) (Zaa (Zab 1) (Zaa (Zho "int" rfl T.b_int (by first | exact ZbY | rfl)) Zac)))) (Zai (Zam (Zjo (ZdS (ZaR T.ins T.exo T.kit) (Zas K rfl) rfl T.b_isinstance (by first | exact Zag | rfl) (Zaa (Zab 0) (Zaa (Zho "int" rfl T.b_int (by first | exact ZbY | rfl)) Zac))) (Zjo (ZqW (ZdS (ZaR T.ins T.exo T.kit) (Zas K rfl) rfl T.b_isinstance (by first | exact Zag | rfl) (Zaa (Zab 0) (Zaa (Zho "bool" rfl T.b_bool (by first | exact Zb1 | rfl)) Zac)))) (Zkl (Zji (Za2 hr) Za3 (Zab 0) (Zab 1) (Zat _))))))) Zaq)
   (Zai (Zam (Zjo (ZdS (ZaR T.ins T.exo T.kit) (Zas K rfl) rfl T.b_isinstance (by first | exact Zag | rfl) (Zaa (Zab 0) (Zaa (Zho "str" rfl T.b_str (by first | exact Zcm | rfl)) Zac))) (Zkl (Zji (Za2 hr) Za3 (Zab 0) (Zab 1) (Zat _)))))))))))),?_,inferInstance⟩
 intro h a b q
 generalize hC:ZfA _ _ _ _ _ _=Cm
 refine Zaj rfl ?_ (Nat.le_refl _)
 unfold Alk at q
 rcases q with ⟨i,rfl,rfl⟩ | ⟨z,rfl,rfl⟩ | ⟨rfl,rfl⟩ | ⟨xs,ys,q,e1,e2,e3⟩
 ·simp_arith [ZhR,ZhC,ZhX,ZhS,ZhE,ZhI,ZhK,ZhV,Zh6,ZhN,Zdz,Zda,Zdd,Zdl,Zc9,Zdh,Zde,Zdb,Zdv,Zdt,Zds,Zdf,Zdm,Zdr,Zdj,Zdx,Zdu,Zdo,Zdk,Zdc]
 ·simp_arith [ZhR,ZhC,ZhX,ZhS,ZhE,ZhI,ZhK,ZhV,Zh6,ZhN,Zdz,Zda,Zdd,Zdl,Zc9,Zdh,Zde,Zdb,Zdv,Zdt,Zds,Zdf,Zdm,Zdr,Zdj,Zdx,Zdu,Zdo,Zdk,Zdc]
 ·simp_arith [ZhR,ZhC,ZhX,ZhS,ZhE,ZhI,ZhK,ZhV,Zh6,ZhN,Zdz,Zda,Zdd,Zdl,Zc9,Zdh,Zde,Zdb,Zdv,Zdt,Zds,Zdf,Zdm,Zdr,Zdj,Zdx,Zdu,Zdo,Zdk,Zdc]
 ·obtain ⟨isl,t1,t2,t3,t4,l1,l2,ax,ay⟩:∃ isl:Bool,ZdZ Za4 h [a,.ty "list"]=some (.bl isl)∧ZdZ Za4 h [a,.ty "tuple"]=some (.bl (!isl))∧ZdZ Za4 h [b,.ty "list"]=some (.bl isl)∧ZdZ Za4 h [b,.ty "tuple"]=some (.bl (!isl))∧ZdX h [a]=some (.int xs.length)∧ZdX h [b]=some (.int ys.length)∧(∀ (k:Nat) x acc,xs[k]? = some x→ixM (h++[.lst acc]) a (.int (k:Int))=some x)∧∀ (k:Nat) y acc,ys[k]? = some y→ixM (h++[.lst acc]) b (.int (k:Int))=some y:=by
   have at':∀ (l:List W) (k:Nat) x,l[k]? = some x→atI l (k:Int)=some x:=fun l k x q=>by rw [Zcw (by omega),Int.toNat_natCast]; exact q
   have sz:∀ l:List W,l.length≤100→l.length≤16777216:=fun l q=>by omega
   have yl:ys.length≤100:=by omega
   have zx:=sz xs e2
   have zy:=sz ys yl
   rcases q with ⟨rfl,rfl⟩ | ⟨q1,q2⟩
   ·exact ⟨false,by simp [ZhR,ZhC,ZhX,ZhS,ZhE,ZhI,ZhK,ZhV,Zh6,ZhN,Zdz,Zda,Zdd,Zdl,Zc9,Zdh,Zde,Zdb,Zdv,Zdt,Zds,Zdf,Zdm,Zdr,Zdj,Zdx,Zdu,Zdo,Zdk,Zdc,ZdA,ZaS,Out.res,Zcc,Zcl,ZdT,Zbq,ZcW,gN,Zbv,ZaW,xC,ZbP,Zan,Zbp,xUn,xCb,ZdY,xOr,ZdW,Zef,Zeq,Zaw,xNo,Res.bind,Res.of,iop,Zev,ZeB,ZfG,ZfP,ZfK,ZfJ,Zcb,ltM,gtM,geM,Zfq,ZfB,Zc8,items,ixM,Zep,eqO,neO,eqM,ZaO,Zdg,tyN,sizeLine_eq,Zer,ZaC,xIl,ZdX,ZcZ,Zex,Zfv,Za7,Zfy,ZbH,Zei,ZbG,ZeY,ZbO,Zet,inM,ZcR,Za1,ρC,Za0,ZaP,Zba,Zfr,Zfw,fgt,ZdZ,tyX,ZeG,Zfp,ZbB,xLm,Zfh,Zeo,ZaL,xXf],by simp [ZhR,ZhC,ZhX,ZhS,ZhE,ZhI,ZhK,ZhV,Zh6,ZhN,Zdz,Zda,Zdd,Zdl,Zc9,Zdh,Zde,Zdb,Zdv,Zdt,Zds,Zdf,Zdm,Zdr,Zdj,Zdx,Zdu,Zdo,Zdk,Zdc,ZdA,ZaS,Out.res,Zcc,Zcl,ZdT,Zbq,ZcW,gN,Zbv,ZaW,xC,ZbP,Zan,Zbp,xUn,xCb,ZdY,xOr,ZdW,Zef,Zeq,Zaw,xNo,Res.bind,Res.of,iop,Zev,ZeB,ZfG,ZfP,ZfK,ZfJ,Zcb,ltM,gtM,geM,Zfq,ZfB,Zc8,items,ixM,Zep,eqO,neO,eqM,ZaO,Zdg,tyN,sizeLine_eq,Zer,ZaC,xIl,ZdX,ZcZ,Zex,Zfv,Za7,Zfy,ZbH,Zei,ZbG,ZeY,ZbO,Zet,inM,ZcR,Za1,ρC,Za0,ZaP,Zba,Zfr,Zfw,fgt,ZdZ,tyX,ZeG,Zfp,ZbB,xLm,Zfh,Zeo,ZaL,xXf],by simp [ZhR,ZhC,ZhX,ZhS,ZhE,ZhI,ZhK,ZhV,Zh6,ZhN,Zdz,Zda,Zdd,Zdl,Zc9,Zdh,Zde,Zdb,Zdv,Zdt,Zds,Zdf,Zdm,Zdr,Zdj,Zdx,Zdu,Zdo,Zdk,Zdc,ZdA,ZaS,Out.res,Zcc,Zcl,ZdT,Zbq,ZcW,gN,Zbv,ZaW,xC,ZbP,Zan,Zbp,xUn,xCb,ZdY,xOr,ZdW,Zef,Zeq,Zaw,xNo,Res.bind,Res.of,iop,Zev,ZeB,ZfG,ZfP,ZfK,ZfJ,Zcb,ltM,gtM,geM,Zfq,ZfB,Zc8,items,ixM,Zep,eqO,neO,eqM,ZaO,Zdg,tyN,sizeLine_eq,Zer,ZaC,xIl,ZdX,ZcZ,Zex,Zfv,Za7,Zfy,ZbH,Zei,ZbG,ZeY,ZbO,Zet,inM,ZcR,Za1,ρC,Za0,ZaP,Zba,Zfr,Zfw,fgt,ZdZ,tyX,ZeG,Zfp,ZbB,xLm,Zfh,Zeo,ZaL,xXf],by simp [ZhR,ZhC,ZhX,ZhS,ZhE,ZhI,ZhK,ZhV,Zh6,ZhN,Zdz,Zda,Zdd,Zdl,Zc9,Zdh,Zde,Zdb,Zdv,Zdt,Zds,Zdf,Zdm,Zdr,Zdj,Zdx,Zdu,Zdo,Zdk,Zdc,ZdA,ZaS,Out.res,Zcc,Zcl,ZdT,Zbq,ZcW,gN,Zbv,ZaW,xC,ZbP,Zan,Zbp,xUn,xCb,ZdY,xOr,ZdW,Zef,Zeq,Zaw,xNo,Res.bind,Res.of,iop,Zev,ZeB,ZfG,ZfP,ZfK,ZfJ,Zcb,ltM,gtM,geM,Zfq,ZfB,Zc8,items,ixM,Zep,eqO,neO,eqM,ZaO,Zdg,tyN,sizeLine_eq,Zer,ZaC,xIl,ZdX,ZcZ,Zex,Zfv,Za7,Zfy,ZbH,Zei,ZbG,ZeY,ZbO,Zet,inM,ZcR,Za1,ρC,Za0,ZaP,Zba,Zfr,Zfw,fgt,ZdZ,tyX,ZeG,Zfp,ZbB,xLm,Zfh,Zeo,ZaL,xXf],by simp [zx,ZdA,ZaS,Out.res,Zcc,Zcl,ZdT,Zbq,ZcW,gN,Zbv,ZaW,xC,ZbP,Zan,Zbp,xUn,xCb,ZdY,xOr,ZdW,Zef,Zeq,Zaw,xNo,Res.bind,Res.of,iop,Zev,ZeB,ZfG,ZfP,ZfK,ZfJ,Zcb,ltM,gtM,geM,Zfq,ZfB,Zc8,items,ixM,Zep,eqO,neO,eqM,ZaO,Zdg,tyN,sizeLine_eq,Zer,ZaC,xIl,ZdX,ZcZ,Zex,Zfv,Za7,Zfy,ZbH,Zei,ZbG,ZeY,ZbO,Zet,inM,ZcR,Za1,ρC,Za0,ZaP,Zba,Zfr,Zfw,fgt,ZdZ,tyX,ZeG,Zfp,ZbB,xLm,Zfh,Zeo,ZaL,xXf],by simp [zy,ZdA,ZaS,Out.res,Zcc,Zcl,ZdT,Zbq,ZcW,gN,Zbv,ZaW,xC,ZbP,Zan,Zbp,xUn,xCb,ZdY,xOr,ZdW,Zef,Zeq,Zaw,xNo,Res.bind,Res.of,iop,Zev,ZeB,ZfG,ZfP,ZfK,ZfJ,Zcb,ltM,gtM,geM,Zfq,ZfB,Zc8,items,ixM,Zep,eqO,neO,eqM,ZaO,Zdg,tyN,sizeLine_eq,Zer,ZaC,xIl,ZdX,ZcZ,Zex,Zfv,Za7,Zfy,ZbH,Zei,ZbG,ZeY,ZbO,Zet,inM,ZcR,Za1,ρC,Za0,ZaP,Zba,Zfr,Zfw,fgt,ZdZ,tyX,ZeG,Zfp,ZbB,xLm,Zfh,Zeo,ZaL,xXf],fun k x acc q=>by have:=at' _ _ _ q; simp [this,ZdA,ZaS,Out.res,Zcc,Zcl,ZdT,Zbq,ZcW,gN,Zbv,ZaW,xC,ZbP,Zan,Zbp,xUn,xCb,ZdY,xOr,ZdW,Zef,Zeq,Zaw,xNo,Res.bind,Res.of,iop,Zev,ZeB,ZfG,ZfP,ZfK,ZfJ,Zcb,ltM,gtM,geM,Zfq,ZfB,Zc8,items,ixM,Zep,eqO,neO,eqM,ZaO,Zdg,tyN,sizeLine_eq,Zer,ZaC,xIl,ZdX,ZcZ,Zex,Zfv,Za7,Zfy,ZbH,Zei,ZbG,ZeY,ZbO,Zet,inM,ZcR,Za1,ρC,Za0,ZaP,Zba,Zfr,Zfw,fgt,ZdZ,tyX,ZeG,Zfp,ZbB,xLm,Zfh,Zeo,ZaL,xXf],fun k x acc q=>by have:=at' _ _ _ q; simp_arith [this]⟩
   ·have one:∀ (c:W) (zs:List W),zs.length≤100→(c=.tl zs∨∃ n,c=.ref n∧h[n]? = some (.lst zs))→ZdZ Za4 h [c,.ty "list"]=some (.bl true)∧ZdZ Za4 h [c,.ty "tuple"]=some (.bl false)∧ZdX h [c]=some (.int zs.length)∧∀ (k:Nat) x acc,zs[k]? = some x→ixM (h++[.lst acc]) c (.int (k:Int))=some x:=fun c zs hz q=>by
     have z1:=sz zs hz
     rcases q with rfl | ⟨n,rfl,e⟩
     ·exact ⟨by simp [ZhR,ZhC,ZhX,ZhS,ZhE,ZhI,ZhK,ZhV,Zh6,ZhN,Zdz,Zda,Zdd,Zdl,Zc9,Zdh,Zde,Zdb,Zdv,Zdt,Zds,Zdf,Zdm,Zdr,Zdj,Zdx,Zdu,Zdo,Zdk,Zdc,ZdA,ZaS,Out.res,Zcc,Zcl,ZdT,Zbq,ZcW,gN,Zbv,ZaW,xC,ZbP,Zan,Zbp,xUn,xCb,ZdY,xOr,ZdW,Zef,Zeq,Zaw,xNo,Res.bind,Res.of,iop,Zev,ZeB,ZfG,ZfP,ZfK,ZfJ,Zcb,ltM,gtM,geM,Zfq,ZfB,Zc8,items,ixM,Zep,eqO,neO,eqM,ZaO,Zdg,tyN,sizeLine_eq,Zer,ZaC,xIl,ZdX,ZcZ,Zex,Zfv,Za7,Zfy,ZbH,Zei,ZbG,ZeY,ZbO,Zet,inM,ZcR,Za1,ρC,Za0,ZaP,Zba,Zfr,Zfw,fgt,ZdZ,tyX,ZeG,Zfp,ZbB,xLm,Zfh,Zeo,ZaL,xXf],by simp [ZhR,ZhC,ZhX,ZhS,ZhE,ZhI,ZhK,ZhV,Zh6,ZhN,Zdz,Zda,Zdd,Zdl,Zc9,Zdh,Zde,Zdb,Zdv,Zdt,Zds,Zdf,Zdm,Zdr,Zdj,Zdx,Zdu,Zdo,Zdk,Zdc,ZdA,ZaS,Out.res,Zcc,Zcl,ZdT,Zbq,ZcW,gN,Zbv,ZaW,xC,ZbP,Zan,Zbp,xUn,xCb,ZdY,xOr,ZdW,Zef,Zeq,Zaw,xNo,Res.bind,Res.of,iop,Zev,ZeB,ZfG,ZfP,ZfK,ZfJ,Zcb,ltM,gtM,geM,Zfq,ZfB,Zc8,items,ixM,Zep,eqO,neO,eqM,ZaO,Zdg,tyN,sizeLine_eq,Zer,ZaC,xIl,ZdX,ZcZ,Zex,Zfv,Za7,Zfy,ZbH,Zei,ZbG,ZeY,ZbO,Zet,inM,ZcR,Za1,ρC,Za0,ZaP,Zba,Zfr,Zfw,fgt,ZdZ,tyX,ZeG,Zfp,ZbB,xLm,Zfh,Zeo,ZaL,xXf],by simp [z1,ZdA,ZaS,Out.res,Zcc,Zcl,ZdT,Zbq,ZcW,gN,Zbv,ZaW,xC,ZbP,Zan,Zbp,xUn,xCb,ZdY,xOr,ZdW,Zef,Zeq,Zaw,xNo,Res.bind,Res.of,iop,Zev,ZeB,ZfG,ZfP,ZfK,ZfJ,Zcb,ltM,gtM,geM,Zfq,ZfB,Zc8,items,ixM,Zep,eqO,neO,eqM,ZaO,Zdg,tyN,sizeLine_eq,Zer,ZaC,xIl,ZdX,ZcZ,Zex,Zfv,Za7,Zfy,ZbH,Zei,ZbG,ZeY,ZbO,Zet,inM,ZcR,Za1,ρC,Za0,ZaP,Zba,Zfr,Zfw,fgt,ZdZ,tyX,ZeG,Zfp,ZbB,xLm,Zfh,Zeo,ZaL,xXf],fun k x acc q=>by have:=at' _ _ _ q; simp_arith [this]⟩
     ·refine ⟨by simp [e,ZhR,ZhC,ZhX,ZhS,ZhE,ZhI,ZhK,ZhV,Zh6,ZhN,Zdz,Zda,Zdd,Zdl,Zc9,Zdh,Zde,Zdb,Zdv,Zdt,Zds,Zdf,Zdm,Zdr,Zdj,Zdx,Zdu,Zdo,Zdk,Zdc,ZdA,ZaS,Out.res,Zcc,Zcl,ZdT,Zbq,ZcW,gN,Zbv,ZaW,xC,ZbP,Zan,Zbp,xUn,xCb,ZdY,xOr,ZdW,Zef,Zeq,Zaw,xNo,Res.bind,Res.of,iop,Zev,ZeB,ZfG,ZfP,ZfK,ZfJ,Zcb,ltM,gtM,geM,Zfq,ZfB,Zc8,items,ixM,Zep,eqO,neO,eqM,ZaO,Zdg,tyN,sizeLine_eq,Zer,ZaC,xIl,ZdX,ZcZ,Zex,Zfv,Za7,Zfy,ZbH,Zei,ZbG,ZeY,ZbO,Zet,inM,ZcR,Za1,ρC,Za0,ZaP,Zba,Zfr,Zfw,fgt,ZdZ,tyX,ZeG,Zfp,ZbB,xLm,Zfh,Zeo,ZaL,xXf],by simp [e,ZhR,ZhC,ZhX,ZhS,ZhE,ZhI,ZhK,ZhV,Zh6,ZhN,Zdz,Zda,Zdd,Zdl,Zc9,Zdh,Zde,Zdb,Zdv,Zdt,Zds,Zdf,Zdm,Zdr,Zdj,Zdx,Zdu,Zdo,Zdk,Zdc,ZdA,ZaS,Out.res,Zcc,Zcl,ZdT,Zbq,ZcW,gN,Zbv,ZaW,xC,ZbP,Zan,Zbp,xUn,xCb,ZdY,xOr,ZdW,Zef,Zeq,Zaw,xNo,Res.bind,Res.of,iop,Zev,ZeB,ZfG,ZfP,ZfK,ZfJ,Zcb,ltM,gtM,geM,Zfq,ZfB,Zc8,items,ixM,Zep,eqO,neO,eqM,ZaO,Zdg,tyN,sizeLine_eq,Zer,ZaC,xIl,ZdX,ZcZ,Zex,Zfv,Za7,Zfy,ZbH,Zei,ZbG,ZeY,ZbO,Zet,inM,ZcR,Za1,ρC,Za0,ZaP,Zba,Zfr,Zfw,fgt,ZdZ,tyX,ZeG,Zfp,ZbB,xLm,Zfh,Zeo,ZaL,xXf],by simp [e,z1,ZdA,ZaS,Out.res,Zcc,Zcl,ZdT,Zbq,ZcW,gN,Zbv,ZaW,xC,ZbP,Zan,Zbp,xUn,xCb,ZdY,xOr,ZdW,Zef,Zeq,Zaw,xNo,Res.bind,Res.of,iop,Zev,ZeB,ZfG,ZfP,ZfK,ZfJ,Zcb,ltM,gtM,geM,Zfq,ZfB,Zc8,items,ixM,Zep,eqO,neO,eqM,ZaO,Zdg,tyN,sizeLine_eq,Zer,ZaC,xIl,ZdX,ZcZ,Zex,Zfv,Za7,Zfy,ZbH,Zei,ZbG,ZeY,ZbO,Zet,inM,ZcR,Za1,ρC,Za0,ZaP,Zba,Zfr,Zfw,fgt,ZdZ,tyX,ZeG,Zfp,ZbB,xLm,Zfh,Zeo,ZaL,xXf],fun k x acc q=>?_⟩
      have e':(h++[O.lst acc])[n]? = some (.lst zs):=kept e
      have:=at' _ _ _ q
      generalize h++[O.lst acc]=hx at e'
      simp_arith [e',this]
    obtain ⟨a1,a2,a3,a4⟩:=one a xs e2 q1
    obtain ⟨b1,b2,b3,b4⟩:=one b ys yl q2
    exact ⟨true,a1,a2,b1,b2,a3,b3,a4,b4⟩
  have ec:Cm [some a,some b] h=.ok (.tl ((List.range ys.length).map fun _=>W.bl true)) h:=by
   rw [← hC]
   refine ZkP (fun k:Nat=>W.int (0+(k:Int))) (fun _=>W.bl true) (List.range ys.length) (s:=none) ?_ ?_ ?_
   ·have c1:(ys.length:Int)<4611686018427387904:=by omega
    have c2:(-4611686018427387904:Int)≤(ys.length:Int):=by omega
    generalize ZdX=LM' at l2 ⊢
    simp! [l2,c1,c2,ZdD]
   ·rw [List.length_range,sizeLine_eq]; omega
   ·intro k hk acc
    have hk:=List.mem_range.mp hk
    have x1:xs[k]? = some (xs[k]'(by omega)):=List.getElem?_eq_getElem (by omega)
    have y1:ys[k]? = some ys[k]:=List.getElem?_eq_getElem hk
    have f1:=ha (h++[.lst acc]) _ _ (e3 k _ _ x1 y1).app
    have i1:=ax k _ acc x1
    have i2:=ay k _ acc y1
    refine ⟨_,rfl,⟨h++[.lst acc],?_⟩,rfl⟩
    generalize xs[k]'(by omega)=xk at f1 i1
    generalize ys[k]=yk at f1 i2
    generalize h++[O.lst acc]=hx at f1 i1 i2
    generalize ixM=IX at i1 i2 ⊢
    simp! [i1,i2,f1]
  have nb:∀ c:Bool,eqM h 4 (.bl c) (.bl c)=some true:=fun c=>Zcr rfl (Zb0 rfl)
  have ni:∀ i:Int,eqM h 4 (.int i) (.int i)=some true:=fun c=>Zcr rfl (Zb0 rfl)
  have ab:ZbO h [.tl ((List.range ys.length).map fun _=>W.bl true)]=some (.bl true):=by
   unfold ZbO
   simp only [items,Option.bind_some,ZgY,Option.map_some,ZiM]
  rw [e1] at l1
  generalize ZdZ Za4=IS at t1 t2 t3 t4 ⊢
  generalize ZdX=LE at l1 l2 ⊢
  generalize ZbO=AB at ab ⊢
  cases isl <;> simp_all! [t1,t2,t3,t4,l1,l2,ec,nb,ni,ab]
theorem Znl (T:Tx K mg C)(R:DefAt K mg "_law_alike" s_l_alike):∀ d,∃ F,ZbU P w K mg base CX0 (d+1) "_law_alike" (spH (T0 C) F)∧ZpS d F∧PuF F
 | 0=>⟨fun _ _=>.no,Zlv R ZfQ,fun h a b q=>by unfold Alk at q; exact q.elim,⟨fun _ _ _ _ e=>by cases e⟩⟩
 | d+1=>by
  obtain ⟨F,G,hF,hp⟩:=Znl T R d
  exact Zsv T hF G R
def ZdB (m:Int):Str:=Str.ofString "lacks "++Str.ofString (toString m)
theorem Zky:∀ m:_root_.Fin 64,(Str.ofString (toString ((m.val:Nat):Int))).length≤20∧((m.val:Nat):Int).natAbs.log2<1920:=by decide +kernel
theorem Zj6 {m:Int}(a:0≤m)(b:m<64):(Str.ofString (toString m)).length≤20∧m.natAbs.log2<1920:=by
 obtain ⟨n,rfl⟩:=Int.eq_ofNat_of_zero_le a
 exact Zky ⟨n,by omega⟩
theorem Zgx (sep t:Str):Txt.join sep [t]=t:=by rw [Zoa]; rfl
theorem Zd3 {sep t:Str}(h:t.length+sep.length≤16777216):JoinOk sep [t]=true:=ZjF (by rw [sizeLine_eq]; simpa using h)
theorem ZeS:(Str.ofString "lacks ").length=6∧(Str.ofString "").length=0∧(Str.ofString "no handle").length=9∧(Str.ofString "too many").length=8:=by decide +kernel
theorem ZhJ (a b:Str):(a++b).length=a.length+b.length:=by
 show (a++b).cps.size=a.cps.size+b.cps.size
 have:(a++b).cps=a.cps++b.cps:=rfl
 rw [this,Array.size_append]
def ZcN (z:Str):W:=.tup [.str (Str.ofString "refused"),.str z]
theorem lkM {w:W}:List.lookup (Str.ofString "missing") ([Str.ofString "missing"].zip [w])=some w:=by simp [List.lookup]
def Zni (F:Fm):Prop:=∀ h:Mem,(∃ o,F [.exc "NoHandle" [] []] h=.ok (ZcN (Str.ofString "no handle")) (h++[o]))∧(∃ o,F [.exc "TooMany" [] []] h=.ok (ZcN (Str.ofString "too many")) (h++[o]))∧∀ m:Int,0≤m→m<64→∃ o,F [.exc "Lacks" ["missing"] [.int m]] h=.ok (ZcN (ZdB m)) (h++[o])
theorem ZnS (T:Tx K mg C)(R:DefAt K mg "_law_word" s_l_word):∃ F,ZbU P w K mg base (CXe false P w) 1 "_law_word" (spH (T0 C) F)∧Zni F:=by
 obtain ⟨z1,z2,z3,z4⟩:=ZeS
 refine ⟨_,(Zt0 R sc_l_word Zkw (hB:=fun f cdv A outer s H E φ0 hr hx=>(Zad (Zay (i:=1) sc_l_word.nd rfl (Or.inl rfl) (fun _ _ _=>trivial) (ZgR Zac))
   (Zad (ZaK (Zbm (ZdS (ZaR T.ins T.exo T.kit) (Zas K rfl) rfl T.b_isinstance (by first | exact Zag | rfl) (Zaa (Zab 0) (Zaa (Zgn rfl T.g_Lacks T.t_Lacks) Zac)))) (Zai (ZaY (ZcU (Zab 1) (Zaa (Zar ZaH ZaG (Zf3 Zbo Zbn (Zd6 (Zaa Zap (Zaa Zap Zac))) (ZmI Zoi ZkE rfl T.b_int (by first | exact ZbY | rfl) (Zaa (ZdS (ZaR T.ins T.exo T.kit) (Zas K rfl) rfl T.b_isinstance (by first | exact Zag | rfl) (Zaa (Znr (Zab 0) T.fx_missing) (Zaa (Zho "int" rfl T.b_int (by first | exact ZbY | rfl)) Zac))) Zac)) (fun _ _=>rfl)) (ZmI Zhs ZcB rfl T.b_str (by first | exact Zcm | rfl) (Zaa (Znr (Zab 0) T.fx_missing) Zac))) Zac)))) Zaq)
   (Zad (ZaK (Zbm (ZdS (ZaR T.ins T.exo T.kit) (Zas K rfl) rfl T.b_isinstance (by first | exact Zag | rfl) (Zaa (Zab 0) (Zaa (Zgn rfl T.g_NoHandle T.t_NoHandle) Zac)))) (Zai (ZaY (ZcU (Zab 1) (Zaa Zap Zac)))) Zaq)
   (Zad (ZaK (Zbm (ZdS (ZaR T.ins T.exo T.kit) (Zas K rfl) rfl T.b_isinstance (by first | exact Zag | rfl) (Zaa (Zab 0) (Zaa (Zgn rfl T.g_TooMany T.t_TooMany) Zac)))) (Zai (ZaY (ZcU (Zab 1) (Zaa Zap Zac)))) Zaq)
   (Zad (ZaK (ZlB (Zjn (Zbm (ZdS (ZaR T.ins T.exo T.kit) (Zas K rfl) rfl T.b_isinstance (by first | exact Zag | rfl) (Zaa (Zab 0) (Zaa (Zbl (Zaa (Zgn rfl T.g_NoTask T.t_NoTask) (Zaa (Zgn rfl T.g_NoRights T.t_NoRights) (Zaa (Zgn rfl T.g_Empty T.t_Empty) (Zaa (Zgn rfl T.g_Full T.t_Full) (Zaa (Zgn rfl T.g_Taken T.t_Taken) (Zaa (Zgn rfl T.g_NoThing T.t_NoThing) Zac))))))) Zac)))) (ZfU (ZcD (Zbm (ZdS (ZaR T.ins T.exo T.kit) (Zas K rfl) rfl T.b_isinstance (by first | exact Zag | rfl) (Zaa (Zab 0) (Zaa (Zho "ValueError" rfl T.b_ValueError (by first | exact ZdV | rfl)) Zac)))))))) (Zai (ZaY (ZcU (Zab 1) (Zaa Zap Zac)))) Zaq)
   (Zai (Zam (Zbl (Zaa Zap (Zaa (ZqS Zap (Zaa (Zab 1) Zac)) Zac)))))))))))) Za5,fun h=>⟨⟨.lst [.str (Str.ofString "no handle")],Zbd rfl ?_ (by simp)⟩,⟨.lst [.str (Str.ofString "too many")],Zbd rfl ?_ (by simp)⟩,fun m m0 m1=>⟨.lst [.str (ZdB m)],Zbd rfl ?_ (by simp)⟩⟩⟩
 ·have j1:JoinOk (Str.ofString "") [Str.ofString "no handle"]=true:=Zd3 (by omega)
  have j2:=Zgx (Str.ofString "") (Str.ofString "no handle")
  simp_arith [ZcN,j1,j2,ZbG,Zei,ZhR,ZhC,ZhX,ZhS,ZhE,ZhI,ZhK,ZhV,Zh6,ZhN,Zdz,Zda,Zdd,Zdl,Zc9,Zdh,Zde,Zdb,Zdv,Zdt,Zds,Zdf,Zdm,Zdr,Zdj,Zdx,Zdu,Zdo,Zdk,Zdc,Zpv,ZnO,Zn5,Zo2,ZnV,Zob,ZpN,ZoL,ZpK,ZnM,ZnP,ZoY,ZpB,Zpn,ZoK,Zpy,Zn9,Zof,ZoB,Zpx,Zom,ZoT,ZoG,Zps,Zoc,Zop,ZoN,ZnX,ZnD,Zpu]
 ·have j1:JoinOk (Str.ofString "") [Str.ofString "too many"]=true:=Zd3 (by omega)
  have j2:=Zgx (Str.ofString "") (Str.ofString "too many")
  simp_arith [ZcN,j1,j2,ZbG,Zei,ZhR,ZhC,ZhX,ZhS,ZhE,ZhI,ZhK,ZhV,Zh6,ZhN,Zdz,Zda,Zdd,Zdl,Zc9,Zdh,Zde,Zdb,Zdv,Zdt,Zds,Zdf,Zdm,Zdr,Zdj,Zdx,Zdu,Zdo,Zdk,Zdc,Zpv,ZnO,Zn5,Zo2,ZnV,Zob,ZpN,ZoL,ZpK,ZnM,ZnP,ZoY,ZpB,Zpn,ZoK,Zpy,Zn9,Zof,ZoB,Zpx,Zom,ZoT,ZoG,Zps,Zoc,Zop,ZoN,ZnX,ZnD,Zpu]
 ·obtain ⟨s1,s2⟩:=Zj6 m0 m1
  have j1:JoinOk (Str.ofString "") [ZdB m]=true:=Zd3 (by unfold ZdB; rw [ZhJ]; omega)
  have j2:=Zgx (Str.ofString "") (ZdB m)
  have s3:(Str.ofString "lacks ").length+(Str.ofString (toString m)).length≤16777216:=by omega
  have e1:Str.ofString "lacks "++Str.ofString (toString m)=ZdB m:=rfl
  have sm:∀ h0:Mem,Zno h0 [.int m]=some (.str (Str.ofString (toString m))):=fun h0=>by simp [Zno,s2]
  generalize Str.ofString (toString m)=zm at s3 e1 sm
  simp_arith [ZcN,lkM,sm,s3,e1,j1,j2,ZsK,ZbG,Zei,ZhR,ZhC,ZhX,ZhS,ZhE,ZhI,ZhK,ZhV,Zh6,ZhN,Zdz,Zda,Zdd,Zdl,Zc9,Zdh,Zde,Zdb,Zdv,Zdt,Zds,Zdf,Zdm,Zdr,Zdj,Zdx,Zdu,Zdo,Zdk,Zdc,Zpv,ZnO,Zn5,Zo2,ZnV,Zob,ZpN,ZoL,ZpK,ZnM,ZnP,ZoY,ZpB,Zpn,ZoK,Zpy,Zn9,Zof,ZoB,Zpx,Zom,ZoT,ZoG,Zps,Zoc,Zop,ZoN,ZnX,ZnD,Zpu]
def ZbI (w:W):W:=.tup [.str (Str.ofString "told"),w]
def hnT (x:Hn):W:=.tup [.int (x.n:Int),.int x.th,.int x.ri,gvW x.gv,.str x.ho]
def Zd8 (d:Nat)(F:Fm):Prop:=∀ h κ ev hs,Tj h κ ev hs→ev≤1000 →
 (∀ th ri z,0≤ri→ri<64→∃ h',F [.ref κ.t,.int 0,.int th,.int ri,.str z] h=.ok (ZbI (.int (ev:Int))) h'∧Tj h' κ (ev+1) (hs++[⟨ev,h.length,h.length+1,th,ri,none,z⟩])∧Ft κ h h') ∧
 (∀ (i:Int) n (ri:Int) (z:Str),1≤i→noH hs n→∃ o,F [.ref κ.t,.int i,n,.int ri,.str z] h=.ok (ZcN (Str.ofString "no handle")) (h++[o])) ∧
 (∀ y∈hs,∀ ri z,0≤ri→ri<64→(¬mis ri y.ri=0→0≤mis ri y.ri→mis ri y.ri<64→∃ o,F [.ref κ.t,.int 1,.int (y.n:Int),.int ri,.str z] h=.ok (ZcN (ZdB (mis ri y.ri))) (h++[hnO y,o])) ∧
  (mis ri y.ri=0→(upN hs y.n).length<50→(40≤(upN hs y.n).length→∃ h',F [.ref κ.t,.int 1,.int (y.n:Int),.int ri,.str z] h=.ok (ZcN (Str.ofString "too many")) h'∧h.length≤h'.length∧∀ i,i<h.length→h'[i]? = h[i]?) ∧
   ((upN hs y.n).length<40→∃ h' p,F [.ref κ.t,.int 1,.int (y.n:Int),.int ri,.str z] h=.ok (ZbI (.int (ev:Int))) h'∧h.length≤p∧Tj h' κ (ev+1) (hs++[⟨ev,p,p+1,y.th,ri,some y.n,z⟩])∧Fq κ y h h'))) ∧
 (∀ y∈hs,∀ (ri:Int) z,F [.ref κ.t,.int 2,.int (y.n:Int),.int ri,.str z] h=.ok (ZbI .non) (h.set y.p (hnO (Zpt y z)))) ∧
 (∀ y∈hs,∀ (ri:Int) (z:Str),ev≤d+y.n→(bel hs d y.n).length<60→∃ h' m,F [.ref κ.t,.int 3,.int (y.n:Int),.int ri,.str z] h=.ok (ZbI (.ref m)) h'∧h.length≤m∧h'[m]? = some (.lst (Zao (gsN hs d y.n)))∧Tj h' κ ev (Zcz hs (gsN hs d y.n))∧h.length≤h'.length∧∀ n,n<h.length→n≠κ.m→n≠κ.o→(∀ u∈hs,n≠u.q)→h'[n]? = h[n]?) ∧
 (∀ y∈hs,∀ (ri:Int) (z:Str),ev≤d+y.n→∃ h' n,F [.ref κ.t,.int 4,.int (y.n:Int),.int ri,.str z] h=.ok (ZbI (.ref n)) h'∧h.length≤n∧h'[n]? = some (.lst (Zao (bel hs d y.n)))∧∀ i,i<h.length→h'[i]? = h[i]?) ∧
 (∀ y∈hs,∀ (ri:Int) (z:Str),(upN hs y.n).length<50→∃ h',F [.ref κ.t,.int 5,.int (y.n:Int),.int ri,.str z] h=.ok (ZbI (.ref (h.length+1))) h'∧h'[h.length+1]? = some (.lst (Zao (upN hs y.n).reverse))∧∀ i,i<h.length→h'[i]? = h[i]?) ∧
 ∀ y∈hs,∀ (ri:Int) (z:Str),F [.ref κ.t,.int 6,.int (y.n:Int),.int ri,.str z] h=.ok (ZbI (hnT y)) (h++[hnO y])
theorem ZlL (T:Tx K mg C){d:Nat}{F0 F1 F2 F3 F4 F5 F6 Fw:Fm}(h0:Zf0 F0)(h1:ZgX F1)(h2:ZmQ F2)(h3:ZnH (d+1) F3)(h4:ZeZ (d+1) F4)(h5:Zh2 F5)(h6:Zgu F6)(hFw:Zni Fw)(M_rooted:Zfm P w K mg base (T0 C) 4 "rooted" (ZcJ F0))(M_derived:Zfz P w K mg base (T0 C) true 6 "derived" (ZcJ F1))(M_held:Zfz P w K mg base (T0 C) true 4 "held" (ZcJ F2))(M_cut:Zfz P w K mg base (T0 C) true (d+6) "cut" (ZcJ F3))(M_below:Zfz P w K mg base (T0 C) true (d+5) "below" (ZcJ F4))(M_chain:Zfz P w K mg base (T0 C) true 4 "chain" (ZcJ F5))(M_handle:Zfz P w K mg base (T0 C) true 4 "handle" (ZcJ F6))(G_l_word:ZbU P w K mg base (CXe false P w) 1 "_law_word" (spH (T0 C) Fw))
  (R:DefAt K mg "_law_tree_deed" s_l_tree_deed):∃ F,ZbU P w K mg base CX0 (d+7) "_law_tree_deed" (spH (T0 C) F)∧Zd8 (d+1) F:=by
 refine ⟨_,(Zd5 R sc_l_tree_deed Zfu (hB:=fun f cdv A outer s H E φ0 H0 hr=>(Zai (ZrC (i:=6) (asg:=[5]) T.cat_PassError rfl sc_l_tree_deed.nd rfl rfl (fun _=>trivial) rfl rfl
    (fun E1 pn1 φ1 H1 sg1 xw1 hsg hx=>(Zad (ZaK (Zax (Za2 hr) Za3 (Zab 1) Zaf (Zat _)) (Zai (Zam (Zbl (Zaa Zap (Zaa (Zhd T.ins M_rooted hr (by omega) (Zab 0) (Zaa (Zab 2) (Zaa (Zab 3) (Zaa (Zab 4) Zac)))) Zac))))) Zaq)
    (Zad (ZaK (Zax (Za2 hr) Za3 (Zab 1) Zaf (Zat _)) (Zai (Zam (Zbl (Zaa Zap (Zaa (Za8 T.ins M_derived hx hr (by omega) (Zab 0) (Zaa (Zab 2) (Zaa (Zab 3) (Zaa (Zab 4) Zac)))) Zac))))) Zaq)
    (Zad (ZaK (Zax (Za2 hr) Za3 (Zab 1) Zaf (Zat _)) (Zai (Zam (Zbl (Zaa Zap (Zaa (Za8 T.ins M_held hx hr (by omega) (Zab 0) (Zaa (Zab 2) (Zaa (Zab 4) Zac))) Zac))))) Zaq)
    (Zad (ZaK (Zax (Za2 hr) Za3 (Zab 1) Zaf (Zat _)) (Zai (Zam (Zbl (Zaa Zap (Zaa (Za8 T.ins M_cut hx hr (by omega) (Zab 0) (Zaa (Zab 2) Zac)) Zac))))) Zaq)
    (Zad (ZaK (Zax (Za2 hr) Za3 (Zab 1) Zaf (Zat _)) (Zai (Zam (Zbl (Zaa Zap (Zaa (Za8 T.ins M_below hx hr (by omega) (Zab 0) (Zaa (Zab 2) Zac)) Zac))))) Zaq)
    (Zad (ZaK (Zax (Za2 hr) Za3 (Zab 1) Zaf (Zat _)) (Zai (Zam (Zbl (Zaa Zap (Zaa (Za8 T.ins M_chain hx hr (by omega) (Zab 0) (Zaa (Zab 2) Zac)) Zac))))) Zaq)
    (Zad (Zay (i:=5) sc_l_tree_deed.nd rfl (Or.inl rfl) (hsg 5 (by simp)) (Za8 T.ins M_handle hx hr (by omega) (Zab 0) (Zaa (Zab 2) Zac)))
    (Zai (Zam (Zbl (Zaa Zap (Zaa (Zbl (Zaa (Zbh (Zab 5) T.f_number) (Zaa (Zbh (Zab 5) T.f_thing) (Zaa (Zbh (Zab 5) T.f_rights) (Zaa (Zbh (Zab 5) T.f_giver) (Zaa (Zbh (Zab 5) T.f_holder) Zac)))))) Zac)))))))))))))
    (fun e1 φ1 H1=>have hr:=hr.mark (some (.ref e1)); (Zai (Zam (ZsH G_l_word (ZmU fun _ _ h=>h) hr (by omega) rfl (Zaa (Zab 6) Zac))))))))),?_⟩
 intro h κ ev hs S hev
 have e:=S.b.t
 simp only [trO] at e
 have wd:=fun h=>hFw h
 refine ⟨fun th ri z r0 r1=>?_,fun i n ri z i1 hn=>?_,fun y hy ri z r0 r1=>⟨fun m0 m1 m2=>?_,fun m0 hu=>⟨fun h4'=>?_,fun h4'=>?_⟩⟩,fun y hy ri z=>?_,fun y hy ri z hd hb=>?_,fun y hy ri z hd=>?_,fun y hy ri z hu=>?_,fun y hy ri z=>?_⟩
 ·obtain ⟨h',a1,a2,a3⟩:=h0 h κ ev hs S hev th ri z r0 r1
  exact ⟨h',Zaj rfl (by simp! [e,a1,ZbI,ZaM,tb1,ZgU]) a3.1,a2,a3⟩
 ·obtain ⟨o1,w1⟩:=(wd h).1
  have q1:=(h1 h κ ev hs S hev).1 n ri z hn
  have q2:=(h2 h κ ev hs S.b).1 n z hn
  have q3:=(h3 h κ ev hs S hev (by omega)).1 n hn
  have q4:=(h4 h κ ev hs S.b hev).1 (by omega) n hn
  have q5:=(h5 h κ ev hs S.b).1 n hn
  have q6:=(h6 h κ ev hs S.b).1 n hn
  refine ⟨o1,Zaj rfl ?_ (by simp)⟩
  have n0:¬i=0:=by omega
  by_cases i1:i=1
  ·subst i1; simp! [e,q1,w1,ZaM,tb1,ZcS,ZaJ,ZaU,Zbg]
  by_cases i2:i=2
  ·subst i2; simp! [e,q2,w1,ZaM,tb1,ZkC,ZaJ,ZaU,Zbg]
  by_cases i3:i=3
  ·subst i3; simp! [e,q3,w1,ZaM,tb1,ZjW,ZaJ,ZaU,Zbg]
  by_cases i4:i=4
  ·subst i4; simp! [e,q4,w1,ZaM,tb1,ZdP,ZaJ,ZaU,Zbg]
  by_cases i5:i=5
  ·subst i5; simp! [e,q5,w1,ZaM,tb1,ZeE,ZaJ,ZaU,Zbg]
  ·simp! [n0,i1,i2,i3,i4,i5,e,q6,w1,ZaM,tb1,Zcd,ZaJ,ZaU,Zbg]
 ·have q1:=((h1 h κ ev hs S hev).2 y hy ri z).1 m0
  obtain ⟨o1,w1⟩:=(wd (h++[hnO y])).2.2 _ m1 m2
  generalize mis ri y.ri=ms at q1 w1
  refine ⟨o1,Zaj rfl ?_ (by simp)⟩
  simp! [e,q1,w1,ZaM,tb1,ZcS,ZaJ,ZaU,Zbg]
 ·obtain ⟨h',a1,a2,a3⟩:=(((h1 h κ ev hs S hev).2 y hy ri z).2 m0 hu).1 h4'
  obtain ⟨o1,w1⟩:=(wd h').2.1
  exact ⟨h'++[o1],Zaj rfl (by simp! [e,a1,w1,ZaM,tb1,ZcS,ZaJ,ZaU,Zbg]) (by simp; omega),by simp; omega,fun i hi=>by rw [List.getElem?_append_left (by omega)]; exact a3 i hi⟩
 ·obtain ⟨h',p,a1,a2,a3,a4⟩:=(((h1 h κ ev hs S hev).2 y hy ri z).2 m0 hu).2 h4' r0 r1
  exact ⟨h',p,Zaj rfl (by simp! [e,a1,ZbI,ZaM,tb1,ZcS]) a4.1,a2,a3,a4⟩
 ·have q2:=(h2 h κ ev hs S.b).2 y hy z
  exact Zaj rfl (by simp! [e,q2,ZbI,ZaM,tb1,ZkC]) (by simp)
 ·obtain ⟨h',m,a1,a2,a3,a4,a5,a6⟩:=(h3 h κ ev hs S hev (by omega)).2 y hy hd hb
  exact ⟨h',m,Zaj rfl (by simp! [e,a1,ZbI,ZaM,tb1,ZjW]) a5,a2,a3,a4,a5,a6⟩
 ·obtain ⟨h',m,a1,a2,a3,a4⟩:=(h4 h κ ev hs S.b hev).2 y hy hd
  exact ⟨h',m,Zaj rfl (by simp! [e,a1,ZbI,ZaM,tb1,ZdP]) (by have:=(List.getElem?_eq_some_iff.mp a3).1; omega),a2,a3,a4⟩
 ·obtain ⟨h',a1,a2,a3⟩:=(h5 h κ ev hs S.b).2 y hy hu
  exact ⟨h',Zaj rfl (by simp! [e,a1,ZbI,ZaM,tb1,ZeE]) (by have:=(List.getElem?_eq_some_iff.mp a2).1; omega),a2,a3⟩
 ·have q6:=(h6 h κ ev hs S.b).2 y hy
  have y1:(h++[hnO y])[h.length]? = some (O.ins "Handle" [("number",.int (y.n:Int)),("thing",.int y.th),("rights",.int y.ri),("giver",gvW y.gv),("holder",.str y.ho)]):=by simp [hnO]
  have hl:h.length≤(h++[hnO y]).length:=by simp
  generalize h++[hnO y]=hx at q6 y1 hl
  exact Zaj rfl (by simp! [e,q6,y1,ZbI,hnT,Zes,lh0,lh1,lh2,lh3,lh4,ZaM,tb1,Zcd]) hl
def lkS (a b f r:Int):Int:=if a / r % 2=1∧b / r % 2=0 then f+r else f
def lkV (a b:Int):Int:=[1,2,4,8,16,32].foldl (lkS a b) 0
theorem ZrN:∀ a:_root_.Fin 64,∀ b:_root_.Fin 64,lkV ((a.val:Nat):Int) ((b.val:Nat):Int)=mis ((a.val:Nat):Int) ((b.val:Nat):Int)∧0≤mis ((a.val:Nat):Int) ((b.val:Nat):Int)∧mis ((a.val:Nat):Int) ((b.val:Nat):Int)<64:=by decide +kernel
theorem Zkp {a b:Int}(a0:0≤a)(a1:a<64)(b0:0≤b)(b1:b<64):lkV a b=mis a b∧0≤mis a b∧mis a b<64:=by
 obtain ⟨x,rfl⟩:=Int.eq_ofNat_of_zero_le a0
 obtain ⟨y,rfl⟩:=Int.eq_ofNat_of_zero_le b0
 exact ZrN ⟨x,by omega⟩ ⟨y,by omega⟩
def ZkX (F:Fm):Prop:=∀ h a b,0≤a→a<64→0≤b→b<64→F [.int a,.int b] h=.ok (.int (mis a b)) h
theorem Zn2 (T:Tx K mg C)(R:DefAt K mg "_law_lacking" s_l_lacking):∃ F,ZbU P w K mg base CX0 1 "_law_lacking" (spH (T0 C) F)∧ZkX F:=by
 refine ⟨_,(Zd5 R sc_l_lacking ZgC (hB:=fun f cdv A outer s H E φ0 H0 hr=>(Zad (Zay (i:=2) sc_l_lacking.nd rfl (Or.inl rfl) (fun _ _ _=>trivial) Zaf)
   (Zad (Zg5 (Zbt (fun _ _ _=>trivial)) PassesOwn.never rfl (ZeR (Zd6 (Zaa Zaf (Zaa Zaf (Zaa Zaf (Zaa Zaf (Zaa Zaf (Zaa Zaf Zac)))))))) (ZcE (i:=3) sc_l_lacking.nd rfl (Or.inl rfl))
    (Zai (ZaK (ZlB (Zim (Zax (Za2 hr) Za3 (Zar Zbk ZaX (Zar Ze7 ZeW (Zab 0) (Zab 3)) Zaf) Zaf (Zat _)) (Zgm (Zax (Za2 hr) Za3 (Zar Zbk ZaX (Zar Ze7 ZeW (Zab 1) (Zab 3)) Zaf) Zaf (Zat _))))) (Zai (Zay (i:=2) sc_l_lacking.nd rfl (Or.inl rfl) (fun _ _ _=>trivial) (Zar ZaH ZaG (Zab 2) (Zab 3)))) Zaq)))
   (Zai (Zam (Zab 2))))))),fun h a b a0 a1 b0 b1=>Zaj rfl ?_ (Nat.le_refl _)⟩
 generalize hB:Zcl _ _ _=B
 have st:∀ (r f:Int) v,r=1∨r=2∨r=4∨r=8∨r=16∨r=32→B ([some (.int a),some (.int b),some (.int f),v].set 3 (some (.int r))) h=.nx [some (.int a),some (.int b),some (.int (lkS a b f r)),some (.int r)] h:=fun r f v hr=>by
  rw [← hB]
  have r0:(0:Int)<r:=by omega
  have r1:r<1073741824:=by omega
  unfold lkS
  by_cases c1:a / r % 2=1
  ·by_cases c2:b / r % 2=0
   ·simp! [c1,c2,r0,r1]
   ·simp! [c1,c2,r0,r1]
  ·simp! [c1,r0,r1]
 have lp:∀ (l:List Int) (f:Int) v,(∀ r∈l,r=1∨r=2∨r=4∨r=8∨r=16∨r=32)→∃ v',ZaC (gN 3) B (l.map W.int) [some (.int a),some (.int b),some (.int f),v] h=.nx [some (.int a),some (.int b),some (.int (l.foldl (lkS a b) f)),v'] h:=by
  intro l
  induction l with
  | nil=>intro f v _; exact ⟨v,rfl⟩
  | cons r l ih=>
   intro f v hr
   obtain ⟨v',e⟩:=ih (lkS a b f r) (some (.int r)) fun x hx=>hr x (List.mem_cons_of_mem _ hx)
   refine ⟨v',?_⟩
   rw [List.map_cons]
   unfold ZaC
   show (match B ([some (.int a),some (.int b),some (.int f),v].set 3 (some (.int r))) h with
    | .nx ρ' h'=>ZaC (gN 3) B (l.map W.int) ρ' h'
    | .ct ρ' h'=>ZaC (gN 3) B (l.map W.int) ρ' h'
    | .bk ρ' h'=>.nx ρ' h'
    | o=>o)=_
   rw [st r f v (hr r List.mem_cons_self)]
   exact e
 obtain ⟨v',l1⟩:=lp [1,2,4,8,16,32] 0 none (by simp)
 have l2:[1,2,4,8,16,32].foldl (lkS a b) 0=mis a b:=(Zkp a0 a1 b0 b1).1
 rw [l2] at l1
 refine congrArg Out.res (?_:_=Out.rt (.int (mis a b)) h)
 generalize mis a b=mm at l1
 refine (Zah (ρ':=[some (.int a),some (.int b),some (.int 0),none]) (h':=h) (by simp! [xNo])).trans ?_
 refine (Zah ((ZcL (ws:=[1,2,4,8,16,32].map W.int) (h':=h) (by simp! [xNo])).trans l1)).trans ?_
 simp! [xNo]
structure Wo where
 p:Nat
 r:Nat
def ZkT (x:Hn):O:=.lst [.int x.th,.int x.ri,gvW x.gv,.str x.ho]
def rwD (hs:List Hn)(rp:Nat→Nat):List (Key×W):=hs.map fun x=>(.inl (x.n:Int),.ref (rp x.n))
def plD (ω:Wo)(ev:Nat):List (Key×W):=[(.inr (Str.ofString "rows"),.ref ω.r),(.inr (Str.ofString "ever"),.int (ev:Int))]
structure Hf (ev:Nat)(hs:List Hn):Prop where
 up:(hs.map Hn.n).Pairwise (· < ·)
 lt:∀ x∈hs,x.n<ev
 gv:∀ x∈hs,∀ g,x.gv=some g→g<x.n∧g∈hs.map Hn.n
theorem Tm.hf {h:Mem}{κ:Kt}{ev:Nat}{hs:List Hn}(S:Tm h κ ev hs):Hf ev hs:=⟨S.up,S.lt,S.gv⟩
theorem Hf.hw {ev:Nat}{hs:List Hn}(S:Hf ev hs):Hw hs:=⟨Zfl S.up,fun x hx g e=>(S.gv x hx g e).1⟩
structure Oj (h:Mem)(ω:Wo)(ev:Nat)(hs:List Hn)(rp:Nat→Nat):Prop where
 p:h[ω.p]? = some (.dic (plD ω ev))
 r:h[ω.r]? = some (.dic (rwD hs rp))
 l:∀ x∈hs,h[rp x.n]? = some (ZkT x)
 pr:ω.p≠ω.r
 ij:∀ x∈hs,∀ y∈hs,rp x.n=rp y.n→x.n=y.n
def Oj.on (ω:Wo)(hs:List Hn)(rp:Nat→Nat)(n:Nat):Prop:=n=ω.p∨n=ω.r∨∃ x∈hs,n=rp x.n
theorem Oj.lt {h:Mem}{ω:Wo}{ev:Nat}{hs:List Hn}{rp:Nat→Nat}(S:Oj h ω ev hs rp){n:Nat}(q:Oj.on ω hs rp n):n<h.length:=by
 rcases q with rfl | rfl | ⟨x,hx,rfl⟩
 ·exact (List.getElem?_eq_some_iff.mp S.p).1
 ·exact (List.getElem?_eq_some_iff.mp S.r).1
 ·exact (List.getElem?_eq_some_iff.mp (S.l x hx)).1
theorem Oj.fr {h h':Mem}{ω:Wo}{ev:Nat}{hs:List Hn}{rp:Nat→Nat}(S:Oj h ω ev hs rp)(e:∀ n,Oj.on ω hs rp n→h'[n]? = h[n]?):Oj h' ω ev hs rp:=
 ⟨by rw [e _ (.inl rfl)]; exact S.p,by rw [e _ (.inr (.inl rfl))]; exact S.r,fun x hx=>by rw [e _ (.inr (.inr ⟨x,hx,rfl⟩))]; exact S.l x hx,S.pr,S.ij⟩
theorem ZpZ {ω:Wo}{ev:Nat}:ZeD (plD ω ev) (.inr (Str.ofString "rows"))=some (.ref ω.r):=rfl
theorem Zs5 {ω:Wo}{ev:Nat}:ZeD (plD ω ev) (.inr (Str.ofString "ever"))=some (.int (ev:Int)):=rfl
theorem Zil (hs:List Hn)(rp:Nat→Nat):(rwD hs rp).map (·.1)=(hs.map Hn.n).map fun (n:Nat)=>Sum.inl (n:Int):=by unfold rwD; rw [List.map_map,List.map_map]; rfl
theorem Zf9 {hs:List Hn}{rp:Nat→Nat}(nd:(hs.map Hn.n).Nodup){x:Hn}(hx:x∈hs):ZeD (rwD hs rp) (.inl (x.n:Int))=some (.ref (rp x.n)):=
 (ZeI (by rw [Zil]; exact ZfW nd)).mp (List.mem_map.mpr ⟨x,hx,rfl⟩)
def Zij (F:Fm):Prop:=∀ h ω ev hs rp,Oj h ω ev hs rp→Hf ev hs→∀ x∈hs,(upN hs x.n).length<50→F [.ref ω.r,.int (x.n:Int)] h=.ok (.tl (Zao (upN hs x.n).reverse)) h
theorem Zla (T:Tx K mg C)(R:DefAt K mg "_law_chain" s_l_chain):∃ F,ZbU P w K mg base CX0 1 "_law_chain" (spH (T0 C) F)∧Zij F:=by
 refine ⟨_,(Zd5 R sc_l_chain Zjd (hB:=fun f cdv A outer s H E φ0 H0 hr=>(Zad (Zay (i:=2) sc_l_chain.nd rfl (Or.inl rfl) (fun _ _ _=>trivial) (Zd6 (Zaa (Zab 1) Zac)))
   (Zad (Zig 50 PassesOwn.never (Zax ZhM Zgq (Zf3 Zbo Zbn (Za6 hr (Zab 0) (Zf3 Zbo Zbn (Zab 2) Zaf (fun _ _=>rfl)) (fun _ _=>rfl)) Zaf (fun _ _=>rfl)) Zgs (Zat _))
    (Zai (Zay (i:=2) sc_l_chain.nd rfl (Or.inl rfl) (fun _ _ _=>trivial) (Zar ZaH ZaG (Zd6 (Zaa (Zf3 Zbo Zbn (Za6 hr (Zab 0) (Zf3 Zbo Zbn (Zab 2) Zaf (fun _ _=>rfl)) (fun _ _=>rfl)) Zaf (fun _ _=>rfl)) Zac)) (Zab 2)))))
   (Zai (Zam (Zab 2))))))),?_⟩
 intro h ω ev hs rp S f x hx hl
 generalize hc:Zbp ZbH _ _=c
 generalize hB:ZcW (gN 2) (Zbp Zc8 _ _)=B
 have e:=S.r
 have Wh:=f.hw
 have lp:∀ (fuel:Nat) (rest:List Nat) (y:Hn),y∈hs→(upN hs y.n).length≤fuel→rest.length+(upN hs y.n).length≤1000→Zb9 c B fuel [some (.ref ω.r),some (.int (x.n:Int)),some (.tl (Zao (y.n::rest)))] h=.nx [some (.ref ω.r),some (.int (x.n:Int)),some (.tl (Zao ((upN hs y.n).reverse++rest)))] h:=by
  intro fuel
  induction fuel with
  | zero=>intro rest y hy hf _; have:=Zcy Wh.dn y.n; rw [this] at hf; simp at hf
  | succ fuel ih=>
   intro rest y hy hf ha
   have uq:=Zcy Wh.dn y.n
   rw [Zen Wh.nd hy] at uq
   have el:=S.l y hy
   simp only [ZkT] at el
   have g:=Zf9 (rp:=rp) Wh.nd hy
   have a2:atI [W.int y.th,.int y.ri,gvW y.gv,.str y.ho] 2=some (gvW y.gv):=rfl
   have a0:atI (Zao (y.n::rest)) 0=some (.int (y.n:Int)):=by unfold Zao; rw [List.map_cons]; exact Zs0
   cases hg:y.gv with
   | none=>
    rw [hg] at uq el a2
    have uq:upN hs y.n=[y.n]:=uq
    have ec:c [some (.ref ω.r),some (.int (x.n:Int)),some (.tl (Zao (y.n::rest)))] h=.ok (.bl false) h:=by
     rw [← hc]
     have a2:atI [W.int y.th,.int y.ri,.non,.str y.ho] 2=some .non:=a2
     have el:h[rp y.n]? = some (.lst [W.int y.th,.int y.ri,.non,.str y.ho]):=el
     generalize Zao (y.n::rest)=IW at a0
     simp! [e,g,el,a0,a2,Zbi]
    unfold Zb9
    rw [ec,uq]
    rfl
   | some gg=>
    rw [hg] at uq el a2
    have uq:upN hs y.n=y.n::upN hs gg:=uq
    rw [uq,List.length_cons] at hf ha
    obtain ⟨z,hz,ez⟩:=List.mem_map.mp (f.gv y hy gg hg).2
    rw [← ez] at uq hf ha a2 el
    have a2:atI [W.int y.th,.int y.ri,gvW (some z.n),.str y.ho] 2=some (.int (z.n:Int)):=a2
    have ec:c [some (.ref ω.r),some (.int (x.n:Int)),some (.tl (Zao (y.n::rest)))] h=.ok (.bl true) h:=by
     rw [← hc]
     generalize Zao (y.n::rest)=IW at a0
     simp! [e,g,el,a0,a2,Zbi]
    have iwl:(Zao (y.n::rest)).length=rest.length+1:=by unfold Zao; simp
    have b3:1+(Zao (y.n::rest)).length≤16777216:=by omega
    have eb:B [some (.ref ω.r),some (.int (x.n:Int)),some (.tl (Zao (y.n::rest)))] h=.nx [some (.ref ω.r),some (.int (x.n:Int)),some (.tl (Zao (z.n::y.n::rest)))] h:=by
     rw [← hB]
     have:Zao (z.n::y.n::rest)=.int (z.n:Int)::Zao (y.n::rest):=rfl
     rw [this]
     generalize Zao (y.n::rest)=IW at a0 b3
     simp! [e,g,el,a0,a2,b3,Zbi]
    have:=ih (y.n::rest) z hz (by omega) (by rw [List.length_cons]; omega)
    unfold Zb9
    rw [ec]
    dsimp only
    rw [eb]
    dsimp only
    rw [this,uq]
    simp
 have l1:=lp 50 [] x hx (by omega) (by simp; omega)
 rw [List.append_nil] at l1
 refine Zaj rfl ?_ (Nat.le_refl _)
 refine congrArg Out.res (?_:_=Out.rt (.tl (Zao (upN hs x.n).reverse)) h)
 refine (Zah (ρ':=[some (.ref ω.r),some (.int (x.n:Int)),some (.tl (Zao [x.n]))]) (h':=h) (by simp! [Zao])).trans ?_
 refine (Zah l1).trans ?_
 simp! [xNo]
def rpN (rp:Nat→Nat)(ev m n:Nat):Nat:=if n=ev then m else rp n
def Ko (ω:Wo)(hs:List Hn)(rp:Nat→Nat)(h h':Mem):Prop:=h.length≤h'.length∧∀ n,n<h.length→¬Oj.on ω hs rp n→h'[n]? = h[n]?
def Ze8 (h:Mem)(ω:Wo)(ev:Nat)(hs:List Hn)(rp:Nat→Nat)(x:Hn):Mem:=((h.set ω.p (.dic (plD ω (ev+1))))++[ZkT x]).set ω.r (.dic (rwD (hs++[x]) (rpN rp ev h.length)))
theorem Hf.new {ev:Nat}{hs:List Hn}(f:Hf ev hs):¬ev∈hs.map Hn.n:=fun q=>by
 obtain ⟨x,hx,e⟩:=List.mem_map.mp q
 have:=f.lt x hx
 omega
theorem ZnB {ev:Nat}{hs:List Hn}(f:Hf ev hs)(rp:Nat→Nat)(m:Nat){x:Hn}(xn:x.n=ev):rwD (hs++[x]) (rpN rp ev m)=rwD hs rp++[(.inl (ev:Int),.ref m)]:=by
 unfold rwD
 rw [List.map_append]
 congr 1
 ·apply List.map_congr_left
  intro y hy
  have:=f.lt y hy
  unfold rpN
  rw [if_neg (by omega)]
 ·simp [rpN,xn]
theorem Oj.add {h:Mem}{ω:Wo}{ev:Nat}{hs:List Hn}{rp:Nat→Nat}(S:Oj h ω ev hs rp)(f:Hf ev hs){x:Hn}(xn:x.n=ev):Oj (Ze8 h ω ev hs rp x) ω (ev+1) (hs++[x]) (rpN rp ev h.length)∧Ko ω hs rp h (Ze8 h ω ev hs rp x):=by
 have lp:=S.lt (.inl rfl)
 have lr:=S.lt (.inr (.inl rfl))
 have ro:∀ y∈hs,rpN rp ev h.length y.n=rp y.n:=fun y hy=>by
  have:=f.lt y hy
  unfold rpN
  rw [if_neg (by omega)]
 have rx:rpN rp ev h.length x.n=h.length:=by unfold rpN; rw [if_pos xn]
 have yl:∀ y∈hs,rp y.n<h.length:=fun y hy=>S.lt (.inr (.inr ⟨y,hy,rfl⟩))
 have yp:∀ y∈hs,ω.p≠rp y.n:=fun y hy q=>by have:=S.l y hy; rw [← q,S.p] at this; cases this
 have yr:∀ y∈hs,ω.r≠rp y.n:=fun y hy q=>by have:=S.l y hy; rw [← q,S.r] at this; cases this
 unfold Ze8
 refine ⟨⟨?_,?_,fun y hy=>?_,S.pr,fun y hy u hu q=>?_⟩,by simp,fun n hn hno=>?_⟩
 ·rw [List.getElem?_set_ne S.pr.symm,List.getElem?_append_left (by simp; omega),List.getElem?_set_self lp]
 ·rw [List.getElem?_set_self (by simp; omega)]
 ·rcases List.mem_append.mp hy with hy | hy
  ·rw [ro y hy,List.getElem?_set_ne (yr y hy),List.getElem?_append_left (by simp; exact yl y hy),List.getElem?_set_ne (yp y hy)]; exact S.l y hy
  ·rw [List.mem_singleton.mp hy,rx,List.getElem?_set_ne (by omega)]; simp
 ·rcases List.mem_append.mp hy with hy | hy
  ·rcases List.mem_append.mp hu with hu | hu
   ·rw [ro y hy,ro u hu] at q; exact S.ij y hy u hu q
   ·rw [List.mem_singleton.mp hu,ro y hy,rx] at q; have:=yl y hy; omega
  ·rcases List.mem_append.mp hu with hu | hu
   ·rw [List.mem_singleton.mp hy,ro u hu,rx] at q; have:=yl u hu; omega
   ·rw [List.mem_singleton.mp hy,List.mem_singleton.mp hu]
 ·rw [List.getElem?_set_ne (fun q=>hno (.inr (.inl q.symm))),List.getElem?_append_left (by simp; omega),List.getElem?_set_ne (fun q=>hno (.inl q.symm))]
theorem Zh0 {F G:Sm}{ρ:Sg}{h h':Mem}{w:W}(e:F ρ h=.rt w h'):Zcc F G ρ h=.rt w h':=by unfold Zcc; rw [e]
theorem Zlm {c:Ex}{F G:Sm}{ρ:Sg}{h h':Mem}(e:c ρ h=.ok (.bl true) h'):Zcl c F G ρ h=F ρ h':=by unfold Zcl; rw [e]
def Zhf (F:Fm):Prop:=∀ h ω ev hs rp,Oj h ω ev hs rp→Hf ev hs→(∀ x∈hs,0≤x.ri∧x.ri<64)→hs.length≤1000→ev≤1000 →
 (∀ th ri z p q,F [.ref ω.p,.int 0,.int th,.int ri,.str z] h=.ok (ZbI (.int (ev:Int))) (Ze8 h ω ev hs rp ⟨ev,p,q,th,ri,none,z⟩)) ∧
 (∀ y∈hs,∀ ri z,0≤ri→ri<64→(¬mis ri y.ri=0→F [.ref ω.p,.int 1,.int (y.n:Int),.int ri,.str z] h=.ok (ZcN (ZdB (mis ri y.ri))) h) ∧
  (mis ri y.ri=0→(upN hs y.n).length<50→(40≤(upN hs y.n).length→F [.ref ω.p,.int 1,.int (y.n:Int),.int ri,.str z] h=.ok (ZcN (Str.ofString "too many")) h) ∧
   ((upN hs y.n).length<40→∀ p q,F [.ref ω.p,.int 1,.int (y.n:Int),.int ri,.str z] h=.ok (ZbI (.int (ev:Int))) (Ze8 h ω ev hs rp ⟨ev,p,q,y.th,ri,some y.n,z⟩)))) ∧
 ∀ y∈hs,∀ (ri:Int) (z:Str),F [.ref ω.p,.int 6,.int (y.n:Int),.int ri,.str z] h=.ok (ZbI (hnT y)) h
theorem Zos (T:Tx K mg C){Fl Fb Fc:Fm}(hl':ZkX Fl)(hc:Zij Fc)(G_l_lacking:ZbU P w K mg base CX0 1 "_law_lacking" (spH (T0 C) Fl))(G_l_below:ZbU P w K mg base CX0 1 "_law_below" (spH (T0 C) Fb))(G_l_chain:ZbU P w K mg base CX0 1 "_law_chain" (spH (T0 C) Fc))(R:DefAt K mg "_law_due" s_l_due):∃ F,ZbU P w K mg base CX0 2 "_law_due" (spH (T0 C) F)∧Zhf F:=by
 refine ⟨_,(Zd5 R sc_l_due Zmm (hB:=fun f cdv A outer s H E φ0 H0 hr=>(Zad (Zay (i:=5) sc_l_due.nd rfl (Or.inl rfl) (fun _ _ _=>trivial) (Za6 hr (Zab 0) Zap (fun _ _=>rfl)))
   (Zad (ZaK (Zax (Za2 hr) Za3 (Zab 1) Zaf (Zat _)) (Zad (Zdy hr (Zab 0) Zap (Zar ZaH ZaG (Za6 hr (Zab 0) Zap (fun _ _=>rfl)) Zaf))
   (Zad (Zdy hr (Zab 5) (Zar Zc3 Zb6 (Za6 hr (Zab 0) Zap (fun _ _=>rfl)) Zaf) (ZgR (Zaa (Zab 2) (Zaa (Zab 3) (Zaa Zgs (Zaa (Zab 4) Zac))))))
   (Zai (Zam (Zbl (Zaa Zap (Zaa (Zar Zc3 Zb6 (Za6 hr (Zab 0) Zap (fun _ _=>rfl)) Zaf) Zac))))))) Zaq)
   (Zad (ZaK (Zax (ZjY hr) ZmS (Zab 2) (Zab 5) (by rfl)) (Zai (Zam (Zbl (Zaa Zap (Zaa Zap Zac))))) Zaq)
   (Zad (ZaK (Zax (Za2 hr) Za3 (Zab 1) Zaf (Zat _)) (Zad (Zay (i:=6) sc_l_due.nd rfl (Or.inl rfl) (fun _ _ _=>trivial) (Zaz G_l_lacking hr (by omega) rfl (Zaa (Zab 3) (Zaa (Zf3 Zbo Zbn (Za6 hr (Zab 5) (Zab 2) (fun _ _=>rfl)) Zaf (fun _ _=>rfl)) Zac))))
   (Zad (ZaK (Zax Zl9 Zix (Zab 6) Zaf (Zat _)) (Zai (Zam (Zbl (Zaa Zap (Zaa (Zar ZaH ZaG Zap (ZmI Zhs ZcB rfl T.b_str (by first | exact Zcm | rfl) (Zaa (Zab 6) Zac))) Zac))))) Zaq)
   (Zad (ZaK (Zax Zl9 Zix (ZdS Zc7 ZbZ rfl T.b_len (by first | exact Zbu | rfl) (Zaa (Zaz G_l_chain hr (by omega) rfl (Zaa (Zab 5) (Zaa (Zab 2) Zac))) Zac)) Zaf (Zat _)) (Zai (Zam (Zbl (Zaa Zap (Zaa Zap Zac))))) Zaq)
   (Zad (Zdy hr (Zab 0) Zap (Zar ZaH ZaG (Za6 hr (Zab 0) Zap (fun _ _=>rfl)) Zaf))
   (Zad (Zdy hr (Zab 5) (Zar Zc3 Zb6 (Za6 hr (Zab 0) Zap (fun _ _=>rfl)) Zaf) (ZgR (Zaa (Zf3 Zbo Zbn (Za6 hr (Zab 5) (Zab 2) (fun _ _=>rfl)) Zaf (fun _ _=>rfl)) (Zaa (Zab 3) (Zaa (Zab 2) (Zaa (Zab 4) Zac))))))
   (Zai (Zam (Zbl (Zaa Zap (Zaa (Zar Zc3 Zb6 (Za6 hr (Zab 0) Zap (fun _ _=>rfl)) Zaf) Zac)))))))))) Zaq)
   (Zad (ZaK (Zax (Za2 hr) Za3 (Zab 1) Zaf (Zat _)) (Zad (Zn8 (Za6 hr (Zab 5) (Zab 2) (fun _ _=>rfl)) Zaf (Zab 4))
   (Zai (Zam (Zbl (Zaa Zap (Zaa Zgs Zac)))))) Zaq)
   (Zad (ZaK (Zax (Za2 hr) Za3 (Zab 1) Zaf (Zat _)) (Zad (Zay (i:=7) sc_l_due.nd rfl (Or.inl rfl) (fun _ _ _=>trivial) (Zll rfl rfl T.b_sorted (by first | exact Zct | rfl) (Zar ZaH ZaG (Zd6 (Zaa (Zab 2) Zac)) (Zaz G_l_below hr (by omega) rfl (Zaa (Zab 5) (Zaa (Zab 2) Zac))))))
   (Zad (Zjx (Zbt (fun _ _ _=>trivial)) PassesOwn.never rfl (ZeR (Zab 7)) (ZcE (i:=8) sc_l_due.nd rfl (Or.inl rfl))
    (Zai (ZaY (Ziw (Zab 5) (Zab 8) ⟨rfl,rfl,rfl,rfl⟩))))
   (Zai (Zam (Zbl (Zaa Zap (Zaa (Zab 7) Zac))))))) Zaq)
   (Zad (ZaK (Zax (Za2 hr) Za3 (Zab 1) Zaf (Zat _)) (Zai (Zam (Zbl (Zaa Zap (Zaa (Zaz G_l_below hr (by omega) rfl (Zaa (Zab 5) (Zaa (Zab 2) Zac))) Zac))))) Zaq)
   (Zad (ZaK (Zax (Za2 hr) Za3 (Zab 1) Zaf (Zat _)) (Zai (Zam (Zbl (Zaa Zap (Zaa (Zaz G_l_chain hr (by omega) rfl (Zaa (Zab 5) (Zaa (Zab 2) Zac))) Zac))))) Zaq)
   (Zad (Zay (i:=9) sc_l_due.nd rfl (Or.inl rfl) (fun _ _ _=>trivial) (Za6 hr (Zab 5) (Zab 2) (fun _ _=>rfl)))
   (Zai (Zam (Zbl (Zaa Zap (Zaa (Zbl (Zaa (Zab 2) (Zaa (Zf3 Zbo Zbn (Zab 9) Zaf (fun _ _=>rfl)) (Zaa (Zf3 Zbo Zbn (Zab 9) Zaf (fun _ _=>rfl)) (Zaa (Zf3 Zbo Zbn (Zab 9) Zaf (fun _ _=>rfl)) (Zaa (Zf3 Zbo Zbn (Zab 9) Zaf (fun _ _=>rfl)) Zac)))))) Zac)))))))))))))))),?_⟩
 intro h ω ev hs rp S f hri hsl hev
 have Wh:=f.hw
 have ep:=S.p
 have er:=S.r
 have lp:=S.lt (.inl rfl)
 have lr:=S.lt (.inr (.inl rfl))
 have d1:∀ {h':Mem} {e'},h'[ω.p]? = some (.dic (plD ω e'))→Zbi h' (.ref ω.p) (.str (Str.ofString "rows"))=some (.ref ω.r)∧Zbi h' (.ref ω.p) (.str (Str.ofString "ever"))=some (.int (e':Int)):=fun e=>⟨by simp only [Zbi,Za1,e,ZcR]; exact ZpZ,by simp only [Zbi,Za1,e,ZcR]; exact Zs5⟩
 obtain ⟨dr,de⟩:=d1 ep
 have c1:(-18446744073709551616:Int)<(ev:Int):=by omega
 have c2:(ev:Int)<18446744073709551616:=by omega
 have inT:∀ y∈hs,inM true h (.int (y.n:Int)) (.ref ω.r)=some (.bl false):=fun y hy=>by
  have g:=Zf9 (rp:=rp) Wh.nd hy
  unfold inM
  simp only [Za1,er,ZcR,Option.map_some,g]
  rfl
 have dg:∀ {h':Mem},h'[ω.r]? = some (.dic (rwD hs rp))→∀ y∈hs,Zbi h' (.ref ω.r) (.int (y.n:Int))=some (.ref (rp y.n)):=fun e y hy=>by simp only [Zbi,Za1,e,ZcR]; exact Zf9 Wh.nd hy
 have put:∀ (x:Hn),x.n=ev→∃ h1 h2:Mem,h.set ω.p (.dic (plD ω (ev+1)))=h1∧h1++[ZkT x]=h2∧h1.length=h.length∧Ze8 h ω ev hs rp x=h2.set ω.r (.dic (rwD (hs++[x]) (rpN rp ev h.length)))∧h1[ω.p]? = some (.dic (plD ω (ev+1)))∧h2[ω.p]? = some (.dic (plD ω (ev+1)))∧h1[ω.r]? = some (.dic (rwD hs rp))∧h2[ω.r]? = some (.dic (rwD hs rp))∧(Ze8 h ω ev hs rp x)[ω.p]? = some (.dic (plD ω (ev+1)))∧ZjX (rwD hs rp) (.inl (ev:Int)) (.ref h.length)=rwD (hs++[x]) (rpN rp ev h.length):=fun x xn=>by
  have a1:(h.set ω.p (.dic (plD ω (ev+1))))[ω.p]? = some (.dic (plD ω (ev+1))):=List.getElem?_set_self lp
  have a2:(h.set ω.p (.dic (plD ω (ev+1))))[ω.r]? = some (.dic (rwD hs rp)):=by rw [List.getElem?_set_ne S.pr]; exact er
  refine ⟨_,_,rfl,rfl,by simp,rfl,a1,kept a1,a2,kept a2,(S.add f xn).1.p,?_⟩
  rw [Zew (Zil hs rp) f.new,ZnB f rp h.length xn]
 have pl:(plD ω ev).length<16777216:=by show 2<16777216; omega
 have pu:ZjX (plD ω ev) (.inr (Str.ofString "ever")) (.int ((ev:Int)+1))=plD ω (ev+1):=rfl
 have rl:(rwD hs rp).length<16777216:=by unfold rwD; rw [List.length_map]; omega
 have ee:((ev+1:Nat):Int) - 1=(ev:Int):=by omega
 have ce1:(-18446744073709551616:Int)<((ev+1:Nat):Int):=by omega
 have ce2:((ev+1:Nat):Int)<18446744073709551616:=by omega
 have two:∀ (x:Hn),x.n=ev→∀ (lst:Exs) (ρ:Sg),ρ[0]? = some (some (.ref ω.p))→ρ[5]? = some (some (.ref ω.r))→(∀ h1:Mem,h1=h.set ω.p (.dic (plD ω (ev+1)))→ZbB lst ρ h1=.ok (.ref h1.length) (h1++[ZkT x])) →
   Zcc (ZeP (ZaW 0) (xC (W.str (Str.ofString "ever"))) (Zbp Zc8 (Zbp Zbi (ZaW 0) (xC (W.str (Str.ofString "ever")))) (xC (W.int 1)))) (Zcc (ZeP (ZaW 5) (Zbp ZeB (Zbp Zbi (ZaW 0) (xC (W.str (Str.ofString "ever")))) (xC (W.int 1))) (ZbB lst)) (ZdT (Zef (Zan (xC (W.str (Str.ofString "told"))) (Zan (Zbp ZeB (Zbp Zbi (ZaW 0) (xC (W.str (Str.ofString "ever")))) (xC (W.int 1))) ZbP))))) ρ h=.rt (ZbI (.int (ev:Int))) (Ze8 h ω ev hs rp x):=fun x xn lst ρ r0 r5 hL=>by
  obtain ⟨h1,h2,e1,e2,l1,en,p1,p2,q1,q2,p3,pt⟩:=put x xn
  have v0:∀ h':Mem,ZaW 0 ρ h'=.ok (.ref ω.p) h':=fun h'=>by unfold ZaW; rw [r0]
  have v5:∀ h':Mem,ZaW 5 ρ h'=.ok (.ref ω.r) h':=fun h'=>by unfold ZaW; rw [r5]
  have hL1:=hL h1 e1.symm
  rw [e2,l1] at hL1
  have dv:=(d1 p2).2
  have dw:=(d1 p3).2
  have st1:ZeP (ZaW 0) (xC (W.str (Str.ofString "ever"))) (Zbp Zc8 (Zbp Zbi (ZaW 0) (xC (W.str (Str.ofString "ever")))) (xC (W.int 1))) ρ h=.nx ρ h1:=by
   generalize ZaW 0=V0 at v0 ⊢
   simp! [v0,de,ep,pl,pu,e1,c1,c2,ZeP,ZmV]
  refine (Zah st1).trans ?_
  have st2:ZeP (ZaW 5) (Zbp ZeB (Zbp Zbi (ZaW 0) (xC (W.str (Str.ofString "ever")))) (xC (W.int 1))) (ZbB lst) ρ h1=.nx ρ (Ze8 h ω ev hs rp x):=by
   rw [en]
   generalize ZaW 0=V0 at v0 ⊢
   generalize ZaW 5=V5 at v5 ⊢
   generalize ZbB lst=XL at hL1 ⊢
   simp! [v0,v5,hL1,dv,q2,rl,pt,ee,ce1,ce2,ZeP,ZmV]
  refine (Zah st2).trans ?_
  generalize Ze8 h ω ev hs rp x=hn at dw ⊢
  generalize ZaW 0=V0 at v0 ⊢
  simp! [v0,dw,ee,ce1,ce2,ZbI]
 refine ⟨fun th ri z p q=>?_,fun y hy ri z r0 r1=>?_,fun y hy ri z=>?_⟩
 ·have ad:=S.add f (x:=⟨ev,p,q,th,ri,none,z⟩) rfl
  refine Zaj rfl ?_ ad.2.1
  refine congrArg Out.res (?_:_=Out.rt (ZbI (.int (ev:Int))) _)
  refine (Zah (ρ':=[some (.ref ω.p),some (.int 0),some (.int th),some (.int ri),some (.str z),some (.ref ω.r),none,none,none,none]) (h':=h) (by simp! [dr])).trans ?_
  refine Zh0 ?_
  refine (Zlm (h':=h) (by simp! [xNo])).trans ?_
  exact two _ rfl _ _ rfl rfl fun h1 e1=>by simp! [ZkT,gvW]
 ·have iT:=inT y hy
  have gy:=dg er y hy
  have el:=S.l y hy
  simp only [ZkT] at el
  obtain ⟨y0,y1⟩:=hri y hy
  have lk:=hl' h ri y.ri r0 r1 y0 y1
  obtain ⟨_,m0,m1⟩:=Zkp r0 r1 y0 y1
  have ri1:∀ g:W,atI [W.int y.th,.int y.ri,g,.str y.ho] 1=some (.int y.ri):=fun g=>rfl
  have ri0:∀ g:W,atI [W.int y.th,.int y.ri,g,.str y.ho] 0=some (.int y.th):=fun g=>rfl
  generalize hms:mis ri y.ri=ms at lk m0 m1
  refine ⟨fun hz=>?_,fun hz hu=>?_⟩
  ·have pos:0<ms:=by omega
   obtain ⟨s1,s2⟩:=Zj6 m0 m1
   obtain ⟨z1,_⟩:=ZeS
   have s3:(Str.ofString "lacks ").length+(Str.ofString (toString ms)).length≤16777216:=by omega
   have e1:Str.ofString "lacks "++Str.ofString (toString ms)=ZdB ms:=rfl
   have sm:Zno h [.int ms]=some (.str (Str.ofString (toString ms))):=by simp [Zno,s2]
   generalize Str.ofString (toString ms)=zm at s3 e1 sm
   generalize gvW y.gv=gw at el
   have a1:=ri1 gw
   refine Zaj rfl ?_ (Nat.le_refl _)
   simp_all_arith [dr,iT,gy,el,a1,lk,pos,sm,s3,e1,ZcN]
  ·subst hz
   have ch:=hc h ω ev hs rp S f y hy hu
   obtain ⟨L,hL⟩:∃ L,Zao (upN hs y.n).reverse=L:=⟨_,rfl⟩
   have Ll:L.length=(upN hs y.n).length:=by rw [← hL]; unfold Zao; simp
   rw [hL] at ch
   have z1:L.length≤16777216:=by omega
   generalize gvW y.gv=gw at el
   have a1:=ri1 gw
   have a0:=ri0 gw
   refine ⟨fun h4=>Zaj rfl ?_ (Nat.le_refl _),fun h4 p q=>?_⟩
   ·have c3:(39:Int)<(L.length:Int):=by omega
    simp_all_arith [dr,iT,gy,el,a1,lk,ch,z1,c3,ZcN]
   ·have c3:¬(39:Int)<(L.length:Int):=by omega
    have ad:=S.add f (x:=⟨ev,p,q,y.th,ri,some y.n,z⟩) rfl
    refine Zaj rfl ?_ ad.2.1
    refine congrArg Out.res (?_:_=Out.rt (ZbI (.int (ev:Int))) _)
    refine (Zah (ρ':=[some (.ref ω.p),some (.int 1),some (.int (y.n:Int)),some (.int ri),some (.str z),some (.ref ω.r),none,none,none,none]) (h':=h) (by simp! [dr])).trans ?_
    refine (Zah (ρ':=[some (.ref ω.p),some (.int 1),some (.int (y.n:Int)),some (.int ri),some (.str z),some (.ref ω.r),none,none,none,none]) (h':=h) (by simp! [xNo])).trans ?_
    refine (Zah (ρ':=[some (.ref ω.p),some (.int 1),some (.int (y.n:Int)),some (.int ri),some (.str z),some (.ref ω.r),none,none,none,none]) (h':=h) (by simp_all_arith [iT])).trans ?_
    refine Zh0 ?_
    refine (Zlm (h':=h) (by simp! [xNo])).trans ?_
    refine (Zah (ρ':=[some (.ref ω.p),some (.int 1),some (.int (y.n:Int)),some (.int ri),some (.str z),some (.ref ω.r),some (.int 0),none,none,none]) (h':=h) (by simp! [gy,el,a1,lk])).trans ?_
    refine (Zah (ρ':=[some (.ref ω.p),some (.int 1),some (.int (y.n:Int)),some (.int ri),some (.str z),some (.ref ω.r),some (.int 0),none,none,none]) (h':=h) (by simp! [xNo])).trans ?_
    refine (Zah (ρ':=[some (.ref ω.p),some (.int 1),some (.int (y.n:Int)),some (.int ri),some (.str z),some (.ref ω.r),some (.int 0),none,none,none]) (h':=h) (by simp! [ch,z1,c3])).trans ?_
    refine two _ rfl _ _ rfl rfl fun h1 e1=>?_
    have q1:h1[ω.r]? = some (.dic (rwD hs rp)):=by rw [e1,List.getElem?_set_ne S.pr]; exact er
    have yp:ω.p≠rp y.n:=fun q=>by have:=S.l y hy; rw [← q,S.p] at this; cases this
    have el1:h1[rp y.n]? = some (.lst [W.int y.th,.int y.ri,gw,.str y.ho]):=by rw [e1,List.getElem?_set_ne yp]; exact el
    have gy1:=dg q1 y hy
    simp! [gy1,el1,a0,ZkT,gvW]
 ·have iT:=inT y hy
  have gy:=dg er y hy
  have el:=S.l y hy
  simp only [ZkT] at el
  have t0:∀ g:W,atI [W.int y.th,.int y.ri,g,.str y.ho] 0=some (.int y.th):=fun g=>rfl
  have t1:∀ g:W,atI [W.int y.th,.int y.ri,g,.str y.ho] 1=some (.int y.ri):=fun g=>rfl
  have t2:∀ g:W,atI [W.int y.th,.int y.ri,g,.str y.ho] 2=some g:=fun g=>rfl
  have t3:∀ g:W,atI [W.int y.th,.int y.ri,g,.str y.ho] 3=some (.str y.ho):=fun g=>rfl
  unfold hnT
  generalize gvW y.gv=gw at el ⊢
  exact Zaj rfl (by simp_all_arith [dr,iT,gy,el,t0,t1,t2,t3,ZbI]) (Nat.le_refl _)
structure Sd where
 k:Kt
 o:Wo
 ev:Nat
 hs:List Hn
 rp:Nat→Nat
def Sd.on (s:Sd)(n:Nat):Prop:=Tj.on s.k s.hs n∨Oj.on s.o s.hs s.rp n
structure Rl (h:Mem)(s:Sd):Prop where
 t:Tj h s.k s.ev s.hs
 o:Oj h s.o s.ev s.hs s.rp
 ap:∀ n,Tj.on s.k s.hs n→¬Oj.on s.o s.hs s.rp n
theorem Rl.lt {h:Mem}{s:Sd}(j:Rl h s){n:Nat}(q:s.on n):n<h.length:=q.elim (fun q=>j.t.lt q) fun q=>j.o.lt q
theorem Rl.fr {h h':Mem}{s:Sd}(j:Rl h s)(e:∀ n,s.on n→h'[n]? = h[n]?):Rl h' s:=⟨j.t.fr fun n q=>e n (.inl q),j.o.fr fun n q=>e n (.inr q),j.ap⟩
theorem Rl.f {h:Mem}{s:Sd}(j:Rl h s):Hf s.ev s.hs:=j.t.b.hf
structure Tn (h h':Mem)(s s':Sd):Prop where
 len:h.length≤h'.length
 st:∀ n,n<h.length→¬s.on n→h'[n]? = h[n]?
 nw:∀ n,s'.on n→s.on n∨h.length≤n
 k:s'.k=s.k
 o:s'.o=s.o
 ev:s'.ev≤s.ev+1
 r:Rl h' s'
theorem Zpp {h:Mem}{d:Nat}{i:Int}:Alk h (d+1) (.int i) (.int i):=.inl ⟨i,rfl,rfl⟩
theorem ZpY {h:Mem}{d:Nat}{z:Str}:Alk h (d+1) (.str z) (.str z):=.inr (.inl ⟨z,rfl,rfl⟩)
theorem Zo1 {h:Mem}{d:Nat}{xs ys:List W}(hl:xs.length=ys.length)(h1:xs.length≤100)(hh:∀ (k:Nat) x y,xs[k]? = some x→ys[k]? = some y→Alk h d x y):Alk h (d+1) (.tup xs) (.tup ys):=.inr (.inr (.inr ⟨xs,ys,.inl ⟨rfl,rfl⟩,hl,h1,hh⟩))
theorem Zge {h:Mem}{d:Nat}{z:Str}{x y:W}(q:Alk h (d+1) x y):Alk h (d+2) (.tup [.str z,x]) (.tup [.str z,y]):=Zo1 rfl (by simp) fun k a b e1 e2=>by
 match k,e1,e2 with
 | 0,e1,e2=>cases e1; cases e2; exact ZpY
 | 1,e1,e2=>cases e1; cases e2; exact q
theorem alk_ref {h:Mem}{z:Str}:Alk h 2 (ZcN z) (ZcN z):=Zge ZpY
theorem Alk.up {h:Mem}:∀ {d:Nat} {a b:W},Alk h d a b→Alk h (d+1) a b
 | 0,a,b,q=>by unfold Alk at q; exact q.elim
 | d+1,a,b,q=>by
  unfold Alk at q
  rcases q with q | q | q | ⟨xs,ys,q,e1,e2,e3⟩
  ·exact .inl q
  ·exact .inr (.inl q)
  ·exact .inr (.inr (.inl q))
  ·exact .inr (.inr (.inr ⟨xs,ys,q,e1,e2,fun k x y a b=>(e3 k x y a b).up⟩))
theorem Zik {κ:Kt}{hs:List Hn}{x:Hn}{n:Nat}(q:Tj.on κ (hs++[x]) n):Tj.on κ hs n∨n=x.p∨n=x.q:=by
 rcases q with q | q | q | ⟨u,hu,q⟩
 ·exact .inl (.inl q)
 ·exact .inl (.inr (.inl q))
 ·exact .inl (.inr (.inr (.inl q)))
 ·rcases List.mem_append.mp hu with hu | hu
  ·exact .inl (.inr (.inr (.inr ⟨u,hu,q⟩)))
  ·rw [List.mem_singleton.mp hu] at q; exact .inr q
theorem Zgk {ω:Wo}{ev:Nat}{hs:List Hn}(f:Hf ev hs){rp:Nat→Nat}{m:Nat}{x:Hn}(xn:x.n=ev){n:Nat}(q:Oj.on ω (hs++[x]) (rpN rp ev m) n):Oj.on ω hs rp n∨n=m:=by
 rcases q with q | q | ⟨u,hu,q⟩
 ·exact .inl (.inl q)
 ·exact .inl (.inr (.inl q))
 ·rcases List.mem_append.mp hu with hu | hu
  ·have:=f.lt u hu
   unfold rpN at q
   rw [if_neg (by omega)] at q
   exact .inl (.inr (.inr ⟨u,hu,q⟩))
  ·rw [List.mem_singleton.mp hu] at q
   unfold rpN at q
   rw [if_pos xn] at q
   exact .inr q
theorem Rl.add {h h1:Mem}{s:Sd}(j:Rl h s){x:Hn}(xn:x.n=s.ev)(xp:h.length≤x.p∧x.p<h1.length)(xq:h.length≤x.q∧x.q<h1.length)(t1:Tj h1 s.k (s.ev+1) (s.hs++[x]))(l1:h.length≤h1.length)(st:∀ n,n<h.length→¬Tj.on s.k s.hs n→h1[n]? = h[n]?) :
  Oj h1 s.o s.ev s.hs s.rp∧Tn h (Ze8 h1 s.o s.ev s.hs s.rp x) s ⟨s.k,s.o,s.ev+1,s.hs++[x],rpN s.rp s.ev h1.length⟩:=by
 have o1:Oj h1 s.o s.ev s.hs s.rp:=j.o.fr fun n q=>st n (j.o.lt q) fun z=>j.ap n z q
 obtain ⟨o2,k2⟩:=o1.add j.f xn
 have ton:∀ n,Tj.on s.k (s.hs++[x]) n→¬Oj.on s.o s.hs s.rp n:=fun n q z=>by
  have:=j.o.lt z
  rcases Zik q with q | q | q
  ·exact j.ap n q z
  ·omega
  ·omega
 refine ⟨o1,by have:=k2.1; omega,fun n hn hno=>?_,fun n q=>?_,rfl,rfl,Nat.le_refl _,t1.fr fun n q=>k2.2 n (t1.lt q) (ton n q),o2,fun n q z=>?_⟩
 ·rw [k2.2 n (by omega) fun q=>hno (.inr q)]
  exact st n hn fun q=>hno (.inl q)
 ·rcases q with q | q
  ·rcases Zik q with q | q | q
   ·exact .inl (.inl q)
   ·exact .inr (by omega)
   ·exact .inr (by omega)
  ·rcases Zgk j.f xn q with q | q
   ·exact .inl (.inr q)
   ·exact .inr (by omega)
 ·rcases Zgk j.f xn z with z | z
  ·exact ton n q z
  ·have:=t1.lt q; omega
theorem Zly {l:List W}{i:Int}(h0:0≤i)(h1:i<l.length):∃ y∈l,atI l i=some y:=by
 refine ⟨l.getD i.toNat .non,?_,ZmD _ h0 h1⟩
 have h:i.toNat<l.length:=by omega
 rw [List.getD_eq_getElem?_getD,List.getElem?_eq_getElem h]
 exact List.getElem_mem h
theorem ZjH (p:Int→Bool):0≤([(1:Int),2,4,8,16,32].filter p).sum∧([(1:Int),2,4,8,16,32].filter p).sum<64:=by
 simp only [List.filter_cons,List.filter_nil]
 cases p 1 <;> cases p 2 <;> cases p 4 <;> cases p 8 <;> cases p 16 <;> cases p 32 <;> decide
theorem eqT {h:Mem}{z:Str}{w:W}(hw:ZaO w=true):eqM h 4 (.tup [.str z,w]) (.tup [.str z,w])=some true:=by
 have e1:eqM h 3 (.str z) (.str z)=some true:=Zcr rfl (Zb0 rfl)
 have e2:eqM h 3 w w=some true:=Zcr hw (Zb0 hw)
 rw [eqM,if_neg (by simp [ZaO])]
 simp only [sq]
 simp [Zjv,e1,e2]
theorem Rl.add' {h h2:Mem}{s:Sd}(j:Rl h s){x:Hn}(xn:x.n=s.ev)(xp:h.length<x.p)(xq:h.length<x.q)(t2:Tj h2 s.k (s.ev+1) (s.hs++[x]))(l2:(Ze8 h s.o s.ev s.hs s.rp x).length≤h2.length)(st:∀ n,n<(Ze8 h s.o s.ev s.hs s.rp x).length→¬Tj.on s.k s.hs n→h2[n]? = (Ze8 h s.o s.ev s.hs s.rp x)[n]?) :
  Tn h h2 s ⟨s.k,s.o,s.ev+1,s.hs++[x],rpN s.rp s.ev h.length⟩:=by
 obtain ⟨o1,k1⟩:=j.o.add j.f xn
 have hl:(Ze8 h s.o s.ev s.hs s.rp x).length=h.length+1:=by unfold Ze8; simp
 have oon:∀ n,Oj.on s.o (s.hs++[x]) (rpN s.rp s.ev h.length) n→¬Tj.on s.k s.hs n:=fun n q z=>by
  have:=j.t.lt z
  rcases Zgk j.f xn q with q | q
  ·exact j.ap n z q
  ·omega
 refine ⟨by omega,fun n hn hno=>?_,fun n q=>?_,rfl,rfl,Nat.le_refl _,t2,o1.fr fun n q=>st n (o1.lt q) (oon n q),fun n q z=>?_⟩
 ·rw [st n (by omega) fun q=>hno (.inl q)]
  exact k1.2 n hn fun q=>hno (.inr q)
 ·rcases q with q | q
  ·rcases Zik q with q | q | q
   ·exact .inl (.inl q)
   ·exact .inr (by omega)
   ·exact .inr (by omega)
  ·rcases Zgk j.f xn q with q | q
   ·exact .inl (.inr q)
   ·exact .inr (by omega)
 ·rcases Zik q with q | q | q
  ·exact oon n z q
  ·have:=o1.lt z; omega
  ·have:=o1.lt z; omega
def Znp (F:Fm):Prop:=∀ (ns:List Int) h (k:Int),ns.length≤63→0≤k→∃ c:Int,F [.tl (ns.map W.int),.int k] h=.ok (.int c) h
theorem ZpJ (T:Tx K mg C)(R:DefAt K mg "_law_cell_at" s_l_cell_at):∃ F,ZbU P w K mg base CX0 1 "_law_cell_at" (spH (T0 C) F)∧Znp F:=by
 refine ⟨_,(Zd5 R Zg0 Zhk (hB:=fun f cdv A outer s H E φ0 H0 hr=>(Zad (ZaK (Zax Zqu Znc (Zab 1) (ZdS Zc7 ZbZ rfl T.b_len (by first | exact Zbu | rfl) (Zaa (Zab 0) Zac)) (Zat _)) (Zai (Zam (Zf3 Zbo Zbn (Zab 0) (Zab 1) (fun _ _=>rfl)))) Zaq)
   (Zai (Zam Zaf))))),?_⟩
 intro ns h k hl k0
 have nl:ns.length≤16777216:=by omega
 by_cases q:k<(ns.length:Int)
 ·obtain ⟨w0,hw,e⟩:=Zly (l:=ns.map W.int) (i:=k) k0 (by simpa using q)
  obtain ⟨c,_,rfl⟩:=List.mem_map.mp hw
  exact ⟨c,Zaj rfl (by simp! [nl,q,e]) (Nat.le_refl _)⟩
 ·exact ⟨0,Zaj rfl (by simp! [nl,q]) (Nat.le_refl _)⟩
theorem ZoE {hs:List Hn}{x:Hn}{n:Nat}(h:n≠x.n):gvN (hs++[x]) n=gvN hs n:=by
 unfold gvN
 rw [List.find?_append]
 cases e:hs.find? fun x=>decide (x.n=n) with
 | some y=>rfl
 | none=>
  rw [List.find?_cons,decide_eq_false (fun q=>h q.symm)]
  rfl
theorem Zhr {ev:Nat}{hs:List Hn}(f:Hf ev hs){x:Hn}(xn:x.n=ev)(d:Dn (hs++[x])):∀ {n:Nat},n<ev→upN (hs++[x]) n=upN hs n:=by
 intro n
 induction n using Nat.strongRecOn with
 | _ n ih=>
  intro hn
  rw [Zcy d,Zcy f.hw.dn,ZoE (by omega)]
  cases e:gvN hs n with
  | none=>rfl
  | some g=>
   obtain ⟨y,hy,e1,e2⟩:=ZiC e
   have:=(f.gv y hy g e2).1
   dsimp only
   rw [ih g (by omega) (by omega)]
theorem ZoP {ev:Nat}{hs:List Hn}(f:Hf ev hs){x:Hn}(xn:x.n=ev)(d:Dn (hs++[x]))(nd:((hs++[x]).map Hn.n).Nodup){g:Nat}(hg:x.gv=some g)(hge:g<ev):upN (hs++[x]) ev=ev::upN hs g:=by
 rw [Zcy d,← xn,Zen nd (by simp),hg]
 dsimp only
 rw [Zhr f xn d hge]
structure Ck (m:Nat)(ev:Nat)(hs:List Hn):Prop where
 nn:hs.map Hn.n=List.range ev
 c:∀ i,i<m→(upN hs i).length=i+1
 le:m≤ev
 g:∀ x∈hs,∀ g,x.gv=some g→(x.n<m∧g+1=x.n)∨g=0
theorem Ck.len {m ev:Nat}{hs:List Hn}(k:Ck m ev hs):hs.length=ev:=by have:=congrArg List.length k.nn; simpa using this
theorem Ck.at {m ev:Nat}{hs:List Hn}(k:Ck m ev hs){i:Nat}(hi:i<ev):∃ y,hs[i]? = some y∧y∈hs∧y.n=i:=by
 have hl:i<hs.length:=by rw [k.len]; exact hi
 refine ⟨hs[i],List.getElem?_eq_getElem hl,List.getElem_mem hl,?_⟩
 have:(hs.map Hn.n)[i]? = some i:=by rw [k.nn,List.getElem?_range hi]
 rw [List.getElem?_map,List.getElem?_eq_getElem hl] at this
 exact Option.some.inj this
theorem Ck.hf {m ev:Nat}{hs:List Hn}(k:Ck m ev hs)(f:Hf ev hs){x:Hn}(xn:x.n=ev){g:Nat}(hg:x.gv=some g)(hge:g<ev):Dn (hs++[x])∧((hs++[x]).map Hn.n).Nodup:=by
 refine ⟨fun u hu q e=>?_,?_⟩
 ·rcases List.mem_append.mp hu with hu | hu
  ·exact (f.gv u hu q e).1
  ·rw [List.mem_singleton.mp hu] at e ⊢
   rw [hg] at e
   have:=Option.some.inj e
   omega
 ·rw [List.map_append,List.map_cons,List.map_nil,k.nn,xn,← List.range_succ]
  exact List.nodup_range
theorem Ck.more {m ev:Nat}{hs:List Hn}(k:Ck m ev hs)(f:Hf ev hs){x:Hn}(xn:x.n=ev)(hm:0<m)(hg:x.gv=some 0):Ck m (ev+1) (hs++[x]):=by
 have hle:=k.le
 obtain ⟨d,nd⟩:=k.hf f xn hg (by omega)
 refine ⟨by rw [List.map_append,k.nn,List.range_succ]; simp [xn],fun i hi=>by rw [Zhr f xn d (by omega)]; exact k.c i hi,by omega,fun u hu g e=>?_⟩
 rcases List.mem_append.mp hu with hu | hu
 ·exact k.g u hu g e
 ·rw [List.mem_singleton.mp hu,hg] at e
  exact .inr (Option.some.inj e).symm
theorem Ck.next {m:Nat}{hs:List Hn}(k:Ck m m hs)(f:Hf m hs){x:Hn}(xn:x.n=m)(hm:0<m)(hg:x.gv=some (m - 1)):Ck (m+1) (m+1) (hs++[x]):=by
 obtain ⟨d,nd⟩:=k.hf f xn hg (by omega)
 refine ⟨by rw [List.map_append,k.nn,List.range_succ]; simp [xn],fun i hi=>?_,Nat.le_refl _,fun u hu g e=>?_⟩
 ·by_cases q:i=m
  ·rw [q,ZoP f xn d nd hg (by omega),List.length_cons,k.c (m - 1) (by omega)]
   omega
  ·rw [Zhr f xn d (by omega)]; exact k.c i (by omega)
 ·rcases List.mem_append.mp hu with hu | hu
  ·rcases k.g u hu g e with q | q
   ·exact .inl ⟨by omega,q.2⟩
   ·exact .inr q
  ·rw [List.mem_singleton.mp hu] at e ⊢
   rw [hg] at e
   have:=Option.some.inj e
   exact .inl ⟨by omega,by omega⟩
def cmV (a b:Int):Int:=([(1:Int),2,4,8,16,32].filter fun r=>decide (a / r % 2=1) && decide (b / r % 2=1)).sum
theorem Zru:∀ a:_root_.Fin 64,∀ b:_root_.Fin 64,mis (cmV ((a.val:Nat):Int) ((b.val:Nat):Int)) ((a.val:Nat):Int)=0:=by decide +kernel
theorem ZlK:∀ a:_root_.Fin 64,mis ((a.val:Nat):Int) ((a.val:Nat):Int)=0∧mis 0 ((a.val:Nat):Int)=0:=by decide +kernel
theorem Zr5 {a b:Int}(a0:0≤a)(a1:a<64)(b0:0≤b)(b1:b<64):0≤cmV a b∧cmV a b<64∧mis (cmV a b) a=0:=by
 refine ⟨(ZjH _).1,(ZjH _).2,?_⟩
 obtain ⟨x,rfl⟩:=Int.eq_ofNat_of_zero_le a0
 obtain ⟨y,rfl⟩:=Int.eq_ofNat_of_zero_le b0
 exact Zru ⟨x,by omega⟩ ⟨y,by omega⟩
theorem Zqy {a:Int}(a0:0≤a)(a1:a<64):mis a a=0∧mis 0 a=0:=by
 obtain ⟨x,rfl⟩:=Int.eq_ofNat_of_zero_le a0
 exact ZlK ⟨x,by omega⟩
def ZiR (F:Fm):Prop:=∀ h a b,F [.int a,.int b] h=.ok (.int (cmV a b)) h
theorem Zj4 (T:Tx K mg C)(R:DefAt K mg "_law_common" s_l_common):∃ F,ZbU P w K mg base CX0 1 "_law_common" (spH (T0 C) F)∧ZiR F:=by
 refine ⟨_,(Zd5 R Zhv Zh5 (hB:=fun f cdv A outer s H E φ0 H0 hr=>(Zai (Zam (ZdS ZpQ (Zmj rfl) rfl T.b_sum (by first | exact Zi4 | rfl) (Zaa (Znh (osc:=Zae s_l_common) (N:=["_law_rights","_law_had"]) (own:=["_law_right"]) (fr:=["_law_rights","_law_had"]) (ix:=[0,1]) rfl rfl rfl (by decide +kernel) (ZeR (Zd6 (Zaa Zaf (Zaa Zaf (Zaa Zaf (Zaa Zaf (Zaa Zaf (Zaa Zaf Zac)))))))) (fun _=>(Zbt (Zh8 (by decide)))) (fun _ _ _ _ _=>(ZmN 0 (by decide +kernel) rfl (by decide +kernel) rfl)) (fun _ _ _ _ _ _=>(Zp3 (ZlB (Zim (Zax (Za2 hr) Za3 (Zar Zbk ZaX (Zar Ze7 ZeW (Zab 1) (Zab 0)) Zaf) Zaf (Zat _)) (Zgm (Zax (Za2 hr) Za3 (Zar Zbk ZaX (Zar Ze7 ZeW (Zab 2) (Zab 0)) Zaf) Zaf (Zat _))))))) (fun _ _ _ _ _ _=>(Zab 0))) Zac)))))),fun h a b=>Zaj rfl ?_ (Nat.le_refl _)⟩
 generalize hCm:ZfA _ _ _ _ _ _=Cm
 obtain ⟨pp,hpp⟩:∃ pp:Int→Bool,pp=fun r=>decide (a / r % 2=1) && decide (b / r % 2=1):=⟨_,rfl⟩
 have ec:Cm [some (.int a),some (.int b)] h=.ok (.tl (([(1:Int),2,4,8,16,32].filter pp).map W.int)) h:=by
  rw [← hCm]
  refine Zhg W.int W.int pp [(1:Int),2,4,8,16,32] (s:=none) ?_ ?_ ?_
  ·simp! [xNo]
  ·rw [sizeLine_eq]; decide
  ·intro r hr acc
   have hr:r=1∨r=2∨r=4∨r=8∨r=16∨r=32:=by simpa using hr
   have r0:(0:Int)<r:=by omega
   have r1:r<1073741824:=by omega
   refine ⟨_,rfl,⟨h++[.lst acc],?_⟩,fun _=>⟨⟨h++[.lst acc],?_⟩,rfl⟩⟩
   ·generalize h++[O.lst acc]=hx
    rw [hpp]
    by_cases d1:a / r % 2=1
    ·by_cases d2:b / r % 2=1
     ·simp! [d1,d2,r0,r1]
     ·simp! [d1,d2,r0,r1]
    ·simp! [d1,r0,r1]
   ·generalize h++[O.lst acc]=hx
    simp! [xNo]
 have sm:Zex h [.tl (([(1:Int),2,4,8,16,32].filter pp).map W.int)]=some (.int (cmV a b)):=by
  unfold Zex cmV
  simp only [items,Option.bind_some,Zh4,hpp]
  rfl
 generalize cmV a b=sv at sm
 generalize ([(1:Int),2,4,8,16,32].filter pp).map W.int=sl at sm ec
 generalize Zex=SM at sm ⊢
 simp! [ec,sm]
theorem ZlE {D:Nat}{Ft' Fd:Fm}(ht:Zd8 D Ft')(hd:Zhf Fd){h:Mem}{s:Sd}(j:Rl h s)(hev:s.ev≤200){y:Hn}(hy:y∈s.hs)(hu:(upN s.hs y.n).length<40){ri:Int}{z:Str}(r0:0≤ri)(r1:ri<64)(hm:mis ri y.ri=0):∃ h1 h2 x,Fd [.ref s.o.p,.int 1,.int (y.n:Int),.int ri,.str z] h=.ok (ZbI (.int (s.ev:Int))) h1∧Ft' [.ref s.k.t,.int 1,.int (y.n:Int),.int ri,.str z] h1=.ok (ZbI (.int (s.ev:Int))) h2∧x.n=s.ev∧x.gv=some y.n∧x.ri=ri∧Tn h h2 s ⟨s.k,s.o,s.ev+1,s.hs++[x],rpN s.rp s.ev h.length⟩:=by
 obtain ⟨κ,ω,ev,hs,rp⟩:=s
 have t:=j.t
 have o:=j.o
 have ap:=j.ap
 have f:=j.f
 dsimp only at t o ap f hev hy hu ⊢
 have hl:=t.b.len
 obtain ⟨_,d1,_⟩:=hd h ω ev hs rp o f t.ri (by omega) (by omega)
 have td:∀ {h1:Mem},Tj h1 κ ev hs→_:=fun {h1} q=>ht h1 κ ev hs q (by omega)
 have nl:∀ x:Hn,(Ze8 h ω ev hs rp x).length=h.length+1:=fun x=>by unfold Ze8; simp
 have T1:∀ x:Hn,x.n=ev→Tj (Ze8 h ω ev hs rp x) κ ev hs:=fun x xn=>t.fr fun m q=>(o.add f xn).2.2 m (t.lt q) (ap m q)
 have ne:∀ p q p' q',Ze8 h ω ev hs rp ⟨ev,p,q,y.th,ri,some y.n,z⟩=Ze8 h ω ev hs rp ⟨ev,p',q',y.th,ri,some y.n,z⟩:=fun p q p' q'=>by
  unfold Ze8 ZkT rwD
  rw [List.map_append,List.map_append]
  rfl
 have T10:=T1 ⟨ev,0,0,y.th,ri,some y.n,z⟩ rfl
 obtain ⟨h2,p,e2,hp,T2,F2⟩:=(((td T10).2.2.1 y hy ri z r0 r1).2 hm (by omega)).2 hu
 rw [nl] at hp
 have e1:=((d1 y hy ri z r0 r1).2 hm (by omega)).2 hu p (p+1)
 rw [ne 0 0 p (p+1)] at e2 F2
 obtain ⟨x,hx⟩:∃ x:Hn,⟨ev,p,p+1,y.th,ri,some y.n,z⟩=x:=⟨_,rfl⟩
 rw [hx] at e1 e2 T2 F2
 have xe:x.n=ev∧x.p=p∧x.q=p+1∧x.gv=some y.n∧x.ri=ri:=by rw [← hx]; exact ⟨rfl,rfl,rfl,rfl,rfl⟩
 exact ⟨_,h2,x,e1,e2,xe.1,xe.2.2.2.1,xe.2.2.2.2,j.add' xe.1 (by omega) (by omega) T2 F2.1 fun m hm hno=>F2.2 m hm (fun q=>hno (.inl q)) (fun q=>hno (.inr (.inl q))) (fun q=>hno (.inr (.inr (.inl q)))) fun q=>hno (.inr (.inr (.inr ⟨y,hy,.inr q⟩)))⟩
theorem Zk7 {D:Nat}{Ft' Fd:Fm}(ht:Zd8 D Ft')(hd:Zhf Fd){h:Mem}{s:Sd}(j:Rl h s)(hev:s.ev≤200){y:Hn}(hy:y∈s.hs)(hu:(upN s.hs y.n).length<40){ri:Int}{z:Str}(r0:0≤ri)(r1:ri<64)(hm:mis ri y.ri=0):∃ h1 h2 x rp',Ft' [.ref s.k.t,.int 1,.int (y.n:Int),.int ri,.str z] h=.ok (ZbI (.int (s.ev:Int))) h1∧Fd [.ref s.o.p,.int 1,.int (y.n:Int),.int ri,.str z] h1=.ok (ZbI (.int (s.ev:Int))) h2∧x.n=s.ev∧x.gv=some y.n∧Tn h h2 s ⟨s.k,s.o,s.ev+1,s.hs++[x],rp'⟩:=by
 obtain ⟨κ,ω,ev,hs,rp⟩:=s
 have t:=j.t
 have f:=j.f
 dsimp only at t f hev hy hu ⊢
 have hl:=t.b.len
 obtain ⟨h1,p,e1,hp,T1,F1⟩:=(((ht h κ ev hs t (by omega)).2.2.1 y hy ri z r0 r1).2 hm (by omega)).2 hu
 obtain ⟨x,hx⟩:∃ x:Hn,⟨ev,p,p+1,y.th,ri,some y.n,z⟩=x:=⟨_,rfl⟩
 rw [hx] at T1
 have xl:=T1.lt (.inr (.inr (.inr ⟨x,by simp,.inr rfl⟩)))
 have xe:x.n=ev∧x.p=p∧x.q=p+1∧x.gv=some y.n:=by rw [← hx]; exact ⟨rfl,rfl,rfl,rfl⟩
 obtain ⟨o1,tt⟩:=j.add (h1:=h1) xe.1 ⟨by omega,by omega⟩ ⟨by omega,xl⟩ T1 F1.1 fun m hm hno=>F1.2 m hm (fun q=>hno (.inl q)) (fun q=>hno (.inr (.inl q))) (fun q=>hno (.inr (.inr (.inl q)))) fun q=>hno (.inr (.inr (.inr ⟨y,hy,.inr q⟩)))
 have e2:=(((hd h1 ω ev hs rp o1 f t.ri (by omega) (by omega)).2.1 y hy ri z r0 r1).2 hm (by omega)).2 hu p (p+1)
 rw [hx] at e2
 exact ⟨h1,_,x,_,e1,e2,xe.1,xe.2.2.2,tt⟩
theorem Zre {h:Mem}{i:Int}:eqM h 4 (ZbI (.int i)) (.tup [.str (Str.ofString "told"),.int i])=some true:=eqT rfl
def ZjL (F:Fm):Prop:=∀ h s,Rl h s→s.ev=0→s.hs=[]→∀ (r c:Int) (m:Nat),0≤r→r<64→1≤m→m≤40→∃ h' s',F [.ref s.k.t,.ref s.o.p,.int r,.int (m:Int),.int c] h=.ok (.bl true) h'∧h.length≤h'.length∧Rl h' s'∧s'.k=s.k∧s'.o=s.o∧s'.ev=m∧Ck m s'.ev s'.hs
theorem Zmy (T:Tx K mg C){D:Nat}{Fr Fm' Fc Fd Ft' Fa:Fm}(hr':Zf0 Fr)(hm':ZhG Fm')(hc:ZiR Fc)(hd:Zhf Fd)(ht:Zd8 D Ft')(ha:ZpS 4 Fa)(M_rooted:Zfm P w K mg base (T0 C) 4 "rooted" (ZcJ Fr))(G_l_mixed:ZbU P w K mg base CX0 1 "_law_mixed" (spH (T0 C) Fm'))(G_l_common:ZbU P w K mg base CX0 1 "_law_common" (spH (T0 C) Fc))(G_l_due:ZbU P w K mg base CX0 2 "_law_due" (spH (T0 C) Fd))(G_l_tree_deed:ZbU P w K mg base CX0 52 "_law_tree_deed" (spH (T0 C) Ft'))(G_l_alike:ZbU P w K mg base CX0 5 "_law_alike" (spH (T0 C) Fa))(R:DefAt K mg "_law_built" s_l_built):∃ F,ZbU P w K mg base CX0 53 "_law_built" (spH (T0 C) F)∧ZjL F:=by
 refine ⟨_,(Zd5 R sc_l_built Zjc (hB:=fun f cdv A outer s H E φ0 H0 hr=>(Zad (ZaY (Zhd T.ins M_rooted hr (by decide) (Zab 0) (Zaa Zaf (Zaa (Zab 2) (Zaa Zap Zac)))))
   (Zad (ZaY (Zaz G_l_due hr (by decide) rfl (Zaa (Zab 1) (Zaa Zaf (Zaa Zaf (Zaa (Zab 2) (Zaa Zap Zac)))))))
   (Zad (Zg5 (Zbt (fun _ _ _=>trivial)) PassesOwn.never rfl (ZkW rfl T.b_range Zaf (Zab 3)) (ZcE (i:=5) sc_l_built.nd rfl (Or.inl rfl))
    (Zad (ZaK (Zax (Za2 hr) Za3 (Zar Zbk ZaX (Zab 5) Zaf) (Zar Zbk ZaX (Zaz G_l_mixed hr (by decide) rfl (Zaa (Zab 4) (Zaa Zaf Zac))) Zaf) (Zat _)) (Zai (Zay (i:=2) sc_l_built.nd rfl (Or.inl rfl) (fun _ _ _=>trivial) (Zaz G_l_common hr (by decide) rfl (Zaa (Zab 2) (Zaa (Zar Zc3 Zb6 Zaf (Zf3 Zbo Zbn (Zd6 (Zaa Zaf (Zaa Zaf (Zaa Zaf (Zaa Zaf (Zaa Zaf (Zaa Zaf Zac))))))) (Zar Zbk ZaX (Zaz G_l_mixed hr (by decide) rfl (Zaa (Zab 4) (Zaa (Zab 5) Zac))) Zaf) (fun _ _=>rfl))) Zac))))) Zaq)
    (Zad (Zay (i:=6) sc_l_built.nd rfl (Or.inl rfl) (fun _ _ _=>trivial) (Zaz G_l_due hr (by decide) rfl (Zaa (Zab 1) (Zaa Zaf (Zaa (Zar Zc3 Zb6 (Zab 5) Zaf) (Zaa (Zab 2) (Zaa Zap Zac)))))))
    (Zai (ZaK (ZlB (Zjn (ZcD (Zbm (Zaz G_l_alike hr (by omega) rfl (Zaa (Zaz G_l_tree_deed hr (by decide) rfl (Zaa (Zab 0) (Zaa Zaf (Zaa (Zar Zc3 Zb6 (Zab 5) Zaf) (Zaa (Zab 2) (Zaa Zap Zac)))))) (Zaa (Zab 6) Zac))))) (ZfU (Zax (ZfI hr) ZfN (Zab 6) (Zbl (Zaa Zap (Zaa (Zab 5) Zac))) (Zat _))))) (Zai (Zam Zhz)) Zaq)))))
   (Zai (Zam Zhz))))))),?_⟩
 intro h s j ev0 hs0 r c m r0 r1 m1 m40
 generalize hI1:Zcl (Zbp eqO _ _) _ _=I1
 generalize hB:Zcc I1 _=B
 obtain ⟨κ,ω,ev,hs,rp⟩:=s
 dsimp only at ev0 hs0 ⊢
 subst ev0 hs0
 have t:=j.t
 have f:=j.f
 dsimp only at t f
 obtain ⟨h1,e1,T1,F1⟩:=hr' h κ 0 [] t (by omega) 5 r (Str.ofString "ann") r0 r1
 obtain ⟨x,hx⟩:∃ x:Hn,⟨0,h.length,h.length+1,5,r,none,Str.ofString "ann"⟩=x:=⟨_,rfl⟩
 rw [hx] at T1
 have xl:=T1.lt (.inr (.inr (.inr ⟨x,by simp,.inr rfl⟩)))
 have xe:x.n=0∧x.p=h.length∧x.q=h.length+1∧x.gv=none∧x.ri=r:=by rw [← hx]; exact ⟨rfl,rfl,rfl,rfl,rfl⟩
 obtain ⟨o1,tt⟩:=j.add (h1:=h1) xe.1 ⟨by omega,by omega⟩ ⟨by omega,xl⟩ T1 F1.1 fun m hm hno=>F1.2 m hm (fun q=>hno (.inl q)) (fun q=>hno (.inr (.inl q))) fun q=>hno (.inr (.inr (.inl q)))
 have e2:=(hd h1 ω 0 [] rp o1 f t.ri (by simp) (by omega)).1 5 r (Str.ofString "ann") h.length (h.length+1)
 rw [hx] at e2
 generalize Ze8 h1 ω 0 [] rp x=h2 at e2 tt
 have et:=t.b.t
 simp only [trO] at et
 have k0:Ck 1 1 [x]:=by
  refine ⟨by rw [List.map_cons,xe.1]; rfl,fun i hi=>?_,Nat.le_refl _,fun u hu g e=>?_⟩
  ·obtain rfl:i=0:=by omega
   have d0:Dn [x]:=fun u hu g e=>by rw [List.mem_singleton.mp hu,xe.2.2.2.1] at e; cases e
   have:gvN [x] 0=none:=by
    have:=Zen (hs:=[x]) (by simp) (List.mem_singleton.mpr rfl)
    rw [xe.1,xe.2.2.2.1] at this
    exact this
   rw [Zcy d0,this]; rfl
  ·rw [List.mem_singleton.mp hu,xe.2.2.2.1] at e; cases e
 have lp:∃ ρ' h',ZaC (gN 5) B (ZdD 1 (m - 1)) [some (.ref κ.t),some (.ref ω.p),some (.int r),some (.int (m:Int)),some (.int c),none,none] h2=.nx ρ' h'∧(∃ rv v5 v6 hs rp y,ρ'=[some (.ref κ.t),some (.ref ω.p),some (.int rv),some (.int (m:Int)),some (.int c),v5,v6]∧h.length≤h'.length∧Rl h' ⟨κ,ω,0+(ZdD 1 (m - 1)).length+1,hs,rp⟩∧Ck (0+(ZdD 1 (m - 1)).length+1) (0+(ZdD 1 (m - 1)).length+1) hs∧y∈hs∧y.n=0+(ZdD 1 (m - 1)).length∧y.ri=rv∧0≤rv∧rv<64):=by
  refine ZdC (fun i ρ' h'=>∃ rv v5 v6 hs rp y,ρ'=[some (.ref κ.t),some (.ref ω.p),some (.int rv),some (.int (m:Int)),some (.int c),v5,v6]∧h.length≤h'.length∧Rl h' ⟨κ,ω,i+1,hs,rp⟩∧Ck (i+1) (i+1) hs∧y∈hs∧y.n=i∧y.ri=rv∧0≤rv∧rv<64) (ZdD 1 (m - 1)) 0 _ h2 ⟨r,_,_,[x],_,x,rfl,by have:=tt.len; omega,tt.r,k0,by simp,xe.1,xe.2.2.2.2,r0,r1⟩ ?_
  rintro i u hu ρ hh ⟨rv,v5,v6,hs,rp,y,rfl,hhl,J,ck,hy,yn,yr,v0,v1⟩
  rw [Nat.zero_add] at J ck yn
  rw [Nat.zero_add]
  obtain ⟨hi,rfl⟩:=ZdU hu
  obtain ⟨kx,hkx⟩:∃ kx:Int,1+(i:Int)=kx:=⟨_,rfl⟩
  rw [hkx]
  refine ⟨_,rfl,?_⟩
  have mm:=fun k a b=>hm' hh c k a b
  have m5:=mm 5 (by decide) (by decide)
  have mk:=mm kx (by omega) (by omega)
  generalize mxV c 5=q5 at m5
  generalize mxV c kx=qk at mk
  obtain ⟨rn,n0,n1,n2,st⟩:∃ rn:Int,0≤rn∧rn<64∧mis rn rv=0∧I1 [some (.ref κ.t),some (.ref ω.p),some (.int rv),some (.int (m:Int)),some (.int c),some (.int kx),v6] hh=.nx [some (.ref κ.t),some (.ref ω.p),some (.int rn),some (.int (m:Int)),some (.int c),some (.int kx),v6] hh:=by
   by_cases q:kx % 7=q5 % 7
   ·obtain ⟨w0,hw0,ey⟩:=Zly (l:=[W.int 1,.int 2,.int 4,.int 8,.int 16,.int 32]) (i:=qk % 6) (by omega) (by show _<(6:Int); omega)
    obtain ⟨tv,rfl,t0,t1⟩:∃ tv:Int,w0=.int tv∧0≤63 - tv∧63 - tv<64:=by
     simp only [List.mem_cons,List.not_mem_nil,or_false] at hw0
     rcases hw0 with rfl | rfl | rfl | rfl | rfl | rfl <;> exact ⟨_,rfl,by decide,by decide⟩
    obtain ⟨c0,c1,c2⟩:=Zr5 v0 v1 t0 t1
    have cc:=hc hh rv (63 - tv)
    generalize cmV rv (63 - tv)=cv at cc c0 c1 c2
    refine ⟨cv,c0,c1,c2,?_⟩
    rw [← hI1]
    simp! [q,m5,mk,ey,cc]
   ·refine ⟨rv,v0,v1,(Zqy v0 v1).1,?_⟩
    rw [← hI1]
    simp! [q,m5]
  obtain ⟨ha1,ha2,xn,d1,d2,x1,x2,x3,tn⟩:=ZlE ht hd J (by dsimp only; omega) hy (by dsimp only; rw [yn,ck.c i (by omega)]; omega) (z:=Str.ofString "bob") n0 n1 (by rw [yr]; exact n2)
  dsimp only at d1 d2 x1 x2 tn
  have ky:kx - 1=(y.n:Int):=by omega
  have al:=ha ha2 (ZbI (.int ((i+1:Nat):Int))) (ZbI (.int ((i+1:Nat):Int))) (Zge Zpp).up.up
  have eqv:eqM ha2 4 (ZbI (.int ((i+1:Nat):Int))) (.tup [.str (Str.ofString "told"),.int kx])=some true:=by
   rw [← hkx,show (1:Int)+(i:Int)=((i+1:Nat):Int) by omega]
   exact Zre
  refine ⟨[some (.ref κ.t),some (.ref ω.p),some (.int rn),some (.int (m:Int)),some (.int c),some (.int kx),some (ZbI (.int ((i+1:Nat):Int)))],ha2,.inl ?_,rn,_,_,hs++[xn],_,xn,rfl,by have:=tn.len; omega,tn.r,ck.next J.f x1 (by omega) (by rw [x2,yn]; rfl),by simp,x1,x3,n0,n1⟩
  rw [← hB]
  refine (Zah st).trans ?_
  generalize ZbI (.int ((i+1:Nat):Int))=TV at d1 d2 al eqv
  refine (Zah (ρ':=[some (.ref κ.t),some (.ref ω.p),some (.int rn),some (.int (m:Int)),some (.int c),some (.int kx),some TV]) (h':=ha1) (by simp! [ky,d1])).trans ?_
  simp_all! [ky,d2,al,eqv]
 obtain ⟨ρ',h3,lp,rv,v5,v6,hs,rp3,y,rfl,l3,J,ck,_⟩:=lp
 have rl:(ZdD 1 (m - 1)).length=m - 1:=by unfold ZdD; simp
 have em:0+(ZdD 1 (m - 1)).length+1=m:=by omega
 rw [em] at J ck
 refine ⟨h3,⟨κ,ω,m,hs,rp3⟩,Zaj rfl ?_ l3,l3,J,rfl,rfl,rfl,ck⟩
 refine congrArg Out.res (?_:_=Out.rt (.bl true) h3)
 refine (Zah (ρ':=[some (.ref κ.t),some (.ref ω.p),some (.int r),some (.int (m:Int)),some (.int c),none,none]) (h':=h1) (by simp! [et,e1,ZaM,tb1,ZgU])).trans ?_
 refine (Zah (ρ':=[some (.ref κ.t),some (.ref ω.p),some (.int r),some (.int (m:Int)),some (.int c),none,none]) (h':=h2) (by simp! [e2])).trans ?_
 have b1:(-4611686018427387904:Int)≤(m:Int):=by omega
 have b2:(m:Int)<4611686018427387904:=by omega
 have b3:((m:Int) - 1).toNat=m - 1:=by omega
 refine (Zah ((ZcL (ws:=ZdD 1 (m - 1)) (h':=h2) (by rw [← b3]; simp! [ZrT,b1,b2])).trans lp)).trans ?_
 simp! [xNo]
def Zp2 (F:Fm):Prop:=∀ h κ ev hs,Tj h κ ev hs→ev≤200→∀ n:Nat,ev≤n+1→∃ h',F [.ref κ.t,.int (n:Int)] h=.ok (.bl true) h'∧h.length≤h'.length∧∀ i,i<h.length→h'[i]? = h[i]?
theorem Zp1 (T:Tx K mg C){D:Nat}{Fa Ft':Fm}(ha:ZpS 4 Fa)(ht:Zd8 D Ft')(G_l_alike:ZbU P w K mg base CX0 5 "_law_alike" (spH (T0 C) Fa))(G_l_tree_deed:ZbU P w K mg base CX0 52 "_law_tree_deed" (spH (T0 C) Ft'))(R:DefAt K mg "_law_odd" s_l_odd):∃ F,ZbU P w K mg base CX0 53 "_law_odd" (spH (T0 C) F)∧Zp2 F:=by
 refine ⟨_,(Zd5 R sc_l_odd ZlH (hB:=fun f cdv A outer s H E φ0 H0 hr=>(Zad (Zay (i:=2) sc_l_odd.nd rfl (Or.inl rfl) (fun _ _ _=>trivial) (Zf3 Zbo Zbn (Zd6 (Zaa (Ztq Zrx Zpz Zaf) (Zaa (Zar ZaH ZaG (Zab 1) Zaf) (Zaa (Zar ZaH ZaG (Zar Znt ZjS Zaf Zaf) (Zab 1)) (Zaa Zhz (Zaa Zhz (Zaa Zgs (Zaa Zap (Zaa Zap (Zaa (Zar Zc3 Zb6 Zaf (Zar Znt ZjS Zaf Zaf)) (Zaa (Zd6 (Zaa Zaf Zac)) (Zaa (Zbl (Zaa Zaf Zac)) Zac)))))))))))) (Zar Zbk ZaX (Zab 1) Zaf) (fun _ _=>rfl)))
   (Zad (Zg5 (Zbt (fun _ _ _=>trivial)) PassesOwn.never rfl (ZeR (Zd6 (Zaa Zaf (Zaa Zaf (Zaa Zaf (Zaa Zaf (Zaa Zaf (Zaa Zaf Zac)))))))) (ZcE (i:=3) sc_l_odd.nd rfl (Or.inl rfl))
    (Zai (ZaK (ZcD (Zbm (Zaz G_l_alike hr (by omega) rfl (Zaa (Zaz G_l_tree_deed hr (by decide) rfl (Zaa (Zab 0) (Zaa (Zab 3) (Zaa (Zab 2) (Zaa Zaf (Zaa Zap Zac)))))) (Zaa (Zbl (Zaa Zap (Zaa Zap Zac))) Zac))))) (Zai (Zam Zhz)) Zaq)))
   (Zai (Zam Zhz)))))),?_⟩
 intro h κ ev hs S hev n hn
 generalize hB:Zcl _ _ _=B
 obtain ⟨od,ho,st⟩:∃ od,noH hs od∧atI [W.int (-1),.int ((n:Int)+1),.int (1000000000+(n:Int)),.bl true,.bl false,.non,.str (Str.ofString "0"),.str (Str.ofString ""),.int (-1000000000000),.tl [.int 0],.tup [.int 0]] ((n:Int) % 11)=some od:=by
  obtain ⟨y,hy,ey⟩:=Zly (l:=[W.int (-1),.int ((n:Int)+1),.int (1000000000+(n:Int)),.bl true,.bl false,.non,.str (Str.ofString "0"),.str (Str.ofString ""),.int (-1000000000000),.tl [.int 0],.tup [.int 0]]) (i:=(n:Int) % 11) (by omega) (by show _<(11:Int); omega)
  refine ⟨y,?_,ey⟩
  simp only [List.mem_cons,List.not_mem_nil,or_false] at hy
  have big:∀ z:Int,z<0∨(ev:Int)≤z→noH hs (.int z):=fun z hz=>.inr ⟨z,rfl,fun ⟨x,hx,e⟩=>by have:=S.b.lt x hx; omega⟩
  rcases hy with rfl | rfl | rfl | rfl | rfl | rfl | rfl | rfl | rfl | rfl | rfl
  ·exact big _ (.inl (by decide))
  ·exact big _ (.inr (by omega))
  ·exact big _ (.inr (by omega))
  ·exact .inl (.inl rfl)
  ·exact .inl (.inr (.inl rfl))
  ·exact .inl (.inr (.inr (.inl rfl)))
  ·exact .inl (.inr (.inr (.inr (.inl ⟨_,rfl⟩))))
  ·exact .inl (.inr (.inr (.inr (.inl ⟨_,rfl⟩))))
  ·exact big _ (.inl (by decide))
  ·exact .inl (.inr (.inr (.inr (.inr (.inl ⟨_,rfl⟩)))))
  ·exact .inl (.inr (.inr (.inr (.inr (.inr ⟨_,rfl⟩)))))
 have lp:∃ ρ' h',ZaC (gN 3) B ([1,2,3,4,5,6].map W.int) [some (.ref κ.t),some (.int (n:Int)),some od,none] h=.nx ρ' h'∧((∃ v3,ρ'=[some (.ref κ.t),some (.int (n:Int)),some od,v3])∧h.length≤h'.length∧∀ i,i<h.length→h'[i]? = h[i]?):=by
  refine ZiG (fun ρ' h'=>(∃ v3,ρ'=[some (.ref κ.t),some (.int (n:Int)),some od,v3])∧h.length≤h'.length∧∀ i,i<h.length→h'[i]? = h[i]?) _ _ h ⟨⟨_,rfl⟩,Nat.le_refl _,fun _ _=>rfl⟩ ?_
  rintro u hu ρ hh ⟨⟨v3,rfl⟩,l1,q1⟩
  obtain ⟨w,hw,rfl⟩:=List.mem_map.mp hu
  have hw1:1≤w:=by
   simp only [List.mem_cons,List.not_mem_nil,or_false] at hw
   omega
  have S1:Tj hh κ ev hs:=S.fr fun i q=>q1 i (S.lt q)
  obtain ⟨o,e⟩:=(ht hh κ ev hs S1 (by omega)).2.1 w od 63 (Str.ofString "ann") hw1 ho
  have a1:=ha (hh++[o]) (ZcN (Str.ofString "no handle")) (ZcN (Str.ofString "no handle")) alk_ref.up.up
  have l2:hh.length≤(hh++[o]).length:=by simp
  have q2:∀ i,i<hh.length→(hh++[o])[i]? = hh[i]?:=fun i hi=>by rw [List.getElem?_append_left hi]
  generalize hh++[o]=h2 at e a1 l2 q2
  refine ⟨_,rfl,[some (.ref κ.t),some (.int (n:Int)),some od,some (.int w)],h2,.inl ?_,⟨_,rfl⟩,by omega,fun i hi=>by rw [q2 i (by omega)]; exact q1 i hi⟩
  have a1:Fa [ZcN (Str.ofString "no handle"),.tup [.str (Str.ofString "refused"),.str (Str.ofString "no handle")]] h2=.ok (.bl true) h2:=a1
  rw [← hB]
  simp! [e,a1]
 obtain ⟨ρ',h',lp,⟨v3,rfl⟩,l1,q1⟩:=lp
 refine ⟨h',Zaj rfl ?_ l1,l1,q1⟩
 refine congrArg Out.res (?_:_=Out.rt (.bl true) h')
 refine (Zah (ρ':=[some (.ref κ.t),some (.int (n:Int)),some od,none]) (h':=h) ?_).trans ?_
 ·generalize hL:[W.int (-1),.int ((n:Int)+1),.int (1000000000+(n:Int)),.bl true,.bl false,.non,.str (Str.ofString "0"),.str (Str.ofString ""),.int (-1000000000000),.tl [.int 0],.tup [.int 0]]=LW at st
  have ll:LW.length≤16777216:=by rw [← hL]; simp
  simp! [hL,st,ll]
 refine (Zah ((ZcL (ws:=[1,2,3,4,5,6].map W.int) (h':=h) (by simp! [xNo])).trans lp)).trans ?_
 simp! [xNo]
theorem Zd7 {α:Type}{G:Tg}{c el:Ex}{ρ0:Sg}{h1:Mem}(g r:α→W)(o:α→List O):∀ (l:List α) (acc:List W) (os:List O),acc.length+l.length≤1000 →
  (∀ a∈l,∀ acc os,∃ ρ,G (g a) ρ0=some ρ∧c ρ (h1++O.lst acc::os)=.ok (.bl true) (h1++O.lst acc::os)∧el ρ (h1++O.lst acc::os)=.ok (r a) (h1++O.lst acc::(os++o a)))→ZcY G c el ρ0 h1.length (l.map g) (h1++O.lst acc::os)=some (h1++O.lst (acc++l.map r)::(os++l.flatMap o))
 | [],acc,os,_,_=>by
  rw [List.map_nil,List.map_nil,List.append_nil,List.flatMap_nil,List.append_nil]
  unfold ZcY
  rfl
 | a::l,acc,os,hl,ht=>by
  obtain ⟨ρ,e1,e2,e3⟩:=ht a List.mem_cons_self acc os
  have ih:=Zd7 g r o l (acc++[r a]) (os++o a) (by simp at hl ⊢; omega) fun b hb=>ht b (List.mem_cons_of_mem _ hb)
  rw [List.map_cons,List.map_cons]
  unfold ZcY
  rw [e1]
  dsimp only
  rw [e2]
  dsimp only
  rw [e3]
  dsimp only
  have e4:(h1++O.lst acc::(os++o a))[h1.length]? = some (.lst acc):=by simp
  have e5:(h1++O.lst acc::(os++o a)).set h1.length (.lst (acc++[r a]))=h1++O.lst (acc++[r a])::(os++o a):=by rw [List.set_append_right _ _ (Nat.le_refl _)]; simp
  rw [e4]
  dsimp only
  have e6:decide (acc.length<sizeLine)=true:=decide_eq_true (by rw [sizeLine_eq]; simp at hl; omega)
  rw [e6,e5]
  show ZcY G c el ρ0 h1.length (l.map g) _=_
  rw [ih,List.append_assoc,List.append_assoc]
  rfl
theorem Zg8 {fi:Ei}{own:Nat}{ix:List Nat}{G:Tg}{c el:Ex}{ρ ρ0:Sg}{h h1 h2:Mem}{ws:List W}(e1:fi ρ h=.ok none ws h1)(e0:ρC own ix ρ=ρ0)(e2:ZcY G c el ρ0 h1.length ws (h1++[.lst []])=some h2):Zem fi own ix G c el ρ h=.ok (.ref h1.length) h2:=by
 unfold Zem
 rw [e1,e0]
 dsimp only
 rw [e2]
theorem ZjE {G:Tg}{f:Ex}{ρ ρ':Sg}{h h':Mem}{w:W}(e:f ρ h=.ok w h')(g:G w ρ=some ρ'):ZcW G f ρ h=.nx ρ' h':=by
 unfold ZcW
 rw [e]
 dsimp only
 rw [g]
theorem ZkZ {op:Mem→W→W→Option W}{f g:Ex}{ρ:Sg}{h h1 h2:Mem}{a b w:W}(e1:f ρ h=.ok a h1)(e2:g ρ h1=.ok b h2)(e3:op h2 a b=some w):Zbp op f g ρ h=.ok w h2:=by
 simp [Zbp,e1,e2,e3,Res.bind,Res.of]
theorem Zqk {h:Mem}{a b:W}(e:eqM h 4 a b=some true):neO h a b=some (.bl false):=by
 simp [neO,e]
theorem Zs2 {o:Mem→List W→Option W}{f:Ex}{ρ:Sg}{h h1:Mem}{a w:W}(e1:f ρ h=.ok a h1)(e2:o h1 [a]=some w):xCb o (Zan f ZbP) ρ h=.ok w h1:=by
 simp [xCb,Zan,ZbP,e1,e2,Res.of]
theorem ZqY {f g:Ex}{A:Sm}{ρ:Sg}{h h1 h2:Mem}(e1:f ρ h=.ok (.bl false) h1)(e2:g ρ h1=.ok (.bl false) h2):Zcl (xOr f g) A Zbv ρ h=.nx ρ h2:=by
 simp [Zcl,xOr,Zbv,e1,e2,Res.bind]
theorem ZoR {h:Mem}{y:Hn}:eqM h 3 (ZbI (hnT y)) (ZbI (hnT y))=some true:=by
 have f5:∀ w∈[W.int (y.n:Int),.int y.th,.int y.ri,gvW y.gv,.str y.ho],ZaO w=true:=fun w hw=>by
  simp only [List.mem_cons,List.not_mem_nil,or_false] at hw
  rcases hw with rfl | rfl | rfl | rfl | rfl
  ·rfl
  ·rfl
  ·rfl
  ·cases y.gv <;> rfl
  ·rfl
 have e2:eqM h 2 (hnT y) (hnT y)=some true:=M.eqM_tup f5
 have e1:eqM h 2 (.str (Str.ofString "told")) (.str (Str.ofString "told"))=some true:=Zcr rfl (Zb0 rfl)
 unfold ZbI
 rw [eqM,if_neg (by simp [ZaO])]
 simp only [sq]
 simp [Zjv,e1,e2]
theorem Zmt {h:Mem}{a b:W}{ys:List Hn}(ha:items h a=some (ys.map fun y=>ZbI (hnT y)))(hb:items h b=some (ys.map fun y=>ZbI (hnT y))):eqM h 4 a b=some true:=by
 have fa:ZaO a=false:=by cases a <;> first | rfl | cases ha
 have sa:sq h a=some (true,ys.map fun y=>ZbI (hnT y)):=by cases a <;> first | (unfold sq; dsimp only; rw [ha]; rfl) | cases ha
 have sb:sq h b=some (true,ys.map fun y=>ZbI (hnT y)):=by cases b <;> first | (unfold sq; dsimp only; rw [hb]; rfl) | cases hb
 rw [eqM,if_neg (by rw [fa]; simp),sa,sb]
 dsimp only
 rw [if_pos rfl,Zfd fun w m=>by
  obtain ⟨y,_,rfl⟩:=List.mem_map.mp m
  exact ZoR]
theorem Zq2 {hs:List Hn}(d:Dn hs):∀ {n k:Nat},k∈upN hs n→k≤n:=by
 intro n
 induction n using Nat.strongRecOn with
 | _ n ih=>
  intro k hk
  rw [Zcy d] at hk
  rcases List.mem_cons.mp hk with q | q
  ·omega
  ·cases e:gvN hs n with
   | none=>rw [e] at q; cases q
   | some g=>
    rw [e] at q
    obtain ⟨y,hy,e1,e2⟩:=ZiC e
    have:=d y hy g e2
    have:=ih g (by omega) q
    omega
theorem Zpa {ev:Nat}{hs:List Hn}(f:Hf ev hs){l:List Nat}:∀ (n:Nat) {x:Hn},x.n=n→x∈hs→(∀ k∈upN hs x.n,¬k∈l)→upN (Zcz hs l) x.n=upN hs x.n:=by
 intro n
 induction n using Nat.strongRecOn with
 | _ n ih=>
  intro x hn hx hk
  have W:=f.hw
  have sl:(Zcz hs l).Sublist hs:=List.filter_sublist
  have nl:((Zcz hs l).map Hn.n).Nodup:=W.nd.sublist (sl.map _)
  have dl:Dn (Zcz hs l):=fun u hu=>W.dn u (List.mem_filter.mp hu).1
  have x0:x.n∈upN hs x.n:=by rw [Zcy W.dn]; exact List.mem_cons_self
  have hxl:x∈Zcz hs l:=List.mem_filter.mpr ⟨hx,by have:=hk _ x0; simpa using this⟩
  have e1:=Zcy dl x.n
  have e2:=Zcy W.dn x.n
  rw [Zen nl hxl] at e1
  rw [Zen W.nd hx] at e2
  cases hg:x.gv with
  | none=>rw [hg] at e1 e2; rw [e1,e2]
  | some g=>
   rw [hg] at e1 e2
   obtain ⟨g1,g2⟩:=f.gv x hx g hg
   obtain ⟨y,hy,rfl⟩:=List.mem_map.mp g2
   rw [e1,e2]
   dsimp only
   rw [ih y.n (by omega) rfl hy fun k q=>hk k (by rw [e2]; exact List.mem_cons_of_mem _ q)]
def sI:Sd:=⟨⟨0,1,2⟩,⟨3,4⟩,0,[],fun _=>0⟩
def hI:Mem:=[trO 1 2 0,.dic [],.dic [],.dic (plD ⟨3,4⟩ 0),.dic []]
theorem Zuh:Rl hI sI:=by
 refine ⟨⟨⟨rfl,rfl,rfl,fun x hx=>by simp [sI] at hx,fun x hx=>by simp [sI] at hx,by simp [sI],fun x hx=>by simp [sI] at hx,fun x hx=>by simp [sI] at hx,fun x hx=>by simp [sI] at hx⟩,fun x hx=>by simp [sI] at hx,by decide,by simp [sI],by simp [sI],fun x hx=>by simp [sI] at hx,fun x hx=>by simp [sI] at hx⟩,⟨rfl,rfl,fun x hx=>by simp [sI] at hx,by decide,fun x hx=>by simp [sI] at hx⟩,fun n p q=>?_⟩
 simp [Tj.on,Oj.on,sI] at p q
 omega
theorem Zrg {f:Addr}{fd:FuncData}(T:Tx K mg C)(R:Fun K "law" "law" s_law f fd){Fi Fm' Fce Fb Ft' Fd Fo Fl Fa Fk Fc:Fm}(hi:Zm6 Fi)(hm:ZhG Fm')(hce:Znp Fce)(hb:ZjL Fb)(ht:Zd8 46 Ft')(hd:Zhf Fd)(ho:Zp2 Fo)(hlk:ZkX Fl)(ha:ZpS 4 Fa)(hk:Znk Fk)(hc:ZnH 46 Fc)(K_Tree:ZpW P w K mg base (T0 C) 1 "Tree" Fi)(G_l_mixed:ZbU P w K mg base CX0 1 "_law_mixed" (spH (T0 C) Fm'))(G_l_cell_at:ZbU P w K mg base CX0 1 "_law_cell_at" (spH (T0 C) Fce))(G_l_built:ZbU P w K mg base CX0 53 "_law_built" (spH (T0 C) Fb))(G_l_tree_deed:ZbU P w K mg base CX0 52 "_law_tree_deed" (spH (T0 C) Ft'))(G_l_due:ZbU P w K mg base CX0 2 "_law_due" (spH (T0 C) Fd))(G_l_odd:ZbU P w K mg base CX0 53 "_law_odd" (spH (T0 C) Fo))(G_l_lacking:ZbU P w K mg base CX0 1 "_law_lacking" (spH (T0 C) Fl))(G_l_alike:ZbU P w K mg base CX0 5 "_law_alike" (spH (T0 C) Fa))(M_kept:Zfm P w K mg base (T0 C) 1 "kept" (ZcJ Fk))(M_cut:Zfz P w K mg base (T0 C) true 51 "cut" (ZcJ Fc)):FnOk P w K mg base CX0 54 f fd ["_law_script"] (spH (T0 C) Zo8):=by
 refine ZsS R sc_law (hB:=fun cdv A outer s H E φ0 H0 hr=>(Zad (Zay (i:=1) sc_law.nd rfl (Or.inl rfl) (fun _ _ _=>trivial) (Zf3 Zbo Zbn (Zd6 (Zaa Zaf (Zaa (Zar Zbk ZaX (Zaz G_l_mixed hr (by decide) rfl (Zaa (Zaz G_l_cell_at hr (by decide) rfl (Zaa (Zab 0) (Zaa Zaf Zac))) (Zaa Zaf Zac))) Zaf) Zac))) (Zar Zbk ZaX (Zaz G_l_mixed hr (by decide) rfl (Zaa (Zaz G_l_cell_at hr (by decide) rfl (Zaa (Zab 0) (Zaa Zaf Zac))) (Zaa Zaf Zac))) Zaf) (fun _ _=>rfl)))
   (Zad (Zay (i:=2) sc_law.nd rfl (Or.inl rfl) (fun _ _ _=>trivial) (Zar ZaH ZaG Zaf (Zar Zbk ZaX (Zaz G_l_mixed hr (by decide) rfl (Zaa (Zaz G_l_cell_at hr (by decide) rfl (Zaa (Zab 0) (Zaa Zaf Zac))) (Zaa Zaf Zac))) Zaf)))
   (Zad (ZaK (Zax (Za2 hr) Za3 (Zar Zbk ZaX (Zaz G_l_mixed hr (by decide) rfl (Zaa (Zaz G_l_cell_at hr (by decide) rfl (Zaa (Zab 0) (Zaa Zaf Zac))) (Zaa Zaf Zac))) Zaf) Zaf (Zat _)) (Zai (Zay (i:=2) sc_law.nd rfl (Or.inl rfl) (fun _ _ _=>trivial) Zaf)) Zaq)
   (Zad (Zay (i:=3) sc_law.nd rfl (Or.inr rfl) (fun _ _ _=>trivial) (ZpP K_Tree hr (by decide) rfl))
   (Zad (Zay (i:=4) sc_law.nd rfl (Or.inr rfl) (fun _ _ _=>trivial) (Zq3 (Zlr Zap Zid (Zlr Zap Zaf Zqi))))
   (Zad (ZaK (ZcD (Zbm (Zaz G_l_built hr (by decide) rfl (Zaa (Zab 3) (Zaa (Zab 4) (Zaa (Zab 1) (Zaa (Zab 2) (Zaa (Zaz G_l_cell_at hr (by decide) rfl (Zaa (Zab 0) (Zaa Zaf Zac))) Zac)))))))) (Zai (Zam Zhz)) Zaq)
   (Zad (Zay (i:=5) sc_law.nd rfl (Or.inl rfl) (fun _ _ _=>trivial) (Zar Zbk ZaX (Zaz G_l_mixed hr (by decide) rfl (Zaa (Zaz G_l_cell_at hr (by decide) rfl (Zaa (Zab 0) (Zaa Zaf Zac))) (Zaa Zaf Zac))) Zaf))
   (Zad (Zg5 (Zbt (fun _ _ _=>trivial)) PassesOwn.never rfl (ZcF rfl T.b_range (Zab 5)) (ZcE (i:=6) sc_law.nd rfl (Or.inl rfl))
    (Zai (ZaK (Zax (ZfI hr) ZfN (Zaz G_l_tree_deed hr (by decide) rfl (Zaa (Zab 3) (Zaa Zaf (Zaa Zaf (Zaa Zaf (Zaa Zap Zac)))))) (Zaz G_l_due hr (by decide) rfl (Zaa (Zab 4) (Zaa Zaf (Zaa Zaf (Zaa Zaf (Zaa Zap Zac)))))) (Zat _)) (Zai (Zam Zhz)) Zaq)))
   (Zad (Zay (i:=7) sc_law.nd rfl (Or.inl rfl) (fun _ _ _=>trivial) (Zar Zbk ZaX (Zaz G_l_mixed hr (by decide) rfl (Zaa (Zaz G_l_cell_at hr (by decide) rfl (Zaa (Zab 0) (Zaa Zaf Zac))) (Zaa Zaf Zac))) Zaf))
   (Zad (Zay (i:=8) sc_law.nd rfl (Or.inl rfl) (fun _ _ _=>trivial) (Zf3 Zbo Zbn (Zd6 (Zaa (Zar Zc3 Zb6 (Zab 2) Zaf) (Zaa (Zar Zbk ZaX (Zaz G_l_mixed hr (by decide) rfl (Zaa (Zaz G_l_cell_at hr (by decide) rfl (Zaa (Zab 0) (Zaa Zaf Zac))) (Zaa Zaf Zac))) (Zab 2)) Zac))) (Zar Zbk ZaX (Zaz G_l_mixed hr (by decide) rfl (Zaa (Zaz G_l_cell_at hr (by decide) rfl (Zaa (Zab 0) (Zaa Zaf Zac))) (Zaa Zaf Zac))) Zaf) (fun _ _=>rfl)))
   (Zad (ZlD (osc:=Zae s_law) (N:=["_law_script","_law_rights","_law_many","_law_tree","_law_plain","_law_beside","_law_k","_law_more","_law_at","_law_held","_law_turn","_law_due_here","_law_lacking_here"]) (own:=["_law_one"]) (fr:=["_law_plain"]) (ix:=[4]) (i:=9) sc_law.nd rfl rfl (fun _ _ _=>trivial) rfl rfl rfl (by decide +kernel) (ZcF rfl T.b_range (Zab 2)) (fun _=>(Zbt (Zh8 (by decide)))) (fun _ _ _ _ _=>(ZmN 0 (by decide +kernel) rfl (by decide +kernel) rfl)) (fun _ _ _ _ _ _=>Zk8) (fun _ _ _ _ _ _=>(Zaz G_l_due hr (by decide) rfl (Zaa (Zab 1) (Zaa Zaf (Zaa (Zab 0) (Zaa Zaf (Zaa Zap Zac))))))))
   (Zad (ZaK (ZcD (Zbm (Zaz G_l_odd hr (by decide) rfl (Zaa (Zab 3) (Zaa (Zar ZaH ZaG (Zar ZaH ZaG (Zab 2) (Zab 5)) (Zar Zbk ZaX (Zaz G_l_mixed hr (by decide) rfl (Zaa (Zaz G_l_cell_at hr (by decide) rfl (Zaa (Zab 0) (Zaa Zaf Zac))) (Zaa Zaf Zac))) Zaf)) Zac))))) (Zai (Zam Zhz)) Zaq)
   (Zad (Zg5 (Zbt (fun _ _ _=>trivial)) PassesOwn.never rfl (ZcF rfl T.b_range Zaf) (ZcE (i:=10) sc_law.nd rfl (Or.inl rfl))
    (Zad (Zay (i:=11) sc_law.nd rfl (Or.inl rfl) (fun _ _ _=>trivial) (Zbl (Zaa Zap (Zaa Zap Zac))))
    (Zad (Zay (i:=12) sc_law.nd rfl (Or.inl rfl) (fun _ _ _=>trivial) (Zaz G_l_lacking hr (by decide) rfl (Zaa (Zab 7) (Zaa (Zf3 Zbo Zbn (Za6 hr (Za6 hr (Zab 4) Zap (fun _ _=>rfl)) (Zab 8) (fun _ _=>rfl)) Zaf (fun _ _=>rfl)) Zac))))
    (Zad (ZaK (Zax Zl9 Zix (Zab 12) Zaf (Zat _)) (Zai (Zay (i:=11) sc_law.nd rfl (Or.inl rfl) (fun _ _ _=>trivial) (Zbl (Zaa Zap (Zaa (Zar ZaH ZaG Zap (ZmI Zhs ZcB rfl T.b_str (by first | exact Zcm | rfl) (Zaa (Zab 12) Zac))) Zac))))) Zaq)
    (Zad (ZaK (ZlB (Zim (ZlB (Zjn (Zax Zl9 Zix (Zab 12) Zaf (Zat _)) (ZfU (Zax (Za2 hr) Za3 (Zab 8) Zaf (Zat _))))) (Zgm (ZcD (Zbm (Zaz G_l_alike hr (by omega) rfl (Zaa (Zaz G_l_tree_deed hr (by decide) rfl (Zaa (Zab 3) (Zaa Zaf (Zaa (Zab 8) (Zaa (Zab 7) (Zaa Zap Zac)))))) (Zaa (Zab 11) Zac)))))))) (Zai (Zam Zhz)) Zaq)
    (Zai (ZaK (ZlB (Zjn (Zax (ZfI hr) ZfN (Zo9 (osc:=Zae s_law) (N:=["_law_script","_law_rights","_law_many","_law_tree","_law_plain","_law_beside","_law_k","_law_more","_law_at","_law_held","_law_turn","_law_due_here","_law_lacking_here"]) (own:=["_law_one"]) (fr:=["_law_tree"]) (ix:=[3]) rfl rfl rfl (by decide +kernel) (ZcF rfl T.b_range (Zab 2)) (fun _=>(Zbt (Zh8 (by decide)))) (fun _ _ _ _ _=>(ZmN 0 (by decide +kernel) rfl (by decide +kernel) rfl)) (fun _ _ _ _ _ _=>Zk8) (fun _ _ _ _ _ _=>(Zaz G_l_tree_deed hr (by decide) rfl (Zaa (Zab 1) (Zaa Zaf (Zaa (Zab 0) (Zaa Zaf (Zaa Zap Zac)))))))) (Zab 9) (Zat _)) (ZfU (Zax (ZfI hr) ZfN (ZdS Zc7 ZbZ rfl T.b_len (by first | exact Zbu | rfl) (Zaa (Zoe T.ins M_kept hr (by decide) (Zab 3)) Zac)) (Zar ZaH ZaG (Zab 2) (Zab 5)) (Zat _))))) (Zai (Zam Zhz)) Zaq)))))))
   (Zad (ZaK (Zax Zqu Znc (Zab 2) Zaf (Zat _)) (Zai (Zam (Zaz G_l_alike hr (by omega) rfl (Zaa (Zaz G_l_tree_deed hr (by decide) rfl (Zaa (Zab 3) (Zaa Zaf (Zaa (Zar Zc3 Zb6 (Zab 2) Zaf) (Zaa Zaf (Zaa Zap Zac)))))) (Zaa (Zbl (Zaa Zap (Zaa (Zar ZaH ZaG (Zab 2) (Zab 5)) Zac))) Zac))))) Zaq)
   (Zad (ZaK (ZcD (Zbm (Zaz G_l_alike hr (by omega) rfl (Zaa (Zaz G_l_tree_deed hr (by decide) rfl (Zaa (Zab 3) (Zaa Zaf (Zaa Zaf (Zaa Zaf (Zaa Zap Zac)))))) (Zaa (Zbl (Zaa Zap (Zaa Zap Zac))) Zac))))) (Zai (Zam Zhz)) Zaq)
   (Zad (ZaY (Za8 T.ins M_cut (ZmU fun _ _ h=>h) hr (by decide) (Zab 3) (Zaa Zaf Zac)))
   (Zai (Zam (Zaz G_l_alike hr (by omega) rfl (Zaa (Zaz G_l_tree_deed hr (by decide) rfl (Zaa (Zab 3) (Zaa Zaf (Zaa Zaf (Zaa Zaf (Zaa Zap Zac)))))) (Zaa (Zbl (Zaa Zap (Zaa (Zar ZaH ZaG Zaf (Zab 5)) Zac))) Zac)))))))))))))))))))))) ?_ ?_
 ·exact ZnQ
 ·refine Zj3 fun ns hl=>?_
  generalize hC1:Zem _ _ _ _ _ (Zaw Fd _)=C1
  generalize hC2:Zem _ _ _ _ _ (Zaw Ft' _)=C2
  generalize hB1:Zcl (Zbp neO (Zaw Ft' _) (Zaw Fd _)) _ _=B1
  generalize hI3:Zcl _ (ZcW (gN 11) _) _=I3
  generalize hI4:Zcl (ZdY _ _) _ _=I4
  generalize hI5:Zcl (xOr _ _) _ _=I5
  generalize hB2:Zcc (ZcW (gN 11) _) _=B2
  have mx:∀ (h:Mem) (c k:Int),0≤k→k≤1000→∃ q:Int,Fm' [.int c,.int k] h=.ok (.int q) h:=fun h c k a b=>⟨_,hm h c k a b⟩
  generalize hTL:Zcc (ZcW (gN 7) _) _=TL
  have key:∀ (r:Int) (m b:Nat) (h2:Mem) (hs:List Hn) (rp:Nat→Nat) (v6:Option W),1≤m→m≤40→b<45→Rl h2 ⟨⟨0,1,2⟩,⟨3,4⟩,m+b,hs,rp⟩→Ck m (m+b) hs→∃ h9,TL [some (.tl (ns.map W.int)),some (.int r),some (.int (m:Int)),some (.ref 0),some (.ref 3),some (.int (b:Int)),v6,none,none,none,none,none,none] h2=.rt (.bl true) h9:=by
   intro r m b h2 hs rp v6 mm1 mm40 b45 J ck
   have t2:=J.t
   have o2:=J.o
   have f2:=J.f
   dsimp only at t2 o2 f2
   have hsl:=ck.len
   obtain ⟨c3,ec3⟩:=hce ns h2 3 hl (by decide)
   obtain ⟨q6,m6⟩:=mx h2 c3 6 (by decide) (by decide)
   obtain ⟨q7,m7⟩:=mx h2 c3 7 (by decide) (by decide)
   obtain ⟨q8,m8⟩:=mx h2 c3 8 (by decide) (by decide)
   obtain ⟨mo,hmo,mo0,mo1⟩:∃ mo:Int,q6 % 64=mo∧0≤mo∧mo<64:=⟨_,rfl,by omega,by omega⟩
   have mpos:(0:Int)<(m:Int):=by omega
   have mlt:(m:Int)<1073741824:=by omega
   have md0:0≤q7 % (m:Int):=Int.emod_nonneg _ (by omega)
   have md1:q7 % (m:Int)<(m:Int):=Int.emod_lt_of_pos _ mpos
   obtain ⟨a,am,ea⟩:∃ a:Nat,a<m∧atI [W.int ((m:Int) - 1),.int (q7 % (m:Int))] (q8 % 2)=some (.int (a:Int)):=by
    obtain ⟨y,hy,ey⟩:=Zly (l:=[W.int ((m:Int) - 1),.int (q7 % (m:Int))]) (i:=q8 % 2) (by omega) (by show _<(2:Int); omega)
    simp only [List.mem_cons,List.not_mem_nil,or_false] at hy
    rcases hy with rfl | rfl
    ·exact ⟨m - 1,by omega,by rw [show ((m - 1:Nat):Int)=(m:Int) - 1 by omega]; exact ey⟩
    ·exact ⟨(q7 % (m:Int)).toNat,by omega,by rw [Int.toNat_of_nonneg md0]; exact ey⟩
   obtain ⟨ys,hys⟩:∃ ys,hs.take m=ys:=⟨_,rfl⟩
   have yl:ys.length=m:=by rw [← hys,List.length_take]; omega
   have ysub:∀ y∈ys,y∈hs:=fun y hy=>by rw [← hys] at hy; exact List.mem_of_mem_take hy
   have yrg:ZdD 0 m=ys.map fun y=>W.int (y.n:Int):=by
    have e1:ys.map Hn.n=List.range m:=by
     have:=congrArg (List.take m) ck.nn
     rw [← List.map_take,hys,List.take_range] at this
     rw [this]
     congr 1
     omega
    unfold ZdD
    rw [← e1,List.map_map]
    apply List.map_congr_left
    intro y _
    simp
   obtain ⟨L,hL⟩:∃ L,(ys.map fun y=>ZbI (hnT y))=L:=⟨_,rfl⟩
   have b1:(-4611686018427387904:Int)≤(m:Int):=by omega
   have b2:(m:Int)<4611686018427387904:=by omega
   have ev1k:m+b≤1000:=by omega
   have hs1k:hs.length≤1000:=by rw [hsl]; exact ev1k
   have ys1k:([]:List W).length+ys.length≤1000:=by rw [List.length_nil,Nat.zero_add,yl]; exact Nat.le_trans mm40 (by decide)
   have held:C1 [some (.tl (ns.map W.int)),some (.int r),some (.int (m:Int)),some (.ref 0),some (.ref 3),some (.int (b:Int)),v6,some (.int mo),some (.int (a:Int)),none,none,none,none] h2=.ok (.ref h2.length) (h2++[O.lst L]):=by
    rw [← hC1]
    have fi:Zeo (ZaW 2) [some (.tl (ns.map W.int)),some (.int r),some (.int (m:Int)),some (.ref 0),some (.ref 3),some (.int (b:Int)),v6,some (.int mo),some (.int (a:Int)),none,none,none,none] h2=.ok none (ys.map fun y=>W.int (y.n:Int)) h2:=by
     rw [← yrg]
     simp! [b1,b2]
    have bl:=Zd7 (α:=Hn) (h1:=h2) (fun y=>W.int (y.n:Int)) (fun y=>ZbI (hnT y)) (fun _=>[]) ys [] [] ys1k (G:=gN 0) (c:=xC (.bl true)) (el:=Zaw Fd (Zan (ZaW 1) (Zan (xC (.int 6)) (Zan (ZaW 0) (Zan (xC (.int 0)) (Zan (xC (.str (Str.ofString ""))) ZbP)))))) (ρ0:=[none,some (.ref 3)]) (fun y hy acc os=>by
     have oM:Oj (h2++O.lst acc::os) ⟨3,4⟩ (m+b) hs rp:=o2.fr fun n q=>by rw [List.getElem?_append_left (o2.lt q)]
     have e1:=(hd _ ⟨3,4⟩ (m+b) hs rp oM f2 t2.ri hs1k ev1k).2.2 y (ysub y hy) 0 (Str.ofString "")
     dsimp only at e1
     rw [List.append_nil]
     refine ⟨[some (.int (y.n:Int)),some (.ref 3)],rfl,rfl,?_⟩
     generalize h2++O.lst acc::os=hA at e1
     simp! [e1])
    rw [List.nil_append,List.nil_append,hL,show ys.flatMap (fun _=>([]:List O))=[] by simp] at bl
    have e9:ρC [Str.ofString "_law_one"].length [4] [some (.tl (ns.map W.int)),some (.int r),some (.int (m:Int)),some (.ref 0),some (.ref 3),some (.int (b:Int)),v6,some (.int mo),some (.int (a:Int)),none,none,none,none]=[none,some (.ref 3)]:=rfl
    have bl:ZcY (gN 0) (xC (.bl true)) (Zaw Fd (Zan (ZaW 1) (Zan (xC (.int 6)) (Zan (ZaW 0) (Zan (xC (.int 0)) (Zan (xC (.str (Str.ofString ""))) ZbP)))))) [none,some (.ref 3)] h2.length (ys.map fun y=>W.int (y.n:Int)) (h2++[O.lst []])=some (h2++[O.lst L]):=bl
    exact Zg8 fi e9 bl
   have q3':∀ n,n<h2.length→(h2++[O.lst L])[n]? = h2[n]?:=fun n hn=>by rw [List.getElem?_append_left hn]
   have f3:(h2++[O.lst L])[h2.length]? = some (.lst L):=by simp
   have l3:h2.length<(h2++[O.lst L]).length:=by simp
   have J3:=J.fr fun n q=>q3' n (J.lt q)
   generalize h2++[O.lst L]=h3 at held q3' f3 l3 J3
   obtain ⟨hp,ehp⟩:∃ hp,h2.length=hp:=⟨_,rfl⟩
   rw [ehp] at held f3 l3
   obtain ⟨c4,ec4⟩:=hce ns h3 4 hl (by decide)
   obtain ⟨q9,m9⟩:=mx h3 c4 9 (by decide) (by decide)
   obtain ⟨qo,hqo⟩:∃ qo:Nat,(m:Int)+(b:Int)+q9 % 90=(qo:Int)∧m+b≤qo:=⟨((m:Int)+(b:Int)+q9 % 90).toNat,by omega,by omega⟩
   obtain ⟨h4,e4,l4,q4'⟩:=ho h3 ⟨0,1,2⟩ (m+b) hs J3.t (by omega) qo (by omega)
   dsimp only at e4
   have J4:=J3.fr fun n q=>q4' n (J3.lt q)
   have f4:h4[hp]? = some (.lst L):=by rw [q4' _ l3]; exact f3
   obtain ⟨y,_,hy,yn⟩:=ck.at (i:=a) (by omega)
   have yri:=t2.ri y hy
   obtain ⟨_,ms0,ms1⟩:=Zkp mo0 mo1 yri.1 yri.2
   have upa:=ck.c a am
   have lp2:∃ ρ' h',ZaC (gN 10) B2 (ZdD 0 2) [some (.tl (ns.map W.int)),some (.int r),some (.int (m:Int)),some (.ref 0),some (.ref 3),some (.int (b:Int)),v6,some (.int mo),some (.int (a:Int)),some (.ref hp),none,none,none] h4=.nx ρ' h'∧((∃ v10 v11 v12,ρ'=[some (.tl (ns.map W.int)),some (.int r),some (.int (m:Int)),some (.ref 0),some (.ref 3),some (.int (b:Int)),v6,some (.int mo),some (.int (a:Int)),some (.ref hp),v10,v11,v12])∧Rl h' ⟨⟨0,1,2⟩,⟨3,4⟩,m+b,hs,rp⟩∧h'[hp]? = some (.lst L)):=by
    refine ZdC (fun _ ρ' h'=>(∃ v10 v11 v12,ρ'=[some (.tl (ns.map W.int)),some (.int r),some (.int (m:Int)),some (.ref 0),some (.ref 3),some (.int (b:Int)),v6,some (.int mo),some (.int (a:Int)),some (.ref hp),v10,v11,v12])∧Rl h' ⟨⟨0,1,2⟩,⟨3,4⟩,m+b,hs,rp⟩∧h'[hp]? = some (.lst L)) (ZdD 0 2) 0 _ h4 ⟨⟨_,_,_,rfl⟩,J4,f4⟩ ?_
    rintro i u hu ρ h ⟨⟨v10,v11,v12,rfl⟩,JJ,fh⟩
    obtain ⟨hiN,rfl⟩:=ZdU hu
    rw [Int.zero_add]
    refine ⟨_,rfl,?_⟩
    have tj:=JJ.t
    have oj:=JJ.o
    dsimp only at tj oj
    have ep:=oj.p
    have er:=oj.r
    dsimp only at ep er
    have dr:Zbi h (.ref 3) (.str (Str.ofString "rows"))=some (.ref 4):=by simp only [Zbi,Za1,ep,ZcR]; exact ZpZ (ω:=⟨3,4⟩)
    have dy:Zbi h (.ref 4) (.int (a:Int))=some (.ref (rp a)):=by
     have g:=Zf9 (rp:=rp) f2.hw.nd hy
     rw [yn] at g
     simp only [Zbi,Za1,er,ZcR]
     exact g
    have el:=oj.l y hy
    rw [yn] at el
    simp only [ZkT] at el
    have a1:∀ g:W,atI [W.int y.th,.int y.ri,g,.str y.ho] 1=some (.int y.ri):=fun g=>rfl
    have lk:=hlk h mo y.ri mo0 mo1 yri.1 yri.2
    obtain ⟨ms,hms⟩:∃ ms,mis mo y.ri=ms:=⟨_,rfl⟩
    rw [hms] at lk ms0 ms1
    obtain ⟨du,st3⟩:∃ du,(du=if 0<ms then ZcN (ZdB ms) else ZcN (Str.ofString "too many"))∧I3 [some (.tl (ns.map W.int)),some (.int r),some (.int (m:Int)),some (.ref 0),some (.ref 3),some (.int (b:Int)),v6,some (.int mo),some (.int (a:Int)),some (.ref hp),some (.int (i:Int)),some (ZcN (Str.ofString "too many")),some (.int ms)] h=.nx [some (.tl (ns.map W.int)),some (.int r),some (.int (m:Int)),some (.ref 0),some (.ref 3),some (.int (b:Int)),v6,some (.int mo),some (.int (a:Int)),some (.ref hp),some (.int (i:Int)),some du,some (.int ms)] h:=by
     refine ⟨_,rfl,?_⟩
     rw [← hI3]
     by_cases q:0<ms
     ·obtain ⟨s1,s2⟩:=Zj6 ms0 ms1
      obtain ⟨z1,_⟩:=ZeS
      have s3:(Str.ofString "lacks ").length+(Str.ofString (toString ms)).length≤16777216:=by omega
      have e1:Str.ofString "lacks "++Str.ofString (toString ms)=ZdB ms:=rfl
      have sm:Zno h [.int ms]=some (.str (Str.ofString (toString ms))):=by simp [Zno,s2]
      rw [if_pos q]
      generalize Str.ofString (toString ms)=zm at s3 e1 sm
      simp! [q,sm,s3,e1,ZcN]
     ·rw [if_neg q]
      simp! [q]
    obtain ⟨hdu,st3⟩:=st3
    obtain ⟨h5,l5,q5,st4⟩:∃ h5:Mem,h.length≤h5.length∧(∀ n,n<h.length→h5[n]? = h[n]?)∧I4 [some (.tl (ns.map W.int)),some (.int r),some (.int (m:Int)),some (.ref 0),some (.ref 3),some (.int (b:Int)),v6,some (.int mo),some (.int (a:Int)),some (.ref hp),some (.int (i:Int)),some du,some (.int ms)] h=.nx [some (.tl (ns.map W.int)),some (.int r),some (.int (m:Int)),some (.ref 0),some (.ref 3),some (.int (b:Int)),v6,some (.int mo),some (.int (a:Int)),some (.ref hp),some (.int (i:Int)),some du,some (.int ms)] h5:=by
     obtain ⟨p1,p2⟩:=(ht h ⟨0,1,2⟩ (m+b) hs tj ev1k).2.2.1 y hy mo (Str.ofString "") mo0 mo1
     rw [hms] at p1 p2
     rw [yn] at p1 p2
     dsimp only at p1 p2
     by_cases q:0<ms
     ·obtain ⟨o,e5⟩:=p1 (by omega) ms0 ms1
      rw [if_pos q] at hdu
      have a5:=ha (h++[hnO y,o]) (ZcN (ZdB ms)) (ZcN (ZdB ms)) alk_ref.up.up
      refine ⟨h++[hnO y,o],by simp,fun n hn=>by rw [List.getElem?_append_left hn],?_⟩
      generalize h++[hnO y,o]=h5 at e5 a5
      rw [hdu,← hI4]
      generalize ZcN (ZdB ms)=RV at e5 a5
      simp! [q,e5,a5]
     ·rw [if_neg q] at hdu
      have m0:ms=0:=by omega
      by_cases q39:a=39
      ·obtain ⟨h5,e5,l5,q5⟩:=(p2 m0 (by omega)).1 (by omega)
       have a5:=ha h5 (ZcN (Str.ofString "too many")) (ZcN (Str.ofString "too many")) alk_ref.up.up
       refine ⟨h5,l5,q5,?_⟩
       rw [hdu,← hI4]
       have q39':(a:Int)=39:=by omega
       generalize ZcN (Str.ofString "too many")=RV at e5 a5
       rw [q39'] at e5
       simp! [q,q39',e5,a5]
      ·refine ⟨h,Nat.le_refl _,fun _ _=>rfl,?_⟩
       rw [← hI4]
       have q39':¬(a:Int)=39:=by omega
       simp! [q,q39']
    have J5:=JJ.fr fun n z=>q5 n (JJ.lt z)
    have hpl:=(List.getElem?_eq_some_iff.mp fh).1
    have f5:h5[hp]? = some (.lst L):=by rw [q5 _ hpl]; exact fh
    have t5:=J5.t
    dsimp only at t5
    obtain ⟨h6,eh6⟩:∃ h6,h5++O.lst L::ys.flatMap (fun y=>[hnO y])=h6:=⟨_,rfl⟩
    have c2':C2 [some (.tl (ns.map W.int)),some (.int r),some (.int (m:Int)),some (.ref 0),some (.ref 3),some (.int (b:Int)),v6,some (.int mo),some (.int (a:Int)),some (.ref hp),some (.int (i:Int)),some du,some (.int ms)] h5=.ok (.ref h5.length) h6:=by
     rw [← hC2]
     have fi:Zeo (ZaW 2) [some (.tl (ns.map W.int)),some (.int r),some (.int (m:Int)),some (.ref 0),some (.ref 3),some (.int (b:Int)),v6,some (.int mo),some (.int (a:Int)),some (.ref hp),some (.int (i:Int)),some du,some (.int ms)] h5=.ok none (ys.map fun y=>W.int (y.n:Int)) h5:=by
      rw [← yrg]
      simp! [b1,b2]
     have bl:=Zd7 (α:=Hn) (h1:=h5) (fun y=>W.int (y.n:Int)) (fun y=>ZbI (hnT y)) (fun y=>[hnO y]) ys [] [] ys1k (G:=gN 0) (c:=xC (.bl true)) (el:=Zaw Ft' (Zan (ZaW 1) (Zan (xC (.int 6)) (Zan (ZaW 0) (Zan (xC (.int 0)) (Zan (xC (.str (Str.ofString ""))) ZbP)))))) (ρ0:=[none,some (.ref 0)]) (fun y hy acc os=>by
      have TM:Tj (h5++O.lst acc::os) ⟨0,1,2⟩ (m+b) hs:=t5.app _
      have e1:=(ht _ ⟨0,1,2⟩ (m+b) hs TM ev1k).2.2.2.2.2.2.2 y (ysub y hy) 0 (Str.ofString "")
      dsimp only at e1
      have e3:(h5++O.lst acc::os)++[hnO y]=h5++O.lst acc::(os++[hnO y]):=by simp
      rw [e3] at e1
      refine ⟨[some (.int (y.n:Int)),some (.ref 0)],rfl,rfl,?_⟩
      generalize h5++O.lst acc::(os++[hnO y])=hB at e1
      generalize h5++O.lst acc::os=hA at e1
      simp! [e1])
     rw [List.nil_append,List.nil_append,hL,eh6] at bl
     have e9:ρC [Str.ofString "_law_one"].length [3] [some (.tl (ns.map W.int)),some (.int r),some (.int (m:Int)),some (.ref 0),some (.ref 3),some (.int (b:Int)),v6,some (.int mo),some (.int (a:Int)),some (.ref hp),some (.int (i:Int)),some du,some (.int ms)]=[none,some (.ref 0)]:=rfl
     have bl:ZcY (gN 0) (xC (.bl true)) (Zaw Ft' (Zan (ZaW 1) (Zan (xC (.int 6)) (Zan (ZaW 0) (Zan (xC (.int 0)) (Zan (xC (.str (Str.ofString ""))) ZbP)))))) [none,some (.ref 0)] h5.length (ys.map fun y=>W.int (y.n:Int)) (h5++[O.lst []])=some h6:=bl
     exact Zg8 fi e9 bl
    have q6':∀ n,n<h5.length→h6[n]? = h5[n]?:=fun n hn=>by rw [← eh6,List.getElem?_append_left hn]
    have l6:h5.length<h6.length:=by rw [← eh6]; simp
    have g6:h6[h5.length]? = some (.lst L):=by rw [← eh6]; simp
    have hp5:hp<h5.length:=by omega
    have f6:h6[hp]? = some (.lst L):=by rw [q6' _ hp5]; exact f5
    have eqv:eqM h6 4 (.ref h5.length) (.ref hp)=some true:=Zmt (ys:=ys) (by simp only [items,g6,hL]) (by simp only [items,f6,hL])
    have J6:=J5.fr fun n z=>q6' n (J5.lt z)
    have t6:=J6.t
    dsimp only at t6
    have tt6:=t6.b.t
    simp only [trO] at tt6
    have k6:=hk h6 ⟨0,1,2⟩ (m+b) hs t6.b (by omega)
    dsimp only at k6
    have q7':∀ n,n<h6.length→(h6++[O.lst (Zao (hs.map Hn.n))])[n]? = h6[n]?:=fun n hn=>by rw [List.getElem?_append_left hn]
    have f7:(h6++[O.lst (Zao (hs.map Hn.n))])[h6.length]? = some (.lst (Zao (hs.map Hn.n))):=by simp
    have J7:=J6.fr fun n z=>q7' n (J6.lt z)
    have g7:(h6++[O.lst (Zao (hs.map Hn.n))])[hp]? = some (.lst L):=by rw [q7' _ (by omega)]; exact f6
    generalize h6++[O.lst (Zao (hs.map Hn.n))]=h7 at k6 q7' f7 J7 g7
    have iwl:(Zao (hs.map Hn.n)).length=m+b:=by unfold Zao; simp; omega
    have iw1:(Zao (hs.map Hn.n)).length≤16777216:=by omega
    have iw2:((Zao (hs.map Hn.n)).length:Int)=(m:Int)+(b:Int):=by omega
    refine ⟨[some (.tl (ns.map W.int)),some (.int r),some (.int (m:Int)),some (.ref 0),some (.ref 3),some (.int (b:Int)),v6,some (.int mo),some (.int (a:Int)),some (.ref hp),some (.int (i:Int)),some du,some (.int ms)],h7,.inl ?_,⟨_,_,_,rfl⟩,J7,g7⟩
    rw [← hB2]
    refine (Zah (ρ':=[some (.tl (ns.map W.int)),some (.int r),some (.int (m:Int)),some (.ref 0),some (.ref 3),some (.int (b:Int)),v6,some (.int mo),some (.int (a:Int)),some (.ref hp),some (.int (i:Int)),some (ZcN (Str.ofString "too many")),v12]) (h':=h) (by simp! [ZcN])).trans ?_
    generalize gvW y.gv=gw at el
    have a1:=a1 gw
    refine (Zah (ρ':=[some (.tl (ns.map W.int)),some (.int r),some (.int (m:Int)),some (.ref 0),some (.ref 3),some (.int (b:Int)),v6,some (.int mo),some (.int (a:Int)),some (.ref hp),some (.int (i:Int)),some (ZcN (Str.ofString "too many")),some (.int ms)]) (h':=h) (by simp! [dr,dy,el,a1,lk])).trans ?_
    refine (Zah st3).trans ?_
    refine (Zah st4).trans ?_
    rw [← hI5]
    have eii:∀ z:Int,eqM h7 4 (.int z) (.int z)=some true:=fun z=>Zcr rfl (Zb0 rfl)
    have ln:ZdX h7 [.ref h6.length]=some (.int ((m:Int)+(b:Int))):=by
     unfold ZdX
     simp only [f7]
     rw [iw2]
    have km:ZaM (Str.ofString "kept") (ZcJ Fk) (ZaW 3) ZbP [some (.tl (ns.map W.int)),some (.int r),some (.int (m:Int)),some (.ref 0),some (.ref 3),some (.int (b:Int)),v6,some (.int mo),some (.int (a:Int)),some (.ref hp),some (.int (i:Int)),some du,some (.int ms)] h6=.ok (.ref h6.length) h7:=by
     generalize (m:Int)=mi
     generalize (b:Int)=bi
     simp! [tt6,k6,ZaM,tb1,Zpi]
    have am':∀ mi bi:Int,Zc8 h7 (.int mi) (.int bi)=some (.int (mi+bi)):=fun mi bi=>by simp! [xNo]
    exact ZqY (ZkZ c2' rfl (Zqk eqv)) (ZkZ (Zs2 km ln) (ZkZ rfl rfl (am' _ _)) (Zqk (eii _)))
   obtain ⟨ρ2,h5,lp2,⟨v10,v11,v12,rfl⟩,J5,_⟩:=lp2
   have t5:=J5.t
   dsimp only at t5
   obtain ⟨h9,last⟩:∃ h9:Mem,(Zcc (Zcl (Zbp ltM (ZaW 2) (xC (.int 40))) (ZdT (Zaw Fa (Zan (Zaw Ft' (Zan (ZaW 3) (Zan (xC (.int 1)) (Zan (Zbp ZeB (ZaW 2) (xC (.int 1))) (Zan (xC (.int 0)) (Zan (xC (.str (Str.ofString ""))) ZbP)))))) (Zan (Zef (Zan (xC (.str (Str.ofString "told"))) (Zan (Zbp Zc8 (ZaW 2) (ZaW 5)) ZbP))) ZbP)))) Zbv) (Zcc (Zcl (ZdW (Zaw Fa (Zan (Zaw Ft' (Zan (ZaW 3) (Zan (xC (.int 1)) (Zan (xC (.int 39)) (Zan (xC (.int 0)) (Zan (xC (.str (Str.ofString ""))) ZbP)))))) (Zan (Zef (Zan (xC (.str (Str.ofString "refused"))) (Zan (xC (.str (Str.ofString "too many"))) ZbP))) ZbP)))) (ZdT (xC (.bl false))) Zbv) (Zcc (Zbq (ZaP (Str.ofString "cut") (ZcJ Fc) (ZaW 3) (Zan (xC (.int 39)) ZbP))) (ZdT (Zaw Fa (Zan (Zaw Ft' (Zan (ZaW 3) (Zan (xC (.int 1)) (Zan (xC (.int 38)) (Zan (xC (.int 0)) (Zan (xC (.str (Str.ofString ""))) ZbP)))))) (Zan (Zef (Zan (xC (.str (Str.ofString "told"))) (Zan (Zbp Zc8 (xC (.int 40)) (ZaW 5)) ZbP))) ZbP))))))) [some (.tl (ns.map W.int)),some (.int r),some (.int (m:Int)),some (.ref 0),some (.ref 3),some (.int (b:Int)),v6,some (.int mo),some (.int (a:Int)),some (.ref hp),v10,v11,v12] h5=.rt (.bl true) h9:=by
    have add1:(-18446744073709551616:Int)<(m:Int):=by omega
    have add2:(m:Int)<18446744073709551616:=by omega
    have add3:(-18446744073709551616:Int)<(b:Int):=by omega
    have add4:(b:Int)<18446744073709551616:=by omega
    by_cases q40:m<40
    ·obtain ⟨u,_,hu,un⟩:=ck.at (i:=m - 1) (by omega)
     obtain ⟨u0,u1⟩:=t5.ri u hu
     obtain ⟨h9,p,e9,_,_,_⟩:=(((ht h5 ⟨0,1,2⟩ (m+b) hs t5 ev1k).2.2.1 u hu 0 (Str.ofString "") (by decide) (by decide)).2 (Zqy u0 u1).2 (by rw [un,ck.c _ (by omega)]; omega)).2 (by rw [un,ck.c _ (by omega)]; omega)
     dsimp only at e9
     rw [un,show ((m - 1:Nat):Int)=(m:Int) - 1 by omega] at e9
     have a9:Fa [ZbI (.int ((m+b:Nat):Int)),.tup [.str (Str.ofString "told"),.int ((m:Int)+(b:Int))]] h9=.ok (.bl true) h9:=ha h9 _ _ (Zge Zpp).up.up
     generalize ZbI (.int ((m+b:Nat):Int))=TV at e9 a9
     refine ⟨h9,?_⟩
     refine Zh0 ?_
     have lm40:(m:Int)<40:=by omega
     refine (Zlm (h':=h5) (by simp! [lm40])).trans ?_
     simp! [e9,a9]
    ·have hm40:m=40:=by omega
     have nm40:¬(m:Int)<40:=by omega
     obtain ⟨u,_,hu,un⟩:=ck.at (i:=39) (by omega)
     obtain ⟨u0,u1⟩:=t5.ri u hu
     obtain ⟨h6,e6,l6,q6'⟩:=(((ht h5 ⟨0,1,2⟩ (m+b) hs t5 ev1k).2.2.1 u hu 0 (Str.ofString "") (by decide) (by decide)).2 (Zqy u0 u1).2 (by rw [un,ck.c _ (by omega)]; omega)).1 (by rw [un,ck.c _ (by omega)]; omega)
     dsimp only at e6
     rw [un] at e6
     have e6:Ft' [.ref 0,.int 1,.int 39,.int 0,.str (Str.ofString "")] h5=.ok (ZcN (Str.ofString "too many")) h6:=e6
     have a6:Fa [ZcN (Str.ofString "too many"),.tup [.str (Str.ofString "refused"),.str (Str.ofString "too many")]] h6=.ok (.bl true) h6:=ha h6 _ _ alk_ref.up.up
     have t6:Tj h6 ⟨0,1,2⟩ (m+b) hs:=t5.fr fun n z=>q6' n (t5.lt z)
     have tt6:=t6.b.t
     simp only [trO] at tt6
     have kn:ZbW hs 39=[]:=by
      cases e:ZbW hs 39 with
      | nil=>rfl
      | cons k0 kl=>
       obtain ⟨x,hx,_,e2⟩:=Zby (show k0∈ZbW hs 39 by rw [e]; simp)
       rcases ck.g x hx 39 e2 with z | z
       ·omega
       ·omega
     have bn:bel hs 46 u.n=[]:=by rw [un]; unfold bel; rw [kn]; rfl
     obtain ⟨h7,m7',e7,_,_,T7,_⟩:=(hc h6 ⟨0,1,2⟩ (m+b) hs t6 ev1k (by decide)).2 u hu (by omega) (by rw [bn]; simp)
     have gn:gsN hs 46 u.n=[39]:=by
      have:=(Znu hs 46 u.n).2
      rw [bn,un] at this
      exact List.perm_singleton.mp (by rw [un]; exact this)
     rw [gn] at T7
     dsimp only at e7
     rw [un] at e7
     have e7:Fc [.ref 0,.int 39] h6=.ok (.ref m7') h7:=e7
     obtain ⟨v,_,hv,vn⟩:=ck.at (i:=38) (by omega)
     have hv':v∈Zcz hs [39]:=List.mem_filter.mpr ⟨hv,by simp [vn]⟩
     have uv:(upN (Zcz hs [39]) v.n).length=39:=by
      rw [Zpa f2 v.n rfl hv fun k hk z=>by
       have:=Zq2 f2.hw.dn hk
       have:k=39:=by simpa using z
       omega,vn,ck.c 38 (by omega)]
     obtain ⟨w0,w1⟩:=T7.ri v hv'
     obtain ⟨h8,p,e8,_,_,_⟩:=(((ht h7 ⟨0,1,2⟩ (m+b) _ T7 ev1k).2.2.1 v hv' 0 (Str.ofString "") (by decide) (by decide)).2 (Zqy w0 w1).2 (by omega)).2 (by omega)
     dsimp only at e8
     rw [vn] at e8
     have e8:Ft' [.ref 0,.int 1,.int 38,.int 0,.str (Str.ofString "")] h7=.ok (ZbI (.int ((m+b:Nat):Int))) h8:=e8
     have a8:Fa [ZbI (.int ((m+b:Nat):Int)),.tup [.str (Str.ofString "told"),.int (40+(b:Int))]] h8=.ok (.bl true) h8:=by
      rw [show (40:Int)+(b:Int)=((m+b:Nat):Int) by omega]
      exact ha h8 _ _ (Zge Zpp).up.up
     generalize ZbI (.int ((m+b:Nat):Int))=TV at e8 a8
     generalize ZcN (Str.ofString "too many")=RV at e6 a6
     refine ⟨h8,?_⟩
     refine (Zah (ρ':=[some (.tl (ns.map W.int)),some (.int r),some (.int (m:Int)),some (.ref 0),some (.ref 3),some (.int (b:Int)),v6,some (.int mo),some (.int (a:Int)),some (.ref hp),v10,v11,v12]) (h':=h5) (by simp! [nm40])).trans ?_
     refine (Zah (ρ':=[some (.tl (ns.map W.int)),some (.int r),some (.int (m:Int)),some (.ref 0),some (.ref 3),some (.int (b:Int)),v6,some (.int mo),some (.int (a:Int)),some (.ref hp),v10,v11,v12]) (h':=h6) (by simp! [e6,a6])).trans ?_
     refine (Zah (ρ':=[some (.tl (ns.map W.int)),some (.int r),some (.int (m:Int)),some (.ref 0),some (.ref 3),some (.int (b:Int)),v6,some (.int mo),some (.int (a:Int)),some (.ref hp),v10,v11,v12]) (h':=h7) (by simp! [tt6,e7,tb1,ZjW])).trans ?_
     simp! [e8,a8,add3,add4]
   refine ⟨h9,?_⟩
   rw [← hTL]
   refine (Zah (ρ':=[some (.tl (ns.map W.int)),some (.int r),some (.int (m:Int)),some (.ref 0),some (.ref 3),some (.int (b:Int)),v6,some (.int mo),none,none,none,none,none]) (h':=h2) (by simp! [ec3,m6,hmo])).trans ?_
   refine (Zah (ρ':=[some (.tl (ns.map W.int)),some (.int r),some (.int (m:Int)),some (.ref 0),some (.ref 3),some (.int (b:Int)),v6,some (.int mo),some (.int (a:Int)),none,none,none,none]) (h':=h2) ?_).trans ?_
   ·generalize (m:Int)=mi at mpos mlt ea ⊢
    simp! [ec3,m7,m8,ea,mpos,mlt]
   refine (Zah (ρ':=[some (.tl (ns.map W.int)),some (.int r),some (.int (m:Int)),some (.ref 0),some (.ref 3),some (.int (b:Int)),v6,some (.int mo),some (.int (a:Int)),some (.ref hp),none,none,none]) (h':=h3) (ZjE held rfl)).trans ?_
   refine (Zah (ρ':=[some (.tl (ns.map W.int)),some (.int r),some (.int (m:Int)),some (.ref 0),some (.ref 3),some (.int (b:Int)),v6,some (.int mo),some (.int (a:Int)),some (.ref hp),none,none,none]) (h':=h4) ?_).trans ?_
   ·have ad1:(-18446744073709551616:Int)<(m:Int):=by omega
    have ad2:(m:Int)<18446744073709551616:=by omega
    have ad3:(-18446744073709551616:Int)<(b:Int):=by omega
    have ad4:(b:Int)<18446744073709551616:=by omega
    have ad5:(-18446744073709551616:Int)<(m:Int)+(b:Int):=by omega
    have ad6:(m:Int)+(b:Int)<18446744073709551616:=by omega
    have hq:=hqo.1
    generalize (m:Int)=mi at ad1 ad2 ad5 ad6 hq ⊢
    generalize (b:Int)=bi at ad3 ad4 ad5 ad6 hq ⊢
    simp! [ec4,m9,hq,e4,ad1,ad2,ad3,ad4,ad5,ad6]
   refine (Zah ((ZcL (ws:=ZdD 0 2) (h':=h4) (by simp! [xNo])).trans lp2)).trans ?_
   exact last
  obtain ⟨c0,ec0⟩:=hce ns [] 0 hl (by decide)
  obtain ⟨c1,ec1⟩:=hce ns [] 1 hl (by decide)
  obtain ⟨q1,m1⟩:=mx [] c0 1 (by decide) (by decide)
  obtain ⟨q2,m2⟩:=mx [] c0 2 (by decide) (by decide)
  obtain ⟨q3,m3⟩:=mx [] c1 3 (by decide) (by decide)
  obtain ⟨q4,m4⟩:=mx [] c1 4 (by decide) (by decide)
  obtain ⟨r,r0,r1,er⟩:∃ r:Int,0≤r∧r<64∧atI [W.int 63,.int (q1 % 64)] (q2 % 2)=some (.int r):=by
   obtain ⟨y,hy,ey⟩:=Zly (l:=[W.int 63,.int (q1 % 64)]) (i:=q2 % 2) (by omega) (by show _<(2:Int); omega)
   simp only [List.mem_cons,List.not_mem_nil,or_false] at hy
   rcases hy with rfl | rfl
   ·exact ⟨63,by decide,by decide,ey⟩
   ·exact ⟨q1 % 64,by omega,by omega,ey⟩
  obtain ⟨m,me,mm1,mm40⟩:∃ m:Nat,(if q4 % 3=1 then (40:Int) else 1+q3 % 40)=(m:Int)∧1≤m∧m≤40:=by
   by_cases q:q4 % 3=1
   ·exact ⟨40,by rw [if_pos q]; rfl,by omega,by omega⟩
   ·exact ⟨(1+q3 % 40).toNat,by rw [if_neg q]; omega,by omega,by omega⟩
  obtain ⟨c2,ec2⟩:=hce ns hI 2 hl (by decide)
  obtain ⟨h1,s1,eb,l1,J1,sk,so,sev,ck⟩:=hb hI sI Zuh rfl rfl r c2 m r0 r1 mm1 mm40
  obtain ⟨κ1,ω1,ev1,hs1,rp1⟩:=s1
  dsimp only at sk so sev J1 ck
  subst sk so
  have sev:=sev.symm
  subst sev
  have eb:Fb [.ref 0,.ref 3,.int r,.int (m:Int),.int c2] hI=.ok (.bl true) h1:=eb
  obtain ⟨c5,ec5⟩:=hce ns h1 5 hl (by decide)
  obtain ⟨q10,m10⟩:=mx h1 c5 10 (by decide) (by decide)
  obtain ⟨b,be,b45⟩:∃ b:Nat,q10 % 45=(b:Int)∧b<45:=⟨(q10 % 45).toNat,by omega,by omega⟩
  have lp1:∃ ρ' h',ZaC (gN 6) B1 (ZdD 0 b) [some (.tl (ns.map W.int)),some (.int r),some (.int (m:Int)),some (.ref 0),some (.ref 3),some (.int (b:Int)),none,none,none,none,none,none,none] h1=.nx ρ' h'∧(∃ v6 hs rp,ρ'=[some (.tl (ns.map W.int)),some (.int r),some (.int (m:Int)),some (.ref 0),some (.ref 3),some (.int (b:Int)),v6,none,none,none,none,none,none]∧Rl h' ⟨⟨0,1,2⟩,⟨3,4⟩,m+(0+(ZdD 0 b).length),hs,rp⟩∧Ck m (m+(0+(ZdD 0 b).length)) hs):=by
   refine ZdC (fun i ρ' h'=>∃ v6 hs rp,ρ'=[some (.tl (ns.map W.int)),some (.int r),some (.int (m:Int)),some (.ref 0),some (.ref 3),some (.int (b:Int)),v6,none,none,none,none,none,none]∧Rl h' ⟨⟨0,1,2⟩,⟨3,4⟩,m+i,hs,rp⟩∧Ck m (m+i) hs) (ZdD 0 b) 0 _ h1 ⟨_,hs1,rp1,rfl,J1,ck⟩ ?_
   rintro i u hu ρ h ⟨v6,hs,rp,rfl,J,ck⟩
   rw [Nat.zero_add] at J ck
   rw [Nat.zero_add]
   obtain ⟨hiN,rfl⟩:=ZdU hu
   rw [Int.zero_add]
   refine ⟨_,rfl,?_⟩
   obtain ⟨y,_,hy,yn⟩:=ck.at (i:=0) (by omega)
   obtain ⟨y0,y1⟩:=J.t.ri y hy
   obtain ⟨h2,h3,x,rp',t1,t2,xn,xg,tn⟩:=Zk7 ht hd J (by dsimp only; omega) hy (by dsimp only; rw [yn,ck.c 0 (by omega)]; omega) (ri:=0) (z:=Str.ofString "zed") (by decide) (by decide) (Zqy y0 y1).2
   dsimp only at t1 t2 xn tn
   rw [yn] at t1 t2
   have eqv:eqM h3 4 (ZbI (.int ((m+i:Nat):Int))) (ZbI (.int ((m+i:Nat):Int)))=some true:=eqT rfl
   refine ⟨[some (.tl (ns.map W.int)),some (.int r),some (.int (m:Int)),some (.ref 0),some (.ref 3),some (.int (b:Int)),some (.int (i:Int)),none,none,none,none,none,none],h3,.inl ?_,_,hs++[x],rp',rfl,tn.r,ck.more J.f xn (by omega) (by rw [xg,yn])⟩
   rw [← hB1]
   have t1:Ft' [.ref 0,.int 1,.int 0,.int 0,.str (Str.ofString "zed")] h=.ok (ZbI (.int ((m+i:Nat):Int))) h2:=t1
   have t2:Fd [.ref 3,.int 1,.int 0,.int 0,.str (Str.ofString "zed")] h2=.ok (ZbI (.int ((m+i:Nat):Int))) h3:=t2
   generalize ZbI (.int ((m+i:Nat):Int))=TV at t1 t2 eqv
   simp_all! [t1,t2,eqv]
  obtain ⟨ρ1,h2,lp1,v6,hs,rp,rfl,J,ck⟩:=lp1
  have rl1:(ZdD 0 b).length=b:=by unfold ZdD; simp
  rw [rl1,Nat.zero_add] at J ck
  obtain ⟨h9,ek⟩:=key r m b h2 hs rp v6 mm1 mm40 b45 J ck
  have i1:=hi []
  refine ⟨h9,congrArg Out.res (?_:_=Out.rt (.bl true) h9)⟩
  refine (Zah (ρ':=[some (.tl (ns.map W.int)),some (.int r),none,none,none,none,none,none,none,none,none,none,none]) (h':=[]) ?_).trans ?_
  ·simp! [ec0,m1,m2,er]
  refine (Zah (ρ':=[some (.tl (ns.map W.int)),some (.int r),some (.int (1+q3 % 40)),none,none,none,none,none,none,none,none,none,none]) (h':=[]) (by simp! [ec1,m3])).trans ?_
  refine (Zah (ρ':=[some (.tl (ns.map W.int)),some (.int r),some (.int (m:Int)),none,none,none,none,none,none,none,none,none,none]) (h':=[]) (by rw [← me]; by_cases q:q4 % 3=1 <;> simp! [ec1,m4,q])).trans ?_
  refine (Zah (ρ':=[some (.tl (ns.map W.int)),some (.int r),some (.int (m:Int)),some (.ref 0),none,none,none,none,none,none,none,none,none]) (h':=[trO 1 2 0,.dic [],.dic []]) (by simp! [ZhZ,show Fi [.ref 0] [.ins (Str.ofString "Tree") []]=.ok .non [trO 1 2 0,.dic [],.dic []] from i1])).trans ?_
  refine (Zah (ρ':=[some (.tl (ns.map W.int)),some (.int r),some (.int (m:Int)),some (.ref 0),some (.ref 3),none,none,none,none,none,none,none,none]) (h':=hI) ?_).trans ?_
  ·have kw:∀ a:Nat,Zhw [(W.str (Str.ofString "rows"),W.ref a),(W.str (Str.ofString "ever"),W.int 0)]=some [(.inr (Str.ofString "rows"),.ref a),(.inr (Str.ofString "ever"),.int 0)]:=fun _=>rfl
   have nk:ndK [(.inr (Str.ofString "rows"):Key),.inr (Str.ofString "ever")]=true:=by decide +kernel
   simp! [ZoA,Zfa,Zl0,hI,plD,kw,nk]
  generalize hI=hI0 at ec2 eb
  refine (Zah (ρ':=[some (.tl (ns.map W.int)),some (.int r),some (.int (m:Int)),some (.ref 0),some (.ref 3),none,none,none,none,none,none,none,none]) (h':=h1) (by simp! [ec2,eb])).trans ?_
  refine (Zah (ρ':=[some (.tl (ns.map W.int)),some (.int r),some (.int (m:Int)),some (.ref 0),some (.ref 3),some (.int (b:Int)),none,none,none,none,none,none,none]) (h':=h1) (by simp! [ec5,m10,be])).trans ?_
  have bb1:(-4611686018427387904:Int)≤(b:Int):=by omega
  have bb2:(b:Int)<4611686018427387904:=by omega
  refine (Zah ((ZcL (ws:=ZdD 0 b) (h':=h1) (by simp! [bb1,bb2])).trans lp1)).trans ?_
  exact ek
theorem Zng {c:Str}{A:Addr}:∀ {ks:List Str} {l:List Addr},(ks.zip l).lookup c=some A→A∈l
 | [],_,e=>by simp at e
 | k::ks,[],e=>by simp at e
 | k::ks,a::l,e=>by
  rw [List.zip_cons_cons] at e
  unfold List.lookup at e
  split at e
  ·cases e; exact List.mem_cons_self
  ·exact List.mem_cons_of_mem _ (Zng e)
theorem Znd {c:Str}{A:Addr}:∀ {ks:List Str} {l:List Addr},(ks.zip l).lookup c=some A→c∈ks
 | [],_,e=>by simp at e
 | k::ks,[],e=>by simp at e
 | k::ks,a::l,e=>by
  rw [List.zip_cons_cons] at e
  unfold List.lookup at e
  split at e
  ·rename_i hc; rw [eq_of_beq hc]; exact List.mem_cons_self
  ·exact List.mem_cons_of_mem _ (Znd e)
def ndA (l:List Addr):Bool:=decide l.Nodup
theorem Zrv:¬Str.ofString "Tree"∈names∧¬Str.ofString "Handle"∈names:=by decide +kernel
theorem Zue {C:Cs}{c:Str}{A:Addr}(e:(T0 C).x c=some A):T0 C c=none:=by
 have hm:c∈names:=Znd e
 have h1:¬c=Str.ofString "Tree":=fun h=>Zrv.1 (h ▸ hm)
 have h2:¬c=Str.ofString "Handle":=fun h=>Zrv.2 (h ▸ hm)
 exact (if_neg h1).trans (if_neg h2)
theorem x_i (C:Cs):∀ i,i<9→(T0 C).x (names.getD i "")=some (C.l.getD i 0)∧(T0 C).any (names.getD i "")=some (C.l.getD i 0)
 | 0,_=>⟨rfl,rfl⟩
 | 1,_=>⟨rfl,rfl⟩
 | 2,_=>⟨rfl,rfl⟩
 | 3,_=>⟨rfl,rfl⟩
 | 4,_=>⟨rfl,rfl⟩
 | 5,_=>⟨rfl,rfl⟩
 | 6,_=>⟨rfl,rfl⟩
 | 7,_=>⟨rfl,rfl⟩
 | 8,_=>⟨rfl,rfl⟩
 | n+9,h=>absurd h (by omega)
theorem Zrh {f:Addr}{fd:FuncData}{L D:Addr}(hC:IniOk K L "missing")(hB:BaseOk K D)(hm:mg "PassError"=some (.ref D))(R:Fun K "__init__" "Lacks.__init__" ZbS f fd):FnOk P w K mg base CX0 1 f fd ["self","missing"] (spI L "missing"):=
 ZqG R Zfx fun cdv A outer s H E=>Zie (Zli (Zqc hB hC.ei hm rfl (Zcf (ZiJ rfl (Or.inl rfl)) (Zcf Zns pa_nil)))) (Zke (ZqP hC (ZiJ rfl (Or.inl rfl)) (ZiJ rfl (Or.inl rfl))))
theorem fin {w:World}{h:Heap}{fa C_Empty C_Full C_Lacks C_NoHandle C_NoRights C_NoTask C_NoThing C_Taken C_TooMany C_PassError C_Tree C_Handle:Addr}(KX:K.In h)(G:h.Ns mainGlobals mg)(hmg:mg "law"=some (.ref fa))(hNL:noList K=true)(D0:DefAt K mg "is_number" s_is_number)(D1:DefAt K mg "missing" s_missing)(D2:DefAt K mg "within" s_within)(D3:DefAt K mg "_law_cell_at" s_l_cell_at)(D4:DefAt K mg "_law_mixed" s_l_mixed)(D5:DefAt K mg "_law_alike" s_l_alike)(D6:DefAt K mg "_law_word" s_l_word)(D7:DefAt K mg "_law_tree_deed" s_l_tree_deed)(D8:DefAt K mg "_law_below" s_l_below)(D9:DefAt K mg "_law_chain" s_l_chain)(D10:DefAt K mg "_law_lacking" s_l_lacking)(D11:DefAt K mg "_law_due" s_l_due)(D12:DefAt K mg "_law_odd" s_l_odd)(D13:DefAt K mg "_law_common" s_l_common)(D14:DefAt K mg "_law_built" s_l_built)(D15:DefAt K mg "law" s_law)(n0:mg "isinstance"=none)(n1:mg "int"=none)(n2:mg "bool"=none)(n3:mg "len"=none)(n4:mg "list"=none)(n5:mg "reversed"=none)(n6:mg "sorted"=none)(n7:mg "str"=none)(n8:mg "tuple"=none)(n9:mg "ValueError"=none)(n10:mg "range"=none)(n11:mg "min"=none)(n12:mg "all"=none)(n13:mg "sum"=none)(kt0:PySem.W.kitOne K (.type "NoneType") (.type "int")=some false)(kt1:PySem.W.kitOne K (.type "bool") (.type "int")=some true)(kt2:PySem.W.kitOne K (.type "int") (.type "int")=some true)(kt3:PySem.W.kitOne K (.type "str") (.type "int")=some false)(kt4:PySem.W.kitOne K (.type "list") (.type "int")=some false)(kt5:PySem.W.kitOne K (.type "tuple") (.type "int")=some false)(kt6:PySem.W.kitOne K (.type "NoneType") (.type "bool")=some false)(kt7:PySem.W.kitOne K (.type "bool") (.type "bool")=some true)(kt8:PySem.W.kitOne K (.type "int") (.type "bool")=some false)(kt9:PySem.W.kitOne K (.type "str") (.type "bool")=some false)(kt10:PySem.W.kitOne K (.type "list") (.type "bool")=some false)(kt11:PySem.W.kitOne K (.type "tuple") (.type "bool")=some false)(kt12:PySem.W.kitOne K (.type "NoneType") (.type "list")=some false)(kt13:PySem.W.kitOne K (.type "bool") (.type "list")=some false)(kt14:PySem.W.kitOne K (.type "int") (.type "list")=some false)(kt15:PySem.W.kitOne K (.type "str") (.type "list")=some false)(kt16:PySem.W.kitOne K (.type "list") (.type "list")=some true)(kt17:PySem.W.kitOne K (.type "tuple") (.type "list")=some false)(kt18:PySem.W.kitOne K (.type "NoneType") (.type "tuple")=some false)(kt19:PySem.W.kitOne K (.type "bool") (.type "tuple")=some false)(kt20:PySem.W.kitOne K (.type "int") (.type "tuple")=some false)(kt21:PySem.W.kitOne K (.type "str") (.type "tuple")=some false)(kt22:PySem.W.kitOne K (.type "list") (.type "tuple")=some false)(kt23:PySem.W.kitOne K (.type "tuple") (.type "tuple")=some true)(kt24:PySem.W.kitOne K (.type "NoneType") (.type "str")=some false)(kt25:PySem.W.kitOne K (.type "bool") (.type "str")=some false)(kt26:PySem.W.kitOne K (.type "int") (.type "str")=some false)(kt27:PySem.W.kitOne K (.type "str") (.type "str")=some true)(kt28:PySem.W.kitOne K (.type "list") (.type "str")=some false)(kt29:PySem.W.kitOne K (.type "tuple") (.type "str")=some false)(c0:GC mg "LONGEST_CHAIN" (.int 40))(o_Empty:PySem.W.nsIn K mainGlobals "Empty"=some (some (.ref C_Empty)))(o_Full:PySem.W.nsIn K mainGlobals "Full"=some (some (.ref C_Full)))(o_Lacks:PySem.W.nsIn K mainGlobals "Lacks"=some (some (.ref C_Lacks)))(o_NoHandle:PySem.W.nsIn K mainGlobals "NoHandle"=some (some (.ref C_NoHandle)))(o_NoRights:PySem.W.nsIn K mainGlobals "NoRights"=some (some (.ref C_NoRights)))(o_NoTask:PySem.W.nsIn K mainGlobals "NoTask"=some (some (.ref C_NoTask)))(o_NoThing:PySem.W.nsIn K mainGlobals "NoThing"=some (some (.ref C_NoThing)))(o_Taken:PySem.W.nsIn K mainGlobals "Taken"=some (some (.ref C_Taken)))(o_TooMany:PySem.W.nsIn K mainGlobals "TooMany"=some (some (.ref C_TooMany)))(o_PassError:PySem.W.nsIn K mainGlobals "PassError"=some (some (.ref C_PassError)))(o_Tree:PySem.W.nsIn K mainGlobals "Tree"=some (some (.ref C_Tree)))(o_Handle:PySem.W.nsIn K mainGlobals "Handle"=some (some (.ref C_Handle)))(i_Tree:InsTy K C_Tree)(i_Handle:InsTy K C_Handle)(a_Tree_handles:NoAttr K C_Tree "handles")(a_Tree_offspring:NoAttr K C_Tree "offspring")(a_Tree_following:NoAttr K C_Tree "following")(a_Tree_number:NoAttr K C_Tree "number")(a_Tree_thing:NoAttr K C_Tree "thing")(a_Tree_rights:NoAttr K C_Tree "rights")(a_Tree_giver:NoAttr K C_Tree "giver")(a_Tree_holder:NoAttr K C_Tree "holder")(a_Handle_handles:NoAttr K C_Handle "handles")(a_Handle_offspring:NoAttr K C_Handle "offspring")(a_Handle_following:NoAttr K C_Handle "following")(a_Handle_number:NoAttr K C_Handle "number")(a_Handle_thing:NoAttr K C_Handle "thing")(a_Handle_rights:NoAttr K C_Handle "rights")(a_Handle_giver:NoAttr K C_Handle "giver")(a_Handle_holder:NoAttr K C_Handle "holder")(xa:Zm8 K [C_Empty,C_Full,C_Lacks,C_NoHandle,C_NoRights,C_NoTask,C_NoThing,C_Taken,C_TooMany]=true)(cp:ZkI K C_PassError [C_Empty,C_Full,C_Lacks,C_NoHandle,C_NoRights,C_NoTask,C_NoThing,C_Taken,C_TooMany]=true)(ra:Zrl K [C_NoHandle,C_TooMany]=true)(ks:Zqo K [C_Empty,C_Full,C_Lacks,C_NoHandle,C_NoRights,C_NoTask,C_NoThing,C_Taken,C_TooMany] [C_Empty,C_Full,C_Lacks,C_NoHandle,C_NoRights,C_NoTask,C_NoThing,C_Taken,C_TooMany]=true)(kv:Zq1 K [C_Empty,C_Full,C_Lacks,C_NoHandle,C_NoRights,C_NoTask,C_NoThing,C_Taken,C_TooMany] (.type "ValueError") true=true)(nd:ndA [C_Empty,C_Full,C_Lacks,C_NoHandle,C_NoRights,C_NoTask,C_NoThing,C_Taken,C_TooMany]=true)(iN:ZsL K C_Lacks "missing"=true)(bs:BaseOk K C_PassError)(xN:InX K C_Lacks "Lacks.__init__" ZbS)(mkT:MkX K C_Tree "Tree.__init__" Zb4)(mkH:MkX K C_Handle "Handle.__init__" Zbz)(m_keeps:Zi7 K C_Tree "keeps" "Tree.keeps" Zb3)(m_need_kept:Zi7 K C_Tree "need_kept" "Tree.need_kept" Zbc)(m_need_room_below:Zi7 K C_Tree "need_room_below" "Tree.need_room_below" ZaE)(m_keep:Zi7 K C_Tree "keep" "Tree.keep" Zcv)(m_rooted:Zi7 K C_Tree "rooted" "Tree.rooted" ZbM)(m_derived:Zi7 K C_Tree "derived" "Tree.derived" ZbA)(m_handle:Zi7 K C_Tree "handle" "Tree.handle" ZbL)(m_held:Zi7 K C_Tree "held" "Tree.held" Zch)(m_below:Zi7 K C_Tree "below" "Tree.below" ZbE)(m_chain:Zi7 K C_Tree "chain" "Tree.chain" Zb5)(m_cut:Zi7 K C_Tree "cut" "Tree.cut" ZcX)(m_kept:Zi7 K C_Tree "kept" "Tree.kept" Zci) :
  ∃ fd:FuncData,(∀ (s:Shared) (u:Value),BindsTo s fd ⟨[u],[]⟩ [("_law_script",u)])∧∀ base:Heap,K.In base→base.Ns mainGlobals mg→FnOk P w K mg base CX0 54 fa fd ["_law_script"] (ZgH K):=by
 obtain ⟨C,hC⟩:∃ C:Cs,C=⟨C_Empty,C_Full,C_Lacks,C_NoHandle,C_NoRights,C_NoTask,C_NoThing,C_Taken,C_TooMany,C_PassError,C_Tree,C_Handle⟩:=⟨_,rfl⟩
 have hl:C.l=[C_Empty,C_Full,C_Lacks,C_NoHandle,C_NoRights,C_NoTask,C_NoThing,C_Taken,C_TooMany]:=by subst hC; rfl
 have hT:∀ c A,T0 C c=some A→A=C_Tree∨A=C_Handle:=fun c A e=>by
  subst hC
  have e:(if c="Tree" then some C_Tree else if c="Handle" then some C_Handle else none)=some A:=e
  split at e
  ·cases e; exact .inl rfl
  ·split at e
   ·cases e; exact .inr rfl
   ·cases e
 have hX:∀ c A,(T0 C).x c=some A→A∈[C_Empty,C_Full,C_Lacks,C_NoHandle,C_NoRights,C_NoTask,C_NoThing,C_Taken,C_TooMany]:=fun c A e=>by rw [← hl]; exact Zng e
 have hI:Zfo K (T0 C):=fun c A e=>by
  rcases hT c A e with rfl | rfl
  ·exact i_Tree
  ·exact i_Handle
 have hE:ZmC K (T0 C):=fun c A e=>⟨by subst hC; exact Zue e,Zhj xa (hX c A e)⟩
 have f_handles:Zcn K (T0 C) "handles":=fun c A e=>by
  rcases hT c A e with rfl | rfl
  ·exact ⟨i_Tree.cl,a_Tree_handles⟩
  ·exact ⟨i_Handle.cl,a_Handle_handles⟩
 have f_offspring:Zcn K (T0 C) "offspring":=fun c A e=>by
  rcases hT c A e with rfl | rfl
  ·exact ⟨i_Tree.cl,a_Tree_offspring⟩
  ·exact ⟨i_Handle.cl,a_Handle_offspring⟩
 have f_following:Zcn K (T0 C) "following":=fun c A e=>by
  rcases hT c A e with rfl | rfl
  ·exact ⟨i_Tree.cl,a_Tree_following⟩
  ·exact ⟨i_Handle.cl,a_Handle_following⟩
 have f_number:Zcn K (T0 C) "number":=fun c A e=>by
  rcases hT c A e with rfl | rfl
  ·exact ⟨i_Tree.cl,a_Tree_number⟩
  ·exact ⟨i_Handle.cl,a_Handle_number⟩
 have f_thing:Zcn K (T0 C) "thing":=fun c A e=>by
  rcases hT c A e with rfl | rfl
  ·exact ⟨i_Tree.cl,a_Tree_thing⟩
  ·exact ⟨i_Handle.cl,a_Handle_thing⟩
 have f_rights:Zcn K (T0 C) "rights":=fun c A e=>by
  rcases hT c A e with rfl | rfl
  ·exact ⟨i_Tree.cl,a_Tree_rights⟩
  ·exact ⟨i_Handle.cl,a_Handle_rights⟩
 have f_giver:Zcn K (T0 C) "giver":=fun c A e=>by
  rcases hT c A e with rfl | rfl
  ·exact ⟨i_Tree.cl,a_Tree_giver⟩
  ·exact ⟨i_Handle.cl,a_Handle_giver⟩
 have f_holder:Zcn K (T0 C) "holder":=fun c A e=>by
  rcases hT c A e with rfl | rfl
  ·exact ⟨i_Tree.cl,a_Tree_holder⟩
  ·exact ⟨i_Handle.cl,a_Handle_holder⟩
 have nd':([C_Empty,C_Full,C_Lacks,C_NoHandle,C_NoRights,C_NoTask,C_NoThing,C_Taken,C_TooMany]:List Addr).Nodup:=of_decide_eq_true nd
 rw [← hl] at nd'
 have hm:∀ i,i<9→C.l.getD i 0∈C.l:=fun i hi=>by
  have h:i<C.l.length:=hi
  rw [List.getD_eq_getElem?_getD,List.getElem?_eq_getElem h]
  exact List.getElem_mem h
 have hK:ZmB K (T0 C) Za4:=by
  intro e he
  unfold Za4 at he
  rcases List.mem_append.mp he with he | he
  ·simp only [ZqA,List.mem_cons,List.not_mem_nil,or_false] at he
   rcases he with rfl | rfl | rfl | rfl | rfl | rfl | rfl | rfl | rfl | rfl | rfl | rfl | rfl | rfl | rfl | rfl | rfl | rfl | rfl | rfl | rfl | rfl | rfl | rfl | rfl | rfl | rfl | rfl | rfl | rfl
   ·exact ⟨_,_,rfl,rfl,kt0⟩
   ·exact ⟨_,_,rfl,rfl,kt1⟩
   ·exact ⟨_,_,rfl,rfl,kt2⟩
   ·exact ⟨_,_,rfl,rfl,kt3⟩
   ·exact ⟨_,_,rfl,rfl,kt4⟩
   ·exact ⟨_,_,rfl,rfl,kt5⟩
   ·exact ⟨_,_,rfl,rfl,kt6⟩
   ·exact ⟨_,_,rfl,rfl,kt7⟩
   ·exact ⟨_,_,rfl,rfl,kt8⟩
   ·exact ⟨_,_,rfl,rfl,kt9⟩
   ·exact ⟨_,_,rfl,rfl,kt10⟩
   ·exact ⟨_,_,rfl,rfl,kt11⟩
   ·exact ⟨_,_,rfl,rfl,kt12⟩
   ·exact ⟨_,_,rfl,rfl,kt13⟩
   ·exact ⟨_,_,rfl,rfl,kt14⟩
   ·exact ⟨_,_,rfl,rfl,kt15⟩
   ·exact ⟨_,_,rfl,rfl,kt16⟩
   ·exact ⟨_,_,rfl,rfl,kt17⟩
   ·exact ⟨_,_,rfl,rfl,kt18⟩
   ·exact ⟨_,_,rfl,rfl,kt19⟩
   ·exact ⟨_,_,rfl,rfl,kt20⟩
   ·exact ⟨_,_,rfl,rfl,kt21⟩
   ·exact ⟨_,_,rfl,rfl,kt22⟩
   ·exact ⟨_,_,rfl,rfl,kt23⟩
   ·exact ⟨_,_,rfl,rfl,kt24⟩
   ·exact ⟨_,_,rfl,rfl,kt25⟩
   ·exact ⟨_,_,rfl,rfl,kt26⟩
   ·exact ⟨_,_,rfl,rfl,kt27⟩
   ·exact ⟨_,_,rfl,rfl,kt28⟩
   ·exact ⟨_,_,rfl,rfl,kt29⟩
  ·unfold Ztv at he
   obtain ⟨i,hi,he⟩:=List.mem_flatMap.mp he
   have hi:=List.mem_range.mp hi
   rcases List.mem_cons.mp he with rfl | he
   ·exact ⟨_,_,⟨_,(x_i C i hi).2,rfl⟩,rfl,by rw [← hl] at kv; exact ZlA kv (hm i hi)⟩
   obtain ⟨j,hj,rfl⟩:=List.mem_map.mp he
   have hj:=List.mem_range.mp hj
   refine ⟨_,_,⟨_,(x_i C i hi).2,rfl⟩,⟨_,(x_i C j hj).2,rfl⟩,?_⟩
   rw [← hl] at ks
   rw [ZkN ks (hm i hi) (hm j hj)]
   have hi':i<C.l.length:=hi
   have hj':j<C.l.length:=hj
   congr 1
   rw [Bool.eq_iff_iff]
   simp only [beq_iff_eq,List.getD_eq_getElem?_getD,List.getElem?_eq_getElem hi',List.getElem?_eq_getElem hj',Option.getD_some]
   constructor
   ·intro q; exact (List.getElem_inj nd').mp q
   ·intro q; subst q; rfl
 have gc:∀ {x:Str} {A:Addr},PySem.W.nsIn K mainGlobals x=some (some (.ref A))→GC mg x (.ref A):=fun o=>gc_mk KX G o rfl
 have T:Tx K mg C:=⟨n0,n1,n2,n3,n4,n5,n6,n7,n8,n9,n10,n11,n12,n13,c0,hI,hE,hK,f_handles,f_offspring,f_following,f_number,f_thing,f_rights,f_giver,f_holder,⟨C_NoHandle,by subst hC; rfl,PySem.W.mg_of KX G o_NoHandle,ZiE ra (by simp)⟩,⟨C_TooMany,by subst hC; rfl,PySem.W.mg_of KX G o_TooMany,ZiE ra (by simp)⟩,Zp6 cp (PySem.W.mg_of KX G o_PassError) (fun c A _ e=>hX c A e),fun A e=>by subst hC; have e:some C_Lacks=some A:=e; cases e; exact ⟨Zhj xa (by simp),(Zic iN).1.hd,(Zic iN).2⟩,by subst hC; exact gc o_Empty,by subst hC; rfl,by subst hC; exact gc o_Full,by subst hC; rfl,by subst hC; exact gc o_Lacks,by subst hC; rfl,by subst hC; exact gc o_NoHandle,by subst hC; rfl,by subst hC; exact gc o_NoRights,by subst hC; rfl,by subst hC; exact gc o_NoTask,by subst hC; rfl,by subst hC; exact gc o_NoThing,by subst hC; rfl,by subst hC; exact gc o_Taken,by subst hC; rfl,by subst hC; exact gc o_TooMany,by subst hC; rfl⟩
 have hc:T0 C "Tree"=some C_Tree:=by subst hC; rfl
 have hc2:T0 C "Handle"=some C_Handle:=by subst hC; rfl
 refine Zrf D15 hmg Zqg fun f fd F base=>?_
 obtain ⟨fN,dN,j1,j2,RN⟩:=xN
 have ZN:RzI P w K mg base (T0 C) 1 "Lacks" "missing":=⟨C_Lacks,fN,dN,_,by subst hC; rfl,PySem.W.mg_of KX G o_Lacks,(Zic iN).1.ei,j1,j2,Zrh (Zic iN).1 bs (PySem.W.mg_of KX G o_PassError) RN,RN.binds Zfn⟩
 obtain ⟨f_i,d_i,x_i',R_i⟩:=mkT
 obtain ⟨F_i,G_i,h_i⟩:=Zpo (P:=P) (w:=w) (base:=base) T R_i
 obtain ⟨f_hi,d_hi,x_hi,R_hi⟩:=mkH
 obtain ⟨F_hi,G_hi,h_hi⟩:=Zny (P:=P) (w:=w) (base:=base) T R_hi
 have KH:ZpW P w K mg base (T0 C) 1 "Handle" F_hi:=⟨C_Handle,f_hi,d_hi,_,hc2,PySem.W.mg_of KX G o_Handle,x_hi,G_hi,R_hi.binds ZeO⟩
 obtain ⟨F_nu,G_nu,h_nu⟩:=Zrb (P:=P) (w:=w) (base:=base) T D0
 obtain ⟨F_mi,G_mi,h_mi⟩:=ZrD (P:=P) (w:=w) (base:=base) T D1
 obtain ⟨F_wi,G_wi,h_wi⟩:=ZsN (P:=P) (w:=w) (base:=base) T h_mi G_mi D2
 obtain ⟨f_keeps,d_keeps,x_keeps,R_keeps⟩:=m_keeps
 obtain ⟨F_keeps,G_keeps,h_keeps⟩:=Zmi (P:=P) (w:=w) (base:=base) T h_nu G_nu R_keeps
 obtain ⟨f_need_kept,d_need_kept,x_need_kept,R_need_kept⟩:=m_need_kept
 obtain ⟨F_need_kept,G_need_kept,h_need_kept⟩:=Zmb (P:=P) (w:=w) (base:=base) T h_keeps (Zea ⟨C_Tree,f_keeps,d_keeps,_,hc,x_keeps,G_keeps,R_keeps.binds Zgj⟩) R_need_kept
 have Mn:=Zca (P:=P) (w:=w) (mg:=mg) (base:=base) (C:=C) ⟨C_Tree,f_need_kept,d_need_kept,_,hc,x_need_kept,G_need_kept,R_need_kept.binds Zd9⟩
 obtain ⟨f_chain,d_chain,x_chain,R_chain⟩:=m_chain
 obtain ⟨F_chain,G_chain,h_chain⟩:=Zmu (P:=P) (w:=w) (base:=base) T h_need_kept Mn R_chain
 obtain ⟨f_need_room_below,d_need_room_below,x_need_room_below,R_need_room_below⟩:=m_need_room_below
 obtain ⟨F_need_room_below,G_need_room_below,h_need_room_below⟩:=Zpb (P:=P) (w:=w) (base:=base) T h_chain (Zca ⟨C_Tree,f_chain,d_chain,_,hc,x_chain,G_chain,R_chain.binds ZdL⟩) R_need_room_below
 obtain ⟨f_handle,d_handle,x_handle,R_handle⟩:=m_handle
 obtain ⟨F_handle,G_handle,h_handle⟩:=Zku (P:=P) (w:=w) (base:=base) T h_need_kept h_hi Mn KH R_handle
 obtain ⟨f_held,d_held,x_held,R_held⟩:=m_held
 obtain ⟨F_held,G_held,h_held⟩:=Zoy (P:=P) (w:=w) (base:=base) T h_need_kept Mn R_held
 obtain ⟨f_kept,d_kept,x_kept,R_kept⟩:=m_kept
 obtain ⟨F_kept,G_kept,h_kept⟩:=ZnU (P:=P) (w:=w) (base:=base) T R_kept
 obtain ⟨f_keep,d_keep,x_keep,R_keep⟩:=m_keep
 obtain ⟨F_keep,G_keep,h_keep⟩:=Zph (P:=P) (w:=w) (base:=base) T h_hi KH R_keep
 obtain ⟨f_rooted,d_rooted,x_rooted,R_rooted⟩:=m_rooted
 obtain ⟨F_rooted,G_rooted,h_rooted⟩:=Zlj (P:=P) (w:=w) (base:=base) T h_keep (Zea ⟨C_Tree,f_keep,d_keep,_,hc,x_keep,G_keep,R_keep.binds Zee⟩) R_rooted
 obtain ⟨f_derived,d_derived,x_derived,R_derived⟩:=m_derived
 obtain ⟨F_derived,G_derived,h_derived⟩:=Zjh (P:=P) (w:=w) (base:=base) T ZN h_handle h_wi h_mi h_need_room_below h_keep (Zca ⟨C_Tree,f_handle,d_handle,_,hc,x_handle,G_handle,R_handle.binds Zc2⟩) G_wi G_mi (Zca ⟨C_Tree,f_need_room_below,d_need_room_below,_,hc,x_need_room_below,G_need_room_below,R_need_room_below.binds Zcq⟩) (Zea ⟨C_Tree,f_keep,d_keep,_,hc,x_keep,G_keep,R_keep.binds Zee⟩) R_derived
 obtain ⟨f_below,d_below,x_below,R_below⟩:=m_below
 obtain ⟨F_below,G_below,h_below⟩:=Zhc (P:=P) (w:=w) (base:=base) T h_need_kept Mn R_below (fun k F G=>Zca ⟨C_Tree,f_below,d_below,_,hc,x_below,G,R_below.binds Zcp⟩) 46
 obtain ⟨f_cut,d_cut,x_cut,R_cut⟩:=m_cut
 obtain ⟨F_cut,G_cut,h_cut⟩:=Zrd (P:=P) (w:=w) (base:=base) T h_below (Zca ⟨C_Tree,f_below,d_below,_,hc,x_below,G_below,R_below.binds Zcp⟩) R_cut
 obtain ⟨F_mx,G_mx,h_mx⟩:=ZmL (P:=P) (w:=w) (base:=base) T D4
 obtain ⟨F_al,G_al,h_al,p_al⟩:=Znl (P:=P) (w:=w) (base:=base) T D5 4
 obtain ⟨F_wo,G_wo,h_wo⟩:=ZnS (P:=P) (w:=w) (base:=base) T D6
 obtain ⟨F_td,G_td,h_td⟩:=ZlL (d:=45) (P:=P) (w:=w) (base:=base) T h_rooted h_derived h_held h_cut h_below h_chain h_handle h_wo (Zea ⟨C_Tree,f_rooted,d_rooted,_,hc,x_rooted,G_rooted,R_rooted.binds Zc4⟩) (Zca ⟨C_Tree,f_derived,d_derived,_,hc,x_derived,G_derived,R_derived.binds Zff⟩) (Zca ⟨C_Tree,f_held,d_held,_,hc,x_held,G_held,R_held.binds Zg6⟩) (Zca ⟨C_Tree,f_cut,d_cut,_,hc,x_cut,G_cut,R_cut.binds Zfg⟩) (Zca ⟨C_Tree,f_below,d_below,_,hc,x_below,G_below,R_below.binds Zcp⟩) (Zca ⟨C_Tree,f_chain,d_chain,_,hc,x_chain,G_chain,R_chain.binds ZdL⟩) (Zca ⟨C_Tree,f_handle,d_handle,_,hc,x_handle,G_handle,R_handle.binds Zc2⟩) G_wo D7
 obtain ⟨F_lk,G_lk,h_lk⟩:=Zn2 (P:=P) (w:=w) (base:=base) T D10
 obtain ⟨F_lc,G_lc,h_lc⟩:=Zla (P:=P) (w:=w) (base:=base) T D9
 obtain ⟨F_du,G_du,h_du⟩:=Zos (P:=P) (w:=w) (base:=base) T h_lk h_lc G_lk (Zlv (k:=1) D8 Zi0) G_lc D11
 obtain ⟨F_ce,G_ce,h_ce⟩:=ZpJ (P:=P) (w:=w) (base:=base) T D3
 obtain ⟨F_co,G_co,h_co⟩:=Zj4 (P:=P) (w:=w) (base:=base) T D13
 obtain ⟨F_bu,G_bu,h_bu⟩:=Zmy (P:=P) (w:=w) (base:=base) T h_rooted h_mx h_co h_du h_td h_al (Zea ⟨C_Tree,f_rooted,d_rooted,_,hc,x_rooted,G_rooted,R_rooted.binds Zc4⟩) G_mx G_co G_du G_td G_al D14
 obtain ⟨F_od,G_od,h_od⟩:=Zp1 (P:=P) (w:=w) (base:=base) T h_al h_td G_al G_td D12
 exact (Zrg T F h_i h_mx h_ce h_bu h_td h_du h_od h_lk h_al h_kept h_cut ⟨C_Tree,f_i,d_i,_,hc,PySem.W.mg_of KX G o_Tree,x_i',G_i,R_i.binds Zgo⟩ G_mx G_ce G_bu G_td G_du G_od G_lk G_al (Zea ⟨C_Tree,f_kept,d_kept,_,hc,x_kept,G_kept,R_kept.binds Zg2⟩) (Zca ⟨C_Tree,f_cut,d_cut,_,hc,x_cut,G_cut,R_cut.binds Zfg⟩)).imp (Zoo hNL)
end
end K33
namespace PySem.W.Fast
def tw1225289847838715306:Nat:=0
def tw5758554836585881324:Nat:=0
def tw7686707687603002471:Nat:=0
def tw9268268052781233225:Nat:=0
def tw13728389424437124352:Nat:=0
def tw15704103371944817595:Nat:=0
def tw8354156194489402298:Nat:=0
def tw18278603221540215664:Nat:=0
def tw9031661943904034869:Nat:=0
def tw11793944949618324881:Nat:=0
def tw1157574359217221338:Nat:=0
def tw4584640250066460347:Nat:=0
def tw1717061186064619616:Nat:=0
def tw15248448829811211654:Nat:=0
def tw13971508489599719910:Nat:=0
def tw5181656294992566415:Nat:=0
def tw7775878084879395466:Nat:=0
def tw3355846515237518532:Nat:=0
def tw13036050368203645943:Nat:=0
def tw12275737234534771607:Nat:=0
def tw699377423718095506:Nat:=0
def tw17641603754840221571:Nat:=0
def tw3126607440443639774:Nat:=0
def tw6656377687130889756:Nat:=0
def tw2382379911063652594:Nat:=0
def tw2301668043330913184:Nat:=0
def tw13548114071317785079:Nat:=0
def tw11536747219451598733:Nat:=0
def tw6349269591192988801:Nat:=0
def tw17189447594595543707:Nat:=0
def tw3834527974796074628:Nat:=0
def tw10067037799933765704:Nat:=0
def tw13959273132672560926:Nat:=0
def tw17079380034965670381:Nat:=0
def tw12226876402443696633:Nat:=0
def tw9404721781131451084:Nat:=0
def tw1777934705598239602:Nat:=0
def tw2238466271774214:Nat:=0
def tw6892190678496236183:Nat:=0
def tw15984066307600064041:Nat:=0
def tw8449872174203618840:Nat:=0
def tw9713766701716223743:Nat:=0
def tw13416203170286292822:Nat:=0
def tw7764510163477471582:Nat:=0
def tw330031184262042505:Nat:=0
def tw627291476142528351:Nat:=0
def tw18346231863901169714:Nat:=0
def tw18044318352520567518:Nat:=0
def tw4037580417497665764:Nat:=0
def tw12852405433663801447:Nat:=0
def tw12295570909821186526:Nat:=0
def tw1280499903648406887:Nat:=0
def tw13637640141156517897:Nat:=0
def tw4314336519538410160:Nat:=0
def tw17961280913997394944:Nat:=0
def tw10342189204893788900:Nat:=0
def tw11453378877236737767:Nat:=0
def tw16670478238454894180:Nat:=0
def tw3026322238698254688:Nat:=0
def tw9524857659083489617:Nat:=0
def tw4691692093554270703:Nat:=0
def tw9674653959299721147:Nat:=0
def tw12122109595677163088:Nat:=0
def tw1855044536790091255:Nat:=0
def tw9256406729872734271:Nat:=0
def tw9458192504848704549:Nat:=0
def tw11384882503413546524:Nat:=0
def tw1170708710403156132:Nat:=0
def tw7385182964141400408:Nat:=0
def tw12083471392918281637:Nat:=0
def tw3024234818626361030:Nat:=0
def tw18079092453999573304:Nat:=0
def tw15237013782018549096:Nat:=0
def tw11777647391290232249:Nat:=0
def tw13857780719160638537:Nat:=0
def tw11210797800371165433:Nat:=0
def tw2798517495767362840:Nat:=0
def tw10561014771065713381:Nat:=0
def tw11230009545849286788:Nat:=0
def tw6891489581248501450:Nat:=0
def tw10353157246299127556:Nat:=0
def tw17325124593179175214:Nat:=0
def tw8183538778934445330:Nat:=0
def tw15213413491859830947:Nat:=0
def tw17663669258099751768:Nat:=0
def tw14991284857301144464:Nat:=0
def tw17999165356733468285:Nat:=0
def tw344314687322716608:Nat:=0
def tw5376942446750055246:Nat:=0
def tw590780831560083521:Nat:=0
def tw13990473081390212282:Nat:=0
def tw4871807960369598901:Nat:=0
def tw13201551884410587636:Nat:=0
def tw5915530557660340203:Nat:=0
def tw14894068171167715664:Nat:=0
def tw17514353080083569920:Nat:=0
def tw2200191449141218148:Nat:=0
def tw13719942830483907561:Nat:=0
def tw12619407028123715779:Nat:=0
def tw15965592748660682600:Nat:=0
def tw13256105909992871150:Nat:=0
def tw13044620374065787414:Nat:=0
def tw12766764158692998613:Nat:=0
def tw17906954251022047370:Nat:=0
def tw10076120679673078427:Nat:=0
def tw16087765698461610149:Nat:=0
def tw5099435243470697584:Nat:=0
def tw8486907743989307780:Nat:=0
def tw7522570105020588269:Nat:=0
def tw18311347354515959641:Nat:=0
def tw4959452901535194606:Nat:=0
def tw17281477903493945308:Nat:=0
def tw7275837932067490734:Nat:=0
def tw9160110069851567980:Nat:=0
def tw9797180969674106595:Nat:=0
def tw2345503286909816670:Nat:=0
def tw9065063816520339311:Nat:=0
def tw11539877159485801632:Nat:=0
def tw6564211124209696927:Nat:=0
def tw17111570561196870951:Nat:=0
def tw8198942594027364254:Nat:=0
def tw15282840626670577320:Nat:=0
def tw2452093024685433100:Nat:=0
def tw5541905088017809349:Nat:=0
def tw500370578805332624:Nat:=0
def tw5735106898097819839:Nat:=0
def tw11882036510217483590:Nat:=0
def tw16103206291835084545:Nat:=0
def tw10114779105658269845:Nat:=0
def tw14669821774797237825:Nat:=0
def tw9658388636829469790:Nat:=0
def tw14208638627818136568:Nat:=0
def tw15948792728495656258:Nat:=0
def tw18362147019948306365:Nat:=0
def tw15363163554577571077:Nat:=0
def tw13870030213092635462:Nat:=0
def tw17429758030032001262:Nat:=0
def tw12862913958152235140:Nat:=0
def tw18338064146381488565:Nat:=0
def tw4132982629964834726:Nat:=0
def tw14308997132650266409:Nat:=0
def tw10294967092613818554:Nat:=0
def tw15563860835727865938:Nat:=0
def tw5785200900679092593:Nat:=0
def tw12640862865824212227:Nat:=0
def tw13982644471666786577:Nat:=0
def tw9396382684620252555:Nat:=0
def tw17770135862828328882:Nat:=0
def tw5258193663477599693:Nat:=0
def tw10429485484822154190:Nat:=0
def tw5195742418305987177:Nat:=0
def tw2147384939245338001:Nat:=0
def tw3087589151872966247:Nat:=0
def tw286735264702885755:Nat:=0
def tw9274340820698493738:Nat:=0
def tw13267867508275515026:Nat:=0
def tw11651724934623824061:Nat:=0
def tw15517850525032331425:Nat:=0
def tw6956801119315300336:Nat:=0
def tw15279207283502056469:Nat:=0
def tw10231297239728148211:Nat:=0
def tw4556546999123796515:Nat:=0
def tw5471924379013753097:Nat:=0
def tw4189555173872793514:Nat:=0
def tw14558944992675475:Nat:=0
def tw11758621048019766354:Nat:=0
def tw3736150297257276099:Nat:=0
def tw17333581382480986650:Nat:=0
def tw14027777412089563083:Nat:=0
def tw11443799190509473205:Nat:=0
def tw3107219373741697253:Nat:=0
def tw10056328663988046323:Nat:=0
def tw13593410441484131368:Nat:=0
def tw6381705021860198439:Nat:=0
def tw3490328261699824021:Nat:=0
def tw5552347229617390818:Nat:=0
def tw8721398670409556775:Nat:=0
def tw15281430849673252701:Nat:=0
def tw2081285695643509486:Nat:=0
def tw4372220178150056640:Nat:=0
def tw17071266364222410745:Nat:=0
def tw16379786720889728655:Nat:=0
def tw14956101274448719938:Nat:=0
def tw16147238567377841995:Nat:=0
def tw4741509294766655351:Nat:=0
def tw17093920463506282433:Nat:=0
def tw8103766921797808437:Nat:=0
def tw18406482009807818592:Nat:=0
def tw1300096928783835745:Nat:=0
def tw3924300427572985365:Nat:=0
def tw7714407570244571738:Nat:=0
def tw15199966719465434201:Nat:=0
def tw8049818608979419832:Nat:=0
def tw10860870811830339278:Nat:=0
def tw12635110090841723529:Nat:=0
def tw10563581838582580334:Nat:=0
def tw5079598294749999627:Nat:=0
def tw12880974066904443783:Nat:=0
def tw2649337365767958210:Nat:=0
def tw17092372060951404742:Nat:=0
def tw1863989331522695414:Nat:=0
def tw11729699065441872774:Nat:=0
def tw16473802704215070597:Nat:=0
def tw838277218139380753:Nat:=0
def tw1169943477367681242:Nat:=0
def tw18147884988901233139:Nat:=0
def tw14310773267992805632:Nat:=0
def tw12563973985320690667:Nat:=0
def tw14696639416185334099:Nat:=0
def tw13030032846493674372:Nat:=0
def tw1900514467431802882:Nat:=0
def tw5429046544957944349:Nat:=0
def tw7872375253592997960:Nat:=0
def tw14608928521022056495:Nat:=0
def tw3105611909486680925:Nat:=0
def tw11532157005482111486:Nat:=0
def tw5396526700536826831:Nat:=0
def tw8247584355032595549:Nat:=0
def tw2138804916311697728:Nat:=0
def tw8701162790907782563:Nat:=0
end PySem.W.Fast
open PySem PySem.W PyProof.Rows
set_option maxRecDepth 100000 in
set_option maxHeartbeats 0 in
theorem PySem.Challenge.cw_passkeep_k33_handles_refused_holds : PySem.Challenge.rw_passkeep_k33_handles_refused.Holds := by
 w_on; o_law; k_head; (case hw=>w_witness2)
 k_fill
 refine L2.walk0 (l:=PySem.Challenge.rw_passkeep_k33_handles_refused) (k:=54) (x:="_law_script") rfl rfl ⟨by decide,by decide⟩ (fun w h Y=>PySem.W.kIn_of Y) ?F
 case F=>
  intro w mg fa h KX G hmg
  have hNL:M.noList (L2.KOf KX)=true:=by dsimp only [L2.KOf]; kernel_rfl
  have D_is_number:L2.DefAt (L2.KOf KX) mg "is_number" K33.s_is_number:=by
   dsimp only [L2.KOf]; refine' L2.def_mk KX G ?a ?l ?c ?k; (case a=>k_is); (case l=>k_is); (case c=>k_is); (case k=>k_is)
  have D_missing:L2.DefAt (L2.KOf KX) mg "missing" K33.s_missing:=by
   dsimp only [L2.KOf]; refine' L2.def_mk KX G ?a ?l ?c ?k; (case a=>k_is); (case l=>k_is); (case c=>k_is); (case k=>k_is)
  have D_within:L2.DefAt (L2.KOf KX) mg "within" K33.s_within:=by
   dsimp only [L2.KOf]; refine' L2.def_mk KX G ?a ?l ?c ?k; (case a=>k_is); (case l=>k_is); (case c=>k_is); (case k=>k_is)
  have D_l_cell_at:L2.DefAt (L2.KOf KX) mg "_law_cell_at" K33.s_l_cell_at:=by
   dsimp only [L2.KOf]; refine' L2.def_mk KX G ?a ?l ?c ?k; (case a=>k_is); (case l=>k_is); (case c=>k_is); (case k=>k_is)
  have D_l_mixed:L2.DefAt (L2.KOf KX) mg "_law_mixed" K33.s_l_mixed:=by
   dsimp only [L2.KOf]; refine' L2.def_mk KX G ?a ?l ?c ?k; (case a=>k_is); (case l=>k_is); (case c=>k_is); (case k=>k_is)
  have D_l_alike:L2.DefAt (L2.KOf KX) mg "_law_alike" K33.s_l_alike:=by
   dsimp only [L2.KOf]; refine' L2.def_mk KX G ?a ?l ?c ?k; (case a=>k_is); (case l=>k_is); (case c=>k_is); (case k=>k_is)
  have D_l_word:L2.DefAt (L2.KOf KX) mg "_law_word" K33.s_l_word:=by
   dsimp only [L2.KOf]; refine' L2.def_mk KX G ?a ?l ?c ?k; (case a=>k_is); (case l=>k_is); (case c=>k_is); (case k=>k_is)
  have D_l_tree_deed:L2.DefAt (L2.KOf KX) mg "_law_tree_deed" K33.s_l_tree_deed:=by
   dsimp only [L2.KOf]; refine' L2.def_mk KX G ?a ?l ?c ?k; (case a=>k_is); (case l=>k_is); (case c=>k_is); (case k=>k_is)
  have D_l_below:L2.DefAt (L2.KOf KX) mg "_law_below" K33.s_l_below:=by
   dsimp only [L2.KOf]; refine' L2.def_mk KX G ?a ?l ?c ?k; (case a=>k_is); (case l=>k_is); (case c=>k_is); (case k=>k_is)
  have D_l_chain:L2.DefAt (L2.KOf KX) mg "_law_chain" K33.s_l_chain:=by
   dsimp only [L2.KOf]; refine' L2.def_mk KX G ?a ?l ?c ?k; (case a=>k_is); (case l=>k_is); (case c=>k_is); (case k=>k_is)
  have D_l_lacking:L2.DefAt (L2.KOf KX) mg "_law_lacking" K33.s_l_lacking:=by
   dsimp only [L2.KOf]; refine' L2.def_mk KX G ?a ?l ?c ?k; (case a=>k_is); (case l=>k_is); (case c=>k_is); (case k=>k_is)
  have D_l_due:L2.DefAt (L2.KOf KX) mg "_law_due" K33.s_l_due:=by
   dsimp only [L2.KOf]; refine' L2.def_mk KX G ?a ?l ?c ?k; (case a=>k_is); (case l=>k_is); (case c=>k_is); (case k=>k_is)
  have D_l_odd:L2.DefAt (L2.KOf KX) mg "_law_odd" K33.s_l_odd:=by
   dsimp only [L2.KOf]; refine' L2.def_mk KX G ?a ?l ?c ?k; (case a=>k_is); (case l=>k_is); (case c=>k_is); (case k=>k_is)
  have D_l_common:L2.DefAt (L2.KOf KX) mg "_law_common" K33.s_l_common:=by
   dsimp only [L2.KOf]; refine' L2.def_mk KX G ?a ?l ?c ?k; (case a=>k_is); (case l=>k_is); (case c=>k_is); (case k=>k_is)
  have D_l_built:L2.DefAt (L2.KOf KX) mg "_law_built" K33.s_l_built:=by
   dsimp only [L2.KOf]; refine' L2.def_mk KX G ?a ?l ?c ?k; (case a=>k_is); (case l=>k_is); (case c=>k_is); (case k=>k_is)
  have D_law:L2.DefAt (L2.KOf KX) mg "law" K33.s_law:=by
   dsimp only [L2.KOf]; refine' L2.def_mk KX G ?a ?l ?c ?k; (case a=>k_is); (case l=>k_is); (case c=>k_is); (case k=>k_is)
  have N_isinstance:mg "isinstance"=none:=PySem.W.mg_none_of KX G (by k_is)
  have N_int:mg "int"=none:=PySem.W.mg_none_of KX G (by k_is)
  have N_bool:mg "bool"=none:=PySem.W.mg_none_of KX G (by k_is)
  have N_len:mg "len"=none:=PySem.W.mg_none_of KX G (by k_is)
  have N_list:mg "list"=none:=PySem.W.mg_none_of KX G (by k_is)
  have N_reversed:mg "reversed"=none:=PySem.W.mg_none_of KX G (by k_is)
  have N_sorted:mg "sorted"=none:=PySem.W.mg_none_of KX G (by k_is)
  have N_str:mg "str"=none:=PySem.W.mg_none_of KX G (by k_is)
  have N_tuple:mg "tuple"=none:=PySem.W.mg_none_of KX G (by k_is)
  have N_ValueError:mg "ValueError"=none:=PySem.W.mg_none_of KX G (by k_is)
  have N_range:mg "range"=none:=PySem.W.mg_none_of KX G (by k_is)
  have N_min:mg "min"=none:=PySem.W.mg_none_of KX G (by k_is)
  have N_all:mg "all"=none:=PySem.W.mg_none_of KX G (by k_is)
  have N_sum:mg "sum"=none:=PySem.W.mg_none_of KX G (by k_is)
  have k_NoneType_int:PySem.W.kitOne (L2.KOf KX) (.type "NoneType") (.type "int")=some false:=by dsimp only [L2.KOf]; kit_is
  have k_bool_int:PySem.W.kitOne (L2.KOf KX) (.type "bool") (.type "int")=some true:=by dsimp only [L2.KOf]; kit_is
  have k_int_int:PySem.W.kitOne (L2.KOf KX) (.type "int") (.type "int")=some true:=by dsimp only [L2.KOf]; kit_is
  have k_str_int:PySem.W.kitOne (L2.KOf KX) (.type "str") (.type "int")=some false:=by dsimp only [L2.KOf]; kit_is
  have k_list_int:PySem.W.kitOne (L2.KOf KX) (.type "list") (.type "int")=some false:=by dsimp only [L2.KOf]; kit_is
  have k_tuple_int:PySem.W.kitOne (L2.KOf KX) (.type "tuple") (.type "int")=some false:=by dsimp only [L2.KOf]; kit_is
  have k_NoneType_bool:PySem.W.kitOne (L2.KOf KX) (.type "NoneType") (.type "bool")=some false:=by dsimp only [L2.KOf]; kit_is
  have k_bool_bool:PySem.W.kitOne (L2.KOf KX) (.type "bool") (.type "bool")=some true:=by dsimp only [L2.KOf]; kit_is
  have k_int_bool:PySem.W.kitOne (L2.KOf KX) (.type "int") (.type "bool")=some false:=by dsimp only [L2.KOf]; kit_is
  have k_str_bool:PySem.W.kitOne (L2.KOf KX) (.type "str") (.type "bool")=some false:=by dsimp only [L2.KOf]; kit_is
  have k_list_bool:PySem.W.kitOne (L2.KOf KX) (.type "list") (.type "bool")=some false:=by dsimp only [L2.KOf]; kit_is
  have k_tuple_bool:PySem.W.kitOne (L2.KOf KX) (.type "tuple") (.type "bool")=some false:=by dsimp only [L2.KOf]; kit_is
  have k_NoneType_list:PySem.W.kitOne (L2.KOf KX) (.type "NoneType") (.type "list")=some false:=by dsimp only [L2.KOf]; kit_is
  have k_bool_list:PySem.W.kitOne (L2.KOf KX) (.type "bool") (.type "list")=some false:=by dsimp only [L2.KOf]; kit_is
  have k_int_list:PySem.W.kitOne (L2.KOf KX) (.type "int") (.type "list")=some false:=by dsimp only [L2.KOf]; kit_is
  have k_str_list:PySem.W.kitOne (L2.KOf KX) (.type "str") (.type "list")=some false:=by dsimp only [L2.KOf]; kit_is
  have k_list_list:PySem.W.kitOne (L2.KOf KX) (.type "list") (.type "list")=some true:=by dsimp only [L2.KOf]; kit_is
  have k_tuple_list:PySem.W.kitOne (L2.KOf KX) (.type "tuple") (.type "list")=some false:=by dsimp only [L2.KOf]; kit_is
  have k_NoneType_tuple:PySem.W.kitOne (L2.KOf KX) (.type "NoneType") (.type "tuple")=some false:=by dsimp only [L2.KOf]; kit_is
  have k_bool_tuple:PySem.W.kitOne (L2.KOf KX) (.type "bool") (.type "tuple")=some false:=by dsimp only [L2.KOf]; kit_is
  have k_int_tuple:PySem.W.kitOne (L2.KOf KX) (.type "int") (.type "tuple")=some false:=by dsimp only [L2.KOf]; kit_is
  have k_str_tuple:PySem.W.kitOne (L2.KOf KX) (.type "str") (.type "tuple")=some false:=by dsimp only [L2.KOf]; kit_is
  have k_list_tuple:PySem.W.kitOne (L2.KOf KX) (.type "list") (.type "tuple")=some false:=by dsimp only [L2.KOf]; kit_is
  have k_tuple_tuple:PySem.W.kitOne (L2.KOf KX) (.type "tuple") (.type "tuple")=some true:=by dsimp only [L2.KOf]; kit_is
  have k_NoneType_str:PySem.W.kitOne (L2.KOf KX) (.type "NoneType") (.type "str")=some false:=by dsimp only [L2.KOf]; kit_is
  have k_bool_str:PySem.W.kitOne (L2.KOf KX) (.type "bool") (.type "str")=some false:=by dsimp only [L2.KOf]; kit_is
  have k_int_str:PySem.W.kitOne (L2.KOf KX) (.type "int") (.type "str")=some false:=by dsimp only [L2.KOf]; kit_is
  have k_str_str:PySem.W.kitOne (L2.KOf KX) (.type "str") (.type "str")=some true:=by dsimp only [L2.KOf]; kit_is
  have k_list_str:PySem.W.kitOne (L2.KOf KX) (.type "list") (.type "str")=some false:=by dsimp only [L2.KOf]; kit_is
  have k_tuple_str:PySem.W.kitOne (L2.KOf KX) (.type "tuple") (.type "str")=some false:=by dsimp only [L2.KOf]; kit_is
  have c_LONGEST_CHAIN:L2.GC mg "LONGEST_CHAIN" (.int 40):=L2.gc_mk KX G (by k_is) ⟨_,rfl⟩
  refine' K33.fin KX G hmg hNL D_is_number D_missing D_within D_l_cell_at D_l_mixed D_l_alike D_l_word D_l_tree_deed D_l_below D_l_chain D_l_lacking D_l_due D_l_odd D_l_common D_l_built D_law N_isinstance N_int N_bool N_len N_list N_reversed N_sorted N_str N_tuple N_ValueError N_range N_min N_all N_sum k_NoneType_int k_bool_int k_int_int k_str_int k_list_int k_tuple_int k_NoneType_bool k_bool_bool k_int_bool k_str_bool k_list_bool k_tuple_bool k_NoneType_list k_bool_list k_int_list k_str_list k_list_list k_tuple_list k_NoneType_tuple k_bool_tuple k_int_tuple k_str_tuple k_list_tuple k_tuple_tuple k_NoneType_str k_bool_str k_int_str k_str_str k_list_str k_tuple_str c_LONGEST_CHAIN ?gg61 ?gg62 ?gg63 ?gg64 ?gg65 ?gg66 ?gg67 ?gg68 ?gg69 ?gg70 ?gg71 ?gg72 ?gg73 ?gg74 ?gg75 ?gg76 ?gg77 ?gg78 ?gg79 ?gg80 ?gg81 ?gg82 ?gg83 ?gg84 ?gg85 ?gg86 ?gg87 ?gg88 ?gg89 ?gg90 ?gg91 ?gg92 ?gg93 ?gg94 ?gg95 ?gg96 ?gg97 ?gg98 ?gg99 ?gg100 ?gg101 ?gg102 ?gg103 ?gg104 ?gg105 ?gg106 ?gg107 ?gg108 ?gg109 ?gg110 ?gg111 ?gg112 ?gg113
  (case gg61=>k_is)
  (case gg62=>k_is)
  (case gg63=>k_is)
  (case gg64=>k_is)
  (case gg65=>k_is)
  (case gg66=>k_is)
  (case gg67=>k_is)
  (case gg68=>k_is)
  (case gg69=>k_is)
  (case gg70=>k_is)
  (case gg71=>k_is)
  (case gg72=>k_is)
  (case gg73=>refine' M.ins_mk ?qa_73 ?qb_73 ?qc_73 ?qd_73 ?qe_73 ?qf_73 ?qg_73 ?qh_73; (case qa_73=>k_is); (case qb_73=>k_is); (case qc_73=>k_is); (case qd_73=>k_is); (case qe_73=>k_is); (case qf_73=>k_is); (case qg_73=>k_is); (case qh_73=>k_is))
  (case gg74=>refine' M.ins_mk ?qa_74 ?qb_74 ?qc_74 ?qd_74 ?qe_74 ?qf_74 ?qg_74 ?qh_74; (case qa_74=>k_is); (case qb_74=>k_is); (case qc_74=>k_is); (case qd_74=>k_is); (case qe_74=>k_is); (case qf_74=>k_is); (case qg_74=>k_is); (case qh_74=>k_is))
  (case gg75=>show PySem.W.findIn _ _ _=_; k_is)
  (case gg76=>show PySem.W.findIn _ _ _=_; k_is)
  (case gg77=>show PySem.W.findIn _ _ _=_; k_is)
  (case gg78=>show PySem.W.findIn _ _ _=_; k_is)
  (case gg79=>show PySem.W.findIn _ _ _=_; k_is)
  (case gg80=>show PySem.W.findIn _ _ _=_; k_is)
  (case gg81=>show PySem.W.findIn _ _ _=_; k_is)
  (case gg82=>show PySem.W.findIn _ _ _=_; k_is)
  (case gg83=>show PySem.W.findIn _ _ _=_; k_is)
  (case gg84=>show PySem.W.findIn _ _ _=_; k_is)
  (case gg85=>show PySem.W.findIn _ _ _=_; k_is)
  (case gg86=>show PySem.W.findIn _ _ _=_; k_is)
  (case gg87=>show PySem.W.findIn _ _ _=_; k_is)
  (case gg88=>show PySem.W.findIn _ _ _=_; k_is)
  (case gg89=>show PySem.W.findIn _ _ _=_; k_is)
  (case gg90=>show PySem.W.findIn _ _ _=_; k_is)
  (case gg91=>first | kernel_rfl | decide +kernel | (dsimp only [L2.KOf]; kernel_rfl) | (trace_state; k_is))
  (case gg92=>first | kernel_rfl | decide +kernel | (dsimp only [L2.KOf]; kernel_rfl) | (trace_state; k_is))
  (case gg93=>first | kernel_rfl | decide +kernel | (dsimp only [L2.KOf]; kernel_rfl) | (trace_state; k_is))
  (case gg94=>first | kernel_rfl | decide +kernel | (dsimp only [L2.KOf]; kernel_rfl) | (trace_state; k_is))
  (case gg95=>first | kernel_rfl | decide +kernel | (dsimp only [L2.KOf]; kernel_rfl) | (trace_state; k_is))
  (case gg96=>first | kernel_rfl | decide +kernel | (dsimp only [L2.KOf]; kernel_rfl) | (trace_state; k_is))
  (case gg97=>first | kernel_rfl | decide +kernel | (dsimp only [L2.KOf]; kernel_rfl) | (trace_state; k_is))
  (case gg98=>refine' M.basx ?qx_98 ?qy_98 ?qz_98 ?qw_98; (case qx_98=>k_is); (case qy_98=>k_is); (case qz_98=>k_is); (case qw_98=>k_is))
  (case gg99=>refine' M.inx ?qa_99 ?qi_99 ?ql_99 ?qc_99 ?qk_99; (case qa_99=>k_is); (case qi_99=>k_is); (case ql_99=>k_is); (case qc_99=>k_is); (case qk_99=>k_is))
  (case gg100=>refine' M.mkx ?qm_100 ?qn_100 ?qa_100 ?qi_100 ?ql_100 ?qc_100 ?qk_100; (case qm_100=>k_is); (case qn_100=>k_is); (case qa_100=>k_is); (case qi_100=>k_is); (case ql_100=>k_is); (case qc_100=>k_is); (case qk_100=>k_is))
  (case gg101=>refine' M.mkx ?qm_101 ?qn_101 ?qa_101 ?qi_101 ?ql_101 ?qc_101 ?qk_101; (case qm_101=>k_is); (case qn_101=>k_is); (case qa_101=>k_is); (case qi_101=>k_is); (case ql_101=>k_is); (case qc_101=>k_is); (case qk_101=>k_is))
  (case gg102=>refine' M.mthx ?qa_102 ?qi_102 ?ql_102 ?qc_102 ?qk_102; (case qa_102=>k_is); (case qi_102=>k_is); (case ql_102=>k_is); (case qc_102=>k_is); (case qk_102=>k_is))
  (case gg103=>refine' M.mthx ?qa_103 ?qi_103 ?ql_103 ?qc_103 ?qk_103; (case qa_103=>k_is); (case qi_103=>k_is); (case ql_103=>k_is); (case qc_103=>k_is); (case qk_103=>k_is))
  (case gg104=>refine' M.mthx ?qa_104 ?qi_104 ?ql_104 ?qc_104 ?qk_104; (case qa_104=>k_is); (case qi_104=>k_is); (case ql_104=>k_is); (case qc_104=>k_is); (case qk_104=>k_is))
  (case gg105=>refine' M.mthx ?qa_105 ?qi_105 ?ql_105 ?qc_105 ?qk_105; (case qa_105=>k_is); (case qi_105=>k_is); (case ql_105=>k_is); (case qc_105=>k_is); (case qk_105=>k_is))
  (case gg106=>refine' M.mthx ?qa_106 ?qi_106 ?ql_106 ?qc_106 ?qk_106; (case qa_106=>k_is); (case qi_106=>k_is); (case ql_106=>k_is); (case qc_106=>k_is); (case qk_106=>k_is))
  (case gg107=>refine' M.mthx ?qa_107 ?qi_107 ?ql_107 ?qc_107 ?qk_107; (case qa_107=>k_is); (case qi_107=>k_is); (case ql_107=>k_is); (case qc_107=>k_is); (case qk_107=>k_is))
  (case gg108=>refine' M.mthx ?qa_108 ?qi_108 ?ql_108 ?qc_108 ?qk_108; (case qa_108=>k_is); (case qi_108=>k_is); (case ql_108=>k_is); (case qc_108=>k_is); (case qk_108=>k_is))
  (case gg109=>refine' M.mthx ?qa_109 ?qi_109 ?ql_109 ?qc_109 ?qk_109; (case qa_109=>k_is); (case qi_109=>k_is); (case ql_109=>k_is); (case qc_109=>k_is); (case qk_109=>k_is))
  (case gg110=>refine' M.mthx ?qa_110 ?qi_110 ?ql_110 ?qc_110 ?qk_110; (case qa_110=>k_is); (case qi_110=>k_is); (case ql_110=>k_is); (case qc_110=>k_is); (case qk_110=>k_is))
  (case gg111=>refine' M.mthx ?qa_111 ?qi_111 ?ql_111 ?qc_111 ?qk_111; (case qa_111=>k_is); (case qi_111=>k_is); (case ql_111=>k_is); (case qc_111=>k_is); (case qk_111=>k_is))
  (case gg112=>refine' M.mthx ?qa_112 ?qi_112 ?ql_112 ?qc_112 ?qk_112; (case qa_112=>k_is); (case qi_112=>k_is); (case ql_112=>k_is); (case qc_112=>k_is); (case qk_112=>k_is))
  (case gg113=>refine' M.mthx ?qa_113 ?qi_113 ?ql_113 ?qc_113 ?qk_113; (case qa_113=>k_is); (case qi_113=>k_is); (case ql_113=>k_is); (case qc_113=>k_is); (case qk_113=>k_is))
