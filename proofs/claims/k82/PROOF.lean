import PyProof.Rows.All
import Wide.All
import OpenK.AllK
import Wide.FinOn
import Lean
import PyProof.EqAt
import PyProof.EqKinds
import PyProof.TupleCall
import KE.LcSums
import KE.KDictList
import KE.KDictSum
import PyProof.Rows.SortWalk
import KE.KRevIter
import KE.KListMore
import KE.KEqDict
import PySem.Challenge.RW_passkeep_k82_words_of_refusals
set_option Elab.async false
set_option linter.all false
set_option maxRecDepth 100000
namespace L2
open PySem PySem.Spec PyProof.Rows
def Ctx0 (o:Obj):Prop:=∃ fs,o.data=.fields fs∧fs[2]? = some .none
def Qh (A:Around)(h:Heap):Prop:=A.handled=none∨∃ e o,A.handled=some (.ref e)∧h.get? e=some o∧Ctx0 o
theorem Qh.keep {A:Around}{h h':Heap}(q:Qh A h)(k:∀ e,A.handled=some (.ref e)→∀ o,h.get? e=some o→h'.get? e=some o):Qh A h':=
 q.imp id fun ⟨e,o,a,b,c⟩=>⟨e,o,a,k e a o b,c⟩
theorem ent_unchain:entryFor table "proto.unchain"=some Builtin.«proto.unchain»:=entryFor_of_fast (by kernel_rfl)
section
variable {Pg:Program} {Wd:World} {Ar:Around} {Ee:Value→Shared→Prop} {sh:Shared}
theorem unchain_q {v:Value}{e:Addr}{o:Obj}{Q:Value→Shared→Prop}(he:sh.heap.get? e=some o)(c:Ctx0 o)(k:Q .none sh):wpAny (model Pg Wd) Ar (runValue (.builtin "proto.unchain" ⟨[v,.ref e,.ref e,.bool false],[]⟩)) Q Ee sh:=by
 obtain ⟨fs,hd,hv⟩:=c
 refine wpAny_runValue (codeAny_builtin ent_unchain ?_)
 show wpAny _ _ (field (.ref e) 2 >>= _) _ _ sh
 refine wpAny_bind (wpAny_field he hd hv ?_)
 rw [if_pos (by rfl)]
 exact wpAny_pure k
theorem raise_q {α:Type}{a:Addr}{oa:Obj}{fs:Array Value}{Q:α→Shared→Prop}(ha:sh.heap.get? a=some oa)(hd:oa.data=.fields fs)(h2:2<fs.size)(q:Qh Ar sh.heap)(new:∀ e,Ar.handled=some (.ref e)→e≠a)
  (k:∀ h',(∀ b o,b≠a→sh.heap.get? b=some o→h'.get? b=some o)→(∃ o',h'.get? a=some o'∧o'.cls=oa.cls)→Ee (.ref a) { sh with heap:=h' }):wpAny (model Pg Wd) Ar (raiseNew (.ref a):Sem α) Q Ee sh:=by
 obtain ⟨cl,di,da,sl⟩:=oa
 simp only at hd
 subst hd
 unfold raiseNew
 refine wpAny_bind (wpAny_handled ?_)
 rcases q with q | ⟨e,o,q,he,c⟩
 ·rw [q]
  exact wpAny_bind (wpAny_pure (wpAny_throw (k sh.heap (fun _ _ _ z=>z) ⟨_,ha,rfl⟩)))
 ·rw [q]
  have ne:=new e q
  have bne:(Value.ref e != Value.ref a)=true:=by
   rw [bne_iff_ne]
   intro z
   injection z with z
   exact ne z
  dsimp only
  rw [if_pos bne]
  refine wpAny_bind (wpAny_holding (unchain_q he c ?_))
  refine wpAny_bind (wpAny_setField (a:=a) ha rfl h2 (wpAny_throw (k _ (fun b o' hb z=>by rw [Heap.get?_update_ne _ _ _ _ hb]; exact z) ⟨_,Heap.get?_update_self _ ha rfl,rfl⟩)))
theorem stop_q {α:Type}{Q:α→Shared→Prop}(q:Qh Ar sh.heap)(k:∀ h' a o',(∀ b o,sh.heap.get? b=some o→h'.get? b=some o)→h'.get? a=some o'→o'.cls=.type "StopIteration"→Ee (.ref a) { sh with heap:=h' }) :
  wpAny (model Pg Wd) Ar (newExc (.type "StopIteration") [] >>= fun x=>(raiseNew x:Sem α)) Q Ee sh:=by
 refine wpAny_bind ?_
 unfold newExc newTuple
 refine wpAny_bind (wpAny_newObj_type ?_ (by size_fits))
 refine wpAny_bind (m:=firstArgMember _ _) (wpAny_of_eq (a:=Value.none) rfl ?_)
 refine wpAny_newObj_type ?_ (by size_fits)
 dsimp only
 have k1:∀ b o,sh.heap.get? b=some o→((sh.heap.push { cls:=.type "tuple",data:=.seq ([]:List Value).toArray }).get? b=some o):=fun b o e=>Heap.get?_push_of_some _ e
 generalize sh.heap.push { cls:=.type "tuple",data:=.seq ([]:List Value).toArray }=h1 at k1
 have k2:∀ b o,h1.get? b=some o→b≠h1.objs.size:=fun b o e=>Nat.ne_of_lt (Heap.lt_size e)
 refine raise_q (sh:={ sh with heap:=_ }) (Heap.get?_push_size _ rfl) rfl (by rw [Array.size_append]; exact Nat.lt_of_lt_of_le (show 2<6 by decide) (Nat.le_add_right _ _)) (q.keep fun e _ o he=>Heap.get?_push_of_some _ (k1 e o he)) (fun e a=>?_) fun h' hk ⟨o',ho,hc⟩=>k h' _ o' (fun b o e=>hk b o (k2 b o (k1 b o e)) (Heap.get?_push_of_some _ (k1 b o e))) ho hc
 rcases q with z | ⟨e2,o,z,he,_⟩
 ·rw [z] at a; cases a
 ·rw [z] at a
  have:e2=e:=by injection a with a; injection a
  subst this
  exact k2 _ o (k1 _ o he)
theorem listEnd_q {it l:Addr}{i:Nat}{xs:Array Value}{Q:Option Value→Shared→Prop}(q:Qh Ar sh.heap)(ne:∀ e,Ar.handled=some (.ref e)→e≠it)(si:sh.heap.IsListIter it l i)(sl:sh.heap.IsList l xs)(hx:xs[i]? = none)(k:∀ h',Heap.ExtBut it sh.heap h'→Q none { sh with heap:=h' }) :
  wpAny (model Pg Wd) Ar (pyNext (.ref it)) Q Ee sh:=by
 obtain ⟨oi,gi,ci,di⟩:=id si
 obtain ⟨ol,gl,_,nl,dl⟩:=sl
 unfold pyNext
 refine wpAny_bind (wpAny_attempt (wpAny_callSpecial?_slot (name:=Str.ofString "__next__") si.typeIs slot_listiter_next (wpAny_call_entry slot_listiter_next si.typeIs entry_listiter_next ?_ (args_listiter_next _))))
 show wpAny _ Ar.in1 (field (.ref it) 0 >>= _) _ _ sh
 refine wpAny_bind (wpAny_field gi di (x:=.ref l) rfl ?_)
 show wpAny _ Ar.in1 (if (Value.ref l == Value.none)=true then _ else _) _ _ sh
 rw [if_neg (show ¬(Value.ref l == Value.none)=true from fun z=>by cases z)]
 show wpAny _ Ar.in1 (field (.ref it) 1 >>= _) _ _ sh
 refine wpAny_bind (wpAny_field gi di (x:=.int i 0) rfl ?_)
 show wpAny _ Ar.in1 (seqItems? (.ref l) >>= _) _ _ sh
 refine wpAny_bind (wpAny_seqItems gl dl ?_)
 simp only [Int.toNat_natCast,hx]
 refine wpAny_bind (wpAny_rule (wpAny_bind (wpAny_setField gi di (by simp) ?_)))
 refine stop_q (Ar:=Ar.in1) (sh:={ sh with heap:=_ }) (q.keep fun e a o he=>?_) fun h' a o' hk ha hc=>?_
 ·show (sh.heap.update it _).get? e=some o
  rw [Heap.get?_update_ne _ _ _ _ (ne e a)]; exact he
 ·refine wpAny_bind (wpAny_isInstance (T:="StopIteration") (b:=true) ⟨o',ha,hc⟩ isSubtype_stop (wpAny_pure ?_))
  exact k h' fun b o hb e=>hk b o (by show (sh.heap.update it _).get? b=some o; rw [Heap.get?_update_ne _ _ _ _ hb]; exact e)
theorem tupEnd_q2 {it l:Addr}{i:Nat}{xs:Array Value}{Q:Option Value→Shared→Prop}(q:Qh Ar sh.heap)(ne:∀ e,Ar.handled=some (.ref e)→e≠it)(si:IsTupIter sh.heap it l i)(sl:IsTup sh.heap l xs)(hx:xs[i]? = none)(k:∀ h',Heap.ExtBut it sh.heap h'→Q none { sh with heap:=h' }) :
  wpAny (model Pg Wd) Ar (pyNext (.ref it)) Q Ee sh:=by
 obtain ⟨oi,gi,ci,di⟩:=id si
 obtain ⟨ol,gl,_,nl,dl⟩:=sl
 unfold pyNext
 refine wpAny_bind (wpAny_attempt (wpAny_callSpecial?_slot (name:=Str.ofString "__next__") si.typeIs slot_tupleiter_next (wpAny_call_entry slot_tupleiter_next si.typeIs entry_tupleiter_next ?_ (args_tupleiter_next _))))
 show wpAny _ Ar.in1 (field (.ref it) 0 >>= _) _ _ sh
 refine wpAny_bind (wpAny_field gi di (x:=.ref l) rfl ?_)
 show wpAny _ Ar.in1 (if (Value.ref l == Value.none)=true then _ else _) _ _ sh
 rw [if_neg (show ¬(Value.ref l == Value.none)=true from fun z=>by cases z)]
 show wpAny _ Ar.in1 (field (.ref it) 1 >>= _) _ _ sh
 refine wpAny_bind (wpAny_field gi di (x:=.int i 0) rfl ?_)
 show wpAny _ Ar.in1 (seqItems? (.ref l) >>= _) _ _ sh
 refine wpAny_bind (wpAny_seqItems gl dl ?_)
 simp only [Int.toNat_natCast,hx]
 refine wpAny_bind (wpAny_rule (wpAny_bind (wpAny_setField gi di (by simp) ?_)))
 refine stop_q (Ar:=Ar.in1) (sh:={ sh with heap:=_ }) (q.keep fun e a o he=>?_) fun h' a o' hk ha hc=>?_
 ·show (sh.heap.update it _).get? e=some o
  rw [Heap.get?_update_ne _ _ _ _ (ne e a)]; exact he
 ·refine wpAny_bind (wpAny_isInstance (T:="StopIteration") (b:=true) ⟨o',ha,hc⟩ isSubtype_stop (wpAny_pure ?_))
  exact k h' fun b o hb e=>hk b o (by show (sh.heap.update it _).get? b=some o; rw [Heap.get?_update_ne _ _ _ _ hb]; exact e)
theorem unpackI_q {l:Addr}{xs:Array Value}{Q:List Value→Shared→Prop}(q:Qh Ar sh.heap)(hl:IsTup sh.heap l xs)(k:∀ h',Heap.ExtBut sh.heap.objs.size sh.heap h'→Q xs.toList { sh with heap:=h' }):wpAny (model Pg Wd) Ar (unpackItems (.ref l) xs.size none) Q Ee sh:=by
 have nl:l≠sh.heap.objs.size:=by obtain ⟨o,ho,_⟩:=hl; exact Nat.ne_of_lt (Heap.lt_size ho)
 unfold unpackItems
 refine wpAny_bind ?_
 unfold notIterableAtAll
 refine wpAny_bind (wpAny_specialOf hl.typeIs slot_tuple_iter.lookup (wpAny_pure ?_))
 simp only [Bool.false_eq_true,if_false]
 refine wpAny_bind (wpAny_holding (iter_tuple hl (wpAny_bind (wpAny_holding (draw_tuple nl xs.size 0 _ _ ⟨_,Heap.get?_push_size _ rfl,rfl,rfl⟩ (hl.push _) (by omega) fun h1 i1 s1=>?_)))))
 have all:List.take xs.size (List.drop 0 xs.toList)=xs.toList:=by rw [List.drop_zero,List.take_of_length_le (by simp)]
 rw [all,if_neg (by simp)]
 have l1:IsTup h1 l xs:=(hl.push _).extBut s1.extBut nl
 have q1:Qh Ar h1:=q.keep fun e _ o he=>s1.extBut e o (Nat.ne_of_lt (Heap.lt_size he)) (Heap.get?_push_of_some _ he)
 refine wpAny_bind (wpAny_holding (tupEnd_q2 (sh:={ sh with heap:=h1 }) q1 (fun e a=>?_) i1 l1 (by simp) fun h2 x2=>?_))
 ·rcases q with z | ⟨e2,o,z,he,_⟩
  ·rw [z] at a; cases a
  ·rw [z] at a
   have:e2=e:=by injection a with a; injection a
   subst this
   exact Nat.ne_of_lt (Heap.lt_size he)
 ·simp only [Option.isSome_none,Bool.false_eq_true,if_false]
  exact wpAny_pure (k h2 fun b o hb e=>x2 b o hb (s1.extBut b o hb (Heap.get?_push_of_some _ e)))
theorem unpack_q {l:Addr}{xs:Array Value}{ts:List (Bool×(Value→Sem Unit))}{Q:Unit→Shared→Prop}(q:Qh Ar sh.heap)(hl:IsTup sh.heap l xs)(hn:ts.length=xs.size)(hst:ts.findIdx? (·.1)=none)
  (k:∀ h',Heap.ExtBut sh.heap.objs.size sh.heap h'→wpAny (model Pg Wd) Ar (assignInOrder (ts.map (·.2)) xs.toList) Q Ee { sh with heap:=h' }):wpAny (model Pg Wd) Ar (unpack (.ref l) ts) Q Ee sh:=by
 unfold unpack
 rw [hn,hst]
 exact wpAny_bind (wpAny_holding (unpackI_q q hl k))
theorem asgTup_q {env:Env}{es:List Expr}{x1}{pos:Pos}{l:Addr}{xs:Array Value}{Q:Unit→Shared→Prop}(q:Qh Ar sh.heap)(hl:IsTup sh.heap l xs)(hn:(assignEach es env).length=xs.size)(hst:(assignEach es env).findIdx? (·.1)=none)
  (k:∀ h',Heap.ExtBut sh.heap.objs.size sh.heap h'→wpAny (model Pg Wd) Ar (assignInOrder ((assignEach es env).map (·.2)) xs.toList) Q Ee { sh with heap:=h' }):wpAny (model Pg Wd) Ar (assign (.Tuple es x1 pos) env (.ref l)) Q Ee sh:=by
 rw [assign_Tuple]
 exact wpAny_bind (wpAny_standAt (unpack_q q hl hn hst k))
end
end L2
namespace L2
open PySem PySem.Spec PyProof.Rows
abbrev Key:=Sum Int Str
def keyIs:Key→Value→Bool
 | .inl k,v=>Value.isInt k v
 | .inr x,v=>Value.isStrOf x v
def keyH (w:World):Key→Int
 | .inl k=>hashInt k
 | .inr x=>hashStr w x
theorem keyIs_shape:∀ {k:Key} {v:Value},keyIs k v=true→(∃ i t,k=Sum.inl i∧v=Value.int i t)∨(∃ x t,k=Sum.inr x∧v=Value.str x t)
 | .inl i,v,h=>by
  obtain ⟨t,e⟩:=Value.isInt_shape (k:=i) (v:=v) h
  exact .inl ⟨i,t,rfl,e⟩
 | .inr x,v,h=>by
  obtain ⟨t,e⟩:=Value.isStrOf_shape (x:=x) (v:=v) h
  exact .inr ⟨x,t,rfl,e⟩
theorem key_ll (a b:Int):decide ((Sum.inl a:Key)=Sum.inl b)=(a == b):=by
 by_cases e:a=b
 ·subst e; simp
 ·have h:¬(Sum.inl a:Key)=Sum.inl b:=fun q=>e (Sum.inl.inj q)
  rw [decide_eq_false h]
  exact (beq_eq_false_iff_ne.mpr e).symm
theorem key_rr (a b:Str):decide ((Sum.inr a:Key)=Sum.inr b)=decide (a=b):=by
 by_cases e:a=b
 ·subst e; simp
 ·have h:¬(Sum.inr a:Key)=Sum.inr b:=fun q=>e (Sum.inr.inj q)
  rw [decide_eq_false h,decide_eq_false e]
theorem key_lr (a:Int)(b:Str):decide ((Sum.inl a:Key)=Sum.inr b)=false:=decide_eq_false (fun q=>nomatch q)
theorem key_rl (a:Str)(b:Int):decide ((Sum.inr a:Key)=Sum.inl b)=false:=decide_eq_false (fun q=>nomatch q)
def mixKind (prog:Program)(w:World):PySem.KeyKind prog w Key where
 is:=keyIs
 hash:=keyH w
 inj:=fun v a b ha hb=>by
  rcases keyIs_shape ha with ⟨i,t,rfl,rfl⟩ | ⟨x,t,rfl,rfl⟩
  ·rcases keyIs_shape hb with ⟨j,u,rfl,e⟩ | ⟨y,u,rfl,e⟩
   ·injection e with e1 _; rw [e1]
   ·exact nomatch e
  ·rcases keyIs_shape hb with ⟨j,u,rfl,e⟩ | ⟨y,u,rfl,e⟩
   ·exact nomatch e
   ·injection e with e1 _; rw [e1]
 byValue:=fun k v h=>by
  rcases keyIs_shape h with ⟨i,t,rfl,rfl⟩ | ⟨x,t,rfl,rfl⟩ <;> rfl
 pyHash:=fun hv h=>by
  rcases keyIs_shape hv with ⟨i,t,rfl,rfl⟩ | ⟨x,t,rfl,rfl⟩
  ·exact wpAny_pyHash_int h
  ·exact wpAny_pyHash_str h
 eqBool:=fun hu hv h=>by
  rcases keyIs_shape hu with ⟨i,t,rfl,rfl⟩ | ⟨x,t,rfl,rfl⟩
  ·rcases keyIs_shape hv with ⟨j,u,rfl,rfl⟩ | ⟨y,u,rfl,rfl⟩
   ·rw [key_ll] at h; exact wpAny_eqBool_int h
   ·rw [key_lr] at h; exact SeqAt.EqAt.int_str i t y u _ _ _ _ h
  ·rcases keyIs_shape hv with ⟨j,u,rfl,rfl⟩ | ⟨y,u,rfl,rfl⟩
   ·rw [key_rl] at h; exact SeqAt.EqAt.str_int x t j u _ _ _ _ h
   ·rw [key_rr] at h; exact wpAny_eqBool_str h
 «strs»:=fun k x t v h=>by
  rcases keyIs_shape h with ⟨i,u,rfl,e⟩ | ⟨y,u,rfl,e⟩
  ·exact nomatch e
  ·injection e with e1 _
   subst e1
   cases v <;> rfl
end L2
namespace L2
open PySem PySem.Spec PyProof.Rows
inductive V where
 | non | bl (b:Bool) | int (i:Int) | str (x:Str) | byt (b:Array UInt8) | flt (b:UInt64) | ref (a:Addr) | ty (n:String)
 deriving DecidableEq
def RelV:V→Value→Prop
 | .non,u=>u=Value.none
 | .bl b,u=>u=Value.bool b
 | .int i,u=>∃ t,u=Value.int i t
 | .str x,u=>∃ t,u=Value.str x t
 | .byt b,u=>∃ t,u=Value.bytes b t
 | .flt b,u=>∃ t,u=Value.float b t
 | .ref a,u=>u=Value.ref a
 | .ty n,u=>u=Value.type n
abbrev Vals:List V→List Value→Prop:=Paired RelV
theorem Vals.length {xs:List V}{us:List Value}(r:Vals xs us):xs.length=us.length:=Paired.length r
theorem Vals.get:∀ {xs:List V} {us:List Value} {i:Nat} {x:V},Vals xs us→xs[i]? = some x→∃ u,us[i]? = some u∧RelV x u
 | _,_,_,_,.nil,e=>by simp at e
 | _,_,0,_,.cons r _,e=>by simp at e; subst e; exact ⟨_,rfl,r⟩
 | _,_,i+1,x,.cons _ t,e=>by
  obtain ⟨u,h1,h2⟩:=Vals.get (i:=i) (x:=x) t (by simpa using e)
  exact ⟨u,by simpa using h1,h2⟩
theorem Vals.append:∀ {xs ys:List V} {us ws:List Value},Vals xs us→Vals ys ws→Vals (xs++ys) (us++ws)
 | _,_,_,_,.nil,s=>s
 | _,_,_,_,.cons r t,s=>.cons r (Vals.append t s)
def RelO:Option V→Option Value→Prop
 | some v,some u=>RelV v u
 | none,none=>True
 | _,_=>False
def KV {κ:Type}:List (κ×V)→List (κ×Value)→Prop:=Paired fun (p:κ×V) (q:κ×Value)=>p.1=q.1∧RelV p.2 q.2
def kV:Key→V
 | .inl i=>.int i
 | .inr x=>.str x
inductive HO where
 | lst (xs:List V)
 | tup (xs:List V)
 | dK (kvs:List (Key×V)) | dT (kvs:List (List Key×V))
 | set (S:Int→Bool) (n:Nat)
 | ins (C dx:Addr) (fs:List (Str×V))
 | own (x:Addr)
 | xd (fs:List (Str×V))
 | met (f x:Addr)
 | rng (lo hi:Int)
 | frz (o:Obj) (u:HO)
 | tbl (ps:Array Value)
 | ext (φ:Heap→Prop)
abbrev Hp:=Addr→Option HO
def upd (H:Hp)(a:Addr)(o:HO):Hp:=fun b=>if b=a then some o else H b
theorem upd_same {H:Hp}{a:Addr}{o:HO}:upd H a o a=some o:=by unfold upd; rw [if_pos rfl]
theorem upd_ne {H:Hp}{a b:Addr}{o:HO}(h:b≠a):upd H a o b=H b:=by unfold upd; rw [if_neg h]
theorem upd_upd {H:Hp}{a:Addr}{o u:HO}:upd (upd H a o) a u=upd H a u:=by
 funext b; unfold upd; split <;> rfl
theorem ne_of_none {H:Hp}{a b:Addr}{o:HO}(h:H a=some o)(h':H b=none):a≠b:=by
 intro e; subst e; rw [h] at h'; cases h'
section
variable (P:Program) (w:World)
def ObjOk (H:Hp)(h:Heap)(a:Addr):HO→Prop
 | .lst xs=>xs.length≤sizeLine∧∃ (its:List Value) (n:Nat),Vals xs its∧h.get? a=some { cls:=.type "list",data:=.seq its.toArray n }
 | .tup xs=>xs.length≤sizeLine∧∃ its:List Value,Vals xs its∧IsTup h a its.toArray
 | .dK kvs=>kvs.length≤sizeLine∧(a == sysModules)=false∧∃ vs,KV kvs vs∧h.DictOf (mixKind P w) a vs
 | .dT kvs=>kvs.length≤sizeLine∧(a == sysModules)=false∧∃ xs:List (List Key×Addr×Value),
   Paired (fun (p:List Key×V) (q:List Key×Addr×Value)=>p.1=q.1∧H q.2.1=some (.tup (p.1.map kV))∧RelV p.2 q.2.2) kvs xs ∧
   ∃ o es ep,h.get? a=some o∧o.ExactDict∧o.data=.dict es ep∧es.toList=xs.map (entryOfKey (tupleKind (mixKind P w)))∧(xs.map (·.1)).Nodup
 | .set S n=>h.SetOf (intKind P w) a S n
 | .ins C dx fs=>H dx=some (.own a)∧fs.length≤1000∧dx≠a∧h.get? a=some (PySem.W.instObj C dx) ∧
   ∃ mA,h.Ns1 dx mA∧(∀ f,RelO (fs.lookup f) (mA f))∧PySem.Within mA (fs.map (·.1))
 | .own _=>∃ o,h.get? a=some o
 | .xd fs=>∃ mA,h.Ns1 a mA∧∀ f,RelO (fs.lookup f) (mA f)
 | .rng lo hi=>∃ t u v,h.get? a=some { cls:=.type "range",data:=.fields #[.int lo t,.int hi u,.int 1 v] }
 | .frz o u=>h.get? a=some o∧ObjOk H h a u
 | .tbl ps=>h.get? a=some { cls:=.none,data:=.fields ps }
 | .met f x=>h.get? a=some (PySem.W.methodObj (.ref f) (.ref x))
 | .ext φ=>φ h∧(∃ o,h.get? a=some o)∧∀ h1 h2:Heap,φ h1→(∀ o,h1.get? a=some o→h2.get? a=some o)→φ h2
def HOk (H:Hp)(h:Heap):Prop:=∀ a o,H a=some o→ObjOk P w H h a o
end
section
variable {P:Program} {w:World} {H H':Hp} {h h':Heap} {a:Addr} {o:HO}
theorem ObjOk.lt (x:ObjOk P w H h a o):a<h.objs.size:=by
 cases o with
 | lst xs=>obtain ⟨_,_,_,_,e⟩:=x; exact Heap.lt_size e
 | tup xs=>obtain ⟨_,_,_,p⟩:=x; exact p.lt
 | dK kvs=>obtain ⟨_,_,_,_,o,_,_,e,_⟩:=x; exact Heap.lt_size e
 | dT kvs=>obtain ⟨_,_,_,_,o,_,_,e,_⟩:=x; exact Heap.lt_size e
 | set S n=>obtain ⟨o,_,_,_,e,_⟩:=x; exact Heap.lt_size e
 | ins C dx fs=>obtain ⟨_,_,_,e,_⟩:=x; exact Heap.lt_size e
 | own y=>obtain ⟨_,e⟩:=x; exact Heap.lt_size e
 | xd fs=>obtain ⟨_,⟨_,_,_,e,_⟩,_⟩:=x; exact Heap.lt_size e
 | rng lo hi=>obtain ⟨_,_,_,e⟩:=x; exact Heap.lt_size e
 | frz ob u=>obtain ⟨e,_⟩:=x; exact Heap.lt_size e
 | tbl ps=>exact Heap.lt_size (show h.get? a=some _ from x)
 | met f y=>exact Heap.lt_size (show h.get? a=some _ from x)
 | ext φ=>obtain ⟨_,⟨_,e⟩,_⟩:=x; exact Heap.lt_size e
theorem Paired.mapP {α β:Type}{F G:α→β→Prop}:∀ {l₁:List α} {l₂:List β},Paired F l₁ l₂→(∀ a b,F a b→G a b)→Paired G l₁ l₂
 | _,_,.nil,_=>.nil
 | _,_,.cons r t,f=>.cons (f _ _ r) (Paired.mapP t f)
theorem ObjOk.stay (x:ObjOk P w H h a o)(k:∀ b u,(b=a∨H b=some (.own a))→h.get? b=some u→h'.get? b=some u)
  (ho:∀ b,H b=some (.own a)→H' b=some (.own a)) (ht:∀ b xs,H b=some (.tup xs)→H' b=some (.tup xs)):ObjOk P w H' h' a o:=by
 induction o with
 | lst xs=>obtain ⟨z,its,n,r,e⟩:=x; exact ⟨z,its,n,r,k _ _ (.inl rfl) e⟩
 | tup xs=>obtain ⟨z,its,r,ob,e,c⟩:=x; exact ⟨z,its,r,ob,k _ _ (.inl rfl) e,c⟩
 | dK kvs=>obtain ⟨z,y,vs,r,ob,es,ep,e,c⟩:=x; exact ⟨z,y,vs,r,ob,es,ep,k _ _ (.inl rfl) e,c⟩
 | dT kvs=>
  obtain ⟨z,y,xs,r,ob,es,ep,e,c⟩:=x
  exact ⟨z,y,xs,Paired.mapP r fun p q z=>⟨z.1,ht _ _ z.2.1,z.2.2⟩,ob,es,ep,k _ _ (.inl rfl) e,c⟩
 | set S n=>obtain ⟨ob,es,ep,t,e,c⟩:=x; exact ⟨ob,es,ep,t,k _ _ (.inl rfl) e,c⟩
 | ins C dx fs=>
  obtain ⟨d,z,ne,e,mA,⟨od,es,ep,e2,c⟩,r⟩:=x
  exact ⟨ho _ d,z,ne,k _ _ (.inl rfl) e,mA,⟨od,es,ep,k _ _ (.inr d) e2,c⟩,r⟩
 | own y=>obtain ⟨ob,e⟩:=x; exact ⟨ob,k _ _ (.inl rfl) e⟩
 | xd fs=>obtain ⟨mA,⟨od,es,ep,e,c⟩,r⟩:=x; exact ⟨mA,⟨od,es,ep,k _ _ (.inl rfl) e,c⟩,r⟩
 | rng lo hi=>obtain ⟨t,u,v,e⟩:=x; exact ⟨t,u,v,k _ _ (.inl rfl) e⟩
 | frz ob u ih=>obtain ⟨e,q⟩:=x; exact ⟨k _ _ (.inl rfl) e,ih q⟩
 | tbl ps=>
  have e:h.get? a=some { cls:=.none,data:=.fields ps }:=x
  show h'.get? a=some { cls:=.none,data:=.fields ps }
  exact k a _ (.inl rfl) e
 | met f y=>
  have e:h.get? a=some (PySem.W.methodObj (.ref f) (.ref y)):=x
  show h'.get? a=some (PySem.W.methodObj (.ref f) (.ref y))
  exact k a _ (.inl rfl) e
 | ext φ=>obtain ⟨p,⟨o,e⟩,st⟩:=x; exact ⟨st _ _ p fun o q=>k _ _ (.inl rfl) q,⟨o,k _ _ (.inl rfl) e⟩,st⟩
theorem HOk.lt (x:HOk P w H h)(e:H a=some o):a<h.objs.size:=(x a o e).lt
theorem HOk.fresh (x:HOk P w H h)(e:h.objs.size≤a):H a=none:=by
 cases q:H a with
 | none=>rfl
 | some u=>exact absurd (Nat.lt_of_lt_of_le (x.lt q) e) (Nat.lt_irrefl _)
theorem HOk.kept (x:HOk P w H h)(k:∀ b u,h.get? b=some u→h'.get? b=some u):HOk P w H h':=fun a o e=>
 (x a o e).stay (fun b u _ q=>k b u q) (fun _ q=>q) fun _ _ q=>q
theorem HOk.laid (x:HOk P w H h)(k:∀ b u,h.get? b=some u→h'.get? b=some u)(hp:h.objs.size≤a)(new:ObjOk P w (upd H a o) h' a o):HOk P w (upd H a o) h':=fun b u e=>by
 have hn:=x.fresh hp
 by_cases hb:b=a
 ·subst hb; rw [upd_same] at e; cases e; exact new
 ·rw [upd_ne hb] at e
  exact (x b u e).stay (fun c v _ q=>k c v q) (fun c q=>by rw [upd_ne (ne_of_none q hn)]; exact q) fun c xs q=>by rw [upd_ne (ne_of_none q hn)]; exact q
end
def Rd (H:Hp)(a:Addr)(u:HO):Prop:=H a=some u∨∃ o,H a=some (.frz o u)
theorem Rd.of {H:Hp}{a:Addr}{u:HO}(h:H a=some u):Rd H a u:=.inl h
theorem Rd.ok {P:Program}{w:World}{H:Hp}{h:Heap}{a:Addr}{u:HO}(r:Rd H a u)(x:HOk P w H h):ObjOk P w H h a u:=by
 rcases r with r | ⟨o,r⟩
 ·exact x a u r
 ·obtain ⟨_,q⟩:=x a _ r
  exact q
def Mut:Option HO→Prop
 | some (.lst _)=>True
 | some (.dK _)=>True
 | some (.dT _)=>True
 | some (.set _ _)=>True
 | some (.ins _ _ _)=>True
 | some (.ext _)=>True
 | _=>False
section
variable {P:Program} {w:World} {H:Hp} {h h':Heap} {x e:Addr} {o':HO}
theorem HOk.write (ok:HOk P w H h)(mu:Mut (H x))(he:e=x∨H e=some (.own x))(k:∀ b u,b≠e→h.get? b=some u→h'.get? b=some u)(heo:∃ u,h'.get? e=some u)
  (new:ObjOk P w (upd H x o') h' x o'):HOk P w (upd H x o') h':=fun b u q=>by
 have nown:∀ c y,H c=some (.own y)→c≠x:=fun c y r z=>by subst z; rw [r] at mu; exact mu
 have ntup:∀ c xs,H c=some (.tup xs)→c≠x:=fun c xs r z=>by subst z; rw [r] at mu; exact mu
 by_cases hb:b=x
 ·subst hb; rw [upd_same] at q; cases q; exact new
 ·rw [upd_ne hb] at q
  by_cases hbe:b=e
  ·have q':H b=some (.own x):=by
    rcases he with z | z
    ·exact absurd (hbe.trans z) hb
    ·rw [hbe]; exact z
   rw [q] at q'; cases q'
   obtain ⟨v,hv⟩:=heo
   exact ⟨v,by rw [hbe]; exact hv⟩
  ·refine (ok b u q).stay (fun c v hc r=>k c v ?_ r) (fun c r=>by rw [upd_ne (nown c b r)]; exact r) fun c xs r=>by rw [upd_ne (ntup c xs r)]; exact r
   rcases hc with rfl | hc
   ·exact hbe
   ·rintro rfl
    rcases he with z | z
    ·exact nown c b hc z
    ·rw [hc] at z; cases z; exact hb rfl
end
structure Un (fs ex:List Addr)(H H':Hp)(h h':Heap):Prop where
 keep:∀ b o,h.get? b=some o→H b=none→b ∉ fs→b ∉ ex→h'.get? b=some o
 slot:∀ b o,h.get? b=some o→H b=none→b∈fs→b ∉ ex→∃ sl,h'.get? b=some { o with slots:=sl }
 free:∀ b o,h.get? b=some o→H b=none→b ∉ ex→H' b=none
 there:∀ b o,h.get? b=some o→b ∉ ex→∃ o',h'.get? b=some o'
 tups:∀ b xs,H b=some (.tup xs)→H' b=some (.tup xs)
 frzs:∀ b o u,H b=some (.frz o u)→H' b=some (.frz o u)
 tbls:∀ b ps,H b=some (.tbl ps)→∃ more,H' b=some (.tbl (ps++more))
section
variable {fs fs' ex ex':List Addr} {H H1 H2:Hp} {h h1 h2 h':Heap} {a x e:Addr} {o:HO}
theorem Un.any (u:Un fs ex H H1 h h1){b:Addr}{ob:Obj}(q:h.get? b=some ob)(n:H b=none)(hx:b ∉ ex):∃ sl,h1.get? b=some { ob with slots:=sl }:=by
 by_cases hb:b∈fs
 ·exact u.slot b ob q n hb hx
 ·exact ⟨ob.slots,u.keep b ob q n hb hx⟩
theorem Un.kept (k:∀ b u,h.get? b=some u→h'.get? b=some u):Un fs ex H H h h':=
 ⟨fun b ob q _ _ _=>k b ob q,fun b ob q _ _ _=>⟨ob.slots,k b ob q⟩,fun _ _ _ n _=>n,fun b ob q _=>⟨ob,k b ob q⟩,fun _ _ q=>q,fun _ _ _ q=>q,fun _ ps q=>⟨#[],by rw [q]; simp⟩⟩
theorem Un.refl:Un fs ex H H h h:=Un.kept fun _ _ q=>q
theorem Un.laid (k:∀ b u,h.get? b=some u→h'.get? b=some u)(hp:h.objs.size≤a)(hn:H a=none):Un fs ex H (upd H a o) h h' where
 keep:=fun b u q _ _ _=>k b u q
 slot:=fun b u q _ _ _=>⟨u.slots,k b u q⟩
 free:=fun b u q n _=>by rw [upd_ne (Nat.ne_of_lt (Nat.lt_of_lt_of_le (Heap.lt_size q) hp))]; exact n
 there:=fun b u q _=>⟨u,k b u q⟩
 tups:=fun b xs q=>by rw [upd_ne (ne_of_none q hn)]; exact q
 frzs:=fun b u xs q=>by rw [upd_ne (ne_of_none q hn)]; exact q
 tbls:=fun b ps q=>⟨#[],by rw [upd_ne (ne_of_none q hn),q]; simp⟩
theorem Un.write (mu:Mut (H x))(he:e=x∨H e=some (.own x))(k:∀ b u,b≠e→h.get? b=some u→h'.get? b=some u)(heo:∃ u,h'.get? e=some u):Un fs ex H (upd H x o) h h':=by
 have hx:∀ b,H b=none→b≠x:=fun b n z=>by subst z; rw [n] at mu; exact mu
 have hb:∀ b,H b=none→b≠e:=fun b n z=>by
  subst z
  rcases he with r | r
  ·exact hx b n r
  ·rw [n] at r; cases r
 have hm:∀ b u,H b=some u→¬Mut (some u)→b≠x:=fun b u q nm z=>by subst z; rw [q] at mu; exact nm mu
 refine ⟨fun b u q n _ _=>k b u (hb b n) q,fun b u q n _ _=>⟨u.slots,k b u (hb b n) q⟩,fun b u q n _=>by rw [upd_ne (hx b n)]; exact n,fun b u q _=>?_,
  fun b xs q=>by rw [upd_ne (hm b _ q fun z=>z)]; exact q,fun b u xs q=>by rw [upd_ne (hm b _ q fun z=>z)]; exact q,fun b ps q=>⟨#[],by rw [upd_ne (hm b _ q fun z=>z),q]; simp⟩⟩
 by_cases hbe:b=e
 ·subst hbe; exact heo
 ·exact ⟨u,k b u hbe q⟩
end
def trk (h:Heap)(H:Hp):List Addr:=(List.range h.objs.size).filter fun a=>(H a).isSome
def hidT (h:Heap)(H:Hp):Heap:=PySem.W.hideAll h (trk h H)
theorem hidT_size (h:Heap)(H:Hp):(hidT h H).objs.size=h.objs.size:=PySem.W.hideAll_size _ _
theorem hidT_get {h:Heap}{H:Hp}{b:Addr}{o:Obj}(e:h.get? b=some o)(n:H b=none):(hidT h H).get? b=some o:=
 PySem.W.hideAll_get _ e fun hm=>by
  have q:(H b).isSome=true:=(List.mem_filter.mp hm).2
  rw [n] at q; simp at q
theorem of_hidT {h:Heap}{H:Hp}{b:Addr}{o:Obj}(e:(hidT h H).get? b=some o):h.get? b=some o∧H b=none:=by
 have e':h.get? b=some o:=PySem.W.of_hideAll (trk h H) e
 refine ⟨e',?_⟩
 cases q:H b with
 | none=>rfl
 | some x=>
  have hm:b∈trk h H:=List.mem_filter.mpr ⟨List.mem_range.mpr (Heap.lt_size e'),by simp [q]⟩
  have z:(hidT h H).get? b=none:=PySem.W.hideAll_none (trk h H) hm
  rw [z] at e; cases e
end L2
namespace L2
open PySem PySem.Spec PyProof.Rows
structure Mod (K:PySem.W.Frag)(mg:Str→Option Value)(base:Heap):Prop where
 kin:K.In base
 glob:base.Ns mainGlobals mg
 blt:∃ mb,base.Ns builtinsNs mb∧∀ x:Str,x≠"__name__"→mb x=bootBuiltins x
 nolimit:base.NoLimit
structure Cx where
 prog:Program
 w:World
 K:PySem.W.Frag
 mg:Str→Option Value
 base:Heap
 A:Around
 N:List Str
 s₀:Shared
 H₀:Hp
 env:Env
 outer:List Env
 stack:List Env
 ex:List Addr
 fn:Str→Bool
 calm:Bool
 pn:List (Addr×Obj)
 xe:Value→Shared→Prop
def frs (l:List Env):List Addr:=l.filterMap (·.frame)
abbrev Cx.fs (X:Cx):List Addr:=frs X.outer
def Vis (sc:Scope)(x:Str):Prop:=sc.names.lookup x=some .local∨sc.names.lookup x=some .cell∨sc.names.lookup x=some .free
def Loc (sc:Scope)(x:Str):Prop:=sc.names.lookup x=some .local∨sc.names.lookup x=some .cell
def Look (env:Env)(h:Heap)(m:Str→Option Value)(x:Str)(u:Value):Prop:=
 (env.kindOf x=some .local∧m x=some u)∨((env.kindOf x=some .cell∨env.kindOf x=some .free)∧∃ c,env.cells.lookup x=some c∧h.IsCell c (some u))
def Lq (X:Cx):Prop:=X.A.handled=none∨∃ e o u,X.A.handled=some (.ref e)∧Ctx0 o∧X.H₀ e=some (.frz o u)
structure Cx.Ok (X:Cx):Prop where
 mod:Mod X.K X.mg X.base
 kind:X.env.scope.kind=.function
 glob:X.env.globals=mainGlobals
 blt:X.env.builtins=builtinsNs
 above:X.s₀.heap.objs.size≤X.env.locals
 inj:∀ x y c,X.env.cells.lookup x=some c→X.env.cells.lookup y=some c→x=y
 has:∀ x,(X.env.kindOf x=some .cell∨X.env.kindOf x=some .free)→∃ c,X.env.cells.lookup x=some c
 cab:∀ x c,X.fn x=true→X.env.cells.lookup x=some c→X.s₀.heap.objs.size≤c
 hd:X.calm=true→X.A.handled=none
 frames:X.A.frames=some X.stack
 stk:X.stack=X.outer∨(X.stack=X.env::X.outer∧X.env.frame=some X.env.locals)
 exf:∀ b∈X.ex,b≠X.env.locals∧∀ x c,X.env.cells.lookup x=some c→c≠b
 bs:∀ b o,X.base.get? b=some o→X.s₀.heap.get? b=some o∧X.H₀ b=none
 bsz:X.base.objs.size≤X.s₀.heap.objs.size
 noex:∀ b o,X.base.get? b=some o→b ∉ X.ex
 exfs:∀ b∈X.ex,b ∉ X.fs
 funs:X.s₀.heap.FunFrames X.base X.outer
 frf:∀ b∈X.fs,X.H₀ b=none
 lq:Lq X
structure Inv (X:Cx)(pins:List (Addr×Obj))(σ:List (Option V))(H:Hp)(s:Shared):Prop where
 ok:X.Ok
 os:s.os=X.s₀.os
 bare:AllBare s.gens
 base:Un X.fs X.ex X.H₀ H X.s₀.heap s.heap
 loc:∃ m,s.heap.Ns X.env.locals m∧∀ (i:Nat) (x:Str) (v:V),X.N[i]? = some x→σ[i]? = some (some v)→Vis X.env.scope x→∃ u,RelV v u∧Look X.env s.heap m x u
 cell:∀ x c,X.env.cells.lookup x=some c→∃ v,s.heap.IsCell c v
 free:H X.env.locals=none
 freeC:∀ x c,X.env.cells.lookup x=some c→H c=none
 pin:∀ p∈X.pn++pins,s.heap.get? p.1=some p.2∧H p.1=none∧p.1≠X.env.locals∧p.1 ∉ X.fs∧∀ v,p.2.data≠.cell v
 hok:HOk X.prog X.w H s.heap
 len:σ.length=X.N.length
section
variable {X:Cx} {pins:List (Addr×Obj)} {σ:List (Option V)} {H H':Hp} {s:Shared} {h':Heap}
theorem Cx.Ok.nofr (ok:X.Ok){b:Addr}{o:Obj}(e:X.base.get? b=some o):b ∉ X.fs:=fun hb=>by
 have:=(ok.funs.mem hb).1
 rw [e] at this; cases this
theorem Inv.lqh (I:Inv X pins σ H s):X.A.handled=none∨∃ e o u,X.A.handled=some (.ref e)∧Ctx0 o∧H e=some (.frz o u):=I.ok.lq.imp id fun ⟨e,o,u,a,b,c⟩=>⟨e,o,u,a,b,I.base.frzs e o u c⟩
theorem Inv.qh (I:Inv X pins σ H s):Qh X.A s.heap:=I.lqh.imp id fun ⟨e,o,u,a,b,c⟩=>⟨e,o,a,(show s.heap.get? e=some o∧_ from I.hok e _ c).1,b⟩
theorem Inv.qne (I:Inv X pins σ H s){b:Addr}(hb:H b=none):∀ e,X.A.handled=some (.ref e)→e≠b:=fun e z q=>by
 rcases I.lqh with y | ⟨e2,o,u,y,_,c⟩
 ·rw [y] at z; cases z
 ·rw [y] at z
  have:e2=e:=by injection z with z; injection z
  rw [this,q,hb] at c; cases c
theorem Inv.bs (I:Inv X pins σ H s):∀ b o,X.base.get? b=some o→s.heap.get? b=some o∧H b=none:=fun b o e=>
 ⟨I.base.keep b o (I.ok.bs b o e).1 (I.ok.bs b o e).2 (I.ok.nofr e) (I.ok.noex b o e),I.base.free b o (I.ok.bs b o e).1 (I.ok.bs b o e).2 (I.ok.noex b o e)⟩
theorem Inv.bk (I:Inv X pins σ H s):∀ b o,X.base.get? b=some o→s.heap.get? b=some o:=fun b o e=>(I.bs b o e).1
theorem Inv.mod (I:Inv X pins σ H s):Mod X.K X.mg X.base:=I.ok.mod
theorem Inv.kIn (I:Inv X pins σ H s):X.K.In s.heap:=I.ok.mod.kin.keeps I.bk
theorem Inv.lt (I:Inv X pins σ H s):X.env.locals<s.heap.objs.size:=let ⟨_,hn,_⟩:=I.loc; hn.lt
theorem Inv.sz (I:Inv X pins σ H s):X.s₀.heap.objs.size≤s.heap.objs.size:=Nat.le_trans I.ok.above (Nat.le_of_lt I.lt)
theorem Inv.nofs (I:Inv X pins σ H s){a:Addr}(h:s.heap.objs.size≤a):a ∉ X.fs:=fun hb=>by
 obtain ⟨_,o,ho,_⟩:=I.ok.funs.mem hb
 exact absurd (Nat.lt_of_lt_of_le (Heap.lt_size ho) (Nat.le_trans I.sz h)) (Nat.lt_irrefl _)
theorem Inv.cne (I:Inv X pins σ H s):∀ x c,X.env.cells.lookup x=some c→c≠X.env.locals:=fun x c e z=>by
 obtain ⟨v,o,ho,hd⟩:=I.cell x c e
 obtain ⟨m,⟨o',es,ep,ho',hd',_⟩,_⟩:=I.loc
 rw [z,ho'] at ho; cases ho; rw [hd'] at hd; cases hd
theorem Inv.funs (I:Inv X pins σ H s):s.heap.FunFrames X.base X.outer:=by
 have all:∀ (l:List Env),(∀ b∈frs l,b∈X.fs)→X.s₀.heap.FunFrames X.base l→s.heap.FunFrames X.base l:=by
  intro l
  induction l with
  | nil=>intro _ _; trivial
  | cons env r ih=>
   intro hs hl
   obtain ⟨hk,⟨L,o,hf,hn,ho,hd⟩,hr⟩:=hl
   have hL:L∈X.fs:=hs L (by unfold frs; rw [List.filterMap_cons,hf]; exact List.mem_cons_self)
   obtain ⟨sl,e⟩:=I.base.slot L o ho (I.ok.frf L hL) hL fun z=>I.ok.exfs L z hL
   exact ⟨hk,⟨L,_,hf,hn,e,hd⟩,ih (fun b hb=>hs b (by unfold frs; rw [List.filterMap_cons,hf]; exact List.mem_cons_of_mem _ hb)) hr⟩
 exact all X.outer (fun _ hb=>hb) I.ok.funs
theorem Inv.stack (I:Inv X pins σ H s):s.heap.FunFrames X.base X.stack:=by
 rcases I.ok.stk with e | ⟨e,hf⟩
 ·rw [e]; exact I.funs
 ·rw [e]
  obtain ⟨m,hn,_⟩:=I.loc
  refine .cons (by rw [I.ok.kind]; decide) hf hn ?_ I.funs
  exact Heap.get?_none_of_le (Nat.le_trans I.ok.bsz I.ok.above)
theorem Inv.stkSub (I:Inv X pins σ H s):∀ b∈frs X.stack,b∈X.env.locals::X.fs:=fun b hb=>by
 rcases I.ok.stk with e | ⟨e,hf⟩
 ·rw [e] at hb; exact List.mem_cons_of_mem _ hb
 ·rw [e] at hb
  unfold frs at hb
  rw [List.filterMap_cons,hf] at hb
  exact hb
theorem Inv.stkFree (I:Inv X pins σ H s):∀ b∈frs X.stack,H b=none:=fun b hb=>by
 rcases List.mem_cons.mp (I.stkSub b hb) with e | hb
 ·rw [e]; exact I.free
 ·obtain ⟨_,o,ho,_⟩:=I.ok.funs.mem hb
  exact I.base.free b o ho (I.ok.frf b hb) fun z=>I.ok.exfs b z hb
theorem Inv.step {g':Array GenState}{t':Nat}{d':Drawn}{ch:List Addr}(I:Inv X pins σ H s)
  (hch:∀ b∈ch,(b∈X.ex∨X.s₀.heap.objs.size≤b)∧b≠X.env.locals∧(∀ x c,X.env.cells.lookup x=some c→c≠b)∧∀ p∈X.pn++pins,p.1≠b)
  (keep:∀ b o,b≠X.env.locals→b ∉ X.fs→b ∉ ch→s.heap.get? b=some o→H b=none→h'.get? b=some o)
  (slot:∀ b o,b≠X.env.locals→b∈X.fs→b ∉ ch→s.heap.get? b=some o→H b=none→∃ sl,h'.get? b=some { o with slots:=sl }) (free:∀ b o,b ∉ ch→s.heap.get? b=some o→H b=none→H' b=none)
  (there:∀ b o,b ∉ ch→s.heap.get? b=some o→∃ o',h'.get? b=some o')
  (tups:∀ b xs,H b=some (.tup xs)→H' b=some (.tup xs)) (frzs:∀ b o u,H b=some (.frz o u)→H' b=some (.frz o u)) (tbls:∀ b ps,H b=some (.tbl ps)→∃ more,H' b=some (.tbl (ps++more)))
  (ns:∀ m,s.heap.Ns X.env.locals m→h'.Ns X.env.locals m) (hok:HOk X.prog X.w H' h') (hg:AllBare g') :
  Inv X pins σ H' { s with heap:=h',gens:=g',drawn:=d',toks:=t' }:=by
 have neL:∀ b o,X.s₀.heap.get? b=some o→b≠X.env.locals:=fun b o e=>Nat.ne_of_lt (Nat.lt_of_lt_of_le (Heap.lt_size e) I.ok.above)
 have neC:∀ b o,X.s₀.heap.get? b=some o→b ∉ X.ex→b ∉ ch:=fun b o e hx hb=>by
  rcases (hch b hb).1 with z | z
  ·exact hx z
  ·exact absurd (Nat.lt_of_lt_of_le (Heap.lt_size e) z) (Nat.lt_irrefl _)
 have cellK:∀ x c,X.env.cells.lookup x=some c→∀ v,s.heap.IsCell c v→h'.IsCell c v:=fun x c e v ⟨o,ho,hd⟩=>by
  have nch:c ∉ ch:=fun z=>(hch c z).2.2.1 x c e rfl
  by_cases hc:c∈X.fs
  ·obtain ⟨sl,q⟩:=slot c o (I.cne x c e) hc nch ho (I.freeC x c e)
   exact ⟨_,q,hd⟩
  ·exact ⟨o,keep c o (I.cne x c e) hc nch ho (I.freeC x c e),hd⟩
 refine ⟨I.ok,I.os,hg,⟨fun b o e n hb hx=>?_,fun b o e n hb hx=>?_,fun b o e n hx=>?_,fun b o e hx=>?_,fun b xs e=>tups b xs (I.base.tups b xs e),fun b o xs e=>frzs b o xs (I.base.frzs b o xs e),fun b ps e=>?_⟩,?_,fun x c e=>?_,?_,fun x c e=>?_,fun p hp=>?_,hok,I.len⟩
 ·exact keep b o (neL b o e) hb (neC b o e hx) (I.base.keep b o e n hb hx) (I.base.free b o e n hx)
 ·obtain ⟨sl,e1⟩:=I.base.slot b o e n hb hx
  obtain ⟨sl',e2⟩:=slot b _ (neL b o e) hb (neC b o e hx) e1 (I.base.free b o e n hx)
  exact ⟨sl',e2⟩
 ·obtain ⟨o',e1⟩:=I.base.there b o e hx
  exact free b o' (neC b o e hx) e1 (I.base.free b o e n hx)
 ·obtain ⟨o',e1⟩:=I.base.there b o e hx
  exact there b o' (neC b o e hx) e1
 ·obtain ⟨m1,e1⟩:=I.base.tbls b ps e
  obtain ⟨m2,e2⟩:=tbls b _ e1
  exact ⟨m1++m2,by rw [e2,Array.append_assoc]⟩
 ·obtain ⟨m,hn,hl⟩:=I.loc
  refine ⟨m,ns m hn,fun i x v e1 e2 e3=>?_⟩
  obtain ⟨u,r,l⟩:=hl i x v e1 e2 e3
  refine ⟨u,r,?_⟩
  rcases l with l | ⟨k,c,e,z⟩
  ·exact .inl l
  ·exact .inr ⟨k,c,e,cellK x c e _ z⟩
 ·obtain ⟨v,z⟩:=I.cell x c e
  exact ⟨v,cellK x c e v z⟩
 ·obtain ⟨m,⟨o,_,_,ho,_⟩,_⟩:=I.loc
  exact free _ o (fun z=>(hch _ z).2.1 rfl) ho I.free
 ·obtain ⟨v,o,ho,hd⟩:=I.cell x c e
  exact free c o (fun z=>(hch c z).2.2.1 x c e rfl) ho (I.freeC x c e)
 ·obtain ⟨e,n,ne,nf,d⟩:=I.pin p hp
  have nch:p.1 ∉ ch:=fun z=>(hch p.1 z).2.2.2 p hp rfl
  exact ⟨keep p.1 p.2 ne nf nch e n,free p.1 p.2 nch e n,ne,nf,d⟩
theorem Inv.un {t':Nat}(I:Inv X pins σ H s)(u:Un X.fs [] H H' s.heap h')(hok:HOk X.prog X.w H' h'):Inv X pins σ H' { s with heap:=h',toks:=t' }:=by
 obtain ⟨m,⟨o,es,ep,ho,r⟩,_⟩:=id I.loc
 obtain ⟨sl,hL⟩:=u.any ho I.free (by simp)
 exact I.step (g':=s.gens) (d':=s.drawn) (ch:=[]) (fun _ z=>nomatch z) (fun b o _ hb _ e n=>u.keep b o e n hb (by simp)) (fun b o _ hb _ e n=>u.slot b o e n hb (by simp)) (fun b o _ e n=>u.free b o e n (by simp)) (fun b o _ e=>u.there b o e (by simp)) u.tups u.frzs u.tbls (fun m' hm=>by
  obtain ⟨o',es',ep',ho',r'⟩:=hm
  rw [ho] at ho'; cases ho'
  exact ⟨_,es',ep',hL,r'⟩) hok I.bare
theorem Inv.call {g':Array GenState}{t':Nat}{d':Drawn}{ch:List Addr}(I:Inv X pins σ H s)(u:Un (frs X.stack) ch H H' s.heap h')(hok:HOk X.prog X.w H' h')(hg:AllBare g')
  (hch:∀ b∈ch,(b∈X.ex∨X.s₀.heap.objs.size≤b)∧b≠X.env.locals∧(∀ x c,X.env.cells.lookup x=some c→c≠b)∧∀ p∈X.pn++pins,p.1≠b) :
  Inv X pins σ H' { s with heap:=h',gens:=g',drawn:=d',toks:=t' }:=by
 obtain ⟨m,⟨o,es,ep,ho,r⟩,_⟩:=id I.loc
 obtain ⟨sl,hL⟩:=u.any ho I.free fun z=>(hch _ z).2.1 rfl
 exact I.step (ch:=ch) hch (fun b o hL hb hc e n=>u.keep b o e n (fun z=>(List.mem_cons.mp (I.stkSub b z)).elim hL hb) hc) (fun b o _ _ hc e n=>u.any e n hc) (fun b o hc e n=>u.free b o e n hc) (fun b o hc e=>u.there b o e hc) u.tups u.frzs u.tbls (fun m' hm=>by
  obtain ⟨o',es',ep',ho',r'⟩:=hm
  rw [ho] at ho'; cases ho'
  exact ⟨_,es',ep',hL,r'⟩) hok hg
theorem Inv.turned {t':Nat}{it:Addr}(I:Inv X pins σ H s)(k:∀ b o,b≠it→s.heap.get? b=some o→h'.get? b=some o)(hn:H it=none)(hL:it≠X.env.locals)
  (h1:it∈X.ex∨X.s₀.heap.objs.size≤it) (h2:∀ x c,X.env.cells.lookup x=some c→c≠it) (h3:∀ p∈X.pn++pins,p.1≠it):Inv X pins σ H { s with heap:=h',toks:=t' }:=by
 have nit:∀ b u,H b=some u→b≠it:=fun b u e z=>by rw [z,hn] at e; cases e
 refine I.step (g':=s.gens) (d':=s.drawn) (ch:=[it]) (fun b hb=>?_) (fun b o _ _ hc e _=>k b o (fun z=>hc (by simp [z])) e) (fun b o _ _ hc e _=>⟨o.slots,k b o (fun z=>hc (by simp [z])) e⟩) (fun _ _ _ _ n=>n)
  (fun b o hc e=>⟨o,k b o (fun z=>hc (by simp [z])) e⟩) (fun _ _ e=>e) (fun _ _ _ e=>e) (fun b ps e=>⟨#[],by rw [e]; simp⟩) (fun m hm=>?_) (fun b u e=>?_) I.bare
 ·have e:b=it:=by simpa using hb
  subst e
  exact ⟨h1,hL,h2,h3⟩
 ·obtain ⟨o,es,ep,ho,r⟩:=hm
  exact ⟨o,es,ep,k _ o (Ne.symm hL) ho,r⟩
 ·refine (I.hok b u e).stay (fun c v hc q=>k c v ?_ q) (fun _ q=>q) fun _ _ q=>q
  rcases hc with z | z
  ·rw [z]; exact nit b u e
  ·exact nit c _ z
theorem Inv.tok (I:Inv X pins σ H s)(t:Nat):Inv X pins σ H { s with toks:=t }:=I.un (h':=s.heap) (t':=t) Un.refl I.hok
theorem Inv.kept {t':Nat}(I:Inv X pins σ H s)(k:∀ b u,s.heap.get? b=some u→h'.get? b=some u):Inv X pins σ H { s with heap:=h',toks:=t' }:=I.un (Un.kept k) (I.hok.kept k)
theorem Inv.laid {a:Addr}{o:HO}{t':Nat}(I:Inv X pins σ H s)(k:∀ b u,s.heap.get? b=some u→h'.get? b=some u)(hp:s.heap.objs.size≤a)(new:ObjOk X.prog X.w (upd H a o) h' a o) :
  Inv X pins σ (upd H a o) { s with heap:=h',toks:=t' }:=I.un (Un.laid k hp (I.hok.fresh hp)) (I.hok.laid k hp new)
theorem Inv.write {x e:Addr}{o:HO}{t':Nat}(I:Inv X pins σ H s)(mu:Mut (H x))(he:e=x∨H e=some (.own x))(k:∀ b u,b≠e→s.heap.get? b=some u→h'.get? b=some u)(heo:∃ u,h'.get? e=some u)
  (new:ObjOk X.prog X.w (upd H x o) h' x o):Inv X pins σ (upd H x o) { s with heap:=h',toks:=t' }:=I.un (Un.write mu he k heo) (I.hok.write mu he k heo new)
theorem Inv.weak {σ':List (Option V)}(I:Inv X pins σ H s)(hl:σ'.length=σ.length)(w:∀ (i:Nat) v,σ'[i]? = some (some v)→σ[i]? = some (some v)):Inv X pins σ' H s:=
 ⟨I.ok,I.os,I.bare,I.base,let ⟨m,hn,hl'⟩:=I.loc; ⟨m,hn,fun i x v e1 e2 e3=>hl' i x v e1 (w i v e2) e3⟩,I.cell,I.free,I.freeC,I.pin,I.hok,hl.trans I.len⟩
theorem Inv.pins_of {pins':List (Addr×Obj)}(I:Inv X pins σ H s)(h:∀ p∈pins',s.heap.get? p.1=some p.2∧H p.1=none∧p.1≠X.env.locals∧p.1 ∉ X.fs∧∀ v,p.2.data≠.cell v):Inv X pins' σ H s:=
 ⟨I.ok,I.os,I.bare,I.base,I.loc,I.cell,I.free,I.freeC,fun p hp=>(List.mem_append.mp hp).elim (fun z=>I.pin p (List.mem_append_left _ z)) (h p),I.hok,I.len⟩
theorem nodup_ix {N:List Str}(hN:N.Nodup){i j:Nat}{x:Str}(a:N[i]? = some x)(b:N[j]? = some x):i=j:=by
 obtain ⟨h1,e1⟩:=List.getElem?_eq_some_iff.mp a
 obtain ⟨h2,e2⟩:=List.getElem?_eq_some_iff.mp b
 exact (List.getElem_inj hN).mp (e1.trans e2.symm)
theorem store_ok2 {M:Model}{A:Around}{E:Value→Shared→Prop}{i:Nat}{x:Str}{v:V}{u:Value}{Q:Unit→Shared→Prop}(I:Inv X pins σ H s)(hN:X.N.Nodup)(hi:X.N[i]? = some x)(hx:Loc X.env.scope x)(r:RelV v u)
  (h:∀ s',Inv X pins (σ.set i (some v)) H s'→(∃ a,Heap.SameBut a s.heap s'.heap∧(a=X.env.locals∨X.env.cells.lookup x=some a))→Q () s') (hf:X.fn x=true∨X.env.scope.names.lookup x=some .local:=by first | exact .inl rfl | exact .inr rfl | assumption):wpAny M A (storeName X.env x u) Q E s:=by
 obtain ⟨m,hn,hl⟩:=id I.loc
 have hcls:(X.env.scope.kind == .class || (X.env.scope.kind == .module && X.env.locals != X.env.globals))=false:=by rw [I.ok.kind]; rfl
 have hiσ:i<σ.length:=by rw [I.len]; exact (List.getElem?_eq_some_iff.mp hi).1
 have cne:=I.cne
 have tracked:∀ {a:Addr} {h':Heap},(∃ o,s.heap.get? a=some o∧H a=none)→Heap.SameBut a s.heap h'→HOk X.prog X.w H h':=fun {a h'} ha hs b ob e=>by
  obtain ⟨_,_,hfree⟩:=ha
  refine (I.hok b ob e).stay (fun c w' hc q=>(hs.2 c ?_).trans q) (fun _ q=>q) fun _ _ q=>q
  rintro rfl
  rcases hc with rfl | hc
  ·rw [hfree] at e; cases e
  ·rw [hfree] at hc; cases hc
 rcases hx with hk | hk
 ·refine wpAny_storeName_local hk hn (fun h' hn' hs=>?_) hcls
  obtain ⟨oL,_,_,hoL,_⟩:=id hn
  refine h _ ⟨I.ok,I.os,I.bare,⟨fun b o e n hb hx=>?_,fun b o e n hb hx=>?_,I.base.free,fun b o e hx=>?_,I.base.tups,I.base.frzs,I.base.tbls⟩,⟨_,hn',fun j y v' e1 e2 e3=>?_⟩,fun y c e=>?_,I.free,I.freeC,fun p hp=>?_,tracked ⟨oL,hoL,I.free⟩ hs,by simpa using I.len⟩ ⟨_,hs,.inl rfl⟩
  ·exact (hs.2 b (Nat.ne_of_lt (Nat.lt_of_lt_of_le (Heap.lt_size e) I.ok.above))).trans (I.base.keep b o e n hb hx)
  ·obtain ⟨sl,e1⟩:=I.base.slot b o e n hb hx
   exact ⟨sl,(hs.2 b (Nat.ne_of_lt (Nat.lt_of_lt_of_le (Heap.lt_size e) I.ok.above))).trans e1⟩
  ·obtain ⟨o',e1⟩:=I.base.there b o e hx
   exact ⟨o',(hs.2 b (Nat.ne_of_lt (Nat.lt_of_lt_of_le (Heap.lt_size e) I.ok.above))).trans e1⟩
  ·by_cases hj:j=i
   ·subst hj
    rw [hi] at e1; cases e1
    rw [List.getElem?_set_self hiσ] at e2
    cases e2
    exact ⟨u,r,.inl ⟨hk,by simp⟩⟩
   ·rw [List.getElem?_set_ne (Ne.symm hj)] at e2
    obtain ⟨u',r',q⟩:=hl j y v' e1 e2 e3
    refine ⟨u',r',?_⟩
    rcases q with ⟨k,e⟩ | ⟨k,c,e,z⟩
    ·refine .inl ⟨k,?_⟩
     have:y≠x:=fun e=>hj (nodup_ix hN e1 (e ▸ hi))
     simp [this,e]
    ·exact .inr ⟨k,c,e,z.sameBut hs (cne y c e)⟩
  ·obtain ⟨w',z⟩:=I.cell y c e
   exact ⟨w',z.sameBut hs (cne y c e)⟩
  ·obtain ⟨e,n,ne,nf,d⟩:=I.pin p hp
   exact ⟨(hs.2 p.1 ne).trans e,n,ne,nf,d⟩
 ·have hfn:X.fn x=true:=by
   rcases hf with z | z
   ·exact z
   ·rw [z] at hk; cases hk
  obtain ⟨c,hc⟩:=I.ok.has x (.inl hk)
  obtain ⟨w',z⟩:=I.cell x c hc
  refine wpAny_storeName_cell I.ok.kind hk hc z (fun h' hc' hs=>?_)
  obtain ⟨oc,hoc,hocd⟩:=id z
  refine h { s with heap:=h' } ⟨I.ok,I.os,I.bare,⟨fun b o e n hb hx=>?_,fun b o e n hb hx=>?_,I.base.free,fun b o e hx=>?_,I.base.tups,I.base.frzs,I.base.tbls⟩,⟨m,hn.sameBut hs (Ne.symm (cne x c hc)),fun j y v' e1 e2 e3=>?_⟩,fun y c' e=>?_,I.free,I.freeC,fun p hp=>?_,tracked ⟨oc,hoc,I.freeC x c hc⟩ hs,by simpa using I.len⟩ ⟨c,hs,.inr hc⟩
  ·exact (hs.2 b (Nat.ne_of_lt (Nat.lt_of_lt_of_le (Heap.lt_size e) (I.ok.cab x c hfn hc)))).trans (I.base.keep b o e n hb hx)
  ·obtain ⟨sl,e1⟩:=I.base.slot b o e n hb hx
   exact ⟨sl,(hs.2 b (Nat.ne_of_lt (Nat.lt_of_lt_of_le (Heap.lt_size e) (I.ok.cab x c hfn hc)))).trans e1⟩
  ·obtain ⟨o',e1⟩:=I.base.there b o e hx
   exact ⟨o',(hs.2 b (Nat.ne_of_lt (Nat.lt_of_lt_of_le (Heap.lt_size e) (I.ok.cab x c hfn hc)))).trans e1⟩
  ·by_cases hj:j=i
   ·subst hj
    rw [hi] at e1; cases e1
    rw [List.getElem?_set_self hiσ] at e2
    cases e2
    exact ⟨u,r,.inr ⟨.inl hk,c,hc,hc'⟩⟩
   ·rw [List.getElem?_set_ne (Ne.symm hj)] at e2
    obtain ⟨u',r',q⟩:=hl j y v' e1 e2 e3
    refine ⟨u',r',?_⟩
    rcases q with q | ⟨k,c',e,z'⟩
    ·exact .inl q
    ·refine .inr ⟨k,c',e,z'.sameBut hs ?_⟩
     rintro rfl
     exact hj (nodup_ix hN e1 (I.ok.inj _ _ _ e hc ▸ hi))
  ·by_cases hcc:c'=c
   ·subst hcc; exact ⟨_,hc'⟩
   ·obtain ⟨w2,z2⟩:=I.cell y c' e
    exact ⟨w2,z2.sameBut hs hcc⟩
  ·obtain ⟨e,n,ne,nf,d⟩:=I.pin p hp
   refine ⟨(hs.2 p.1 ?_).trans e,n,ne,nf,d⟩
   intro q
   rw [q,hoc] at e
   have q':oc=p.2:=Option.some.inj e
   exact d w' (by rw [← q']; exact hocd)
theorem store_ok {M:Model}{A:Around}{E:Value→Shared→Prop}{i:Nat}{x:Str}{v:V}{u:Value}{Q:Unit→Shared→Prop}(I:Inv X pins σ H s)(hN:X.N.Nodup)(hi:X.N[i]? = some x)(hx:Loc X.env.scope x)(r:RelV v u)
  (h:∀ s',Inv X pins (σ.set i (some v)) H s'→Q () s') (hf:X.fn x=true∨X.env.scope.names.lookup x=some .local:=by first | exact .inl rfl | exact .inr rfl | assumption):wpAny M A (storeName X.env x u) Q E s:=
 store_ok2 I hN hi hx r (fun s' I' _=>h s' I') hf
theorem Inv.call' {s':Shared}{ch:List Addr}(I:Inv X pins σ H s)(ho:s'.os=s.os)(u:Un (frs X.stack) ch H H' s.heap s'.heap)(hok:HOk X.prog X.w H' s'.heap)(hg:AllBare s'.gens)
  (hch:∀ b∈ch,(b∈X.ex∨X.s₀.heap.objs.size≤b)∧b≠X.env.locals∧(∀ x c,X.env.cells.lookup x=some c→c≠b)∧∀ p∈X.pn++pins,p.1≠b):Inv X pins σ H' s':=by
 obtain ⟨h',g',d',t',o'⟩:=s'
 have e:o'=s.os:=ho
 subst e
 exact I.call (g':=g') (t':=t') (d':=d') u hok hg hch
end
abbrev XK:=Value→Option Addr→Hp→Prop
abbrev St:=List (Option V)
abbrev VK:=V→Hp→Prop
abbrev TE:=St→Hp→VK→Prop
abbrev TT:=St→Hp→(Bool→Hp→Prop)→Prop
abbrev TA:=St→Hp→(List V→Hp→Prop)→Prop
structure Ends where
 nx:St→Hp→Prop
 rt:VK
 bk:St→Hp→Prop:=fun _ _=>False
 ct:St→Hp→Prop:=fun _ _=>False
abbrev TS:=Ends→St→Hp→Prop
def EP (X:Cx)(pins:List (Addr×Obj))(σ:St)(Q:VK)(u:Value)(s':Shared):Prop:=∃ v H',Inv X pins σ H' s'∧RelV v u∧Q v H'
def TP (X:Cx)(pins:List (Addr×Obj))(σ:St)(Q:Bool→Hp→Prop)(b:Bool)(s':Shared):Prop:=∃ H',Inv X pins σ H' s'∧Q b H'
def AP (X:Cx)(pins:List (Addr×Obj))(σ:St)(Q:List V→Hp→Prop)(us:List Value)(s':Shared):Prop:=∃ vs H',Inv X pins σ H' s'∧Vals vs us∧Q vs H'
def SP (X:Cx)(pins:List (Addr×Obj))(D:Ends)(f:Flow)(s':Shared):Prop:=
 match f with
 | .next=>∃ σ' H',Inv X pins σ' H' s'∧D.nx σ' H'
 | .brk=>∃ σ' H',Inv X pins σ' H' s'∧D.bk σ' H'
 | .cont=>∃ σ' H',Inv X pins σ' H' s'∧D.ct σ' H'
 | .ret u=>∃ v σ' H',Inv X pins σ' H' s'∧RelV v u∧D.rt v H'
def PE (X:Cx)(e:Expr)(t:TE):Prop:=
 ∀ (pins:List (Addr×Obj)) (s:Shared) (σ:St) (H:Hp) (Q:VK),Inv X pins σ H s→t σ H Q→wpAny (model X.prog X.w) X.A (eval e X.env) (EP X pins σ Q) X.xe s
def PT (X:Cx)(e:Expr)(t:TT):Prop:=
 ∀ (pins:List (Addr×Obj)) (s:Shared) (σ:St) (H:Hp) (Q:Bool→Hp→Prop),Inv X pins σ H s→t σ H Q→wpAny (model X.prog X.w) X.A (isTrue e X.env (eval e X.env)) (TP X pins σ Q) X.xe s
def PA (X:Cx)(es:List Expr)(t:TA):Prop:=
 ∀ (pos:Pos) (pins:List (Addr×Obj)) (s:Shared) (σ:St) (H:Hp) (Q:List V→Hp→Prop),Inv X pins σ H s→t σ H Q→wpAny (model X.prog X.w) X.A (spliced (backTo pos (starEach es X.env))) (AP X pins σ Q) X.xe s
def PS (X:Cx)(st:Stmt)(t:TS):Prop:=
 ∀ (pins:List (Addr×Obj)) (s:Shared) (σ:St) (H:Hp) (D:Ends),Inv X pins σ H s→t D σ H→wpAny (model X.prog X.w) X.A (exec st X.env) (SP X pins D) X.xe s
def PSs (X:Cx)(st:List Stmt)(t:TS):Prop:=
 ∀ (pins:List (Addr×Obj)) (s:Shared) (σ:St) (H:Hp) (D:Ends),Inv X pins σ H s→t D σ H→wpAny (model X.prog X.w) X.A (execs st X.env) (SP X pins D) X.xe s
theorem thn {α:Type}{t:Sem α}{Q Q':α→Shared→Prop}{M:Model}{A:Around}{E:Value→Shared→Prop}{s:Shared}(h:wpAny M A t Q E s)(hQ:∀ a s,Q a s→Q' a s):wpAny M A t Q' E s:=wpAny_mono h hQ fun _ _ x=>x
end L2
namespace L2
open PySem PySem.Spec PyProof.Rows
section
variable {X:Cx}
def tVar (i:Nat):TE:=fun σ H Q=>∃ v,σ[i]? = some (some v)∧Q v H
def tC (v:V):TE:=fun _ H Q=>Q v H
theorem pe_var {i:Nat}{x:Str}{pos:Pos}(hN:X.N[i]? = some x)(hv:Vis X.env.scope x)(hd:(x == ("__debug__":Str))=false:=by decide)(hcd:(x == ("__classdict__":Str))=false:=by decide):PE X (.Name x pos) (tVar i):=by
 intro pins s σ H Q I h
 obtain ⟨v,e,h⟩:=h
 obtain ⟨m,hn,hl⟩:=I.loc
 obtain ⟨u,r,l⟩:=hl i x v hN e hv
 have fin:EP X pins σ Q u s:=⟨v,H,I,r,h⟩
 rcases l with ⟨hk,hm⟩ | ⟨hk,c,hc,hcell⟩
 ·exact wpAny_Name (wpAny_loadName_local I.ok.kind hk hn hm fin) hd
 ·rcases hk with hk | hk
  ·exact wpAny_Name (wpAny_loadName_cell I.ok.kind hk hc hcell fin) hd
  ·exact wpAny_Name (wpAny_loadName_free I.ok.kind hk hc hcell fin hcd) hd
theorem pe_int {i j pos}:PE X (.Constant (.int i) j pos) (tC (.int i)):=fun _ _ _ H _ I h=>wpAny_Constant_int ⟨.int i,H,I.tok _,⟨_,rfl⟩,h⟩
theorem pe_bl {b j pos}:PE X (.Constant (.bool b) j pos) (tC (.bl b)):=fun _ _ _ H _ I h=>Constant_bool ⟨.bl b,H,I,rfl,h⟩
theorem pe_non {j pos}:PE X (.Constant .none j pos) (tC .non):=fun _ _ _ H _ I h=>Constant_none ⟨.non,H,I,rfl,h⟩
theorem pe_str {x j pos}:PE X (.Constant (.str x) j pos) (tC (.str x)):=fun _ _ _ H _ I h=>Calls.Constant_str ⟨.str x,H,I.tok _,⟨_,rfl⟩,h⟩
def Gl (X:Cx)(x:Str):Prop:=X.env.kindOf x=some .globalImplicit
theorem ld_glob {E:Value→Shared→Prop}{pins:List (Addr×Obj)}{s:Shared}{σ:St}{H:Hp}{x:Str}{u:Value}{pos:Pos}{Q:Value→Shared→Prop}(I:Inv X pins σ H s)(hg:Gl X x)(hm:X.mg x=some u)(h:Q u s)
  (hd:(x == ("__debug__":Str))=false:=by decide):wpAny (model X.prog X.w) X.A (eval (.Name x pos) X.env) Q E s:=
 Calls.Name_function_global I.ok.kind hg (Calls.loadGlobal_global (by rw [I.ok.glob]; exact I.mod.glob.keeps I.bk) hm h) hd
theorem ld_blt {E:Value→Shared→Prop}{pins:List (Addr×Obj)}{s:Shared}{σ:St}{H:Hp}{x:Str}{u:Value}{pos:Pos}{Q:Value→Shared→Prop}(I:Inv X pins σ H s)(hg:Gl X x)(hm:X.mg x=none)(hv:bootBuiltins x=some u)(h:Q u s)
  (hn:x≠"__name__":=by decide) (hd:(x == ("__debug__":Str))=false:=by decide):wpAny (model X.prog X.w) X.A (eval (.Name x pos) X.env) Q E s:=by
 obtain ⟨mb,h1,h2⟩:=I.mod.blt
 exact Calls.Name_function_global I.ok.kind hg (Calls.loadGlobal_builtin (by rw [I.ok.glob]; exact I.mod.glob.keeps I.bk) hm (by rw [I.ok.blt]; exact h1.keeps I.bk) ((h2 x hn).trans hv) h) hd
theorem pe_glob {x:Str}{v:V}{u:Value}{pos:Pos}(hg:Gl X x)(hm:X.mg x=some u)(r:RelV v u)(hd:(x == ("__debug__":Str))=false:=by decide):PE X (.Name x pos) (tC v):=
 fun _ _ _ H _ I h=>ld_glob I hg hm ⟨v,H,I,r,h⟩ hd
variable {a b:Expr} {ta tb:TE} {pos:Pos}
def tB (t:TE):TT:=fun σ H Q=>t σ H fun x H1=>∃ c,x=.bl c∧Q c H1
theorem pt_val {e:Expr}{t:TE}(h:PE X e t)(he:∀ whole,isTrue e X.env whole=(do let v ← whole; standAt e.pos; holding [v] (truthy v)):=by intro _; rfl):PT X e (tB t):=by
 intro pins s σ H Q I hw
 refine isTrue_plain (thn (h pins s σ H _ I hw) fun v s1 ⟨x,H1,I1,r1,q1⟩=>?_) (he _)
 obtain ⟨d,rfl,q⟩:=q1
 cases r1
 exact wpAny_truthy_bool ⟨H1,I1,q⟩
variable {tA tB':TT} {rest:List Expr}
def tAnd (t u:TT):TT:=fun σ H Q=>t σ H fun c H1=>if c=true then u σ H1 Q else Q false H1
theorem pe_one {op}{t:TE}(h:PE X a t):PE X (.BoolOp op [a] pos) t:=fun pins s σ H Q I hw=>BoolOp_one (h pins s σ H Q I hw)
def tIf (t:TT)(ta tb:TE):TE:=fun σ H Q=>t σ H fun c H1=>if c=true then ta σ H1 Q else tb σ H1 Q
theorem pe_ifExp {c:Expr}(hc:PT X c tA)(ha:PE X a ta)(hb:PE X b tb):PE X (.IfExp c a b pos) (tIf tA ta tb):=by
 intro pins s σ H Q I h
 refine wpAny_IfExp (thn (hc pins s σ H _ I h) fun d s1 ⟨H1,I1,q1⟩=>?_)
 cases d with
 | true=>exact ha pins s1 σ H1 Q I1 q1
 | false=>exact hb pins s1 σ H1 Q I1 q1
end
end L2
namespace L2
open PySem PySem.Spec PyProof.Rows
def SqL (K:PySem.W.Frag)(H:Hp)(a:Addr)(xs:List V):Prop:=
 Rd H a (.lst xs) ∨
  ∃ (o:Obj) (its:Array Value) (n:Nat),K.lookup a=some o∧o.cls=.type "list"∧o.dict=none∧o.data=.seq its n∧its.size≤sizeLine∧Vals xs its.toList
def SqT (K:PySem.W.Frag)(H:Hp)(a:Addr)(xs:List V):Prop:=
 Rd H a (.tup xs) ∨
  ∃ (o:Obj) (its:Array Value) (n:Nat),K.lookup a=some o∧o.cls=.type "tuple"∧o.data=.seq its n∧its.size≤sizeLine∧Vals xs its.toList
def absV:Value→Option V
 | .none=>some .non
 | .bool b=>some (.bl b)
 | .int i _=>some (.int i)
 | .str x _=>some (.str x)
 | .bytes b _=>some (.byt b)
 | .float b _=>some (.flt b)
 | .ref a=>some (.ref a)
 | .type n=>some (.ty n)
 | _=>none
theorem RelV.abs {x:V}{u:Value}(r:RelV x u):absV u=some x:=by
 cases x with
 | non=>cases r; rfl
 | bl _=>cases r; rfl
 | int _=>obtain ⟨t,rfl⟩:=r; rfl
 | str _=>obtain ⟨t,rfl⟩:=r; rfl
 | byt _=>obtain ⟨t,rfl⟩:=r; rfl
 | flt _=>obtain ⟨t,rfl⟩:=r; rfl
 | ref _=>cases r; rfl
 | ty _=>cases r; rfl
theorem RelV.inj {x y:V}{u:Value}(r:RelV x u)(q:RelV y u):x=y:=Option.some.inj (r.abs.symm.trans q.abs)
theorem Vals.inj:∀ {xs ys:List V} {us:List Value},Vals xs us→Vals ys us→xs=ys
 | _,_,_,.nil,.nil=>rfl
 | _,_,_,.cons r t,.cons r' t'=>by rw [r.inj r',Vals.inj t t']
section
variable {X:Cx} {pins:List (Addr×Obj)} {σ:St} {H:Hp} {s:Shared} {a:Addr} {xs ys:List V}
theorem SqL.of {K:PySem.W.Frag}(h:H a=some (.lst xs)):SqL K H a xs:=.inl (.inl h)
theorem SqT.of {K:PySem.W.Frag}(h:H a=some (.tup xs)):SqT K H a xs:=.inl (.inl h)
theorem Inv.list (I:Inv X pins σ H s)(h:SqL X.K H a xs):∃ its:List Value,Vals xs its∧PlainL s.heap a its.toArray∧xs.length≤sizeLine:=by
 rcases h with h | ⟨o,its,n,hk,hc,hd,hs,hz,r⟩
 ·obtain ⟨z,its,n,r,e⟩:=h.ok I.hok
  exact ⟨its,r,⟨_,n,e,rfl,rfl,rfl⟩,z⟩
 ·refine ⟨its.toList,r,⟨o,n,I.kIn a o hk,hc,hd,by simpa using hs⟩,?_⟩
  have e:=r.length
  simp only [Array.length_toList] at e
  omega
theorem Inv.tuple (I:Inv X pins σ H s)(h:SqT X.K H a xs):∃ its:List Value,Vals xs its∧IsTup s.heap a its.toArray∧xs.length≤sizeLine:=by
 rcases h with h | ⟨o,its,n,hk,hc,hs,hz,r⟩
 ·obtain ⟨z,its,r,p⟩:=h.ok I.hok
  exact ⟨its,r,p,z⟩
 ·refine ⟨its.toList,r,⟨o,I.kIn a o hk,hc,n,by simpa using hs⟩,?_⟩
  have e:=r.length
  simp only [Array.length_toList] at e
  omega
theorem Inv.list_inj (I:Inv X pins σ H s)(h:SqL X.K H a xs)(h':SqL X.K H a ys):xs=ys:=by
 obtain ⟨its,r,⟨o,n,e,_,_,d⟩,_⟩:=I.list h
 obtain ⟨its',r',⟨o',n',e',_,_,d'⟩,_⟩:=I.list h'
 rw [e] at e'; cases e'
 rw [d] at d'
 injection d' with d1 _
 have:its=its':=by simpa using congrArg Array.toList d1
 subst this
 exact r.inj r'
end
abbrev Cx.wish (X:Cx)(E:Value→Shared→Prop):Cx:={ X with xe:=E }
abbrev Cx.nox (X:Cx):Cx:=X.wish fun _ _=>False
theorem Cx.Ok.wish {X:Cx}(ok:X.Ok)(E:Value→Shared→Prop):(X.wish E).Ok:=
 ⟨ok.mod,ok.kind,ok.glob,ok.blt,ok.above,ok.inj,ok.has,ok.cab,ok.hd,ok.frames,ok.stk,ok.exf,ok.bs,ok.bsz,ok.noex,ok.exfs,ok.funs,ok.frf,ok.lq⟩
theorem Cx.Ok.unwish {X:Cx}{E:Value→Shared→Prop}(ok:(X.wish E).Ok):X.Ok:=
 ⟨ok.mod,ok.kind,ok.glob,ok.blt,ok.above,ok.inj,ok.has,ok.cab,ok.hd,ok.frames,ok.stk,ok.exf,ok.bs,ok.bsz,ok.noex,ok.exfs,ok.funs,ok.frf,ok.lq⟩
section
variable {X:Cx} {pins:List (Addr×Obj)} {σ:St} {H:Hp} {s:Shared} {E:Value→Shared→Prop}
theorem Inv.wish (I:Inv X pins σ H s)(E:Value→Shared→Prop):Inv (X.wish E) pins σ H s:=⟨I.ok.wish E,I.os,I.bare,I.base,I.loc,I.cell,I.free,I.freeC,I.pin,I.hok,I.len⟩
theorem Inv.unwish (I:Inv (X.wish E) pins σ H s):Inv X pins σ H s:=⟨I.ok.unwish,I.os,I.bare,I.base,I.loc,I.cell,I.free,I.freeC,I.pin,I.hok,I.len⟩
theorem SP.unwish {D:Ends}{f:Flow}{s':Shared}(h:SP (X.wish E) pins D f s'):SP X pins D f s':=by
 cases f with
 | next=>obtain ⟨σ',H',I,q⟩:=h; exact ⟨σ',H',I.unwish,q⟩
 | brk=>obtain ⟨σ',H',I,q⟩:=h; exact ⟨σ',H',I.unwish,q⟩
 | cont=>obtain ⟨σ',H',I,q⟩:=h; exact ⟨σ',H',I.unwish,q⟩
 | ret u=>obtain ⟨v,σ',H',I,r,q⟩:=h; exact ⟨v,σ',H',I.unwish,r,q⟩
theorem PSs.nox {st:List Stmt}{t:TS}(h:PSs X.nox st t):PSs X st t:=fun pins s σ H D I hw=>
 wpAny_mono (h pins s σ H D (I.wish _) hw) (fun _ _ q=>q.unwish) fun _ _ z=>False.elim z
end
section
variable {X:Cx} {st:Stmt} {rest:List Stmt} {t u:TS} {e:Expr} {te:TE} {pos:Pos}
def tNext:TS:=fun D σ H=>D.nx σ H
def tSeq (t u:TS):TS:=fun D σ H=>t { D with nx:=u D } σ H
theorem pss_nil:PSs X [] tNext:=fun _ _ σ H _ I h=>wpAny_execs_nil ⟨σ,H,I,h⟩
theorem pss_cons (h1:PS X st t)(h2:PSs X rest u):PSs X (st::rest) (tSeq t u):=by
 intro pins s σ H D I h
 refine wpAny_execs_cons (thn (h1 pins s σ H { D with nx:=u D } I h) fun f s1 q=>?_)
 cases f with
 | next=>
  obtain ⟨σ',H',I',q⟩:=q
  exact h2 pins s1 σ' H' D I' q
 | ret v=>exact q
 | brk=>exact q
 | cont=>exact q
theorem pss_one (h1:PS X st t):PSs X [st] t:=by
 intro pins s σ H D I h
 refine wpAny_execs_cons (thn (h1 pins s σ H D I h) fun f s1 q=>?_)
 cases f with
 | next=>exact wpAny_execs_nil q
 | ret v=>exact q
 | brk=>exact q
 | cont=>exact q
theorem Inv.quiet {pins:List (Addr×Obj)}{σ:St}{H:Hp}{s:Shared}(I:Inv X pins σ H s):interactive X.env=false:=by simp [interactive,I.ok.kind]
def tDrop (te:TE):TS:=fun D σ H=>te σ H fun _ H1=>D.nx σ H1
theorem ps_expr (he:PE X e te)(hs:swapsWith e none pos.line X.env=pure false:=by rfl):PS X (.Expr e pos) (tDrop te):=by
 intro pins s σ H D I h
 exact wpAny_Expr_any (thn (he pins s σ H _ I h) fun v s1 ⟨x,H1,I1,r1,q1⟩=>⟨σ,H1,I1,q1⟩) I.quiet hs
def tRet (te:TE):TS:=fun D σ H=>te σ H D.rt
theorem ps_ret (he:PE X e te):PS X (.Return (some e) pos) (tRet te):=by
 intro pins s σ H D I h
 exact wpAny_Return_some (thn (he pins s σ H _ I h) fun v s1 ⟨x,H1,I1,r1,q1⟩=>⟨x,σ,H1,I1,r1,q1⟩)
def tIfS (c:TT)(t u:TS):TS:=fun D σ H=>c σ H fun b H1=>if b=true then t D σ H1 else u D σ H1
theorem ps_if {c:Expr}{a b:List Stmt}{tc:TT}(hc:PT X c tc)(ha:PSs X a t)(hb:PSs X b u):PS X (.If c a b pos) (tIfS tc t u):=by
 intro pins s σ H D I h
 refine wpAny_If (thn (hc pins s σ H _ I h) fun d s1 ⟨H1,I1,q1⟩=>?_)
 cases d with
 | true=>exact ha pins s1 σ H1 D I1 q1
 | false=>exact hb pins s1 σ H1 D I1 q1
end
abbrev TG:=V→St→Hp→(St→Hp→Prop)→Prop
abbrev TGs:=List V→St→Hp→(St→Hp→Prop)→Prop
def PG (X:Cx)(target:Expr)(t:TG):Prop:=
 ∀ (pins:List (Addr×Obj)) (s:Shared) (σ:St) (H:Hp) (v:V) (u:Value) (Q:St→Hp→Prop),Inv X pins σ H s→RelV v u→t v σ H Q →
  wpAny (model X.prog X.w) X.A (assign target X.env u) (fun _ s'=>∃ σ' H',Inv X pins σ' H' s'∧Q σ' H') X.xe s
def PGs (X:Cx)(ts:List Expr)(t:TGs):Prop:=
 ∀ (pins:List (Addr×Obj)) (s:Shared) (σ:St) (H:Hp) (vs:List V) (us:List Value) (Q:St→Hp→Prop),Inv X pins σ H s→Vals vs us→t vs σ H Q →
  wpAny (model X.prog X.w) X.A (assignInOrder ((assignEach ts X.env).map (·.2)) us) (fun _ s'=>∃ σ' H',Inv X pins σ' H' s'∧Q σ' H') X.xe s
section
variable {X:Cx} {pos:Pos}
def gName (i:Nat):TG:=fun v σ H Q=>Q (σ.set i (some v)) H
theorem pg_name {i:Nat}{x:Str}(hN:X.N.Nodup)(hi:X.N[i]? = some x)(hx:Loc X.env.scope x)(hf:X.fn x=true∨X.env.scope.names.lookup x=some .local:=by first | exact .inl rfl | exact .inr rfl | assumption):PG X (.Name x pos) (gName i):=by
 intro pins s σ H v u Q I r h
 exact wpAny_assign_Name (store_ok I hN hi hx r (fun s' I'=>⟨_,H,I',h⟩) hf)
def gNil:TGs:=fun vs σ H Q=>vs=[]∧Q σ H
def gCons (t:TG)(u:TGs):TGs:=fun vs σ H Q=>∃ v r,vs=v::r∧t v σ H fun σ' H'=>u r σ' H' Q
theorem pgs_nil:PGs X [] gNil:=by
 intro pins s σ H vs us Q I r h
 obtain ⟨e,h⟩:=h
 subst e
 cases r
 exact assignInOrder_nil ⟨σ,H,I,h⟩
theorem pgs_cons {e:Expr}{es:List Expr}{t:TG}{u:TGs}(h1:PG X e t)(h2:PGs X es u)
  (hs:(assignEach (e::es) X.env).map (·.2)=assign e X.env::(assignEach es X.env).map (·.2):=by rfl):PGs X (e::es) (gCons t u):=by
 intro pins s σ H vs us Q I r h
 obtain ⟨v,vr,e1,h⟩:=h
 subst e1
 cases r with
 | cons r rr=>
  rw [hs]
  refine assignInOrder_cons (thn (h1 pins s σ H _ _ _ I r h) fun _ s1 ⟨σ1,H1,I1,q1⟩=>?_)
  exact h2 pins s1 σ1 H1 _ _ Q I1 rr q1
def gTup (K:PySem.W.Frag)(n:Nat)(t:TGs):TG:=fun v σ H Q=>∃ a xs,v=.ref a∧SqT K H a xs∧xs.length=n∧t xs σ H Q
theorem pg_tup {es:List Expr}{k:Nat}{t:TGs}{n:Nat}(hc:X.calm=X.calm)(h:PGs X es t)
  (hn:(assignEach es X.env).length=n:=by rfl) (hst:(assignEach es X.env).findIdx? (·.1)=none:=by rfl):PG X (.Tuple es k pos) (gTup X.K n t):=by
 intro pins s σ H v u Q I r hw
 obtain ⟨a,xs,e1,hq,hl,hw⟩:=hw
 subst e1
 cases r
 obtain ⟨its,rv,ht,hz⟩:=I.tuple hq
 refine asgTup_q I.qh ht (by simp [hn,← hl,rv.length]) hst fun h' hx=>?_
 have I1:Inv X pins σ H { s with heap:=h' }:=I.kept (t':=s.toks) fun b o e=>hx b o (Nat.ne_of_lt (Heap.lt_size e)) e
 exact h pins _ σ H xs _ Q I1 (by simpa using rv) hw
def tAsg (te:TE)(g:TG):TS:=fun D σ H=>te σ H fun x H1=>g x σ H1 D.nx
theorem ps_set {i:Nat}{x:Str}{e:Expr}{te:TE}{pos':Pos}(hN:X.N.Nodup)(hi:X.N[i]? = some x)(hx:Loc X.env.scope x)(he:PE X e te)(hs:swapsWith e (some (.Name x pos')) pos.line X.env=pure false:=by rfl)(hf:X.fn x=true∨X.env.scope.names.lookup x=some .local:=by first | exact .inl rfl | exact .inr rfl | assumption) :
  PS X (.Assign [.Name x pos'] e pos) (tAsg te (gName i)):=by
 intro pins s σ H D I h
 refine wpAny_Assign_Name (thn (he pins s σ H _ I h) fun v s1 ⟨y,H1,I1,r1,q1⟩=>?_) hs
 exact store_ok I1 hN hi hx r1 (fun s2 I2=>⟨_,H1,I2,q1⟩) hf
end
structure It where
 go:Nat→Hp→Prop
 yld:Nat→Hp→V→Hp→Prop
 stop:Nat→Hp→Prop
def FpOk (X:Cx)(pins:List (Addr×Obj))(H:Hp)(b:Addr):Prop:=
 H b=none∧b≠X.env.locals∧b ∉ X.fs∧(b∈X.ex∨X.s₀.heap.objs.size≤b)∧(∀ x c,X.env.cells.lookup x=some c→c≠b)∧∀ p∈X.pn++pins,p.1≠b
theorem Inv.fpOk {X:Cx}{pins:List (Addr×Obj)}{σ:St}{H H':Hp}{s:Shared}{b:Addr}(I:Inv X pins σ H s)(hb:s.heap.objs.size≤b)(hn:H' b=none):FpOk X pins H' b:=by
 refine ⟨hn,Nat.ne_of_gt (Nat.lt_of_lt_of_le I.lt hb),I.nofs hb,.inr (Nat.le_trans I.sz hb),fun x c e z=>?_,fun p hp z=>?_⟩
 ·obtain ⟨v,q⟩:=I.cell x c e
  exact absurd (Nat.lt_of_lt_of_le q.lt (by rw [z]; exact hb)) (Nat.lt_irrefl _)
 ·exact absurd (Nat.lt_of_lt_of_le (Heap.lt_size (I.pin p hp).1) (by rw [z]; exact hb)) (Nat.lt_irrefl _)
structure Turn (P:Program)(w:World)(K:PySem.W.Frag)(tg:Expr)(J:It)(fp:List Addr)(it:Addr)(tn:Nat→Heap→Prop)(qq:Bool):Prop where
 mem:it∈fp
 obj:∀ i h,tn i h→∀ b∈fp,∃ o,h.get? b=some o∧∀ v,o.data≠.cell v
 keep:∀ i h h',tn i h→(∀ b∈fp,∀ o,h.get? b=some o→h'.get? b=some o)→tn i h'
 item:∀ (X:Cx),X.prog=P→X.w=w→X.K=K→(qq=true→X.calm=true)→∀ (i:Nat) (pins:List (Addr×Obj)) (s:Shared) (σ:St) (H:Hp) (E:Value→Shared→Prop),Inv X pins σ H s→(∀ b∈fp,FpOk X pins H b)→tn i s.heap→J.go i H →
  wpAny (model P w) X.A (pyNext (.ref it)) (fun r s1=>∃ u,r=some u ∧
   wpAny (model P w) X.A (letOwnedTupleGo tg (.ref it) u) (fun _ s2=>∃ x H',Inv X pins σ H' s2∧RelV x u∧J.yld i H x H'∧tn (i+1) s2.heap∧∀ b∈fp,H' b=none) E s1) E s
 done:∀ (X:Cx),X.prog=P→X.w=w→X.K=K→(qq=true→X.calm=true)→∀ (i:Nat) (pins:List (Addr×Obj)) (s:Shared) (σ:St) (H:Hp) (E:Value→Shared→Prop),Inv X pins σ H s→(∀ b∈fp,FpOk X pins H b)→tn i s.heap→J.stop i H →
  wpAny (model P w) X.A (pyNext (.ref it)) (fun r s1=>r=none∧Inv X pins σ H s1) E s
 self:∀ (A:Around) (i:Nat) (s:Shared) (Q:Value→Shared→Prop) (E:Value→Shared→Prop),tn i s.heap→Q (.ref it) s→wpAny (model P w) A (pyIter (.ref it)) Q E s
abbrev TI:=St→Hp→(It→Hp→Prop)→Prop
def PIE (X:Cx)(pins:List (Addr×Obj))(σ:St)(tg:Expr)(R:It→Hp→Prop)(itv:Value)(s2:Shared):Prop:=
 ∃ (it:Addr) (fp:List Addr) (tn:Nat→Heap→Prop) (J:It) (H':Hp),itv=.ref it∧Inv X pins σ H' s2∧(∃ qq,(qq=true→X.calm=true)∧Turn X.prog X.w X.K tg J fp it tn qq)∧tn 0 s2.heap∧(∀ b∈fp,FpOk X pins H' b)∧R J H'
def PI (X:Cx)(tg iter:Expr)(wi:TI):Prop:=
 ∀ (pins:List (Addr×Obj)) (s:Shared) (σ:St) (H:Hp) (R:It→Hp→Prop),Inv X pins σ H s→wi σ H R →
  wpAny (model X.prog X.w) X.A (eval iter X.env) (fun v s1=>wpAny (model X.prog X.w) X.A (pyIter v) (PIE X pins σ tg R) X.xe s1) X.xe s
theorem go_of {M:Model}{A:Around}{E:Value→Shared→Prop}{s:Shared}{tg:Expr}{it:Addr}{u:Value}{o:Obj}{n:String}{vs:Array Value}{Q:Unit→Shared→Prop}(ho:s.heap.get? it=some o)(hc:o.cls=.type n)(hd:o.data=.fields vs)
    (hn:["enumerate","zip","dict_itemiterator","dict_reverseitemiterator","odict_iterator","itertools.zip_longest","itertools.pairwise"].contains n=false) (hQ:Q () s):wpAny M A (letOwnedTupleGo tg (.ref it) u) Q E s:=by
  unfold letOwnedTupleGo
  cases tg <;> first
    | exact wpAny_pure hQ
    | (cases u <;> first
        | exact wpAny_pure hQ
        | (refine wpAny_bind (wpAny_load ho ?_)
           rw [hc,hd]
           show wpAny M A (if (["enumerate","zip","dict_itemiterator","dict_reverseitemiterator","odict_iterator","itertools.zip_longest","itertools.pairwise"].contains n && vs[0]? == some (rawInt _))=true then _ else _) Q E s
           rw [if_neg (by intro h; rw [hn,Bool.false_and] at h; cases h)]
           exact wpAny_pure hQ))
def Itl (K:PySem.W.Frag)(a:Addr):It:=
 ⟨fun i H=>∃ xs x,SqL K H a xs∧xs[i]? = some x,fun i H x H'=>H'=H∧∀ xs,SqL K H a xs→xs[i]? = some x,fun i H=>∃ xs,SqL K H a xs∧xs.length≤i⟩
def Itr (lo:Int)(n:Nat):It:=⟨fun i _=>i<n,fun i H x H'=>H'=H∧x=.int (lo+i),fun i _=>n≤i⟩
theorem turn_list {P:Program}{w:World}{K:PySem.W.Frag}{tg:Expr}(a it:Addr):Turn P w K tg (Itl K a) [it] it (fun i h=>h.IsListIter it a i) false where
 mem:=by simp
 obj:=fun i h st b hb=>by
  have e:b=it:=by simpa using hb
  subst e
  obtain ⟨o,e,c,d⟩:=st
  exact ⟨o,e,fun v z=>by rw [d] at z; cases z⟩
 keep:=fun i h h' st k=>st.at fun o e=>k it (by simp) o e
 item:=by
  intro X hP hw hK hc i pins s σ H E I hf st hg
  subst hP hw hK
  obtain ⟨xs,x,hq,hx⟩:=hg
  obtain ⟨its,rv,p,hz⟩:=I.list hq
  obtain ⟨u,hu,ru⟩:=rv.get hx
  obtain ⟨f0,f1,f2,f3,f4,f5⟩:=hf it (by simp)
  refine wpAny_pyNext_list_item st p.isList (x:=u) (by simpa using hu) fun h' st' sb=>?_
  have I1:Inv X pins σ H { s with heap:=h' }:=I.turned (t':=s.toks) (fun b o hb e=>(sb.2 b hb).trans e) f0 f1 f3 f4 f5
  obtain ⟨o,e,c,d⟩:=id st'
  exact ⟨u,rfl,go_of (s:={ s with heap:=h' }) e c d (by decide) ⟨x,H,I1,ru,⟨rfl,fun ys hy=>by rw [I.list_inj hy hq]; exact hx⟩,st',fun b hb=>(hf b hb).1⟩⟩
 done:=by
  intro X hP hw hK hc i pins s σ H E I hf st hg
  subst hP hw hK
  obtain ⟨xs,hq,hx⟩:=hg
  obtain ⟨its,rv,p,hz⟩:=I.list hq
  obtain ⟨f0,f1,f2,f3,f4,f5⟩:=hf it (by simp)
  have hl:=rv.length
  exact listEnd_q I.qh (I.qne f0) st p.isList (by simp; omega) fun h' eb=>⟨rfl,I.turned (t':=s.toks) (fun b o hb e=>eb b o hb e) f0 f1 f3 f4 f5⟩
 self:=fun _ _ _ _ _ st h=>wpAny_pyIter_listiter st h
theorem turn_range {P:Program}{w:World}{K:PySem.W.Frag}{tg:Expr}(it:Addr)(lo:Int)(n:Nat):Turn P w K tg (Itr lo n) [it] it (fun i h=>IsRangeIter h it (lo+(i:Nat) * 1) ((n:Int) - (i:Nat)) 1) true where
 mem:=by simp
 obj:=fun i h st b hb=>by
  have e:b=it:=by simpa using hb
  subst e
  exact ⟨_,st,fun v z=>by
   have z':Data.fields _=Data.cell v:=z
   cases z'⟩
 keep:=fun i h h' st k=>k it (by simp) _ st
 item:=by
  intro X hP hw hK hc i pins s σ H E I hf st hg
  subst hP hw hK
  obtain ⟨f0,f1,f2,f3,f4,f5⟩:=hf it (by simp)
  have W:=Walks.range (prog:=X.prog) (w:=X.w) (I.ok.hd (hc rfl)) it lo 1 n
  refine W.item i s _ _ hg st fun v h' tk hv st' kk=>?_
  obtain ⟨t,rfl⟩:=hv
  have I1:Inv X pins σ H { s with heap:=h',toks:=tk }:=I.turned (fun b o hb e=>kk b o (by simpa using hb) e) f0 f1 f3 f4 f5
  refine ⟨_,rfl,go_of (s:={ s with heap:=h',toks:=tk }) (n:="range_iterator") st' rfl rfl (by decide) ⟨.int (lo+i),H,I1,⟨t,?_⟩,⟨rfl,rfl⟩,st',fun b hb=>(hf b hb).1⟩⟩
  rw [Int.mul_one]
 done:=by
  intro X hP hw hK hc i pins s σ H E I hf st hg
  subst hP hw hK
  obtain ⟨f0,f1,f2,f3,f4,f5⟩:=hf it (by simp)
  exact wpAny_pyNext_range_end (I.ok.hd (hc rfl)) st (by have:n≤i:=hg; omega) fun h' eb=>⟨rfl,I.turned (t':=s.toks) (fun b o hb e=>eb b o hb e) f0 f1 f3 f4 f5⟩
 self:=fun _ _ _ _ _ st h=>wpAny_pyIter_rangeiter st h
end L2
namespace L2
open PySem PySem.Spec PyProof.Rows
section
variable {X:Cx} {tg:Expr}
def iList (K:PySem.W.Frag)(tl:TE):TI:=fun σ H R=>tl σ H fun x H1=>∃ a,x=.ref a∧(∃ xs,SqL K H1 a xs)∧R (Itl K a) H1
theorem pi_list {l:Expr}{tl:TE}(hl:PE X l tl):PI X tg l (iList X.K tl):=by
 intro pins s σ H R I h
 refine thn (hl pins s σ H _ I h) fun v s1 ⟨x,H1,I1,r1,q1⟩=>?_
 obtain ⟨a,e,⟨xs,hq⟩,q⟩:=q1
 subst e
 cases r1
 obtain ⟨its,rv,p,hz⟩:=I1.list hq
 refine wpAny_pyIter_list p.isList ?_
 refine ⟨s1.heap.objs.size,[s1.heap.objs.size],_,_,H1,rfl,I1.kept (t':=s1.toks) fun b o e=>Heap.get?_push_of_some _ e,⟨false,(fun z=>by cases z),turn_list a _⟩,⟨_,Heap.get?_push_size _ rfl,rfl,rfl⟩,fun b hb=>?_,q⟩
 have e:b=s1.heap.objs.size:=by simpa using hb
 subst e
 exact I1.fpOk (Nat.le_refl _) (I1.hok.fresh (Nat.le_refl _))
theorem range_it {pins:List (Addr×Obj)}{σ:St}{H:Hp}{s:Shared}{R:It→Hp→Prop}{E:Value→Shared→Prop}{lo hi:Int}{t u v:Tok}{tk:Nat}(hc:X.calm=true)(I:Inv X pins σ H s)(h1:-(2 ^ 62)≤lo)(h2:lo<2 ^ 62)(h3:-(2 ^ 62)≤hi)(h4:hi<2 ^ 62)
  (q:R (Itr lo (hi - lo).toNat) H):wpAny (model X.prog X.w) X.A (pyIter (.ref s.heap.objs.size)) (PIE X pins σ tg R) E { s with heap:=s.heap.push { cls:=.type "range",data:=.fields #[.int lo t,.int hi u,.int 1 v] },toks:=tk }:=by
 refine wpAny_pyIter_range (IsRange.new ..) (small_one h1 h2 h3 h4) ?_
 have I1:Inv X pins σ H { s with heap:=s.heap.push { cls:=.type "range",data:=.fields #[.int lo t,.int hi u,.int 1 v] },toks:=tk }:=I.kept fun b o e=>Heap.get?_push_of_some _ e
 refine ⟨(s.heap.push { cls:=.type "range",data:=.fields #[.int lo t,.int hi u,.int 1 v] }).objs.size,[(s.heap.push { cls:=.type "range",data:=.fields #[.int lo t,.int hi u,.int 1 v] }).objs.size],_,_,H,rfl,
  I1.kept (t':=tk) fun b o e=>Heap.get?_push_of_some _ e,⟨true,fun _=>hc,turn_range _ lo (hi - lo).toNat⟩,?_,fun b hb=>?_,q⟩
 ·have e1:lo+((0:Nat):Int) * 1=lo:=by simp
  have e2:(((hi - lo).toNat:Nat):Int) - ((0:Nat):Int)=Builtin.Range.rangeSize lo hi 1:=by rw [rangeSize_one]; split <;> omega
  show IsRangeIter _ _ (lo+((0:Nat):Int) * 1) ((((hi - lo).toNat:Nat):Int) - ((0:Nat):Int)) 1
  rw [e1,e2]
  exact Heap.get?_push_size _ rfl
 ·have e:b=(s.heap.push { cls:=.type "range",data:=.fields #[.int lo t,.int hi u,.int 1 v] }).objs.size:=by simpa using hb
  subst e
  exact I1.fpOk (Nat.le_refl _) (I1.hok.fresh (Nat.le_refl _))
def iRng1 (ta:TA):TI:=fun σ H R=>ta σ H fun vs H1=>∃ j:Int,vs=[.int j] ∧ -(2 ^ 62)≤j∧j<2 ^ 62∧R (Itr 0 j.toNat) H1
theorem pi_range1 {a:Expr}{ta:TA}{p pos:Pos}(hg:Gl X "range")(hm:X.mg "range"=none)(ha:PA X [a] ta)(hs:starEach [a] X.env=[(false,eval a X.env)]:=by rfl)(hc:X.calm=true:=by rfl):PI X tg (.Call (.Name "range" p) [a] [] pos) (iRng1 ta):=by
 intro pins s σ H R I h
 refine Call_ (ld_blt I hg hm boot_range (PyProof.Rows.callWith_type1 (thn (ha pos pins s σ H _ I h) fun us s1 ⟨vs,H1,I1,r1,q1⟩=>?_) hs rfl))
 obtain ⟨j,e,q1,q2,q⟩:=q1
 subst e
 cases r1 with
 | cons r rr=>
  cases rr
  obtain ⟨t,rfl⟩:=r
  exact call_range_1 (range_it hc I1 (by omega) (by omega) q1 q2 (by simpa using q))
def tFor (wi:TI)(g:TG)(tb:TS):TS:=fun D σ H=>wi σ H fun J H1=>∃ W:Nat→Nat→St→Hp→Prop,(∃ m,W 0 m σ H1)∧∀ i m σ H,W i m σ H →
 (J.stop i H∧D.nx σ H)∨(J.go i H∧∃ N:St→Hp→Prop,(∀ σ' H',N σ' H'→∃ m',m'<m∧W (i+1) m' σ' H')∧∀ x H',J.yld i H x H'→g x σ H' fun σ2 H2=>tb { D with nx:=N,ct:=N,bk:=D.nx } σ2 H2)
def pinsAt (fp:List Addr)(h:Heap):List (Addr×Obj):=fp.filterMap fun b=>(h.get? b).map fun o=>(b,o)
theorem mem_pinsAt {fp:List Addr}{h:Heap}{b:Addr}{o:Obj}(hb:b∈fp)(e:h.get? b=some o):(b,o)∈pinsAt fp h:=List.mem_filterMap.mpr ⟨b,hb,by rw [e]; rfl⟩
theorem of_pinsAt {fp:List Addr}{h:Heap}{p:Addr×Obj}(hp:p∈pinsAt fp h):p.1∈fp∧h.get? p.1=some p.2:=by
 obtain ⟨b,hb,e⟩:=List.mem_filterMap.mp hp
 cases q:h.get? b with
 | none=>rw [q] at e; cases e
 | some o=>
  rw [q] at e
  have e':(b,o)=p:=Option.some.inj e
  subst e'
  exact ⟨hb,q⟩
theorem Inv.pinned {pins:List (Addr×Obj)}{σ:St}{H:Hp}{s:Shared}{fp:List Addr}(I:Inv X pins σ H s)(hf:∀ b∈fp,FpOk X pins H b)(ho:∀ b∈fp,∃ o,s.heap.get? b=some o∧∀ v,o.data≠.cell v):Inv X (pins++pinsAt fp s.heap) σ H s:=
 I.pins_of fun p hp=>(List.mem_append.mp hp).elim (fun z=>I.pin p (List.mem_append_right _ z)) fun z=>by
  obtain ⟨hb,e⟩:=of_pinsAt z
  obtain ⟨f0,f1,f2,_⟩:=hf p.1 hb
  obtain ⟨o,e',d⟩:=ho p.1 hb
  rw [e] at e'; cases e'
  exact ⟨e,f0,f1,f2,d⟩
theorem Inv.unpinned {pins pl:List (Addr×Obj)}{σ:St}{H:Hp}{s:Shared}(I:Inv X (pins++pl) σ H s):Inv X pins σ H s:=I.pins_of fun p hp=>I.pin p (List.mem_append_right _ (List.mem_append_left _ hp))
theorem ps_for {iter:Expr}{body:List Stmt}{wi:TI}{g:TG}{tb:TS}{pos:Pos}(hp:PassesOwn (model X.prog X.w) X.A X.env X.xe)(hc:X.calm=X.calm)(hi:PI X tg iter wi)(hg:PG X tg g)(hb:PSs X body tb)
  (hs:∀ x,foldedSetIterable iter X.env x=pure x:=by intro _; rfl):PS X (.For tg iter body [] pos) (tFor wi g tb):=by
 intro pins s σ H D I h
 refine wpAny_For (thn (hi pins s σ H _ I h) fun v s1 h1=>thn h1 fun itv s2 h2=>?_) hs
 obtain ⟨it,fp,tn,J,H2,e,I2,⟨qq,hqq,T⟩,st2,f2,W,⟨m0,w0⟩,turn⟩:=h2
 subst e
 have stat:∀ {H':Hp},(∀ b∈fp,H' b=none)→∀ b∈fp,FpOk X pins H' b:=fun hn b hb=>⟨hn b hb,(f2 b hb).2⟩
 refine codeAny_forLoop_any (fun n s'=>∃ i σ' H',Inv X pins σ' H' s'∧tn i s'.heap∧(∀ b∈fp,H' b=none)∧W i n σ' H') ?_ m0 ⟨0,σ,H2,I2,st2,fun b hb=>(f2 b hb).1,w0⟩
 rintro n s3 ⟨i,σ3,H3,I3,st3,fr3,w3⟩
 rcases turn i n σ3 H3 w3 with ⟨stop,qn⟩ | ⟨go,N,hN,step⟩
 ·refine wpAny_passesOwn hp (thn (T.done X rfl rfl rfl hqq i pins s3 σ3 H3 X.xe I3 (stat fr3) st3 stop) fun r s4 ⟨hr,I4⟩=>?_)
  subst hr
  exact wpAny_execs_nil ⟨σ3,H3,I4,qn⟩
 ·refine wpAny_passesOwn hp (thn (T.item X rfl rfl rfl hqq i pins s3 σ3 H3 X.xe I3 (stat fr3) st3 go) fun r s4 ⟨u,hr,h4⟩=>?_)
  subst hr
  refine wpAny_passesOwn hp (thn h4 fun _ s5 ⟨x,H5,I5,r5,y5,st5,fr5⟩=>?_)
  have I5':=I5.pinned (stat fr5) (T.obj _ _ st5)
  refine wpAny_passesOwn hp (thn (hg _ s5 σ3 H5 x u _ I5' r5 (step x H5 y5)) fun _ s6 ⟨σ6,H6,I6,q6⟩=>?_)
  refine wpAny_passesOwn hp (thn (hb _ s6 σ6 H6 _ I6 q6) fun f s7 q7=>?_)
  have again:∀ {σ7:St} {H7:Hp},Inv X (pins++pinsAt fp s5.heap) σ7 H7 s7→N σ7 H7→∃ m,m<n∧∃ i σ' H',Inv X pins σ' H' s7∧tn i s7.heap∧(∀ b∈fp,H' b=none)∧W i m σ' H':=fun {σ7 H7} I7 n7=>by
   obtain ⟨m',hm,w7⟩:=hN σ7 H7 n7
   refine ⟨m',hm,i+1,σ7,H7,I7.unpinned,T.keep _ _ _ st5 fun b hb o e=>(I7.pin (b,o) (List.mem_append_right _ (List.mem_append_right _ (mem_pinsAt hb e)))).1,fun b hb=>?_,w7⟩
   obtain ⟨o,e,d⟩:=T.obj _ _ st5 b hb
   exact (I7.pin (b,o) (List.mem_append_right _ (List.mem_append_right _ (mem_pinsAt hb e)))).2.1
  cases f with
  | next=>obtain ⟨σ7,H7,I7,n7⟩:=q7; exact again I7 n7
  | cont=>obtain ⟨σ7,H7,I7,n7⟩:=q7; exact again I7 n7
  | brk=>obtain ⟨σ7,H7,I7,q7⟩:=q7; exact ⟨σ7,H7,I7.unpinned,q7⟩
  | ret v=>obtain ⟨x7,σ7,H7,I7,r7,q7⟩:=q7; exact ⟨x7,σ7,H7,I7.unpinned,r7,q7⟩
end
end L2
namespace L2
open PySem PySem.Spec PyProof.Rows
abbrev R2:=V→V→Hp→VK→Prop
def OpR (X:Cx)(f:Value→Value→Sem Value)(r:R2):Prop:=
 ∀ (pins:List (Addr×Obj)) (s:Shared) (σ:St) (H:Hp) (x y:V) (v u:Value) (Q:VK),Inv X pins σ H s→RelV x v→RelV y u→r x y H Q →
  wpAny (model X.prog X.w) X.A (f v u) (EP X pins σ Q) X.xe s
def UnR (X:Cx)(f:Value→Sem Value)(r:V→Hp→VK→Prop):Prop:=
 ∀ (pins:List (Addr×Obj)) (s:Shared) (σ:St) (H:Hp) (x:V) (v:Value) (Q:VK),Inv X pins σ H s→RelV x v→r x H Q →
  wpAny (model X.prog X.w) X.A (f v) (EP X pins σ Q) X.xe s
def CallR (X:Cx)(f:Value)(r:List V→Hp→VK→Prop):Prop:=
 ∀ (pins:List (Addr×Obj)) (s:Shared) (σ:St) (H:Hp) (xs:List V) (us:List Value) (Q:VK),Inv X pins σ H s→Vals xs us→r xs H Q →
  wpAny (model X.prog X.w) X.A (call f us) (EP X pins σ Q) X.xe s
def TruR (X:Cx)(r:V→Hp→(Bool→Hp→Prop)→Prop):Prop:=
 ∀ (pins:List (Addr×Obj)) (s:Shared) (σ:St) (H:Hp) (x:V) (v:Value) (Q:Bool→Hp→Prop),Inv X pins σ H s→RelV x v→r x H Q →
  wpAny (model X.prog X.w) X.A (truthy v) (TP X pins σ Q) X.xe s
def tOp (r:R2)(ta tb:TE):TE:=fun σ H Q=>ta σ H fun x H1=>tb σ H1 fun y H2=>r x y H2 Q
def tUn (r:V→Hp→VK→Prop)(ta:TE):TE:=fun σ H Q=>ta σ H fun x H1=>r x H1 Q
def rI (C:Int→Int→Prop)(g:Int→Int→V):R2:=fun x y H Q=>∃ i j,x=.int i∧y=.int j∧C i j∧Q (g i j) H
def rI0 (g:Int→Int→V):R2:=fun x y H Q=>∃ i j,x=.int i∧y=.int j∧Q (g i j) H
def rU (g:Int→V):V→Hp→VK→Prop:=fun x H Q=>∃ i,x=.int i∧Q (g i) H
section
variable {X:Cx} {a b c:Expr} {ta tb tc:TE} {pos:Pos}
theorem binT (ha:PE X a ta)(hb:PE X b tb){pins:List (Addr×Obj)}{s:Shared}{σ:St}{H:Hp}{R:V→V→Hp→Prop}(I:Inv X pins σ H s)
  (h:ta σ H fun x H1=>tb σ H1 fun y H2=>R x y H2) {Q:Value→Shared→Prop} {f:Value→Value→Sem Value}
  (hf:∀ v u s2 x y H2,Inv X pins σ H2 s2→RelV x v→RelV y u→R x y H2→wpAny (model X.prog X.w) X.A (f v u) Q X.xe s2) :
  wpAny (model X.prog X.w) X.A (eval a X.env) (fun v s₁=>wpAny (model X.prog X.w) X.A (eval b X.env) (fun u s₂=>wpAny (model X.prog X.w) X.A (f v u) Q X.xe s₂) X.xe s₁) X.xe s:=by
 refine thn (ha pins s σ H _ I h) fun v s1 ⟨x,H1,I1,r1,q1⟩=>?_
 refine thn (hb pins s1 σ H1 _ I1 q1) fun u s2 ⟨y,H2,I2,r2,q2⟩=>?_
 exact hf v u s2 x y H2 I2 r1 r2 q2
theorem pe_op {op:Operator}{r:R2}(ho:OpR X (binaryOp op) r)(ha:PE X a ta)(hb:PE X b tb):PE X (.BinOp a op b pos) (tOp r ta tb):=by
 intro pins s σ H Q I h
 exact wpAny_BinOp (binT ha hb I h fun v u s2 x y H2 I2 rx ry q=>ho pins s2 σ H2 x y v u Q I2 rx ry q)
theorem pe_un {op:UnaryOp}{r:V→Hp→VK→Prop}(ho:UnR X (unaryOp op) r)(ha:PE X a ta):PE X (.UnaryOp op a pos) (tUn r ta):=by
 intro pins s σ H Q I h
 exact UnaryOp_ (thn (ha pins s σ H _ I h) fun v s1 ⟨x,H1,I1,r1,q1⟩=>ho pins s1 σ H1 x v Q I1 r1 q1)
theorem opI {f:Value→Value→Sem Value}{C:Int→Int→Prop}{g:Int→Int→Int}
  (rule:∀ (i j:Int) (t u:Tok) (s:Shared) (Q:Value→Shared→Prop) (E:Value→Shared→Prop),C i j→Q (.int (g i j) s.toks) { s with toks:=s.toks+1 }→wpAny (model X.prog X.w) X.A (f (.int i t) (.int j u)) Q E s) :
  OpR X f (rI C fun i j=>.int (g i j)):=by
 intro pins s σ H x y v u Q I rx ry h
 obtain ⟨i,j,rfl,rfl,hc,q⟩:=h
 obtain ⟨t,rfl⟩:=rx
 obtain ⟨t',rfl⟩:=ry
 exact rule i j t t' s _ _ hc ⟨.int (g i j),H,I.tok _,⟨_,rfl⟩,q⟩
theorem opI0 {f:Value→Value→Sem Value}{g:Int→Int→Int}
  (rule:∀ (i j:Int) (t u:Tok) (s:Shared) (Q:Value→Shared→Prop) (E:Value→Shared→Prop),Q (.int (g i j) s.toks) { s with toks:=s.toks+1 }→wpAny (model X.prog X.w) X.A (f (.int i t) (.int j u)) Q E s) :
  OpR X f (rI0 fun i j=>.int (g i j)):=by
 intro pins s σ H x y v u Q I rx ry h
 obtain ⟨i,j,rfl,rfl,q⟩:=h
 obtain ⟨t,rfl⟩:=rx
 obtain ⟨t',rfl⟩:=ry
 exact rule i j t t' s _ _ ⟨.int (g i j),H,I.tok _,⟨_,rfl⟩,q⟩
theorem opB0 {f:Value→Value→Sem Value}{g:Int→Int→Bool}
  (rule:∀ (i j:Int) (t u:Tok) (s:Shared) (Q:Value→Shared→Prop) (E:Value→Shared→Prop),Q (.bool (g i j)) s→wpAny (model X.prog X.w) X.A (f (.int i t) (.int j u)) Q E s) :
  OpR X f (rI0 fun i j=>.bl (g i j)):=by
 intro pins s σ H x y v u Q I rx ry h
 obtain ⟨i,j,rfl,rfl,q⟩:=h
 obtain ⟨t,rfl⟩:=rx
 obtain ⟨t',rfl⟩:=ry
 exact rule i j t t' s _ _ ⟨.bl (g i j),H,I,rfl,q⟩
def CDiv (i j:Int):Prop:=0<j∧j<1073741824
theorem op_add:OpR X (binaryOp .Add) (rI0 fun i j=>.int (i+j)):=opI0 fun _ _ _ _ _ _ _ q=>add_int q
theorem op_fdiv:OpR X (binaryOp .FloorDiv) (rI CDiv fun i j=>.int (i / j)):=opI fun i j _ _ _ _ _ hc q=>by
 have h1:(0:Int)<j:=hc.1
 have h2:j<1073741824:=hc.2
 exact floordiv_int (by omega) (by rw [Int.fdiv_eq_ediv_of_nonneg i (by omega)]; exact q) (.inl (PyProof.noPylong_small (by omega)))
theorem op_mod:OpR X (binaryOp .Mod) (rI (fun _ j=>0<j) fun i j=>.int (i % j)):=opI fun i j _ _ _ _ _ hc q=>by
 have h1:(0:Int)<j:=hc
 exact mod_int' (by omega) (by rw [Int.fmod_eq_emod_of_nonneg i (by omega)]; exact q)
theorem op_and:OpR X (binaryOp .BitAnd) (rI0 fun i j=>.int (Builtin.bitAnd i j)):=opI0 fun _ _ _ _ _ _ _ q=>and_int q
theorem unI {f:Value→Sem Value}{g:Int→Int}
  (rule:∀ (i:Int) (t:Tok) (s:Shared) (Q:Value→Shared→Prop) (E:Value→Shared→Prop),Q (.int (g i) s.toks) { s with toks:=s.toks+1 }→wpAny (model X.prog X.w) X.A (f (.int i t)) Q E s) :
  UnR X f (rU fun i=>.int (g i)):=by
 intro pins s σ H x v Q I rx h
 obtain ⟨i,rfl,q⟩:=h
 obtain ⟨t,rfl⟩:=rx
 exact rule i t s _ _ ⟨.int (g i),H,I.tok _,⟨_,rfl⟩,q⟩
theorem un_inv:UnR X (unaryOp .Invert) (rU fun i=>.int (Builtin.bitNot i)):=unI fun _ _ _ _ _ q=>invert_int q
end
section
variable {X:Cx} {a b c:Expr} {ta tb tc:TE} {pos:Pos}
theorem op_lt:OpR X (compareOp .Lt) (rI0 fun i j=>.bl (decide (i<j))):=opB0 fun _ _ _ _ _ _ _ q=>lt_int q
theorem OpR.or {f:Value→Value→Sem Value}{r r':R2}(h:OpR X f r)(h':OpR X f r'):OpR X f (fun x y H Q=>r x y H Q∨r' x y H Q):=by
 intro pins s σ H x y v u Q I rx ry q
 rcases q with q | q
 ·exact h pins s σ H x y v u Q I rx ry q
 ·exact h' pins s σ H x y v u Q I rx ry q
theorem nomark (b:Expr){op:CmpOp}(h:op≠.In:=by decide)(h2:op≠.NotIn:=by decide):behindInMarks op b=false:=by
 have e1:(op == CmpOp.In)=false:=by cases op <;> first | rfl | exact absurd rfl h
 have e2:(op == CmpOp.NotIn)=false:=by cases op <;> first | rfl | exact absurd rfl h2
 cases b <;> simp [behindInMarks,e1,e2]
theorem pe_cmpR {op:CmpOp}{r:R2}(ho:OpR X (compareOp op) r)(ha:PE X a ta)(hb:PE X b tb)(hm:behindInMarks op b=false):PE X (.Compare a [op] [b] pos) (tOp r ta tb):=by
 intro pins s σ H Q I h
 exact wpAny_Compare1 (binT ha hb I h fun v u s2 x y H2 I2 rx ry q=>ho pins s2 σ H2 x y v u Q I2 rx ry q) hm
def tTest (t:TE):TT:=fun σ H Q=>t σ H fun x H'=>∃ k,x=.bl k∧Q k H'
theorem pt_cmpR {op:CmpOp}{r:R2}(ho:OpR X (compareOp op) r)(ha:PE X a ta)(hb:PE X b tb)(hm:behindInMarks op b=false):PT X (.Compare a [op] [b] pos) (tTest (tOp r ta tb)):=by
 intro pins s σ H Q I h
 refine wpAny_isTrue_Compare1 (thn (ha pins s σ H _ I h) fun v s1 ⟨x,H1,I1,r1,q1⟩=>thn (hb pins s1 σ H1 _ I1 q1) fun u s2 ⟨y,H2,I2,r2,q2⟩=>
  thn (ho pins s2 σ H2 x y v u _ I2 r1 r2 q2) fun c s3 ⟨z,H3,I3,r3,k,e,q3⟩=>?_) hm
 subst e
 cases r3
 exact wpAny_truthy_bool ⟨H3,I3,q3⟩
def TruV (K:PySem.W.Frag)(x:V)(H:Hp)(k:Bool):Prop:=
 match x with
 | .non=>k=false
 | .bl b=>k=b
 | .int i=>k=(i != 0)
 | .str y=>y.length≤sizeLine∧k=((y.length:Int) != 0)
 | .byt y=>y.size≤sizeLine∧k=((y.size:Int) != 0)
 | .ref p=>(∃ xs,SqL K H p xs∧k = !xs.isEmpty)∨(∃ xs,SqT K H p xs∧k = !xs.isEmpty)∨∃ kvs,H p=some (.dK kvs)∧k = !kvs.isEmpty
 | _=>False
theorem isEmpty_kv {κ:Type}{kvs:List (κ×V)}{vs:List (κ×Value)}(r:KV kvs vs):(!vs.isEmpty) = !kvs.isEmpty:=by
 cases r <;> rfl
theorem isEmpty_of {xs:List V}{its:List Value}(r:Vals xs its):(!its.toArray.isEmpty) = !xs.isEmpty:=by
 cases r <;> simp
theorem line63:(sizeLine:Nat)<2 ^ 63:=by rw [sizeLine_eq]; decide
theorem tru_ok:TruR X (fun x H Q=>∃ k,TruV X.K x H k∧Q k H):=by
 intro pins s σ H x v Q I rx h
 obtain ⟨k,e,q⟩:=h
 have hl:=line63
 have hs:sizeLine=16777216:=sizeLine_eq
 cases x with
 | non=>
  cases rx
  have e':k=false:=e
  subst e'
  exact truthy_none ⟨H,I,q⟩
 | bl b=>
  cases rx
  have e':k=b:=e
  subst e'
  exact wpAny_truthy_bool ⟨H,I,q⟩
 | int i=>
  obtain ⟨t,rfl⟩:=rx
  have e':k=(i != 0):=e
  subst e'
  exact PySem.P.truthy_int ⟨H,I,q⟩
 | str y=>
  obtain ⟨t,rfl⟩:=rx
  obtain ⟨hy,e'⟩:y.length≤sizeLine∧k=((y.length:Int) != 0):=e
  subst e'
  exact PySem.P.truthy_str (by omega) ⟨H,I.tok _,q⟩
 | byt y=>
  obtain ⟨t,rfl⟩:=rx
  obtain ⟨hy,e'⟩:y.size≤sizeLine∧k=((y.size:Int) != 0):=e
  subst e'
  exact PySem.W.truthy_bytes (by omega) ⟨H,I.tok _,q⟩
 | ref p=>
  cases rx
  have e':(∃ xs,SqL X.K H p xs∧k = !xs.isEmpty)∨(∃ xs,SqT X.K H p xs∧k = !xs.isEmpty)∨∃ kvs,H p=some (.dK kvs)∧k = !kvs.isEmpty:=e
  rcases e' with ⟨xs,hx,e'⟩ | ⟨xs,hx,e'⟩ | ⟨kvs,hx,e'⟩
  ·subst e'
   obtain ⟨its,r,pl,hz⟩:=I.list hx
   have hlen:=r.length
   exact wpAny_truthy_list pl.isList (by simp only [List.size_toArray]; omega) ⟨H,I.tok _,by rw [isEmpty_of r]; exact q⟩
  ·subst e'
   obtain ⟨its,r,pl,hz⟩:=I.tuple hx
   have hlen:=r.length
   exact truthy_tuple pl (by simp only [List.size_toArray]; omega) ⟨H,I.tok _,by rw [isEmpty_of r]; exact q⟩
  ·subst e'
   obtain ⟨hz,hS,vs,r,m⟩:kvs.length≤sizeLine∧(p == sysModules)=false∧∃ vs,KV kvs vs∧s.heap.DictOf (mixKind X.prog X.w) p vs:=I.hok p _ hx
   have hlen:kvs.length=vs.length:=Paired.length r
   exact wpAny_truthy_dict hS m (by omega) ⟨H,I.tok _,by rw [isEmpty_kv r]; exact q⟩
 | _=>exact (show False from e).elim
theorem op_add_str:OpR X (binaryOp .Add) (fun x y H Q=>∃ i j,x=.str i∧y=.str j∧i.length+j.length≤sizeLine∧Q (.str (i++j)) H):=by
 intro pins s σ H x y v u Q I rx ry h
 obtain ⟨i,j,rfl,rfl,hz,q⟩:=h
 obtain ⟨t,rfl⟩:=rx
 obtain ⟨t',rfl⟩:=ry
 exact add_str (fun t' tk=>⟨.str (i++j),H,I.tok _,⟨_,rfl⟩,q⟩) hz
end
end L2
namespace L2
open PySem PySem.Spec PyProof.Rows
structure ObjM (h:Heap)(x dx C:Addr)(mA:Str→Option Value):Prop where
 obj:h.get? x=some (PySem.W.instObj C dx)
 ns:h.Ns1 dx mA
 ne:dx≠x
theorem lookIn_ns {h:Heap}{dx:Addr}{mA:Str→Option Value}(n:h.Ns1 dx mA):∃ od,h.get? dx=some od∧∀ name,PySem.W.lookIn name od=some (mA name):=by
 obtain ⟨o,es,ep,ho,hd,hk,_,hm⟩:=n
 refine ⟨o,ho,fun name=>?_⟩
 have e:=hm name
 unfold nsFind findBy at e
 rw [← Array.find?_toList] at e
 unfold PySem.W.lookIn
 rw [hd]
 dsimp only
 split
 ·rename_i y q
  rw [q] at e
  exact congrArg some e
 ·rename_i q
  rw [q] at e
  have a:es.toList.any (·.refKey)=false:=by
   rw [List.any_eq_false]
   intro y hy
   obtain ⟨z,t,hkey⟩:=hk y (Array.mem_toList_iff.mp hy)
   simp [DictEntry.refKey,hkey]
  have a':¬es.toList.any (·.refKey)=true:=by rw [a]; exact Bool.false_ne_true
  rw [if_neg a']
  exact congrArg some e
theorem ObjM.look {h:Heap}{x dx C:Addr}{mA:Str→Option Value}(I:ObjM h x dx C mA):∃ od,PySem.W.InstAt h x (PySem.W.instObj C dx) C (some od)∧∀ name,PySem.W.lookIn name od=some (mA name):=
 let ⟨od,ho,hl⟩:=lookIn_ns I.ns
 ⟨od,⟨I.obj,rfl,rfl,ho⟩,hl⟩
theorem RelO.some_of {v:V}{o:Option Value}(r:RelO (some v) o):∃ u,o=some u∧RelV v u:=by
 cases o with
 | none=>exact (show False from r).elim
 | some u=>exact ⟨u,rfl,r⟩
theorem handed_of {v:V}{u:Value}(r:RelV v u):PySem.W.handedIn u=true:=by
 cases v with
 | non=>cases (show u=Value.none from r); rfl
 | bl b=>cases (show u=Value.bool b from r); rfl
 | int i=>obtain ⟨t,e⟩:=(show ∃ t,u=Value.int i t from r); cases e; rfl
 | str x=>obtain ⟨t,e⟩:=(show ∃ t,u=Value.str x t from r); cases e; rfl
 | byt b=>obtain ⟨t,e⟩:=(show ∃ t,u=Value.bytes b t from r); cases e; rfl
 | flt b=>obtain ⟨t,e⟩:=(show ∃ t,u=Value.float b t from r); cases e; rfl
 | ref a=>cases (show u=Value.ref a from r); rfl
 | ty n=>cases (show u=Value.type n from r); rfl
section
variable {P:Program} {w:World} {H H':Hp} {h h':Heap} {a C dx:Addr} {fs fs':List (Str×V)}
theorem ins_get (hok:HOk P w H h)(e:H a=some (.ins C dx fs)):∃ mA,ObjM h a dx C mA∧(∀ f,RelO (fs.lookup f) (mA f))∧PySem.Within mA (fs.map (·.1))∧fs.length≤1000∧H dx=some (.own a):=by
 obtain ⟨d,z,ne,ob,mA,n,r,q⟩:=(show ObjOk P w H h a (.ins C dx fs) from hok a _ e)
 exact ⟨mA,⟨ob,n,ne⟩,r,q,z,d⟩
end
structure Cls (K:PySem.W.Frag)(C:Addr):Prop where
 pg:PySem.W.plainGet K C Str.empty=true
 hd:PySem.W.hasDictIn K C=true
 po:PySem.W.plainOver K C=true
 sa:PySem.W.findIn K (.ref C) "__setattr__"=some (some (.builtin "object.__setattr__"))
theorem Cls.get {K:PySem.W.Frag}{C:Addr}(c:Cls K C)(f:Str):PySem.W.plainGet K C f=true:=c.pg
section
variable {X:Cx} {pins:List (Addr×Obj)} {σ:St} {H:Hp} {s:Shared} {a C dx:Addr} {fs:List (Str×V)} {f:Str} {v:V} {A:Around} {E:Value→Shared→Prop}
theorem attr_of {prog:Program}{w:World}{env:Env}{e:Expr}{f:Str}{pos:Pos}{s:Shared}{Q:Value→Shared→Prop}(hb:attributeBase e f env (eval e env)=eval e env)
  (h:wpAny (model prog w) A (eval e env) (fun o s₁=>wpAny (model prog w) A (getAttr o f true) Q E s₁) E s):wpAny (model prog w) A (eval (.Attribute e f pos) env) Q E s:=
 Attribute_any_ h (by rw [arm_eval_Attribute,hb])
end
section
variable {X:Cx} {pins:List (Addr×Obj)} {σ:St} {H:Hp} {s:Shared} {A:Around} {E:Value→Shared→Prop} {Q:Value→Shared→Prop} {c:Value} {b:Bool}
inductive TyOf (K:PySem.W.Frag) (H:Hp):V→Value→Prop where
 | non:TyOf K H .non (.type "NoneType")
 | bl (x:Bool):TyOf K H (.bl x) (.type "bool")
 | int (i:Int):TyOf K H (.int i) (.type "int")
 | str (x:Str):TyOf K H (.str x) (.type "str")
 | flt (x:UInt64):TyOf K H (.flt x) (.type "float")
 | lst {a:Addr} {xs:List V} (e:H a=some (.lst xs)):TyOf K H (.ref a) (.type "list")
 | frz {a:Addr} {o:Obj} {xs:List V} (e:H a=some (.frz o (.lst xs))):TyOf K H (.ref a) (.type "list")
 | tup {a:Addr} {xs:List V} (e:H a=some (.tup xs)):TyOf K H (.ref a) (.type "tuple")
 | dK {a:Addr} {kvs:List (Key×V)} (e:H a=some (.dK kvs)):TyOf K H (.ref a) (.type "dict")
 | dT {a:Addr} {kvs:List (List Key×V)} (e:H a=some (.dT kvs)):TyOf K H (.ref a) (.type "dict")
 | ins {a C dx:Addr} {fs:List (Str×V)} (e:H a=some (.ins C dx fs)) (cl:Cls K C) (ha:PySem.W.findIn K (.ref C) "__class__"=some (some (.builtin "object.__class__")))
   (hn:PySem.W.specialIn K (.builtin "object.__class__") "__get__"=some (some (.builtin "getset_descriptor.__get__"))) (htk:PySem.W.takesIn K (.builtin "object.__class__")=some true)
   (hm:PySem.W.mroIn K C (.type "object")=some true):TyOf K H (.ref a) (.ref C)
end
end L2
namespace L2
open PySem PySem.Spec PyProof.Rows
structure Room (k:Nat)(A:Around):Prop where
 dp:A.depth+3 * k+5<recursionLimit
 un:A.units+16 * k+200<cLine
theorem Room.mono {j k:Nat}{A:Around}(r:Room k A)(h:j≤k):Room j A:=⟨by have:=r.dp; omega,by have:=r.un; omega⟩
theorem Room.deeper {k:Nat}{A:Around}(r:Room (k+1) A)(env:Env):Room k (A.deeper env):=
 ⟨by have:=r.dp; show A.depth+1+3 * k+5<_; omega,by have:=r.un; show A.units+3+16 * k+200<_; omega⟩
theorem make_depth {A:Around}{C:Addr}{us:List Value}{kw:List (Str×Value)}:(A.under (.builtin "type.__call__" ⟨.ref C::us,kw⟩)).depth=A.depth+1:=by
 first | rfl | simp [Around.under,Code.weight,Code.isCreation,Code.isGuard,Code.isCaller,Code.frames,Code.isFrame,guardIds]
theorem make_units {A:Around}{C:Addr}{us:List Value}{kw:List (Str×Value)}:(A.under (.builtin "type.__call__" ⟨.ref C::us,kw⟩)).units=A.units+1:=by
 first | rfl | simp [Around.under,Code.cUnits,Code.frames,Code.isFrame]
theorem Room.make {k:Nat}{A:Around}(r:Room (k+1) A)(C:Addr)(us:List Value)(kw:List (Str×Value)):Room k (A.under (.builtin "type.__call__" ⟨.ref C::us,kw⟩)):=
 ⟨by have:=r.dp; rw [make_depth]; omega,by have:=r.un; rw [make_units]; omega⟩
theorem Room.depth {k:Nat}{A:Around}(r:Room k A):A.depth<recursionLimit:=by have:=r.dp; omega
def tNil:TA:=fun _ H Q=>Q [] H
def tCons (ta:TE)(tr:TA):TA:=fun σ H Q=>ta σ H fun x H1=>tr σ H1 fun xs H2=>Q (x::xs) H2
section
variable {X:Cx} {e:Expr} {es:List Expr} {te:TE} {t:TA} {pos:Pos}
theorem pa_nil:PA X [] tNil:=fun _ _ _ _ H Q I h=>Calls.spliced_nil ⟨[],H,I,.nil,h⟩
theorem pa_cons (ha:PE X e te)(hr:PA X es t)(hs:starEach (e::es) X.env=(false,eval e X.env)::starEach es X.env:=by rfl):PA X (e::es) (tCons te t):=by
 intro pos pins s σ H Q I h
 rw [hs]
 show wpAny _ _ (spliced ((false,eval e X.env)::backTo pos (starEach es X.env))) _ _ s
 refine Calls.spliced_cons (thn (ha pins s σ H _ I h) fun u s1 ⟨x,H1,I1,r1,q1⟩=>?_)
 exact thn (hr pos pins s1 σ H1 _ I1 q1) fun us s2 ⟨xs,H2,I2,r2,q2⟩=>⟨x::xs,H2,I2,.cons r1 r2,q2⟩
def tTup (t:TA):TE:=fun σ H Q=>t σ H fun xs H1=>xs.length≤sizeLine∧∀ p,H1 p=none→Q (.ref p) (upd H1 p (.tup xs))
def tLst (t:TA):TE:=fun σ H Q=>t σ H fun xs H1=>xs.length≤sizeLine∧∀ p,H1 p=none→Q (.ref p) (upd H1 p (.lst xs))
theorem pe_tup {x1}(h:PA X es t):PE X (.Tuple es x1 pos) (tTup t):=by
 intro pins s σ H Q I hq
 refine wpAny_Tuple_spliced (thn (h pos pins s σ H _ I hq) fun us s1 ⟨xs,H1,I1,r,z,q⟩=>⟨by rw [← r.length]; exact z,?_⟩)
 have hf:H1 s1.heap.objs.size=none:=I1.hok.fresh (Nat.le_refl _)
 refine ⟨.ref s1.heap.objs.size,upd H1 s1.heap.objs.size (.tup xs),I1.laid (t':=s1.toks) (fun b u e=>Heap.get?_push_of_some _ e) (Nat.le_refl _) ?_,rfl,q _ hf⟩
 exact ⟨z,us,r,⟨_,Heap.get?_push_size _ rfl,rfl,_,rfl⟩⟩
theorem pe_lst (h:PA X es t):PE X (.List es pos) (tLst t):=by
 intro pins s σ H Q I hq
 refine wpAny_List_spliced (thn (h pos pins s σ H _ I hq) fun us s1 ⟨xs,H1,I1,r,z,q⟩=>⟨by rw [← r.length]; exact z,?_⟩)
 have hf:H1 s1.heap.objs.size=none:=I1.hok.fresh (Nat.le_refl _)
 refine ⟨.ref s1.heap.objs.size,upd H1 s1.heap.objs.size (.lst xs),I1.laid (t':=s1.toks) (fun b u e=>Heap.get?_push_of_some _ e) (Nat.le_refl _) ?_,rfl,q _ hf⟩
 exact ⟨z,us,0,r,Heap.get?_push_size _ rfl⟩
end
abbrev Sp:=List V→Hp→VK→XK→Prop
structure CXT where
 ct:List Env→Hp→Shared→XK→Value→Shared→Prop
 q:Bool
instance:CoeFun CXT fun _=>List Env→Hp→Shared→XK→Value→Shared→Prop:=⟨CXT.ct⟩
structure Env0 (P:Program)(w:World)(K:PySem.W.Frag)(mg:Str→Option Value)(base:Heap)(A:Around)(outer:List Env)(s:Shared)(H:Hp):Prop where
 frames:A.frames=some outer
 mod:Mod K mg base
 bs:∀ b o,base.get? b=some o→s.heap.get? b=some o∧H b=none
 bsz:base.objs.size≤s.heap.objs.size
 funs:s.heap.FunFrames base outer
 frf:∀ b∈frs outer,H b=none
 hok:HOk P w H s.heap
 bare:AllBare s.gens
 lq:A.handled=none∨∃ e o u,A.handled=some (.ref e)∧Ctx0 o∧H e=some (.frz o u)
def CE (outer:List Env)(P:Program)(w:World)(H:Hp)(s:Shared)(Q:VK)(u:Value)(s':Shared):Prop:=
 ∃ v H',s'.os=s.os∧AllBare s'.gens∧Un (frs outer) [] H H' s.heap s'.heap∧HOk P w H' s'.heap∧RelV v u∧Q v H'
def CR (CX:CXT)(outer:List Env)(P:Program)(w:World)(H:Hp)(s:Shared)(Q:VK)(E:XK)(r:Result)(s':Shared):Prop:=
 match r with
 | .ok (.ret u)=>CE outer P w H s Q u s'
 | .ok _=>False
 | .error e=>CX outer H s E e s'
structure FnOk (P:Program)(w:World)(K:PySem.W.Frag)(mg:Str→Option Value)(base:Heap)(CX:CXT)(k:Nat)(f:Addr)(fd:FuncData)(ps:List Str)(sp:Sp):Prop where
 len:∀ vs H Q E,sp vs H Q E→vs.length=ps.length
 run:∀ (A:Around) (outer:List Env) (s:Shared) (H:Hp) (args:Args) (us:List Value) (vs:List V) (Q:VK) (E:XK),Room k A→(CX.q=true→A.handled=none)→Env0 P w K mg base A outer s H→BindsTo s fd args (ps.zip us)→Vals vs us→sp vs H Q E →
  codeAny (model P w) A (.call (.ref f) args) (CR CX outer P w H s Q E) s
theorem FnOk.imp {P:Program}{w:World}{K:PySem.W.Frag}{mg:Str→Option Value}{base:Heap}{CX:CXT}{k:Nat}{f:Addr}{fd:FuncData}{ps:List Str}{sp sp':Sp}(F:FnOk P w K mg base CX k f fd ps sp)
  (h:∀ vs H Q E,sp' vs H Q E→sp vs H Q E):FnOk P w K mg base CX k f fd ps sp':=
 ⟨fun vs H Q E q=>F.len vs H Q E (h _ _ _ _ q),fun A outer s H args us vs Q E hr hq he hb hv hs=>F.run A outer s H args us vs Q E hr hq he hb hv (h _ _ _ _ hs)⟩
theorem Env0.make {P:Program}{w:World}{K:PySem.W.Frag}{mg:Str→Option Value}{base:Heap}{A:Around}{outer:List Env}{s:Shared}{H:Hp}(e:Env0 P w K mg base A outer s H)(C:Addr)(us:List Value)(kw:List (Str×Value)) :
  Env0 P w K mg base (A.under (.builtin "type.__call__" ⟨.ref C::us,kw⟩)) outer s H:=⟨by first | exact e.frames | (simpa [Around.under,Code.envs,Code.isFrame,pushEnvs] using e.frames),e.mod,e.bs,e.bsz,e.funs,e.frf,e.hok,e.bare,e.lq⟩
section
variable {X:Cx} {pins:List (Addr×Obj)} {σ:St} {H:Hp} {s s':Shared}
theorem Inv.env0 (I:Inv X pins σ H s):Env0 X.prog X.w X.K X.mg X.base X.A X.stack s H:=
 ⟨I.ok.frames,I.ok.mod,I.bs,Nat.le_trans I.ok.bsz I.sz,I.stack,I.stkFree,I.hok,I.bare,I.lqh⟩
theorem Inv.after {Q:VK}{u:Value}(I:Inv X pins σ H s)(h:CE X.stack X.prog X.w H s Q u s'):EP X pins σ Q u s':=by
 obtain ⟨v,H',os,bare,un,hok,r,q⟩:=h
 obtain ⟨hh,g,d,t,os'⟩:=s'
 obtain rfl:os'=s.os:=os
 exact ⟨v,H',I.call (h':=hh) (g':=g) (d':=d) (t':=t) (ch:=[]) un hok bare (fun b z=>absurd z (by simp)),r,q⟩
end
def tCall (sp:Sp)(dvs:List V)(E:XK)(t:TA):TE:=fun σ H Q=>t σ H fun vs H1=>sp (vs++dvs) H1 Q E
def Binds (K:PySem.W.Frag)(fd:FuncData)(ps:List Str)(ds:List Value):Prop:=
 ∀ (s:Shared) (us:List Value),K.In s.heap→(us++ds).length=ps.length→BindsTo s fd ⟨us,[]⟩ (ps.zip (us++ds))
theorem Binds.all {K:PySem.W.Frag}{fd:FuncData}{ps:List Str}(h:∀ us:List Value,us.length=ps.length→bindArgs fd ⟨us,[]⟩=pure (ps.zip us)):Binds K fd ps []:=fun s us _ hl=>by
 rw [List.append_nil] at hl ⊢
 exact .of_eq (h us hl)
def Passes (CX:CXT)(X:Cx)(E:XK):Prop:=(CX.q=true→X.calm=true)∧∀ (pins:List (Addr×Obj)) (σ:St) (H:Hp) (s:Shared) (e:Value) (s':Shared),Inv X pins σ H s→CX X.stack H s E e s'→X.xe e s'
section
variable {X:Cx} {CX:CXT} {k:Nat} {f C:Addr} {fd:FuncData} {ps:List Str} {sp:Sp} {dvs:List V} {ds:List Value} {E:XK} {x m:Str} {p pos apos:Pos} {e o:Expr} {es:List Expr} {ta:TE} {t:TA}
theorem run_fn {pins:List (Addr×Obj)}{σ:St}{H:Hp}{s:Shared}{Q:VK}{us:List Value}{vs:List V}(F:FnOk X.prog X.w X.K X.mg X.base CX k f fd ps sp)(hr:Room k X.A)(hb:Binds X.K fd ps ds)(hd:Vals dvs ds)(hx:Passes CX X E)
  (I:Inv X pins σ H s) (r:Vals vs us) (h:sp (vs++dvs) H Q E):wpAny (model X.prog X.w) X.A (call (.ref f) us) (EP X pins σ Q) X.xe s:=by
 have r2:Vals (vs++dvs) (us++ds):=r.append hd
 have hl:(us++ds).length=ps.length:=by rw [← r2.length]; exact F.len _ _ _ _ h
 refine wpAny_call (codeAny_mono (F.run X.A X.stack s H ⟨us,[]⟩ (us++ds) (vs++dvs) Q E hr (fun z=>I.ok.hd (hx.1 z)) I.env0 (hb s us I.kIn hl) r2 h) fun r s' hq=>?_)
 cases r with
 | error e=>exact hx.2 pins σ H s e s' I hq
 | ok fl=>
  cases fl with
  | ret u=>exact I.after hq
  | next=>exact False.elim hq
  | brk=>exact False.elim hq
  | cont=>exact False.elim hq
theorem pe_call (F:FnOk X.prog X.w X.K X.mg X.base CX k f fd ps sp)(hr:Room k X.A)(hg:Gl X x)(hm:X.mg x=some (.ref f))(hk:PySem.W.keepIn X.K (.ref f)=true)(hb:Binds X.K fd ps ds)(hd:Vals dvs ds)(hx:Passes CX X E)
  (ha:PA X (e::es) t) (hdb:(x == ("__debug__":Str))=false:=by decide) (he:starEach (e::es) X.env=(false,eval e X.env)::starEach es X.env:=by rfl) (hpl:(backTo pos (starEach es X.env)).any (·.1)=false:=by rfl) :
  PE X (.Call (.Name x p) (e::es) [] pos) (tCall sp dvs E t):=by
 intro pins s σ H Q I h
 refine wpAny_Call_Name_kw (ld_glob I hg hm ?_ hdb)
 refine PySem.W.callWith_K (h₀:=X.base) I.ok.mod.kin hk (thn (ha pos pins s σ H _ I h) fun us s1 ⟨vs,H1,I1,r,q⟩=>⟨I1.kIn,?_⟩) he hpl
 exact run_fn F hr hb hd hx I1 r q
end
structure FnScope (N P:List Str)(sc:Scope):Prop where
 kind:sc.kind=.function
 co:sc.isCoroutine=false
 gen:sc.isGenerator=false
 nd:N.Nodup
 pre:N.take P.length=P
 par:∀ x∈P,sc.names.lookup x=some .local∨sc.names.lookup x=some .cell
 nofree:∀ y∈sc.names,y.2≠.free
theorem bindL_out {kindOf:Str→Option NameKind}{x:Str}:∀ {binds:List (Str×Value)} {m:Str→Option Value},(∀ v,(x,v) ∉ binds)→bindL kindOf binds m x=m x
 | [],_,_=>rfl
 | (n,v)::r,m,h=>by
  unfold bindL
  rw [bindL_out fun w hw=>h w (List.mem_cons_of_mem _ hw)]
  split
  ·have:x≠n:=by rintro rfl; exact h v List.mem_cons_self
   simp [this]
  ·rfl
theorem bindC_out {kindOf:Str→Option NameKind}{x:Str}:∀ {binds:List (Str×Value)} {m:Str→Option Value},(∀ v,(x,v) ∉ binds)→bindC kindOf binds m x=m x
 | [],_,_=>rfl
 | (n,v)::r,m,h=>by
  unfold bindC
  rw [bindC_out fun w hw=>h w (List.mem_cons_of_mem _ hw)]
  split
  ·rfl
  ·have:x≠n:=by rintro rfl; exact h v List.mem_cons_self
   simp [this]
theorem bindL_get {kindOf:Str→Option NameKind}{x:Str}{v:Value}:∀ {P:List Str} {vs:List Value} {i:Nat} {m:Str→Option Value},P.Nodup→P[i]? = some x→vs[i]? = some v→kindOf x=some .local →
  bindL kindOf (P.zip vs) m x=some v
 | [],_,_,_,_,h,_,_=>by simp at h
 | _::_,[],_,_,_,_,h,_=>by simp at h
 | p::P,w::vs,0,m,nd,h1,h2,hk=>by
  simp at h1 h2; subst h1; subst h2
  show bindL kindOf ((p,w)::P.zip vs) m p=_
  unfold bindL
  rw [bindL_out fun v hv=>(List.nodup_cons.mp nd).1 (List.of_mem_zip hv).1,if_pos hk]
  simp
 | p::P,w::vs,i+1,m,nd,h1,h2,hk=>by
  show bindL kindOf ((p,w)::P.zip vs) m x=_
  unfold bindL
  exact bindL_get (i:=i) (List.nodup_cons.mp nd).2 (by simpa using h1) (by simpa using h2) hk
theorem bindC_get {kindOf:Str→Option NameKind}{x:Str}{v:Value}:∀ {P:List Str} {vs:List Value} {i:Nat} {m:Str→Option Value},P.Nodup→P[i]? = some x→vs[i]? = some v→kindOf x≠some .local →
  bindC kindOf (P.zip vs) m x=some v
 | [],_,_,_,_,h,_,_=>by simp at h
 | _::_,[],_,_,_,_,h,_=>by simp at h
 | p::P,w::vs,0,m,nd,h1,h2,hk=>by
  simp at h1 h2; subst h1; subst h2
  show bindC kindOf ((p,w)::P.zip vs) m p=_
  unfold bindC
  rw [bindC_out fun v hv=>(List.nodup_cons.mp nd).1 (List.of_mem_zip hv).1,if_neg hk]
  simp
 | p::P,w::vs,i+1,m,nd,h1,h2,hk=>by
  show bindC kindOf ((p,w)::P.zip vs) m x=_
  unfold bindC
  exact bindC_get (i:=i) (List.nodup_cons.mp nd).2 (by simpa using h1) (by simpa using h2) hk
def start (N:List Str)(vs:List V):St:=vs.map some++List.replicate (N.length - vs.length) none
def cxOf (CX:CXT)(P:Program)(w:World)(K:PySem.W.Frag)(mg:Str→Option Value)(base:Heap)(N:List Str)(qual:Str)(scope:Scope)(f:Addr)(cd:Value)(A:Around)(outer:List Env)(s:Shared)(H:Hp)(E:XK):Cx where
 prog:=P
 w:=w
 K:=K
 mg:=mg
 base:=base
 A:=A.deeper (envOfC qual scope s.heap.objs.size f cd)
 N:=N
 s₀:=s
 H₀:=H
 env:=envOfC qual scope s.heap.objs.size f cd
 outer:=outer
 stack:=envOfC qual scope s.heap.objs.size f cd::outer
 ex:=[]
 calm:=CX.q
 fn:=fun _=>true
 pn:=[]
 xe:=fun e s'=>wpAny (model P w) (A.deeper (envOfC qual scope s.heap.objs.size f cd)) (leaving (envOfC qual scope s.heap.objs.size f cd) e) (fun _ s''=>CX outer H s E e s'') (fun e' s''=>CX outer H s E e' s'') s'
theorem cell_has {sc:Scope}{n:Nat}{x:Str}(h:sc.names.lookup x=some .cell):∃ c,(cellsFrom n sc.names []).lookup x=some c:=by
 have q:=PySem.W.cellsFrom_some sc.names n [] (.inl h)
 exact Option.isSome_iff_exists.mp q
theorem inv_start {CX:CXT}{P:Program}{w:World}{K:PySem.W.Frag}{mg:Str→Option Value}{base:Heap}{N ps:List Str}{qual:Str}{scope:Scope}{f:Addr}{cd:Value}{A:Around}{outer:List Env}{s s1:Shared}{H:Hp}{E:XK}{us:List Value}{vs:List V}
  (S:FnScope N ps scope) (hd:CX.q=true→A.handled=none) (e0:Env0 P w K mg base A outer s H) (hl:vs.length=ps.length) (r:Vals vs us)
  (x:InCallC s s.heap.objs.size (bindL (envOfC qual scope s.heap.objs.size f cd).kindOf (ps.zip us) fun _=>none) (cellsFrom (s.heap.objs.size+1) scope.names []) (bindC (envOfC qual scope s.heap.objs.size f cd).kindOf (ps.zip us) fun _=>none) s1) :
  Inv (cxOf CX P w K mg base N qual scope f cd A outer s H E) [] (start N vs) H s1:=by
 have hpl:ps.length≤N.length:=by have:=congrArg List.length S.pre; rw [List.length_take] at this; omega
 obtain ⟨h1,tk,rfl,hk⟩:=x.done
 have noA:∀ b:Addr,b ∉ (cxOf CX P w K mg base N qual scope f cd A outer s H E).ex:=fun b z=>absurd (show b∈([]:List Addr) from z) (by simp)
 refine ⟨⟨e0.mod,S.kind,rfl,rfl,Nat.le_refl _,fun y z c h1 h2=>?_,fun y hy=>?_,fun y c _ h=>?_,hd,Around.frames_deeper e0.frames,.inr ⟨rfl,rfl⟩,fun b z=>absurd z (noA b),e0.bs,e0.bsz,fun b _ _=>noA b,fun b z=>absurd z (noA b),e0.funs,e0.frf,e0.lq⟩,
  rfl,e0.bare,Un.kept hk,⟨_,x.toInCall.ns,fun i y v h1 h2 h3=>?_⟩,fun y c h=>⟨_,x.cell y c h⟩,e0.hok.fresh (Nat.le_refl _),fun y c h=>?_,fun p hp=>absurd (show p∈([]:List (Addr×Obj)) from hp) (by simp),e0.hok.kept hk,?_⟩
 ·exact name_of_addr x.apart (PySem.mem_of_lookup h1) (PySem.mem_of_lookup h2)
 ·have hy:scope.names.lookup y=some .cell∨scope.names.lookup y=some .free:=hy
  rcases hy with hy | hy
  ·exact cell_has hy
  ·exact absurd rfl (S.nofree _ (PySem.mem_of_lookup hy))
 ·exact Nat.le_of_lt (x.above y c (PySem.mem_of_lookup h))
 ·have hi:i<vs.length:=by
   unfold start at h2
   by_cases hi:i<vs.length
   ·exact hi
   ·rw [List.getElem?_append_right (by simpa using hi)] at h2
    rw [List.getElem?_replicate] at h2
    split at h2 <;> cases h2
  have ha:vs[i]? = some v:=by
   unfold start at h2
   rw [List.getElem?_append_left (by simpa using hi),List.getElem?_map] at h2
   cases e:vs[i]? with
   | none=>rw [e] at h2; cases h2
   | some a=>rw [e] at h2; cases h2; rfl
  obtain ⟨u,hu,rv⟩:=r.get ha
  have hp:ps[i]? = some y:=by
   rw [← S.pre,List.getElem?_take_of_lt (by omega)]; exact h1
  have ndP:ps.Nodup:=by rw [← S.pre]; exact S.nd.sublist (List.take_sublist _ _)
  refine ⟨u,rv,?_⟩
  rcases S.par y (List.mem_of_getElem? hp) with k | k
  ·exact .inl ⟨k,bindL_get ndP hp hu k⟩
  ·obtain ⟨c,e⟩:=cell_has (n:=s.heap.objs.size+1) k
   refine .inr ⟨.inl k,c,e,?_⟩
   have q:=x.cell y c e
   rw [bindC_get ndP hp hu (by show scope.names.lookup y≠_; rw [k]; decide)] at q
   exact q
 ·exact e0.hok.fresh (Nat.le_of_lt (x.above y c (PySem.mem_of_lookup h)))
 ·unfold start
  show _=N.length
  rw [List.length_append,List.length_map,List.length_replicate]
  omega
theorem fn_of {CX:CXT}{P:Program}{w:World}{K:PySem.W.Frag}{mg:Str→Option Value}{base:Heap}{k:Nat}{f:Addr}{name qual:Str}{params:Arguments}{body:List Stmt}{scope:Scope}{dV kV doc pm cdv ct oc:Value}{an od:Option Addr}
  {osl:Array (Option Value)} {N ps:List Str} {sp:Sp} (lk:K.lookup f=some ⟨oc,od,.func (PySem.W.fnOf name qual params body scope dV kV doc pm an cdv ct),osl⟩) (hcd:PySem.W.codeIn K cdv qual=true) (S:FnScope N ps scope)
  (len:∀ vs H Q E,sp vs H Q E→vs.length=ps.length)
  (hbody:∀ (A:Around) (outer:List Env) (s:Shared) (H:Hp) (vs:List V) (Q:VK) (E:XK),Room k (A.deeper (envOfC qual scope s.heap.objs.size f cdv))→sp vs H Q E →
   ∃ t,PSs (cxOf CX P w K mg base N qual scope f cdv A outer s H E) body t∧t { nx:=fun _ H'=>Q .non H',rt:=Q } (start N vs) H) :
  FnOk P w K mg base CX (k+1) f (PySem.W.fnOf name qual params body scope dV kV doc pm an cdv ct) ps sp:=by
 refine ⟨len,fun A outer s H args us vs Q E hr hq0 e0 hb r hsp=>?_⟩
 have hl:=len _ _ _ _ hsp
 have KX:K.In s.heap:=e0.mod.kin.keeps fun b o e=>(e0.bs b o e).1
 have lim:s.heap.NoLimit:=e0.mod.nolimit.keeps fun b o e=>(e0.bs b o e).1
 have hkind:∀ y∈ps.zip us,scope.names.lookup y.1=some .local∨(scope.names.lookup y.1=some .cell∧((cellsFrom (s.heap.objs.size+1) scope.names []).lookup y.1).isSome=true):=fun ⟨n,v⟩ hy=>by
  rcases S.par n (List.of_mem_zip hy).1 with q | q
  ·exact .inl q
  ·exact .inr ⟨q,PySem.W.cellsFrom_some _ _ _ (.inl q)⟩
 refine codeAny_call_function hr.depth (KX _ _ lk) rfl S.co S.gen rfl (PySem.W.codeRec_of KX hcd) (hb _ _ _ _ ?_)
 refine wpAny_newFunctionEnv_cells S.kind hkind fun env he s1 x=>?_
 subst he
 refine ⟨lim.keeps x.toInCall.keep,codeAny_func ?_⟩
 obtain ⟨t,ht,hq⟩:=hbody A outer s H vs Q E (hr.deeper _) hsp
 have I:Inv (cxOf CX P w K mg base N qual scope f cdv A outer s H E) [] (start N vs) H s1:=inv_start S hq0 e0 hl r x
 refine wpAny_mono (ht [] s1 (start N vs) H _ I hq) (fun fl s' hs=>?_) fun e s' hs=>hs
 have fin:∀ {σ':St} {H':Hp} {v:V} {u:Value},Inv (cxOf CX P w K mg base N qual scope f cdv A outer s H E) [] σ' H' s'→RelV v u→Q v H'→CE outer P w H s Q u s':=
  fun {σ' H' v u} J rv q=>⟨v,H',J.os,J.bare,J.base,J.hok,rv,q⟩
 cases fl with
 | ret u=>
  obtain ⟨v,σ',H',J,rv,q⟩:=hs
  exact fin J rv q
 | next=>
  obtain ⟨σ',H',J,q⟩:=hs
  exact fin (v:=V.non) (u:=Value.none) J rfl q
 | brk=>
  obtain ⟨_,_,_,q⟩:=hs
  exact False.elim q
 | cont=>
  obtain ⟨_,_,_,q⟩:=hs
  exact False.elim q
end L2
namespace L2
open PySem PySem.Spec PyProof.Rows
section
variable {X:Cx} {x:Str} {p pos:Pos} {e:Expr} {es:List Expr} {t:TA} {id T:String} {r:List V→Hp→VK→Prop}
def tCB (r:List V→Hp→VK→Prop)(t:TA):TE:=fun σ H Q=>t σ H fun vs H1=>r vs H1 Q
theorem pe_callB (hc:CallR X (.builtin id) r)(hg:Gl X x)(hm:X.mg x=none)(hv:bootBuiltins x=some (.builtin id))(ha:PA X (e::es) t)(hn:x≠"__name__":=by decide)(hdb:(x == ("__debug__":Str))=false:=by decide)
  (he:starEach (e::es) X.env=(false,eval e X.env)::starEach es X.env:=by rfl) (hpl:(backTo pos (starEach es X.env)).any (·.1)=false:=by rfl):PE X (.Call (.Name x p) (e::es) [] pos) (tCB r t):=by
 intro pins s σ H Q I h
 refine wpAny_Call_Name_kw (ld_blt I hg hm hv ?_ hn hdb)
 exact PyProof.Rows.callWith_builtin1 (thn (ha pos pins s σ H _ I h) fun us s1 ⟨vs,H1,I1,r1,q1⟩=>hc pins s1 σ H1 vs us Q I1 r1 q1) he hpl
end
end L2
namespace HT
open PySem PyProof.Rows
end HT
namespace L2
open PySem PySem.Spec PyProof.Rows
end L2
namespace L2
open PySem PySem.Spec PyProof.Rows
def ixN (n:Nat)(i:Int):Option Nat:=if 0≤i then (if i<n then some i.toNat else none) else if -(n:Int)≤i then some (i+n).toNat else none
def atI {α:Type}(xs:List α)(i:Int):Option α:=(ixN xs.length i).bind fun j=>xs[j]?
theorem ixN_seq {n:Nat}{i:Int}{j:Nat}(h:ixN n i=some j):seqIndex? i n=some j∧j<n ∧ -(n:Int)≤i∧i<n:=by
 unfold ixN at h
 by_cases h0:0≤i
 ·rw [if_pos h0] at h
  by_cases h1:i<n
  ·rw [if_pos h1] at h
   have e:i.toNat=j:=Option.some.inj h
   exact ⟨by rw [seqIndex_of h0 h1,e],by omega,by omega,h1⟩
  ·rw [if_neg h1] at h; cases h
 ·rw [if_neg h0] at h
  by_cases h1:-(n:Int)≤i
  ·rw [if_pos h1] at h
   have e:(i+n).toNat=j:=Option.some.inj h
   exact ⟨by rw [seqIndex_neg (by omega) h1,e],by omega,h1,by omega⟩
  ·rw [if_neg h1] at h; cases h
theorem atI_get {α:Type}{xs:List α}{i:Int}{v:α}(h:atI xs i=some v):∃ j,seqIndex? i xs.length=some j∧xs[j]? = some v∧j<xs.length ∧ -(xs.length:Int)≤i∧i<xs.length:=by
 unfold atI at h
 cases e:ixN xs.length i with
 | none=>rw [e] at h; cases h
 | some j=>
  rw [e] at h
  obtain ⟨h1,h2,h3,h4⟩:=ixN_seq e
  exact ⟨j,h1,h,h2,h3,h4⟩
def PlainIx (b:Expr):Prop:=∀ o i,subscripted b false o i=operate [o,i] (getItem o i)
def IxR (X:Cx)(r:R2):Prop:=
 ∀ (value slice:Expr) (pins:List (Addr×Obj)) (s:Shared) (σ:St) (H:Hp) (x y:V) (v u:Value) (Q:VK),Inv X pins σ H s→RelV x v→RelV y u→r x y H Q →
  subscripted slice false v u=operate [v,u] (getItem v u)→wpAny (model X.prog X.w) X.A (subscriptTail value slice v u) (EP X pins σ Q) X.xe s
def MtR (X:Cx)(id:String)(r:V→List V→Hp→VK→Prop):Prop:=
 ∀ (pins:List (Addr×Obj)) (s:Shared) (σ:St) (H:Hp) (x:V) (xs:List V) (v:Value) (us:List Value) (Q:VK),Inv X pins σ H s→RelV x v→Vals xs us→r x xs H Q →
  wpAny (model X.prog X.w) X.A (call (.builtin id) (v::us)) (EP X pins σ Q) X.xe s
section
variable {X:Cx} {a b:Expr} {ta tb:TE} {pos:Pos}
theorem IxR.or {r r':R2}(h:IxR X r)(h':IxR X r'):IxR X (fun x y H Q=>r x y H Q∨r' x y H Q):=by
 intro value slice pins s σ H x y v u Q I rx ry q hs
 rcases q with q | q
 ·exact h value slice pins s σ H x y v u Q I rx ry q hs
 ·exact h' value slice pins s σ H x y v u Q I rx ry q hs
theorem pe_ix {r:R2}(hr:IxR X r)(ha:PE X a ta)(hb:PE X b tb)(hs:PlainIx b):PE X (.Subscript a b pos) (tOp r ta tb):=by
 intro pins s σ H Q I h
 exact Subscript_ (binT ha hb I h fun v u s2 x y H2 I2 rx ry q=>hr a b pins s2 σ H2 x y v u Q I2 rx ry q (hs _ _))
def rIxL (K:PySem.W.Frag):R2:=fun x y H Q=>∃ p xs i v,x=.ref p∧y=.int i∧SqL K H p xs∧atI xs i=some v∧Q v H
def rIxT (K:PySem.W.Frag):R2:=fun x y H Q=>∃ p xs i v,x=.ref p∧y=.int i∧SqT K H p xs∧atI xs i=some v∧Q v H
def rIxS:R2:=fun x y H Q=>∃ z i c,x=.str z∧y=.int i∧z.length≤sizeLine∧atI z.cps.toList i=some c∧Q (.str ⟨#[c]⟩) H
theorem ix_list:IxR X (rIxL X.K):=by
 intro value slice pins s σ H x y v u Q I rx ry h hs
 obtain ⟨p,xs,i,z,rfl,rfl,hq,he,q⟩:=h
 cases rx
 obtain ⟨t,rfl⟩:=ry
 obtain ⟨its,r,pl,hz⟩:=I.list hq
 obtain ⟨j,h1,h2,h3,h4,h5⟩:=atI_get he
 obtain ⟨w,ew,rw'⟩:=r.get h2
 have hl:=r.length
 have hn:=line63
 have fin:EP X pins σ Q w s:=⟨z,H,I,rw',q⟩
 by_cases h0:0≤i
 ·have hj:i.toNat=j:=by
   rw [seqIndex_of h0 h5] at h1
   exact Option.some.inj h1
  exact item_listR pl.isList h0 (by omega) (by rw [hj]; simpa using ew) fin hs
 ·have hj:(i+(its.toArray.size:Int)).toNat=j:=by
   rw [seqIndex_neg (by omega) h4] at h1
   rw [List.size_toArray,← hl]
   exact Option.some.inj h1
  exact subscriptTail_builtinR (x:=w) pl.isList.typeIs slot_list_getitem.lookup
   (wpAny_getItem_list_neg (Q:=fun r s'=>r=w∧EP X pins σ Q r s') pl.isList (by omega) (by rw [List.size_toArray] <;> omega) (by omega) (by rw [hj]; simpa using ew) ⟨rfl,fin⟩) hs
theorem ix_tup:IxR X (rIxT X.K):=by
 intro value slice pins s σ H x y v u Q I rx ry h hs
 obtain ⟨p,xs,i,z,rfl,rfl,hq,he,q⟩:=h
 cases rx
 obtain ⟨t,rfl⟩:=ry
 obtain ⟨its,r,pl,hz⟩:=I.tuple hq
 obtain ⟨j,h1,h2,h3,h4,h5⟩:=atI_get he
 obtain ⟨w,ew,rw'⟩:=r.get h2
 have hl:=r.length
 have hn:=line63
 have fin:EP X pins σ Q w s:=⟨z,H,I,rw',q⟩
 exact subscriptTail_builtinR (x:=w) pl.typeIs slot_tuple_getitem.lookup
  (getItem_tuple (j:=j) (Q:=fun r s'=>r=w∧EP X pins σ Q r s') pl (by omega) (by omega) (by rw [List.size_toArray,← hl]; exact h1) (by simpa using ew) ⟨rfl,fin⟩) hs
theorem ix_str:IxR X rIxS:=by
 intro value slice pins s σ H x y v u Q I rx ry h hs
 obtain ⟨z,i,c,rfl,rfl,hz,he,q⟩:=h
 obtain ⟨t,rfl⟩:=rx
 obtain ⟨t',rfl⟩:=ry
 obtain ⟨j,h1,h2,h3,h4,h5⟩:=atI_get he
 have hl:z.cps.toList.length=z.length:=by simp [Str.length]
 rw [hl] at h1 h4 h5
 have hn:=line63
 exact tail_any (typeIs_str s z t) slot_str_getitem.lookup (getItem_str (c:=c) (by
  have e1:decide (i < -(2 ^ 63:Int))=false:=decide_eq_false (by omega)
  have e2:decide (i ≥ 2 ^ 63)=false:=decide_eq_false (by omega)
  rw [e1,e2,Bool.or_false]) (by rw [h1]; simpa using h2) ⟨.str ⟨#[c]⟩,H,I.tok _,⟨_,rfl⟩,q⟩) hs
def rIx (K:PySem.W.Frag):R2:=fun x y H Q=>rIxL K x y H Q∨rIxT K x y H Q∨rIxS x y H Q
theorem ix_seq:IxR X (rIx X.K):=ix_list.or (ix_tup.or ix_str)
theorem Inv.lst {pins:List (Addr×Obj)}{σ:St}{H:Hp}{s:Shared}{p:Addr}{xs:List V}(I:Inv X pins σ H s)(h:H p=some (.lst xs)) :
  ∃ (its:List Value) (n:Nat),Vals xs its∧s.heap.get? p=some { cls:=.type "list",data:=.seq its.toArray n }∧xs.length≤sizeLine:=by
 obtain ⟨z,its,n,r,e⟩:=I.hok p _ h
 exact ⟨its,n,r,e,z⟩
def flatV:V→Bool
 | .non=>true
 | .bl _=>true
 | .int _=>true
 | .str _=>true
 | _=>false
def eqV:V→V→Bool
 | .non,.non=>true
 | .bl a,.bl b=>a == b
 | .bl a,.int b=>(if a then 1 else 0) == b
 | .int a,.bl b=>a == (if b then 1 else 0)
 | .int a,.int b=>a == b
 | .str a,.str b=>a == b
 | _,_=>false
theorem eqAt_V {A:Around}{s:Shared}{y x:V}{u v:Value}(ry:RelV y u)(rx:RelV x v)(fy:flatV y=true)(fx:flatV x=true):SeqAt.EqAt A s u v (eqV y x):=by
 cases y with
 | non=>
  cases ry
  cases x with
  | non=>cases rx; exact SeqAt.EqAt.same _
  | bl b=>cases rx; exact SeqAt.EqAt.none_bool b
  | int b=>obtain ⟨t,rfl⟩:=rx; exact SeqAt.EqAt.none_int b t
  | str b=>obtain ⟨t,rfl⟩:=rx; exact SeqAt.EqAt.none_str b t
  | _=>exact absurd (show false=true from fx) Bool.false_ne_true
 | bl a=>
  cases ry
  cases x with
  | non=>cases rx; exact SeqAt.EqAt.bool_none a
  | bl b=>cases rx; exact SeqAt.EqAt.bool_bool a b
  | int b=>obtain ⟨t,rfl⟩:=rx; exact SeqAt.EqAt.bool_int a b t
  | str b=>obtain ⟨t,rfl⟩:=rx; exact SeqAt.EqAt.bool_str a b t
  | _=>exact absurd (show false=true from fx) Bool.false_ne_true
 | int a=>
  obtain ⟨t',rfl⟩:=ry
  cases x with
  | non=>cases rx; exact SeqAt.EqAt.int_none a t'
  | bl b=>cases rx; exact SeqAt.EqAt.int_bool a t' b
  | int b=>obtain ⟨t,rfl⟩:=rx; exact SeqAt.EqAt.int_int a t' b t
  | str b=>obtain ⟨t,rfl⟩:=rx; exact SeqAt.EqAt.int_str a t' b t
  | _=>exact absurd (show false=true from fx) Bool.false_ne_true
 | str a=>
  obtain ⟨t',rfl⟩:=ry
  cases x with
  | non=>cases rx; exact SeqAt.EqAt.str_none a t'
  | bl b=>cases rx; exact SeqAt.EqAt.str_bool a t' b
  | int b=>obtain ⟨t,rfl⟩:=rx; exact SeqAt.EqAt.str_int a t' b t
  | str b=>obtain ⟨t,rfl⟩:=rx; exact SeqAt.EqAt.str_str a t' b t
  | _=>exact absurd (show false=true from fx) Bool.false_ne_true
 | _=>exact absurd (show false=true from fy) Bool.false_ne_true
def tyV (K:PySem.W.Frag)(T:String)(x:V)(H:Hp):Prop:=match x with
 | .str _=>T="str"
 | .int _=>T="int"
 | .ref p=>(T="list"∧∃ xs,SqL K H p xs)∨(T="tuple"∧∃ o,K.lookup p=some o∧o.cls=.type "tuple"∧o.dict=none) ∨
   (T="dict"∧((∃ kvs,H p=some (.dK kvs))∨∃ kvs,H p=some (.dT kvs)))∨(T="set"∧∃ S n,H p=some (.set S n))
 | _=>False
theorem tyV_is {pins:List (Addr×Obj)}{σ:St}{H:Hp}{s:Shared}{T:String}{x:V}{v:Value}(I:Inv X pins σ H s)(r:RelV x v)(ty:tyV X.K T x H) :
  s.TypeIs v T∧∀ a,v=.ref a→∃ ob,s.heap.get? a=some ob∧ob.dict=none:=by
 cases x with
 | str z=>
  obtain ⟨t,rfl⟩:=r
  cases (show T="str" from ty)
  exact ⟨typeIs_str s z t,fun _ e=>nomatch e⟩
 | int i=>
  obtain ⟨t,rfl⟩:=r
  cases (show T="int" from ty)
  exact ⟨typeIs_int s i t,fun _ e=>nomatch e⟩
 | ref p=>
  cases r
  rcases ty with ⟨rfl,xs,hq⟩ | ⟨rfl,o,hk,hc,hd⟩ | ⟨rfl,hk⟩ | ⟨rfl,S,n,hk⟩
  ·obtain ⟨its,_,pl,_⟩:=I.list hq
   refine ⟨pl.isList.typeIs,fun a e=>?_⟩
   cases e
   obtain ⟨o,n,e,c,hd,_⟩:=pl
   exact ⟨o,e,hd⟩
  ·refine ⟨⟨o,I.kIn p o hk,hc⟩,fun a e=>?_⟩
   cases e
   exact ⟨o,I.kIn _ o hk,hd⟩
  ·have z:∃ o,s.heap.get? p=some o∧o.ExactDict:=by
    rcases hk with ⟨kvs,hk⟩ | ⟨kvs,hk⟩
    ·obtain ⟨_,_,_,_,o,_,_,e,ex,_⟩:=I.hok p _ hk
     exact ⟨o,e,ex⟩
    ·obtain ⟨_,_,_,_,o,_,_,e,ex,_⟩:=I.hok p _ hk
     exact ⟨o,e,ex⟩
   obtain ⟨o,e,ex⟩:=z
   refine ⟨⟨o,e,ex.1⟩,fun a e2=>?_⟩
   cases e2
   exact ⟨o,e,ex.2.1⟩
  ·obtain ⟨o,_,_,_,e,ex,_⟩:=I.hok p _ hk
   refine ⟨⟨o,e,ex.1⟩,fun a e2=>?_⟩
   cases e2
   exact ⟨o,e,ex.2.1⟩
 | _=>exact False.elim ty
def tBM (K:PySem.W.Frag)(T:String)(r:V→List V→Hp→VK→Prop)(to:TE)(t:TA):TE:=fun σ H Q=>to σ H fun x H1=>tyV K T x H1∧t σ H1 fun xs H2=>r x xs H2 Q
variable {o e:Expr} {es:List Expr} {to:TE} {t:TA} {name:Str} {apos cpos:Pos} {T id:String} {r:V→List V→Hp→VK→Prop}
theorem pe_bm (pa:PlainAttrs T)(slot:Slot T name id)(hty:typeOf (.builtin id)=pure (.type "method_descriptor"))(hm:MtR X id r)(ho:PE X o to)(ha:PA X (e::es) t)
  (hbase:attributeBase o name X.env (eval o X.env)=eval o X.env:=by rfl)
  (hfew:((backTo cpos (starEach (e::es) X.env)).all (fun x=>!x.1) && (backToKw cpos (keywordEach [] X.env)).all (fun x=>x.1.isSome)
   && decide ((e::es).length+([]:List Keyword).length+(if ([]:List Keyword).isEmpty then 0 else 1)<30))=true:=by rfl)
  (hline:(apos.endLine == cpos.line)=true:=by rfl) (hs:starEach (e::es) X.env=(false,eval e X.env)::starEach es X.env:=by rfl) (hplain:(backTo cpos (starEach es X.env)).any (·.1)=false:=by rfl) :
  PE X (.Call (.Attribute o name apos) (e::es) [] cpos) (tBM X.K T r to t):=by
 intro pins s σ H Q I h
 refine wpAny_Call_method_late hbase hfew hline rfl (thn (ho pins s σ H _ I h) fun v s1 ⟨x,H1,I1,r1,ty,q1⟩=>?_)
 obtain ⟨h1,h2⟩:=tyV_is I1 r1 ty
 refine ⟨T,id,pa,slot,hty,h1,h2,?_⟩
 have hA:=ha cpos pins s1 σ H1 _ I1 q1
 rw [hs] at hA ⊢
 refine Calls.callWith_builtin (by show (false || (backTo cpos (starEach es X.env)).any (·.1))=false; rw [hplain] <;> rfl) (Calls.evalArgs_plain ?_)
 exact thn hA fun us s2 ⟨vs,H2,I2,r2,q2⟩=>hm pins s2 σ H2 x vs v us Q I2 r1 r2 q2
end
end L2
namespace L2
open PySem PySem.Spec PyProof.Rows
def MtM (X:Cx)(id:String)(r:V→List V→Hp→VK→Prop):Prop:=
 ∀ (pins:List (Addr×Obj)) (s:Shared) (σ:St) (H:Hp) (x:V) (xs:List V) (v:Value) (us:List Value) (Q:VK),Inv X pins σ H s→RelV x v→Vals xs us→r x xs H Q →
  wpAny (model X.prog X.w) X.A (call (.builtin id) (v::us)) (EP X pins σ Q) X.xe s
theorem Vals.one:∀ {x:V} {us:List Value},Vals [x] us→∃ u,us=[u]∧RelV x u
 | _,_,.cons r .nil=>⟨_,rfl,r⟩
theorem Vals.rep {xs:List V}{us:List Value}(h:Vals xs us):∀ k:Nat,Vals (List.replicate k xs).flatten (List.replicate k us).flatten
 | 0=>.nil
 | k+1=>by
  rw [List.replicate_succ,List.replicate_succ,List.flatten_cons,List.flatten_cons]
  exact Vals.append h (Vals.rep h k)
theorem foldl_rep (its:List Value):∀ (k:Nat) (acc:List Value),
  List.foldl (fun x1 x2=>x1++x2) acc.toArray (List.replicate k its.toArray)=(acc++(List.replicate k its).flatten).toArray
 | 0,acc=>by simp
 | k+1,acc=>by
  have e:acc.toArray++its.toArray=(acc++its).toArray:=by simp
  have e2:(acc++its)++(List.replicate k its).flatten=acc++(List.replicate (k+1) its).flatten:=by
   rw [List.replicate_succ,List.flatten_cons,List.append_assoc]
  rw [← e2,← foldl_rep its k (acc++its),← e,List.replicate_succ,List.foldl_cons]
section
variable {X:Cx} {pins:List (Addr×Obj)} {σ:St} {H:Hp} {s:Shared} {l b:Addr} {xs ys zs:List V}
theorem Inv.lset {its its':List Value}{n:Nat}{f:Array Value→Array Value}{t':Nat}(I:Inv X pins σ H s)(hH:H l=some (.lst xs))
  (e:s.heap.get? l=some { cls:=.type "list",data:=.seq its.toArray n }) (hf:f its.toArray=its'.toArray) (hv:Vals ys its') (hz:ys.length≤sizeLine) :
  Inv X pins σ (upd H l (.lst ys)) { s with heap:=s.heap.update l (Obj.mapSeq f),toks:=t' }:=by
 have q:=PySem.IsL.update e f
 rw [hf] at q
 refine I.write (x:=l) (e:=l) (by rw [hH]; exact trivial) (.inl rfl) (fun b' u hb hu=>(Heap.get?_update_other s.heap (Obj.mapSeq f) (Ne.symm hb)).trans hu) ⟨_,q⟩ ?_
 exact ⟨hz,its',_,hv,q⟩
theorem Inv.lnew {its:List Value}{t':Nat}(I:Inv X pins σ H s)(hv:Vals ys its)(hz:ys.length≤sizeLine) :
  Inv X pins σ (upd H s.heap.objs.size (.lst ys)) { s with heap:=s.heap.push { cls:=.type "list",data:=.seq its.toArray },toks:=t' }:=
 I.laid (fun _ _ q=>Heap.get?_push_of_some _ q) (Nat.le_refl _) ⟨hz,its,0,hv,Heap.get?_push_size _ rfl⟩
theorem Inv.fresh (I:Inv X pins σ H s):H s.heap.objs.size=none:=I.hok.fresh (Nat.le_refl _)
theorem Inv.lstM (I:Inv X pins σ H s)(hH:H l=some (.lst xs)):xs.length≤sizeLine∧∃ (its:List Value) (n:Nat),Vals xs its∧xs.length=its.length∧s.heap.get? l=some { cls:=.type "list",data:=.seq its.toArray n }:=by
 obtain ⟨z,its,n,r,e⟩:=I.hok l _ hH
 exact ⟨z,its,n,r,r.length,e⟩
theorem notLongL {n:Nat}(h:n≤sizeLine):Builtin.List.listTooLong n=false:=by
 unfold Builtin.List.listTooLong
 exact decide_eq_false (by omega)
end
section
variable {X:Cx}
def rAppend:V→List V→Hp→VK→Prop:=fun x vs H Q=>∃ l xs y,x=.ref l∧vs=[y]∧H l=some (.lst xs)∧xs.length<sizeLine∧Q .non (upd H l (.lst (xs++[y])))
theorem mt_append:MtM X "list.append" rAppend:=by
 intro pins s σ H x vs v us Q I rx rv h
 obtain ⟨l,xs,y,rfl,rfl,hH,hz,q⟩:=h
 cases rx
 obtain ⟨u,rfl,ru⟩:=rv.one
 obtain ⟨z,its,n,r,hl,e⟩:=I.lstM hH
 refine call_meets F.slot_list_append ⟨_,e,rfl⟩ F.entry_list_append (F.args_list_append_2 _ _) (PySem.list_append l its.toArray n u (by rw [List.size_toArray]; omega)) ⟨e,?_⟩
 refine ⟨.non,_,I.lset (its':=its++[u]) hH e (by simp) (r.append (.cons ru .nil)) ?_,rfl,q⟩
 rw [List.length_append,List.length_singleton]
 omega
def rRep:R2:=fun x y H Q=>∃ l k xs,x=.ref l∧y=.int k∧H l=some (.lst xs) ∧ -(2 ^ 63)≤k∧k<2 ^ 63∧xs.length * k.toNat≤sizeLine ∧
 ∀ p,H p=none→Q (.ref p) (upd H p (.lst (List.replicate k.toNat xs).flatten))
theorem len_rep {α:Type}(xs:List α)(k:Nat):(List.replicate k xs).flatten.length=k * xs.length:=by
 induction k with
 | zero=>simp
 | succ k ih=>rw [List.replicate_succ,List.flatten_cons,List.length_append,ih,Nat.succ_mul,Nat.add_comm]
theorem op_rep:OpR X (binaryOp .Mult) rRep:=by
 intro pins s σ H x y v u Q I rx ry h
 obtain ⟨l,k,xs,rfl,rfl,hH,h1,h2,hz,q⟩:=h
 cases rx
 obtain ⟨t,rfl⟩:=ry
 obtain ⟨z,its,n,r,hl,e⟩:=I.lstM hH
 have hlen:its.toArray.size * k.toNat≤sizeLine:=by rw [List.size_toArray,← hl]; exact hz
 have hcap:¬its.toArray.size * k.toNat > (2 ^ 63 - 1) / 8:=by
  have:(sizeLine:Nat)≤(2 ^ 63 - 1) / 8:=by decide
  omega
 have hfit:¬(!Builtin.List.listFitsIndex k)=true:=by
  rw [fitsIndex_both h1 h2]
  exact Bool.false_ne_true
 have hlong:¬Builtin.List.listTooLong (its.toArray.size * k.toNat)=true:=by
  rw [notLongL hlen]
  exact Bool.false_ne_true
 have hnew:List.foldl (fun x1 x2=>x1++x2) #[] (List.replicate (if its.toArray.isEmpty=true then 0 else k.toNat) its.toArray)=(List.replicate k.toNat its).flatten.toArray:=by
  have f0:∀ m:Nat,List.foldl (fun x1 x2=>x1++x2) #[] (List.replicate m its.toArray)=(List.replicate m its).flatten.toArray:=fun m=>by
   have:=foldl_rep its m []
   rw [List.nil_append] at this
   exact this
  rw [f0]
  cases its with
  | nil=>simp
  | cons a r'=>rw [if_neg (by simp)]
 refine wpAny_binaryOp_repeat_ref (T:="list") (U:="int") (by decide) ⟨_,e,rfl⟩ (fun s'=>typeIs_int s' k t) noFill_list_mul F.fills_int_mul F.slot_int_rmul repeat_list F.slot_int_index.lookup
  (call_meets F.slot_int_rmul (typeIs_int s k t) F.entry_int_rmul (F.args_int_rmul_2 _ _) (int___rmul___int_list k t l its.toArray n)
   ⟨e,rfl,⟨_,e,rfl⟩,call_meets F.slot_list_mul ⟨_,e,rfl⟩ F.entry_list_mul (F.args_list_mul_2 _ _) (AutoListH.list___mul___list_int_3 l its.toArray n k t hfit hcap hlong) ⟨e,?_⟩⟩)
 rw [hnew]
 exact ⟨.ref _,_,I.lnew (t':=s.toks) (r.rep k.toNat) (by rw [len_rep,Nat.mul_comm]; exact hz),rfl,q _ I.fresh⟩
end
end L2
namespace L2
open PySem PySem.Spec PyProof.Rows
section
variable {κ:Type} [DecidableEq κ]
theorem KV.length {kvs:List (κ×V)}{vs:List (κ×Value)}(r:KV kvs vs):kvs.length=vs.length:=Paired.length r
end
end L2
namespace Att
open PySem PySem.W PySem.Calls PyProof.Rows
theorem ints_of_wellAll {P:Params}{h:Heap}:∀ (ns:List Int) (vs:List Value),WellAll P h vs (ns.map WData.int)→IntsAre vs ns:=by
 intro ns
 induction ns with
 | nil=>
  intro vs w
  rw [List.map_nil] at w
  cases w
  exact .nil
 | cons n ns ih=>
  intro vs w
  rw [List.map_cons] at w
  cases w with
  | cons a b=>
   cases a
   exact .cons _ _ (ih _ b)
theorem script_of {l:OpenLaw}{n:Nat}(hn:l.most=some n){P:Params}{h:Heap}{args:List WData}{vals:List Value}
  (hpre:l.row.toRowW.claim.pre args=true) (hwl:WellAll P h vals args) :
  ∃ a vs ns,vals=[Value.ref a]∧args=[WData.list (ns.map WData.int)]∧h.get? a=some { cls:=.type "list",data:=.seq vs.toArray }∧IntsAre vs ns∧ns.length≤n:=by
 have hsh:WShape.hasAll [] args [.list .int]=true:=(pre_splitW hpre).1
 have hc:l.pre.holds [] { args:=args }=true:=(pre_splitW hpre).2
 obtain ⟨d,r,rfl,h1,h2⟩:=hasAllW_cons hsh
 obtain rfl:=hasAllW_nil h2
 obtain ⟨xs,rfl,h3⟩:=hasW_list h1
 obtain ⟨ns,rfl⟩:=items_int h3
 have hlen:ns.length≤n:=by
  unfold OpenLaw.pre at hc
  have h4:(WTm.not (.lt (.lit (.int (n:Int))) (.len (.arg 0)))).holds [] { args:=[.list (ns.map .int)] }=true:=by
   have h4:=(holds_andW hc).1
   rw [hn] at h4
   exact h4
  have h5:=condW_of h4 (w_not (w_lt w_lit (w_len_list (w_arg rfl))))
  rw [List.length_map] at h5
  refine Nat.le_of_not_lt fun q=>?_
  have q':(n:Int)<((ns.length:Nat):Int):=by omega
  first
   | (rw [decide_eq_true q'] at h5; exact absurd h5 (by decide))
   | (simp at h5; omega)
 cases hwl with
 | cons w1 w2=>
  cases w2
  cases w1 with
  | list ho hall=>exact ⟨_,_,ns,rfl,rfl,ho,ints_of_wellAll ns _ hall,hlen⟩
theorem post_true (l:OpenLaw)(args:List WData):l.row.toRowW.claim.post args (.bool true) args=true:=
 postW_of (r:=l.row.toRowW) (X:=(true == true))
  (show WShape.has [] (.bool true) .bool=true by first | rfl | decide | simp [WShape.has,WShape.arms,WShape.armsAll])
  (show (WTm.eq .res (.lit (.bool true))).value [] { args:=args,res:=some (.bool true),after:=args }=some (.bool (true == true)) from w_eq_bool (w_res rfl) w_lit) rfl
theorem attach_call {l:OpenLaw}{n:Nat}{q:Program}{loose:List Str}{XP:(Str→Option Value)→Heap→Prop}{YP:World→Heap→Prop}{d:DefRec}
  (hn:l.most=some n) (hdf:d.params.defaults=[])
  (call:∀ (w:World) (s₀ s₁:Shared) (mg mb:Str→Option Value) (fa:Addr) (o:Obj) (pm cd doc:Value) (a:Addr) (vs:List Value) (ns:List Int),
   Ground q loose [] XP w s₀ mg mb s₁.heap→YP w s₁.heap →
   s₁.heap.get? fa=some o→o.data=.func (docDef d.name d.params d.body d.scope pm cd doc)→s₁.heap.CodeRec cd d.name→mg d.name=some (.ref fa) →
   s₁.heap.get? a=some { cls:=.type "list",data:=.seq vs.toArray }→IntsAre vs ns→ns.length≤n→s₁.gens = #[] →
   codeAny (model l.prog w) callerA (.call (.ref fa) ⟨[.ref a],[]⟩) (fun r s'=>r=.ok (.ret (.bool true))∧OldK s₁.heap s'.heap∧s'.os=s₁.os∧AllBare s'.gens) s₁) :
  WalkO q loose XP YP l.row.toRowW d [] (fun f vs=>PySem.call f vs):=by
 intro w s₀ s₁ mg mb G Y fa o pm cd doc dV kV ho hd hcd hD hmg hg args vals as hpre hlay hrd hwl hlo
 obtain rfl:dV=.none:=Dflts.none hD hdf
 obtain rfl:kV=.none:=Dflts.noKw hD
 obtain ⟨a,vs,ns,rfl,rfl,hobj,hints,hlen⟩:=script_of hn hpre hwl
 refine enter_call (codeAny_mono (call w s₀ s₁ mg mb fa o pm cd doc a vs ns G Y ho (fd_plain hd) hcd hmg hobj hints hlen hg) fun r s' hq=>?_)
 obtain ⟨rfl,h2,h3,h4⟩:=hq
 exact ⟨.inl ⟨.bool true,.bool true,[],rfl,fun _=>rfl,.bool true,post_true l _,fun _=>⟨List.Pairwise.nil,fun _ hm=>(nomatch hm)⟩⟩,h2,h3,h4⟩
end Att
namespace L2
open PySem PySem.Spec PyProof.Rows
theorem vals_ints:∀ {vs:List Value} {ns:List Int},IntsAre vs ns→Vals (ns.map V.int) vs
 | _,_,.nil=>.nil
 | _,_,.cons n t h=>.cons ⟨t,rfl⟩ (vals_ints h)
def Only (H:Hp):Prop:=∀ b,H b=none∨∃ o xs,H b=some (.frz o (.lst xs))
theorem law_call {P:Program}{w:World}{K:PySem.W.Frag}{mg mb:Str→Option Value}{CX:CXT}{k:Nat}{fa a:Addr}{fd:FuncData}{x:Str}{sp:Sp}{s₁:Shared}{vs:List Value}{ns:List Int}
  (KX:K.In s₁.heap) (hns:s₁.heap.Ns mainGlobals mg) (hb:s₁.heap.Ns builtinsNs mb) (hbb:∀ x:Str,x≠"__name__"→mb x=bootBuiltins x) (hlim:s₁.heap.NoLimit) (hg:s₁.gens = #[])
  (ha:s₁.heap.get? a=some { cls:=.type "list",data:=.seq vs.toArray }) (hi:IntsAre vs ns) (hl:ns.length≤sizeLine) (hr:Room k callerA)
  (F:∀ base:Heap,K.In base→base.Ns mainGlobals mg→FnOk P w K mg base CX k fa fd [x] sp) (hbind:∀ (s:Shared) (u:Value),BindsTo s fd ⟨[u],[]⟩ [(x,u)])
  (hsp:∀ H:Hp,Only H→SqL K H a (ns.map V.int)→sp [.ref a] H (fun v _=>v=.bl true) fun _ _ _=>False)
  (hCX:∀ H e s',CX [] H s₁ (fun _ _ _=>False) e s'→False) :
  codeAny (model P w) callerA (.call (.ref fa) ⟨[.ref a],[]⟩) (fun r s'=>r=.ok (.ret (.bool true))∧OldK s₁.heap s'.heap∧s'.os=s₁.os∧AllBare s'.gens) s₁:=by
 have rv:=vals_ints hi
 have lenV:=hi.length
 have core:∀ H:Hp,Only H→SqL K H a (ns.map V.int)→HOk P w H s₁.heap→(∀ b,H b≠none→b=a)→(H a≠none→K.lookup a=none) →
   codeAny (model P w) callerA (.call (.ref fa) ⟨[.ref a],[]⟩) (fun r s'=>r=.ok (.ret (.bool true))∧OldK s₁.heap s'.heap∧s'.os=s₁.os∧AllBare s'.gens) s₁:=by
  intro H hO hS hok hA hK
  have base_of:∀ {b:Addr} {o:Obj},s₁.heap.get? b=some o→H b=none→(hidT s₁.heap H).get? b=some o:=fun e n=>hidT_get e n
  have noA:∀ {b:Addr} {o:Obj} {es:Array DictEntry} {ep:Nat},s₁.heap.get? b=some o→o.data=.dict es ep→H b=none:=fun {b o es ep} e d=>by
   cases q:H b with
   | none=>rfl
   | some u=>
    have e':b=a:=hA b (by rw [q]; simp)
    subst e'
    rw [ha] at e; cases e
    have d':Data.seq vs.toArray _=Data.dict es ep:=d
    cases d'
  have nsK:∀ {b:Addr} {m:Str→Option Value},s₁.heap.Ns b m→(hidT s₁.heap H).Ns b m:=fun {b m} ⟨o,es,ep,e,d,r⟩=>⟨o,es,ep,base_of e (noA e d),d,r⟩
  have hKb:K.In (hidT s₁.heap H):=fun b o e=>base_of (KX b o e) (by
   cases q:H b with
   | none=>rfl
   | some u=>
    have e':b=a:=hA b (by rw [q]; simp)
    subst e'
    rw [hK (by rw [q]; simp)] at e; cases e)
  have hM:Mod K mg (hidT s₁.heap H):=⟨hKb,nsK hns,⟨mb,nsK hb,hbb⟩,let ⟨mc,h1,h2⟩:=hlim; ⟨mc,nsK h1,h2⟩⟩
  have e0:Env0 P w K mg (hidT s₁.heap H) callerA [] s₁ H:=⟨rfl,hM,fun b o e=>of_hidT e,Nat.le_of_eq (hidT_size _ _),trivial,fun b hb=>absurd (show b∈([]:List Addr) from hb) (by simp),hok,.of_eq hg,.inl rfl⟩
  refine codeAny_mono ((F _ hKb (nsK hns)).run callerA [] s₁ H ⟨[.ref a],[]⟩ [.ref a] [.ref a] _ _ hr (fun _=>rfl) e0 (hbind s₁ (.ref a)) (.cons rfl .nil) (hsp H hO hS)) fun r s' h=>?_
  cases r with
  | error e=>exact (hCX H e s' h).elim
  | ok fl=>
   cases fl with
   | next=>exact False.elim h
   | brk=>exact False.elim h
   | cont=>exact False.elim h
   | ret u=>
    obtain ⟨v,H',os,bare,un,hok',r',q⟩:=h
    have q':v=.bl true:=q
    subst q'
    obtain rfl:u=Value.bool true:=r'
    refine ⟨rfl,OldK.of_keep fun b o e=>?_,os,bare⟩
    cases q:H b with
    | none=>exact un.keep b o e q (by intro z; exact absurd (show b∈([]:List Addr) from z) (by simp)) (by simp)
    | some u=>
     rcases hO b with z | ⟨ob,xs,z⟩
     ·rw [q] at z; cases z
     ·have z2:=un.frzs b ob _ z
      obtain ⟨e1,_⟩:=hok b _ z
      obtain ⟨e2,_⟩:=hok' b _ z2
      rw [e] at e1; cases e1
      exact e2
 cases hk:K.lookup a with
 | some o=>
  have e:=KX a o hk
  rw [ha] at e
  cases e
  refine core (fun _=>none) (fun _=>.inl rfl) (.inr ⟨_,vs.toArray,_,hk,rfl,rfl,rfl,by rw [List.size_toArray,lenV]; exact hl,by simpa using rv⟩) (fun b u z=>by have z':(none:Option HO)=some u:=z; cases z') (fun b z=>absurd rfl z) fun z=>absurd rfl z
 | none=>
  refine core (fun b=>if b=a then some (.frz { cls:=.type "list",data:=.seq vs.toArray } (.lst (ns.map V.int))) else none) (fun b=>?_) (.inl (.inr ⟨{ cls:=.type "list",data:=.seq vs.toArray },if_pos rfl⟩)) (fun b u z=>?_) (fun b z=>?_) fun _=>hk
  ·by_cases hb:b=a
   ·exact .inr ⟨_,_,if_pos hb⟩
   ·exact .inl (if_neg hb)
  ·by_cases hb:b=a
   ·have z':=(if_pos hb).symm.trans z
    cases z'
    subst hb
    exact ⟨ha,by rw [List.length_map]; exact hl,vs,_,rv,ha⟩
   ·have z':=(if_neg hb).symm.trans z
    cases z'
  ·by_cases hb:b=a
   ·exact hb
   ·exact absurd (if_neg hb) z
end L2
namespace L2
open PySem PySem.Spec PyProof.Rows
abbrev KOf {K:PySem.W.Frag}{h:Heap}(_:K.In h):PySem.W.Frag:=K
theorem walk_of {l:PySem.W.OpenLaw}{n k:Nat}{q:Program}{loose:List Str}{XP:(Str→Option Value)→Heap→Prop}{YP:World→Heap→Prop}{d:DefRec}{K:Params→PySem.W.Frag}{CX:World→CXT}{sp:World→Sp}{x:Str}
  (hn:l.most=some n) (hn2:n≤sizeLine) (hdf:d.params.defaults=[]) (hr:Room k callerA)
  (hY:∀ (w:World) (h:Heap),YP w h→(K w.params).In h)
  (F:∀ (w:World) (mg:Str→Option Value) (fa:Addr) (h:Heap),(K w.params).In h→h.Ns mainGlobals mg→mg d.name=some (.ref fa) →
   ∃ fd:FuncData,(∀ (s:Shared) (u:Value),BindsTo s fd ⟨[u],[]⟩ [(x,u)]) ∧
    ∀ base:Heap,(K w.params).In base→base.Ns mainGlobals mg→FnOk l.prog w (K w.params) mg base (CX w) k fa fd [x] (sp w))
  (hsp:∀ (w:World) (H:Hp) (a:Addr) (ns:List Int),ns.length≤n→Only H→SqL (K w.params) H a (ns.map V.int)→sp w [.ref a] H (fun v _=>v=.bl true) fun _ _ _=>False)
  (hCX:∀ (w:World) (H:Hp) (s:Shared) (e:Value) (s':Shared),CX w [] H s (fun _ _ _=>False) e s'→False) :
  PySem.W.WalkO q loose XP YP l.row.toRowW d [] (fun f vs=>PySem.call f vs):=by
 refine Att.attach_call hn hdf fun w s₀ s₁ mg mb fa o pm cd doc a vs ns G Y ho hd hcd hmg hobj hints hlen hg=>?_
 have KX:=hY w _ Y
 obtain ⟨fd,hb,hF⟩:=F w mg fa _ KX G.T.g hmg
 exact law_call KX G.T.g G.T.b G.T.builtins G.T.nolimit hg hobj hints (Nat.le_trans hlen hn2) hr hF hb (fun H hO hS=>hsp w H a ns hlen hO hS) fun H e s'=>hCX w H s₁ e s'
end L2
namespace L2
open PySem PySem.Spec PyProof.Rows
def inClass (s:Stmt)(j:Nat):Stmt:=match s with
 | .ClassDef _ _ _ body _ _ _ _ _ _ _=>body.getD j (.Pass ⟨0,0,0,0⟩)
 | _=>.Pass ⟨0,0,0,0⟩
def defArgs (s:Stmt):Arguments:=match s with
 | .FunctionDef _ a _ _ _ _ _ _ _ _=>a
 | _=>{ posonlyargs:=[],args:=[],vararg:=none,kwonlyargs:=[],kw_defaults:=[],kwarg:=none,defaults:=[] }
def defBody (s:Stmt):List Stmt:=match s with
 | .FunctionDef _ _ b _ _ _ _ _ _ _=>b
 | _=>[]
def defScope (s:Stmt):Scope:=match s with
 | .FunctionDef _ _ _ _ _ _ sc _ _ _=>sc
 | _=>{ kind:=.function,names:=[],isGenerator:=false,isCoroutine:=false }
abbrev CX0:CXT:=⟨fun _ _ _ _ _ _=>False,true⟩
abbrev E0:XK:=fun _ _ _=>False
theorem pass0 {X:Cx}(hc:X.calm=true):Passes CX0 X E0:=⟨fun _=>hc,fun _ _ _ _ _ _ _ h=>False.elim h⟩
structure Fun (K:PySem.W.Frag)(x qual:Str)(st:Stmt)(f:Addr)(fd:FuncData):Prop where
 ex:∃ (oc:Value) (od:Option Addr) (kV doc pm:Value) (an:Option Addr) (cdv ct:Value) (osl:Array (Option Value)),
  fd=PySem.W.fnOf x qual (defArgs st) (defBody st) (defScope st) .none kV doc pm an cdv ct∧K.lookup f=some ⟨oc,od,.func fd,osl⟩∧PySem.W.codeIn K cdv qual=true
 kp:PySem.W.keepIn K (.ref f)=true
section
variable {P:Program} {w:World} {K:PySem.W.Frag} {mg:Str→Option Value} {base:Heap}
theorem Fun.ok {x qual:Str}{st:Stmt}{f:Addr}{fd:FuncData}{N ps:List Str}{k:Nat}{sp:Sp}(F:Fun K x qual st f fd)(S:FnScope N ps (defScope st))(len:∀ vs H Q E,sp vs H Q E→vs.length=ps.length)
  (hbody:∀ (cdv:Value) (A:Around) (outer:List Env) (s:Shared) (H:Hp) (vs:List V) (Q:VK) (E:XK),Room k (A.deeper (envOfC qual (defScope st) s.heap.objs.size f cdv))→sp vs H Q E →
   ∃ t,PSs (cxOf CX0 P w K mg base N qual (defScope st) f cdv A outer s H E).nox (defBody st) t∧t { nx:=fun _ H'=>Q .non H',rt:=Q } (start N vs) H):FnOk P w K mg base CX0 (k+1) f fd ps sp:=by
 obtain ⟨oc,od,kV,doc,pm,an,cdv,ct,osl,rfl,lk,hcd⟩:=F.ex
 refine fn_of lk hcd S len fun A outer s H vs Q E hr hsp=>?_
 obtain ⟨t,h,q⟩:=hbody cdv A outer s H vs Q E hr hsp
 exact ⟨t,h.nox,q⟩
theorem Fun.binds {x qual:Str}{st:Stmt}{f:Addr}{fd:FuncData}{ps:List Str}(F:Fun K x qual st f fd)
  (h:∀ (kV doc pm:Value) (an:Option Addr) (cdv ct:Value) (us:List Value),us.length=ps.length→bindArgs (PySem.W.fnOf x qual (defArgs st) (defBody st) (defScope st) .none kV doc pm an cdv ct) ⟨us,[]⟩=pure (ps.zip us)):Binds K fd ps []:=by
 obtain ⟨oc,od,kV,doc,pm,an,cdv,ct,osl,rfl,lk,hcd⟩:=F.ex
 exact .all (h kV doc pm an cdv ct)
theorem fun_mk {x qual:Str}{st:Stmt}{f:Addr}{oc:Value}{od an:Option Addr}{osl:Array (Option Value)}{kV doc pm cdv ct:Value}(l:K.lookup f=some ⟨oc,od,.func (PySem.W.fnOf x qual (defArgs st) (defBody st) (defScope st) .none kV doc pm an cdv ct),osl⟩)
  (c:PySem.W.codeIn K cdv qual=true) (k:PySem.W.keepIn K (.ref f)=true):Fun K x qual st f (PySem.W.fnOf x qual (defArgs st) (defBody st) (defScope st) .none kV doc pm an cdv ct):=⟨⟨oc,od,kV,doc,pm,an,cdv,ct,osl,rfl,l,c⟩,k⟩
end
theorem iteF {A B:Prop}(h:B):if false=true then A else B:=by
 rw [if_neg Bool.false_ne_true]
 exact h
theorem iteT {A B:Prop}(h:A):if true=true then A else B:=by
 rw [if_pos rfl]
 exact h
def Same (H H':Hp):Prop:=∀ b o,H b=some o→H' b=some o
theorem Same.seq {K:PySem.W.Frag}{H H':Hp}{a:Addr}{xs:List V}(e:Same H H')(h:SqL K H a xs):SqL K H' a xs:=by
 rcases h with (h | ⟨o,h⟩) | h
 ·exact .inl (.inl (e _ _ h))
 ·exact .inl (.inr ⟨o,e _ _ h⟩)
 ·exact .inr h
end L2
namespace L2
open PySem PySem.Spec PyProof.Rows
theorem boot_b_isinstance:bootBuiltins "isinstance"=some (.builtin "isinstance"):=by decide +kernel
def DefAt (K:PySem.W.Frag)(mg:Str→Option Value)(x:Str)(st:Stmt):Prop:=∃ f fd,Fun K x x st f fd∧mg x=some (.ref f)
def FnAt (P:Program)(w:World)(K:PySem.W.Frag)(mg:Str→Option Value)(base:Heap)(CX:CXT)(k:Nat)(x:Str)(sp:Sp):Prop:=
 ∃ f fd ps,FnOk P w K mg base CX k f fd ps sp∧mg x=some (.ref f)∧PySem.W.keepIn K (.ref f)=true∧Binds K fd ps []
def BindsAll (x qual:Str)(st:Stmt)(ps:List Str):Prop:=∀ (kV doc pm:Value) (an:Option Addr) (cdv ct:Value) (us:List Value),us.length=ps.length →
 bindArgs (PySem.W.fnOf x qual (defArgs st) (defBody st) (defScope st) .none kV doc pm an cdv ct) ⟨us,[]⟩=pure (ps.zip us)
section
variable {X:Cx} {CX:CXT} {k j:Nat} {sp:Sp} {E:XK} {x:Str} {p pos:Pos} {e:Expr} {es:List Expr} {t:TA}
theorem pe_fn (G:FnAt X.prog X.w X.K X.mg X.base CX k x sp)(hr:Room j X.A)(hkj:k≤j)(hg:Gl X x)(hx:Passes CX X E)
  (ha:PA X (e::es) t) (hdb:(x == ("__debug__":Str))=false:=by decide) (he:starEach (e::es) X.env=(false,eval e X.env)::starEach es X.env:=by rfl) (hpl:(backTo pos (starEach es X.env)).any (·.1)=false:=by rfl) :
  PE X (.Call (.Name x p) (e::es) [] pos) (tCall sp [] E t):=by
 obtain ⟨f,fd,ps,F,hm,hk,hb⟩:=G
 exact pe_call F (hr.mono hkj) hg hm hk hb .nil hx ha hdb he hpl
def GC (mg:Str→Option Value)(x:Str)(v:V):Prop:=∃ u,mg x=some u∧RelV v u
theorem pe_gc {v:V}(hg:Gl X x)(h:GC X.mg x v)(hd:(x == ("__debug__":Str))=false:=by decide):PE X (.Name x p) (tC v):=by
 obtain ⟨u,hm,r⟩:=h
 exact pe_glob hg hm r hd
def clsV:V→Value→Prop
 | .ty n,c=>c=.type n
 | .ref a,c=>c=.ref a
 | _,_=>False
end
section
variable {K:PySem.W.Frag} {h:Heap} {mg:Str→Option Value}
theorem def_mk {x:Str}{st:Stmt}{f:Addr}{oc:Value}{od an:Option Addr}{osl:Array (Option Value)}{kV doc pm cdv ct:Value}(X:K.In h)(G:h.Ns mainGlobals mg)(a:PySem.W.nsIn K mainGlobals x=some (some (.ref f)))
  (l:K.lookup f=some ⟨oc,od,.func (PySem.W.fnOf x x (defArgs st) (defBody st) (defScope st) .none kV doc pm an cdv ct),osl⟩) (c:PySem.W.codeIn K cdv x=true) (k:PySem.W.keepIn K (.ref f)=true):DefAt K mg x st:=
 ⟨f,_,fun_mk l c k,PySem.W.mg_of X G a⟩
theorem gc_mk {x:Str}{u:Value}{v:V}(X:K.In h)(G:h.Ns mainGlobals mg)(a:PySem.W.nsIn K mainGlobals x=some (some u))(r:RelV v u):GC mg x v:=⟨u,PySem.W.mg_of X G a,r⟩
theorem law_mk {P:Program}{w:World}{CX:CXT}{k:Nat}{sp:Sp}{st:Stmt}{fa:Addr}{x:Str}(R:DefAt K mg "law" st)(hmg:mg "law"=some (.ref fa))(hb:BindsAll "law" "law" st [x])
  (F:∀ (f:Addr) (fd:FuncData),Fun K "law" "law" st f fd→∀ base:Heap,FnOk P w K mg base CX k f fd [x] sp) :
  ∃ fd:FuncData,(∀ (s:Shared) (u:Value),BindsTo s fd ⟨[u],[]⟩ [(x,u)])∧∀ base:Heap,K.In base→base.Ns mainGlobals mg→FnOk P w K mg base CX k fa fd [x] sp:=by
 obtain ⟨f,fd,F1,hm⟩:=R
 have e:=hmg.symm.trans hm
 cases e
 refine ⟨fd,fun s u=>?_,fun base _ _=>F fa fd F1 base⟩
 obtain ⟨oc,od,kV,doc,pm,an,cdv,ct,osl,rfl,lk,hcd⟩:=F1.ex
 exact .of_eq (hb kV doc pm an cdv ct [u] rfl)
end
def sp_law (K:PySem.W.Frag):Sp:=fun vs H Q _=>∃ (a:Addr) (ns:List Int),vs=[.ref a]∧SqL K H a (ns.map V.int)∧ns.length≤63∧Only H∧∀ H',Q (.bl true) H'
theorem walk0 {l:PySem.W.OpenLaw}{k:Nat}{q:Program}{loose:List Str}{XP:(Str→Option Value)→Heap→Prop}{YP:World→Heap→Prop}{d:DefRec}{K:Params→PySem.W.Frag}{x:Str}(hn:l.most=some 63)(hdf:d.params.defaults=[])(hr:Room k callerA)
  (hY:∀ (w:World) (h:Heap),YP w h→(K w.params).In h)
  (F:∀ (w:World) (mg:Str→Option Value) (fa:Addr) (h:Heap),(K w.params).In h→h.Ns mainGlobals mg→mg d.name=some (.ref fa) →
   ∃ fd:FuncData,(∀ (s:Shared) (u:Value),BindsTo s fd ⟨[u],[]⟩ [(x,u)])∧∀ base:Heap,(K w.params).In base→base.Ns mainGlobals mg→FnOk l.prog w (K w.params) mg base CX0 k fa fd [x] (sp_law (K w.params))) :
  PySem.W.WalkO q loose XP YP l.row.toRowW d [] (fun f vs=>PySem.call f vs):=
 walk_of (n:=63) (k:=k) (x:=x) (CX:=fun _=>CX0) (sp:=fun w=>sp_law (K w.params)) hn (by decide) hdf hr hY F (fun _ H a ns hl hO hS=>⟨a,ns,rfl,hS,hl,hO,fun _=>rfl⟩) fun _ _ _ _ _ z=>z
theorem Same.tup {K:PySem.W.Frag}{H H':Hp}{a:Addr}{xs:List V}(e:Same H H')(h:SqT K H a xs):SqT K H' a xs:=by
 rcases h with (h | ⟨o,h⟩) | h
 ·exact .inl (.inl (e _ _ h))
 ·exact .inl (.inr ⟨o,e _ _ h⟩)
 ·exact .inr h
end L2
namespace L2
open PySem PySem.Spec PyProof.Rows
def lstAt (H:Hp)(a:Addr):Option (List V):=match H a with
 | some (.lst xs)=>some xs
 | some (.frz _ (.lst xs))=>some xs
 | _=>none
def tupAt (H:Hp)(a:Addr):Option (List V):=match H a with
 | some (.tup xs)=>some xs
 | _=>none
theorem lstAt_rd {H:Hp}{a:Addr}{xs:List V}(h:lstAt H a=some xs):Rd H a (.lst xs):=by
 unfold lstAt at h
 split at h
 ·rename_i e; cases h; exact .inl e
 ·rename_i e; cases h; exact .inr ⟨_,e⟩
 ·cases h
theorem lstAt_sq {K:PySem.W.Frag}{H:Hp}{a:Addr}{xs:List V}(h:lstAt H a=some xs):SqL K H a xs:=.inl (lstAt_rd h)
theorem tupAt_eq {H:Hp}{a:Addr}{xs:List V}(h:tupAt H a=some xs):H a=some (.tup xs):=by
 unfold tupAt at h
 split at h
 ·rename_i e; cases h; exact e
 ·cases h
theorem tupAt_sq {K:PySem.W.Frag}{H:Hp}{a:Addr}{xs:List V}(h:tupAt H a=some xs):SqT K H a xs:=.inl (.inl (tupAt_eq h))
theorem lstAt_of {H:Hp}{a:Addr}{xs:List V}(h:H a=some (.lst xs)):lstAt H a=some xs:=by unfold lstAt; rw [h]
theorem tupAt_of {H:Hp}{a:Addr}{xs:List V}(h:H a=some (.tup xs)):tupAt H a=some xs:=by unfold tupAt; rw [h]
def need {α:Type}(o:Option α)(k:α→Prop):Prop:=match o with
 | some a=>k a
 | none=>False
theorem need_ex {α:Type}{o:Option α}{k:α→Prop}(h:need o k):∃ a,o=some a∧k a:=by
 cases o with
 | none=>exact h.elim
 | some a=>exact ⟨a,rfl,h⟩
def seqAt (H:Hp)(a:Addr):Option (List V):=match H a with
 | some (.lst xs)=>some xs
 | some (.frz _ (.lst xs))=>some xs
 | some (.tup xs)=>some xs
 | _=>none
theorem seqAt_or {H:Hp}{a:Addr}{xs:List V}(h:seqAt H a=some xs):lstAt H a=some xs∨tupAt H a=some xs:=by
 unfold seqAt at h
 unfold lstAt tupAt
 split at h
 ·rename_i e; cases h; left; rw [e]
 ·rename_i e; cases h; left; rw [e]
 ·rename_i e; cases h; right; rw [e]
 ·cases h
def ixV:R2:=fun x y H Q=>match x,y with
 | .ref p,.int i=>need (seqAt H p) fun xs=>need (atI xs i) fun v=>Q v H
 | .str z,.int i=>z.length≤sizeLine∧need (atI z.cps.toList i) fun c=>Q (.str ⟨#[c]⟩) H
 | _,_=>False
section
variable {X:Cx} {a b c:Expr} {ta tb tc:TE} {pos:Pos}
theorem IxR.imp {r r':R2}(h:IxR X r)(i:∀ x y H Q,r' x y H Q→r x y H Q):IxR X r':=fun value slice pins s σ H x y v u Q I rx ry q hs=>h value slice pins s σ H x y v u Q I rx ry (i _ _ _ _ q) hs
theorem OpR.imp {f:Value→Value→Sem Value}{r r':R2}(h:OpR X f r)(i:∀ x y H Q,r' x y H Q→r x y H Q):OpR X f r':=fun pins s σ H x y v u Q I rx ry q=>h pins s σ H x y v u Q I rx ry (i _ _ _ _ q)
theorem ix_any:IxR X ixV:=by
 refine (ix_seq (X:=X)).imp fun x y H Q h=>?_
 unfold ixV at h
 split at h
 ·rename_i p i
  obtain ⟨xs,e,h⟩:=need_ex h
  obtain ⟨v,e2,h⟩:=need_ex h
  rcases seqAt_or e with e | e
  ·exact .inl ⟨p,xs,i,v,rfl,rfl,lstAt_sq e,e2,h⟩
  ·exact .inr (.inl ⟨p,xs,i,v,rfl,rfl,tupAt_sq e,e2,h⟩)
 ·rename_i z i
  obtain ⟨hz,h⟩:=h
  obtain ⟨c,e2,h⟩:=need_ex h
  exact .inr (.inr ⟨z,i,c,rfl,rfl,hz,e2,h⟩)
 ·exact h.elim
theorem Inv.lstR {pins:List (Addr×Obj)}{s:Shared}{σ:St}{H:Hp}{l:Addr}{xs:List V}(I:Inv X pins σ H s)(hH:lstAt H l=some xs) :
  xs.length≤sizeLine∧∃ (its:List Value) (n:Nat),Vals xs its∧xs.length=its.length∧s.heap.get? l=some { cls:=.type "list",data:=.seq its.toArray n }:=by
 obtain ⟨z,its,n,r,e⟩:=(lstAt_rd hH).ok I.hok
 exact ⟨z,its,n,r,r.length,e⟩
def catV:R2:=fun x y H Q=>match x,y with
 | .ref l,.ref b=>need (lstAt H l) fun xs=>need (lstAt H b) fun zs=>xs.length+zs.length≤sizeLine∧∀ p,H p=none→Q (.ref p) (upd H p (.lst (xs++zs)))
 | _,_=>False
theorem op_catV:OpR X (binaryOp .Add) catV:=by
 intro pins s σ H x y v u Q I rx ry h
 unfold catV at h
 split at h
 ·obtain ⟨xs,hH,h⟩:=need_ex h
  obtain ⟨zs,hB,hz,q⟩:=need_ex h
  cases rx
  cases ry
  obtain ⟨z,its,n,r,hl,e⟩:=I.lstR hH
  obtain ⟨z2,its2,n2,r2,hl2,e2⟩:=I.lstR hB
  refine PySem.P.add_list e e2 ?_ (by rw [List.size_toArray,List.size_toArray]; omega)
  have ea:its.toArray++its2.toArray=(its++its2).toArray:=by simp
  rw [ea]
  exact ⟨.ref _,_,I.lnew (t':=s.toks) (r.append r2) (by rw [List.length_append]; omega),rfl,q _ I.fresh⟩
 ·exact h.elim
def addV:R2:=fun x y H Q=>match x,y with
 | .int i,.int j=>Q (.int (i+j)) H
 | .str i,.str j=>i.length+j.length≤sizeLine∧Q (.str (i++j)) H
 | .ref l,.ref b=>catV (.ref l) (.ref b) H Q
 | _,_=>False
theorem op_addV:OpR X (binaryOp .Add) addV:=by
 refine ((op_add (X:=X)).or ((op_add_str (X:=X)).or (op_catV (X:=X)))).imp fun x y H Q h=>?_
 unfold addV at h
 split at h
 ·exact .inl ⟨_,_,rfl,rfl,h⟩
 ·exact .inr (.inl ⟨_,_,rfl,rfl,h.1,h.2⟩)
 ·exact .inr (.inr h)
 ·exact h.elim
end
end L2
set_option maxHeartbeats 1000000
namespace L2
open PySem PySem.Spec PyProof.Rows
def clFrom (cells:List (Str×Addr)):List (Str×NameKind)→List (Str×Addr)→List (Str×Addr)
 | [],acc=>acc
 | (n,k)::r,acc=>if (k == .free)=true then (match cells.lookup n with
   | some c=>clFrom cells r ((n,c)::acc)
   | none=>clFrom cells r acc) else clFrom cells r acc
theorem forIn_closure {env:Env}:∀ (names:List (Str×NameKind)) (acc:List (Str×Addr)),(∀ x∈names,x.2=.free→∃ c,env.cells.lookup x.1=some c) →
  (forIn names acc fun (x:Str×NameKind) (cs:List (Str×Addr))=>(match x with
   | (name,kind)=>if (kind == NameKind.free)=true then do let a ← cellOf env name; pure (ForInStep.yield ((name,a)::cs)) else pure (ForInStep.yield cs):Sem (ForInStep (List (Str×Addr)))))=pure (clFrom env.cells names acc)
 | [],acc,_=>rfl
 | (n,k)::r,acc,h=>by
  have ih:=fun a=>forIn_closure (env:=env) r a fun x hx=>h x (List.mem_cons_of_mem _ hx)
  rw [List.forIn_cons]
  by_cases hk:(k == NameKind.free)=true
  ·obtain ⟨c,hc⟩:=h (n,k) List.mem_cons_self (by simpa using hk)
   have e1:cellOf env n=pure c:=by unfold cellOf; rw [hc]
   simp only [hk,if_true,e1,clFrom,hc]
   exact ih _
  ·simp only [hk,if_false,clFrom]
   exact ih _
theorem closure_eq {scope:Scope}{env:Env}(h:∀ x∈scope.names,x.2=.free→∃ c,env.cells.lookup x.1=some c):closureFor scope env=pure (clFrom env.cells scope.names []):=by
 unfold closureFor
 simp only []
 have:=forIn_closure (env:=env) scope.names [] h
 rw [show (forIn scope.names [] fun x r=>(match x with
   | (name,kind)=>if (kind == NameKind.free)=true then do let __do_lift ← cellOf env name; pure (ForInStep.yield ((name,__do_lift)::r)) else pure (ForInStep.yield r):Sem (ForInStep (List (Str×Addr)))))=pure (clFrom env.cells scope.names []) from this]
 rfl
theorem clFrom_sub {cells:List (Str×Addr)}{x:Str}{c:Addr}:∀ (names:List (Str×NameKind)) (acc:List (Str×Addr)),(∀ y d,acc.lookup y=some d→cells.lookup y=some d)→(clFrom cells names acc).lookup x=some c→cells.lookup x=some c
 | [],acc,ha,h=>ha x c h
 | (n,k)::r,acc,ha,h=>by
  unfold clFrom at h
  split at h
  ·split at h
   ·rename_i d hd
    refine clFrom_sub r _ (fun y e hy=>?_) h
    rw [List.lookup_cons] at hy
    cases hb:y == n with
    | true=>
     rw [hb] at hy
     have:y=n:=eq_of_beq hb
     subst this
     cases hy
     exact hd
    | false=>
     rw [hb] at hy
     exact ha y e hy
   ·exact clFrom_sub r acc ha h
  ·exact clFrom_sub r acc ha h
theorem clFrom_old {cells:List (Str×Addr)}{x:Str}{c:Addr}(hx:cells.lookup x=some c):∀ (names:List (Str×NameKind)) (acc:List (Str×Addr)),acc.lookup x=some c→(clFrom cells names acc).lookup x=some c
 | [],_,h=>h
 | (n,k)::r,acc,h=>by
  unfold clFrom
  split
  ·split
   ·rename_i d hd
    refine clFrom_old hx r _ ?_
    rw [List.lookup_cons]
    cases hb:x == n with
    | true=>
     have:x=n:=eq_of_beq hb
     subst this
     rw [hx] at hd
     cases hd
     rfl
    | false=>exact h
   ·exact clFrom_old hx r acc h
  ·exact clFrom_old hx r acc h
theorem clFrom_has {cells:List (Str×Addr)}{x:Str}{c:Addr}(hx:cells.lookup x=some c):∀ (names:List (Str×NameKind)) (acc:List (Str×Addr)),names.lookup x=some .free→(clFrom cells names acc).lookup x=some c
 | [],_,h=>by simp at h
 | (n,k)::r,acc,h=>by
  rw [List.lookup_cons] at h
  unfold clFrom
  cases hb:x == n with
  | true=>
   rw [hb] at h
   cases h
   have:x=n:=eq_of_beq hb
   subst this
   rw [if_pos (show (NameKind.free == NameKind.free)=true by decide),hx]
   exact clFrom_old hx r _ (by rw [List.lookup_cons,beq_self_eq_true])
  | false=>
   rw [hb] at h
   split
   ·split
    ·exact clFrom_has hx r _ h
    ·exact clFrom_has hx r acc h
   ·exact clFrom_has hx r acc h
def compOk (osc:Scope)(N own fr:List Str)(ix:List Nat)(scope:Scope):Bool:=
 scope.kind == .function && scope.names.all (fun y=>y.2 != .cell) && scope.names.all (fun y=>y.2 != .local || scope.names.lookup y.1 == some .local) &&
 scope.names.all (fun y=>y.2 != .free || osc.names.lookup y.1 == some .cell) && own.all (fun x=>scope.names.lookup x == some .local) && fr.all (fun x=>scope.names.lookup x == some .free) && decide (ix.map (fun j=>N[j]?)=fr.map some) && decide ((own++fr).Nodup) && own.all (fun x=>scope.names.all fun y=>y.2 != .free || decide (y.1≠x))
def cxComp (X:Cx)(own fr:List Str)(scope:Scope)(C:Addr)(s:Shared)(H:Hp)(pins:List (Addr×Obj))(fp:List Addr):Cx where
 prog:=X.prog
 w:=X.w
 K:=X.K
 mg:=X.mg
 base:=X.base
 A:=X.A
 N:=own++fr
 s₀:=s
 H₀:=H
 env:=compEnvC scope (clFrom X.env.cells scope.names []) C X.env
 outer:=X.stack
 stack:=X.stack
 ex:=fp
 calm:=X.calm
 fn:=fun x=>decide (x∈own)
 pn:=X.pn++pins
 xe:=fun _ _=>False
def σC (own:List Str)(ix:List Nat)(σ:St):St:=List.replicate own.length none++ix.map fun j=>(σ[j]?).join
theorem lookup_relabel_free {env:Env}:∀ {names:List (Str×NameKind)} {x:Str} {k:NameKind},(names.map fun (n,k)=>if (k == NameKind.free && env.scope.kind == .function && env.kindOf n == some .cell) then (n,NameKind.cell) else (n,k)).lookup x=some k →
  names.lookup x=some k∨(k=.cell∧names.lookup x=some .free)
 | [],_,_,h=>by simp at h
 | (n,k')::r,x,k,h=>by
  have ih:=@lookup_relabel_free env r x k
  have h:List.lookup x ((if (k' == NameKind.free && env.scope.kind == .function && env.kindOf n == some .cell)=true then (n,NameKind.cell) else (n,k'))::_)=_:=h
  by_cases hc:(k' == NameKind.free && env.scope.kind == .function && env.kindOf n == some .cell)=true
  ·rw [if_pos hc,List.lookup_cons] at h
   have hk:k'=.free:=by
    have h0:=hc
    rw [Bool.and_eq_true,Bool.and_eq_true] at h0
    have:=h0.1.1
    cases k' <;> first | rfl | cases this
   rw [List.lookup_cons]
   cases hx:x == n with
   | true=>
    rw [hx] at h
    cases h
    exact .inr ⟨rfl,by rw [hk]⟩
   | false=>
    rw [hx] at h
    exact ih h
  ·rw [if_neg hc,List.lookup_cons] at h
   rw [List.lookup_cons]
   cases hx:x == n with
   | true=>
    rw [hx] at h
    exact .inl h
   | false=>
    rw [hx] at h
    exact ih h
theorem lookup_relabel_of_free {env:Env}:∀ {names:List (Str×NameKind)} {x:Str},names.lookup x=some .free →
  (names.map fun (n,k)=>if (k == NameKind.free && env.scope.kind == .function && env.kindOf n == some .cell) then (n,NameKind.cell) else (n,k)).lookup x=some .cell ∨
  (names.map fun (n,k)=>if (k == NameKind.free && env.scope.kind == .function && env.kindOf n == some .cell) then (n,NameKind.cell) else (n,k)).lookup x=some .free
 | [],_,h=>by simp at h
 | (n,k')::r,x,h=>by
  have ih:=@lookup_relabel_of_free env r x
  show List.lookup x ((if (k' == NameKind.free && env.scope.kind == .function && env.kindOf n == some .cell)=true then (n,NameKind.cell) else (n,k'))::_)=_∨List.lookup x ((if (k' == NameKind.free && env.scope.kind == .function && env.kindOf n == some .cell)=true then (n,NameKind.cell) else (n,k'))::_)=_
  rw [List.lookup_cons] at h
  by_cases hc:(k' == NameKind.free && env.scope.kind == .function && env.kindOf n == some .cell)=true
  ·rw [if_pos hc]; simp only [List.lookup_cons]
   cases hx:x == n with
   | true=>exact .inl rfl
   | false=>rw [hx] at h; exact ih h
  ·rw [if_neg hc]; simp only [List.lookup_cons]
   cases hx:x == n with
   | true=>rw [hx] at h; exact .inr h
   | false=>rw [hx] at h; exact ih h
structure CompScope (osc:Scope)(N own fr:List Str)(ix:List Nat)(scope:Scope):Prop where
 kind:scope.kind=.function
 nocell:∀ y∈scope.names,y.2≠.cell
 loc:∀ y∈scope.names,y.2=.local→scope.names.lookup y.1=some .local
 free:∀ y∈scope.names,y.2=.free→osc.names.lookup y.1=some .cell
 ow:∀ x∈own,scope.names.lookup x=some .local
 fe:∀ x∈fr,scope.names.lookup x=some .free
 ic:ix.map (fun j=>N[j]?)=fr.map some
 nd:(own++fr).Nodup
 lf:∀ x∈own,∀ y∈scope.names,y.2=.free→y.1≠x
theorem compOk.of {osc:Scope}{N own fr:List Str}{ix:List Nat}{scope:Scope}(h:compOk osc N own fr ix scope=true):CompScope osc N own fr ix scope:=by
 unfold compOk at h
 simp only [Bool.and_eq_true,decide_eq_true_eq] at h
 obtain ⟨⟨⟨⟨⟨⟨⟨⟨h1,h2⟩,h3⟩,h4⟩,h5⟩,h6⟩,h7⟩,h8⟩,h9⟩:=h
 refine ⟨?_,fun y hy e=>?_,fun y hy e=>?_,fun y hy e=>?_,fun x hx=>?_,fun x hx=>?_,h7,h8,fun x hx y hy e=>?_⟩
 ·revert h1; cases scope.kind <;> first | (intro _; rfl) | (intro z; cases z)
 ·have:=List.all_eq_true.mp h2 y hy
  rw [e] at this
  exact absurd this (by decide)
 ·have:=List.all_eq_true.mp h3 y hy
  rw [e] at this
  have q:(scope.names.lookup y.1 == some NameKind.local)=true:=by simpa using this
  exact eq_of_beq q
 ·have:=List.all_eq_true.mp h4 y hy
  rw [e] at this
  have q:(osc.names.lookup y.1 == some NameKind.cell)=true:=by simpa using this
  exact eq_of_beq q
 ·exact eq_of_beq (List.all_eq_true.mp h5 x hx)
 ·exact eq_of_beq (List.all_eq_true.mp h6 x hx)
 ·have:=List.all_eq_true.mp (List.all_eq_true.mp h9 x hx) y hy
  rw [e] at this
  simpa using this
section
variable {X:Cx} {pins:List (Addr×Obj)} {σ:St} {H H':Hp} {s:Shared} {own fr:List Str} {ix:List Nat} {scope:Scope} {fp:List Addr} {osc:Scope} {N:List Str}
theorem Inv.cellAt (I:Inv X pins σ H s){x:Str}(h:X.env.scope.names.lookup x=some .cell):∃ c,X.env.cells.lookup x=some c:=I.ok.has x (.inl h)
theorem comp_ok (I:Inv X pins σ H s)(S:CompScope X.env.scope X.N own fr ix scope)(hc:X.calm=X.calm)(hf:∀ b∈fp,FpOk X pins H b)(hx:∀ b∈fp,b<s.heap.objs.size) :
  (cxComp X own fr scope s.heap.objs.size s H pins fp).Ok:=by
 have sub:∀ x c,(clFrom X.env.cells scope.names []).lookup x=some c→X.env.cells.lookup x=some c:=fun x c h=>clFrom_sub scope.names [] (fun y d q=>by simp at q) h
 have frees:∀ x,scope.names.lookup x=some .free→∃ c,(clFrom X.env.cells scope.names []).lookup x=some c:=fun x h=>by
  obtain ⟨c,hc'⟩:=I.cellAt (S.free (x,.free) (PySem.mem_of_lookup h) rfl)
  exact ⟨c,clFrom_has hc' scope.names [] h⟩
 refine ⟨I.ok.mod,S.kind,I.ok.glob,I.ok.blt,Nat.le_refl _,fun x y c h1 h2=>I.ok.inj x y c (sub x c h1) (sub y c h2),fun x hx'=>?_,fun x c h1 h2=>?_,I.ok.hd,I.ok.frames,.inl rfl,fun b hb=>?_,I.bs,Nat.le_trans I.ok.bsz I.sz,fun b o e hb=>?_,fun b hb hs=>?_,I.stack,I.stkFree,I.lqh⟩
 ·have hx':(relabel scope X.env).names.lookup x=some .cell∨(relabel scope X.env).names.lookup x=some .free:=hx'
  rcases hx' with h | h
  ·rcases lookup_relabel_free h with q | ⟨_,q⟩
   ·exact absurd rfl (S.nocell (x,.cell) (PySem.mem_of_lookup q))
   ·exact frees x q
  ·rcases lookup_relabel_free h with q | ⟨z,_⟩
   ·exact frees x q
   ·cases z
 ·exfalso
  have h1:x∈own:=of_decide_eq_true h1
  have h3:=S.ow x h1
  have:∀ (names:List (Str×NameKind)) (acc:List (Str×Addr)),acc.lookup x=none→(∀ y∈names,y.2=.free→y.1≠x)→(clFrom X.env.cells names acc).lookup x=none:=by
   intro names
   induction names with
   | nil=>intro acc ha _; exact ha
   | cons y r ih=>
    intro acc ha hn
    obtain ⟨n,k⟩:=y
    unfold clFrom
    split
    ·rename_i hk
     have hk:k=.free:=by cases k <;> first | rfl | cases hk
     split
     ·refine ih _ ?_ fun z hz=>hn z (List.mem_cons_of_mem _ hz)
      rw [List.lookup_cons]
      have:(x == n)=false:=by
       have:=hn (n,k) List.mem_cons_self hk
       exact beq_eq_false_iff_ne.mpr fun z=>this z.symm
      rw [this]
      exact ha
     ·exact ih _ ha fun z hz=>hn z (List.mem_cons_of_mem _ hz)
    ·exact ih _ ha fun z hz=>hn z (List.mem_cons_of_mem _ hz)
  by_cases hm:∃ y∈scope.names,y.2=.free∧y.1=x
  ·obtain ⟨y,hy,e1,e2⟩:=hm
   exact S.lf x h1 y hy e1 e2
  ·have h5:=this scope.names [] (by simp) (fun y hy e z=>hm ⟨y,hy,e,z⟩)
   have h2:(clFrom X.env.cells scope.names []).lookup x=some c:=h2
   rw [h5] at h2
   cases h2
 ·refine ⟨Nat.ne_of_lt (hx b hb),fun x c h z=>?_⟩
  exact (hf b hb).2.2.2.2.1 x c (sub x c h) z
 ·rcases (hf b hb).2.2.2.1 with z | z
  ·exact I.ok.noex b o e z
  ·exact absurd (Nat.lt_of_lt_of_le (Heap.lt_size e) (Nat.le_trans I.ok.bsz z)) (Nat.lt_irrefl _)
 ·obtain ⟨_,h1,h2,_⟩:=hf b hb
  rcases List.mem_cons.mp (I.stkSub b hs) with z | z
  ·exact h1 z
  ·exact h2 z
theorem comp_start (I:Inv X pins σ H s)(S:CompScope X.env.scope X.N own fr ix scope)(hc:X.calm=X.calm)(hf:∀ b∈fp,FpOk X pins H b)(hx:∀ b∈fp,b<s.heap.objs.size){h1:Heap}{tk:Nat}{m:Str→Option Value}
  (hns:h1.Ns s.heap.objs.size m) (hk:∀ b o,s.heap.get? b=some o→h1.get? b=some o) :
  Inv (cxComp X own fr scope s.heap.objs.size s H pins fp) [] (σC own ix σ) H { s with heap:=h1,toks:=tk }:=by
 have sub:∀ x c,(clFrom X.env.cells scope.names []).lookup x=some c→X.env.cells.lookup x=some c:=fun x c h=>clFrom_sub scope.names [] (fun y d q=>by simp at q) h
 have hl:ix.length=fr.length:=by
  have:=congrArg List.length S.ic
  simpa using this
 refine ⟨comp_ok I S hc hf hx,rfl,I.bare,Un.kept hk,⟨m,hns,fun i x v h1' h2 h3=>?_⟩,fun x c h=>?_,I.hok.fresh (Nat.le_refl _),fun x c h=>I.freeC x c (sub x c h),fun p hp=>?_,I.hok.kept hk,?_⟩
 ·have h1':(own++fr)[i]? = some x:=h1'
  have hi:own.length≤i:=by
   by_cases z:i<own.length
   ·unfold σC at h2
    rw [List.getElem?_append_left (by simpa using z),List.getElem?_replicate] at h2
    split at h2 <;> cases h2
   ·omega
  unfold σC at h2
  rw [List.getElem?_append_right (by simpa using hi),List.length_replicate,List.getElem?_map] at h2
  rw [List.getElem?_append_right hi] at h1'
  cases e:ix[i - own.length]? with
  | none=>rw [e] at h2; cases h2
  | some j=>
   rw [e] at h2
   have h2:(σ[j]?).join=some v:=Option.some.inj h2
   have e2:σ[j]? = some (some v):=by
    cases q:σ[j]? with
    | none=>rw [q] at h2; cases h2
    | some o=>rw [q] at h2; exact congrArg some h2
   have e3:X.N[j]? = some x:=by
    have q:=congrArg (fun l=>l[i - own.length]?) S.ic
    simp only [List.getElem?_map,e,h1'] at q
    simpa using q
   have hfr:=S.fe x (List.mem_of_getElem? h1')
   have ho:=S.free (x,.free) (PySem.mem_of_lookup hfr) rfl
   obtain ⟨m0,_,hl0⟩:=I.loc
   obtain ⟨u,r,l⟩:=hl0 j x v e3 e2 (.inr (.inl ho))
   refine ⟨u,r,.inr ⟨?_,?_⟩⟩
   ·exact lookup_relabel_of_free hfr
   ·rcases l with ⟨k,_⟩ | ⟨_,c,hcl,hcell⟩
    ·have k:X.env.scope.names.lookup x=some .local:=k
     rw [ho] at k; cases k
    ·refine ⟨c,clFrom_has hcl scope.names [] hfr,?_⟩
     obtain ⟨o,q1,q2⟩:=hcell
     exact ⟨o,hk c o q1,q2⟩
 ·obtain ⟨v,o,q1,q2⟩:=I.cell x c (sub x c h)
  exact ⟨v,o,hk c o q1,q2⟩
 ·have hp:p∈(X.pn++pins)++[]:=hp
  rw [List.append_nil] at hp
  obtain ⟨e,n,ne,nf,d⟩:=I.pin p hp
  refine ⟨hk _ _ e,n,Nat.ne_of_lt (Heap.lt_size e),fun z=>?_,d⟩
  rcases List.mem_cons.mp (I.stkSub p.1 z) with q | q
  ·exact ne q
  ·exact nf q
 ·show (σC own ix σ).length=(own++fr).length
  unfold σC
  simp [hl]
theorem comp_back (I:Inv X pins σ H s){pins':List (Addr×Obj)}{σ':St}{s':Shared}(J:Inv (cxComp X own fr scope s.heap.objs.size s H pins fp) pins' σ' H' s')(hf:∀ b∈fp,FpOk X pins H b):Inv X pins σ H' s':=
 I.call' (ch:=fp) J.os J.base J.hok J.bare fun b hb=>⟨(hf b hb).2.2.2.1,(hf b hb).2.1,(hf b hb).2.2.2.2.1,(hf b hb).2.2.2.2.2⟩
end
end L2
namespace L2
open PySem PySem.Spec PyProof.Rows
def leS:St→St→Prop
 | [],[]=>True
 | none::a,_::b=>leS a b
 | some x::a,y::b=>y=some x∧leS a b
 | _,_=>False
theorem leS.len:∀ {a b:St},leS a b→a.length=b.length
 | [],[],_=>rfl
 | none::a,_::b,h=>by have:=leS.len (a:=a) (b:=b) h; simp [this]
 | some x::a,y::b,h=>by have:=leS.len (a:=a) (b:=b) h.2; simp [this]
 | [],_::_,h=>h.elim
 | none::_,[],h=>h.elim
 | some _::_,[],h=>h.elim
theorem leS.get:∀ {a b:St} {i:Nat} {v:V},leS a b→a[i]? = some (some v)→b[i]? = some (some v)
 | [],[],_,_,_,e=>by simp at e
 | none::a,_::b,0,_,_,e=>by simp at e
 | none::a,_::b,i+1,v,h,e=>by
  have:=leS.get (a:=a) (b:=b) (i:=i) (v:=v) h (by simpa using e)
  simpa using this
 | some x::a,y::b,0,v,h,e=>by
  simp at e; subst e
  simpa using h.1
 | some x::a,y::b,i+1,v,h,e=>by
  have:=leS.get (a:=a) (b:=b) (i:=i) (v:=v) h.2 (by simpa using e)
  simpa using this
 | [],_::_,_,_,h,_=>h.elim
 | none::_,[],_,_,h,_=>h.elim
 | some _::_,[],_,_,h,_=>h.elim
section
variable {X:Cx} {pins:List (Addr×Obj)} {σ σ':St} {H:Hp} {s:Shared}
theorem Inv.less (I:Inv X pins σ' H s)(h:leS σ σ'):Inv X pins σ H s:=I.weak h.len fun _ _ e=>h.get e
def PCs (X:Cx)(ifs:List Expr)(t:TT):Prop:=
 ∀ (pins:List (Addr×Obj)) (s:Shared) (σ:St) (H:Hp) (Q:Bool→Hp→Prop),Inv X pins σ H s→t σ H Q →
  wpAny (model X.prog X.w) X.A (forIn ifs true fun c r=>if r=true then do let ok ← isTrue c X.env (eval c X.env); pure (ForInStep.yield ok) else pure (ForInStep.yield r)) (TP X pins σ Q) X.xe s
def tYes:TT:=fun _ H Q=>Q true H
theorem pcs_nil:PCs X [] tYes:=fun pins s σ H Q I h=>wpAny_pure ⟨H,I,h⟩
theorem forIn_no {env:Env}:∀ (ifs:List Expr),(forIn ifs false fun c r=>if r=true then do let ok ← isTrue c env (eval c env); pure (ForInStep.yield ok) else pure (ForInStep.yield r):Sem Bool)=pure false
 | []=>rfl
 | c::r=>by
  rw [List.forIn_cons]
  simp only [Bool.false_eq_true,if_false]
  exact forIn_no r
theorem pcs_cons {c:Expr}{r:List Expr}{t u:TT}(h:PT X c t)(h':PCs X r u):PCs X (c::r) (tAnd t u):=by
 intro pins s σ H Q I q
 rw [List.forIn_cons]
 simp only [if_true]
 refine wpAny_bind (wpAny_bind (thn (h pins s σ H _ I q) fun b s1 ⟨H1,I1,q1⟩=>wpAny_pure ?_))
 cases b with
 | true=>
  rw [if_pos rfl] at q1
  exact h' pins s1 σ H1 Q I1 q1
 | false=>
  rw [if_neg (by simp)] at q1
  show wpAny _ _ (forIn r false _) _ _ _
  rw [forIn_no]
  exact wpAny_pure ⟨H1,I1,q1⟩
end
theorem comp_loop {prog:Program}{w:World}{A:Around}{R:Result→Shared→Prop}{s:Shared}{elt target iter:Expr}{ifs:List Expr}{scope:Scope}{pos:Pos}{it acc:Value}{env:Env}(I:Nat→Shared→Prop)
  (turn:∀ n s,I n s→wpAny (model prog w) A (pyNext it) (fun r s₁=>match r with
   | none=>R (.ok .next) s₁
   | some v=>wpAny (model prog w) A (letOwnedTupleGo target it v) (fun _ s₁'=>wpAny (model prog w) A (assign target env v) (fun _ s₂=>
     wpAny (model prog w) A (forIn ifs true fun c r=>if r=true then do let ok ← isTrue c env (eval c env); pure (ForInStep.yield ok) else pure (ForInStep.yield r)) (fun ok s₃=>
      if ok=true then wpAny (model prog w) A (eval elt env) (fun x s₄=>
       wpAny (model prog w) A (call (.builtin "list.append") [acc,x]) (fun _ s₅=>∃ m,m<n∧I m s₅) (fun _ _=>False) s₄) (fun _ _=>False) s₃
      else ∃ m,m<n∧I m s₃) (fun _ _=>False) s₂) (fun _ _=>False) s₁') (fun _ _=>False) s₁) (fun _ _=>False) s)
  (n:Nat) (h:I n s):codeAny (model prog w) A (.compLoop (.ListComp elt [⟨target,iter,ifs,0⟩] scope pos) 0 it acc env) R s:=by
 have mo:∀ {α:Type} {t:Sem α} {Q:α→Shared→Prop} {E:Value→Shared→Prop} {s:Shared},wpAny (model prog w) A t Q (fun _ _=>False) s→wpAny (model prog w) A t Q E s:=fun h=>wpAny_mono h (fun _ _ q=>q) fun _ _ z=>z.elim
 refine codeAny_loop rfl I (fun n s hI=>?_) n h
 show wpAny _ A ((compTurn (.ListComp elt [⟨target,iter,ifs,0⟩] scope pos) 0 it acc env).onRaise (fun x=>do noteFrame x env; theTreesLotGoes x)) _ _ s
 refine wpAny_noted ?_
 rw [compTurn_list]
 refine wpAny_bind (wpAny_standAt (wpAny_bind (mo (thn (turn n s hI) fun r s₁ h₁=>?_))))
 cases r with
 | none=>exact wpAny_pure h₁
 | some v=>
  refine wpAny_bind (mo (thn h₁ fun _ s₁' h₁'=>wpAny_bind (mo (thn h₁' fun _ s₂ h₂=>wpAny_bind (mo (thn h₂ fun ok s₃ h₃=>?_))))))
  cases ok with
  | false=>exact wpAny_pure ⟨rfl,h₃⟩
  | true=>exact wpAny_bind (wpAny_bind (mo (thn h₃ fun x s₄ h₄=>wpAny_bind (mo (thn h₄ fun _ s₅ h₅=>wpAny_pure (wpAny_pure ⟨rfl,h₅⟩))))))
def tBlock (J:It)(σ0:St)(acc:Addr)(g:TG)(tt:TT)(te:TE)(Q:Hp→Prop)(H:Hp):Prop:=
 ∃ W:Nat→Nat→Hp→Prop,(∃ m,W 0 m H)∧∀ i m H,W i m H→(J.stop i H∧Q H) ∨
  (J.go i H∧∀ x H',J.yld i H x H'→g x σ0 H' fun σ2 H2=>leS σ0 σ2∧tt σ2 H2 fun b H3=>if b=true then te σ2 H3 fun y H4=>∃ ys,H4 acc=some (.lst ys)∧ys.length<sizeLine∧∃ m',m'<m∧W (i+1) m' (upd H4 acc (.lst (ys++[y])))
   else ∃ m',m'<m∧W (i+1) m' H3)
def tSetC (own:List Str)(ix:List Nat)(i:Nat)(wi:TI)(g:TG)(tt:TT)(te:TE):TS:=fun D σ H=>wi σ H fun J H1=>∀ acc,H1 acc=none→tBlock J (σC own ix σ) acc g tt te (fun H2=>D.nx (σ.set i (some (.ref acc))) H2) (upd H1 acc (.lst []))
abbrev InC (X:Cx)(own fr:List Str)(scope:Scope)(p:Cx→Prop):Prop:=∀ (C:Addr) (s:Shared) (H:Hp) (pins:List (Addr×Obj)) (fp:List Addr),p (cxComp X own fr scope C s H pins fp)
section
variable {X:Cx} {osc:Scope} {N own fr:List Str} {ix:List Nat} {scope:Scope} {tg iter elt:Expr} {ifs:List Expr} {pos:Pos} {wi:TI} {g:TG} {tt:TT} {te:TE}
theorem comp_block {pins:List (Addr×Obj)}{s:Shared}{σ:St}{H:Hp}{it:Addr}{fp:List Addr}{tn:Nat→Heap→Prop}{J:It}{qq:Bool}{E:Value→Shared→Prop}{Qf:Addr→Hp→Prop}(S:CompScope X.env.scope X.N own fr ix scope)(hc:X.calm=X.calm)
  (hg:InC X own fr scope fun Y=>PG Y tg g) (ht:InC X own fr scope fun Y=>PCs Y ifs tt) (he:InC X own fr scope fun Y=>PE Y elt te)
  (I:Inv X pins σ H s) (hqq:qq=true→X.calm=true) (T:Turn X.prog X.w X.K tg J fp it tn qq) (st:tn 0 s.heap) (hf:∀ b∈fp,FpOk X pins H b) (h:∀ acc,H acc=none→tBlock J (σC own ix σ) acc g tt te (Qf acc) (upd H acc (.lst [])))
  {RR:Value→Addr→Result→Shared→Prop}
  (hR:∀ (acc C:Addr) (s₃:Shared) (H₃ H':Hp) (fp':List Addr) (s':Shared),C=s₃.heap.objs.size→s₃.os=s.os→Inv X pins σ H₃ s₃→(∀ b∈fp',FpOk X pins H₃ b)→Inv (cxComp X own fr scope C s₃ H₃ pins fp') [] (σC own ix σ) H' s'→Qf acc H'→(∃ m,s'.heap.Ns C m)→RR (.ref acc) C (.ok .next) s') :
  wpAny (model X.prog X.w) X.A (newList []) (fun acc s₃=>wpAny (model X.prog X.w) X.A (newFunctionEnv scope X.env.globals (clFrom X.env.cells scope.names []) [] X.env.qual none .none (some X.env)) (fun cenv s₄=>
   codeAny (model X.prog X.w) X.A (.compStart (.ListComp elt [⟨tg,iter,ifs,0⟩] scope pos) 0 (.ref it) acc { cenv with scope:=relabel scope X.env }) (RR acc cenv.locals) s₄) E s₃) E s:=by
 refine wpAny_newObj_type (wpAny_newFunctionEnv S.nocell (by intro y hy; simp at hy) (fun h₁ hns₁ hsb₁=>?_) S.kind)
 dsimp only at hns₁ hsb₁ ⊢
 have hfree:H s.heap.objs.size=none:=I.fresh
 have I3:Inv X pins σ (upd H s.heap.objs.size (.lst [])) { s with heap:=s.heap.push { cls:=.type "list",dict:=none,data:=.seq ([]:List Value).toArray },toks:=s.toks }:=
  I.lnew (its:=[]) (t':=s.toks) .nil (Nat.zero_le _)
 generalize hs3:({ s with heap:=s.heap.push { cls:=.type "list",dict:=none,data:=.seq ([]:List Value).toArray },toks:=s.toks }:Shared)=s3 at I3
 have eh:s.heap.push { cls:=.type "list",dict:=none,data:=.seq ([]:List Value).toArray }=s3.heap:=by rw [← hs3]
 have eo:s3.os=s.os:=by rw [← hs3]
 have es:({ s with heap:=h₁,toks:=s.toks+([]:List (Str×Value)).length }:Shared) = { s3 with heap:=h₁,toks:=s.toks }:=by rw [← hs3]; rfl
 rw [eh] at hns₁ hsb₁ ⊢
 have ek:∀ b o,s.heap.get? b=some o→s3.heap.get? b=some o:=fun b o e=>by rw [← eh]; exact Heap.get?_push_of_some _ e
 have hk1:∀ b o,s3.heap.get? b=some o→h₁.get? b=some o:=fun b o e=>hsb₁.extBut b o (Nat.ne_of_lt (Heap.lt_size e)) (Heap.get?_push_of_some _ e)
 have hobj:∀ b∈fp,∃ o,s.heap.get? b=some o∧∀ v,o.data≠.cell v:=T.obj 0 _ st
 have hx:∀ b∈fp,b<s3.heap.objs.size:=fun b hb=>by
  obtain ⟨o,e,_⟩:=hobj b hb
  exact Heap.lt_size (ek b o e)
 have hf3:∀ b∈fp,FpOk X pins (upd H s.heap.objs.size (.lst [])) b:=fun b hb=>by
  obtain ⟨o,e,_⟩:=hobj b hb
  refine ⟨?_,(hf b hb).2⟩
  rw [upd_ne (Nat.ne_of_lt (Heap.lt_size e))]
  exact (hf b hb).1
 have st3:tn 0 h₁:=T.keep 0 _ _ st fun b hb o e=>hk1 b o (ek b o e)
 have J0:=comp_start (tk:=s.toks) I3 S hc hf3 hx hns₁ hk1
 generalize hY:cxComp X own fr scope s3.heap.objs.size s3 (upd H s.heap.objs.size (.lst [])) pins fp=Y at J0
 have hgY:PG Y tg g:=hY ▸ hg _ _ _ _ _
 have htY:PCs Y ifs tt:=hY ▸ ht _ _ _ _ _
 have heY:PE Y elt te:=hY ▸ he _ _ _ _ _
 have y1:Y.prog=X.prog:=by rw [← hY]; rfl
 have y2:Y.w=X.w:=by rw [← hY]; rfl
 have y3:Y.K=X.K:=by rw [← hY]; rfl
 have y4:qq=true→Y.calm=true:=fun z=>by rw [← hY]; exact hqq z
 have y5:Y.A=X.A:=by rw [← hY]; rfl
 have y6:Y.env=compEnvC scope (clFrom X.env.cells scope.names []) s3.heap.objs.size X.env:=by rw [← hY]; rfl
 have y7:Y.xe=fun _ _=>False:=by rw [← hY]; rfl
 have hloc:Y.env.locals=s3.heap.objs.size:=by rw [y6]; rfl
 have stat:∀ {H':Hp},(∀ b∈fp,H' b=none)→∀ b∈fp,FpOk Y [] H' b:=fun hn b hb=>by
  refine ⟨hn b hb,by rw [hloc]; exact Nat.ne_of_lt (hx b hb),?_,?_,?_,?_⟩
  ·rw [← hY]
   intro z
   rcases List.mem_cons.mp (I.stkSub b z) with q | q
   ·exact (hf b hb).2.1 q
   ·exact (hf b hb).2.2.1 q
  ·rw [← hY]; exact .inl hb
  ·rw [y6]
   intro x c e
   exact (hf b hb).2.2.2.2.1 x c (clFrom_sub scope.names [] (fun y d q=>by simp at q) e)
  ·rw [← hY]
   intro p hp
   have hp:p∈(X.pn++pins)++[]:=hp
   rw [List.append_nil] at hp
   exact (hf b hb).2.2.2.2.2 p hp
 obtain ⟨W,⟨m0,w0⟩,turn⟩:=h s.heap.objs.size hfree
 have loop:codeAny (model X.prog X.w) X.A (.compLoop (.ListComp elt [⟨tg,iter,ifs,0⟩] scope pos) 0 (.ref it) (.ref s.heap.objs.size) (compEnvC scope (clFrom X.env.cells scope.names []) s3.heap.objs.size X.env)) (RR (.ref s.heap.objs.size) s3.heap.objs.size) { s3 with heap:=h₁,toks:=s.toks }:=by
  refine comp_loop (fun n s'=>∃ i H',Inv Y [] (σC own ix σ) H' s'∧tn i s'.heap∧(∀ b∈fp,H' b=none)∧W i n H') ?_ m0 ⟨0,_,J0,st3,fun b hb=>(hf3 b hb).1,w0⟩
  rintro n s4 ⟨i,H4,I4,st4,fr4,w4⟩
  rcases turn i n H4 w4 with ⟨stop,qn⟩ | ⟨go,step⟩
  ·have e0:=T.done Y y1 y2 y3 y4 i [] s4 _ H4 (fun _ _=>False) I4 (stat fr4) st4 stop
   rw [y5] at e0
   refine thn e0 fun r s5 ⟨hr,I5⟩=>?_
   subst hr
   have ns5:∃ m,s5.heap.Ns s3.heap.objs.size m:=by
    obtain ⟨m,hm,_⟩:=I5.loc
    rw [hloc] at hm
    exact ⟨m,hm⟩
   exact hR s.heap.objs.size s3.heap.objs.size s3 _ H4 fp s5 rfl eo I3 hf3 (by rw [hY]; exact I5) qn ns5
  ·have e0:=T.item Y y1 y2 y3 y4 i [] s4 _ H4 (fun _ _=>False) I4 (stat fr4) st4 go
   rw [y5] at e0
   refine thn e0 fun r s5 ⟨u,hr,h5⟩=>?_
   subst hr
   refine thn h5 fun _ s6 ⟨x,H6,I6,r6,y6',st6,fr6⟩=>?_
   have I6':=I6.pinned (stat fr6) (T.obj _ _ st6)
   have e1:=hgY _ s6 _ H6 x u _ I6' r6 (step x H6 y6')
   rw [y7,y6,y5,y2,y1] at e1
   refine thn e1 fun _ s7 ⟨σ7,H7,I7,le7,q7⟩=>?_
   have e2:=htY _ s7 σ7 H7 _ I7 q7
   rw [y7,y6,y5,y2,y1] at e2
   refine thn e2 fun b s8 ⟨H8,I8,q8⟩=>?_
   have again:∀ {m':Nat} {H9:Hp} {s9:Shared},Inv Y (([]:List (Addr×Obj))++pinsAt fp s6.heap) σ7 H9 s9→m'<n→W (i+1) m' H9→∃ m,m<n∧∃ i H',Inv Y [] (σC own ix σ) H' s9∧tn i s9.heap∧(∀ b∈fp,H' b=none)∧W i m H':=fun {m' H9 s9} I9 hm w9=>by
    refine ⟨m',hm,i+1,H9,(I9.less le7).unpinned,T.keep _ _ _ st6 fun b hb o e=>(I9.pin (b,o) (List.mem_append_right _ (List.mem_append_right _ (mem_pinsAt hb e)))).1,fun b hb=>?_,w9⟩
    obtain ⟨o,e,d⟩:=T.obj _ _ st6 b hb
    exact (I9.pin (b,o) (List.mem_append_right _ (List.mem_append_right _ (mem_pinsAt hb e)))).2.1
   cases b with
   | false=>
    rw [if_neg (by simp)] at q8 ⊢
    obtain ⟨m',hm,w9⟩:=q8
    exact again I8 hm w9
   | true=>
    rw [if_pos rfl] at q8 ⊢
    have e3:=heY _ s8 σ7 H8 _ I8 q8
    rw [y7,y6,y5,y2,y1] at e3
    refine thn e3 fun v s9 ⟨y,H9,I9,r9,ys,ha,hz,m',hm,w9⟩=>?_
    have e4:=mt_append (X:=Y) _ s9 σ7 H9 (.ref s.heap.objs.size) [y] (.ref s.heap.objs.size) [v] (fun v' H'=>v'=.non∧H'=upd H9 s.heap.objs.size (.lst (ys++[y]))) I9 rfl (.cons r9 .nil) ⟨_,ys,y,rfl,rfl,ha,hz,rfl,rfl⟩
    rw [y7,y5,y2,y1] at e4
    refine thn e4 fun v' s10 ⟨v'',H10,I10,r10,_,eH⟩=>?_
    subst eH
    exact again I10 hm w9
 rw [es]
 exact codeAny_compStart_list loop (T.self X.A 0 _ _ _ st3 loop)
theorem ps_setc {i:Nat}{x:Str}{px spos:Pos}(hnd:X.N.Nodup)(hi':X.N[i]? = some x)(hl:X.env.scope.names.lookup x=some .local)(hc:X.calm=X.calm)(ho:X.env.scope=osc)(hN:X.N=N)(hk:compOk osc N own fr ix scope=true)(hi:PI X tg iter wi)
  (hg:InC X own fr scope fun Y=>PG Y tg g) (ht:InC X own fr scope fun Y=>PCs Y ifs tt) (he:InC X own fr scope fun Y=>PE Y elt te) (hs:∀ x,foldedSetIterable iter X.env x=pure x:=by intro _; rfl)
  (hsw:swapsWith (.ListComp elt [⟨tg,iter,ifs,0⟩] scope pos) (some (.Name x px)) spos.line X.env=pure true:=by rfl) :
  PS X (.Assign [.Name x px] (.ListComp elt [⟨tg,iter,ifs,0⟩] scope pos) spos) (tSetC own ix i wi g tt te):=by
 subst ho hN
 have S:=compOk.of hk
 intro pins s σ H D I h
 rw [exec_Assign_Name_used _ _ _ _ hsw]
 refine wpAny_bind (wpAny_standAt (wpAny_bind ?_))
 show wpAny _ X.A (do let _ ← comprehension (.ListComp elt [⟨tg,iter,ifs,0⟩] scope pos) scope X.env _ (newList []) false (eval iter X.env) (some (assign (.Name x px) X.env))) _ _ s
 have hclos:closureFor scope X.env=pure (clFrom X.env.cells scope.names []):=closure_eq fun x hx e=>I.cellAt (S.free x hx e)
 refine wpAny_bind (wpAny_mono (wpAny_comprehension_free (use:=some (assign (.Name x px) X.env)) (Q:=fun _ s'=>SP X pins D .next s') rfl hs hclos S.kind S.loc (thn (hi pins s σ H _ I h) fun v s1 h1=>thn h1 fun itv s2 h2=>?_)) (fun _ s' hq=>wpAny_pure (wpAny_pure hq)) fun _ _ e=>e)
 obtain ⟨it,fp,tn,J,H2,e,I2,⟨qq,hqq,T⟩,st2,f2,q⟩:=h2
 subst e
 refine comp_block (Qf:=fun acc H'=>D.nx (σ.set i (some (.ref acc))) H') (RR:=fun acc C=>compPost (model X.prog X.w) X.A X.xe (some (assign (.Name x px) X.env)) (fun _ s'=>SP X pins D .next s') acc C) S hc hg ht he I2 hqq T st2 f2 q ?_
 intro acc C s3 H3 H' fp' s' eC _ I3 hf3 J' q' ⟨m,hm⟩
 subst eC
 have I':=comp_back I3 J' hf3
 have f:=I3.fpOk (H':=H') (Nat.le_refl _) J'.free
 obtain ⟨oC,es,ep,hoC,hdC,r⟩:=id hm
 have IP:Inv X (pins++[(s3.heap.objs.size,oC)]) σ H' s':=I'.pins_of fun p hp=>by
  rcases List.mem_append.mp hp with z | z
  ·exact I'.pin p (List.mem_append_right _ z)
  ·have e:p=(s3.heap.objs.size,oC):=by simpa using z
   subst e
   exact ⟨hoC,f.1,f.2.1,f.2.2.1,fun v z=>by have z:oC.data=.cell v:=z; rw [hdC] at z; cases z⟩
 show wpAny _ X.A (assign (.Name x px) X.env (.ref acc)) _ _ _
 refine wpAny_assign_Name (store_ok IP hnd hi' (.inl hl) (v:=.ref acc) rfl (fun s'' I''=>?_) (.inr hl))
 have kC:=(I''.pin (s3.heap.objs.size,oC) (List.mem_append_right _ (List.mem_append_right _ (by simp)))).1
 refine ⟨m,⟨oC,es,ep,kC,hdC,r⟩,fun h' hs'=>?_⟩
 have I5:Inv X pins (σ.set i (some (.ref acc))) H' s'':=I''.unpinned
 exact ⟨_,H',I5.turned (t':=s''.toks) (it:=s3.heap.objs.size) (fun b o hb e=>hs'.extBut b o hb e) f.1 f.2.1 f.2.2.2.1 f.2.2.2.2.1 f.2.2.2.2.2,q'⟩
theorem pg_cn (i:Nat){x:Str}{p:Pos}{C:Addr}{s:Shared}{H:Hp}{pins:List (Addr×Obj)}{fp:List Addr}(hnd:(own++fr).Nodup)(hi:(own++fr)[i]? = some x)(hx:x∈own)(hl:scope.names.lookup x=some .local):PG (cxComp X own fr scope C s H pins fp) (.Name x p) (gName i):=
 pg_name (X:=cxComp X own fr scope C s H pins fp) hnd hi (.inl (lookup_relabel_local hl)) (.inl (decide_eq_true hx))
end
end L2
namespace L2
open PySem PySem.Spec PyProof.Rows
theorem atI_get' {α:Type}{l:List α}{i:Int}(h0:0≤i):atI l i=l[i.toNat]?:=by
 unfold atI ixN
 rw [if_pos h0]
 by_cases h:i<l.length
 ·rw [if_pos h]; rfl
 ·rw [if_neg h]
  have:l.length≤i.toNat:=by omega
  simp [List.getElem?_eq_none this]
theorem seqAt_lst {H:Hp}{a:Addr}{xs:List V}(h:H a=some (.lst xs)):seqAt H a=some xs:=by unfold seqAt; rw [h]
theorem seqAt_tup {H:Hp}{a:Addr}{xs:List V}(h:H a=some (.tup xs)):seqAt H a=some xs:=by unfold seqAt; rw [h]
end L2
namespace L2
open PySem PySem.Spec PyProof.Rows
def allF (f:V→V→Option Bool):List V→List V→Option Bool
 | x::xs,y::ys=>match f x y,allF f xs ys with
  | some a,some b=>some (a && b)
  | _,_=>none
 | _,_=>some true
def eAt (f:V→V→Option Bool)(xs ys:List V)(j:Nat):Bool:=match xs[j]?,ys[j]? with
 | some x,some y=>(f x y).getD false
 | _,_=>true
theorem allF_spec {f:V→V→Option Bool}:∀ {xs ys:List V} {b:Bool},allF f xs ys=some b →
  (∀ (j:Nat) x y,xs[j]? = some x→ys[j]? = some y→f x y=some (eAt f xs ys j))∧b=(List.range (min xs.length ys.length)).all (eAt f xs ys)
 | [],ys,b,h=>by
  cases h
  exact ⟨fun j x y e _=>by simp at e,by simp⟩
 | x::xs,[],b,h=>by
  cases h
  exact ⟨fun j x y _ e=>by simp at e,by simp⟩
 | x::xs,y::ys,b,h=>by
  unfold allF at h
  cases e1:f x y with
  | none=>rw [e1] at h; cases h
  | some a=>
   cases e2:allF f xs ys with
   | none=>rw [e1,e2] at h; cases h
   | some c=>
    rw [e1,e2] at h
    cases h
    obtain ⟨h1,h2⟩:=allF_spec e2
    refine ⟨fun j x' y' ex ey=>?_,?_⟩
    ·cases j with
     | zero=>
      simp at ex ey
      subst ex ey
      simp [eAt,e1]
     | succ j=>
      have:=h1 j x' y' (by simpa using ex) (by simpa using ey)
      rw [this]
      simp [eAt]
    ·have em:min (x::xs).length (y::ys).length=min xs.length ys.length+1:=by simp
     rw [em,List.range_succ_eq_map,List.all_cons,List.all_map,h2]
     have e0:eAt f (x::xs) (y::ys) 0=a:=by simp [eAt,e1]
     have e3:(eAt f (x::xs) (y::ys) ∘ Nat.succ)=eAt f xs ys:=by
      funext j
      simp [eAt]
     rw [e0,e3]
def eqF (H:Hp):Nat→V→V→Option Bool
 | 0,x,y=>if (flatV x && flatV y)=true then some (eqV x y) else none
 | n+1,x,y=>if (flatV x && flatV y)=true then some (eqV x y) else match x,y with
  | .ref a,.ref b=>(match lstAt H a,lstAt H b with
   | some xs,some ys=>if xs.length=ys.length then allF (eqF H n) xs ys else some false
   | none,none=>(match tupAt H a,tupAt H b with
    | some xs,some ys=>(allF (eqF H n) xs ys).map (· && decide (xs.length=ys.length))
    | _,_=>none)
   | some _,none=>if (tupAt H b).isSome=true then some false else none
   | none,some _=>if (tupAt H a).isSome=true then some false else none)
  | .ref a,y=>if ((seqAt H a).isSome && flatV y)=true then some false else none
  | x,.ref b=>if ((seqAt H b).isSome && flatV x)=true then some false else none
  | _,_=>none
theorem eqV_self {x:V}(h:flatV x=true):eqV x x=true:=by
 cases x <;> first | rfl | (simp [eqV]; done) | (simp [flatV] at h)
theorem allF_self {f:V→V→Option Bool}(hf:∀ x b,f x x=some b→b=true):∀ {xs:List V} {b:Bool},allF f xs xs=some b→b=true
 | [],b,h=>by cases h; rfl
 | x::xs,b,h=>by
  unfold allF at h
  cases e1:f x x with
  | none=>rw [e1] at h; cases h
  | some a=>
   cases e2:allF f xs xs with
   | none=>rw [e1,e2] at h; cases h
   | some c=>
    rw [e1,e2] at h
    cases h
    rw [hf x a e1,allF_self hf e2]
    rfl
theorem eqF_self {H:Hp}:∀ {n:Nat} {x:V} {b:Bool},eqF H n x x=some b→b=true
 | 0,x,b,h=>by
  unfold eqF at h
  split at h
  ·rename_i hf
   cases h
   rw [Bool.and_self] at hf
   exact eqV_self hf
  ·cases h
 | n+1,x,b,h=>by
  unfold eqF at h
  split at h
  ·rename_i hf
   cases h
   rw [Bool.and_self] at hf
   exact eqV_self hf
  ·rename_i hf
   cases x with
   | ref a=>
    simp only at h
    cases e1:lstAt H a with
    | some xs=>
     rw [e1] at h
     simp only [if_true] at h
     exact allF_self (fun x b h=>eqF_self h) h
    | none=>
     rw [e1] at h
     simp only at h
     cases e2:tupAt H a with
     | some xs=>
      rw [e2] at h
      simp only [decide_true,Bool.and_true] at h
      cases e3:allF (eqF H n) xs xs with
      | none=>rw [e3] at h; cases h
      | some c=>
       rw [e3] at h
       cases h
       exact allF_self (fun x b h=>eqF_self h) e3
     | none=>
      rw [e2] at h
      cases h
   | _=>first | (simp [flatV] at hf; done) | (simp only at h; cases h)
theorem rcAt_V {A:Around}{s:Shared}{y x:V}{u v:Value}(ry:RelV y u)(rx:RelV x v)(fy:flatV y=true)(fx:flatV x=true):SeqAt.RcAt A s u v (eqV y x):=by
 cases y with
 | non=>
  cases ry
  cases x with
  | non=>cases rx; exact SeqAt.RcAt.none_none
  | bl b=>cases rx; exact SeqAt.RcAt.none_bool b
  | int b=>obtain ⟨t,rfl⟩:=rx; exact SeqAt.RcAt.none_int b t
  | str b=>obtain ⟨t,rfl⟩:=rx; exact SeqAt.RcAt.none_str b t
  | _=>exact absurd (show false=true from fx) Bool.false_ne_true
 | bl a=>
  cases ry
  cases x with
  | non=>cases rx; exact SeqAt.RcAt.bool_none a
  | bl b=>cases rx; exact SeqAt.RcAt.bool_bool a b
  | int b=>obtain ⟨t,rfl⟩:=rx; exact SeqAt.RcAt.bool_int a b t
  | str b=>obtain ⟨t,rfl⟩:=rx; exact SeqAt.RcAt.bool_str a b t
  | _=>exact absurd (show false=true from fx) Bool.false_ne_true
 | int a=>
  obtain ⟨t',rfl⟩:=ry
  cases x with
  | non=>cases rx; exact SeqAt.RcAt.int_none a t'
  | bl b=>cases rx; exact SeqAt.RcAt.int_bool a t' b
  | int b=>obtain ⟨t,rfl⟩:=rx; exact SeqAt.RcAt.int_int a t' b t
  | str b=>obtain ⟨t,rfl⟩:=rx; exact SeqAt.RcAt.int_str a t' b t
  | _=>exact absurd (show false=true from fx) Bool.false_ne_true
 | str a=>
  obtain ⟨t',rfl⟩:=ry
  cases x with
  | non=>cases rx; exact SeqAt.RcAt.str_none a t'
  | bl b=>cases rx; exact SeqAt.RcAt.str_bool a t' b
  | int b=>obtain ⟨t,rfl⟩:=rx; exact SeqAt.RcAt.str_int a t' b t
  | str b=>obtain ⟨t,rfl⟩:=rx; exact SeqAt.RcAt.str_str a t' b t
  | _=>exact absurd (show false=true from fx) Bool.false_ne_true
 | _=>exact absurd (show false=true from fy) Bool.false_ne_true
theorem rnAt_V {A:Around}{s:Shared}{y x:V}{u v:Value}(ry:RelV y u)(rx:RelV x v)(fy:flatV y=true)(fx:flatV x=true):SeqAt.RcNeAt A s u v (!eqV y x):=by
 cases y with
 | non=>
  cases ry
  cases x with
  | non=>cases rx; exact SeqAt.RcNeAt.none_none
  | bl b=>cases rx; exact SeqAt.RcNeAt.none_bool b
  | int b=>obtain ⟨t,rfl⟩:=rx; exact SeqAt.RcNeAt.none_int b t
  | str b=>obtain ⟨t,rfl⟩:=rx; exact SeqAt.RcNeAt.none_str b t
  | _=>exact absurd (show false=true from fx) Bool.false_ne_true
 | bl a=>
  cases ry
  cases x with
  | non=>cases rx; exact SeqAt.RcNeAt.bool_none a
  | bl b=>cases rx; exact SeqAt.RcNeAt.bool_bool a b
  | int b=>obtain ⟨t,rfl⟩:=rx; exact SeqAt.RcNeAt.bool_int a b t
  | str b=>obtain ⟨t,rfl⟩:=rx; exact SeqAt.RcNeAt.bool_str a b t
  | _=>exact absurd (show false=true from fx) Bool.false_ne_true
 | int a=>
  obtain ⟨t',rfl⟩:=ry
  cases x with
  | non=>cases rx; exact SeqAt.RcNeAt.int_none a t'
  | bl b=>cases rx; exact SeqAt.RcNeAt.int_bool a t' b
  | int b=>obtain ⟨t,rfl⟩:=rx; exact SeqAt.RcNeAt.int_int a t' b t
  | str b=>obtain ⟨t,rfl⟩:=rx; exact SeqAt.RcNeAt.int_str a t' b t
  | _=>exact absurd (show false=true from fx) Bool.false_ne_true
 | str a=>
  obtain ⟨t',rfl⟩:=ry
  cases x with
  | non=>cases rx; exact SeqAt.RcNeAt.str_none a t'
  | bl b=>cases rx; exact SeqAt.RcNeAt.str_bool a t' b
  | int b=>obtain ⟨t,rfl⟩:=rx; exact SeqAt.RcNeAt.str_int a t' b t
  | str b=>obtain ⟨t,rfl⟩:=rx; exact SeqAt.RcNeAt.str_str a t' b t
  | _=>exact absurd (show false=true from fx) Bool.false_ne_true
 | _=>exact absurd (show false=true from fy) Bool.false_ne_true
structure EqOk (A:Around)(s:Shared)(u v:Value)(b:Bool):Prop where
 rc:SeqAt.RcAt A s u v b
 rn:SeqAt.RcNeAt A s u v (!b)
 eq:SeqAt.EqAt A s u v b
theorem EqOk.flat {A:Around}{s:Shared}{y x:V}{u v:Value}(ry:RelV y u)(rx:RelV x v)(fy:flatV y=true)(fx:flatV x=true):EqOk A s u v (eqV y x):=⟨rcAt_V ry rx fy fx,rnAt_V ry rx fy fx,eqAt_V ry rx fy fx⟩
theorem EqOk.list_flat {A:Around}{s:Shared}{l:Addr}{items:Array Value}{x:V}{v:Value}(hl:s.heap.IsList l items)(hu:A.units<cLine)(rx:RelV x v)(fx:flatV x=true):EqOk A s (.ref l) v false:=by
 cases x with
 | non=>cases rx; exact ⟨SeqAt.RcAt.list_none hl hu,SeqAt.RcNeAt.list_none hl hu,SeqAt.EqAt.list_none hl hu⟩
 | bl b=>cases rx; exact ⟨SeqAt.RcAt.list_bool b hl hu,SeqAt.RcNeAt.list_bool b hl hu,SeqAt.EqAt.list_bool b hl hu⟩
 | int b=>obtain ⟨t,rfl⟩:=rx; exact ⟨SeqAt.RcAt.list_int b t hl hu,SeqAt.RcNeAt.list_int b t hl hu,SeqAt.EqAt.list_int b t hl hu⟩
 | str b=>obtain ⟨t,rfl⟩:=rx; exact ⟨SeqAt.RcAt.list_str b t hl hu,SeqAt.RcNeAt.list_str b t hl hu,SeqAt.EqAt.list_str b t hl hu⟩
 | _=>exact absurd (show false=true from fx) Bool.false_ne_true
theorem EqOk.flat_list {A:Around}{s:Shared}{l:Addr}{items:Array Value}{x:V}{v:Value}(hl:s.heap.IsList l items)(hu:A.units<cLine)(rx:RelV x v)(fx:flatV x=true):EqOk A s v (.ref l) false:=by
 cases x with
 | non=>cases rx; exact ⟨SeqAt.RcAt.none_list hl hu,SeqAt.RcNeAt.none_list hl hu,SeqAt.EqAt.none_list hl hu⟩
 | bl b=>cases rx; exact ⟨SeqAt.RcAt.bool_list b hl hu,SeqAt.RcNeAt.bool_list b hl hu,SeqAt.EqAt.bool_list b hl hu⟩
 | int b=>obtain ⟨t,rfl⟩:=rx; exact ⟨SeqAt.RcAt.int_list b t hl hu,SeqAt.RcNeAt.int_list b t hl hu,SeqAt.EqAt.int_list b t hl hu⟩
 | str b=>obtain ⟨t,rfl⟩:=rx; exact ⟨SeqAt.RcAt.str_list b t hl hu,SeqAt.RcNeAt.str_list b t hl hu,SeqAt.EqAt.str_list b t hl hu⟩
 | _=>exact absurd (show false=true from fx) Bool.false_ne_true
theorem EqOk.tuple_flat {A:Around}{s:Shared}{l:Addr}{items:Array Value}{x:V}{v:Value}(hl:s.heap.IsTuple l items)(hu:A.units<cLine)(rx:RelV x v)(fx:flatV x=true):EqOk A s (.ref l) v false:=by
 cases x with
 | non=>cases rx; exact ⟨SeqAt.RcAt.tuple_none hl hu,SeqAt.RcNeAt.tuple_none hl hu,SeqAt.EqAt.tuple_none hl hu⟩
 | bl b=>cases rx; exact ⟨SeqAt.RcAt.tuple_bool b hl hu,SeqAt.RcNeAt.tuple_bool b hl hu,SeqAt.EqAt.tuple_bool b hl hu⟩
 | int b=>obtain ⟨t,rfl⟩:=rx; exact ⟨SeqAt.RcAt.tuple_int b t hl hu,SeqAt.RcNeAt.tuple_int b t hl hu,SeqAt.EqAt.tuple_int b t hl hu⟩
 | str b=>obtain ⟨t,rfl⟩:=rx; exact ⟨SeqAt.RcAt.tuple_str b t hl hu,SeqAt.RcNeAt.tuple_str b t hl hu,SeqAt.EqAt.tuple_str b t hl hu⟩
 | _=>exact absurd (show false=true from fx) Bool.false_ne_true
theorem EqOk.flat_tuple {A:Around}{s:Shared}{l:Addr}{items:Array Value}{x:V}{v:Value}(hl:s.heap.IsTuple l items)(hu:A.units<cLine)(rx:RelV x v)(fx:flatV x=true):EqOk A s v (.ref l) false:=by
 cases x with
 | non=>cases rx; exact ⟨SeqAt.RcAt.none_tuple hl hu,SeqAt.RcNeAt.none_tuple hl hu,SeqAt.EqAt.none_tuple hl hu⟩
 | bl b=>cases rx; exact ⟨SeqAt.RcAt.bool_tuple b hl hu,SeqAt.RcNeAt.bool_tuple b hl hu,SeqAt.EqAt.bool_tuple b hl hu⟩
 | int b=>obtain ⟨t,rfl⟩:=rx; exact ⟨SeqAt.RcAt.int_tuple b t hl hu,SeqAt.RcNeAt.int_tuple b t hl hu,SeqAt.EqAt.int_tuple b t hl hu⟩
 | str b=>obtain ⟨t,rfl⟩:=rx; exact ⟨SeqAt.RcAt.str_tuple b t hl hu,SeqAt.RcNeAt.str_tuple b t hl hu,SeqAt.EqAt.str_tuple b t hl hu⟩
 | _=>exact absurd (show false=true from fx) Bool.false_ne_true
theorem IsTup.isTuple {h:Heap}{a:Addr}{items:Array Value}(x:IsTup h a items):h.IsTuple a items:=let ⟨o,ho,hc,n,hd⟩:=x; ⟨o,ho,hc,n,hd⟩
section
variable {X:Cx} {pins:List (Addr×Obj)} {σ:St} {H:Hp} {s:Shared}
theorem Vals.at {xs:List V}{us:List Value}(r:Vals xs us){j:Nat}(h:j<us.toArray.size):∃ x,xs[j]? = some x∧RelV x us.toArray[j]:=by
 have hl:=r.length
 have hj:j<us.length:=by simpa using h
 have hx:j<xs.length:=by omega
 obtain ⟨u,e,q⟩:=r.get (i:=j) (x:=xs[j]) (by simp [hx])
 refine ⟨xs[j],by simp [hx],?_⟩
 have:us.toArray[j]=u:=by
  rw [List.getElem_toArray]
  rw [List.getElem?_eq_getElem hj] at e
  exact Option.some.inj e
 rw [this]
 exact q
theorem eqF_ok (I:Inv X pins σ H s):∀ (n:Nat) (A:Around) {x y:V} {u v:Value} {b:Bool},A.units+n<cLine→eqF H n x y=some b→RelV x u→RelV y v→EqOk A s u v b
 | 0,A,x,y,u,v,b,hu,h,rx,ry=>by
  unfold eqF at h
  split at h
  ·rename_i hf
   cases h
   rw [Bool.and_eq_true] at hf
   exact .flat rx ry hf.1 hf.2
  ·cases h
 | n+1,A,x,y,u,v,b,hu,h,rx,ry=>by
  have ih:=fun {x y u v b}=>eqF_ok I n A.in1 (x:=x) (y:=y) (u:=u) (v:=v) (b:=b) (by show A.units+1+n<cLine; omega)
  have hu0:A.units<cLine:=by omega
  have h0:=h
  unfold eqF at h
  split at h
  ·rename_i hf
   cases h
   rw [Bool.and_eq_true] at hf
   exact .flat rx ry hf.1 hf.2
  ·split at h
   ·rename_i p q _
    cases rx
    cases ry
    have fin:SeqAt.RcAt A s (.ref p) (.ref q) b→SeqAt.RcNeAt A s (.ref p) (.ref q) (!b)→EqOk A s (.ref p) (.ref q) b:=fun h1 h2=>by
     refine ⟨h1,h2,?_⟩
     by_cases e:p=q
     ·subst e
      rw [eqF_self h0]
      exact SeqAt.EqAt.same _
     ·exact SeqAt.EqAt.of_refs e h1
    split at h
    ·rename_i xs ys e1 e2
     obtain ⟨its,r1,p1,z1⟩:=I.list (lstAt_sq (K:=X.K) e1)
     obtain ⟨its2,r2,p2,z2⟩:=I.list (lstAt_sq (K:=X.K) e2)
     have l1:=r1.length
     have l2:=r2.length
     split at h
     ·rename_i el
      obtain ⟨s1,s2⟩:=allF_spec h
      have hsz:its.toArray.size=its2.toArray.size:=by simp; omega
      have hm:min xs.length ys.length=its.toArray.size:=by simp; omega
      have he:∀ j (h1:j<its.toArray.size) (h2:j<its2.toArray.size),SeqAt.EqAt A.in1 s its.toArray[j] its2.toArray[j] (eAt (eqF H n) xs ys j):=fun j h1 h2=>by
       obtain ⟨x',ex,qx⟩:=r1.at h1
       obtain ⟨y',ey,qy⟩:=r2.at h2
       exact (ih (s1 j x' y' ex ey) qx qy).eq
      rw [hm] at s2
      subst s2
      exact fin (SeqAt.RcAt.lists p1.isList p2.isList hsz hu0 he) (SeqAt.RcNeAt.lists p1.isList p2.isList hsz hu0 he)
     ·rename_i el
      cases h
      have hsz:(its.toArray.size != its2.toArray.size)=true:=by
       simp only [List.size_toArray,bne_iff_ne,ne_eq]; omega
      exact fin (SeqAt.RcAt.lists_lengths p1.isList p2.isList hsz hu0) (SeqAt.RcNeAt.lists_lengths p1.isList p2.isList hsz hu0)
    ·rename_i e1 e2
     split at h
     ·rename_i xs ys e3 e4
      obtain ⟨its,r1,p1,z1⟩:=I.tuple (tupAt_sq (K:=X.K) e3)
      obtain ⟨its2,r2,p2,z2⟩:=I.tuple (tupAt_sq (K:=X.K) e4)
      have l1:=r1.length
      have l2:=r2.length
      cases ea:allF (eqF H n) xs ys with
      | none=>rw [ea] at h; cases h
      | some c=>
       rw [ea] at h
       cases h
       obtain ⟨s1,s2⟩:=allF_spec ea
       have hm:min xs.length ys.length=min its.toArray.size its2.toArray.size:=by simp; omega
       have hd:decide (xs.length=ys.length)=(its.toArray.size == its2.toArray.size):=by
        rw [Bool.eq_iff_iff]; simp; omega
       have he:∀ j (h1:j<its.toArray.size) (h2:j<its2.toArray.size),SeqAt.EqAt A.in1 s its.toArray[j] its2.toArray[j] (eAt (eqF H n) xs ys j):=fun j h1 h2=>by
        obtain ⟨x',ex,qx⟩:=r1.at h1
        obtain ⟨y',ey,qy⟩:=r2.at h2
        exact (ih (s1 j x' y' ex ey) qx qy).eq
       rw [hm] at s2
       rw [s2,hd] at fin ⊢
       exact fin (SeqAt.RcAt.tuples (IsTup.isTuple p1) (IsTup.isTuple p2) hu0 he) (SeqAt.RcNeAt.tuples (IsTup.isTuple p1) (IsTup.isTuple p2) hu0 he)
     ·cases h
    ·rename_i xs e1 e2
     split at h
     ·rename_i e3
      cases h
      obtain ⟨ys,e4⟩:=Option.isSome_iff_exists.mp e3
      obtain ⟨its,r1,p1,z1⟩:=I.list (lstAt_sq (K:=X.K) e1)
      obtain ⟨its2,r2,p2,z2⟩:=I.tuple (tupAt_sq (K:=X.K) e4)
      exact fin (SeqAt.RcAt.list_tuple p1.isList (IsTup.isTuple p2) hu0) (SeqAt.RcNeAt.list_tuple p1.isList (IsTup.isTuple p2) hu0)
     ·cases h
    ·rename_i ys e1 e2
     split at h
     ·rename_i e3
      cases h
      obtain ⟨xs,e4⟩:=Option.isSome_iff_exists.mp e3
      obtain ⟨its,r1,p1,z1⟩:=I.tuple (tupAt_sq (K:=X.K) e4)
      obtain ⟨its2,r2,p2,z2⟩:=I.list (lstAt_sq (K:=X.K) e2)
      exact fin (SeqAt.RcAt.tuple_list (IsTup.isTuple p1) p2.isList hu0) (SeqAt.RcNeAt.tuple_list (IsTup.isTuple p1) p2.isList hu0)
     ·cases h
   ·rename_i p _ _
    cases rx
    split at h
    ·rename_i e1
     cases h
     rw [Bool.and_eq_true] at e1
     obtain ⟨xs,e2⟩:=Option.isSome_iff_exists.mp e1.1
     rcases seqAt_or e2 with e3 | e3
     ·obtain ⟨its,r1,p1,z1⟩:=I.list (lstAt_sq (K:=X.K) e3)
      exact .list_flat p1.isList hu0 ry e1.2
     ·obtain ⟨its,r1,p1,z1⟩:=I.tuple (tupAt_sq (K:=X.K) e3)
      exact .tuple_flat (IsTup.isTuple p1) hu0 ry e1.2
    ·cases h
   ·rename_i p _ _
    cases ry
    split at h
    ·rename_i e1
     cases h
     rw [Bool.and_eq_true] at e1
     obtain ⟨xs,e2⟩:=Option.isSome_iff_exists.mp e1.1
     rcases seqAt_or e2 with e3 | e3
     ·obtain ⟨its,r1,p1,z1⟩:=I.list (lstAt_sq (K:=X.K) e3)
      exact .flat_list p1.isList hu0 rx e1.2
     ·obtain ⟨its,r1,p1,z1⟩:=I.tuple (tupAt_sq (K:=X.K) e3)
      exact .flat_tuple (IsTup.isTuple p1) hu0 rx e1.2
    ·cases h
   ·cases h
def rEqF:R2:=fun x y H Q=>need (eqF H 4 x y) fun b=>Q (.bl b) H
def rNeF:R2:=fun x y H Q=>need (eqF H 4 x y) fun b=>Q (.bl (!b)) H
theorem op_eqF {k:Nat}(hr:Room k X.A):OpR X (compareOp .Eq) rEqF:=by
 intro pins s σ H x y v u Q I rx ry h
 obtain ⟨b,e,q⟩:=need_ex h
 refine PySem.W.cmp_ofEq ((eqF_ok I 4 X.A ?_ e rx ry).rc _ _ _ _ ⟨.bl b,H,I,rfl,q⟩)
 have:=hr.un
 omega
theorem op_neF {k:Nat}(hr:Room k X.A):OpR X (compareOp .NotEq) rNeF:=by
 intro pins s σ H x y v u Q I rx ry h
 obtain ⟨b,e,q⟩:=need_ex h
 refine PySem.W.cmp_ofNotEq ((eqF_ok I 4 X.A ?_ e rx ry).rn _ _ _ _ ⟨.bl (!b),H,I,rfl,q⟩)
 have:=hr.un
 omega
end
end L2
namespace L2
open PySem PySem.Spec PyProof.Rows
def strsOf:List V→Option (List Str)
 | []=>some []
 | .str x::r=>(strsOf r).map (x :: ·)
 | _::_=>none
theorem strsOf_eq:∀ {xs:List V} {ts:List Str},strsOf xs=some ts→xs=ts.map V.str
 | [],ts,h=>by cases h; rfl
 | x::r,ts,h=>by
  cases x with
  | str y=>
   unfold strsOf at h
   cases e:strsOf r with
   | none=>rw [e] at h; cases h
   | some t=>rw [e] at h; cases h; rw [strsOf_eq e]; rfl
  | _=>cases h
theorem vals_strs:∀ {ts:List Str} {us:List Value},Vals (ts.map V.str) us→∃ l:List (Str×Tok),us=strValues l∧l.map (·.1)=ts
 | [],us,h=>by cases h; exact ⟨[],rfl,rfl⟩
 | t::ts,us,h=>by
  cases h with
  | cons r h=>
   obtain ⟨tk,rfl⟩:=r
   obtain ⟨l,rfl,rfl⟩:=vals_strs h
   exact ⟨(t,tk)::l,rfl,rfl⟩
section
variable {X:Cx} {o e:Expr} {to te:TE} {t:TA} {apos cpos:Pos}
def rJoin:V→List V→Hp→VK→Prop:=fun x vs H Q=>match x,vs with
 | .str sep,[.ref p]=>need (lstAt H p) fun xs=>need (strsOf xs) fun ts=>JoinOk sep ts=true∧Q (.str (Txt.join sep ts)) H
 | _,_=>False
theorem mt_join:MtM X "str.join" rJoin:=by
 intro pins s σ H x vs v us Q I rx rv h
 unfold rJoin at h
 split at h
 ·obtain ⟨xs,e1,h⟩:=need_ex h
  obtain ⟨ts,e2,hk,q⟩:=need_ex h
  obtain ⟨tk,rfl⟩:=rx
  obtain ⟨u,rfl,ru⟩:=rv.one
  cases ru
  obtain ⟨its,r,pl,z⟩:=I.list (lstAt_sq (K:=X.K) e1)
  rw [strsOf_eq e2] at r
  obtain ⟨l,rfl,el⟩:=vals_strs r
  exact SC.join pl.isList el hk fun t' k=>⟨.str _,H,I.tok k,⟨t',rfl⟩,q⟩
 ·exact h.elim
end
end L2
namespace L2
theorem eqF_flat4 {H:Hp}{n:Nat}{x y:V}(h:(flatV x && flatV y)=true):eqF H n x y=some (eqV x y):=by
 cases n <;> (unfold eqF; rw [if_pos h])
end L2
namespace L2
open PySem PySem.Spec PyProof.Rows
section
variable {X:Cx} {a:Expr} {ta:TE} {pos:Pos}
def truF (H:Hp):V→(Bool→Prop)→Prop
 | .non,k=>k false
 | .bl b,k=>k b
 | .int i,k=>k (decide (i≠0))
 | .str y,k=>y.length≤sizeLine∧k (decide (y.length≠0))
 | .ref p,k=>(match H p with
  | some (.dK kvs)=>k (!kvs.isEmpty)
  | _=>need (seqAt H p) fun xs=>k (!xs.isEmpty))
 | _,_=>False
def tTru (ta:TE):TT:=fun σ H Q=>ta σ H fun x H'=>truF H' x fun k=>Q k H'
theorem truF_ok {K:PySem.W.Frag}{H:Hp}{x:V}{k:Bool→Prop}(h:truF H x k):∃ b,TruV K x H b∧k b:=by
 cases x with
 | non=>exact ⟨false,rfl,h⟩
 | bl b=>exact ⟨b,rfl,h⟩
 | int i=>exact ⟨_,by show decide (i≠0)=(i != 0); rw [Bool.eq_iff_iff]; simp,h⟩
 | str y=>exact ⟨_,⟨h.1,by rw [Bool.eq_iff_iff]; simp⟩,h.2⟩
 | ref p=>
  simp only [truF] at h
  split at h
  ·rename_i kvs e
   exact ⟨_,.inr (.inr ⟨kvs,e,rfl⟩),h⟩
  ·obtain ⟨xs,e,h⟩:=need_ex h
   rcases seqAt_or e with e | e
   ·exact ⟨_,.inl ⟨xs,lstAt_sq e,rfl⟩,h⟩
   ·exact ⟨_,.inr (.inl ⟨xs,tupAt_sq e,rfl⟩),h⟩
 | _=>exact h.elim
theorem pt_tru (ha:PE X a ta)(he:∀ whole,isTrue a X.env whole=(do let v ← whole; standAt a.pos; holding [v] (truthy v))):PT X a (tTru ta):=by
 intro pins s σ H Q I h
 exact isTrue_plain (thn (ha pins s σ H _ I h) fun v s1 ⟨x,H1,I1,r1,q1⟩=>tru_ok pins s1 σ H1 x v Q I1 r1 (truF_ok q1)) (he _)
def gTupV (n:Nat)(t:TGs):TG:=fun v σ H Q=>match v with
 | .ref a=>need (tupAt H a) fun xs=>xs.length=n∧t xs σ H Q
 | _=>False
theorem pg_tupV {es:List Expr}{k:Nat}{t:TGs}{n:Nat}(hc:X.calm=X.calm)(h:PGs X es t)
  (hn:(assignEach es X.env).length=n:=by rfl) (hst:(assignEach es X.env).findIdx? (·.1)=none:=by rfl):PG X (.Tuple es k pos) (gTupV n t):=by
 intro pins s σ H v u Q I r hw
 refine pg_tup hc h hn hst pins s σ H v u Q I r ?_
 unfold gTupV at hw
 split at hw
 ·obtain ⟨xs,e,hl,q⟩:=need_ex hw
  exact ⟨_,xs,rfl,tupAt_sq e,hl,q⟩
 ·exact hw.elim
end
end L2
namespace L2
open PySem PySem.Spec PyProof.Rows
theorem lstAt_upd_l {H:Hp}{p:Addr}{xs:List V}:lstAt (upd H p (.lst xs)) p=some xs:=lstAt_of upd_same
end L2
namespace L2
open PySem PySem.Spec PyProof.Rows
theorem eqF_lists {H:Hp}{n:Nat}{a b:Addr}{xs ys:List V}(h1:lstAt H a=some xs)(h2:lstAt H b=some ys):eqF H (n+1) (.ref a) (.ref b)=if xs.length=ys.length then allF (eqF H n) xs ys else some false:=by
 unfold eqF
 rw [if_neg (by simp [flatV])]
 simp only [h1,h2]
theorem eqF_tuples {H:Hp}{n:Nat}{a b:Addr}{xs ys:List V}(h1:tupAt H a=some xs)(h2:tupAt H b=some ys):eqF H (n+1) (.ref a) (.ref b)=(allF (eqF H n) xs ys).map (· && decide (xs.length=ys.length)):=by
 have l1:lstAt H a=none:=by unfold lstAt; rw [tupAt_eq h1]
 have l2:lstAt H b=none:=by unfold lstAt; rw [tupAt_eq h2]
 unfold eqF
 rw [if_neg (by simp [flatV])]
 simp only [h1,h2,l1,l2]
end L2
namespace L2
open PySem PySem.Spec PyProof.Rows
end L2
namespace L2
open PySem PySem.Spec PyProof.Rows
end L2
namespace M
open PySem PySem.Spec PyProof.Rows L2
inductive W where
 | non | bl (b:Bool) | int (i:Int) | str (x:Str) | ty (n:String) | cls (c:Str) | ref (n:Nat)
 | tup (ws:List W) | tl (ws:List W) | td (ks:List Key) (ws:List W) | ti (c:Str) (fs:List Str) (ws:List W) | exc (c:Str) (fs:List Str) (ws:List W)
inductive O where
 | lst (ws:List W) | dic (kvs:List (Key×W)) | ins (c:Str) (fs:List (Str×W))
 | fdic (kvs:List (Key×W))
abbrev Mem:=List O
abbrev Sg:=List (Option W)
structure CTb where
 t:Str→Option Addr
 x:Str→Option Addr
 o:Str→Option Addr
def CTb.any (T:CTb)(c:Str):Option Addr:=match T.t c with
 | some C=>some C
 | none=>(match T.x c with
  | some C=>some C
  | none=>T.o c)
instance:CoeFun CTb fun _=>Str→Option Addr:=⟨CTb.t⟩
theorem CTb.any_t {T:CTb}{c:Str}{C:Addr}(h:T c=some C):T.any c=some C:=by unfold CTb.any; rw [show T.t c=some C from h]
abbrev St:=L2.St
def XShape (e C:Addr)(d:Option Addr)(h:Heap):Prop:=∃ o vs,h.get? e=some o∧o.cls=.ref C∧o.data=.fields vs∧o.dict=d
def Hx (H:Hp)(e C:Addr)(d:Option Addr):Prop:=∃ o,Ctx0 o∧H e=some (.frz o (.ext (XShape e C d)))
section
variable (T:CTb) (φ:List Addr) (H:Hp)
mutual
def RW:W→V→Prop
 | .non,v=>v=.non
 | .bl b,v=>v=.bl b
 | .int i,v=>v=.int i
 | .str x,v=>v=.str x
 | .ty n,v=>v=.ty n
 | .cls c,v=>∃ C,T.any c=some C∧v=.ref C
 | .ref n,v=>∃ a,φ[n]? = some a∧v=.ref a
 | .tup ws,v=>∃ p vs,v=.ref p∧p ∉ φ∧H p=some (.tup vs)∧RWs ws vs
 | .tl ws,v=>∃ p vs,v=.ref p∧p ∉ φ∧lstAt H p=some vs∧RWs ws vs
 | .td ks ws,v=>∃ p vs,v=.ref p∧p ∉ φ∧H p=some (.dK (ks.zip vs))∧ks.length=ws.length∧RWs ws vs
 | .ti c fs ws,v=>∃ p C dx vs,v=.ref p∧p ∉ φ∧T c=some C∧H p=some (.ins C dx (fs.zip vs))∧fs.length=ws.length∧RWs ws vs
 | .exc c fs ws,v=>∃ e C d vs,v=.ref e∧e ∉ φ∧T.x c=some C∧Hx H e C d∧fs.length=ws.length∧(match d with
  | some da=>da ∉ φ∧H da=some (.xd (fs.zip vs))
  | none=>fs=[])∧RWs ws vs
def RWs:List W→List V→Prop
 | [],vs=>vs=[]
 | w::ws,vs=>∃ v r,vs=v::r∧RW w v∧RWs ws r
end
def RP {κ:Type}:List (κ×W)→List (κ×V)→Prop:=Paired fun p q=>p.1=q.1∧RW T φ H p.2 q.2
def RO:O→HO→Prop
 | .lst ws,o=>∃ vs,o=.lst vs∧RWs T φ H ws vs
 | .dic kvs,o=>∃ kv,o=.dK kv∧RP T φ H kvs kv
 | .ins c fs,o=>∃ C dx fv,o=.ins C dx fv∧T c=some C∧RP T φ H fs fv
 | .fdic kvs,o=>∃ ob kv,o=.frz ob (.dK kv)∧RP T φ H kvs kv
end
structure Step0 (φ:List Addr)(H:Hp)(φ':List Addr)(H':Hp):Prop where
 pre:φ <+: φ'
 keep:∀ a o,H a=some o→a ∉ φ→H' a=some o
 new:∀ a,a∈φ'→a ∉ φ→H a=none
structure Step (φ:List Addr)(H:Hp)(φ':List Addr)(H':Hp):Prop extends Step0 φ H φ' H' where
 fr:∀ a o u,H a=some (.frz o u)→H' a=some (.frz o u)
theorem Step.refl (φ:List Addr)(H:Hp):Step φ H φ H:=⟨⟨List.prefix_refl _,fun _ _ e _=>e,fun _ h n=>absurd h n⟩,fun _ _ _ e=>e⟩
theorem Step0.out {φ φ':List Addr}{H H':Hp}(s:Step0 φ H φ' H'){a:Addr}{o:HO}(e:H a=some o)(n:a ∉ φ):a ∉ φ':=fun z=>by rw [s.new a z n] at e; cases e
theorem Step0.trans {φ φ' φ'':List Addr}{H H' H'':Hp}(s:Step0 φ H φ' H')(t:Step0 φ' H' φ'' H''):Step0 φ H φ'' H'':=
 ⟨s.pre.trans t.pre,fun a o e n=>t.keep a o (s.keep a o e n) (s.out e n),fun a h n=>by
  by_cases z:a∈φ'
  ·exact s.new a z n
  ·cases e:H a with
   | none=>rfl
   | some o=>have:=t.new a h z; rw [s.keep a o e n] at this; cases this⟩
theorem Step.trans {φ φ' φ'':List Addr}{H H' H'':Hp}(s:Step φ H φ' H')(t:Step φ' H' φ'' H''):Step φ H φ'' H'':=⟨s.toStep0.trans t.toStep0,fun a o u e=>t.fr a o u (s.fr a o u e)⟩
theorem Step0.get {φ φ':List Addr}{H H':Hp}(s:Step0 φ H φ' H'){n:Nat}{a:Addr}(e:φ[n]? = some a):φ'[n]? = some a:=by
 obtain ⟨t,rfl⟩:=s.pre
 rw [List.getElem?_append_left (List.getElem?_eq_some_iff.mp e).1]
 exact e
theorem lstAt_cases {H:Hp}{p:Addr}{vs:List V}(h:lstAt H p=some vs):∃ o,H p=some o∧∀ H':Hp,H' p=some o→lstAt H' p=some vs:=by
 rcases lstAt_rd h with q | ⟨o,q⟩
 ·exact ⟨_,q,fun H' e=>lstAt_of e⟩
 ·exact ⟨_,q,fun H' e=>by unfold lstAt; rw [e]⟩
section
variable {T:CTb} {φ φ':List Addr} {H H':Hp}
mutual
theorem RW.step0 (s:Step0 φ H φ' H'):∀ {w:W} {v:V},RW T φ H w v→RW T φ' H' w v
 | .non,v,h=>by unfold RW at h ⊢; exact h
 | .bl b,v,h=>by unfold RW at h ⊢; exact h
 | .int i,v,h=>by unfold RW at h ⊢; exact h
 | .str x,v,h=>by unfold RW at h ⊢; exact h
 | .ty n,v,h=>by unfold RW at h ⊢; exact h
 | .cls c,v,h=>by unfold RW at h ⊢; exact h
 | .ref n,v,h=>by
  unfold RW at h ⊢
  obtain ⟨a,e,q⟩:=h
  exact ⟨a,s.get e,q⟩
 | .tup ws,v,h=>by
  unfold RW at h ⊢
  obtain ⟨p,vs,e,n,q,r⟩:=h
  exact ⟨p,vs,e,s.out q n,s.keep _ _ q n,RWs.step0 s r⟩
 | .tl ws,v,h=>by
  unfold RW at h ⊢
  obtain ⟨p,vs,e,n,q,r⟩:=h
  obtain ⟨o,ho,k⟩:=lstAt_cases q
  exact ⟨p,vs,e,s.out ho n,k _ (s.keep _ _ ho n),RWs.step0 s r⟩
 | .td ks ws,v,h=>by
  unfold RW at h ⊢
  obtain ⟨p,vs,e,n,q,l,r⟩:=h
  exact ⟨p,vs,e,s.out q n,s.keep _ _ q n,l,RWs.step0 s r⟩
 | .ti c fs ws,v,h=>by
  unfold RW at h ⊢
  obtain ⟨p,C,dx,vs,e,n,c,q,l,r⟩:=h
  exact ⟨p,C,dx,vs,e,s.out q n,c,s.keep _ _ q n,l,RWs.step0 s r⟩
 | .exc c fs ws,v,h=>by
  unfold RW at h ⊢
  obtain ⟨e,C,d,vs,q,n,c,x,l,m,r⟩:=h
  obtain ⟨xo,xc,x⟩:=x
  refine ⟨e,C,d,vs,q,s.out x n,c,⟨xo,xc,s.keep _ _ x n⟩,l,?_,RWs.step0 s r⟩
  cases d with
  | none=>exact m
  | some da=>exact ⟨s.out m.2 m.1,s.keep _ _ m.2 m.1⟩
theorem RWs.step0 (s:Step0 φ H φ' H'):∀ {ws:List W} {vs:List V},RWs T φ H ws vs→RWs T φ' H' ws vs
 | [],vs,h=>by unfold RWs at h ⊢; exact h
 | w::ws,vs,h=>by
  unfold RWs at h ⊢
  obtain ⟨v,r,e,a,b⟩:=h
  exact ⟨v,r,e,RW.step0 s a,RWs.step0 s b⟩
end
theorem RW.step (s:Step φ H φ' H'){w:W}{v:V}(h:RW T φ H w v):RW T φ' H' w v:=h.step0 s.toStep0
theorem RWs.step (s:Step φ H φ' H'){ws:List W}{vs:List V}(h:RWs T φ H ws vs):RWs T φ' H' ws vs:=h.step0 s.toStep0
theorem paired_step0 {κ:Type}(s:Step0 φ H φ' H'){ps:List (κ×W)}{qs:List (κ×V)}(h:RP T φ H ps qs):RP T φ' H' ps qs:=Paired.mapP h fun _ _ q=>⟨q.1,q.2.step0 s⟩
theorem RO.step0 (s:Step0 φ H φ' H'){o:O}{ho:HO}(h:RO T φ H o ho):RO T φ' H' o ho:=by
 cases o with
 | lst ws=>obtain ⟨vs,e,r⟩:=h; exact ⟨vs,e,r.step0 s⟩
 | dic kvs=>obtain ⟨kv,e,r⟩:=h; exact ⟨kv,e,paired_step0 s r⟩
 | ins c fs=>obtain ⟨C,dx,fv,e,c,r⟩:=h; exact ⟨C,dx,fv,e,c,paired_step0 s r⟩
 | fdic kvs=>obtain ⟨ob,kv,e,r⟩:=h; exact ⟨ob,kv,e,paired_step0 s r⟩
theorem RO.step (s:Step φ H φ' H'){o:O}{ho:HO}(h:RO T φ H o ho):RO T φ' H' o ho:=h.step0 s.toStep0
end
structure RH (T:CTb)(φ:List Addr)(h:Mem)(H:Hp):Prop where
 len:φ.length=h.length
 nd:φ.Nodup
 obj:∀ (n:Nat) o a,h[n]? = some o→φ[n]? = some a→∃ ho,H a=some ho∧RO T φ H o ho
structure RS (T:CTb)(φ:List Addr)(H:Hp)(ρ:Sg)(σ:St):Prop where
 len:ρ.length=σ.length
 var:∀ (i:Nat) w,ρ[i]? = some (some w)→∃ v,σ[i]? = some (some v)∧RW T φ H w v
section
variable {T:CTb} {φ φ':List Addr} {H H':Hp} {h:Mem} {ρ:Sg} {σ:St}
theorem RS.step (s:Step φ H φ' H')(r:RS T φ H ρ σ):RS T φ' H' ρ σ:=⟨r.len,fun i w e=>by
 obtain ⟨v,a,b⟩:=r.var i w e
 exact ⟨v,a,b.step s⟩⟩
theorem RS.set {i:Nat}{w:W}{v:V}(r:RS T φ H ρ σ)(q:RW T φ H w v):RS T φ H (ρ.set i (some w)) (σ.set i (some v)):=⟨by simp [r.len],fun j u e=>by
 rw [List.getElem?_set] at e ⊢
 split at e
 ·rename_i hij
  subst hij
  split at e
  ·rename_i hl
   rw [if_pos rfl,if_pos (by rw [← r.len]; exact hl)]
   cases e
   exact ⟨v,rfl,q⟩
  ·cases e
 ·rename_i hij
  rw [if_neg hij]
  exact r.var j u e⟩
theorem RH.at (r:RH T φ h H){n:Nat}{o:O}(e:h[n]? = some o):∃ a ho,φ[n]? = some a∧H a=some ho∧RO T φ H o ho:=by
 have hn:n<φ.length:=by rw [r.len]; exact (List.getElem?_eq_some_iff.mp e).1
 obtain ⟨ho,q,x⟩:=r.obj n o φ[n] e (by simp [hn])
 exact ⟨φ[n],ho,by simp [hn],q,x⟩
theorem RH.there (r:RH T φ h H){a:Addr}(m:a∈φ):∃ ho,H a=some ho:=by
 obtain ⟨n,hn,e⟩:=List.getElem_of_mem m
 have hl:n<h.length:=by rw [← r.len]; exact hn
 obtain ⟨ho,q,_⟩:=r.obj n h[n] a (by simp [hl]) (by simp [hn,e])
 exact ⟨ho,q⟩
theorem RH.fresh (r:RH T φ h H){p:Addr}(hp:H p=none):p ∉ φ:=fun m=>by
 obtain ⟨ho,q⟩:=r.there m
 rw [hp] at q; cases q
theorem step_tmp {p:Addr}{ho:HO}(hp:H p=none):Step φ H φ (upd H p ho):=⟨⟨List.prefix_refl _,fun a o e _=>by rw [upd_ne (ne_of_none e hp)]; exact e,fun _ m n=>absurd m n⟩,fun a o u e=>by rw [upd_ne (ne_of_none e hp)]; exact e⟩
theorem RH.stay (r:RH T φ h H)(s:Step φ H φ H')(k:∀ a∈φ,H' a=H a):RH T φ h H':=⟨r.len,r.nd,fun n o a e q=>by
 obtain ⟨ho,x,y⟩:=r.obj n o a e q
 exact ⟨ho,by rw [k a (List.mem_of_getElem? q)]; exact x,y.step s⟩⟩
theorem RH.tmp (r:RH T φ h H){p:Addr}{ho:HO}(hp:H p=none):RH T φ h (upd H p ho):=r.stay (step_tmp hp) fun a m=>upd_ne fun z=>by subst z; exact r.fresh hp m
theorem step_new {p:Addr}{ho:HO}(hp:H p=none):Step φ H (φ++[p]) (upd H p ho):=⟨⟨List.prefix_append _ _,fun a o e _=>by rw [upd_ne (ne_of_none e hp)]; exact e,fun a m n=>by
 rcases List.mem_append.mp m with m | m
 ·exact absurd m n
 ·have:a=p:=by simpa using m
  subst this; exact hp⟩,fun a o u e=>by rw [upd_ne (ne_of_none e hp)]; exact e⟩
theorem RH.new (r:RH T φ h H){p:Addr}{o:O}{ho:HO}(hp:H p=none)(x:RO T φ H o ho):RH T (φ++[p]) (h++[o]) (upd H p ho):=by
 have s:=step_new (φ:=φ) (ho:=ho) hp
 refine ⟨by simp [r.len],?_,fun n u a e q=>?_⟩
 ·rw [List.nodup_append]
  refine ⟨r.nd,by simp,fun a m b k z=>?_⟩
  have:b=p:=by simpa using k
  subst z this
  exact r.fresh hp m
 ·by_cases hn:n<h.length
  ·rw [List.getElem?_append_left hn] at e
   rw [List.getElem?_append_left (by rw [r.len]; exact hn)] at q
   obtain ⟨hu,y,z⟩:=r.obj n u a e q
   exact ⟨hu,by rw [upd_ne (fun z=>by subst z; exact r.fresh hp (List.mem_of_getElem? q))]; exact y,z.step s⟩
  ·have hn':h.length≤n:=Nat.le_of_not_lt hn
   rw [List.getElem?_append_right hn'] at e
   rw [List.getElem?_append_right (by rw [r.len]; exact hn'),r.len] at q
   have:n - h.length=0:=by
    have:=(List.getElem?_eq_some_iff.mp e).1
    simp at this; omega
   rw [this] at e q
   simp at e q
   subst e q
   exact ⟨ho,upd_same,x.step s⟩
theorem step_set0 {a:Addr}{ho:HO}(m:a∈φ):Step0 φ H φ (upd H a ho):=⟨List.prefix_refl _,fun b o e n=>by rw [upd_ne (fun z=>by subst z; exact n m)]; exact e,fun _ m n=>absurd m n⟩
def NoFrz (x:Option HO):Prop:=∀ o u,x≠some (.frz o u)
theorem nf_lst {xs:List V}{x:Option HO}(e:x=some (.lst xs)):NoFrz x:=fun o u z=>by rw [e] at z; cases z
theorem step_set {a:Addr}{ho:HO}(m:a∈φ)(nf:NoFrz (H a)):Step φ H φ (upd H a ho):=⟨step_set0 m,fun b o u e=>by
 by_cases z:b=a
 ·subst z; exact absurd e (nf o u)
 ·rw [upd_ne z]; exact e⟩
theorem RH.set (r:RH T φ h H){n:Nat}{a:Addr}{o:O}{ho:HO}(q:φ[n]? = some a)(x:RO T φ H o ho):RH T φ (h.set n o) (upd H a ho):=by
 have s:=step_set0 (H:=H) (ho:=ho) (List.mem_of_getElem? q)
 refine ⟨by simp [r.len],r.nd,fun k u b e q'=>?_⟩
 rw [List.getElem?_set] at e
 split at e
 ·rename_i hk
  subst hk
  rw [q] at q'
  cases q'
  split at e
  ·cases e
   exact ⟨ho,upd_same,x.step0 s⟩
  ·cases e
 ·rename_i hk
  obtain ⟨hu,y,z⟩:=r.obj k u b e q'
  refine ⟨hu,?_,z.step0 s⟩
  rw [upd_ne]
  ·exact y
  ·intro z
   subst z
   exact hk ((List.getElem?_inj (List.getElem?_eq_some_iff.mp q).1 r.nd).mp (q.trans q'.symm))
end
end M
namespace M
open PySem PySem.Spec PyProof.Rows L2
inductive Res where
 | ok (w:W) (h:Mem) | ex (w:W) (h:Mem) | no
inductive RsL where
 | ok (ws:List W) (h:Mem) | ex (w:W) (h:Mem) | no
abbrev Ex:=Sg→Mem→Res
abbrev Exs:=Sg→Mem→RsL
def Res.bind (r:Res)(k:W→Mem→Res):Res:=match r with
 | .ok w h=>k w h
 | .ex w h=>.ex w h
 | .no=>.no
def Res.of (o:Option W)(h:Mem):Res:=match o with
 | some w=>.ok w h
 | none=>.no
def Res.post (r:Res)(k:W→Mem→Prop)(e:W→Mem→Prop):Prop:=match r with
 | .ok w h=>k w h
 | .ex w h=>e w h
 | .no=>False
def RsL.post (r:RsL)(k:List W→Mem→Prop)(e:W→Mem→Prop):Prop:=match r with
 | .ok w h=>k w h
 | .ex w h=>e w h
 | .no=>False
theorem Res.post.mono {r:Res}{k k':W→Mem→Prop}{e:W→Mem→Prop}(h:r.post k e)(i:∀ w m,k w m→k' w m):r.post k' e:=by
 cases r <;> first | exact i _ _ h | exact h
structure Zc where
 T:CTb
 φ:List Addr
 H:Hp
 sg:St→Prop
 xw:W→Mem→Prop
structure Here (Z:Zc)(σ:St)(H:Hp)(φ:List Addr)(h:Mem)(ρ:Sg):Prop where
 sg:Z.sg σ
 st:Step Z.φ Z.H φ H
 rh:RH Z.T φ h H
 rs:RS Z.T φ H ρ σ
theorem Here.step {Z:Zc}{σ:St}{H H':Hp}{φ φ':List Addr}{h h':Mem}{ρ:Sg}(x:Here Z σ H φ h ρ)(s:Step φ H φ' H')(r:RH Z.T φ' h' H'):Here Z σ H' φ' h' ρ:=⟨x.sg,x.st.trans s,r,x.rs.step s⟩
def Kv (T:CTb)(φ:List Addr)(H:Hp)(Q:VK):W→Mem→Prop:=fun w h'=>∀ φ' H' v,Step φ H φ' H'→RH T φ' h' H'→RW T φ' H' w v→Q v H'
def Kvs (T:CTb)(φ:List Addr)(H:Hp)(Q:List V→Hp→Prop):List W→Mem→Prop:=fun ws h'=>∀ φ' H' vs,Step φ H φ' H'→RH T φ' h' H'→RWs T φ' H' ws vs→Q vs H'
theorem Kv.step {T:CTb}{φ φ':List Addr}{H H':Hp}{Q:VK}{w:W}{h:Mem}(k:Kv T φ H Q w h)(s:Step φ H φ' H'):Kv T φ' H' Q w h:=fun φ2 H2 v t r x=>k φ2 H2 v (s.trans t) r x
def tH (Z:Zc)(f:Ex):TE:=fun σ H Q=>∃ φ h ρ,Here Z σ H φ h ρ∧(f ρ h).post (Kv Z.T φ H Q) Z.xw
def tHA (Z:Zc)(f:Exs):TA:=fun σ H Q=>∃ φ h ρ,Here Z σ H φ h ρ∧(f ρ h).post (Kvs Z.T φ H Q) Z.xw
def tHT (Z:Zc)(f:Ex):TT:=fun σ H Q=>∃ φ h ρ,Here Z σ H φ h ρ∧(f ρ h).post (fun w h'=>∃ b,w=.bl b∧∀ φ' H',Step φ H φ' H'→RH Z.T φ' h' H'→Q b H') Z.xw
section
variable {X:Cx} {e a b c:Expr} {es:List Expr}
theorem _root_.L2.PE.imp {t t':TE}(h:PE X e t)(i:∀ σ H Q,t' σ H Q→t σ H Q):PE X e t':=fun pins s σ H Q I q=>h pins s σ H Q I (i σ H Q q)
theorem _root_.L2.PT.imp {t t':TT}(h:PT X e t)(i:∀ σ H Q,t' σ H Q→t σ H Q):PT X e t':=fun pins s σ H Q I q=>h pins s σ H Q I (i σ H Q q)
theorem _root_.L2.PA.imp {t t':TA}(h:PA X es t)(i:∀ σ H Q,t' σ H Q→t σ H Q):PA X es t':=fun pos pins s σ H Q I q=>h pos pins s σ H Q I (i σ H Q q)
end
def xVar (i:Nat):Ex:=fun ρ h=>match ρ[i]? with
 | some (some w)=>.ok w h
 | _=>.no
def xC (w:W):Ex:=fun _ h=>.ok w h
def xNil:Exs:=fun _ h=>.ok [] h
def xCons (f:Ex)(g:Exs):Exs:=fun ρ h=>match f ρ h with
 | .ok w h1=>(match g ρ h1 with
  | .ok ws h2=>.ok (w::ws) h2
  | r=>r)
 | .ex w h1=>.ex w h1
 | .no=>.no
def xBin (op:Mem→W→W→Option W)(f g:Ex):Ex:=fun ρ h=>(f ρ h).bind fun a h1=>(g ρ h1).bind fun b h2=>.of (op h2 a b) h2
def xUn (op:Mem→W→Option W)(f:Ex):Ex:=fun ρ h=>(f ρ h).bind fun a h1=>.of (op h1 a) h1
def xCb (op:Mem→List W→Option W)(f:Exs):Ex:=fun ρ h=>match f ρ h with
 | .ok ws h1=>.of (op h1 ws) h1
 | .ex w h1=>.ex w h1
 | .no=>.no
def xIf (c f g:Ex):Ex:=fun ρ h=>(c ρ h).bind fun w h1=>match w with
 | .bl true=>f ρ h1
 | .bl false=>g ρ h1
 | _=>.no
def xTup (f:Exs):Ex:=fun ρ h=>match f ρ h with
 | .ok ws h1=>if ws.length≤sizeLine then .ok (.tup ws) h1 else .no
 | .ex w h1=>.ex w h1
 | .no=>.no
def xLst (f:Exs):Ex:=fun ρ h=>match f ρ h with
 | .ok ws h1=>if ws.length≤sizeLine then .ok (.tl ws) h1 else .no
 | .ex w h1=>.ex w h1
 | .no=>.no
def OpW (T:CTb)(op:Mem→W→W→Option W)(r:R2):Prop:=∀ φ h H a b u v w Q,RH T φ h H→RW T φ H a u→RW T φ H b v→op h a b=some w→(∀ H' x,Step φ H φ H'→RH T φ h H'→RW T φ H' w x→Q x H')→r u v H Q
def UnW (T:CTb)(op:Mem→W→Option W)(r:V→Hp→VK→Prop):Prop:=∀ φ h H a u w Q,RH T φ h H→RW T φ H a u→op h a=some w→(∀ H' x,Step φ H φ H'→RH T φ h H'→RW T φ H' w x→Q x H')→r u H Q
def CbW (T:CTb)(op:Mem→List W→Option W)(r:List V→Hp→VK→Prop):Prop:=∀ φ h H ws vs w Q,RH T φ h H→RWs T φ H ws vs→op h ws=some w→(∀ H' x,Step φ H φ H'→RH T φ h H'→RW T φ H' w x→Q x H')→r vs H Q
def BmW (T:CTb)(op:Mem→W→List W→Option W)(r:V→List V→Hp→VK→Prop):Prop:=∀ φ h H a u ws vs w Q,RH T φ h H→RW T φ H a u→RWs T φ H ws vs→op h a ws=some w→(∀ H' x,Step φ H φ H'→RH T φ h H'→RW T φ H' w x→Q x H')→r u vs H Q
section
variable {X:Cx} {Z:Zc} {f g k:Ex} {fa:Exs} {e a b c:Expr} {es rest:List Expr} {pos:Pos}
theorem bindP {r:Res}{k:W→Mem→Res}{K:W→Mem→Prop}{E:W→Mem→Prop}:(r.bind k).post K E↔r.post (fun w h=>(k w h).post K E) E:=by cases r <;> rfl
theorem ofP {o:Option W}{h:Mem}{K:W→Mem→Prop}{E:W→Mem→Prop}(q:(Res.of o h).post K E):∃ w,o=some w∧K w h:=by
 cases o with
 | none=>exact q.elim
 | some w=>exact ⟨w,rfl,q⟩
theorem Kv.end {T:CTb}{φ:List Addr}{H:Hp}{Q:VK}{w:W}{h:Mem}(k:Kv T φ H Q w h):∀ H' x,Step φ H φ H'→RH T φ h H'→RW T φ H' w x→Q x H':=fun H' x s r y=>k φ H' x s r y
theorem ph_var (i:Nat)(h:PE X e (tVar i)):PE X e (tH Z (xVar i)):=h.imp fun σ H Q ⟨φ,m,ρ,x,q⟩=>by
 unfold xVar at q
 split at q
 ·rename_i w e
  obtain ⟨v,hv,r⟩:=x.rs.var i w e
  exact ⟨v,hv,q φ H v (Step.refl _ _) x.rh r⟩
 ·exact q.elim
theorem ph_c {w:W}{v:V}(h:PE X e (tC v))(r:∀ φ H,RW Z.T φ H w v):PE X e (tH Z (xC w)):=h.imp fun σ H Q ⟨φ,m,ρ,x,q⟩=>q φ H v (Step.refl _ _) x.rh (r φ H)
theorem ph_int {i j pos}:PE X (.Constant (.int i) j pos) (tH Z (xC (.int i))):=ph_c pe_int fun _ _=>by unfold RW; rfl
theorem ph_bl {b j pos}:PE X (.Constant (.bool b) j pos) (tH Z (xC (.bl b))):=ph_c pe_bl fun _ _=>by unfold RW; rfl
theorem ph_non {j pos}:PE X (.Constant .none j pos) (tH Z (xC .non)):=ph_c pe_non fun _ _=>by unfold RW; rfl
theorem ph_str {x j pos}:PE X (.Constant (.str x) j pos) (tH Z (xC (.str x))):=ph_c pe_str fun _ _=>by unfold RW; rfl
theorem two {σ:St}{H:Hp}{φ:List Addr}{h:Mem}{ρ:Sg}{k:W→W→Mem→Res}{Q:VK}(x:Here Z σ H φ h ρ)(q:((f ρ h).bind fun a h1=>(g ρ h1).bind fun b h2=>k a b h2).post (Kv Z.T φ H Q) Z.xw)
  {R:V→V→Hp→Prop} (i:∀ φ2 H2 h2 u v a b,Step φ H φ2 H2→Here Z σ H2 φ2 h2 ρ→RW Z.T φ2 H2 a u→RW Z.T φ2 H2 b v→(k a b h2).post (Kv Z.T φ2 H2 Q) Z.xw→R u v H2) :
  tH Z f σ H fun u H1=>tH Z g σ H1 fun v H2=>R u v H2:=by
 refine ⟨φ,h,ρ,x,?_⟩
 rw [bindP] at q
 refine q.mono fun a h1 q1=>fun φ1 H1 u s1 r1 ra=>?_
 refine ⟨φ1,h1,ρ,x.step s1 r1,?_⟩
 rw [bindP] at q1
 refine q1.mono fun b h2 q2=>fun φ2 H2 v s2 r2 rb=>?_
 exact i φ2 H2 h2 u v a b (s1.trans s2) ((x.step s1 r1).step s2 r2) (ra.step s2) rb (q2.mono fun w m k=>k.step (s1.trans s2))
theorem ph_bin {op:Operator}{o:Mem→W→W→Option W}{r:R2}(ho:OpR X (binaryOp op) r)(hw:OpW Z.T o r)(ha:PE X a (tH Z f))(hb:PE X b (tH Z g)):PE X (.BinOp a op b pos) (tH Z (xBin o f g)):=
 (pe_op ho ha hb).imp fun σ H Q ⟨φ,m,ρ,x,q⟩=>two x q fun φ2 H2 h2 u v a b s y ra rb q2=>by
  obtain ⟨w,e,k⟩:=ofP q2
  exact hw φ2 h2 H2 a b u v w Q y.rh ra rb e k.end
theorem ph_cmp {op:CmpOp}{o:Mem→W→W→Option W}{r:R2}(ho:OpR X (compareOp op) r)(hw:OpW Z.T o r)(ha:PE X a (tH Z f))(hb:PE X b (tH Z g))(hm:behindInMarks op b=false):PE X (.Compare a [op] [b] pos) (tH Z (xBin o f g)):=
 (pe_cmpR ho ha hb hm).imp fun σ H Q ⟨φ,m,ρ,x,q⟩=>two x q fun φ2 H2 h2 u v a b s y ra rb q2=>by
  obtain ⟨w,e,k⟩:=ofP q2
  exact hw φ2 h2 H2 a b u v w Q y.rh ra rb e k.end
theorem ph_ix {o:Mem→W→W→Option W}{r:R2}(ho:IxR X r)(hw:OpW Z.T o r)(ha:PE X a (tH Z f))(hb:PE X b (tH Z g))(hs:PlainIx b):PE X (.Subscript a b pos) (tH Z (xBin o f g)):=
 (pe_ix ho ha hb hs).imp fun σ H Q ⟨φ,m,ρ,x,q⟩=>two x q fun φ2 H2 h2 u v a b s y ra rb q2=>by
  obtain ⟨w,e,k⟩:=ofP q2
  exact hw φ2 h2 H2 a b u v w Q y.rh ra rb e k.end
theorem ph_un {op:UnaryOp}{o:Mem→W→Option W}{r:V→Hp→VK→Prop}(ho:UnR X (unaryOp op) r)(hw:UnW Z.T o r)(ha:PE X a (tH Z f)):PE X (.UnaryOp op a pos) (tH Z (xUn o f)):=
 (pe_un ho ha).imp fun σ H Q ⟨φ,m,ρ,x,q⟩=>⟨φ,m,ρ,x,by
  unfold xUn at q
  rw [bindP] at q
  refine q.mono fun a h1 q1=>fun φ1 H1 u s1 r1 ra=>?_
  obtain ⟨w,e,k⟩:=ofP q1
  exact hw φ1 h1 H1 a u w Q r1 ra e (k.step s1).end⟩
theorem bl_rw {T:CTb}{φ:List Addr}{H:Hp}{v:V}{c:Bool}(h:RW T φ H (.bl c) v):v=.bl c:=by unfold RW at h; exact h
theorem tHT_B {σ:St}{H:Hp}{Q:Bool→Hp→Prop}(h:tHT Z f σ H Q):tB (tH Z f) σ H Q:=by
 obtain ⟨φ,m,ρ,x,q⟩:=h
 refine ⟨φ,m,ρ,x,q.mono ?_⟩
 rintro w h1 ⟨b,rfl,k⟩ φ1 H1 v s1 r1 rw1
 exact ⟨b,bl_rw rw1,k φ1 H1 s1 r1⟩
theorem pth_val (h:PE X e (tH Z f))(he:∀ whole,isTrue e X.env whole=(do let v ← whole; standAt e.pos; holding [v] (truthy v)):=by intro _; rfl):PT X e (tHT Z f):=(pt_val h he).imp fun σ H Q q=>tHT_B q
theorem pth_cmp {op:CmpOp}{o:Mem→W→W→Option W}{r:R2}(ho:OpR X (compareOp op) r)(hw:OpW Z.T o r)(ha:PE X a (tH Z f))(hb:PE X b (tH Z g))(hm:behindInMarks op b=false):PT X (.Compare a [op] [b] pos) (tHT Z (xBin o f g)):=
 (pt_cmpR ho ha hb hm).imp fun σ H Q ⟨φ,m,ρ,x,q⟩=>by
  have q':(xBin o f g ρ m).post (Kv Z.T φ H fun v H'=>∃ k,v=.bl k∧Q k H') Z.xw:=q.mono (by
   rintro w h1 ⟨b,rfl,k⟩ φ1 H1 v s1 r1 rw1
   exact ⟨b,bl_rw rw1,k φ1 H1 s1 r1⟩)
  exact two x q' fun φ2 H2 h2 u v a b s y ra rb q2=>by
   obtain ⟨w,e,k⟩:=ofP q2
   exact hw φ2 h2 H2 a b u v w _ y.rh ra rb e k.end
theorem ph_one {op}(h:PE X a (tH Z f)):PE X (.BoolOp op [a] pos) (tH Z f):=pe_one h
theorem ph_if (hc:PT X c (tHT Z k))(ha:PE X a (tH Z f))(hb:PE X b (tH Z g)):PE X (.IfExp c a b pos) (tH Z (xIf k f g)):=
 (pe_ifExp hc ha hb).imp fun σ H Q ⟨φ,m,ρ,x,q⟩=>⟨φ,m,ρ,x,by
  unfold xIf at q
  rw [bindP] at q
  refine q.mono fun w h1 q1=>?_
  split at q1
  ·exact ⟨true,rfl,fun φ1 H1 s1 r1=>iteT (⟨φ1,h1,ρ,x.step s1 r1,q1.mono fun w h2 k=>k.step s1⟩)⟩
  ·exact ⟨false,rfl,fun φ1 H1 s1 r1=>iteF (⟨φ1,h1,ρ,x.step s1 r1,q1.mono fun w h2 k=>k.step s1⟩)⟩
  ·exact q1.elim⟩
theorem pah_nil:PA X [] (tHA Z xNil):=pa_nil.imp fun σ H Q ⟨φ,m,ρ,x,q⟩=>q φ H [] (Step.refl _ _) x.rh (by unfold RWs; rfl)
theorem pah_cons (ha:PE X e (tH Z f))(hr:PA X es (tHA Z fa))(hs:starEach (e::es) X.env=(false,eval e X.env)::starEach es X.env:=by rfl):PA X (e::es) (tHA Z (xCons f fa)):=
 (pa_cons ha hr hs).imp fun σ H Q ⟨φ,m,ρ,x,q⟩=>⟨φ,m,ρ,x,by
  unfold xCons at q
  cases e1:f ρ m with
  | no=>rw [e1] at q; exact q.elim
  | ex w h1=>rw [e1] at q; exact q
  | ok w h1=>
   rw [e1] at q
   intro φ1 H1 v s1 r1 rw1
   refine ⟨φ1,h1,ρ,x.step s1 r1,?_⟩
   simp only at q
   cases e2:fa ρ h1 with
   | no=>rw [e2] at q; exact q.elim
   | ex w2 h2=>rw [e2] at q; exact q
   | ok ws h2=>
    rw [e2] at q
    intro φ2 H2 vs s2 r2 rw2
    refine q φ2 H2 (v::vs) (s1.trans s2) r2 ?_
    unfold RWs
    exact ⟨v,vs,rfl,rw1.step s2,rw2⟩⟩
theorem RWs.length {T:CTb}{φ:List Addr}{H:Hp}:∀ {ws:List W} {vs:List V},RWs T φ H ws vs→ws.length=vs.length
 | [],vs,h=>by unfold RWs at h; subst h; rfl
 | w::ws,vs,h=>by
  unfold RWs at h
  obtain ⟨v,r,rfl,_,h⟩:=h
  simp [RWs.length h]
theorem ph_tup {x1}(h:PA X es (tHA Z fa)):PE X (.Tuple es x1 pos) (tH Z (xTup fa)):=
 (pe_tup h).imp fun σ H Q ⟨φ,m,ρ,x,q⟩=>⟨φ,m,ρ,x,by
  unfold xTup at q
  cases e1:fa ρ m with
  | no=>rw [e1] at q; exact q.elim
  | ex w h1=>rw [e1] at q; exact q
  | ok ws h1=>
   rw [e1] at q
   simp only at q
   split at q
   ·rename_i hz
    intro φ1 H1 vs s1 r1 rw1
    refine ⟨by rw [← rw1.length]; exact hz,fun p hp=>?_⟩
    have s2:=step_tmp (φ:=φ1) (ho:=.tup vs) hp
    refine q φ1 _ _ (s1.trans s2) (r1.tmp hp) ?_
    unfold RW
    exact ⟨p,vs,rfl,r1.fresh hp,upd_same,rw1.step s2⟩
   ·exact q.elim⟩
theorem ph_lst (h:PA X es (tHA Z fa)):PE X (.List es pos) (tH Z (xLst fa)):=
 (pe_lst h).imp fun σ H Q ⟨φ,m,ρ,x,q⟩=>⟨φ,m,ρ,x,by
  unfold xLst at q
  cases e1:fa ρ m with
  | no=>rw [e1] at q; exact q.elim
  | ex w h1=>rw [e1] at q; exact q
  | ok ws h1=>
   rw [e1] at q
   simp only at q
   split at q
   ·rename_i hz
    intro φ1 H1 vs s1 r1 rw1
    refine ⟨by rw [← rw1.length]; exact hz,fun p hp=>?_⟩
    have s2:=step_tmp (φ:=φ1) (ho:=.lst vs) hp
    refine q φ1 _ _ (s1.trans s2) (r1.tmp hp) ?_
    unfold RW
    exact ⟨p,vs,rfl,r1.fresh hp,lstAt_upd_l,rw1.step s2⟩
   ·exact q.elim⟩
theorem ph_cb {r:List V→Hp→VK→Prop}{o:Mem→List W→Option W}(hw:CbW Z.T o r)(h:∀ {t:TA},PA X es t→PE X e (tCB r t))(ha:PA X es (tHA Z fa)):PE X e (tH Z (xCb o fa)):=
 (h ha).imp fun σ H Q ⟨φ,m,ρ,x,q⟩=>⟨φ,m,ρ,x,by
  unfold xCb at q
  cases e1:fa ρ m with
  | no=>rw [e1] at q; exact q.elim
  | ex w h1=>rw [e1] at q; exact q
  | ok ws h1=>
   rw [e1] at q
   intro φ1 H1 vs s1 r1 rw1
   obtain ⟨w,e,k⟩:=ofP q
   exact hw φ1 h1 H1 ws vs w Q r1 rw1 e (k.step s1).end⟩
end
end M
namespace M
open PySem PySem.Spec PyProof.Rows L2
inductive Out where
 | nx (ρ:Sg) (h:Mem) | rt (w:W) (h:Mem) | bk (ρ:Sg) (h:Mem) | ct (ρ:Sg) (h:Mem) | ex (w:W) (h:Mem) | no
abbrev Sm:=Sg→Mem→Out
def Ks (Z:Zc)(φ:List Addr)(H:Hp)(n:St→Hp→Prop):Sg→Mem→Prop:=fun ρ' h'=>∀ φ' H' σ',Step φ H φ' H'→RH Z.T φ' h' H'→RS Z.T φ' H' ρ' σ'→Z.sg σ'→n σ' H'
def Out.post (Z:Zc)(φ:List Addr)(H:Hp)(D:Ends):Out→Prop
 | .nx ρ h=>Ks Z φ H D.nx ρ h
 | .rt w h=>Kv Z.T φ H D.rt w h
 | .bk ρ h=>Ks Z φ H D.bk ρ h
 | .ct ρ h=>Ks Z φ H D.ct ρ h
 | .ex w h=>Z.xw w h
 | .no=>False
theorem Ks.step {Z:Zc}{φ φ':List Addr}{H H':Hp}{n:St→Hp→Prop}{ρ:Sg}{h:Mem}(k:Ks Z φ H n ρ h)(s:Step φ H φ' H'):Ks Z φ' H' n ρ h:=fun φ2 H2 σ t r x g=>k φ2 H2 σ (s.trans t) r x g
theorem post_step {Z:Zc}{φ φ':List Addr}{H H':Hp}{D:Ends}{o:Out}(k:o.post Z φ H D)(s:Step φ H φ' H'):o.post Z φ' H' D:=by
 cases o with
 | nx ρ h=>exact Ks.step k s
 | rt w h=>exact Kv.step k s
 | bk ρ h=>exact Ks.step k s
 | ct ρ h=>exact Ks.step k s
 | ex w h=>exact k
 | no=>exact k
def tHS (Z:Zc)(F:Sm):TS:=fun D σ H=>∃ φ h ρ,Here Z σ H φ h ρ∧(F ρ h).post Z φ H D
def xNext:Sm:=fun ρ h=>.nx ρ h
def xSeq (F G:Sm):Sm:=fun ρ h=>match F ρ h with
 | .nx ρ' h'=>G ρ' h'
 | o=>o
def xIfS (c:Ex)(F G:Sm):Sm:=fun ρ h=>match c ρ h with
 | .ok (.bl true) h'=>F ρ h'
 | .ok (.bl false) h'=>G ρ h'
 | .ex w h'=>.ex w h'
 | _=>.no
def xRet (f:Ex):Sm:=fun ρ h=>match f ρ h with
 | .ok w h'=>.rt w h'
 | .ex w h'=>.ex w h'
 | .no=>.no
def xDrop (f:Ex):Sm:=fun ρ h=>match f ρ h with
 | .ok _ h'=>.nx ρ h'
 | .ex w h'=>.ex w h'
 | .no=>.no
abbrev Tg:=W→Sg→Option Sg
def gN (i:Nat):Tg:=fun w ρ=>some (ρ.set i (some w))
def TgW (Z:Zc)(g:TG)(G:Tg):Prop:=∀ σ H φ h ρ w v ρ' Q,Here Z σ H φ h ρ→RW Z.T φ H w v→G w ρ=some ρ'→(∀ σ',RS Z.T φ H ρ' σ'→Z.sg σ'→Q σ' H)→g v σ H Q
theorem tg_name {Z:Zc}{i:Nat}(hsg:∀ σ v,Z.sg σ→Z.sg (σ.set i (some v))):TgW Z (gName i) (gN i):=fun σ H φ h ρ w v ρ' Q x r e k=>by
 cases e
 exact k _ (x.rs.set r) (hsg _ _ x.sg)
def xAsg (G:Tg)(f:Ex):Sm:=fun ρ h=>match f ρ h with
 | .ok w h'=>(match G w ρ with
  | some ρ'=>.nx ρ' h'
  | none=>.no)
 | .ex w h'=>.ex w h'
 | .no=>.no
def xLoop (G:Tg)(B:Sm):List W→Sm
 | [],ρ,h=>.nx ρ h
 | w::r,ρ,h=>match G w ρ with
  | none=>.no
  | some ρ1=>(match B ρ1 h with
   | .nx ρ' h'=>xLoop G B r ρ' h'
   | .ct ρ' h'=>xLoop G B r ρ' h'
   | .bk ρ' h'=>.nx ρ' h'
   | o=>o)
inductive RsI where
 | ok (src:Option Nat) (ws:List W) (h:Mem) | ex (w:W) (h:Mem) | no
abbrev Ei:=Sg→Mem→RsI
def srcP (src:Option Nat)(ws:List W)(h:Mem):Prop:=match src with
 | none=>True
 | some n=>h[n]? = some (.lst ws)
structure ItOk (T:CTb)(φ:List Addr)(H:Hp)(J:It)(ws:List W)(P:Mem→Prop):Prop where
 go:∀ φ2 H2 h2 (i:Nat) w,Step φ H φ2 H2→RH T φ2 h2 H2→P h2→ws[i]? = some w→J.go i H2
 yld:∀ φ2 H2 h2 (i:Nat) w x H',Step φ H φ2 H2→RH T φ2 h2 H2→P h2→ws[i]? = some w→J.yld i H2 x H'→H'=H2∧RW T φ2 H2 w x
 stop:∀ φ2 H2 h2,Step φ H φ2 H2→RH T φ2 h2 H2→P h2→J.stop ws.length H2
def tHI (Z:Zc)(f:Ei):TI:=fun σ H R=>∃ φ h ρ,Here Z σ H φ h ρ∧match f ρ h with
 | .ok src ws h'=>∀ φ' H' J,Step φ H φ' H'→RH Z.T φ' h' H'→srcP src ws h'→ItOk Z.T φ' H' J ws (srcP src ws)→R J H'
 | .ex w h'=>Z.xw w h'
 | .no=>False
def xFor (f:Ei)(G:Tg)(B:Sm):Sm:=fun ρ h=>match f ρ h with
 | .ok none ws h'=>xLoop G B ws ρ h'
 | .ex w h'=>.ex w h'
 | _=>.no
section
variable {X:Cx} {Z:Zc} {f g k:Ex} {fa:Exs} {e a b c:Expr} {es:List Expr} {pos:Pos} {F G B:Sm} {st:Stmt} {rest sts body:List Stmt} {fi:Ei} {tg iter:Expr}
theorem _root_.L2.PS.imp {t t':TS}(h:PS X st t)(i:∀ D σ H,t' D σ H→t D σ H):PS X st t':=fun pins s σ H D I q=>h pins s σ H D I (i D σ H q)
theorem _root_.L2.PSs.imp {t t':TS}(h:PSs X sts t)(i:∀ D σ H,t' D σ H→t D σ H):PSs X sts t':=fun pins s σ H D I q=>h pins s σ H D I (i D σ H q)
theorem _root_.L2.PI.imp {t t':TI}(h:PI X tg iter t)(i:∀ σ H R,t' σ H R→t σ H R):PI X tg iter t':=fun pins s σ H R I q=>h pins s σ H R I (i σ H R q)
theorem Here.nx {σ:St}{H:Hp}{φ:List Addr}{h:Mem}{ρ:Sg}{n:St→Hp→Prop}(x:Here Z σ H φ h ρ)(q:Ks Z φ H n ρ h):n σ H:=q φ H σ (Step.refl _ _) x.rh x.rs x.sg
theorem pssh_nil:PSs X [] (tHS Z xNext):=pss_nil.imp fun D σ H ⟨φ,h,ρ,x,q⟩=>x.nx q
theorem seq_ok {D:Ends}{σ:St}{H:Hp}(h:tHS Z (xSeq F G) D σ H):tSeq (tHS Z F) (tHS Z G) D σ H:=by
 obtain ⟨φ,h,ρ,x,q⟩:=h
 refine ⟨φ,h,ρ,x,?_⟩
 unfold xSeq at q
 cases e:F ρ h with
 | nx ρ' h'=>
  rw [e] at q
  intro φ1 H1 σ1 s1 r1 rs1 g1
  exact ⟨φ1,h',ρ',⟨g1,x.st.trans s1,r1,rs1⟩,post_step q s1⟩
 | rt w h'=>rw [e] at q; exact q
 | bk ρ' h'=>rw [e] at q; exact q
 | ct ρ' h'=>rw [e] at q; exact q
 | ex w h'=>rw [e] at q; exact q
 | no=>rw [e] at q; exact q
theorem pssh_cons (h1:PS X st (tHS Z F))(h2:PSs X rest (tHS Z G)):PSs X (st::rest) (tHS Z (xSeq F G)):=(pss_cons h1 h2).imp fun D σ H q=>seq_ok q
theorem pssh_one (h1:PS X st (tHS Z F)):PSs X [st] (tHS Z F):=pss_one h1
theorem psh_ret (he:PE X e (tH Z f)):PS X (.Return (some e) pos) (tHS Z (xRet f)):=(ps_ret he).imp fun D σ H ⟨φ,h,ρ,x,q⟩=>⟨φ,h,ρ,x,by
 unfold xRet at q
 cases e:f ρ h with
 | ok w h'=>rw [e] at q; exact q
 | ex w h'=>rw [e] at q; exact q
 | no=>rw [e] at q; exact q⟩
theorem psh_expr (he:PE X e (tH Z f))(hs:swapsWith e none pos.line X.env=pure false:=by rfl):PS X (.Expr e pos) (tHS Z (xDrop f)):=(ps_expr he hs).imp fun D σ H ⟨φ,h,ρ,x,q⟩=>⟨φ,h,ρ,x,by
 unfold xDrop at q
 cases e:f ρ h with
 | ok w h'=>rw [e] at q; exact fun φ1 H1 v s1 r1 _=>q φ1 H1 σ s1 r1 (x.rs.step s1) x.sg
 | ex w h'=>rw [e] at q; exact q
 | no=>rw [e] at q; exact q⟩
theorem psh_if (hc:PT X c (tHT Z f))(ha:PSs X sts (tHS Z F))(hb:PSs X rest (tHS Z G)):PS X (.If c sts rest pos) (tHS Z (xIfS f F G)):=(ps_if hc ha hb).imp fun D σ H ⟨φ,h,ρ,x,q⟩=>⟨φ,h,ρ,x,by
 unfold xIfS at q
 cases e:f ρ h with
 | ok w h'=>
  rw [e] at q
  cases w with
  | bl b=>
   cases b with
   | true=>exact ⟨true,rfl,fun φ1 H1 s1 r1=>iteT ⟨φ1,h',ρ,x.step s1 r1,post_step q s1⟩⟩
   | false=>exact ⟨false,rfl,fun φ1 H1 s1 r1=>iteF ⟨φ1,h',ρ,x.step s1 r1,post_step q s1⟩⟩
  | _=>exact q.elim
 | ex w h'=>rw [e] at q; exact q
 | no=>rw [e] at q; exact q⟩
theorem asg_ok {gg:TG}{Gt:Tg}(hw:TgW Z gg Gt){D:Ends}{σ:St}{H:Hp}(h:tHS Z (xAsg Gt f) D σ H):tAsg (tH Z f) gg D σ H:=by
 obtain ⟨φ,h,ρ,x,q⟩:=h
 refine ⟨φ,h,ρ,x,?_⟩
 unfold xAsg at q
 cases e:f ρ h with
 | ok w h'=>
  rw [e] at q
  intro φ1 H1 v s1 r1 rw1
  simp only at q
  cases e2:Gt w ρ with
  | none=>rw [e2] at q; exact q.elim
  | some ρ'=>
   rw [e2] at q
   exact hw σ H1 φ1 h' ρ w v ρ' _ (x.step s1 r1) rw1 e2 fun σ' rs g=>q φ1 H1 σ' s1 r1 rs g
 | ex w h'=>rw [e] at q; exact q
 | no=>rw [e] at q; exact q
theorem psh_set {i:Nat}{x:Str}{pos':Pos}(hN:X.N.Nodup)(hi:X.N[i]? = some x)(hx:Loc X.env.scope x)(hsg:∀ σ v,Z.sg σ→Z.sg (σ.set i (some v)))(he:PE X e (tH Z f))(hs:swapsWith e (some (.Name x pos')) pos.line X.env=pure false:=by rfl)
  (hf:X.fn x=true∨X.env.scope.names.lookup x=some .local:=by first | exact .inl rfl | exact .inr rfl | assumption):PS X (.Assign [.Name x pos'] e pos) (tHS Z (xAsg (gN i) f)):=(ps_set hN hi hx he hs hf).imp fun D σ H q=>asg_ok (tg_name hsg) q
theorem loop_ok {gg:TG}{Gt:Tg}(hw:TgW Z gg Gt){J:It}{D:Ends}{ws:List W}{φ1:List Addr}{H1:Hp}{h1:Mem}{σ:St}{ρ:Sg}(x:Here Z σ H1 φ1 h1 ρ)(it:ItOk Z.T φ1 H1 J ws fun _=>True)(q:(xLoop Gt B ws ρ h1).post Z φ1 H1 D) :
  ∃ Wd:Nat→Nat→St→Hp→Prop,(∃ m,Wd 0 m σ H1)∧∀ i m σ H,Wd i m σ H→(J.stop i H∧D.nx σ H)∨(J.go i H∧∃ N:St→Hp→Prop,(∀ σ' H',N σ' H'→∃ m',m'<m∧Wd (i+1) m' σ' H') ∧
   ∀ v H',J.yld i H v H'→gg v σ H' fun σ2 H2=>tHS Z B { D with nx:=N,ct:=N,bk:=D.nx } σ2 H2):=by
 refine ⟨fun i m σ H=>m=ws.length - i∧i≤ws.length∧∃ φ h ρ,Step φ1 H1 φ H∧Here Z σ H φ h ρ∧(xLoop Gt B (ws.drop i) ρ h).post Z φ H D,⟨ws.length,by simp,Nat.zero_le _,φ1,h1,ρ,Step.refl _ _,x,q⟩,?_⟩
 rintro i m σ H ⟨rfl,hi,φ,h,ρ,s,y,q⟩
 by_cases hlt:i<ws.length
 ·have ed:ws.drop i=ws[i]::ws.drop (i+1):=List.drop_eq_getElem_cons hlt
  have ei:ws[i]? = some ws[i]:=by simp [hlt]
  refine .inr ⟨it.go φ H h i _ s y.rh trivial ei,fun σ' H'=>i+1≤ws.length∧∃ φ h ρ,Step φ1 H1 φ H'∧Here Z σ' H' φ h ρ∧(xLoop Gt B (ws.drop (i+1)) ρ h).post Z φ H' D,fun σ' H' p=>⟨ws.length - (i+1),by omega,rfl,p⟩,fun v H' yl=>?_⟩
  obtain ⟨rfl,rw1⟩:=it.yld φ H h i _ v H' s y.rh trivial ei yl
  rw [ed] at q
  unfold xLoop at q
  cases e2:Gt ws[i] ρ with
  | none=>rw [e2] at q; exact q.elim
  | some ρ'=>
   rw [e2] at q
   simp only at q
   refine hw σ H' φ h ρ _ v ρ' _ y rw1 e2 fun σ' rs g=>⟨φ,h,ρ',⟨g,y.st,y.rh,rs⟩,?_⟩
   cases e3:B ρ' h with
   | nx ρ2 h2=>
    rw [e3] at q
    exact fun φ2 H2 σ2 s2 r2 rs2 g2=>⟨hlt,φ2,h2,ρ2,s.trans s2,⟨g2,y.st.trans s2,r2,rs2⟩,post_step q s2⟩
   | ct ρ2 h2=>
    rw [e3] at q
    exact fun φ2 H2 σ2 s2 r2 rs2 g2=>⟨hlt,φ2,h2,ρ2,s.trans s2,⟨g2,y.st.trans s2,r2,rs2⟩,post_step q s2⟩
   | bk ρ2 h2=>rw [e3] at q; exact q
   | rt w2 h2=>rw [e3] at q; exact q
   | ex w2 h2=>rw [e3] at q; exact q
   | no=>rw [e3] at q; exact q.elim
 ·have e:i=ws.length:=by omega
  subst e
  rw [List.drop_length] at q
  exact .inl ⟨it.stop φ H h s y.rh trivial,y.nx q⟩
theorem for_ok {gg:TG}{Gt:Tg}(hw:TgW Z gg Gt){D:Ends}{σ:St}{H:Hp}(h:tHS Z (xFor fi Gt B) D σ H):tFor (tHI Z fi) gg (tHS Z B) D σ H:=by
 obtain ⟨φ,h,ρ,x,q⟩:=h
 refine ⟨φ,h,ρ,x,?_⟩
 unfold xFor at q
 cases e:fi ρ h with
 | no=>rw [e] at q; exact q.elim
 | ex w h'=>rw [e] at q; exact q
 | ok src ws h'=>
  rw [e] at q
  cases src with
  | some n=>exact q.elim
  | none=>exact fun φ1 H1 J s1 r1 _ it=>loop_ok hw (x.step s1 r1) it (post_step q s1)
theorem psh_for {gg:TG}{Gt:Tg}(hw:TgW Z gg Gt)(hp:PassesOwn (model X.prog X.w) X.A X.env X.xe)(hc:X.calm=X.calm)(hi:PI X tg iter (tHI Z fi))(hg:PG X tg gg)(hb:PSs X body (tHS Z B))(hs:∀ x,foldedSetIterable iter X.env x=pure x:=by intro _; rfl) :
  PS X (.For tg iter body [] pos) (tHS Z (xFor fi Gt B)):=(ps_for hp hc hi hg hb hs).imp fun D σ H q=>for_ok hw q
def xIl (f:Ex):Ei:=fun ρ h=>match f ρ h with
 | .ok (.tl ws) h'=>.ok none ws h'
 | .ok (.ref n) h'=>(match h'[n]? with
  | some (.lst ws)=>.ok (some n) ws h'
  | _=>.no)
 | .ex w h'=>.ex w h'
 | _=>.no
theorem rws_get {T:CTb}{φ:List Addr}{H:Hp}:∀ {ws:List W} {vs:List V} {i:Nat} {w:W},RWs T φ H ws vs→ws[i]? = some w→∃ v,vs[i]? = some v∧RW T φ H w v
 | [],_,_,_,_,e=>by simp at e
 | w::ws,vs,i,u,h,e=>by
  unfold RWs at h
  obtain ⟨v,r,rfl,a,b⟩:=h
  cases i with
  | zero=>simp at e; subst e; exact ⟨v,by simp,a⟩
  | succ i=>
   obtain ⟨x,p,q⟩:=rws_get (i:=i) b (by simpa using e)
   exact ⟨x,by simpa using p,q⟩
theorem phi_list (h:PE X iter (tH Z f)):PI X tg iter (tHI Z (xIl f)):=by
 intro pins s σ H R I q
 have base:∀ b o,X.base.get? b=some o→H b=none:=fun b o e=>(I.bs b o e).2
 refine pi_list h pins s σ H R I ?_
 obtain ⟨φ,m,ρ,x,q⟩:=q
 refine ⟨φ,m,ρ,x,?_⟩
 unfold xIl at q
 cases e:f ρ m with
 | no=>rw [e] at q; exact q.elim
 | ex w h'=>rw [e] at q; exact q
 | ok w h'=>
  rw [e] at q
  intro φ1 H1 v s1 r1 rw1
  cases w with
  | tl ws=>
   unfold RW at rw1
   obtain ⟨p,vs,rfl,np,hp,rws⟩:=rw1
   refine ⟨p,rfl,⟨vs,lstAt_sq hp⟩,q φ1 H1 _ s1 r1 trivial ?_⟩
   obtain ⟨o,ho,ko⟩:=lstAt_cases hp
   refine ⟨fun φ2 H2 h2 i w s2 r2 _ ei=>?_,fun φ2 H2 h2 i w y H' s2 r2 _ ei yl=>?_,fun φ2 H2 h2 s2 r2 _=>?_⟩
   ·obtain ⟨v,ev,_⟩:=rws_get rws ei
    exact ⟨vs,v,lstAt_sq (ko H2 (s2.keep _ _ ho np)),ev⟩
   ·obtain ⟨v,ev,rv⟩:=rws_get rws ei
    obtain ⟨rfl,z⟩:=yl
    have:=z vs (lstAt_sq (ko _ (s2.keep _ _ ho np)))
    rw [ev] at this; cases this
    exact ⟨rfl,rv.step s2⟩
   ·exact ⟨vs,lstAt_sq (ko H2 (s2.keep _ _ ho np)),by rw [rws.length]; exact Nat.le_refl _⟩
  | ref n=>
   simp only at q
   cases e2:h'[n]? with
   | none=>rw [e2] at q; exact q.elim
   | some o=>
    rw [e2] at q
    cases o with
    | lst ws=>
     simp only at q
     unfold RW at rw1
     obtain ⟨p,hp,rfl⟩:=rw1
     have rd:∀ φ2 H2 h2,Step φ1 H1 φ2 H2→RH Z.T φ2 h2 H2→h2[n]? = some (.lst ws)→∃ vs,H2 p=some (.lst vs)∧RWs Z.T φ2 H2 ws vs:=fun φ2 H2 h2 s2 r2 e3=>by
      obtain ⟨ho,y1,y2⟩:=r2.obj n _ p e3 (s2.get hp)
      obtain ⟨vs,rfl,y3⟩:=y2
      exact ⟨vs,y1,y3⟩
     obtain ⟨vs,hv,rws⟩:=rd φ1 H1 h' (Step.refl _ _) r1 e2
     refine ⟨p,rfl,⟨vs,lstAt_sq (lstAt_of hv)⟩,q φ1 H1 _ s1 r1 e2 ⟨fun φ2 H2 h2 i w s2 r2 e3 ei=>?_,fun φ2 H2 h2 i w y H' s2 r2 e3 ei yl=>?_,fun φ2 H2 h2 s2 r2 e3=>?_⟩⟩
     ·obtain ⟨vs2,hv2,rws2⟩:=rd φ2 H2 h2 s2 r2 e3
      obtain ⟨v,ev,_⟩:=rws_get rws2 ei
      exact ⟨vs2,v,lstAt_sq (lstAt_of hv2),ev⟩
     ·obtain ⟨vs2,hv2,rws2⟩:=rd φ2 H2 h2 s2 r2 e3
      obtain ⟨v,ev,rv⟩:=rws_get rws2 ei
      obtain ⟨rfl,z⟩:=yl
      have:=z vs2 (lstAt_sq (lstAt_of hv2))
      rw [ev] at this; cases this
      exact ⟨rfl,rv⟩
     ·obtain ⟨vs2,hv2,rws2⟩:=rd φ2 H2 h2 s2 r2 e3
      exact ⟨vs2,lstAt_sq (lstAt_of hv2),by rw [rws2.length]; exact Nat.le_refl _⟩
    | _=>exact q.elim
  | _=>exact q.elim
def rngW (lo:Int)(n:Nat):List W:=(List.range n).map fun (i:Nat)=>.int (lo+(i:Int))
theorem rngW_get {lo:Int}{n i:Nat}{w:W}(h:(rngW lo n)[i]? = some w):i<n∧w=.int (lo+i):=by
 unfold rngW at h
 rw [List.getElem?_map] at h
 by_cases hi:i<n
 ·rw [List.getElem?_range hi] at h
  simp at h
  exact ⟨hi,h.symm⟩
 ·rw [List.getElem?_eq_none (by simpa using hi)] at h
  cases h
theorem it_rng {T:CTb}{φ:List Addr}{H:Hp}{lo:Int}{n:Nat}{P:Mem→Prop}:ItOk T φ H (Itr lo n) (rngW lo n) P:=
 ⟨fun φ2 H2 h2 i w s2 r2 _ ei=>(rngW_get ei).1,fun φ2 H2 h2 i w y H' s2 r2 _ ei yl=>⟨yl.1,by rw [(rngW_get ei).2,yl.2]; unfold RW; rfl⟩,fun φ2 H2 h2 s2 r2 _=>by show n≤_; simp [rngW]⟩
def xIr1 (f:Ex):Ei:=fun ρ h=>match f ρ h with
 | .ok (.int j) h'=>cond (decide (-(2 ^ 62)≤j) && decide (j<2 ^ 62)) (.ok none (rngW 0 j.toNat) h') .no
 | .ex w h'=>.ex w h'
 | _=>.no
theorem int_rw {T:CTb}{φ:List Addr}{H:Hp}{v:V}{c:Int}(h:RW T φ H (.int c) v):v=.int c:=by unfold RW at h; exact h
theorem str_rw {T:CTb}{φ:List Addr}{H:Hp}{v:V}{c:Str}(h:RW T φ H (.str c) v):v=.str c:=by unfold RW at h; exact h
theorem phi_range1 {p:Pos}(hg:Gl X "range")(hm:X.mg "range"=none)(ha:PE X a (tH Z f))(hs:starEach [a] X.env=[(false,eval a X.env)]:=by rfl)(hc:X.calm=true:=by rfl):PI X tg (.Call (.Name "range" p) [a] [] pos) (tHI Z (xIr1 f)):=
 (pi_range1 hg hm (pa_cons ha pa_nil hs) hs hc).imp fun σ H R ⟨φ,m,ρ,x,q⟩=>⟨φ,m,ρ,x,by
  unfold xIr1 at q
  cases e:f ρ m with
  | no=>rw [e] at q; exact q.elim
  | ex w h'=>rw [e] at q; exact q
  | ok w h'=>
   rw [e] at q
   intro φ1 H1 v s1 r1 rw1
   cases w with
   | int j=>
    simp only at q
    cases hj:(decide (-(2 ^ 62)≤j) && decide (j<2 ^ 62)) with
    | true=>
     rw [hj] at q
     simp only [Bool.and_eq_true,decide_eq_true_eq] at hj
     rw [int_rw rw1]
     exact ⟨j,rfl,hj.1,hj.2,q φ1 H1 _ s1 r1 trivial it_rng⟩
    | false=>
     rw [hj] at q
     exact q.elim
   | _=>exact q.elim⟩
end
end M
namespace M
open PySem PySem.Spec PyProof.Rows L2
mutual
def ltW (k:Nat):W→Bool
 | .ref n=>decide (n<k)
 | .tup ws=>ltWs k ws
 | .tl ws=>ltWs k ws
 | .td _ ws=>ltWs k ws
 | .ti _ _ ws=>ltWs k ws
 | .exc _ _ ws=>ltWs k ws
 | .non=>true
 | .bl _=>true
 | .int _=>true
 | .str _=>true
 | .ty _=>true
 | .cls _=>true
def ltWs (k:Nat):List W→Bool
 | []=>true
 | w::ws=>ltW k w && ltWs k ws
end
def ltO (k:Nat):O→Bool
 | .lst ws=>ltWs k ws
 | .dic kvs=>ltWs k (kvs.map (·.2))
 | .fdic kvs=>ltWs k (kvs.map (·.2))
 | .ins _ fs=>ltWs k (fs.map (·.2))
section
variable {T:CTb} {φ φ':List Addr} {H H':Hp}
mutual
theorem RW.lt:∀ {w:W} {v:V},RW T φ H w v→ltW φ.length w=true
 | .non,v,h=>by unfold ltW; rfl
 | .bl b,v,h=>by unfold ltW; rfl
 | .int i,v,h=>by unfold ltW; rfl
 | .str x,v,h=>by unfold ltW; rfl
 | .ty n,v,h=>by unfold ltW; rfl
 | .cls c,v,h=>by unfold ltW; rfl
 | .ref n,v,h=>by
  unfold RW at h; unfold ltW
  obtain ⟨a,e,q⟩:=h
  exact decide_eq_true (List.getElem?_eq_some_iff.mp e).1
 | .tup ws,v,h=>by
  unfold RW at h; unfold ltW
  obtain ⟨p,vs,e,n,q,r⟩:=h
  exact RWs.lt r
 | .tl ws,v,h=>by
  unfold RW at h; unfold ltW
  obtain ⟨p,vs,e,n,q,r⟩:=h
  exact RWs.lt r
 | .td ks ws,v,h=>by
  unfold RW at h; unfold ltW
  obtain ⟨p,vs,e,n,q,l,r⟩:=h
  exact RWs.lt r
 | .ti c fs ws,v,h=>by
  unfold RW at h; unfold ltW
  obtain ⟨p,C,dx,vs,e,n,c,q,l,r⟩:=h
  exact RWs.lt r
 | .exc c fs ws,v,h=>by
  unfold RW at h; unfold ltW
  obtain ⟨e,C,d,vs,q,n,c,x,l,m,r⟩:=h
  exact RWs.lt r
theorem RWs.lt:∀ {ws:List W} {vs:List V},RWs T φ H ws vs→ltWs φ.length ws=true
 | [],vs,h=>by unfold ltWs; rfl
 | w::ws,vs,h=>by
  unfold RWs at h; unfold ltWs
  obtain ⟨v,r,e,a,b⟩:=h
  rw [RW.lt a,RWs.lt b]; rfl
end
mutual
theorem RW.narrow (pre:φ <+: φ'):∀ {w:W} {v:V},ltW φ.length w=true→RW T φ' H w v→RW T φ H w v
 | .non,v,l,h=>by unfold RW at h ⊢; exact h
 | .bl b,v,l,h=>by unfold RW at h ⊢; exact h
 | .int i,v,l,h=>by unfold RW at h ⊢; exact h
 | .str x,v,l,h=>by unfold RW at h ⊢; exact h
 | .ty n,v,l,h=>by unfold RW at h ⊢; exact h
 | .cls c,v,l,h=>by unfold RW at h ⊢; exact h
 | .ref n,v,l,h=>by
  unfold RW at h ⊢; unfold ltW at l
  obtain ⟨a,e,q⟩:=h
  refine ⟨a,?_,q⟩
  obtain ⟨t,rfl⟩:=pre
  rw [List.getElem?_append_left (of_decide_eq_true l)] at e
  exact e
 | .tup ws,v,l,h=>by
  unfold RW at h ⊢; unfold ltW at l
  obtain ⟨p,vs,e,n,q,r⟩:=h
  exact ⟨p,vs,e,fun z=>n (pre.subset z),q,RWs.narrow pre l r⟩
 | .tl ws,v,l,h=>by
  unfold RW at h ⊢; unfold ltW at l
  obtain ⟨p,vs,e,n,q,r⟩:=h
  exact ⟨p,vs,e,fun z=>n (pre.subset z),q,RWs.narrow pre l r⟩
 | .td ks ws,v,l,h=>by
  unfold RW at h ⊢; unfold ltW at l
  obtain ⟨p,vs,e,n,q,g,r⟩:=h
  exact ⟨p,vs,e,fun z=>n (pre.subset z),q,g,RWs.narrow pre l r⟩
 | .ti c fs ws,v,l,h=>by
  unfold RW at h ⊢; unfold ltW at l
  obtain ⟨p,C,dx,vs,e,n,c,q,g,r⟩:=h
  exact ⟨p,C,dx,vs,e,fun z=>n (pre.subset z),c,q,g,RWs.narrow pre l r⟩
 | .exc c fs ws,v,l,h=>by
  unfold RW at h ⊢; unfold ltW at l
  obtain ⟨e,C,d,vs,q,n,c,x,g,m,r⟩:=h
  refine ⟨e,C,d,vs,q,fun z=>n (pre.subset z),c,x,g,?_,RWs.narrow pre l r⟩
  cases d with
  | none=>exact m
  | some da=>exact ⟨fun z=>m.1 (pre.subset z),m.2⟩
theorem RWs.narrow (pre:φ <+: φ'):∀ {ws:List W} {vs:List V},ltWs φ.length ws=true→RWs T φ' H ws vs→RWs T φ H ws vs
 | [],vs,l,h=>by unfold RWs at h ⊢; exact h
 | w::ws,vs,l,h=>by
  unfold RWs at h ⊢; unfold ltWs at l
  rw [Bool.and_eq_true] at l
  obtain ⟨v,r,e,a,b⟩:=h
  exact ⟨v,r,e,RW.narrow pre l.1 a,RWs.narrow pre l.2 b⟩
end
theorem rp_lt {κ:Type}{ps:List (κ×W)}{qs:List (κ×V)}(h:RP T φ H ps qs):ltWs φ.length (ps.map (·.2))=true:=by
 induction h with
 | nil=>unfold ltWs; rfl
 | cons a _ ih=>rw [List.map_cons]; unfold ltWs; rw [RW.lt a.2,ih]; rfl
theorem rp_narrow {κ:Type}(pre:φ <+: φ'){ps:List (κ×W)}{qs:List (κ×V)}(l:ltWs φ.length (ps.map (·.2))=true)(h:RP T φ' H ps qs):RP T φ H ps qs:=by
 induction h with
 | nil=>exact .nil
 | cons a _ ih=>
  rw [List.map_cons] at l; unfold ltWs at l
  rw [Bool.and_eq_true] at l
  exact .cons ⟨a.1,RW.narrow pre l.1 a.2⟩ (ih l.2)
theorem RO.lt {o:O}{ho:HO}(h:RO T φ H o ho):ltO φ.length o=true:=by
 cases o with
 | lst ws=>obtain ⟨vs,e,r⟩:=h; exact RWs.lt r
 | dic kvs=>obtain ⟨kv,e,r⟩:=h; exact rp_lt r
 | ins c fs=>obtain ⟨C,dx,fv,e,c,r⟩:=h; exact rp_lt r
 | fdic kvs=>obtain ⟨ob,kv,e,r⟩:=h; exact rp_lt r
theorem RO.narrow (pre:φ <+: φ'){o:O}{ho:HO}(l:ltO φ.length o=true)(h:RO T φ' H o ho):RO T φ H o ho:=by
 cases o with
 | lst ws=>obtain ⟨vs,e,r⟩:=h; exact ⟨vs,e,RWs.narrow pre l r⟩
 | dic kvs=>obtain ⟨kv,e,r⟩:=h; exact ⟨kv,e,rp_narrow pre l r⟩
 | ins c fs=>obtain ⟨C,dx,fv,e,c,r⟩:=h; exact ⟨C,dx,fv,e,c,rp_narrow pre l r⟩
 | fdic kvs=>obtain ⟨ob,kv,e,r⟩:=h; exact ⟨ob,kv,e,rp_narrow pre l r⟩
def Wf (h:Mem):Prop:=∀ o∈h,ltO h.length o=true
theorem RH.wf {h:Mem}(r:RH T φ h H):Wf h:=fun o m=>by
 obtain ⟨n,hn,e⟩:=List.getElem_of_mem m
 obtain ⟨a,ho,_,_,x⟩:=r.at (n:=n) (o:=o) (by simp [hn,e])
 rw [← r.len]
 exact x.lt
theorem RH.drop {h g:Mem}(r:RH T φ' (h++g) H)(w:Wf h):∃ φ,φ <+: φ'∧φ.length=h.length∧RH T φ h H:=by
 have hl:=r.len
 rw [List.length_append] at hl
 have hk:(φ'.take h.length).length=h.length:=by rw [List.length_take]; omega
 refine ⟨φ'.take h.length,List.take_prefix _ _,hk,hk,r.nd.sublist (List.take_sublist _ _),fun n o a e q=>?_⟩
 have hn:n<h.length:=(List.getElem?_eq_some_iff.mp e).1
 rw [List.getElem?_take_of_lt hn] at q
 obtain ⟨ho,x,y⟩:=r.obj n o a (by rw [List.getElem?_append_left hn]; exact e) q
 refine ⟨ho,x,y.narrow (List.take_prefix _ _) ?_⟩
 rw [hk]
 exact w o (List.mem_of_getElem? e)
end
theorem pre_eq {φ φ':List Addr}(p:φ <+: φ')(h:φ'.length=φ.length):φ'=φ:=by
 obtain ⟨t,rfl⟩:=p
 have:t=[]:=List.length_eq_zero_iff.mp (by simpa using h)
 rw [this,List.append_nil]
def ρC (own:Nat)(ix:List Nat)(ρ:Sg):Sg:=List.replicate own none++ix.map fun j=>(ρ[j]?).join
def xBlk (G:Tg)(c el:Ex)(ρ0:Sg)(h:Mem):List W→List W→Option (List W)
 | [],acc=>some acc
 | w::r,acc=>match G w ρ0 with
  | none=>none
  | some ρ=>(match c ρ (h++[.lst acc]) with
   | .ok (.bl true) _=>(match el ρ (h++[.lst acc]) with
    | .ok x _=>if ltW h.length x=true then xBlk G c el ρ0 h r (acc++[x]) else none
    | _=>none)
   | .ok (.bl false) _=>xBlk G c el ρ0 h r acc
   | _=>none)
def xComp (fi:Ei)(own:Nat)(ix:List Nat)(G:Tg)(c el:Ex):Ex:=fun ρ h=>match fi ρ h with
 | .ok _ ws h1=>if ws.length<sizeLine then (match xBlk G c el (ρC own ix ρ) h1 ws [] with
  | some out=>.ok (.tl out) h1
  | none=>.no) else .no
 | .ex w h1=>.ex w h1
 | .no=>.no
class Pu (f:Ex):Prop where
 pu:∀ ρ h w h',f ρ h=.ok w h'→h'=h
class PuS (f:Exs):Prop where
 pu:∀ ρ h w h',f ρ h=.ok w h'→h'=h
def Zb (T:CTb)(own:List Str)(ix:List Nat)(σ:St):Zc:=⟨T,[],fun _=>none,fun σ'=>leS (σC own ix σ) σ',fun _ _=>False⟩
theorem step_nil {φ:List Addr}{H:Hp}:Step [] (fun _=>none) φ H:=⟨⟨List.nil_prefix,fun _ _ e=>(by cases e),fun _ _ _=>rfl⟩,fun _ _ _ e=>by cases e⟩
theorem leS_refl:∀ (σ:St),leS σ σ
 | []=>trivial
 | none::r=>leS_refl r
 | some x::r=>⟨rfl,leS_refl r⟩
theorem leS_set:∀ {σ σ':St} {i:Nat} {o:Option V},leS σ σ'→σ[i]? = some none→leS σ (σ'.set i o)
 | [],_,_,_,h,e=>by simp at e
 | none::r,[],_,_,h,_=>h.elim
 | some x::r,[],_,_,h,_=>h.elim
 | none::r,y::s,0,o,h,_=>h
 | some x::r,y::s,0,o,h,e=>by simp at e
 | none::r,y::s,i+1,o,h,e=>leS_set (σ:=r) (σ':=s) h (by simpa using e)
 | some x::r,y::s,i+1,o,h,e=>⟨h.1,leS_set (σ:=r) (σ':=s) h.2 (by simpa using e)⟩
theorem zb_set {T:CTb}{own:List Str}{ix:List Nat}{σ:St}{i:Nat}(hi:i<own.length):∀ σ' v,(Zb T own ix σ).sg σ'→(Zb T own ix σ).sg (σ'.set i (some v)):=fun σ' v h=>leS_set h (by
 unfold σC
 rw [List.getElem?_append_left (by simpa using hi)]
 simp [hi])
theorem rs_C {T:CTb}{φ:List Addr}{H:Hp}{ρ:Sg}{σ:St}{own:List Str}{ix:List Nat}(r:RS T φ H ρ σ):RS T φ H (ρC own.length ix ρ) (σC own ix σ):=by
 refine ⟨by simp [ρC,σC],fun i w e=>?_⟩
 unfold ρC at e
 unfold σC
 by_cases hi:i<own.length
 ·rw [List.getElem?_append_left (by simpa using hi)] at e
  simp [hi] at e
 ·rw [List.getElem?_append_right (by simpa using hi),List.length_replicate,List.getElem?_map] at e
  rw [List.getElem?_append_right (by simpa using hi),List.length_replicate,List.getElem?_map]
  cases q:ix[i - own.length]? with
  | none=>rw [q] at e; cases e
  | some j=>
   rw [q] at e
   have e:(ρ[j]?).join=some w:=Option.some.inj e
   have e2:ρ[j]? = some (some w):=by
    cases z:ρ[j]? with
    | none=>rw [z] at e; cases e
    | some o=>rw [z] at e; exact congrArg some e
   obtain ⟨v,a,b⟩:=r.var j w e2
   exact ⟨v,by rw [Option.map_some,a]; rfl,b⟩
theorem rws_snoc {T:CTb}{φ:List Addr}{H:Hp}{w:W}{v:V}:∀ {ws:List W} {vs:List V},RWs T φ H ws vs→RW T φ H w v→RWs T φ H (ws++[w]) (vs++[v])
 | [],vs,h,q=>by unfold RWs at h; subst h; unfold RWs; exact ⟨v,[],rfl,q,by unfold RWs; rfl⟩
 | x::ws,vs,h,q=>by
  unfold RWs at h
  obtain ⟨y,r,rfl,a,b⟩:=h
  rw [List.cons_append,List.cons_append]
  unfold RWs
  exact ⟨y,_,rfl,a,rws_snoc b q⟩
section
variable {X:Cx} {Z:Zc} {f g k:Ex} {fa:Exs} {fi:Ei} {osc:Scope} {N own fr:List Str} {ix:List Nat} {scope:Scope} {tg iter elt:Expr} {ifs:List Expr} {pos:Pos} {e c:Expr}
theorem pcsh_one (h:PT X c (tHT Z f)):PCs X [c] (tHT Z f):=fun pins s σ H Q I q=>by
 refine pcs_cons h pcs_nil pins s σ H Q I ?_
 obtain ⟨φ,h,ρ,x,q⟩:=q
 exact ⟨φ,h,ρ,x,q.mono fun w h' ⟨b,e,k⟩=>⟨b,e,fun φ' H' s r=>by
  cases b with
  | true=>exact iteT (k φ' H' s r)
  | false=>exact iteF (k φ' H' s r)⟩⟩
theorem blk_ok {gg:TG}{G:Tg}{cc el:Ex}{T:CTb}{σ:St}{ρ:Sg}{φ1:List Addr}{H1:Hp}{h1:Mem}{J:It}{ws out:List W}{src:Option Nat}(hG:TgW (Zb T own ix σ) gg G)[hc:Pu cc][he:Pu el](hz:ws.length<sizeLine)
  (r1:RH T φ1 h1 H1) (rs:RS T φ1 H1 ρ σ) (sp:srcP src ws h1) (it:ItOk T φ1 H1 J ws (srcP src ws)) (q:xBlk G cc el (ρC own.length ix ρ) h1 ws []=some out) (acc:Addr) (ha:H1 acc=none) {Q:Hp→Prop}
  (k:∀ H',Step φ1 H1 φ1 H'→RH T φ1 h1 H'→RW T φ1 H' (.tl out) (.ref acc)→Q H') :
  tBlock J (σC own ix σ) acc gg (tHT (Zb T own ix σ) cc) (tH (Zb T own ix σ) el) Q (upd H1 acc (.lst [])):=by
 have s0:=step_new (φ:=φ1) (ho:=.lst []) ha
 have rb:=r1.new (o:=.lst []) ha (by unfold RO; exact ⟨[],rfl,by unfold RWs; rfl⟩)
 have lenb:(φ1++[acc]).length=φ1.length+1:=by simp
 have spb:∀ aw,srcP src ws (h1++[O.lst aw]):=fun aw=>by
  cases src with
  | none=>trivial
  | some n=>
   have sp:h1[n]? = some (.lst ws):=sp
   show (h1++[O.lst aw])[n]? = some (.lst ws)
   rw [List.getElem?_append_left (List.getElem?_eq_some_iff.mp sp).1]
   exact sp
 refine ⟨fun i m H=>m=ws.length - i∧i≤ws.length∧∃ aw,Step (φ1++[acc]) (upd H1 acc (.lst [])) (φ1++[acc]) H∧RH T (φ1++[acc]) (h1++[.lst aw]) H∧aw.length≤i∧ltWs h1.length aw=true∧xBlk G cc el (ρC own.length ix ρ) h1 (ws.drop i) aw=some out,
  ⟨ws.length,by simp,Nat.zero_le _,[],Step.refl _ _,rb,Nat.le_refl _,by unfold ltWs; rfl,q⟩,?_⟩
 rintro i m H ⟨rfl,hi,aw,sH,rH,al,lt,q⟩
 have hn:(φ1++[acc])[h1.length]? = some acc:=by rw [← r1.len]; simp
 by_cases hlt:i<ws.length
 ·have ed:ws.drop i=ws[i]::ws.drop (i+1):=List.drop_eq_getElem_cons hlt
  have ei:ws[i]? = some ws[i]:=by simp [hlt]
  refine .inr ⟨it.go _ H _ i _ (s0.trans sH) rH (spb aw) ei,fun x H' yl=>?_⟩
  obtain ⟨rfl,rwx⟩:=it.yld _ H _ i _ x H' (s0.trans sH) rH (spb aw) ei yl
  rw [ed] at q
  unfold xBlk at q
  cases e2:G ws[i] (ρC own.length ix ρ) with
  | none=>rw [e2] at q; cases q
  | some ρ'=>
   rw [e2] at q
   simp only at q
   have x0:Here (Zb T own ix σ) (σC own ix σ) H' (φ1++[acc]) (h1++[.lst aw]) (ρC own.length ix ρ):=⟨leS_refl _,step_nil,rH,rs_C (rs.step (s0.trans sH))⟩
   refine hG _ _ _ _ _ _ x ρ' _ x0 rwx e2 fun σ' rs' le=>⟨le,?_⟩
   have x1:Here (Zb T own ix σ) σ' H' (φ1++[acc]) (h1++[.lst aw]) ρ':=⟨le,step_nil,rH,rs'⟩
   refine ⟨_,_,ρ',x1,?_⟩
   cases e3:cc ρ' (h1++[.lst aw]) with
   | no=>rw [e3] at q; cases q
   | ex w h2=>rw [e3] at q; cases q
   | ok w h2=>
    have eh:=hc.pu _ _ _ _ e3
    subst eh
    rw [e3] at q
    cases w with
    | bl b=>
     refine ⟨b,rfl,fun φ3 H3 s3 r3=>?_⟩
     have e4:φ3=φ1++[acc]:=pre_eq s3.pre (by rw [r3.len,rH.len])
     subst e4
     cases b with
     | false=>
      refine iteF ⟨ws.length - (i+1),by omega,rfl,hlt,aw,sH.trans s3,r3,by omega,lt,q⟩
     | true=>
      refine iteT ⟨_,_,ρ',x1.step s3 r3,?_⟩
      simp only at q
      cases e5:el ρ' (h1++[.lst aw]) with
      | no=>rw [e5] at q; cases q
      | ex w h2=>rw [e5] at q; cases q
      | ok y h2=>
       have eh:=he.pu _ _ _ _ e5
       subst eh
       rw [e5] at q
       simp only at q
       split at q
       ·rename_i ly
        intro φ4 H4 v s4 r4 rw4
        have e4:φ4=φ1++[acc]:=pre_eq s4.pre (by rw [r4.len,rH.len])
        subst e4
        obtain ⟨ho,y1,ys,rfl,y2⟩:=r4.obj h1.length (.lst aw) acc (by simp) hn
        have lw:=y2.length
        have s5:=step_set (H:=H4) (ho:=.lst (ys++[v])) (List.mem_of_getElem? hn) (nf_lst y1)
        have r5:=r4.set (o:=.lst (aw++[y])) (ho:=.lst (ys++[v])) hn (by unfold RO; exact ⟨_,rfl,rws_snoc y2 rw4⟩)
        rw [List.set_append_right _ _ (Nat.le_refl _),Nat.sub_self,List.set_cons_zero] at r5
        refine ⟨ys,y1,by omega,ws.length - (i+1),by omega,rfl,hlt,aw++[y],(sH.trans s3).trans (s4.trans s5),r5,by simp; omega,?_,q⟩
        have snoc:∀ (l:List W),ltWs h1.length l=true→ltWs h1.length (l++[y])=true:=by
         intro l
         induction l with
         | nil=>intro _; show ltWs _ [y]=true; unfold ltWs; rw [ly]; unfold ltWs; rfl
         | cons z r ih=>
          intro hz
          rw [List.cons_append]
          unfold ltWs at hz ⊢
          rw [Bool.and_eq_true] at hz
          rw [hz.1,ih hz.2]; rfl
        exact snoc aw lt
       ·cases q
    | _=>cases q
 ·have e:i=ws.length:=by omega
  subst e
  rw [List.drop_length] at q
  unfold xBlk at q
  have q:=Option.some.inj q
  subst q
  refine .inl ⟨it.stop _ H _ (s0.trans sH) rH (spb _),?_⟩
  have s2:Step φ1 H1 φ1 H:=⟨⟨List.prefix_refl _,fun a o e n=>(s0.trans sH).keep a o e n,fun _ m n=>absurd m n⟩,fun a o u e=>(s0.trans sH).fr a o u e⟩
  obtain ⟨φ2,p2,l2,r2⟩:=rH.drop r1.wf
  have e2:φ2=φ1:=by
   have:=List.prefix_of_prefix_length_le p2 (List.prefix_append φ1 [acc]) (by rw [l2,← r1.len]; exact Nat.le_refl _)
   exact (pre_eq this (by rw [l2,← r1.len])).symm
  subst e2
  obtain ⟨ho,y1,ys,rfl,y2⟩:=rH.obj h1.length (.lst aw) acc (by simp) hn
  refine k H s2 r2 ?_
  unfold RW
  exact ⟨acc,ys,rfl,r1.fresh ha,lstAt_of y1,y2.narrow (List.prefix_append _ _) (by rw [r1.len]; exact lt)⟩
theorem psh_setc {gg:TG}{G:Tg}{cc el:Ex}{i:Nat}{x:Str}{px spos:Pos}(hnd:X.N.Nodup)(hi':X.N[i]? = some x)(hl:X.env.scope.names.lookup x=some .local)(hsg:∀ σ v,Z.sg σ→Z.sg (σ.set i (some v)))(hcalm:X.calm=X.calm)(ho:X.env.scope=osc)(hN:X.N=N)
  (hk:compOk osc N own fr ix scope=true) (hi:PI X tg iter (tHI Z fi)) (hG:∀ σ,TgW (Zb Z.T own ix σ) gg G) [hc:Pu cc] [he:Pu el]
  (hg:InC X own fr scope fun Y=>PG Y tg gg) (ht:∀ σ,InC X own fr scope fun Y=>PCs Y ifs (tHT (Zb Z.T own ix σ) cc)) (hel:∀ σ,InC X own fr scope fun Y=>PE Y elt (tH (Zb Z.T own ix σ) el)) (hs:∀ x,foldedSetIterable iter X.env x=pure x:=by intro _; rfl)
  (hsw:swapsWith (.ListComp elt [⟨tg,iter,ifs,0⟩] scope pos) (some (.Name x px)) spos.line X.env=pure true:=by rfl) :
  PS X (.Assign [.Name x px] (.ListComp elt [⟨tg,iter,ifs,0⟩] scope pos) spos) (tHS Z (xAsg (gN i) (xComp fi own.length ix G cc el))):=by
 intro pins s σ H D I q
 refine ps_setc hnd hi' hl hcalm ho hN hk hi hg (ht σ) (hel σ) hs hsw pins s σ H D I ?_
 obtain ⟨φ,h,ρ,x,q⟩:=q
 refine ⟨φ,h,ρ,x,?_⟩
 unfold xAsg xComp at q
 cases e:fi ρ h with
 | no=>rw [e] at q; exact q.elim
 | ex w h'=>rw [e] at q; exact q
 | ok src ws h1=>
  rw [e] at q
  simp only at q
  by_cases hz:ws.length<sizeLine
  ·rw [if_pos hz] at q
   cases e2:xBlk G cc el (ρC own.length ix ρ) h1 ws [] with
   | none=>rw [e2] at q; exact q.elim
   | some out=>
    rw [e2] at q
    intro φ1 H1 J s1 r1 sp it acc ha
    exact blk_ok (hG σ) hz r1 (x.rs.step s1) sp it e2 acc ha fun H' s2 r2 w2=>q φ1 H' _ (s1.trans s2) r2 ((x.rs.step (s1.trans s2)).set w2) (hsg _ _ x.sg)
  ·rw [if_neg hz] at q
   exact q.elim
end
end M
namespace M
open PySem PySem.Spec PyProof.Rows L2
def RX (T:CTb)(φ:List Addr)(H:Hp)(w:W)(cv:Value)(da:Option Addr):Prop:=match w with
 | .exc c fs ws=>∃ C vs,T.x c=some C∧cv=.ref C∧fs.length=ws.length∧RWs T φ H ws vs∧(match da with
  | some d=>d ∉ φ∧H d=some (.xd (fs.zip vs))
  | none=>fs=[])
 | _=>False
abbrev Fm:=List W→Mem→Res
def spH (T:CTb)(F:Fm):Sp:=fun vs H Q E=>∃ φ h ws,RH T φ h H∧RWs T φ H ws vs∧(F ws h).post (Kv T φ H Q) (fun w h'=>∀ φ' H' cv da,Step φ H φ' H'→RH T φ' h' H'→RX T φ' H' w cv da→E cv da H')
def startW (n:Nat)(ws:List W):Sg:=ws.map some++List.replicate (n - ws.length) none
def Out.res:Out→Res
 | .rt w h=>.ok w h
 | .nx _ h=>.ok .non h
 | .ex w h=>.ex w h
 | _=>.no
def runB (n:Nat)(B:Sm)(ws:List W)(h:Mem):Res:=(B (startW n ws) h).res
def Fits (k:Nat)(r r':Res):Prop:=match r,r' with
 | .ok w h,.ok w' h'=>∀ T φ' H' v,RH T φ' h' H'→RW T φ' H' w' v→∃ φ1,φ1 <+: φ'∧k≤φ1.length∧RH T φ1 h H'∧RW T φ1 H' w v
 | .ex w h,.ex w' h'=>∀ T φ' H' cv da,RH T φ' h' H'→RX T φ' H' w' cv da→∃ φ1,φ1 <+: φ'∧k≤φ1.length∧RH T φ1 h H'∧RX T φ1 H' w cv da
 | .no,_=>True
 | _,_=>False
theorem fits_ok {k:Nat}{w:W}{h:Mem}(hk:k≤h.length):Fits k (.ok w h) (.ok w h):=fun T φ' H' v r x=>⟨φ',List.prefix_refl _,by rw [r.len]; exact hk,r,x⟩
theorem fits_ex {k:Nat}{w:W}{h:Mem}(hk:k≤h.length):Fits k (.ex w h) (.ex w h):=fun T φ' H' cv da r x=>⟨φ',List.prefix_refl _,by rw [r.len]; exact hk,r,x⟩
theorem fits_drop {k:Nat}{w:W}{h g:Mem}(hk:k≤h.length)(wf:Wf h)(lt:ltW h.length w=true):Fits k (.ok w h) (.ok w (h++g)):=fun T φ' H' v r x=>by
 obtain ⟨φ1,p1,l1,r1⟩:=r.drop wf
 exact ⟨φ1,p1,by rw [l1]; exact hk,r1,x.narrow p1 (by rw [l1]; exact lt)⟩
def Zf (T:CTb)(φ:List Addr)(H:Hp):Zc:=⟨T,φ,H,fun _=>True,fun _ _=>False⟩
theorem rs_start {T:CTb}{φ:List Addr}{H:Hp}{ws:List W}{vs:List V}{N:List Str}(r:RWs T φ H ws vs):RS T φ H (startW N.length ws) (L2.start N vs):=by
 have hl:=r.length
 refine ⟨by simp [startW,L2.start,hl],fun i w e=>?_⟩
 unfold startW at e
 unfold L2.start
 by_cases hi:i<ws.length
 ·rw [List.getElem?_append_left (by simpa using hi),List.getElem?_map] at e
  cases q:ws[i]? with
  | none=>rw [q] at e; cases e
  | some u=>
   rw [q] at e
   cases e
   obtain ⟨v,a,b⟩:=rws_get r q
   exact ⟨v,by rw [List.getElem?_append_left (by simpa [← hl] using hi),List.getElem?_map,a]; rfl,b⟩
 ·rw [List.getElem?_append_right (by simpa using hi),List.getElem?_replicate] at e
  split at e <;> cases e
theorem step_fits {φ φ' φ1:List Addr}{H H':Hp}(s:Step φ H φ' H')(p:φ1 <+: φ')(l:φ.length≤φ1.length):Step φ H φ1 H':=
 ⟨⟨List.prefix_of_prefix_length_le s.pre p l,s.keep,fun a m n=>s.new a (p.subset m) n⟩,s.fr⟩
theorem body_ok {T:CTb}{φ:List Addr}{H:Hp}{h:Mem}{o:Out}{r:Res}{Q:VK}{E:W→Mem→Prop}(hl:φ.length=h.length)(ft:Fits h.length r o.res)(q:r.post (Kv T φ H Q) E)(hE:∀ w m w' m',r=.ex w m→o=.ex w' m'→False) :
  o.post (Zf T φ H) φ H { nx:=fun _ H'=>Q .non H',rt:=Q }:=by
 cases r with
 | no=>exact q.elim
 | ex w m=>
  cases o with
  | ex w' m'=>exact (hE _ _ _ _ rfl rfl).elim
  | _=>exact ft.elim
 | ok w m=>
  cases o with
  | rt w' m'=>
   intro φ' H' v s r x
   obtain ⟨φ1,p1,l1,r1,x1⟩:=ft T φ' H' v r x
   exact q φ1 H' v (step_fits s p1 (by rw [hl]; exact l1)) r1 x1
  | nx ρ' m'=>
   intro φ' H' σ' s r rs _
   obtain ⟨φ1,p1,l1,r1,x1⟩:=ft T φ' H' .non r (by unfold RW; rfl)
   exact q φ1 H' .non (step_fits s p1 (by rw [hl]; exact l1)) r1 x1
  | _=>exact ft.elim
section
variable {P:Program} {w:World} {K:PySem.W.Frag} {mg:Str→Option Value} {base:Heap} {T:CTb}
def Told (n m:Nat)(B:Sm)(F:Fm):Prop:=∀ ws h,Wf h→ltWs h.length ws=true→F ws h=.no∨(ws.length=n∧Fits h.length (F ws h) (runB m B ws h))
theorem fun0 {x:Str}{st:Stmt}{N ps:List Str}{k:Nat}{F:Fm}{f:Addr}{fd:FuncData}{B:Sm}(R:Fun K x x st f fd)(S:FnScope N ps (defScope st))
  (hB:∀ (cdv:Value) (A:Around) (outer:List Env) (s:Shared) (H:Hp) (E:XK) (φ0:List Addr) (H0:Hp),Room k (A.deeper (envOfC x (defScope st) s.heap.objs.size f cdv))→PSs (cxOf CX0 P w K mg base N x (defScope st) f cdv A outer s H E).nox (defBody st) (tHS (Zf T φ0 H0) B))
  (hx:∀ ws h w m,F ws h≠.ex w m) (hF:Told ps.length N.length B F):FnOk P w K mg base CX0 (k+1) f fd ps (spH T F):=by
 refine R.ok S (fun vs H Q E h=>?_) (fun cdv A outer s H vs Q E hr h=>?_)
 ·obtain ⟨φ,h,ws,r,rv,q⟩:=h
  rcases hF ws h r.wf (by rw [← r.len]; exact rv.lt) with e | ⟨e,_⟩
  ·rw [e] at q; exact q.elim
  ·rw [← rv.length]; exact e
 ·obtain ⟨φ,h,ws,r,rv,q⟩:=h
  refine ⟨_,hB cdv A outer s H E φ H hr,φ,h,startW N.length ws,⟨trivial,Step.refl _ _,r,rs_start rv⟩,?_⟩
  rcases hF ws h r.wf (by rw [← r.len]; exact rv.lt) with e | ⟨e,ft⟩
  ·rw [e] at q; exact q.elim
  ·exact body_ok r.len ft q fun _ _ _ _ e _=>hx _ _ _ _ e
theorem def0 {x:Str}{st:Stmt}{N ps:List Str}{k:Nat}{F:Fm}{B:Sm}(R:DefAt K mg x st)(S:FnScope N ps (defScope st))(hb:BindsAll x x st ps)
  (hB:∀ (f:Addr) (cdv:Value) (A:Around) (outer:List Env) (s:Shared) (H:Hp) (E:XK) (φ0:List Addr) (H0:Hp),Room k (A.deeper (envOfC x (defScope st) s.heap.objs.size f cdv))→PSs (cxOf CX0 P w K mg base N x (defScope st) f cdv A outer s H E).nox (defBody st) (tHS (Zf T φ0 H0) B))
  (hx:∀ ws h w m,F ws h≠.ex w m) (hF:Told ps.length N.length B F):FnAt P w K mg base CX0 (k+1) x (spH T F):=by
 obtain ⟨f,fd,R,hm⟩:=R
 exact ⟨f,fd,ps,fun0 R S (hB f) hx hF,hm,R.kp,R.binds hb⟩
end
def xCall0 (F:Fm)(f:Exs):Ex:=fun ρ h=>match f ρ h with
 | .ok ws h1=>(match F ws h1 with
  | .ok w h2=>.ok w h2
  | _=>.no)
 | .ex w h1=>.ex w h1
 | .no=>.no
section
variable {X:Cx} {Z:Zc} {fa:Exs} {k j:Nat} {F:Fm} {x:Str} {p pos:Pos} {e:Expr} {es:List Expr}
theorem call0_ok {E:XK}{σ:St}{H:Hp}{Q:VK}(q:tH Z (xCall0 F fa) σ H Q):tCall (spH Z.T F) [] E (tHA Z fa) σ H Q:=by
 obtain ⟨φ,h,ρ,x,q⟩:=q
 refine ⟨φ,h,ρ,x,?_⟩
 unfold xCall0 at q
 cases e:fa ρ h with
 | no=>rw [e] at q; exact q.elim
 | ex w h'=>rw [e] at q; exact q
 | ok ws h1=>
  rw [e] at q
  intro φ1 H1 vs s1 r1 rw1
  rw [List.append_nil]
  refine ⟨φ1,h1,ws,r1,rw1,?_⟩
  simp only at q
  cases e2:F ws h1 with
  | no=>rw [e2] at q; exact q.elim
  | ex w h'=>rw [e2] at q; exact q.elim
  | ok w h2=>rw [e2] at q; exact Kv.step q s1
theorem ph_fn0 (G:FnAt X.prog X.w X.K X.mg X.base CX0 k x (spH Z.T F))(hr:Room j X.A)(hkj:k≤j)(hg:Gl X x)(ha:PA X (e::es) (tHA Z fa))(hdb:(x == ("__debug__":Str))=false:=by decide)
  (he:starEach (e::es) X.env=(false,eval e X.env)::starEach es X.env:=by rfl) (hpl:(backTo pos (starEach es X.env)).any (·.1)=false:=by rfl) (hcl:X.calm=true:=by rfl):PE X (.Call (.Name x p) (e::es) [] pos) (tH Z (xCall0 F fa)):=
 (pe_fn G hr hkj hg (pass0 hcl) ha hdb he hpl).imp fun σ H Q q=>call0_ok q
end
class PuF (F:Fm):Prop where
 pu:∀ ws h w h',F ws h=.ok w h'→h'=h
instance pu_var {i:Nat}:Pu (xVar i):=⟨fun ρ h w h' e=>by
 unfold xVar at e
 split at e
 ·cases e; rfl
 ·cases e⟩
instance pu_c {w:W}:Pu (xC w):=⟨fun ρ h w h' e=>by cases e; rfl⟩
theorem bind_ok {r:Res}{k:W→Mem→Res}{w:W}{h:Mem}(e:r.bind k=.ok w h):∃ a h1,r=.ok a h1∧k a h1=.ok w h:=by
 cases r with
 | ok a h1=>exact ⟨a,h1,rfl,e⟩
 | ex _ _=>cases e
 | no=>cases e
theorem of_ok {o:Option W}{h h':Mem}{w:W}(e:Res.of o h=.ok w h'):o=some w∧h'=h:=by
 cases o with
 | none=>cases e
 | some x=>cases e; exact ⟨rfl,rfl⟩
instance pu_bin {o:Mem→W→W→Option W}{f g:Ex}[hf:Pu f][hg:Pu g]:Pu (xBin o f g):=⟨fun ρ h w h' e=>by
 obtain ⟨a,h1,e1,e⟩:=bind_ok e
 obtain ⟨b,h2,e2,e⟩:=bind_ok e
 rw [(of_ok e).2,hg.pu _ _ _ _ e2,hf.pu _ _ _ _ e1]⟩
instance pu_un {o:Mem→W→Option W}{f:Ex}[hf:Pu f]:Pu (xUn o f):=⟨fun ρ h w h' e=>by
 obtain ⟨a,h1,e1,e⟩:=bind_ok e
 rw [(of_ok e).2,hf.pu _ _ _ _ e1]⟩
instance pu_nil:PuS xNil:=⟨fun ρ h w h' e=>by cases e; rfl⟩
instance pu_cons {f:Ex}{g:Exs}[hf:Pu f][hg:PuS g]:PuS (xCons f g):=⟨fun ρ h w h' e=>by
 unfold xCons at e
 cases e1:f ρ h with
 | no=>rw [e1] at e; cases e
 | ex _ _=>rw [e1] at e; cases e
 | ok a h1=>
  rw [e1] at e
  simp only at e
  cases e2:g ρ h1 with
  | no=>rw [e2] at e; cases e
  | ex _ _=>rw [e2] at e; cases e
  | ok b h2=>
   rw [e2] at e
   cases e
   rw [hg.pu _ _ _ _ e2,hf.pu _ _ _ _ e1]⟩
instance pu_tup {f:Exs}[hf:PuS f]:Pu (xTup f):=⟨fun ρ h w h' e=>by
 unfold xTup at e
 cases e1:f ρ h with
 | no=>rw [e1] at e; cases e
 | ex _ _=>rw [e1] at e; cases e
 | ok a h1=>
  rw [e1] at e
  simp only at e
  split at e
  ·cases e; exact hf.pu _ _ _ _ e1
  ·cases e⟩
instance pu_lst {f:Exs}[hf:PuS f]:Pu (xLst f):=⟨fun ρ h w h' e=>by
 unfold xLst at e
 cases e1:f ρ h with
 | no=>rw [e1] at e; cases e
 | ex _ _=>rw [e1] at e; cases e
 | ok a h1=>
  rw [e1] at e
  simp only at e
  split at e
  ·cases e; exact hf.pu _ _ _ _ e1
  ·cases e⟩
def noList (K:PySem.W.Frag):Bool:=K.all fun p=>match p.2.cls with
 | .type n=>n != "list"
 | _=>true
theorem lookup_mem {α β:Type}[BEq α][LawfulBEq α]{a:α}{b:β}:∀ {l:List (α×β)},l.lookup a=some b→(a,b)∈l
 | [],h=>by simp at h
 | (x,y)::r,h=>by
  rw [List.lookup_cons] at h
  cases e:a == x with
  | true=>
   rw [e] at h
   cases h
   rw [eq_of_beq e]
   exact List.mem_cons_self
  | false=>
   rw [e] at h
   exact List.mem_cons_of_mem _ (lookup_mem h)
theorem noList_of {K:PySem.W.Frag}(h:noList K=true){a:Addr}{o:Obj}(e:K.lookup a=some o):o.cls≠.type "list":=fun z=>by
 have:=List.all_eq_true.mp h (a,o) (lookup_mem e)
 simp [z] at this
theorem script_rw {K:PySem.W.Frag}(hK:noList K=true){T:CTb}{H:Hp}{a:Addr}{ns:List Int}(hS:SqL K H a (ns.map V.int)):RW T [] H (.tl (ns.map W.int)) (.ref a):=by
 unfold RW
 rcases hS with hS | ⟨o,its,n,e,c,_⟩
 ·refine ⟨a,ns.map V.int,rfl,by simp,?_,?_⟩
  ·rcases hS with q | ⟨o,q⟩
   ·exact lstAt_of q
   ·unfold lstAt; rw [q]
  ·induction ns with
   | nil=>unfold RWs; rfl
   | cons x r ih=>
    have:∀ (l:List Int),RWs T [] H (l.map W.int) (l.map V.int):=by
     intro l
     induction l with
     | nil=>unfold RWs; rfl
     | cons y s ih=>rw [List.map_cons,List.map_cons]; unfold RWs; exact ⟨_,_,rfl,by unfold RW; rfl,ih⟩
    exact this _
 ·exact absurd c (noList_of hK e)
theorem rh_nil {T:CTb}{H:Hp}:RH T [] [] H:=⟨rfl,List.nodup_nil,fun n o a e=>by simp at e⟩
theorem law_sp {K:PySem.W.Frag}{T:CTb}{F:Fm}(hK:noList K=true)(hF:∀ ns:List Int,ns.length≤63→∃ h,F [.tl (ns.map W.int)] []=.ok (.bl true) h):∀ vs H Q E,sp_law K vs H Q E→spH T F vs H Q E:=by
 rintro vs H Q E ⟨a,ns,rfl,hS,hl,_,q⟩
 obtain ⟨h,e⟩:=hF ns hl
 refine ⟨[],[],[.tl (ns.map W.int)],rh_nil,?_,?_⟩
 ·unfold RWs; exact ⟨_,[],rfl,script_rw hK hS,by unfold RWs; rfl⟩
 ·rw [e]
  exact fun φ' H' v s r x=>by rw [bl_rw x]; exact q H'
end M
namespace M
open PySem PySem.Spec PyProof.Rows L2
def items (h:Mem):W→Option (List W)
 | .tl ws=>some ws
 | .ref n=>(match h[n]? with
  | some (.lst ws)=>some ws
  | _=>none)
 | _=>none
def seqs (h:Mem):W→Option (List W)
 | .tup ws=>some ws
 | w=>items h w
section
variable {T:CTb} {φ:List Addr} {H:Hp} {h:Mem} {w:W} {v:V} {ws:List W}
theorem items_ok (r:RH T φ h H)(x:RW T φ H w v)(e:items h w=some ws):∃ p vs,v=.ref p∧lstAt H p=some vs∧RWs T φ H ws vs:=by
 cases w with
 | tl us=>
  have e:some us=some ws:=e
  cases e
  unfold RW at x
  obtain ⟨p,vs,a,b,c,d⟩:=x
  exact ⟨p,vs,a,c,d⟩
 | ref n=>
  unfold items at e
  unfold RW at x
  obtain ⟨p,a,rfl⟩:=x
  cases q:h[n]? with
  | none=>simp [q] at e
  | some o=>
   cases o with
   | lst us=>
    simp [q] at e
    subst e
    obtain ⟨ho,y,vs,rfl,z⟩:=r.obj n _ p q a
    exact ⟨p,vs,rfl,lstAt_of y,z⟩
   | _=>simp [q] at e
 | _=>cases e
theorem seqs_ok (r:RH T φ h H)(x:RW T φ H w v)(e:seqs h w=some ws):∃ p vs,v=.ref p∧seqAt H p=some vs∧RWs T φ H ws vs:=by
 cases w with
 | tup us=>
  have e:some us=some ws:=e
  cases e
  unfold RW at x
  obtain ⟨p,vs,a,b,c,d⟩:=x
  exact ⟨p,vs,a,seqAt_tup c,d⟩
 | _=>
  obtain ⟨p,vs,a,b,c⟩:=items_ok r x e
  refine ⟨p,vs,a,?_,c⟩
  rcases lstAt_rd b with q | ⟨o,q⟩
  ·exact seqAt_lst q
  ·unfold seqAt; rw [q]
theorem rws_append:∀ {ws us:List W} {vs xs:List V},RWs T φ H ws vs→RWs T φ H us xs→RWs T φ H (ws++us) (vs++xs)
 | [],us,vs,xs,h,q=>by unfold RWs at h; subst h; exact q
 | w::ws,us,vs,xs,h,q=>by
  unfold RWs at h
  obtain ⟨v,r,rfl,a,b⟩:=h
  rw [List.cons_append,List.cons_append]
  unfold RWs
  exact ⟨v,_,rfl,a,rws_append b q⟩
theorem new_tl {p:Addr}{vs:List V}{Q:VK}(r:RH T φ h H)(hp:H p=none)(x:RWs T φ H ws vs)(k:∀ H' u,Step φ H φ H'→RH T φ h H'→RW T φ H' (.tl ws) u→Q u H'):Q (.ref p) (upd H p (.lst vs)):=by
 have s:=step_tmp (φ:=φ) (ho:=.lst vs) hp
 refine k _ _ s (r.tmp hp) ?_
 unfold RW
 exact ⟨p,vs,rfl,r.fresh hp,lstAt_upd_l,x.step s⟩
theorem here_k {Q:VK}(r:RH T φ h H)(x:RW T φ H w v)(k:∀ H' u,Step φ H φ H'→RH T φ h H'→RW T φ H' w u→Q u H'):Q v H:=k H v (Step.refl _ _) r x
end
section
variable {X:Cx} {T:CTb}
def iop (g:Int→Int→W)(_:Mem):W→W→Option W
 | .int i,.int j=>some (g i j)
 | _,_=>none
theorem iop_ok {g:Int→Int→W}{gv:Int→Int→V}(hg:∀ φ H i j,RW T φ H (g i j) (gv i j)):OpW T (iop g) (rI0 gv):=by
 intro φ h H a b u v w Q r ra rb e k
 unfold iop at e
 split at e
 ·cases e
  exact ⟨_,_,int_rw ra,int_rw rb,here_k r (hg φ H _ _) k⟩
 ·cases e
def iopC (C:Int→Int→Bool)(g:Int→Int→W)(_:Mem):W→W→Option W
 | .int i,.int j=>cond (C i j) (some (g i j)) none
 | _,_=>none
theorem iopC_ok {C:Int→Int→Bool}{Cp:Int→Int→Prop}{g:Int→Int→W}{gv:Int→Int→V}(hC:∀ i j,C i j=true→Cp i j)(hg:∀ φ H i j,RW T φ H (g i j) (gv i j)):OpW T (iopC C g) (rI Cp gv):=by
 intro φ h H a b u v w Q r ra rb e k
 unfold iopC at e
 split at e
 ·rename_i i j
  cases hc:C i j with
  | true=>
   rw [hc] at e
   cases e
   exact ⟨_,_,int_rw ra,int_rw rb,hC _ _ hc,here_k r (hg φ H _ _) k⟩
  | false=>rw [hc] at e; cases e
 ·cases e
theorem rw_int {φ:List Addr}{H:Hp}{i:Int}:RW T φ H (.int i) (.int i):=by unfold RW; rfl
theorem rw_b {φ:List Addr}{H:Hp}{i:Bool}:RW T φ H (.bl i) (.bl i):=by unfold RW; rfl
theorem rw_s {φ:List Addr}{H:Hp}{i:Str}:RW T φ H (.str i) (.str i):=by unfold RW; rfl
def divM:=iopC (fun _ j=>decide (0<j) && decide (j<1073741824)) fun i j=>.int (i / j)
theorem divM_ok:OpW T divM (rI CDiv fun i j=>.int (i / j)):=iopC_ok (fun i j h=>by unfold CDiv; simp only [Bool.and_eq_true,decide_eq_true_eq] at h; exact h) fun _ _ _ _=>rw_int
def modM:=iopC (fun _ j=>decide (0<j)) fun i j=>.int (i % j)
theorem modM_ok:OpW T modM (rI (fun _ j=>0<j) fun i j=>.int (i % j)):=iopC_ok (fun i j h=>of_decide_eq_true h) fun _ _ _ _=>rw_int
def bandM:=iop fun i j=>.int (Builtin.bitAnd i j)
theorem bandM_ok:OpW T bandM (rI0 fun i j=>.int (Builtin.bitAnd i j)):=iop_ok fun _ _ _ _=>rw_int
def ltM:=iop fun i j=>.bl (decide (i<j))
theorem ltM_ok:OpW T ltM (rI0 fun i j=>.bl (decide (i<j))):=iop_ok fun _ _ _ _=>rw_b
def invM (_:Mem):W→Option W
 | .int i=>some (.int (Builtin.bitNot i))
 | _=>none
theorem invM_ok:UnW T invM (rU fun i=>.int (Builtin.bitNot i)):=by
 intro φ h H a u w Q r ra e k
 unfold invM at e
 split at e
 ·cases e
  exact ⟨_,int_rw ra,here_k r rw_int k⟩
 ·cases e
def addM (h:Mem)(a b:W):Option W:=match a,b with
 | .int i,.int j=>some (.int (i+j))
 | .str x,.str y=>if x.length+y.length≤sizeLine then some (.str (x++y)) else none
 | a,b=>(match items h a,items h b with
  | some xs,some ys=>if xs.length+ys.length≤sizeLine then some (.tl (xs++ys)) else none
  | _,_=>none)
theorem addM_ok:OpW T addM addV:=by
 intro φ h H a b u v w Q r ra rb e k
 unfold addM at e
 split at e
 ·cases e
  rw [int_rw ra,int_rw rb]
  exact here_k r rw_int k
 ·split at e
  ·rename_i hz
   cases e
   rw [str_rw ra,str_rw rb]
   exact ⟨hz,here_k r rw_s k⟩
  ·cases e
 ·split at e
  ·rename_i xs ys e1 e2
   obtain ⟨p,vs,rfl,q1,q2⟩:=items_ok r ra e1
   obtain ⟨p',vs',rfl,q3,q4⟩:=items_ok r rb e2
   split at e
   ·rename_i hz
    cases e
    show need (lstAt H p) _
    rw [q1]
    show need (lstAt H p') _
    rw [q3]
    exact ⟨by rw [← q2.length,← q4.length]; exact hz,fun z hp=>new_tl r hp (rws_append q2 q4) k⟩
   ·cases e
  ·cases e
def ixM (h:Mem)(a b:W):Option W:=match b with
 | .int i=>(match a with
  | .str z=>if z.length≤sizeLine then (atI z.cps.toList i).map fun c=>.str ⟨#[c]⟩ else none
  | a=>(seqs h a).bind fun xs=>atI xs i)
 | _=>none
theorem rws_atI {φ:List Addr}{H:Hp}{ws:List W}{vs:List V}{i:Int}{w:W}(r:RWs T φ H ws vs)(e:atI ws i=some w):∃ v,atI vs i=some v∧RW T φ H w v:=by
 unfold atI at e ⊢
 rw [← r.length]
 cases q:ixN ws.length i with
 | none=>rw [q] at e; cases e
 | some j=>
  rw [q] at e
  exact rws_get r e
theorem ixM_ok:OpW T ixM ixV:=by
 intro φ h H a b u v w Q r ra rb e k
 unfold ixM at e
 split at e
 ·rw [int_rw rb]
  split at e
  ·split at e
   ·rename_i hz
    rw [str_rw ra]
    cases q:atI _ _ with
    | none=>rw [q] at e; cases e
    | some c=>
     rw [q] at e
     cases e
     refine ⟨hz,?_⟩
     show need (atI _ _) _
     rw [q]
     exact here_k r rw_s k
   ·cases e
  ·cases q:seqs h a with
   | none=>rw [q] at e; cases e
   | some xs=>
    rw [q] at e
    obtain ⟨p,vs,rfl,q1,q2⟩:=seqs_ok r ra q
    obtain ⟨x,q3,q4⟩:=rws_atI q2 e
    show need (seqAt H p) _
    rw [q1]
    show need (atI vs _) _
    rw [q3]
    exact here_k r q4 k
 ·cases e
def flatW:W→Bool
 | .non=>true
 | .bl _=>true
 | .int _=>true
 | .str _=>true
 | _=>false
def eqFl:W→W→Bool
 | .non,.non=>true
 | .bl a,.bl b=>decide (a=b)
 | .bl a,.int b=>decide ((if a then 1 else 0)=b)
 | .int a,.bl b=>decide (a=(if b then 1 else 0))
 | .int a,.int b=>decide (a=b)
 | .str a,.str b=>decide (a=b)
 | _,_=>false
def allM (f:W→W→Option Bool):List W→List W→Option Bool
 | x::xs,y::ys=>match f x y,allM f xs ys with
  | some a,some b=>some (a && b)
  | _,_=>none
 | _,_=>some true
def sq (h:Mem):W→Option (Bool×List W)
 | .tup ws=>some (false,ws)
 | w=>(items h w).map fun ws=>(true,ws)
def eqM (h:Mem):Nat→W→W→Option Bool
 | 0,a,b=>if (flatW a && flatW b)=true then some (eqFl a b) else none
 | n+1,a,b=>if (flatW a && flatW b)=true then some (eqFl a b) else match sq h a,sq h b with
  | some (true,xs),some (true,ys)=>if xs.length=ys.length then allM (eqM h n) xs ys else some false
  | some (false,xs),some (false,ys)=>(allM (eqM h n) xs ys).map (· && decide (xs.length=ys.length))
  | some (true,_),some (false,_)=>some false
  | some (false,_),some (true,_)=>some false
  | some _,none=>if flatW b=true then some false else none
  | none,some _=>if flatW a=true then some false else none
  | none,none=>none
theorem flat_ok {φ:List Addr}{H:Hp}{a:W}{u:V}(r:RW T φ H a u)(f:flatW a=true):flatV u=true∧∀ {b:W} {v:V},RW T φ H b v→flatW b=true→eqV u v=eqFl a b:=by
 cases a with
 | non=>
  unfold RW at r; subst r
  refine ⟨rfl,fun {b v} q f=>?_⟩
  cases b <;> first | (unfold RW at q; subst q; first | rfl | (simp [eqV,eqFl,Bool.beq_eq_decide_eq]; done)) | cases f
 | bl x=>
  unfold RW at r; subst r
  refine ⟨rfl,fun {b v} q f=>?_⟩
  cases b <;> first | (unfold RW at q; subst q; first | rfl | (simp [eqV,eqFl,Bool.beq_eq_decide_eq]; done)) | cases f
 | int x=>
  unfold RW at r; subst r
  refine ⟨rfl,fun {b v} q f=>?_⟩
  cases b <;> first | (unfold RW at q; subst q; first | rfl | (simp [eqV,eqFl,Bool.beq_eq_decide_eq]; done)) | cases f
 | str x=>
  unfold RW at r; subst r
  refine ⟨rfl,fun {b v} q f=>?_⟩
  cases b <;> first | (unfold RW at q; subst q; first | rfl | (simp [eqV,eqFl,Bool.beq_eq_decide_eq]; done)) | cases f
 | _=>cases f
theorem allM_ok {φ:List Addr}{H:Hp}{f:W→W→Option Bool}{g:V→V→Option Bool}(hf:∀ a b u v c,f a b=some c→RW T φ H a u→RW T φ H b v→g u v=some c) :
  ∀ {ws us:List W} {vs xs:List V} {c:Bool},allM f ws us=some c→RWs T φ H ws vs→RWs T φ H us xs→allF g vs xs=some c
 | [],us,vs,xs,c,e,r,q=>by
  unfold RWs at r; subst r
  cases e; rfl
 | w::ws,[],vs,xs,c,e,r,q=>by
  unfold RWs at q; subst q
  cases e
  cases vs <;> rfl
 | w::ws,u::us,vs,xs,c,e,r,q=>by
  unfold RWs at r q
  obtain ⟨v,vr,rfl,r1,r2⟩:=r
  obtain ⟨x,xr,rfl,q1,q2⟩:=q
  unfold allM at e
  cases e1:f w u with
  | none=>rw [e1] at e; cases e
  | some a=>
   cases e2:allM f ws us with
   | none=>rw [e1,e2] at e; cases e
   | some b=>
    rw [e1,e2] at e
    cases e
    unfold allF
    rw [hf _ _ _ _ _ e1 r1 q1,allM_ok hf e2 r2 q2]
theorem sq_ok {φ:List Addr}{H:Hp}{h:Mem}{a:W}{u:V}{b:Bool}{ws:List W}(r:RH T φ h H)(x:RW T φ H a u)(e:sq h a=some (b,ws)):∃ p vs,u=.ref p∧RWs T φ H ws vs∧(b=true→lstAt H p=some vs)∧(b=false→tupAt H p=some vs∧lstAt H p=none):=by
 cases a with
 | tup us=>
  have e:some (false,us)=some (b,ws):=e
  cases e
  unfold RW at x
  obtain ⟨p,vs,y,_,c,d⟩:=x
  exact ⟨p,vs,y,d,fun z=>(by cases z),fun _=>⟨tupAt_of c,by unfold lstAt; rw [c]⟩⟩
 | _=>
  unfold sq at e
  simp only [Option.map_eq_some_iff] at e
  obtain ⟨us,e1,e2⟩:=e
  cases e2
  obtain ⟨p,vs,y,c,d⟩:=items_ok r x e1
  exact ⟨p,vs,y,d,fun _=>c,fun z=>by cases z⟩
theorem eqM_ok {φ:List Addr}{H:Hp}{h:Mem}(r:RH T φ h H):∀ (n:Nat) (a b:W) (u v:V) (c:Bool),eqM h n a b=some c→RW T φ H a u→RW T φ H b v→eqF H n u v=some c
 | 0,a,b,u,v,c,e,ra,rb=>by
  unfold eqM at e
  split at e
  ·rename_i hf
   cases e
   rw [Bool.and_eq_true] at hf
   have f1:=flat_ok ra hf.1
   have f2:=flat_ok rb hf.2
   unfold eqF
   rw [f1.1,f2.1,f1.2 rb hf.2]; rfl
  ·cases e
 | n+1,a,b,u,v,c,e,ra,rb=>by
  have ih:=fun a b u v c=>eqM_ok r n a b u v c
  unfold eqM at e
  split at e
  ·rename_i hf
   cases e
   rw [Bool.and_eq_true] at hf
   have f1:=flat_ok ra hf.1
   have f2:=flat_ok rb hf.2
   rw [eqF_flat4 (by rw [f1.1,f2.1]; rfl),f1.2 rb hf.2]
  ·split at e
   ·rename_i xs ys e1 e2
    obtain ⟨p,vs,rfl,q1,q2,_⟩:=sq_ok r ra e1
    obtain ⟨p',vs',rfl,q3,q4,_⟩:=sq_ok r rb e2
    rw [eqF_lists (q2 rfl) (q4 rfl),← q1.length,← q3.length]
    split at e
    ·rename_i hl
     rw [if_pos hl]
     exact allM_ok ih e q1 q3
    ·rename_i hl
     rw [if_neg hl]; exact e
   ·rename_i xs ys e1 e2
    obtain ⟨p,vs,rfl,q1,_,q2⟩:=sq_ok r ra e1
    obtain ⟨p',vs',rfl,q3,_,q4⟩:=sq_ok r rb e2
    rw [eqF_tuples (q2 rfl).1 (q4 rfl).1,← q1.length,← q3.length]
    cases e3:allM (eqM h n) xs ys with
    | none=>rw [e3] at e; cases e
    | some d=>
     rw [e3] at e
     rw [allM_ok ih e3 q1 q3]
     exact e
   ·rename_i xs ys e1 e2
    cases e
    obtain ⟨p,vs,rfl,q1,q2,_⟩:=sq_ok r ra e1
    obtain ⟨p',vs',rfl,q3,_,q4⟩:=sq_ok r rb e2
    unfold eqF
    rw [if_neg (by simp [flatV])]
    simp [q2 rfl,(q4 rfl).1,(q4 rfl).2]
   ·rename_i xs ys e1 e2
    cases e
    obtain ⟨p,vs,rfl,q1,_,q2⟩:=sq_ok r ra e1
    obtain ⟨p',vs',rfl,q3,q4,_⟩:=sq_ok r rb e2
    unfold eqF
    rw [if_neg (by simp [flatV])]
    simp [q4 rfl,(q2 rfl).1,(q2 rfl).2]
   ·rename_i x e1 e2
    split at e
    ·rename_i hf
     cases e
     obtain ⟨bb,xs⟩:=x
     obtain ⟨p,vs,rfl,q1,q2,q3⟩:=sq_ok r ra e1
     have f2:=(flat_ok rb hf).1
     have hs:(seqAt H p).isSome=true:=by
      cases bb with
      | true=>
       rcases lstAt_rd (q2 rfl) with z | ⟨o,z⟩ <;> (unfold seqAt; rw [z]; rfl)
      | false=>rw [seqAt_tup (tupAt_eq (q3 rfl).1)]; rfl
     unfold eqF
     rw [if_neg (by simp [flatV])]
     cases v <;> first | (simp [hs,f2]; done) | (simp [flatV] at f2)
    ·cases e
   ·rename_i x e1 e2
    split at e
    ·rename_i hf
     cases e
     obtain ⟨bb,xs⟩:=x
     obtain ⟨p,vs,rfl,q1,q2,q3⟩:=sq_ok r rb e2
     have f2:=(flat_ok ra hf).1
     have hs:(seqAt H p).isSome=true:=by
      cases bb with
      | true=>
       rcases lstAt_rd (q2 rfl) with z | ⟨o,z⟩ <;> (unfold seqAt; rw [z]; rfl)
      | false=>rw [seqAt_tup (tupAt_eq (q3 rfl).1)]; rfl
     unfold eqF
     rw [if_neg (by simp [flatV])]
     cases u <;> first | (simp [hs,f2]; done) | (simp [flatV] at f2)
    ·cases e
   ·cases e
def eqO (h:Mem)(a b:W):Option W:=(eqM h 4 a b).map .bl
def neO (h:Mem)(a b:W):Option W:=(eqM h 4 a b).map fun c=>.bl (!c)
theorem eqO_ok:OpW T eqO rEqF:=by
 intro φ h H a b u v w Q r ra rb e k
 unfold eqO at e
 cases q:eqM h 4 a b with
 | none=>rw [q] at e; cases e
 | some c=>
  rw [q] at e
  cases e
  unfold rEqF
  rw [eqM_ok r 4 a b u v c q ra rb]
  exact here_k r rw_b k
theorem neO_ok:OpW T neO rNeF:=by
 intro φ h H a b u v w Q r ra rb e k
 unfold neO at e
 cases q:eqM h 4 a b with
 | none=>rw [q] at e; cases e
 | some c=>
  rw [q] at e
  cases e
  unfold rNeF
  rw [eqM_ok r 4 a b u v c q ra rb]
  exact here_k r rw_b k
abbrev Ty:=Sum String Str
def tyN (h:Mem):W→Option Ty
 | .non=>some (.inl "NoneType")
 | .bl _=>some (.inl "bool")
 | .int _=>some (.inl "int")
 | .str _=>some (.inl "str")
 | .tup _=>some (.inl "tuple")
 | .tl _=>some (.inl "list")
 | .td _ _=>some (.inl "dict")
 | .ti c _ _=>some (.inr c)
 | .ref n=>(match h[n]? with
  | some (.lst _)=>some (.inl "list")
  | some (.dic _)=>some (.inl "dict")
  | some (.ins c _)=>some (.inr c)
  | some (.fdic _)=>none
  | none=>none)
 | _=>none
def TV (T:CTb):Ty→Value→Prop
 | .inl n,v=>v=.type n
 | .inr c,v=>∃ C,T.any c=some C∧v=.ref C
abbrev Kit:=List ((Ty×Ty)×Bool)
def KitOk (K:PySem.W.Frag)(T:CTb)(kit:Kit):Prop:=∀ e∈kit,∃ tv cv,TV T e.1.1 tv∧TV T e.1.2 cv∧PySem.W.kitOne K tv cv=some e.2
structure InsTy (K:PySem.W.Frag)(C:Addr):Prop where
 cl:Cls K C
 ha:PySem.W.findIn K (.ref C) "__class__"=some (some (.builtin "object.__class__"))
 hn:PySem.W.specialIn K (.builtin "object.__class__") "__get__"=some (some (.builtin "getset_descriptor.__get__"))
 htk:PySem.W.takesIn K (.builtin "object.__class__")=some true
 hm:PySem.W.mroIn K C (.type "object")=some true
def InsOk (K:PySem.W.Frag)(T:CTb):Prop:=∀ c C,T c=some C→InsTy K C
def Kit.get (kit:Kit)(t c:Ty):Option Bool:=(kit.find? fun e=>decide (e.1=(t,c))).map (·.2)
theorem Kit.mem {kit:Kit}{t c:Ty}{b:Bool}(h:kit.get t c=some b):((t,c),b)∈kit:=by
 unfold Kit.get at h
 rw [Option.map_eq_some_iff] at h
 obtain ⟨⟨e1,e2⟩,e,rfl⟩:=h
 have:=List.find?_some e
 have q:e1=(t,c):=of_decide_eq_true this
 subst q
 exact List.mem_of_find?_eq_some e
theorem tyN_ok {K:PySem.W.Frag}(hI:InsOk K T){φ:List Addr}{H:Hp}{h:Mem}{w:W}{v:V}{t:Ty}{tv:Value}(r:RH T φ h H)(x:RW T φ H w v)(e:tyN h w=some t)(ht:TV T t tv):TyOf K H v tv:=by
 cases w with
 | non=>cases e; cases ht; unfold RW at x; subst x; exact .non
 | bl b=>cases e; cases ht; unfold RW at x; subst x; exact .bl b
 | int b=>cases e; cases ht; unfold RW at x; subst x; exact .int b
 | str b=>cases e; cases ht; unfold RW at x; subst x; exact .str b
 | tup b=>cases e; cases ht; unfold RW at x; obtain ⟨p,vs,rfl,_,c,_⟩:=x; exact .tup c
 | tl b=>
  cases e; cases ht; unfold RW at x
  obtain ⟨p,vs,rfl,_,c,_⟩:=x
  rcases lstAt_rd c with q | ⟨o,q⟩
  ·exact .lst q
  ·exact .frz q
 | td k b=>cases e; cases ht; unfold RW at x; obtain ⟨p,vs,rfl,_,c,_⟩:=x; exact .dK c
 | ti c f b=>
  cases e; unfold RW at x
  obtain ⟨p,C,dx,vs,rfl,_,c1,c2,_⟩:=x
  obtain ⟨C',c3,rfl⟩:=ht
  rw [CTb.any_t c1] at c3; cases c3
  have i:=hI _ _ c1
  exact .ins c2 i.cl i.ha i.hn i.htk i.hm
 | ref n=>
  unfold tyN at e
  unfold RW at x
  obtain ⟨p,a,rfl⟩:=x
  cases q:h[n]? with
  | none=>simp [q] at e
  | some o=>
   obtain ⟨ho,y,z⟩:=r.obj n o p q a
   cases o with
   | lst us=>simp [q] at e; subst e; cases ht; obtain ⟨vs,rfl,_⟩:=z; exact .lst y
   | dic us=>simp [q] at e; subst e; cases ht; obtain ⟨vs,rfl,_⟩:=z; exact .dK y
   | ins c fs=>
    simp [q] at e; subst e
    obtain ⟨C,dx,fv,rfl,c1,_⟩:=z
    obtain ⟨C',c3,rfl⟩:=ht
    rw [CTb.any_t c1] at c3; cases c3
    have i:=hI _ _ c1
    exact .ins y i.cl i.ha i.hn i.htk i.hm
   | fdic us=>simp [q] at e
 | ty n=>cases e
 | cls n=>cases e
 | exc _ _ _=>cases e
end
section
variable {X:Cx} {Z:Zc} {f g:Ex} {x:Str} {p pos:Pos} {a:Expr} {st:Stmt}
theorem ph_gci {i:Int}(hg:Gl X x)(h:GC X.mg x (.int i))(hd:(x == ("__debug__":Str))=false:=by decide):PE X (.Name x p) (tH Z (xC (.int i))):=ph_c (pe_gc hg h hd) fun _ _=>rw_int
theorem ph_cls {C:Addr}(hg:Gl X x)(h:GC X.mg x (.ref C))(hT:Z.T.any x=some C)(hd:(x == ("__debug__":Str))=false:=by decide):PE X (.Name x p) (tH Z (xC (.cls x))):=ph_c (pe_gc hg h hd) fun _ _=>by unfold RW; exact ⟨C,hT,rfl⟩
def xNo:Sm:=fun _ _=>.no
end
end M
namespace M
open PySem PySem.Spec PyProof.Rows L2
section
variable {X:Cx} {T:CTb}
theorem rws_one {φ:List Addr}{H:Hp}{w:W}{vs:List V}(x:RWs T φ H [w] vs):∃ v,vs=[v]∧RW T φ H w v:=by
 unfold RWs at x
 obtain ⟨v1,r1,rfl,x1,x2⟩:=x
 unfold RWs at x2; subst x2
 exact ⟨v1,rfl,x1⟩
theorem rws_two {φ:List Addr}{H:Hp}{w w':W}{vs:List V}(x:RWs T φ H [w,w'] vs):∃ v v',vs=[v,v']∧RW T φ H w v∧RW T φ H w' v':=by
 unfold RWs at x
 obtain ⟨v1,r1,rfl,x1,x2⟩:=x
 obtain ⟨v2,rfl,x3⟩:=rws_one x2
 exact ⟨v1,v2,rfl,x1,x3⟩
def truM (h:Mem):W→Option W
 | .non=>some (.bl false)
 | .bl b=>some (.bl b)
 | .int i=>some (.bl (decide (i≠0)))
 | .str y=>if y.length≤sizeLine then some (.bl (decide (y.length≠0))) else none
 | .tup ws=>some (.bl (!ws.isEmpty))
 | .tl ws=>some (.bl (!ws.isEmpty))
 | _=>none
theorem rws_isEmpty {φ:List Addr}{H:Hp}{ws:List W}{vs:List V}(r:RWs T φ H ws vs):vs.isEmpty=ws.isEmpty:=by
 cases ws with
 | nil=>unfold RWs at r; subst r; rfl
 | cons w ws=>unfold RWs at r; obtain ⟨v,s,rfl,_⟩:=r; rfl
theorem truM_ok {φ:List Addr}{H:Hp}{h:Mem}{a:W}{v:V}{b:Bool}{k:Bool→Prop}(x:RW T φ H a v)(e:truM h a=some (.bl b))(q:k b):truF H v k:=by
 cases a with
 | non=>cases e; unfold RW at x; subst x; exact q
 | bl c=>cases e; unfold RW at x; subst x; exact q
 | int c=>cases e; unfold RW at x; subst x; exact q
 | str c=>
  unfold RW at x; subst x
  by_cases hz:c.length≤sizeLine
  ·simp only [truM,hz,if_true] at e
   cases e; exact ⟨hz,q⟩
  ·simp [truM,hz] at e
 | tup ws=>
  cases e
  unfold RW at x
  obtain ⟨p,vs,rfl,_,c,d⟩:=x
  show (match H p with | some (.dK kvs)=>k (!kvs.isEmpty) | _=>need (seqAt H p) fun xs=>k (!xs.isEmpty))
  rw [c]
  show need (seqAt H p) _
  rw [seqAt_tup c]
  show k (!vs.isEmpty)
  rw [rws_isEmpty d]; exact q
 | tl ws=>
  cases e
  unfold RW at x
  obtain ⟨p,vs,rfl,_,c,d⟩:=x
  show (match H p with | some (.dK kvs)=>k (!kvs.isEmpty) | _=>need (seqAt H p) fun xs=>k (!xs.isEmpty))
  rcases lstAt_rd c with z | ⟨o,z⟩
  ·rw [z]
   show need (seqAt H p) _
   rw [seqAt_lst z]
   show k (!vs.isEmpty)
   rw [rws_isEmpty d]; exact q
  ·rw [z]
   have:seqAt H p=some vs:=by unfold seqAt; rw [z]
   show need (seqAt H p) _
   rw [this]
   show k (!vs.isEmpty)
   rw [rws_isEmpty d]; exact q
 | _=>cases e
end
section
variable {X:Cx} {Z:Zc} {f:Ex} {a:Expr}
theorem pth_tru (ha:PE X a (tH Z f))(he:∀ whole,isTrue a X.env whole=(do let v ← whole; standAt a.pos; holding [v] (truthy v))):PT X a (tHT Z (xUn truM f)):=(pt_tru ha he).imp fun σ H Q ⟨φ,m,ρ,x,q⟩=>⟨φ,m,ρ,x,by
 unfold xUn at q
 rw [bindP] at q
 refine q.mono fun a h1 q1=>fun φ1 H1 v s1 r1 ra=>?_
 obtain ⟨w,e,b,rfl,k⟩:=ofP q1
 exact truM_ok (b:=b) ra e (k φ1 H1 s1 r1)⟩
end
section
variable {X:Cx} {T:CTb}
def intW:List W→Option (List Int)
 | []=>some []
 | .int i::r=>(intW r).map (i :: ·)
 | _::_=>none
theorem intW_map (ns:List Int):intW (ns.map W.int)=some ns:=by
 induction ns with
 | nil=>rfl
 | cons x r ih=>rw [List.map_cons]; unfold intW; rw [ih]; rfl
def strW:List W→Option (List Str)
 | []=>some []
 | .str i::r=>(strW r).map (i :: ·)
 | _::_=>none
theorem strW_ok {φ:List Addr}{H:Hp}:∀ {ws:List W} {vs:List V} {ns:List Str},RWs T φ H ws vs→strW ws=some ns→strsOf vs=some ns
 | [],vs,ns,r,e=>by cases e; unfold RWs at r; subst r; rfl
 | w::ws,vs,ns,r,e=>by
  unfold RWs at r
  obtain ⟨v,s,rfl,a,b⟩:=r
  cases w with
  | str i=>
   unfold strW at e
   rw [Option.map_eq_some_iff] at e
   obtain ⟨ms,e,rfl⟩:=e
   rw [str_rw a]
   unfold strsOf
   rw [strW_ok b e]; rfl
  | _=>cases e
theorem strW_map (ns:List Str):strW (ns.map W.str)=some ns:=by
 induction ns with
 | nil=>rfl
 | cons x r ih=>rw [List.map_cons]; unfold strW; rw [ih]; rfl
def joinM (h:Mem)(a:W)(ws:List W):Option W:=match a,ws with
 | .str sep,[w]=>((items h w).bind strW).bind fun ts=>if JoinOk sep ts=true then some (.str (Txt.join sep ts)) else none
 | _,_=>none
theorem joinM_ok:BmW T joinM rJoin:=by
 intro φ h H a u ws vs w Q r ra x e k
 unfold joinM at e
 split at e
 ·obtain ⟨v,rfl,y0⟩:=rws_one x
  rw [Option.bind_eq_some_iff] at e
  obtain ⟨ts,e,e3⟩:=e
  rw [Option.bind_eq_some_iff] at e
  obtain ⟨us,e1,e2⟩:=e
  obtain ⟨p,vs,rfl,q1,q2⟩:=items_ok r y0 e1
  split at e3
  ·rename_i hj
   cases e3
   rw [str_rw ra]
   show need (lstAt H p) _
   rw [q1]
   show need (strsOf vs) _
   rw [strW_ok q2 e2]
   exact ⟨hj,here_k r rw_s k⟩
  ·cases e3
 ·cases e
end
section
variable {X:Cx} {Z:Zc} {f:Ex} {fa:Exs} {o e:Expr} {apos cpos:Pos}
def xBmS (op:Mem→W→List W→Option W)(f:Ex)(g:Exs):Ex:=fun ρ h=>(f ρ h).bind fun a h1=>match a with
 | .str z=>(match g ρ h1 with
  | .ok ws h2=>.of (op h2 (.str z) ws) h2
  | .ex w h2=>.ex w h2
  | .no=>.no)
 | _=>.no
theorem bmS_ok {op:Mem→W→List W→Option W}{r:V→List V→Hp→VK→Prop}(hw:BmW Z.T op r){K:PySem.W.Frag}{σ:St}{H:Hp}{Q:VK}(q:tH Z (xBmS op f fa) σ H Q):tBM K "str" r (tH Z f) (tHA Z fa) σ H Q:=by
 obtain ⟨φ,m,ρ,x,q⟩:=q
 refine ⟨φ,m,ρ,x,?_⟩
 unfold xBmS at q
 rw [bindP] at q
 refine q.mono fun a h1 q1=>fun φ1 H1 u s1 r1 ra=>?_
 cases a with
 | str z=>
  rw [str_rw ra]
  refine ⟨rfl,φ1,h1,ρ,x.step s1 r1,?_⟩
  simp only at q1
  cases e2:fa ρ h1 with
  | no=>rw [e2] at q1; exact q1.elim
  | ex w h2=>rw [e2] at q1; exact q1
  | ok ws h2=>
   rw [e2] at q1
   intro φ2 H2 vs s2 r2 rw2
   obtain ⟨w,e,k⟩:=ofP q1
   exact hw φ2 h2 H2 (.str z) (.str z) ws vs w Q r2 rw_s rw2 e (k.step (s1.trans s2)).end
 | _=>exact q1.elim
theorem BH_join (ho:PE X o (tH Z f))(ha:PA X [e] (tHA Z fa))(hbase:attributeBase o "join" X.env (eval o X.env)=eval o X.env:=by rfl)
  (hfew:((backTo cpos (starEach [e] X.env)).all (fun x=>!x.1) && (backToKw cpos (keywordEach [] X.env)).all (fun x=>x.1.isSome)
   && decide (([e]:List Expr).length+([]:List Keyword).length+(if ([]:List Keyword).isEmpty then 0 else 1)<30))=true:=by rfl)
  (hline:(apos.endLine == cpos.line)=true:=by rfl) (hs:starEach [e] X.env=(false,eval e X.env)::starEach [] X.env:=by rfl) (hplain:(backTo cpos (starEach [] X.env)).any (·.1)=false:=by rfl) :
  PE X (.Call (.Attribute o "join" apos) [e] [] cpos) (tH Z (xBmS joinM f fa)):=
 (pe_bm PySem.F.plainAttrs_str PySem.F.slot_str_join PySem.F.type_str_join mt_join ho ha hbase hfew hline hs hplain).imp fun σ H Q q=>bmS_ok joinM_ok q
end
end M
namespace M
open PySem PySem.Spec PyProof.Rows L2
structure QE (X:Cx)(Z:Zc)(e:Expr)(f:Ex):Prop where
 pe:PE X e (tH Z f)
structure QT (X:Cx)(Z:Zc)(e:Expr)(f:Ex):Prop where
 pt:PT X e (tHT Z f)
structure QA (X:Cx)(Z:Zc)(es:List Expr)(f:Exs):Prop where
 pa:PA X es (tHA Z f)
structure QI (X:Cx)(Z:Zc)(tg iter:Expr)(f:Ei):Prop where
 pi:PI X tg iter (tHI Z f)
structure QC (X:Cx)(Z:Zc)(ifs:List Expr)(f:Ex):Prop where
 pc:PCs X ifs (tHT Z f)
structure QG (X:Cx)(tg:Expr)(g:TG):Prop where
 pg:PG X tg g
structure QGs (X:Cx)(tgs:List Expr)(g:TGs):Prop where
 pg:PGs X tgs g
structure QS (X:Cx)(Z:Zc)(st:Stmt)(F:Sm):Prop where
 ps:PS X st (tHS Z F)
structure QB (X:Cx)(Z:Zc)(sts:List Stmt)(F:Sm):Prop where
 ps:PSs X sts (tHS Z F)
section
variable {X:Cx} {Z:Zc} {f g k:Ex} {fa:Exs} {fi:Ei} {l u:Eo} {e a b c:Expr} {es rest:List Expr} {pos p p2:Pos} {F G B:Sm} {st:Stmt} {sts more:List Stmt} {tg iter:Expr} {x:Str} {gg:TG} {Gt:Tg}
theorem q_var (i:Nat){pos:Pos}(hN:X.N[i]? = some x:=by rfl)(hv:Vis X.env.scope x:=by first | exact Or.inl rfl | exact Or.inr (Or.inl rfl) | exact Or.inr (Or.inr rfl))(hd:(x == ("__debug__":Str))=false:=by decide)
  (hcd:(x == ("__classdict__":Str))=false:=by decide):QE X Z (.Name x pos) (xVar i):=⟨ph_var i (pe_var hN hv hd hcd)⟩
theorem q_int {i j pos}:QE X Z (.Constant (.int i) j pos) (xC (.int i)):=⟨ph_int⟩
theorem q_bl {b j pos}:QE X Z (.Constant (.bool b) j pos) (xC (.bl b)):=⟨ph_bl⟩
theorem q_non {j pos}:QE X Z (.Constant .none j pos) (xC .non):=⟨ph_non⟩
theorem q_str {x j pos}:QE X Z (.Constant (.str x) j pos) (xC (.str x)):=⟨ph_str⟩
theorem q_gci {i:Int}(hg:Gl X x)(h:GC X.mg x (.int i))(hd:(x == ("__debug__":Str))=false:=by decide):QE X Z (.Name x p) (xC (.int i)):=⟨ph_gci hg h hd⟩
theorem q_cls {C:Addr}(hg:Gl X x)(h:GC X.mg x (.ref C))(hT:Z.T.any x=some C)(hd:(x == ("__debug__":Str))=false:=by decide):QE X Z (.Name x p) (xC (.cls x)):=⟨ph_cls hg h hT hd⟩
theorem q_bin {op:Operator}{o:Mem→W→W→Option W}{r:R2}(ho:OpR X (binaryOp op) r)(hw:OpW Z.T o r)(ha:QE X Z a f)(hb:QE X Z b g):QE X Z (.BinOp a op b pos) (xBin o f g):=⟨ph_bin ho hw ha.pe hb.pe⟩
theorem q_cmp {op:CmpOp}{o:Mem→W→W→Option W}{r:R2}(ho:OpR X (compareOp op) r)(hw:OpW Z.T o r)(ha:QE X Z a f)(hb:QE X Z b g)(hm:behindInMarks op b=false):QE X Z (.Compare a [op] [b] pos) (xBin o f g):=⟨ph_cmp ho hw ha.pe hb.pe hm⟩
theorem qt_cmp {op:CmpOp}{o:Mem→W→W→Option W}{r:R2}(ho:OpR X (compareOp op) r)(hw:OpW Z.T o r)(ha:QE X Z a f)(hb:QE X Z b g)(hm:behindInMarks op b=false):QT X Z (.Compare a [op] [b] pos) (xBin o f g):=⟨pth_cmp ho hw ha.pe hb.pe hm⟩
theorem q_ix {o:Mem→W→W→Option W}{r:R2}(ho:IxR X r)(hw:OpW Z.T o r)(ha:QE X Z a f)(hb:QE X Z b g)(hs:PlainIx b):QE X Z (.Subscript a b pos) (xBin o f g):=⟨ph_ix ho hw ha.pe hb.pe hs⟩
theorem q_un {op:UnaryOp}{o:Mem→W→Option W}{r:V→Hp→VK→Prop}(ho:UnR X (unaryOp op) r)(hw:UnW Z.T o r)(ha:QE X Z a f):QE X Z (.UnaryOp op a pos) (xUn o f):=⟨ph_un ho hw ha.pe⟩
theorem qt_val (h:QE X Z e f)(he:∀ whole,isTrue e X.env whole=(do let v ← whole; standAt e.pos; holding [v] (truthy v)):=by intro _; rfl):QT X Z e f:=⟨pth_val h.pe he⟩
theorem qt_tru (h:QE X Z e f)(he:∀ whole,isTrue e X.env whole=(do let v ← whole; standAt e.pos; holding [v] (truthy v)):=by intro _; rfl):QT X Z e (xUn truM f):=⟨pth_tru h.pe he⟩
theorem q_one {op}(h:QE X Z a f):QE X Z (.BoolOp op [a] pos) f:=⟨ph_one h.pe⟩
theorem q_if (hc:QT X Z c k)(ha:QE X Z a f)(hb:QE X Z b g):QE X Z (.IfExp c a b pos) (xIf k f g):=⟨ph_if hc.pt ha.pe hb.pe⟩
theorem qa_nil:QA X Z [] xNil:=⟨pah_nil⟩
theorem qa_cons (ha:QE X Z e f)(hr:QA X Z es fa)(hs:starEach (e::es) X.env=(false,eval e X.env)::starEach es X.env:=by rfl):QA X Z (e::es) (xCons f fa):=⟨pah_cons ha.pe hr.pa hs⟩
theorem q_tup {x1}(h:QA X Z es fa):QE X Z (.Tuple es x1 pos) (xTup fa):=⟨ph_tup h.pa⟩
theorem q_lst (h:QA X Z es fa):QE X Z (.List es pos) (xLst fa):=⟨ph_lst h.pa⟩
theorem q_cb {r:List V→Hp→VK→Prop}{o:Mem→List W→Option W}{id:String}(hw:CbW Z.T o r)(hc:CallR X (.builtin id) r)(hg:Gl X x)(hm:X.mg x=none)(hv:bootBuiltins x=some (.builtin id))(ha:QA X Z (e::es) fa)(hn:x≠"__name__":=by decide)(hdb:(x == ("__debug__":Str))=false:=by decide)
  (he:starEach (e::es) X.env=(false,eval e X.env)::starEach es X.env:=by rfl) (hpl:(backTo pos (starEach es X.env)).any (·.1)=false:=by rfl):QE X Z (.Call (.Name x p) (e::es) [] pos) (xCb o fa):=
 ⟨ph_cb hw (fun h=>pe_callB hc hg hm hv h hn hdb he hpl) ha.pa⟩
theorem q_fn0 {kk j:Nat}{Fm':Fm}(Gf:FnAt X.prog X.w X.K X.mg X.base CX0 kk x (spH Z.T Fm'))(hr:Room j X.A)(hkj:kk≤j)(hg:Gl X x)(ha:QA X Z (e::es) fa)(hdb:(x == ("__debug__":Str))=false:=by decide)
  (he:starEach (e::es) X.env=(false,eval e X.env)::starEach es X.env:=by rfl) (hpl:(backTo pos (starEach es X.env)).any (·.1)=false:=by rfl) (hcl:X.calm=true:=by rfl):QE X Z (.Call (.Name x p) (e::es) [] pos) (xCall0 Fm' fa):=⟨ph_fn0 Gf hr hkj hg ha.pa hdb he hpl hcl⟩
theorem q_join {o:Expr}{apos cpos:Pos}(ho:QE X Z o f)(ha:QA X Z [e] fa)(hbase:attributeBase o "join" X.env (eval o X.env)=eval o X.env:=by rfl)
  (hfew:((backTo cpos (starEach [e] X.env)).all (fun x=>!x.1) && (backToKw cpos (keywordEach [] X.env)).all (fun x=>x.1.isSome)
   && decide (([e]:List Expr).length+([]:List Keyword).length+(if ([]:List Keyword).isEmpty then 0 else 1)<30))=true:=by rfl)
  (hline:(apos.endLine == cpos.line)=true:=by rfl) (hs:starEach [e] X.env=(false,eval e X.env)::starEach [] X.env:=by rfl) (hplain:(backTo cpos (starEach [] X.env)).any (·.1)=false:=by rfl) :
  QE X Z (.Call (.Attribute o "join" apos) [e] [] cpos) (xBmS joinM f fa):=⟨BH_join ho.pe ha.pa hbase hfew hline hs hplain⟩
theorem qg_name {i:Nat}(hN:X.N.Nodup)(hi:X.N[i]? = some x)(hx:Loc X.env.scope x)(hf:X.fn x=true∨X.env.scope.names.lookup x=some .local:=by first | exact .inl rfl | exact .inr rfl | assumption):QG X (.Name x pos) (gName i):=⟨pg_name hN hi hx hf⟩
theorem qg_cn {own fr:List Str}{scope:Scope}(i:Nat){C:Addr}{s:Shared}{H:Hp}{pins:List (Addr×Obj)}{fp:List Addr}(hnd:(own++fr).Nodup)(hi:(own++fr)[i]? = some x)(hx:x∈own)(hl:scope.names.lookup x=some .local):QG (cxComp X own fr scope C s H pins fp) (.Name x p) (gName i):=⟨pg_cn i hnd hi hx hl⟩
theorem qgs_nil:QGs X [] gNil:=⟨pgs_nil⟩
theorem qi_list (h:QE X Z iter f):QI X Z tg iter (xIl f):=⟨phi_list h.pe⟩
theorem qi_range1 (hg:Gl X "range")(hm:X.mg "range"=none)(ha:QE X Z a f)(hs:starEach [a] X.env=[(false,eval a X.env)]:=by rfl)(hc:X.calm=true:=by rfl):QI X Z tg (.Call (.Name "range" p) [a] [] pos) (xIr1 f):=⟨phi_range1 hg hm ha.pe hs hc⟩
theorem qc_one (h:QT X Z c f):QC X Z [c] f:=⟨pcsh_one h.pt⟩
theorem qb_nil:QB X Z [] xNext:=⟨pssh_nil⟩
theorem qb_cons (h1:QS X Z st F)(h2:QB X Z sts G):QB X Z (st::sts) (xSeq F G):=⟨pssh_cons h1.ps h2.ps⟩
theorem qb_one (h1:QS X Z st F):QB X Z [st] F:=⟨pssh_one h1.ps⟩
theorem qs_ret (he:QE X Z e f):QS X Z (.Return (some e) pos) (xRet f):=⟨psh_ret he.pe⟩
theorem qs_expr (he:QE X Z e f)(hs:swapsWith e none pos.line X.env=pure false:=by rfl):QS X Z (.Expr e pos) (xDrop f):=⟨psh_expr he.pe hs⟩
theorem qs_if (hc:QT X Z c f)(ha:QB X Z sts F)(hb:QB X Z more G):QS X Z (.If c sts more pos) (xIfS f F G):=⟨psh_if hc.pt ha.ps hb.ps⟩
theorem qs_set {i:Nat}{pos':Pos}(hN:X.N.Nodup)(hi:X.N[i]? = some x)(hx:Loc X.env.scope x)(hsg:∀ σ v,Z.sg σ→Z.sg (σ.set i (some v)))(he:QE X Z e f)(hs:swapsWith e (some (.Name x pos')) pos.line X.env=pure false:=by rfl)
  (hf:X.fn x=true∨X.env.scope.names.lookup x=some .local:=by first | exact .inl rfl | exact .inr rfl | assumption):QS X Z (.Assign [.Name x pos'] e pos) (xAsg (gN i) f):=⟨psh_set hN hi hx hsg he.pe hs hf⟩
theorem qs_setc {osc:Scope}{N own fr:List Str}{ix:List Nat}{scope:Scope}{elt:Expr}{ifs:List Expr}{cc el:Ex}{i:Nat}{px spos:Pos}(hnd:X.N.Nodup)(hi':X.N[i]? = some x)(hl:X.env.scope.names.lookup x=some .local)(hsg:∀ σ v,Z.sg σ→Z.sg (σ.set i (some v)))(hcalm:X.calm=X.calm)(ho:X.env.scope=osc)(hN:X.N=N)
  (hk:compOk osc N own fr ix scope=true) (hi:QI X Z tg iter fi) (hG:∀ σ,TgW (Zb Z.T own ix σ) gg Gt) [hc:Pu cc] [he:Pu el]
  (hg:InC X own fr scope fun Y=>QG Y tg gg) (ht:∀ σ,InC X own fr scope fun Y=>QC Y (Zb Z.T own ix σ) ifs cc) (hel:∀ σ,InC X own fr scope fun Y=>QE Y (Zb Z.T own ix σ) elt el) (hs:∀ x,foldedSetIterable iter X.env x=pure x:=by intro _; rfl)
  (hsw:swapsWith (.ListComp elt [⟨tg,iter,ifs,0⟩] scope pos) (some (.Name x px)) spos.line X.env=pure true:=by rfl) :
  QS X Z (.Assign [.Name x px] (.ListComp elt [⟨tg,iter,ifs,0⟩] scope pos) spos) (xAsg (gN i) (xComp fi own.length ix Gt cc el)):=
 ⟨psh_setc hnd hi' hl hsg hcalm ho hN hk hi.pi hG (fun a b c d e=>(hg a b c d e).pg) (fun σ a b c d e=>(ht σ a b c d e).pc) (fun σ a b c d e=>(hel σ a b c d e).pe) hs hsw⟩
theorem qs_for (hw:TgW Z gg Gt)(hp:PassesOwn (model X.prog X.w) X.A X.env X.xe)(hc:X.calm=X.calm)(hi:QI X Z tg iter fi)(hg:QG X tg gg)(hb:QB X Z sts B)(hs:∀ x,foldedSetIterable iter X.env x=pure x:=by intro _; rfl) :
  QS X Z (.For tg iter sts [] pos) (xFor fi Gt B):=⟨psh_for hw hp hc hi.pi hg.pg hb.ps hs⟩
end
section
variable {P:Program} {w:World} {K:PySem.W.Frag} {mg:Str→Option Value} {base:Heap} {T:CTb}
theorem fun0q {x:Str}{st:Stmt}{N ps:List Str}{k:Nat}{F:Fm}{f:Addr}{fd:FuncData}{B:Sm}(R:Fun K x x st f fd)(S:FnScope N ps (defScope st))
  (hB:∀ (cdv:Value) (A:Around) (outer:List Env) (s:Shared) (H:Hp) (E:XK) (φ0:List Addr) (H0:Hp),Room k (A.deeper (envOfC x (defScope st) s.heap.objs.size f cdv))→QB (cxOf CX0 P w K mg base N x (defScope st) f cdv A outer s H E).nox (Zf T φ0 H0) (defBody st) B)
  (hx:∀ ws h w m,F ws h≠.ex w m) (hF:Told ps.length N.length B F):FnOk P w K mg base CX0 (k+1) f fd ps (spH T F):=fun0 R S (fun a b c d e g h i j=>(hB a b c d e g h i j).ps) hx hF
theorem def0q {x:Str}{st:Stmt}{N ps:List Str}{k:Nat}{F:Fm}{B:Sm}(R:DefAt K mg x st)(S:FnScope N ps (defScope st))(hb:BindsAll x x st ps)
  (hB:∀ (f:Addr) (cdv:Value) (A:Around) (outer:List Env) (s:Shared) (H:Hp) (E:XK) (φ0:List Addr) (H0:Hp),Room k (A.deeper (envOfC x (defScope st) s.heap.objs.size f cdv))→QB (cxOf CX0 P w K mg base N x (defScope st) f cdv A outer s H E).nox (Zf T φ0 H0) (defBody st) B)
  (hx:∀ ws h w m,F ws h≠.ex w m) (hF:Told ps.length N.length B F):FnAt P w K mg base CX0 (k+1) x (spH T F):=def0 R S hb (fun z a b c d e g h i j=>(hB z a b c d e g h i j).ps) hx hF
end
end M
namespace M
open PySem PySem.Spec PyProof.Rows L2
theorem intW_eq:∀ {ws:List W} {ns:List Int},intW ws=some ns→ws=ns.map W.int
 | [],ns,e=>by cases e; rfl
 | w::ws,ns,e=>by
  cases w with
  | int i=>
   unfold intW at e
   rw [Option.map_eq_some_iff] at e
   obtain ⟨ms,e,rfl⟩:=e
   rw [intW_eq e]; rfl
  | _=>cases e
theorem xLoop_nx {G:Tg}{B:Sm}(I:Sg→Mem→Prop):∀ (ws:List W) (ρ:Sg) (h:Mem),I ρ h →
  (∀ w∈ws,∀ ρ h,I ρ h→∃ ρ1,G w ρ=some ρ1∧∃ ρ' h',(B ρ1 h=.nx ρ' h'∨B ρ1 h=.ct ρ' h')∧I ρ' h')→∃ ρ' h',xLoop G B ws ρ h=.nx ρ' h'∧I ρ' h'
 | [],ρ,h,i,_=>⟨ρ,h,rfl,i⟩
 | w::r,ρ,h,i,hb=>by
  obtain ⟨ρ1,e1,ρ',h',e2,i2⟩:=hb w List.mem_cons_self ρ h i
  obtain ⟨ρ2,h2,e3,i3⟩:=xLoop_nx I r ρ' h' i2 fun w m=>hb w (List.mem_cons_of_mem _ m)
  refine ⟨ρ2,h2,?_,i3⟩
  unfold xLoop
  rw [e1]
  rcases e2 with e2 | e2 <;> (simp only [e2]; exact e3)
def lawF:Fm:=fun ws h=>match ws with
 | [.tl l]=>(match intW l with
  | some ns=>if ns.length≤63∧h.isEmpty=true then .ok (.bl true) h else .no
  | none=>.no)
 | _=>.no
theorem lawF_ex (ws:List W)(h:Mem)(w:W)(m:Mem):lawF ws h≠.ex w m:=by
 unfold lawF
 split
 ·split
  ·split <;> simp
  ·simp
 ·simp
theorem lawF_told {n:Nat}{B:Sm}(hB:∀ ns:List Int,ns.length≤63→∃ g,runB n B [.tl (ns.map W.int)] []=.ok (.bl true) g):Told 1 n B lawF:=by
 intro ws h wf lt
 unfold lawF
 split
 ·rename_i l
  cases e:intW l with
  | none=>exact .inl rfl
  | some ns=>
   simp only
   split
   ·rename_i hl
    have:h=[]:=List.isEmpty_iff.mp hl.2
    subst this
    rw [intW_eq e]
    obtain ⟨g,q⟩:=hB ns hl.1
    refine .inr ⟨rfl,?_⟩
    rw [q]
    exact fits_drop (h:=[]) (g:=g) (Nat.le_refl _) (fun o m=>by simp at m) rfl
   ·exact .inl rfl
 ·exact .inl rfl
theorem lawF_sp {K:PySem.W.Frag}{T:CTb}(hK:noList K=true):∀ vs H Q E,sp_law K vs H Q E→spH T lawF vs H Q E:=law_sp hK fun ns hl=>⟨[],by simp [lawF,intW_map,hl]⟩
end M
namespace L2
open PySem PySem.Spec PyProof.Rows
end L2
namespace M
open PySem PySem.Spec PyProof.Rows L2
end M
namespace M
open PySem PySem.Spec PyProof.Rows L2
theorem xBlk_fil {α:Type}{G:Tg}{c el:Ex}{ρ0:Sg}{h:Mem}(g r:α→W)(p:α→Bool):∀ (l:List α) (acc:List W),
  (∀ a∈l,∀ acc:List W,∃ ρ,G (g a) ρ0=some ρ∧(∃ h',c ρ (h++[.lst acc])=.ok (.bl (p a)) h')∧(p a=true→(∃ h',el ρ (h++[.lst acc])=.ok (r a) h')∧ltW h.length (r a)=true)) →
  xBlk G c el ρ0 h (l.map g) acc=some (acc++(l.filter p).map r)
 | [],acc,_=>by simp [xBlk]
 | a::l,acc,hh=>by
  obtain ⟨ρ,e1,⟨h',e2⟩,e3⟩:=hh a List.mem_cons_self acc
  have ih:=fun acc=>xBlk_fil g r p l acc fun b m=>hh b (List.mem_cons_of_mem _ m)
  rw [List.map_cons]
  unfold xBlk
  simp only [e1,e2]
  cases q:p a with
  | false=>
   simp only [List.filter_cons,q]
   exact ih acc
  | true=>
   obtain ⟨⟨h'',e4⟩,e5⟩:=e3 q
   simp only [e4,e5,if_true,List.filter_cons,q,List.map_cons]
   rw [ih]
   simp
theorem xComp_fil {α:Type}{fi:Ei}{own:Nat}{ix:List Nat}{G:Tg}{c el:Ex}{ρ:Sg}{h h1:Mem}{s:Option Nat}(g r:α→W)(p:α→Bool)(l:List α)(hfi:fi ρ h=.ok s (l.map g) h1)(hz:l.length<sizeLine)
  (hh:∀ a∈l,∀ acc:List W,∃ ρ',G (g a) (ρC own ix ρ)=some ρ'∧(∃ h',c ρ' (h1++[.lst acc])=.ok (.bl (p a)) h')∧(p a=true→(∃ h',el ρ' (h1++[.lst acc])=.ok (r a) h')∧ltW h1.length (r a)=true)) :
  xComp fi own ix G c el ρ h=.ok (.tl ((l.filter p).map r)) h1:=by
 unfold xComp
 rw [hfi]
 simp only [List.length_map,hz,if_true]
 rw [xBlk_fil g r p l [] hh]
 rfl
def selfF (n m:Nat)(B:Sm):Fm:=fun ws h=>if ws.length=n then (match runB m B ws h with
 | .ok w h'=>if h.length≤h'.length then .ok w h' else .no
 | _=>.no) else .no
theorem selfF_ok {n m:Nat}{B:Sm}{ws:List W}{h h':Mem}{w:W}(hl:ws.length=n)(e:runB m B ws h=.ok w h')(hk:h.length≤h'.length):selfF n m B ws h=.ok w h':=by
 unfold selfF
 rw [if_pos hl,e]
 simp [hk]
section
variable {P:Program} {w:World} {K:PySem.W.Frag} {mg:Str→Option Value} {base:Heap} {T:CTb}
theorem def0s {x:Str}{st:Stmt}{N ps:List Str}{k:Nat}{B:Sm}(R:DefAt K mg x st)(S:FnScope N ps (defScope st))(hb:BindsAll x x st ps)
  (hB:∀ (f:Addr) (cdv:Value) (A:Around) (outer:List Env) (s:Shared) (H:Hp) (E:XK) (φ0:List Addr) (H0:Hp),Room k (A.deeper (envOfC x (defScope st) s.heap.objs.size f cdv))→QB (cxOf CX0 P w K mg base N x (defScope st) f cdv A outer s H E).nox (Zf T φ0 H0) (defBody st) B) :
  FnAt P w K mg base CX0 (k+1) x (spH T (selfF ps.length N.length B)):=by
 refine def0q R S hb hB (fun ws h w m=>?_) fun ws h wf lt=>?_
 ·unfold selfF
  split
  ·split
   ·split <;> simp
   ·simp
  ·simp
 ·unfold selfF
  split
  ·rename_i hl
   cases e:runB N.length B ws h with
   | ok w h'=>
    simp only
    split
    ·rename_i hk
     exact .inr ⟨hl,fits_ok hk⟩
    ·exact .inl rfl
   | ex w h'=>exact .inl rfl
   | no=>exact .inl rfl
  ·exact .inl rfl
end
theorem atI_getD {α:Type}{l:List α}{i:Int}(d:α)(h0:0≤i)(h1:i<l.length):atI l i=some (l.getD i.toNat d):=by
 rw [atI_get' h0]
 have:i.toNat<l.length:=by omega
 simp [List.getD,this]
theorem joinOk_of {sep:Str}{ts:List Str}(h:(ts.map fun t=>t.length+sep.length).sum≤sizeLine):JoinOk sep ts=true:=by
 have key:∀ (l:List Str) (n:Nat),l.foldl (fun acc t=>acc+t.length+sep.length) n=n+(l.map fun t=>t.length+sep.length).sum:=by
  intro l
  induction l with
  | nil=>intro n; simp
  | cons x r ih=>intro n; rw [List.foldl_cons,ih]; simp; omega
 unfold JoinOk
 rw [← Array.foldl_toList]
 rw [show (ts.toArray.toList)=ts from rfl,key]
 simp [PySem.Builtin.Str.tooLong]
 omega
end M
namespace L2
open PySem PySem.Spec PyProof.Rows PySem.Builtin.Str
end L2
namespace M
open PySem PySem.Spec PyProof.Rows L2 PySem.Builtin.Str
end M
namespace M
open PySem PySem.Spec PyProof.Rows L2
section
variable {X:Cx} {Z:Zc} {f:Ex} {fa:Exs} {o e:Expr} {es:List Expr} {apos cpos pos:Pos}
theorem qgs_cons {t:TG}{u:TGs}(h1:QG X e t)(h2:QGs X es u)(hs:(assignEach (e::es) X.env).map (·.2)=assign e X.env::(assignEach es X.env).map (·.2):=by rfl):QGs X (e::es) (gCons t u):=⟨pgs_cons h1.pg h2.pg hs⟩
theorem qg_tupV {k:Nat}{t:TGs}{n:Nat}(hc:X.calm=X.calm)(h:QGs X es t)(hn:(assignEach es X.env).length=n:=by rfl)(hst:(assignEach es X.env).findIdx? (·.1)=none:=by rfl):QG X (.Tuple es k pos) (gTupV n t):=⟨pg_tupV hc h.pg hn hst⟩
def gT2 (i j:Nat):Tg:=fun w ρ=>match w with
 | .tup [a,b]=>some ((ρ.set i (some a)).set j (some b))
 | _=>none
theorem tg_tup2 {i j:Nat}(h1:∀ σ v,Z.sg σ→Z.sg (σ.set i (some v)))(h2:∀ σ v,Z.sg σ→Z.sg (σ.set j (some v))):TgW Z (gTupV 2 (gCons (gName i) (gCons (gName j) gNil))) (gT2 i j):=by
 intro σ H φ h ρ w v ρ' Q x r e k
 unfold gT2 at e
 split at e
 ·rename_i a b
  cases e
  unfold RW at r
  obtain ⟨p,vs,rfl,_,hp,rs⟩:=r
  obtain ⟨u1,u2,rfl,r1,r2⟩:=rws_two rs
  show need (tupAt H p) _
  rw [tupAt_of hp]
  exact ⟨rfl,u1,[u2],rfl,u2,[],rfl,rfl,k _ ((x.rs.set r1).set r2) (h2 _ _ (h1 _ _ x.sg))⟩
 ·cases e
end
end M
namespace M
open PySem PySem.Spec PyProof.Rows L2
end M
namespace M
open PySem PySem.Spec PyProof.Rows L2
end M
namespace M
open PySem PySem.Spec PyProof.Rows L2
end M
namespace M
open PySem PySem.Spec PyProof.Rows L2
end M
namespace M
open PySem PySem.Spec PyProof.Rows L2
end M
namespace M
open PySem PySem.Spec PyProof.Rows L2
def XRec (h:Heap)(e:Addr)(cv:Value)(da T:Option Addr):Prop:=∃ oe vs,h.get? e=some oe∧oe.cls=cv∧oe.dict=da∧oe.data=.fields vs∧vs[2]? = some Value.none∧match T with
 | none=>vs[1]? = some Value.none
 | some t=>t≠e∧vs[1]? = some (.ref t)∧∃ ot ts x,h.get? t=some ot∧ot.data=.fields ts∧ts[3]? = some x
structure Ch (S ch:List Addr)(h h':Heap):Prop where
 keep:∀ b o,b ∉ S→b ∉ ch→h.get? b=some o→h'.get? b=some o
 slot:∀ b o,b ∉ ch→h.get? b=some o→∃ sl,h'.get? b=some { o with slots:=sl }
 old:∀ b o,h.get? b=some o→∃ o',h'.get? b=some o'
theorem Ch.refl (S ch:List Addr)(h:Heap):Ch S ch h h:=⟨fun _ _ _ _ e=>e,fun _ o _ e=>⟨o.slots,e⟩,fun _ o e=>⟨o,e⟩⟩
theorem Ch.mono {S S' ch ch':List Addr}{h h':Heap}(c:Ch S ch h h')(a:∀ b∈S,b∈S')(d:∀ b∈ch,b∈ch'):Ch S' ch' h h':=
 ⟨fun b o h1 h2 e=>c.keep b o (fun z=>h1 (a b z)) (fun z=>h2 (d b z)) e,fun b o h2 e=>c.slot b o (fun z=>h2 (d b z)) e,c.old⟩
theorem Ch.trans {S ch:List Addr}{h h1 h2:Heap}(a:Ch S ch h h1)(b:Ch S ch h1 h2):Ch S ch h h2:=
 ⟨fun x o p q e=>b.keep x o p q (a.keep x o p q e),fun x o q e=>by
  obtain ⟨sl,e1⟩:=a.slot x o q e
  obtain ⟨sl2,e2⟩:=b.slot x _ q e1
  exact ⟨sl2,e2⟩,fun x o e=>by
  obtain ⟨o1,e1⟩:=a.old x o e
  exact b.old x o1 e1⟩
theorem dict_map (o:Obj)(f:Array Value→Array Value):(o.mapFields f).dict=o.dict:=by
 obtain ⟨c,d,dt,sl⟩:=o
 cases dt <;> rfl
section
variable {Md:Model} {A:Around} {E:Value→Shared→Prop} {s:Shared} {base:Heap} {env:Env} {outer:List Env} {L e:Addr} {cv:Value} {da:Option Addr} {Q:Unit→Shared→Prop}
theorem upd_ch {h:Heap}{t:Addr}{ot:Obj}{ts:Array Value}(ht:h.get? t=some ot)(hd:ot.data=.fields ts)(f:Array Value→Array Value):Ch [] [t] h (h.update t (Obj.mapFields f)):=by
 have self:=Heap.get?_update_self (Obj.mapFields f) ht (Obj.isFreed_of_fields (Obj.data_mapFields hd _))
 have other:∀ b,b≠t→(h.update t (Obj.mapFields f)).get? b=h.get? b:=fun b n=>Heap.get?_update_other _ _ (Ne.symm n)
 refine ⟨fun b o _ n e=>?_,fun b o n e=>⟨o.slots,?_⟩,fun b o e=>?_⟩
 ·rw [other b (by simpa using n)]; exact e
 ·rw [other b (by simpa using n)]; exact e
 ·by_cases z:b=t
  ·subst z; exact ⟨_,self⟩
  ·exact ⟨o,by rw [other b z]; exact e⟩
theorem entry_ok {oe:Obj}{vs:Array Value}{head:Value}{hadNext:Bool}(hfr:A.frames=some (env::outer))(hl:s.heap.FunFrames base (env::outer))(hf:env.frame=some L)(he:s.heap.get? e=some oe)(hd:oe.data=.fields vs)(hc0:vs[2]? = some Value.none)(hsz:1<vs.size)
  (k:∀ h' T',XRec h' e oe.cls oe.dict (some T')→Ch (frs (env::outer)) [e] s.heap h'→s.heap.objs.size≤T'→Q () { s with heap:=h' }) :
  wpAny Md A (do let a ← frameOf env; let pl ← entryPlaceOf L hadNext; let b ← EntryCells.newEntry head a .none (rawInt L) .none pl; setField (.ref e) 1 b) Q E s:=by
 have nS:e ∉ frs (env::outer):=fun m=>by
  obtain ⟨_,o,ho,hnf⟩:=hl.mem m
  rw [he] at ho
  cases ho
  exact hnf vs hd
 refine wpAny_bind (wpAny_frameOf_fun hfr hl hf fun g hg=>wpAny_bind (wpAny_entryPlaceOf fun pl hpl=>?_))
 unfold EntryCells.newEntry newFields
 have e1:g.get? e=some oe:=(hg.2.1 e nS).trans he
 refine wpAny_bind (wpAny_newObj_type (wpAny_setField (Heap.get?_push_of_some (h:=g) _ e1) hd hsz ?_) (hpl.sizeOk5 _ _ _ _ _))
 have e2:=Heap.get?_push_of_some (h:=g) { cls:=.type "traceback",dict:=none,data:=.fields ([head,.ref L,.none,rawInt L,.none]++(if pl.isEmpty then List.replicate 6 Value.none else pl)).toArray } e1
 have d3:=Obj.data_mapFields hd fun u=>u.setIfInBounds 1 (Value.ref g.objs.size)
 have e3:=Heap.get?_update_self (Obj.mapFields fun u=>u.setIfInBounds 1 (Value.ref g.objs.size)) e2 (Obj.isFreed_of_fields d3)
 have hne:g.objs.size≠e:=Nat.ne_of_gt (Heap.lt_size e1)
 have oth:∀ b,b≠e→∀ tb:Obj,((g.push tb).update e (Obj.mapFields fun u=>u.setIfInBounds 1 (Value.ref g.objs.size))).get? b=(g.push tb).get? b:=fun b n tb=>Heap.get?_update_other _ _ (Ne.symm n)
 refine k _ g.objs.size ⟨_,_,e3,Obj.cls_mapFields _ _,dict_map _ _,d3,by simpa using hc0,hne,by simp [hsz],_,_,rawInt L,(oth _ hne _).trans (Heap.get?_push_size g rfl),rfl,?_⟩ ⟨fun b o h1 h2 q=>?_,fun b o h2 q=>?_,fun b o q=>?_⟩ (Nat.le_of_eq hg.1.symm)
 ·first | (simp; done) | (rcases hpl with rfl | ⟨_,_,_,_,_,_,_,rfl⟩ <;> simp)
 ·rw [oth b (by simpa using h2)]
  exact Heap.get?_push_of_some _ ((hg.2.1 b h1).trans q)
 ·obtain ⟨sl,q1⟩:=hg.2.2 b o q
  exact ⟨sl,(oth b (by simpa using h2) _).trans (Heap.get?_push_of_some _ q1)⟩
 ·obtain ⟨sl,q1⟩:=hg.2.2 b o q
  by_cases z:b=e
  ·subst z; exact ⟨_,e3⟩
  ·exact ⟨_,(oth b z _).trans (Heap.get?_push_of_some _ q1)⟩
theorem note_ok {T:Option Addr}(hfr:A.frames=some (env::outer))(hl:s.heap.FunFrames base (env::outer))(hf:env.frame=some L)(R:XRec s.heap e cv da T)
  (k:∀ h' T',XRec h' e cv da (some T')→Ch (frs (env::outer)) (e::T.toList) s.heap h'→(T=some T'∨s.heap.objs.size≤T')→Q () { s with heap:=h' }):wpAny Md A (noteFrame (.ref e) env) Q E s:=by
 obtain ⟨oe,vs,he,rfl,rfl,hd,hc0,hT⟩:=R
 unfold noteFrame
 simp only [hf]
 cases T with
 | none=>
  refine wpAny_bind (wpAny_field he hd hT ?_)
  rw [if_neg (by decide)]
  exact entry_ok hfr hl hf he hd hc0 (Array.getElem?_eq_some_iff.mp hT).1 fun h' T' r c n=>k h' T' r c (.inr n)
 | some t=>
  obtain ⟨hte,h1,ot,ts,x,ht,hdt,h3⟩:=hT
  refine wpAny_bind (wpAny_field he hd h1 ?_)
  rw [if_pos (by simp)]
  refine wpAny_bind (wpAny_field ht hdt h3 ?_)
  by_cases hx:(x == rawInt L)=true
  ·rw [if_pos hx]
   obtain ⟨hh,gg,dd,tk,os⟩:=s
   exact wpAny_pure (k hh t ⟨oe,vs,he,rfl,rfl,hd,hc0,hte,h1,ot,ts,x,ht,hdt,h3⟩ (Ch.refl _ _ _) (.inl rfl))
  ·rw [if_neg hx]
   refine wpAny_bind (wpAny_setField ht hdt (Array.getElem?_eq_some_iff.mp h3).1 ?_)
   have c1:=upd_ch ht hdt fun u=>u.setIfInBounds 3 Value.none
   have oth:∀ b,b≠t→(s.heap.update t (Obj.mapFields fun u=>u.setIfInBounds 3 Value.none)).get? b=s.heap.get? b:=fun b n=>Heap.get?_update_other _ _ (Ne.symm n)
   have hl2:(s.heap.update t (Obj.mapFields fun u=>u.setIfInBounds 3 Value.none)).FunFrames base (env::outer):=hl.of_keeps fun b o hb hnf=>⟨o,(oth b fun z=>by subst z; rw [ht] at hb; cases hb; exact hnf ts hdt).trans hb,rfl⟩
   refine entry_ok (s:={ s with heap:=s.heap.update t (Obj.mapFields fun u=>u.setIfInBounds 3 Value.none) }) hfr hl2 hf ((oth e (Ne.symm hte)).trans he) hd hc0 (Array.getElem?_eq_some_iff.mp h1).1 fun h' T' r c n=>?_
   refine k h' T' r ((c1.mono (fun b z=>by cases z) fun b z=>by simp at z; subst z; simp).trans (c.mono (fun b z=>z) fun b z=>by simp at z; subst z; simp)) (.inr ?_)
   rw [← Heap.size_after_update s.heap t (Obj.mapFields fun u=>u.setIfInBounds 3 Value.none)]
   exact n
theorem flight_ok {T:Addr}(R:XRec s.heap e cv da (some T))(k:∀ h',XRec h' e cv da (some T)→Ch [] [T] s.heap h'→Q () { s with heap:=h' }):wpAny Md A (setFlight (.ref e) none) Q E s:=by
 obtain ⟨oe,vs,he,rfl,rfl,hd,hc0,hte,h1,ot,ts,x,ht,hdt,h3⟩:=R
 have hsz:=(Array.getElem?_eq_some_iff.mp h3).1
 have d2:=Obj.data_mapFields hdt fun u=>u.setIfInBounds 3 Value.none
 refine wpAny_setFlight_none he hd h1 ht hdt hsz (k _ ⟨oe,vs,?_,rfl,rfl,hd,hc0,hte,h1,_,_,Value.none,Heap.get?_update_self _ ht (Obj.isFreed_of_fields d2),d2,by simp [hsz]⟩ (upd_ch ht hdt _))
 exact (Heap.get?_update_other _ _ hte).trans he
end
end M
namespace M
open PySem PySem.Spec PyProof.Rows L2
def Outs (X:Cx)(pins:List (Addr×Obj))(b:Addr):Prop:=(X.s₀.heap.get? b=none∨b∈X.ex)∧b≠X.env.locals∧(∀ x c,X.env.cells.lookup x=some c→c≠b)∧∀ p∈X.pn++pins,p.1≠b
section
variable {X:Cx} {pins:List (Addr×Obj)} {σ:St} {H:Hp} {s:Shared} {h':Heap} {ch:List Addr}
theorem hok_there {P:Program}{w:World}{hp:Heap}{a:Addr}{o:HO}(x:HOk P w H hp)(e:H a=some o):∃ ob,hp.get? a=some ob:=by
 have go:∀ (o:HO),ObjOk P w H hp a o→∃ ob,hp.get? a=some ob:=by
  intro o
  induction o with
  | lst xs=>intro x; obtain ⟨_,_,_,_,q⟩:=x; exact ⟨_,q⟩
  | tup xs=>intro x; obtain ⟨_,_,_,p⟩:=x; obtain ⟨o,q,_⟩:=p; exact ⟨_,q⟩
  | dK kvs=>intro x; obtain ⟨_,_,_,_,p⟩:=x; obtain ⟨o,es,ep,q,_⟩:=p; exact ⟨_,q⟩
  | dT kvs=>intro x; obtain ⟨_,_,_,_,o,_,_,q,_⟩:=x; exact ⟨_,q⟩
  | set S n=>intro x; obtain ⟨o,_,_,_,q,_⟩:=x; exact ⟨_,q⟩
  | ins C dx fs=>intro x; obtain ⟨_,_,_,q,_⟩:=x; exact ⟨_,q⟩
  | own y=>intro x; exact x
  | xd fs=>intro x; obtain ⟨_,⟨_,_,_,q,_⟩,_⟩:=x; exact ⟨_,q⟩
  | rng lo hi=>intro x; obtain ⟨_,_,_,q⟩:=x; exact ⟨_,q⟩
  | frz ob u _=>intro x; exact ⟨_,x.1⟩
  | tbl ps=>intro x; exact ⟨_,x⟩
  | met f y=>intro x; exact ⟨_,x⟩
  | ext φ=>intro x; exact x.2.1
 exact go o (x a o e)
theorem untracked {P:Program}{w:World}{hp:Heap}{a:Addr}(x:HOk P w H hp)(n:hp.get? a=none):H a=none:=by
 cases q:H a with
 | none=>rfl
 | some o=>obtain ⟨ob,e⟩:=hok_there x q; rw [n] at e; cases e
theorem outs_new {b:Addr}(I:Inv X pins σ H s)(n:s.heap.get? b=none):Outs X pins b:=by
 refine ⟨?_,fun z=>?_,fun x c e z=>?_,fun p hp z=>?_⟩
 ·by_cases hx:b∈X.ex
  ·exact .inr hx
  ·cases q:X.s₀.heap.get? b with
   | none=>exact .inl rfl
   | some o=>obtain ⟨o',e⟩:=I.base.there b o q hx; rw [n] at e; cases e
 ·obtain ⟨m,⟨o,_,_,ho,_⟩,_⟩:=I.loc
  subst z; rw [n] at ho; cases ho
 ·obtain ⟨v,o,ho,_⟩:=I.cell x c e
  subst z; rw [n] at ho; cases ho
 ·have:=(I.pin p hp).1
  rw [z,n] at this; cases this
theorem chg (I:Inv X pins σ H s)(c:Ch (frs X.stack) ch s.heap h')(hc:∀ b∈ch,H b=none∧Outs X pins b):Inv X pins σ H { s with heap:=h' }:=by
 have nS:∀ b,b≠X.env.locals→b ∉ X.fs→b ∉ frs X.stack:=fun b h1 h2 z=>(List.mem_cons.mp (I.stkSub b z)).elim h1 h2
 have n0:∀ b o,X.s₀.heap.get? b=some o→b ∉ X.ex→b ∉ ch:=fun b o e hx z=>by
  rcases (hc b z).2.1 with q | q
  ·rw [e] at q; cases q
  ·exact hx q
 have cellK:∀ x c',X.env.cells.lookup x=some c'→∀ v,s.heap.IsCell c' v→h'.IsCell c' v:=fun x c' e v ⟨o,ho,hd⟩=>by
  obtain ⟨sl,q⟩:=c.slot c' o (fun z=>(hc c' z).2.2.2.1 x c' e rfl) ho
  exact ⟨_,q,hd⟩
 refine ⟨I.ok,I.os,I.bare,⟨fun b o e n hb hx=>?_,fun b o e n hb hx=>?_,I.base.free,fun b o e hx=>?_,I.base.tups,I.base.frzs,I.base.tbls⟩,?_,fun x c' e=>?_,I.free,I.freeC,fun p hp=>?_,fun b u e=>?_,I.len⟩
 ·exact c.keep b o (nS b (Nat.ne_of_lt (Nat.lt_of_lt_of_le (Heap.lt_size e) I.ok.above)) hb) (n0 b o e hx) (I.base.keep b o e n hb hx)
 ·obtain ⟨sl,e1⟩:=I.base.slot b o e n hb hx
  obtain ⟨sl2,e2⟩:=c.slot b _ (n0 b o e hx) e1
  exact ⟨sl2,e2⟩
 ·obtain ⟨o1,e1⟩:=I.base.there b o e hx
  exact c.old b o1 e1
 ·obtain ⟨m,⟨o,es,ep,ho,r⟩,hl⟩:=I.loc
  obtain ⟨sl,q⟩:=c.slot X.env.locals o (fun z=>(hc _ z).2.2.1 rfl) ho
  refine ⟨m,⟨_,es,ep,q,r⟩,fun i x v e1 e2 e3=>?_⟩
  obtain ⟨u,rv,l⟩:=hl i x v e1 e2 e3
  refine ⟨u,rv,?_⟩
  rcases l with l | ⟨k,c',e,z⟩
  ·exact .inl l
  ·exact .inr ⟨k,c',e,cellK x c' e _ z⟩
 ·obtain ⟨v,z⟩:=I.cell x c' e
  exact ⟨v,cellK x c' e v z⟩
 ·obtain ⟨e,n,ne,nf,d⟩:=I.pin p hp
  exact ⟨c.keep p.1 p.2 (nS _ ne nf) (fun z=>(hc _ z).2.2.2.2 p hp rfl) e,n,ne,nf,d⟩
 ·refine (I.hok b u e).stay (fun c' v hb q=>?_) (fun _ q=>q) fun _ _ q=>q
  have tr:H c'≠none:=by
   rcases hb with rfl | hb
   ·rw [e]; simp
   ·rw [hb]; simp
  exact c.keep c' v (fun z=>tr (I.stkFree c' z)) (fun z=>tr (hc c' z).1) q
end
structure XIs (X:Cx)(pins:List (Addr×Obj))(σ:St)(H:Hp)(s:Shared)(e:Addr)(cv:Value)(da T:Option Addr):Prop where
 inv:Inv X pins σ H s
 rc:XRec s.heap e cv da T
 own:∀ b∈e::T.toList,H b=none∧Outs X pins b
def XLies (X:Cx)(Z:Zc)(v:Value)(s:Shared):Prop:=∃ pins σ H e cv da T φ h w,v=.ref e∧XIs X pins σ H s e cv da T∧Z.sg σ∧Step Z.φ Z.H φ H∧RH Z.T φ h H∧RX Z.T φ H w cv da∧Z.xw w h
def XOk (X:Cx)(Z:Zc):Prop:=∀ v s,XLies X Z v s→X.xe v s
theorem xok_no {X:Cx}{Z:Zc}(h:∀ w m,¬Z.xw w m):XOk X Z:=fun _ _ ⟨_,_,_,_,_,_,_,_,_,_,_,_,_,_,_,_,x⟩=>absurd x (h _ _)
def CXe (q:Bool)(P:Program)(w:World):CXT:=⟨fun outer H s E v s'=>∃ e cv da T H',v=.ref e∧s'.os=s.os∧AllBare s'.gens∧Un (frs outer) [] H H' s.heap s'.heap∧HOk P w H' s'.heap∧XRec s'.heap e cv da (some T) ∧
 (H' e=none∧s.heap.get? e=none)∧(H' T=none∧s.heap.get? T=none)∧E cv da H',q⟩
def Zx (T:CTb)(φ:List Addr)(H:Hp)(E:XK):Zc:=⟨T,φ,H,fun _=>True,fun w h'=>∀ φ' H' cv da,Step φ H φ' H'→RH T φ' h' H'→RX T φ' H' w cv da→E cv da H'⟩
section
variable {P:Program} {w:World} {K:PySem.W.Frag} {mg:Str→Option Value} {base:Heap} {T:CTb}
theorem xok_def {q:Bool}{N:List Str}{qual:Str}{scope:Scope}{f:Addr}{cd:Value}{A:Around}{outer:List Env}{s:Shared}{H:Hp}{E:XK}{φ:List Addr} :
  XOk (cxOf (CXe q P w) P w K mg base N qual scope f cd A outer s H E) (Zx T φ H E):=by
 rintro v s' ⟨pins,σ,H',e,cv,da,T1,φ',h',w',rfl,⟨I,R,own⟩,_,st,rh,rx,xw⟩
 show wpAny _ _ (leaving (envOfC qual scope s.heap.objs.size f cd) (.ref e)) _ _ s'
 unfold leaving
 refine wpAny_bind (note_ok (base:=base) I.ok.frames I.stack rfl R fun g T2 r c n=>?_)
 have I1:=chg I c own
 have own1:∀ b∈[e,T2],H' b=none∧Outs (cxOf (CXe q P w) P w K mg base N qual scope f cd A outer s H E) pins b:=fun b hb=>by
  rcases List.mem_cons.mp hb with rfl | hb
  ·exact own b List.mem_cons_self
  ·have hb:b=T2:=by simpa using hb
   subst hb
   rcases n with n | n
   ·exact own b (by rw [n]; simp)
   ·exact ⟨I.hok.fresh n,outs_new I (Heap.get?_none_of_le n)⟩
 refine flight_ok r fun g2 r2 c2=>?_
 have I2:=chg I1 (c2.mono (fun b z=>by cases z) fun b z=>z) fun b hb=>own1 b (List.mem_cons_of_mem _ hb)
 have new:∀ b,Outs (cxOf (CXe q P w) P w K mg base N qual scope f cd A outer s H E) pins b→s.heap.get? b=none:=fun b o=>by
  rcases o.1 with z | z
  ·exact z
  ·cases z
 have o1:=own1 e (by simp)
 have o2:=own1 T2 (by simp)
 exact ⟨e,cv,da,T2,H',rfl,I2.os,I2.bare,I2.base,I2.hok,r2,⟨o1.1,new _ o1.2⟩,⟨o2.1,new _ o2.2⟩,xw φ' H' cv da st rh rx⟩
theorem body_okX {φ:List Addr}{H:Hp}{h:Mem}{o:Out}{r:Res}{Q:VK}{E:XK}(hl:φ.length=h.length)(ft:Fits h.length r o.res)(q:r.post (Kv T φ H Q) (fun w h'=>∀ φ' H' cv da,Step φ H φ' H'→RH T φ' h' H'→RX T φ' H' w cv da→E cv da H')) :
  o.post (Zx T φ H E) φ H { nx:=fun _ H'=>Q .non H',rt:=Q }:=by
 cases r with
 | no=>exact q.elim
 | ex w m=>
  cases o with
  | ex w' m'=>
   intro φ' H' cv da s r x
   obtain ⟨φ1,p1,l1,r1,x1⟩:=ft T φ' H' cv da r x
   exact q φ1 H' cv da (step_fits s p1 (by rw [hl]; exact l1)) r1 x1
  | _=>exact ft.elim
 | ok w m=>
  cases o with
  | rt w' m'=>
   intro φ' H' v s r x
   obtain ⟨φ1,p1,l1,r1,x1⟩:=ft T φ' H' v r x
   exact q φ1 H' v (step_fits s p1 (by rw [hl]; exact l1)) r1 x1
  | nx ρ' m'=>
   intro φ' H' σ' s r rs _
   obtain ⟨φ1,p1,l1,r1,x1⟩:=ft T φ' H' .non r (by unfold RW; rfl)
   exact q φ1 H' .non (step_fits s p1 (by rw [hl]; exact l1)) r1 x1
  | _=>exact ft.elim
theorem funX {qc:Bool}{x qual:Str}{st:Stmt}{N ps:List Str}{k:Nat}{F:Fm}{f:Addr}{fd:FuncData}{B:Sm}(R:Fun K x qual st f fd)(S:FnScope N ps (defScope st))
  (hB:∀ (cdv:Value) (A:Around) (outer:List Env) (s:Shared) (H:Hp) (E:XK) (φ0:List Addr),Room k (A.deeper (envOfC qual (defScope st) s.heap.objs.size f cdv)) →
   XOk (cxOf (CXe qc P w) P w K mg base N qual (defScope st) f cdv A outer s H E) (Zx T φ0 H E)→QB (cxOf (CXe qc P w) P w K mg base N qual (defScope st) f cdv A outer s H E) (Zx T φ0 H E) (defBody st) B)
  (hF:Told ps.length N.length B F):FnOk P w K mg base (CXe qc P w) (k+1) f fd ps (spH T F):=by
 obtain ⟨oc,od,kV,doc,pm,an,cdv,ct,osl,rfl,lk,hcd⟩:=R.ex
 refine fn_of lk hcd S (fun vs H Q E h=>?_) fun A outer s H vs Q E hr h=>?_
 ·obtain ⟨φ,h,ws,r,rv,q⟩:=h
  rcases hF ws h r.wf (by rw [← r.len]; exact rv.lt) with e | ⟨e,_⟩
  ·rw [e] at q; exact q.elim
  ·rw [← rv.length]; exact e
 ·obtain ⟨φ,h,ws,r,rv,q⟩:=h
  refine ⟨_,(hB cdv A outer s H E φ hr xok_def).ps,φ,h,startW N.length ws,⟨trivial,Step.refl _ _,r,rs_start rv⟩,?_⟩
  rcases hF ws h r.wf (by rw [← r.len]; exact rv.lt) with e | ⟨e,ft⟩
  ·rw [e] at q; exact q.elim
  ·exact body_okX r.len ft q
theorem defX {qc:Bool}{x:Str}{st:Stmt}{N ps:List Str}{k:Nat}{F:Fm}{B:Sm}(R:DefAt K mg x st)(S:FnScope N ps (defScope st))(hb:BindsAll x x st ps)
  (hB:∀ (f:Addr) (cdv:Value) (A:Around) (outer:List Env) (s:Shared) (H:Hp) (E:XK) (φ0:List Addr),Room k (A.deeper (envOfC x (defScope st) s.heap.objs.size f cdv)) →
   XOk (cxOf (CXe qc P w) P w K mg base N x (defScope st) f cdv A outer s H E) (Zx T φ0 H E)→QB (cxOf (CXe qc P w) P w K mg base N x (defScope st) f cdv A outer s H E) (Zx T φ0 H E) (defBody st) B)
  (hF:Told ps.length N.length B F):FnAt P w K mg base (CXe qc P w) (k+1) x (spH T F):=by
 obtain ⟨f,fd,R,hm⟩:=R
 exact ⟨f,fd,ps,funX R S (hB f) hF,hm,R.kp,R.binds hb⟩
end
section
variable {X:Cx} {Z:Zc} {qc:Bool} {k j:Nat} {F:Fm} {fa:Exs} {fo:Ex} {x m:Str} {p pos apos:Pos} {e o:Expr} {es:List Expr}
theorem run_fnX {CX:CXT}{f:Addr}{fd:FuncData}{ps:List Str}{sp:Sp}{E:XK}{pins:List (Addr×Obj)}{σ:St}{H:Hp}{s:Shared}{Q:VK}{us:List Value}{vs:List V}(Fk:FnOk X.prog X.w X.K X.mg X.base CX k f fd ps sp)(hr:Room k X.A)(hq:CX.q=true→X.calm=true)(hb:Binds X.K fd ps [])
  (I:Inv X pins σ H s) (r:Vals vs us) (h:sp vs H Q E) (hx:∀ v s',CX X.stack H s E v s'→X.xe v s'):wpAny (model X.prog X.w) X.A (call (.ref f) us) (EP X pins σ Q) X.xe s:=by
 have hl:us.length=ps.length:=by rw [← r.length]; exact Fk.len _ _ _ _ h
 have hb2:=hb s us I.kIn (by rw [List.append_nil]; exact hl)
 rw [List.append_nil] at hb2
 refine wpAny_call (codeAny_mono (Fk.run X.A X.stack s H ⟨us,[]⟩ us vs Q E hr (fun z=>I.ok.hd (hq z)) I.env0 hb2 r h) fun r s' q=>?_)
 cases r with
 | error v=>exact hx v s' q
 | ok fl=>
  cases fl with
  | ret u=>exact I.after q
  | next=>exact False.elim q
  | brk=>exact False.elim q
  | cont=>exact False.elim q
theorem run_mX {f:Addr}{fd:FuncData}{ps:List Str}{pins:List (Addr×Obj)}{σ:St}{H:Hp}{s:Shared}{Q:VK}{us:List Value}{vs:List V}{φ:List Addr}{h:Mem}{ws:List W}(Fk:FnOk X.prog X.w X.K X.mg X.base (CXe qc X.prog X.w) k f fd ps (spH Z.T F))(hx:XOk X Z)(hr:Room k X.A)(hq:qc=true→X.calm=true)
  (hb:Binds X.K fd ps []) (I:Inv X pins σ H s) (r:Vals vs us) (sg:Z.sg σ) (st:Step Z.φ Z.H φ H) (rh:RH Z.T φ h H) (rw:RWs Z.T φ H ws vs) (q:(F ws h).post (Kv Z.T φ H Q) Z.xw):wpAny (model X.prog X.w) X.A (call (.ref f) us) (EP X pins σ Q) X.xe s:=by
 refine run_fnX (E:=fun cv da H'=>∃ φ' h' w,Step φ H φ' H'∧RH Z.T φ' h' H'∧RX Z.T φ' H' w cv da∧Z.xw w h') Fk hr hq hb I r ⟨φ,h,ws,rh,rw,?_⟩ ?_
 ·cases e:F ws h with
  | ok w m=>rw [e] at q; exact q
  | no=>rw [e] at q; exact q
  | ex w m=>rw [e] at q; exact fun φ' H' cv da s r x=>⟨φ',m,w,s,r,x,q⟩
 ·rintro v s' ⟨e,cv,da,T,H',rfl,os,bare,un,hok,R,⟨h1,h2⟩,⟨h3,h4⟩,φ',h',w,st',rh',rx,xw⟩
  refine hx _ _ ⟨pins,σ,H',e,cv,da,some T,φ',h',w,rfl,⟨I.call' os un hok bare (fun b z=>by cases z),R,fun b hb=>?_⟩,sg,st.trans st',rh',rx,xw⟩
  rcases List.mem_cons.mp hb with rfl | hb
  ·exact ⟨h1,outs_new I h2⟩
  ·have hb:b=T:=by simpa using hb
   subst hb
   exact ⟨h3,outs_new I h4⟩
def xCallX (F:Fm)(f:Exs):Ex:=fun ρ h=>match f ρ h with
 | .ok ws h1=>F ws h1
 | .ex w h1=>.ex w h1
 | .no=>.no
theorem args_X {Q:VK}{pins:List (Addr×Obj)}{s:Shared}{σ:St}{H:Hp}(ha:QA X Z es fa)(I:Inv X pins σ H s){φ:List Addr}{h:Mem}{ρ:Sg}(x:Here Z σ H φ h ρ)(q:(xCallX F fa ρ h).post (Kv Z.T φ H Q) Z.xw) :
  wpAny (model X.prog X.w) X.A (spliced (backTo pos (starEach es X.env))) (AP X pins σ fun vs H1=>∃ φ1 h1 ws,Step φ H φ1 H1∧Here Z σ H1 φ1 h1 ρ∧RWs Z.T φ1 H1 ws vs∧(F ws h1).post (Kv Z.T φ1 H1 Q) Z.xw) X.xe s:=by
 refine ha.pa pos pins s σ H _ I ⟨φ,h,ρ,x,?_⟩
 unfold xCallX at q
 cases e:fa ρ h with
 | no=>rw [e] at q; exact q.elim
 | ex w h'=>rw [e] at q; exact q
 | ok ws h1=>
  rw [e] at q
  intro φ1 H1 vs s1 r1 rw1
  refine ⟨φ1,h1,ws,s1,x.step s1 r1,rw1,?_⟩
  exact q.mono fun w m k=>k.step s1
theorem q_fnX (G:FnAt X.prog X.w X.K X.mg X.base (CXe qc X.prog X.w) k x (spH Z.T F))(hx:XOk X Z)(hr:Room j X.A)(hkj:k≤j)(hg:Gl X x)(ha:QA X Z (e::es) fa)(hdb:(x == ("__debug__":Str))=false:=by decide)
  (he:starEach (e::es) X.env=(false,eval e X.env)::starEach es X.env:=by rfl) (hpl:(backTo pos (starEach es X.env)).any (·.1)=false:=by rfl) (hq:qc=true→X.calm=true:=by first | exact fun _=>rfl | (intro h; cases h)):QE X Z (.Call (.Name x p) (e::es) [] pos) (xCallX F fa):=by
 obtain ⟨f,fd,ps,Fk,hm,kp,hb⟩:=G
 refine ⟨fun pins s σ H Q I ⟨φ,h,ρ,x0,q⟩=>?_⟩
 refine wpAny_Call_Name_kw (ld_glob I hg hm ?_ hdb)
 refine PySem.W.callWith_K (h₀:=X.base) I.ok.mod.kin kp (thn (args_X (F:=F) ha I x0 q) fun us s1 ⟨vs,H1,I1,r,φ1,h1,ws,_,x1,rw1,q1⟩=>⟨I1.kIn,?_⟩) he hpl
 exact run_mX Fk hx (hr.mono hkj) hq hb I1 r x1.sg x1.st x1.rh rw1 q1
end
end M
namespace M
open PySem PySem.Spec PyProof.Rows L2
def bmV:List Value:=[.type "ValueError",.type "Exception",.type "BaseException",.type "object"]
def excSh (K:PySem.W.Frag)(C:Addr)(newId:String):Bool:=match K.lookup C with
 | some ⟨.type "type",_,.cls cd,sl⟩=>(match cd.mro,sl.toList with
  | .ref C'::_,[_,_,_,_,some (.builtin n),_]=>C' == C && (n == newId && !cd.hasDel)
  | _,_=>false)
 | _=>false
theorem excSh_of {K:PySem.W.Frag}{C:Addr}{newId:String}(q:excSh K C newId=true):∃ nm qn N bs bm hd sn sub ab col dd k0 k1 k2 k3 k5,K.lookup C=some (excClassObj nm qn C N bs bm hd sn sub ab col dd k0 k1 k2 k3 k5 newId):=by
 unfold excSh at q
 split at q
 ·rename_i dd cd sl ho
  split at q
  ·rename_i C' bm k0 k1 k2 k3 n k5 hm hs
   simp only [Bool.and_eq_true,beq_iff_eq,Bool.not_eq_true'] at q
   obtain ⟨rfl,rfl,hdel⟩:=q
   obtain ⟨nm,bs,mro,ns,qn,hd,sn,sub,ab,col,del⟩:=cd
   dsimp only at hm hdel
   subst hm hdel
   obtain ⟨l⟩:=sl
   dsimp only at hs
   subst hs
   exact ⟨nm,qn,ns,bs,bm,hd,sn,sub,ab,col,dd,k0,k1,k2,k3,k5,ho⟩
  ·cases q
 ·cases q
theorem mro_of {K:PySem.W.Frag}{C:Addr}{nm qn:Str}{N:Addr}{bs bm:List Value}{hd:Bool}{sn:List Str}{sub:List Value}{ab:Bool}{col:Option Bool}{dd:Option Addr}{k0 k1 k2 k3 k5:Option Value}{newId:String}{v:Value}{b:Bool}
  (ho:K.lookup C=some (excClassObj nm qn C N bs bm hd sn sub ab col dd k0 k1 k2 k3 k5 newId)) (q:PySem.W.mroIn K C v=some b):(Value.ref C::bm).contains v=b:=by
 unfold PySem.W.mroIn PySem.W.clsIn at q
 rw [ho] at q
 exact Option.some.inj q
section
variable {K:PySem.W.Frag} {h:Heap} {C:Addr} {newId:String}
def rzIn (K:PySem.W.Frag)(C:Addr):Bool:=PySem.W.excIn K C bmV "ValueError.__new__"
theorem rz_of (X:K.In h)(q:rzIn K C=true):∃ bm N nm qn bs hd sn sub ab col dd k0 k1 k2 k3 k5 mN,h.get? C=some (excClassObj nm qn C N bs bm hd sn sub ab col dd k0 k1 k2 k3 k5 "ValueError.__new__")∧h.Ns N mN∧mN "__init__"=none∧OwnTail h bmV bm:=by
 unfold rzIn PySem.W.excIn at q
 split at q
 ·rename_i dd cd sl ho
  split at q
  ·rename_i C' bm k0 k1 k2 k3 n k5 hm hs
   simp only [Bool.and_eq_true,beq_iff_eq,Bool.not_eq_true'] at q
   obtain ⟨⟨⟨⟨⟨rfl,rfl⟩,hdel⟩,ht⟩,hok⟩,hni⟩:=q
   obtain ⟨nm,bs,mro,ns,qn,hd,sn,sub,ab,col,del⟩:=cd
   dsimp only at hm hdel hok hni
   subst hm hdel
   obtain ⟨l⟩:=sl
   dsimp only at hs
   subst hs
   have i1:=PySem.W.isNs_of_in X hok
   exact ⟨bm,ns,nm,qn,bs,hd,sn,sub,ab,col,dd,k0,k1,k2,k3,k5,h.nsMap ns,X _ _ ho,.of_isNs i1,PySem.W.nsMap_none_of_in X hok hni,PySem.W.tail_of_in X ht⟩
  ·cases q
 ·cases q
end
def RzAt (K:PySem.W.Frag)(mg:Str→Option Value)(T:CTb)(c:Str):Prop:=∃ C,T.x c=some C∧mg c=some (.ref C)∧rzIn K C=true
def xRaise (c:Str)(f:Exs):Sm:=fun ρ h=>match f ρ h with
 | .ok ws h1=>bif decide (ws.length≤sizeLine) then .ex (.exc c [] []) h1 else .no
 | .ex w h1=>.ex w h1
 | .no=>.no
section
variable {X:Cx} {Z:Zc} {fa:Exs} {c:Str} {np cpos pos:Pos} {e:Expr} {es:List Expr}
theorem qs_raise (Rz:RzAt X.K X.mg Z.T c)(hx:XOk X Z)(hg:Gl X c)(ha:QA X Z (e::es) fa)(hdb:(c == ("__debug__":Str))=false:=by decide)(he:starEach (e::es) X.env=(false,eval e X.env)::starEach es X.env:=by rfl)
  (hpl:(backTo cpos (starEach es X.env)).any (·.1)=false:=by rfl) (hcl:X.calm=true:=by rfl):QS X Z (.Raise (some (.Call (.Name c np) (e::es) [] cpos)) none pos) (xRaise c fa):=by
 obtain ⟨C,hT,hm,hq⟩:=Rz
 refine ⟨fun pins s σ H D I ⟨φ,h,ρ,x,q⟩=>?_⟩
 obtain ⟨bm,N,nm,qn,bs,hd,sn,sub,ab,col,dd,k0,k1,k2,k3,k5,mN,hC,hN,hni,Tl⟩:=rz_of I.ok.mod.kin hq
 have hps:=ha.pa cpos pins s σ H (fun vs H1=>∃ φ1 h1,Here Z σ H1 φ1 h1 ρ∧vs.length≤sizeLine∧Z.xw (.exc c [] []) h1) I ⟨φ,h,ρ,x,by
  unfold xRaise at q
  cases e1:fa ρ h with
  | no=>rw [e1] at q; exact q.elim
  | ex w h1=>rw [e1] at q; exact q
  | ok ws h1=>
   rw [e1] at q
   dsimp only at q
   cases hz:decide (ws.length≤sizeLine) with
   | false=>rw [hz] at q; exact q.elim
   | true=>
    rw [hz] at q
    intro φ1 H1 vs s1 r1 rw1
    exact ⟨φ1,h1,x.step s1 r1,by rw [← rw1.length]; exact of_decide_eq_true hz,q⟩⟩
 refine wpAny_Raise_call_subT (nm:=nm) (q:=qn) (N:=N) (bs:=bs) (hdct:=hd) (sn:=sn) (sub:=sub) (ab:=ab) (col:=col) (dd:=dd) (k0:=k0) (k1:=k1) (k2:=k2) (k3:=k3) (k5:=k5) PySem.F.excBase_ValueError (Tl.hasType PySem.F.excBase_ValueError.hasBase) (I.ok.hd hcl) (by rw [he]; show (false || (backTo cpos (starEach es X.env)).any (·.1))=false; rw [hpl]; rfl) hni (ld_glob I hg hm ⟨rfl,?_⟩ hdb)
 rw [he] at hps ⊢
 refine Calls.evalArgs_plain (thn hps fun us s2 ⟨vs,H2,I2,r,φ2,h2,x2,hl,xw⟩=>⟨rfl,by rw [← r.length]; exact hl,I2.bk _ _ hC,hN.keeps I2.bk,Tl.keeps I2.bk,fun h' a hm'=>?_⟩)
 obtain ⟨t,ht,_,_⟩:=hm'.there
 refine hx _ _ ⟨pins,σ,H2,a,.ref C,none,none,φ2,h2,.exc c [] [],rfl,⟨I2.kept (t':=s2.toks) hm'.keeps,⟨_,_,ht,rfl,rfl,rfl,rfl,rfl⟩,fun b hb=>?_⟩,x2.sg,x2.st,x2.rh,⟨C,[],hT,rfl,rfl,by unfold RWs; rfl,rfl⟩,xw⟩
 have hb:b=a:=by simpa using hb
 subst hb
 exact ⟨untracked I2.hok hm'.new,outs_new I2 hm'.new⟩
end
end M
namespace M
open PySem PySem.Spec PyProof.Rows L2
abbrev _root_.L2.Cx.tr (X:Cx)(E:Value→Shared→Prop)(pn:List (Addr×Obj)):Cx:={ X with xe:=E,pn:=pn }
abbrev _root_.L2.Cx.loud (X:Cx)(e:Addr)(o:Obj)(u:HO):Cx:={ X with A:=X.A.mark (some (.ref e)),calm:=false,H₀:=upd X.H₀ e (.frz o u),xe:=fun _ _=>False }
theorem _root_.L2.Room.mark {k:Nat}{A:Around}(r:Room k A)(v:Option Value):Room k (A.mark v):=⟨r.dp,r.un⟩
section
variable {X:Cx} {pins:List (Addr×Obj)} {σ:St} {H:Hp} {s:Shared}
theorem inv_tr (I:Inv X pins σ H s)(E:Value→Shared→Prop):Inv (X.tr E (X.pn++pins)) [] σ H s:=
 ⟨⟨I.ok.mod,I.ok.kind,I.ok.glob,I.ok.blt,I.ok.above,I.ok.inj,I.ok.has,I.ok.cab,I.ok.hd,I.ok.frames,I.ok.stk,I.ok.exf,I.ok.bs,I.ok.bsz,I.ok.noex,I.ok.exfs,I.ok.funs,I.ok.frf,I.ok.lq⟩,I.os,I.bare,I.base,I.loc,I.cell,I.free,I.freeC,fun p hp=>I.pin p (by simpa using hp),I.hok,I.len⟩
theorem inv_untr {E:Value→Shared→Prop}{pins1:List (Addr×Obj)}(ok:X.Ok)(I:Inv (X.tr E (X.pn++pins)) pins1 σ H s):Inv X pins σ H s:=
 ⟨ok,I.os,I.bare,I.base,I.loc,I.cell,I.free,I.freeC,fun p hp=>I.pin p (List.mem_append_left _ hp),I.hok,I.len⟩
def NewAt (X:Cx)(e:Addr):Prop:=(X.s₀.heap.get? e=none∨e∈X.ex)∧(∀ xs,X.H₀ e≠some (.tup xs))∧(∀ o u,X.H₀ e≠some (.frz o u))∧∀ ps,X.H₀ e≠some (.tbl ps)
theorem newAt_of {e:Addr}(I:Inv X pins σ H s)(he:H e=none)(o:Outs X pins e):NewAt X e:=
 ⟨o.1,fun xs q=>(by have:=I.base.tups e xs q; rw [he] at this; cases this),fun ob u q=>(by have:=I.base.frzs e ob u q; rw [he] at this; cases this),fun ps q=>(by obtain ⟨_,this⟩:=I.base.tbls e ps q; rw [he] at this; cases this)⟩
theorem inv_loud {e:Addr}{ob:Obj}{u:HO}(I:Inv X pins σ H s)(n:NewAt X e)(hH:H e=some (.frz ob u))(c:Ctx0 ob):Inv (X.loud e ob u) pins σ H s:=by
 have bne:∀ b o,X.s₀.heap.get? b=some o→b ∉ X.ex→b≠e:=fun b o q hx z=>by
  subst z
  rcases n.1 with y | y
  ·rw [y] at q; cases q
  ·exact hx y
 have un:∀ {b:Addr},upd X.H₀ e (.frz ob u) b=none→b≠e∧X.H₀ b=none:=fun {b} q=>by
  have nb:b≠e:=fun z=>by rw [z,upd_same] at q; cases q
  rw [upd_ne nb] at q
  exact ⟨nb,q⟩
 refine ⟨⟨I.ok.mod,I.ok.kind,I.ok.glob,I.ok.blt,I.ok.above,I.ok.inj,I.ok.has,I.ok.cab,fun z=>(by cases z),I.ok.frames,I.ok.stk,I.ok.exf,fun b o q=>?_,I.ok.bsz,I.ok.noex,I.ok.exfs,I.ok.funs,fun b hb=>?_,.inr ⟨e,ob,u,rfl,c,upd_same⟩⟩,I.os,I.bare,⟨fun b o q h0=>I.base.keep b o q (un h0).2,fun b o q h0=>I.base.slot b o q (un h0).2,fun b o q h0=>I.base.free b o q (un h0).2,I.base.there,fun b xs q=>?_,fun b o v q=>?_,fun b ps q=>?_⟩,I.loc,I.cell,I.free,I.freeC,I.pin,I.hok,I.len⟩
 ·obtain ⟨a1,a2⟩:=I.ok.bs b o q
  exact ⟨a1,by rw [show (X.loud e ob u).H₀ b=upd X.H₀ e (.frz ob u) b from rfl,upd_ne (bne b o a1 (I.ok.noex b o q))]; exact a2⟩
 ·obtain ⟨_,o,ho,_⟩:=I.ok.funs.mem hb
  rw [show (X.loud e ob u).H₀ b=upd X.H₀ e (.frz ob u) b from rfl,upd_ne (bne b o ho fun z=>I.ok.exfs b z hb)]
  exact I.ok.frf b hb
 ·have q:upd X.H₀ e (.frz ob u) b=some (.tup xs):=q
  by_cases z:b=e
  ·rw [z,upd_same] at q; cases q
  ·rw [upd_ne z] at q; exact I.base.tups b xs q
 ·have q:upd X.H₀ e (.frz ob u) b=some (.frz o v):=q
  by_cases z:b=e
  ·rw [z,upd_same] at q; cases q; rw [z]; exact hH
  ·rw [upd_ne z] at q; exact I.base.frzs b o v q
 ·have q:upd X.H₀ e (.frz ob u) b=some (.tbl ps):=q
  by_cases z:b=e
  ·rw [z,upd_same] at q; cases q
  ·rw [upd_ne z] at q; exact I.base.tbls b ps q
theorem inv_unloud {e:Addr}{ob:Obj}{u:HO}(ok:X.Ok)(n:NewAt X e)(I:Inv (X.loud e ob u) pins σ H s):Inv X pins σ H s:=by
 have bne:∀ b o,X.s₀.heap.get? b=some o→b ∉ X.ex→b≠e:=fun b o q hx z=>by
  subst z
  rcases n.1 with y | y
  ·rw [y] at q; cases q
  ·exact hx y
 have up:∀ {b:Addr},b≠e→(X.loud e ob u).H₀ b=X.H₀ b:=fun {b} z=>upd_ne z
 refine ⟨ok,I.os,I.bare,⟨fun b o q h0 hb hx=>I.base.keep b o q ((up (bne b o q hx)).trans h0) hb hx,fun b o q h0 hb hx=>I.base.slot b o q ((up (bne b o q hx)).trans h0) hb hx,fun b o q h0 hx=>I.base.free b o q ((up (bne b o q hx)).trans h0) hx,I.base.there,fun b xs q=>?_,fun b o v q=>?_,fun b ps q=>?_⟩,I.loc,I.cell,I.free,I.freeC,I.pin,I.hok,I.len⟩
 ·exact I.base.tups b xs ((up fun z=>n.2.1 xs (z ▸ q)).trans q)
 ·exact I.base.frzs b o v ((up fun z=>n.2.2.1 o v (z ▸ q)).trans q)
 ·exact I.base.tbls b ps ((up fun z=>n.2.2.2 ps (z ▸ q)).trans q)
theorem track {e:Addr}{ho:HO}(I:Inv X pins σ H s)(he:H e=none)(o:Outs X pins e)(new:ObjOk X.prog X.w (upd H e ho) s.heap e ho):Inv X pins σ (upd H e ho) s:=by
 have ne:∀ b u,H b=some u→b≠e:=fun b u q=>ne_of_none q he
 refine ⟨I.ok,I.os,I.bare,⟨I.base.keep,I.base.slot,fun b ob q n hx=>?_,I.base.there,fun b xs q=>?_,fun b ob xs q=>?_,fun b ps q=>?_⟩,I.loc,I.cell,?_,fun x c q=>?_,fun p hp=>?_,fun b u q=>?_,I.len⟩
 ·rw [upd_ne]
  ·exact I.base.free b ob q n hx
  ·rintro rfl
   rcases o.1 with z | z
   ·rw [z] at q; cases q
   ·exact hx z
 ·have:=I.base.tups b xs q
  rw [upd_ne (ne _ _ this)]; exact this
 ·have:=I.base.frzs b ob xs q
  rw [upd_ne (ne _ _ this)]; exact this
 ·obtain ⟨more,this⟩:=I.base.tbls b ps q
  exact ⟨more,by rw [upd_ne (ne _ _ this)]; exact this⟩
 ·rw [upd_ne (Ne.symm o.2.1)]; exact I.free
 ·rw [upd_ne (o.2.2.1 x c q)]; exact I.freeC x c q
 ·obtain ⟨e1,n,ne',nf,d⟩:=I.pin p hp
  exact ⟨e1,by rw [upd_ne (o.2.2.2 p hp)]; exact n,ne',nf,d⟩
 ·by_cases z:b=e
  ·subst z
   rw [upd_same] at q
   cases q
   exact new
  ·rw [upd_ne z] at q
   exact (I.hok b u q).stay (fun c v _ r=>r) (fun c r=>by rw [upd_ne (ne _ _ r)]; exact r) fun c xs r=>by rw [upd_ne (ne _ _ r)]; exact r
theorem drop_ok {Md:Model}{A:Around}{E:Value→Shared→Prop}{i:Nat}{n:Str}{pos:Pos}{Q:Unit→Shared→Prop}(I:Inv X pins σ H s)(hN:X.N.Nodup)(hi:X.N[i]? = some n)(hk:X.env.scope.names.lookup n=some .local)(k:∀ s',Inv X pins (σ.set i none) H s'→Q () s') :
  wpAny Md A (do bindName X.env n .none; unbindBehindTheSuite X.env n pos) Q E s:=by
 obtain ⟨m,hn,hl⟩:=id I.loc
 refine wpAny_nameGoes_keeps hk hn (by rw [I.ok.kind]; rfl) fun h' v hn' hs=>k _ ?_
 have nL:∀ b o,X.s₀.heap.get? b=some o→b≠X.env.locals:=fun b o e=>Nat.ne_of_lt (Nat.lt_of_lt_of_le (Heap.lt_size e) I.ok.above)
 refine ⟨I.ok,I.os,I.bare,⟨fun b o e n' hb hx=>(hs.2 b (nL b o e)).trans (I.base.keep b o e n' hb hx),fun b o e n' hb hx=>?_,I.base.free,fun b o e hx=>?_,I.base.tups,I.base.frzs,I.base.tbls⟩,⟨_,hn',fun j y v' e1 e2 e3=>?_⟩,fun y c e=>?_,I.free,I.freeC,fun p hp=>?_,fun b u e=>?_,by simpa using I.len⟩
 ·obtain ⟨sl,e1⟩:=I.base.slot b o e n' hb hx
  exact ⟨sl,(hs.2 b (nL b o e)).trans e1⟩
 ·obtain ⟨o',e1⟩:=I.base.there b o e hx
  exact ⟨o',(hs.2 b (nL b o e)).trans e1⟩
 ·rw [List.getElem?_set] at e2
  split at e2
  ·split at e2 <;> cases e2
  ·rename_i hij
   obtain ⟨u',r',q⟩:=hl j y v' e1 e2 e3
   refine ⟨u',r',?_⟩
   rcases q with ⟨kk,e⟩ | ⟨kk,c,e,z⟩
   ·have ny:y≠n:=fun e=>hij (nodup_ix hN hi (e ▸ e1))
    exact .inl ⟨kk,by simp [ny,e]⟩
   ·exact .inr ⟨kk,c,e,z.sameBut hs (I.cne y c e)⟩
 ·obtain ⟨w',z⟩:=I.cell y c e
  exact ⟨w',z.sameBut hs (I.cne y c e)⟩
 ·obtain ⟨e,n',ne,nf,d⟩:=I.pin p hp
  exact ⟨(hs.2 p.1 ne).trans e,n',ne,nf,d⟩
 ·refine (I.hok b u e).stay (fun c v' hc q=>(hs.2 c ?_).trans q) (fun _ q=>q) fun _ _ q=>q
  rintro rfl
  rcases hc with rfl | hc
  ·rw [I.free] at e; cases e
  ·rw [I.free] at hc; cases hc
end
theorem exm {Md:Model}{A:Around}{E:Value→Shared→Prop}{s:Shared}{e C D:Addr}{oe:Obj}{Q:Bool→Shared→Prop}{nm qn nm' qn':Str}{N N':Addr}{bs bm bs' bm':List Value}{hd hd':Bool}{sn sn':List Str}{sub sub':List Value}{ab ab':Bool}{col col':Option Bool}{dd dd':Option Addr}{k0 k1 k2 k3 k5 k0' k1' k2' k3' k5':Option Value}{nw nw':String}
  (hC:s.heap.get? C=some (excClassObj nm qn C N bs bm hd sn sub ab col dd k0 k1 k2 k3 k5 nw)) (hD:s.heap.get? D=some (excClassObj nm' qn' D N' bs' bm' hd' sn' sub' ab' col' dd' k0' k1' k2' k3' k5' nw')) (he:s.heap.get? e=some oe) (hcls:oe.cls=.ref C)
  (hDB:(Value.ref D::bm').contains (.type "BaseException")=true) (hCD:(Value.ref C::bm).contains (.ref D)=true) (hq:Q true s):wpAny Md A (excMatches (.ref e) (.ref D)) Q E s:=by
 obtain ⟨hp,g,d,t,os⟩:=s
 have f:=tc_notTuple
 unfold excMatches
 repeat (first | (with_reducible refine wpAny_loadPart_at he ?_; rw [hcls]) | with_reducible refine wpAny_loadPart_at hD ?_ | (with_reducible refine wpAny_isSubtype_exc hD ?_; rw [hDB]) | (with_reducible refine wpAny_isSubtype_exc hC ?_; rw [hCD]) | wp_step)
 exact hq
def fgt:List Nat→Sg→Sg
 | [],ρ=>ρ
 | i::r,ρ=>fgt r (ρ.set i none)
theorem fgt_get {j:Nat}{w:W}:∀ {asg:List Nat} {ρ:Sg},(fgt asg ρ)[j]? = some (some w)→j ∉ asg∧ρ[j]? = some (some w)
 | [],ρ,e=>⟨by simp,e⟩
 | i::r,ρ,e=>by
  obtain ⟨n,q⟩:=fgt_get (asg:=r) e
  rw [List.getElem?_set] at q
  split at q
  ·split at q <;> cases q
  ·rename_i hij
   exact ⟨by simp only [List.mem_cons,not_or]; exact ⟨fun z=>hij z.symm,n⟩,q⟩
theorem fgt_len:∀ {asg:List Nat} {ρ:Sg},(fgt asg ρ).length=ρ.length
 | [],_=>rfl
 | i::r,ρ=>by unfold fgt; rw [fgt_len]; simp
theorem rs_unset {T:CTb}{φ:List Addr}{H:Hp}{ρ:Sg}{σ:St}{i:Nat}(r:RS T φ H ρ σ):RS T φ H (ρ.set i none) (σ.set i none):=⟨by simp [r.len],fun j w e=>by
 rw [List.getElem?_set] at e
 split at e
 ·split at e <;> cases e
 ·rename_i hij
  obtain ⟨v,a,b⟩:=r.var j w e
  exact ⟨v,by rw [List.getElem?_set_ne hij]; exact a,b⟩⟩
def endX (i:Nat):Out→Out
 | .nx ρ h=>.nx (ρ.set i none) h
 | .bk ρ h=>.bk (ρ.set i none) h
 | .ct ρ h=>.ct (ρ.set i none) h
 | .rt w h=>.rt w h
 | _=>.no
def xTry (sub:Str→Bool)(i:Nat)(asg:List Nat)(B Hn:Sm):Sm:=fun ρ h=>match B ρ h with
 | .ex w h'=>(match w with
  | .exc c fs ws=>bif sub c then endX i (Hn ((fgt asg ρ).set i (some (.exc c fs ws))) h') else .no
  | _=>.no)
 | o=>o
structure CatAt (K:PySem.W.Frag)(mg:Str→Option Value)(T:CTb)(d:Str)(sub:Str→Bool):Prop where
 ex:∃ D,mg d=some (.ref D)∧excSh K D "ValueError.__new__"=true∧PySem.W.mroIn K D (.type "BaseException")=some true∧∀ c C,sub c=true→T.x c=some C→excSh K C "ValueError.__new__"=true∧PySem.W.mroIn K C (.ref D)=some true
section
variable {X:Cx} {Z:Zc} {sub:Str→Bool} {i:Nat} {asg:List Nat} {B Hn:Sm} {n d:Str} {np hpos pos:Pos} {body suite:List Stmt} {b₀:Stmt}
theorem qs_try (hK:CatAt X.K X.mg Z.T d sub)(hg:Gl X d)(hN:X.N.Nodup)(hi:X.N[i]? = some n)(hk:X.env.scope.names.lookup n=some .local)(hsg:∀ σ,Z.sg σ)(hst:X.stack=X.env::X.outer)(hfr:X.env.frame=some X.env.locals)
  (hB:∀ E' pn φ' H' sg' xw',(∀ j∈asg,∀ σ v,sg' σ→sg' (σ.set j (some v)))→XOk (X.tr E' pn) ⟨Z.T,φ',H',sg',xw'⟩→QB (X.tr E' pn) ⟨Z.T,φ',H',sg',xw'⟩ body B)
  (hH:∀ e o u φ' H',QB (X.loud e o u) (Zf Z.T φ' H') (b₀::suite) Hn) (hdb:(d == ("__debug__":Str))=false:=by decide) :
  QS X Z (.Try body [.ExceptHandler (some (.Name d np)) (some n) (b₀::suite) hpos] [] [] pos) (xTry sub i asg B Hn):=by
 obtain ⟨D,hd,hD,hDB,hsub⟩:=hK.ex
 refine ⟨fun pins s σ H Dn I ⟨φ,h,ρ,x,q⟩=>wpAny_Try_except ?_⟩
 obtain ⟨nmD,qnD,ND,bsD,bmD,hdD,snD,subD,abD,colD,ddD,a0,a1,a2,a3,a5,lkD⟩:=excSh_of hD
 refine wpAny_mono ((hB (fun v s₁=>wpAny (model X.prog X.w) X.A (noteFrame v X.env) (fun _ s₂=>wpAny (model X.prog X.w) X.A (setFlight v none) (fun _ s₃=>wpAny (model X.prog X.w) X.A (handleBy v X.env [.ExceptHandler (some (.Name d np)) (some n) (b₀::suite) hpos]) (SP X pins Dn) X.xe s₃) X.xe s₂) X.xe s₁) (X.pn++pins) φ H
  (fun σ'=>∀ j,j ∉ asg→σ'[j]? = σ[j]?) (fun w h1=>∃ c fs ws,w=.exc c fs ws∧sub c=true∧(endX i (Hn ((fgt asg ρ).set i (some w)) h1)).post Z φ H Dn) (fun j hj σ' v z j' hj'=>?_) ?_).ps [] s σ H Dn (inv_tr I _) ⟨φ,h,ρ,⟨fun _ _=>rfl,Step.refl _ _,x.rh,x.rs⟩,?_⟩) (fun f s1 sp=>?_) fun v s1 z=>z
 ·rw [List.getElem?_set_ne (fun z'=>hj' (by rw [← z']; exact hj))]; exact z j' hj'
 ·rintro v s1 ⟨pins1,σ1,H1,e,cv,da,T1,φ1,h1,w,rfl,⟨I1,R,own⟩,sg1,st1,rh1,rx1,c,fs,ws,rfl,hs1,qp⟩
  replace I1:=inv_untr I.ok I1
  replace own:∀ b∈e::T1.toList,H1 b=none∧Outs X pins b:=fun b hb=>⟨(own b hb).1,(own b hb).2.1,(own b hb).2.2.1,(own b hb).2.2.2.1,fun p hp=>(own b hb).2.2.2.2 p (List.mem_append_left _ hp)⟩
  obtain ⟨C,vs,hTc,rfl,hfl,hrw,hda⟩:=rx1
  obtain ⟨hC,hCD⟩:=hsub c C hs1 hTc
  obtain ⟨nm,qn,N,bs,bm,hdc,sn,sb,ab,col,dd,k0,k1,k2,k3,k5,lkC⟩:=excSh_of hC
  show wpAny _ _ (noteFrame (.ref e) X.env) _ _ s1
  refine note_ok (base:=X.base) (by rw [← hst]; exact I1.ok.frames) (by rw [← hst]; exact I1.stack) hfr R fun g T2 r c1 nw=>?_
  have I2:=chg I1 (by rw [hst]; exact c1) own
  have own2:∀ b∈[e,T2],H1 b=none∧Outs X pins b:=fun b hb=>by
   rcases List.mem_cons.mp hb with rfl | hb
   ·exact own b List.mem_cons_self
   ·have hb:b=T2:=by simpa using hb
    subst hb
    rcases nw with nw | nw
    ·exact own b (by rw [nw]; simp)
    ·exact ⟨I1.hok.fresh nw,outs_new I1 (Heap.get?_none_of_le nw)⟩
  have ownT:∀ b∈[T2],H1 b=none∧Outs X pins b:=fun b hb=>own2 b (List.mem_cons_of_mem _ hb)
  refine flight_ok r fun g2 r2 c2=>?_
  have I3:=chg I2 (c2.mono (fun b z=>by cases z) fun b z=>z) ownT
  obtain ⟨oe,vv,he,hcls,hdi,hfd,hc0,hT2⟩:=id r2
  have IT:=track (ho:=.frz oe (.ext (XShape e C da))) I3 (own2 e (by simp)).1 (own2 e (by simp)).2 ⟨he,⟨oe,vv,he,hcls,hfd,hdi⟩,⟨oe,he⟩,fun h1 h2 ⟨o,us,a,b⟩ k=>⟨o,us,k o a,b⟩⟩
  have nw3:=newAt_of I3 (own2 e (by simp)).1 (own2 e (by simp)).2
  refine wpAny_handleBy_cons (codeAny_handlers_test (ld_glob (X:=X.loud e oe (.ext (XShape e C da))) (inv_loud IT nw3 upd_same ⟨vv,hfd,hc0⟩) hg hd ?_ hdb)) (by intro z; cases z)
  refine exm (I3.kIn _ _ lkC) (I3.kIn _ _ lkD) he hcls (mro_of lkD hDB) (mro_of lkC hCD) ?_
  refine codeAny_handlers_suite_as (flight_ok r2 fun g3 r3 c3=>?_)
  have I4:=chg I3 (c3.mono (fun b z=>by cases z) fun b z=>z) ownT
  obtain ⟨oe4,vv4,he4,hcls4,hdi4,hfd4,hc04,_⟩:=id r3
  have I5:=track (ho:=.frz oe4 (.ext (XShape e C da))) I4 (own2 e (by simp)).1 (own2 e (by simp)).2 ⟨he4,⟨oe4,vv4,he4,hcls4,hfd4,hdi4⟩,⟨oe4,he4⟩,fun h1 h2 ⟨o,us,a,b⟩ k=>⟨o,us,k o a,b⟩⟩
  have st5:=step_tmp (φ:=φ1) (H:=H1) (ho:=.frz oe4 (.ext (XShape e C da))) (own2 e (by simp)).1
  have rh5:=rh1.tmp (ho:=.frz oe4 (.ext (XShape e C da))) (own2 e (by simp)).1
  have rwe:RW Z.T φ1 (upd H1 e (.frz oe4 (.ext (XShape e C da)))) (.exc c fs ws) (.ref e):=by
   unfold RW
   refine ⟨e,C,da,vs,rfl,rh1.fresh (own2 e (by simp)).1,hTc,⟨oe4,⟨vv4,hfd4,hc04⟩,upd_same⟩,hfl,?_,hrw.step st5⟩
   cases da with
   | none=>exact hda
   | some d1=>exact ⟨hda.1,by rw [upd_ne (ne_of_none hda.2 (own2 e (by simp)).1)]; exact hda.2⟩
  have nw5:=newAt_of I4 (own2 e (by simp)).1 (own2 e (by simp)).2
  refine store_ok (X:=X.loud e oe4 (.ext (XShape e C da))) (v:=.ref e) (inv_loud I5 nw5 upd_same ⟨vv4,hfd4,hc04⟩) hN hi (.inl hk) rfl (fun s6 I6=>?_) (.inr hk)
  have rs5:RS Z.T φ1 (upd H1 e (.frz oe4 (.ext (XShape e C da)))) ((fgt asg ρ).set i (some (.exc c fs ws))) (σ1.set i (some (.ref e))):=by
   refine RS.set ⟨?_,fun j w e1=>?_⟩ rwe
   ·rw [fgt_len,x.rs.len,I.len,I1.len]
   ·obtain ⟨nj,e2⟩:=fgt_get e1
    obtain ⟨v,a,b⟩:=x.rs.var j w e2
    exact ⟨v,by rw [sg1 j nj]; exact a,b.step (st1.trans st5)⟩
  refine wpAny_mono ((hH e oe4 (.ext (XShape e C da)) φ1 (upd H1 e (.frz oe4 (.ext (XShape e C da))))).ps pins s6 _ _ { nx:=fun σ' H'=>Dn.nx (σ'.set i none) H',rt:=Dn.rt,bk:=fun σ' H'=>Dn.bk (σ'.set i none) H',ct:=fun σ' H'=>Dn.ct (σ'.set i none) H' } I6 ⟨φ1,h1,_,⟨trivial,Step.refl _ _,rh5,rs5⟩,?_⟩) (fun f s7 sp=>?_) fun _ _ z=>z.elim
  ·cases e6:Hn ((fgt asg ρ).set i (some (.exc c fs ws))) h1 with
   | nx ρ' h2=>rw [e6] at qp; exact fun φ' H' σ' s r rs _=>qp φ' H' _ (st1.trans (st5.trans s)) r (rs_unset rs) (hsg _)
   | bk ρ' h2=>rw [e6] at qp; exact fun φ' H' σ' s r rs _=>qp φ' H' _ (st1.trans (st5.trans s)) r (rs_unset rs) (hsg _)
   | ct ρ' h2=>rw [e6] at qp; exact fun φ' H' σ' s r rs _=>qp φ' H' _ (st1.trans (st5.trans s)) r (rs_unset rs) (hsg _)
   | rt w h2=>rw [e6] at qp; exact Kv.step qp (st1.trans st5)
   | ex w h2=>rw [e6] at qp; exact qp.elim
   | no=>rw [e6] at qp; exact qp.elim
  ·show wpAny _ X.A (do bindName X.env n .none; unbindBehindTheSuite X.env n hpos) _ _ s7
   cases f with
   | next=>obtain ⟨σ',H',J,z⟩:=sp; exact drop_ok (inv_unloud I.ok nw5 J) hN hi hk fun s8 J8=>⟨_,H',J8,z⟩
   | brk=>obtain ⟨σ',H',J,z⟩:=sp; exact drop_ok (inv_unloud I.ok nw5 J) hN hi hk fun s8 J8=>⟨_,H',J8,z⟩
   | cont=>obtain ⟨σ',H',J,z⟩:=sp; exact drop_ok (inv_unloud I.ok nw5 J) hN hi hk fun s8 J8=>⟨_,H',J8,z⟩
   | ret u=>obtain ⟨v,σ',H',J,rv,z⟩:=sp; exact drop_ok (inv_unloud I.ok nw5 J) hN hi hk fun s8 J8=>⟨v,_,H',J8,rv,z⟩
 ·unfold xTry at q
  cases e1:B ρ h with
  | nx ρ' h'=>rw [e1] at q; exact fun φ' H' σ' s r rs _=>q φ' H' σ' s r rs (hsg _)
  | bk ρ' h'=>rw [e1] at q; exact fun φ' H' σ' s r rs _=>q φ' H' σ' s r rs (hsg _)
  | ct ρ' h'=>rw [e1] at q; exact fun φ' H' σ' s r rs _=>q φ' H' σ' s r rs (hsg _)
  | rt w h'=>rw [e1] at q; exact q
  | no=>rw [e1] at q; exact q
  | ex w h'=>
   rw [e1] at q
   dsimp only at q
   cases w with
   | exc c fs ws=>
    dsimp only at q
    cases hs:sub c with
    | false=>rw [hs] at q; exact q.elim
    | true=>rw [hs] at q; exact ⟨c,fs,ws,rfl,hs,q⟩
   | _=>exact q.elim
 ·cases f with
  | next=>obtain ⟨σ',H',J,z⟩:=sp; exact wpAny_execs_nil ⟨σ',H',inv_untr I.ok J,z⟩
  | brk=>obtain ⟨σ',H',J,z⟩:=sp; exact ⟨σ',H',inv_untr I.ok J,z⟩
  | cont=>obtain ⟨σ',H',J,z⟩:=sp; exact ⟨σ',H',inv_untr I.ok J,z⟩
  | ret u=>obtain ⟨v,σ',H',J,rv,z⟩:=sp; exact ⟨v,σ',H',inv_untr I.ok J,rv,z⟩
end
end M
namespace M
open PySem PySem.Spec PyProof.Rows L2
structure ExcTy (K:PySem.W.Frag)(C:Addr):Prop where
 ga:PySem.W.findIn K (.ref C) "__getattribute__"=some (some (.builtin "BaseException.__getattribute__"))
 gh:PySem.W.findIn K (.ref C) "__getattr__"=some none
 bx:PySem.W.mroIn K C (.type "BaseException")=some true
 ha:PySem.W.findIn K (.ref C) "__class__"=some (some (.builtin "object.__class__"))
 hn:PySem.W.specialIn K (.builtin "object.__class__") "__get__"=some (some (.builtin "getset_descriptor.__get__"))
 htk:PySem.W.takesIn K (.builtin "object.__class__")=some true
 hm:PySem.W.mroIn K C (.type "object")=some true
section
variable {prog:Program} {w:World} {A:Around} {E:Value→Shared→Prop} {s:Shared} {K:PySem.W.Frag} {x C:Addr} {ox:Obj} {odo:Option Obj} {name:Str}
def FndQ (prog:Program)(w:World)(A:Around)(x C:Addr)(Q:Value→Shared→Prop)(s:Shared):Builtin.ObjectAttr.Found→Prop
 | .value v=>wpAny (model prog w) A (handedOut v) Q (fun _ _=>False) s
 | .bind g a=>wpAny (model prog w) A.in1 (call g [a,.ref x,.ref C]) (fun v s'=>wpAny (model prog w) A (handedOut v) Q (fun _ _=>False) s') (fun _ _=>False) s
 | .missing=>False
theorem exc_by {fill expr:Bool}{tk:Tok}{Q:Value→Shared→Prop}{r:Builtin.ObjectAttr.Found}(X:K.In s.heap)(I:PySem.W.InstAt s.heap x ox C odo)(Z:ExcTy K C)(hf:PySem.W.findObj K C odo name=some r)(h:FndQ prog w A x C Q s r) :
  wpAny (model prog w) A (getAttrBy (.ref x) (.str name tk) fill expr) Q E s:=by
 obtain ⟨hh,g,d,t,os⟩:=s
 have L0:=I.type (M:=model prog w)
 have L1:=PySem.W.looks_findIn (M:=model prog w) X Z.ga
 have L2:=PySem.W.looks_findIn (M:=model prog w) X Z.gh
 have L3:=PySem.W.looks_mroIn (M:=model prog w) X Z.bx
 unfold getAttrBy
 refine wpAny_holding (wpAny_bind (L0.at (wpAny_bind (L1.at ?_))))
 have hne:(Value.builtin "BaseException.__getattribute__" == Value.builtin "object.__getattribute__")=false:=by decide +kernel
 simp only [hne,Bool.and_false,Bool.false_eq_true,if_false]
 unfold getAttrByItsOwn hookBefore
 have ht:onTheHeap (Value.ref C)=true:=rfl
 simp only [ht,if_true]
 refine wpAny_bind (L2.at (wpAny_bind (wpAny_attempt (wpAny_holding ?_))))
 unfold callGetattribute
 have hfe:(expr && onTheHeap (Value.builtin "BaseException.__getattribute__"))=false:=by cases expr <;> rfl
 simp only [hfe,Bool.false_eq_true,if_false]
 unfold boundAndCalled
 rw [PySem.F.attr_ValueError.ga.bind]
 refine wpAny_bind (wpAny_pure (wpAny_call (codeAny_call_builtin PySem.F.attr_ValueError.ga.plain PySem.F.entry_bexc_ga ?_)))
 have hk:builtinKind "BaseException.__getattribute__"=some .slot:=by decide +kernel
 have hsplit:splitId "BaseException.__getattribute__"=some ("BaseException","__getattribute__"):=by decide +kernel
 have ha:=PySem.F.args_bexc_ga (.ref x) (.str name tk)
 simp only [checkBuiltinCall,hk,hsplit]
 refine wpAny_bind ((L0.andThen L3).at ?_)
 have L4:=PySem.W.looks_find (M:=model prog w) X I hf
 have e1:=I.at_
 have e2:=I.cls
 dsimp only at e1
 repeat (any_goals (first | assumption | (with_reducible refine wpAny_loadPart_at e1 ?_; rw [e2]; refine wpAny_pure ?_; refine wpAny_bind (L4.at ?_)) | wp_step))
 cases r with
 | value v=>exact wpAny_pure (wpAny_mono h (fun _ _ z=>z) fun _ _ z=>z.elim)
 | missing=>exact h.elim
 | bind g a=>
  show wpAny _ _ (holding [a] (call g [a,.ref x,.ref C]) >>= ret) _ _ _
  exact wpAny_bind (wpAny_holding (wpAny_mono h (fun v s' z=>wpAny_pure (wpAny_mono z (fun _ _ q=>q) fun _ _ q=>q.elim)) fun _ _ z=>z.elim))
theorem exc_class {Q:Option Value→Shared→Prop}(X:K.In s.heap)(I:PySem.W.InstAt s.heap x ox C odo)(Z:ExcTy K C)(h:Q (some (.ref C)) { s with toks:=s.toks+1 }):wpAny (model prog w) A (getAttr? (.ref x) "__class__") Q E s:=by
 obtain ⟨hh,g,d,t,os⟩:=s
 have hc:(PySem.W.clsIn K C).isSome=true:=by
  cases q:PySem.W.clsIn K C with
  | some cd=>rfl
  | none=>have:=Z.hm; unfold PySem.W.mroIn at this; rw [q] at this; cases this
 obtain ⟨cd,hc⟩:=Option.isSome_iff_exists.mp hc
 have hf:PySem.W.findObj K C odo "__class__"=some (.bind (.builtin "getset_descriptor.__get__") (.builtin "object.__class__")):=by
  unfold PySem.W.findObj
  rw [hc,Option.bind_some,Z.ha,Option.bind_some]
  simp [Z.hn,Z.htk]
 unfold getAttr? getAttrBy?
 refine wpAny_bind (wpAny_mkText (wpAny_bind (wpAny_attempt (exc_by (s:=⟨hh,g,d,t+1,os⟩) X I Z hf (wpAny_call (PySem.W.class_get (s:=⟨hh,g,d,t+1,os⟩) (od:=odo) X I Z.hm ?_))))))
 exact PySem.W.handed_on rfl (wpAny_pure h)
def XAtI (e C:Addr)(odo:Option Obj)(h:Heap):Prop:=∃ ox,PySem.W.InstAt h e ox C odo
theorem kitx_exc {odo:Option Obj}(Z:ExcTy K C):PySem.W.KitX K (.ref x) (.ref C) (XAtI x C odo) where
 ty:=fun _ _ _ ⟨_,I⟩=>I.type
 it:=fun _ _ X _=>by
  cases q:K.lookup C with
  | none=>have:=Z.hm; unfold PySem.W.mroIn PySem.W.clsIn at this; rw [q] at this; cases this
  | some o=>
   obtain ⟨oc,od,dt,sl⟩:=o
   cases dt with
   | cls cd=>
    intro A' Q' E' s' k z
    unfold isType loadHead
    exact wpAny_bind (wpAny_loadPart (k _ _ (X _ _ q)) (wpAny_pure z))
   | _=>have:=Z.hm; unfold PySem.W.mroIn PySem.W.clsIn at this; rw [q] at this; cases this
 ne:=fun h tp dd its n sl X htp=>by
  refine Bool.eq_false_iff.mpr fun z=>?_
  have e:C=tp:=Value.ref.inj (beq_iff_eq.mp z)
  subst e
  cases q:K.lookup C with
  | none=>have:=Z.hm; unfold PySem.W.mroIn PySem.W.clsIn at this; rw [q] at this; cases this
  | some o=>
   have e2:=(X _ _ q).symm.trans htp
   cases e2
   have:=Z.hm; unfold PySem.W.mroIn PySem.W.clsIn at this; rw [q] at this; cases this
 ca:=fun X ⟨_,I⟩ k=>exc_class X I Z k
end
end M
namespace M
open PySem PySem.Spec PyProof.Rows L2
inductive TyX (K:PySem.W.Frag) (H:Hp):V→Value→Prop where
 | of {v:V} {t:Value} (h:TyOf K H v t):TyX K H v t
 | exc {e C:Addr} {d:Option Addr} (h:Hx H e C d) (hd:∀ da,d=some da→∃ o,H da=some o) (Z:ExcTy K C):TyX K H (.ref e) (.ref C)
def CAny (K:PySem.W.Frag)(H:Hp)(t:Value)(b:Bool)(c:V):Prop:=(∃ cv,clsV c cv∧PySem.W.kitOne K t cv=some b)∨∃ p vs cvs,c=.ref p∧H p=some (.tup vs)∧Paired clsV vs cvs∧PySem.W.kitAny K t cvs=some b
def rIsiX (K:PySem.W.Frag):List V→Hp→VK→Prop:=fun xs H Q=>∃ y c t b,xs=[y,c]∧TyX K H y t∧CAny K H t b c∧Q (.bl b) H
section
variable {X:Cx}
theorem clsV_rel {c:V}{cv u:Value}(h:clsV c cv)(r:RelV c u):u=cv:=by
 cases c <;> simp only [clsV] at h <;> first | (subst h; exact r) | exact h.elim
theorem clsV_all:∀ {vs:List V} {cvs us:List Value},Paired clsV vs cvs→Vals vs us→us=cvs
 | _,_,_,.nil,.nil=>rfl
 | _,_,_,.cons h t,.cons r q=>by rw [clsV_rel h r,clsV_all t q]
theorem inst_of {pins:List (Addr×Obj)}{σ:St}{H:Hp}{s:Shared}(I:Inv X pins σ H s){e C:Addr}{d:Option Addr}(h:Hx H e C d)(hd:∀ da,d=some da→∃ o,H da=some o):∃ odo,XAtI e C odo s.heap:=by
 obtain ⟨ob,_,h⟩:=h
 obtain ⟨_,⟨o,vs,a,b,c,dd⟩,_⟩:=(show ObjOk X.prog X.w H s.heap e (.frz ob (.ext (XShape e C d))) from I.hok e _ h)
 have no:PySem.W.notCls o=true:=by unfold PySem.W.notCls; rw [c]
 cases d with
 | none=>exact ⟨none,o,a,b,no,by rw [dd]; trivial⟩
 | some da=>
  obtain ⟨ho,q⟩:=hd da rfl
  obtain ⟨ob,q2⟩:=hok_there I.hok q
  exact ⟨some ob,o,a,b,no,by rw [dd]; exact q2⟩
theorem call_isiX (K:PySem.W.Frag)(hK:X.K=K):CallR X (.builtin "isinstance") (rIsiX K):=by
 subst hK
 intro pins s σ H xs us Q I r h
 obtain ⟨y,c,t,b,rfl,ty,ca,q⟩:=h
 cases r with
 | cons r1 r2=>
  cases r2 with
  | cons r2 r3=>
   cases r3
   rename_i u1 u2
   have fin:∀ tk,EP X pins σ Q (.bool b) { s with toks:=tk }:=fun tk=>⟨.bl b,H,I.tok tk,rfl,q⟩
   have go:∀ (T:Value) (Hx:Heap→Prop),PySem.W.KitX X.K u1 T Hx→Hx s.heap→T=t→u1≠.builtin "__main__.__loader__#opaque"→wpAny (model X.prog X.w) X.A (call (.builtin "isinstance") [u1,u2]) (EP X pins σ Q) X.xe s:=by
    intro T Hx kx hx et ne
    subst et
    rcases ca with ⟨cv,hc,hk⟩ | ⟨p,vs,cvs,rfl,hp,hv,hk⟩
    ·rw [clsV_rel hc r2]
     exact PySem.W.kia_one kx I.kIn hx hk ne fin
    ·obtain rfl:u2=Value.ref p:=r2
     obtain ⟨_,its,rv,⟨o,h1,h2,n,h3⟩⟩:=(show ObjOk X.prog X.w H s.heap p (.tup vs) from I.hok p _ hp)
     obtain ⟨oc,od,dt,sl⟩:=o
     dsimp only at h2 h3
     subst h2 h3
     have:=clsV_all hv rv
     subst this
     exact PySem.W.kia_tup kx I.kIn hx h1 hk ne fin
   cases ty with
   | exc h hd Z=>
    rename_i e C d
    obtain ⟨odo,hx⟩:=inst_of I h hd
    cases (show u1=Value.ref e from r1)
    exact go _ _ (kitx_exc Z) hx rfl (fun z=>nomatch z)
   | of h=>
    cases h with
    | non=>cases (show u1=Value.none from r1); exact go _ _ PySem.W.kitx_none True.intro rfl (fun z=>nomatch z)
    | bl y=>cases (show u1=Value.bool y from r1); exact go _ _ PySem.W.kitx_bool True.intro rfl (fun z=>nomatch z)
    | int i=>obtain ⟨t,q⟩:=(show ∃ t,u1=Value.int i t from r1); cases q; exact go _ _ PySem.W.kitx_int True.intro rfl (fun z=>nomatch z)
    | str y=>obtain ⟨t,q⟩:=(show ∃ t,u1=Value.str y t from r1); cases q; exact go _ _ PySem.W.kitx_str True.intro rfl (fun z=>nomatch z)
    | flt y=>obtain ⟨t,q⟩:=(show ∃ t,u1=Value.float y t from r1); cases q; exact go _ _ PySem.W.kitx_float True.intro rfl (fun z=>nomatch z)
    | @lst a xs ea=>
     cases (show u1=Value.ref a from r1)
     obtain ⟨_,_,n,_,h1⟩:=(show ObjOk X.prog X.w H s.heap a (.lst xs) from I.hok a _ ea)
     exact go _ _ PySem.W.kitx_list ⟨_,h1,rfl⟩ rfl (fun z=>nomatch z)
    | @frz a ob xs ea=>
     cases (show u1=Value.ref a from r1)
     obtain ⟨_,_,_,n,_,h1⟩:=(show ObjOk X.prog X.w H s.heap a (.frz ob (.lst xs)) from I.hok a _ ea)
     exact go _ _ PySem.W.kitx_list ⟨_,h1,rfl⟩ rfl (fun z=>nomatch z)
    | @tup a xs ea=>
     cases (show u1=Value.ref a from r1)
     obtain ⟨_,_,_,p⟩:=(show ObjOk X.prog X.w H s.heap a (.tup xs) from I.hok a _ ea)
     obtain ⟨o,h1,h2,_⟩:=p
     exact go _ _ PySem.W.kitx_tuple ⟨o,h1,h2⟩ rfl (fun z=>nomatch z)
    | @dK a kvs ea=>
     cases (show u1=Value.ref a from r1)
     obtain ⟨_,_,vs,_,p⟩:=(show ObjOk X.prog X.w H s.heap a (.dK kvs) from I.hok a _ ea)
     obtain ⟨o,es,ep,h1,h2,_⟩:=p
     exact go _ _ PySem.W.kitx_dict ⟨o,h1,h2.1⟩ rfl (fun z=>nomatch z)
    | @dT a kvs ea=>
     cases (show u1=Value.ref a from r1)
     obtain ⟨_,_,xs,_,o,es,ep,h1,h2,_⟩:=(show ObjOk X.prog X.w H s.heap a (.dT kvs) from I.hok a _ ea)
     exact go _ _ PySem.W.kitx_dict ⟨o,h1,h2.1⟩ rfl (fun z=>nomatch z)
    | @ins a C dx fs ea cl ha hn htk hm=>
     cases (show u1=Value.ref a from r1)
     obtain ⟨mA,O,_⟩:=ins_get I.hok ea
     obtain ⟨od,J,_⟩:=O.look
     exact go _ _ (PySem.W.kitx_own (cl.get _) cl.hd ha hn htk hm) J rfl (fun z=>nomatch z)
end
def tyX (h:Mem):W→Option Ty
 | .exc c _ _=>some (.inr c)
 | w=>tyN h w
def clTy:W→Option Ty
 | .cls c=>some (.inr c)
 | .ty n=>some (.inl n)
 | _=>none
def kitA (kit:Kit)(t:Ty):List W→Option Bool
 | []=>some false
 | w::r=>(clTy w).bind fun cn=>(kit.get t cn).bind fun b=>(kitA kit t r).bind fun b2=>some (b || b2)
def isiX (kit:Kit)(h:Mem):List W→Option W
 | [w,.ty n]=>(tyX h w).bind fun t=>(kit.get t (.inl n)).map .bl
 | [w,.cls c]=>(tyX h w).bind fun t=>(kit.get t (.inr c)).map .bl
 | [w,.tup (c::cs)]=>(tyX h w).bind fun t=>(kitA kit t (c::cs)).map .bl
 | _=>none
def ExcOk (K:PySem.W.Frag)(T:CTb):Prop:=∀ c C,T.x c=some C→T c=none∧ExcTy K C
theorem cls_rw {T:CTb}{φ:List Addr}{H:Hp}{w:W}{v:V}{cn:Ty}(e:clTy w=some cn)(r:RW T φ H w v){cv:Value}(h:TV T cn cv):clsV v cv:=by
 cases w with
 | cls c=>
  cases e
  unfold RW at r
  obtain ⟨C,a,rfl⟩:=r
  obtain ⟨C',b,rfl⟩:=h
  rw [a] at b; cases b; rfl
 | ty n=>
  cases e
  unfold RW at r
  subst r
  exact h
 | _=>cases e
theorem kitA_ok {K:PySem.W.Frag}{T:CTb}{kit:Kit}(hk:KitOk K T kit){t:Ty}{tv:Value}(ht:∀ tv',TV T t tv'→tv'=tv){φ:List Addr}{H:Hp}:∀ {ws:List W} {vs:List V} {b:Bool},kitA kit t ws=some b→RWs T φ H ws vs→∃ cvs,Paired clsV vs cvs∧PySem.W.kitAny K tv cvs=some b
 | [],vs,b,e,r=>by
  unfold RWs at r
  subst r
  cases e
  exact ⟨[],.nil,rfl⟩
 | w::ws,vs,b,e,r=>by
  unfold RWs at r
  obtain ⟨v,vr,rfl,r1,r2⟩:=r
  unfold kitA at e
  rw [Option.bind_eq_some_iff] at e
  obtain ⟨cn,hw,e⟩:=e
  rw [Option.bind_eq_some_iff] at e
  obtain ⟨b0,g,e⟩:=e
  rw [Option.bind_eq_some_iff] at e
  obtain ⟨b2,g2,e⟩:=e
  cases e
  obtain ⟨tv',cv,h1,h2,h3⟩:=hk _ (Kit.mem g)
  rw [ht tv' h1] at h3
  obtain ⟨cvs,p,q⟩:=kitA_ok hk ht (ws:=ws) g2 r2
  refine ⟨cv::cvs,.cons (cls_rw hw r1 h2) p,?_⟩
  unfold PySem.W.kitAny
  rw [h3]
  cases b0 with
  | true=>rfl
  | false=>simpa using q
theorem tyX_ok {K:PySem.W.Frag}{T:CTb}(hI:InsOk K T)(hE:ExcOk K T){φ:List Addr}{H:Hp}{h:Mem}{w:W}{v:V}{t:Ty}(r:RH T φ h H)(x:RW T φ H w v)(e:tyX h w=some t){tv:Value}(ht:TV T t tv):TyX K H v tv:=by
 cases w with
 | exc c fs ws=>
  cases e
  unfold RW at x
  obtain ⟨p,C,d,vs,rfl,_,c1,c2,_,c3,_⟩:=x
  obtain ⟨C',c4,rfl⟩:=ht
  obtain ⟨n1,Z⟩:=hE c C c1
  have:T.any c=some C:=by unfold CTb.any; rw [show T.t c=none from n1]; dsimp only; rw [c1]
  rw [this] at c4; cases c4
  refine .exc c2 (fun da z=>?_) Z
  subst z
  exact ⟨_,c3.2⟩
 | _=>exact .of (tyN_ok hI r x e ht)
theorem tv_inj {T:CTb}{t:Ty}{a b:Value}(h:TV T t a)(k:TV T t b):b=a:=by
 cases t with
 | inl n=>rw [show a=.type n from h,show b=.type n from k]
 | inr c=>
  obtain ⟨C,x,rfl⟩:=h
  obtain ⟨C',y,rfl⟩:=k
  rw [x] at y; cases y; rfl
theorem isiX_ok {K:PySem.W.Frag}{T:CTb}{kit:Kit}(hI:InsOk K T)(hE:ExcOk K T)(hk:KitOk K T kit):CbW T (isiX kit) (rIsiX K):=by
 intro φ h H ws vs w Q r x e k
 have one:∀ (a:W) (u cv0:V) (cn:Ty),(tyX h a).bind (fun t=>(kit.get t cn).map W.bl)=some w→RW T φ H a u→(∀ cv,TV T cn cv→clsV cv0 cv)→rIsiX K [u,cv0] H Q:=by
  intro a u cv0 cn e ra hc
  rw [Option.bind_eq_some_iff] at e
  obtain ⟨t,q,e⟩:=e
  rw [Option.map_eq_some_iff] at e
  obtain ⟨b,e1,rfl⟩:=e
  obtain ⟨tv,cv,h1,h2,h3⟩:=hk _ (Kit.mem e1)
  exact ⟨u,cv0,tv,b,rfl,tyX_ok hI hE r ra q h1,.inl ⟨cv,hc cv h2,h3⟩,here_k r rw_b k⟩
 unfold isiX at e
 split at e
 ·rename_i w1 n
  unfold RWs at x
  obtain ⟨v1,r1,rfl,x1,x2⟩:=x
  unfold RWs at x2
  obtain ⟨v2,r2,rfl,x3,x4⟩:=x2
  unfold RWs at x4; subst x4
  exact one _ _ _ (.inl n) e x1 fun cv h=>cls_rw rfl x3 h
 ·rename_i w1 n
  unfold RWs at x
  obtain ⟨v1,r1,rfl,x1,x2⟩:=x
  unfold RWs at x2
  obtain ⟨v2,r2,rfl,x3,x4⟩:=x2
  unfold RWs at x4; subst x4
  exact one _ _ _ (.inr n) e x1 fun cv h=>cls_rw rfl x3 h
 ·rename_i w1 c0 cs
  unfold RWs at x
  obtain ⟨v1,r1,rfl,x1,x2⟩:=x
  unfold RWs at x2
  obtain ⟨v2,r2,rfl,x3,x4⟩:=x2
  unfold RWs at x4; subst x4
  rw [Option.bind_eq_some_iff] at e
  obtain ⟨t,q,e⟩:=e
  rw [Option.map_eq_some_iff] at e
  obtain ⟨b,e1,rfl⟩:=e
  have e1':=e1
  unfold kitA at e1
  rw [Option.bind_eq_some_iff] at e1
  obtain ⟨cn,hw,e1⟩:=e1
  rw [Option.bind_eq_some_iff] at e1
  obtain ⟨b0,g,_⟩:=e1
  obtain ⟨tv,cv,h1,_,_⟩:=hk _ (Kit.mem g)
  unfold RW at x3
  obtain ⟨p,us,rfl,_,hp,hrw⟩:=x3
  obtain ⟨cvs,pr,ka⟩:=kitA_ok hk (fun tv' z=>tv_inj h1 z) e1' hrw
  exact ⟨v1,_,tv,b,rfl,tyX_ok hI hE r x1 q h1,.inr ⟨p,us,cvs,rfl,hp,pr,ka⟩,here_k r rw_b k⟩
 ·cases e
end M
namespace M
open PySem PySem.Spec PyProof.Rows L2
def selfX (n m:Nat)(B:Sm):Fm:=fun ws h=>bif decide (ws.length=n) then (match runB m B ws h with
 | .ok w h'=>bif decide (h.length≤h'.length) then .ok w h' else .no
 | .ex w h'=>bif decide (h.length≤h'.length) then .ex w h' else .no
 | .no=>.no) else .no
theorem selfX_told {n m:Nat}{B:Sm}:Told n m B (selfX n m B):=fun ws h wf lt=>by
 unfold selfX
 cases hz:decide (ws.length=n) with
 | false=>exact .inl rfl
 | true=>
  dsimp only [cond_true]
  cases e:runB m B ws h with
  | no=>exact .inl rfl
  | ok w h'=>
   dsimp only
   cases hl:decide (h.length≤h'.length) with
   | false=>exact .inl rfl
   | true=>exact .inr ⟨of_decide_eq_true hz,fits_ok (of_decide_eq_true hl)⟩
  | ex w h'=>
   dsimp only
   cases hl:decide (h.length≤h'.length) with
   | false=>exact .inl rfl
   | true=>exact .inr ⟨of_decide_eq_true hz,fits_ex (of_decide_eq_true hl)⟩
theorem selfX_ok {n m:Nat}{B:Sm}{ws:List W}{h h':Mem}{w:W}(hl:ws.length=n)(e:runB m B ws h=.ok w h')(hk:h.length≤h'.length):selfX n m B ws h=.ok w h':=by
 unfold selfX
 rw [decide_eq_true hl,e]
 simp [hk]
theorem selfX_exc {n m:Nat}{B:Sm}{ws:List W}{h h':Mem}{w:W}(hl:ws.length=n)(e:runB m B ws h=.ex w h')(hk:h.length≤h'.length):selfX n m B ws h=.ex w h':=by
 unfold selfX
 rw [decide_eq_true hl,e]
 simp [hk]
end M
namespace M
open PySem PySem.Spec PyProof.Rows L2
section
variable {T:CTb}
def repM (h:Mem)(a b:W):Option W:=match b with
 | .int k=>(match a with
  | .tl ws=>bif (decide (-(2 ^ 63)≤k) && (decide (k<2 ^ 63) && decide (ws.length * k.toNat≤sizeLine))) then some (.tl (List.replicate k.toNat ws).flatten) else none
  | _=>none)
 | _=>none
theorem rws_rep {φ:List Addr}{H:Hp}{ws:List W}{vs:List V}(r:RWs T φ H ws vs):∀ n:Nat,RWs T φ H (List.replicate n ws).flatten (List.replicate n vs).flatten
 | 0=>by simp; unfold RWs; rfl
 | n+1=>by
  rw [List.replicate_succ,List.replicate_succ,List.flatten_cons,List.flatten_cons]
  exact rws_append r (rws_rep r n)
end
section
variable {X:Cx} {Z:Zc} {f g:Ex} {fa:Exs} {o e a b:Expr} {apos cpos pos:Pos}
def xRep (fa:Exs)(g:Ex):Ex:=fun ρ h=>(xLst fa ρ h).bind fun a h1=>(g ρ h1).bind fun b h2=>.of (repM h2 a b) h2
end
section
variable {X:Cx} {Z:Zc} {g:Ex} {fa:Exs} {es:List Expr} {b:Expr} {pos pos':Pos}
theorem q_rep (ha:QA X Z es fa)(hb:QE X Z b g):QE X Z (.BinOp (.List es pos') .Mult b pos) (xRep fa g):=
 ⟨(pe_op op_rep (pe_lst ha.pa) hb.pe).imp fun σ H Q ⟨φ,m,ρ,x,q⟩=>⟨φ,m,ρ,x,by
  unfold xRep xLst at q
  cases e1:fa ρ m with
  | no=>rw [e1] at q; exact q.elim
  | ex w h1=>rw [e1] at q; exact q
  | ok ws h1=>
   rw [e1] at q
   dsimp only at q
   split at q
   ·rename_i hz
    intro φ1 H1 vs s1 r1 rw1
    refine ⟨by rw [← rw1.length]; exact hz,fun p hp=>?_⟩
    have s2:=step_tmp (φ:=φ1) (ho:=.lst vs) hp
    have r2:=r1.tmp (ho:=.lst vs) hp
    refine ⟨φ1,h1,ρ,(x.step s1 r1).step s2 r2,?_⟩
    have q:((g ρ h1).bind fun b h2=>.of (repM h2 (.tl ws) b) h2).post (Kv Z.T φ H Q) Z.xw:=q
    rw [bindP] at q
    refine q.mono fun bw h2 q1=>fun φ3 H3 vb s3 r3 rb=>?_
    obtain ⟨w,e,k⟩:=ofP q1
    unfold repM at e
    split at e
    ·rename_i kk
     dsimp only at e
     cases hc:(decide (-(2 ^ 63)≤kk) && (decide (kk<2 ^ 63) && decide (ws.length * kk.toNat≤sizeLine))) with
     | false=>rw [hc] at e; cases e
     | true=>
      rw [hc] at e
      cases e
      simp only [Bool.and_eq_true,decide_eq_true_eq] at hc
      have np:p ∉ φ1:=r1.fresh hp
      have hp3:H3 p=some (.lst vs):=s3.keep p _ upd_same np
      rw [int_rw rb]
      refine ⟨p,kk,vs,rfl,rfl,hp3,hc.1,hc.2.1,by rw [← rw1.length]; exact hc.2.2,fun p2 hp2=>?_⟩
      exact new_tl r3 hp2 (rws_rep (rw1.step (s2.trans s3)) kk.toNat) (k.step (s1.trans (s2.trans s3))).end
    ·cases e
   ·exact q.elim⟩⟩
end
theorem eqM_flat {h:Mem}{n:Nat}{w:W}(f:flatW w=true)(e:eqFl w w=true):eqM h n w w=some true:=by
 cases n <;> simp [eqM,f,e]
theorem allM_self {f:W→W→Option Bool}:∀ {ws:List W},(∀ w∈ws,f w w=some true)→allM f ws ws=some true
 | [],_=>rfl
 | w::r,h=>by
  unfold allM
  rw [h w List.mem_cons_self,allM_self fun u m=>h u (List.mem_cons_of_mem _ m)]
  rfl
theorem eqFl_self:∀ {w:W},flatW w=true→eqFl w w=true:=by
 intro w h
 cases w <;> simp_all [flatW,eqFl]
theorem eqM_tl {h:Mem}{n:Nat}{ws:List W}(hf:∀ w∈ws,flatW w=true):eqM h (n+1) (.tl ws) (.tl ws)=some true:=by
 have:allM (eqM h n) ws ws=some true:=allM_self fun w m=>eqM_flat (hf w m) (eqFl_self (hf w m))
 simp [eqM,flatW,sq,items,this]
end M
namespace M
open PySem PySem.Spec PyProof.Rows L2
end M
namespace M
open PySem PySem.Spec PyProof.Rows L2
end M
namespace M
open PySem PySem.Spec PyProof.Rows L2
def excI (K:PySem.W.Frag)(C:Addr):Bool:=match K.lookup C with
 | some ⟨.type "type",_,.cls cd,sl⟩=>(match cd.mro,sl.toList with
  | .ref C'::bm,[_,_,_,_,some (.builtin n),_]=>C' == C && (n == "ValueError.__new__" && (!cd.hasDel && PySem.W.tailIn K bmV bm))
  | _,_=>false)
 | _=>false
theorem excI_of {K:PySem.W.Frag}{h:Heap}{C:Addr}(X:K.In h)(q:excI K C=true):∃ bm N nm qn bs hd sn sub ab col dd k0 k1 k2 k3 k5,h.get? C=some (excClassObj nm qn C N bs bm hd sn sub ab col dd k0 k1 k2 k3 k5 "ValueError.__new__")∧OwnTail h bmV bm:=by
 unfold excI at q
 split at q
 ·rename_i dd cd sl ho
  split at q
  ·rename_i C' bm k0 k1 k2 k3 n k5 hm hs
   simp only [Bool.and_eq_true,beq_iff_eq,Bool.not_eq_true'] at q
   obtain ⟨rfl,rfl,hdel,ht⟩:=q
   obtain ⟨nm,bs,mro,ns,qn,hd,sn,sub,ab,col,del⟩:=cd
   dsimp only at hm hdel
   subst hm hdel
   obtain ⟨l⟩:=sl
   dsimp only at hs
   subst hs
   exact ⟨bm,ns,nm,qn,bs,hd,sn,sub,ab,col,dd,k0,k1,k2,k3,k5,X _ _ ho,PySem.W.tail_of_in X ht⟩
  ·cases q
 ·cases q
abbrev newTup (us:List Value):Obj:={ cls:=.type "tuple",data:=.seq us.toArray }
abbrev newExc (C t:Addr)(d:Option Addr):Obj:={ cls:=.ref C,dict:=d,data:=.fields #[.ref t,.none,.none,.none,.bool false,.none] }
section
variable {prog:Program} {w:World} {A:Around} {K:PySem.W.Frag} {C f:Addr} {R:Result→Shared→Prop} {h:Heap} {g:Array GenState} {d:Drawn} {t:Nat} {os:OsState}
theorem call_excI {rest:List Value}(X:K.In h)(q:excI K C=true)(hi:PySem.W.findIn K (.ref C) "__init__"=some (some (.ref f)))(hf:PySem.W.typeIn K (.ref f)=some (.type "function"))(hrest:rest.length≤sizeLine)
  (hq:codeAny (model prog w) (A.under (.builtin "type.__call__" ⟨.ref C::rest,[]⟩)) (.call (.ref f) ⟨.ref (h.objs.size+1)::rest,[]⟩) (PySem.W.InitBack (h.objs.size+1) R) ⟨(h.push (newTup rest)).push (newExc C h.objs.size none),g,d,t,os⟩) :
  codeAny (model prog w) A (.call (.ref C) ⟨rest,[]⟩) R ⟨h,g,d,t,os⟩:=by
 obtain ⟨bm,N,nm,qn,bs,hd,sn,sub,ab,col,dd,k0,k1,k2,k3,k5,hC,T⟩:=excI_of X q
 have F:=PySem.F.excBase_ValueError
 have f1:=tc_lookup
 have f2:=tc_bind (.ref C)
 have hT:(⟨h,g,d,t,os⟩:Shared).TypeIs (.ref C) "type":=⟨_,hC,rfl⟩
 refine codeAny_of_tree ?_
 show wpAny _ _ (callAny (.ref C) _) _ _ _
 repeat (any_goals (first | assumption | with_reducible refine wpAny_loadPart_at hC ?_ | wp_step))
 refine ⟨rfl,?_⟩
 refine codeAny_call_builtin_at (Code.quiet_builtin _ (by decide +kernel)) entry_typeCall (wpAny_check_type_call_sub hC ?_)
 repeat (first | with_reducible refine wpAny_loadPart_at hC ?_ | with_reducible refine wpAny_madeBy_exc hC ?_ | wp_step)
 refine codeAny_call_builtin_code (Code.quiet_builtin _ F.quiet) (wpAny_check_new_subT F T hC ?_)
 refine codeAny_exc_new_subT F T hC ?_ hrest
 show wpAny _ _ _ _ _ ⟨(h.push (newTup rest)).push (newExc C h.objs.size none),g,d,t,os⟩
 have k:∀ b o,h.get? b=some o→((h.push (newTup rest)).push (newExc C h.objs.size none)).get? b=some o:=fun b o e=>Heap.get?_push_of_some _ (Heap.get?_push_of_some _ e)
 have hC₁:=k _ _ hC
 have hget:((h.push (newTup rest)).push (newExc C h.objs.size none)).get? (h.objs.size+1)=some { cls:=.ref C,dict:=none,data:=.fields #[.ref h.objs.size,.none,.none,.none,.bool false,.none] }:=by heap_get
 have hcC:(Value.ref C::bm).contains (.ref C)=true:=by simp
 unfold isInstance
 repeat (first | with_reducible refine wpAny_loadPart_at hget ?_ | (refine wpAny_isSubtype_exc hC₁ ?_; rw [hcC]) | wp_step)
 show wpAny _ _ (typeLookup (.ref C) _) _ _ _
 refine ((PySem.W.looks_findIn X hi).keeps k).at ?_
 refine wpAny_holding (wpAny_bind (((PySem.W.bind_fn X _ hf).keeps k).at ?_))
 refine wpAny_bind (wpAny_call (codeAny_mono hq fun r s' z=>?_))
 rcases r with e | (v | _ | _ | _) <;> first | exact z | exact z.elim | skip
 obtain ⟨rfl,z⟩:=z
 exact wpAny_pure (wpAny_pure z)
end
section
variable {M:Model} {A:Around} {E:Value→Shared→Prop} {C:Addr} {env:Env} {nm q:Str} {N:Addr} {bs bm:List Value} {hdct:Bool} {sn:List Str} {sub:List Value} {ab:Bool} {col:Option Bool} {dd:Option Addr} {k0 k1 k2 k3 k5:Option Value} {newId:String}
theorem raise_made {s:Shared}{x:Sem Value}{Q:Flow→Shared→Prop}(hbase:bm.contains (.type "BaseException")=true)(hh:A.handled=none)
  (h:wpAny M A x (fun v s₁=>∃ e t d,v=.ref e∧s₁.heap.get? C=some (excClassObj nm q C N bs bm hdct sn sub ab col dd k0 k1 k2 k3 k5 newId) ∧
   s₁.heap.get? e=some { cls:=.ref C,dict:=d,data:=.fields #[.ref t,.none,.none,.none,.bool false,.none] }∧E (.ref e) s₁) E s) :
  wpAny M A (raiseStmt env (some x) none) Q E s:=by
 have hcB:(Value.ref C::bm).contains (.type "BaseException")=true:=by rw [List.contains_cons,hbase,Bool.or_true]
 unfold raiseStmt
 refine wpAny_bind (wpAny_mono h (fun v s₁ h₁=>?_) fun _ _ x=>x)
 obtain ⟨e,t,d,rfl,hC,he,hE⟩:=h₁
 obtain ⟨hp,g,dr,tk,os⟩:=s₁
 repeat (first | with_reducible refine wpAny_loadPart_at he ?_ | with_reducible refine wpAny_loadPart_at hC ?_ | (with_reducible refine wpAny_isSubtype_exc hC ?_; rw [hcB]) | wp_step)
 exact wpAny_raiseNew_none hh hE
end
section
variable {prog:Program} {w:World} {A:Around} {E:Value→Shared→Prop} {K:PySem.W.Frag} {C e t0:Addr} {h:Heap} {g:Array GenState} {d:Drawn} {t:Nat} {os:OsState}
theorem init_base {us:List Value}{Q:Value→Shared→Prop}(X:K.In h)(q:excI K C=true)(he:h.get? e=some (newExc C t0 none))(hus:us.length≤sizeLine)
  (hq:∀ h' t',h'.get? e=some (newExc C t' none)→(∀ b o,b≠e→h.get? b=some o→h'.get? b=some o)→Q .none ⟨h',g,d,t,os⟩) :
  wpAny (model prog w) A (call (.builtin "ValueError.__init__") (.ref e::us)) Q E ⟨h,g,d,t,os⟩:=by
 obtain ⟨bm,N,nm,qn,bs,hd,sn,sub,ab,col,dd,k0,k1,k2,k3,k5,hC,T⟩:=excI_of X q
 have F:=PySem.F.excBase_ValueError
 have he:h.get? e=some { cls:=.ref C,dict:=none,data:=.fields #[.ref t0,.none,.none,.none,.bool false,.none] }:=he
 have lt:e<h.objs.size:=Heap.lt_size he
 refine wpAny_call (codeAny_call_builtin F.init.plain F.initEntry (wpAny_check_init_subT F T hC he rfl ?_))
 wp_walk
 refine hq _ h.objs.size ?_ fun b o nb hb=>?_
 ·rw [Heap.get?_update_self _ (Heap.get?_push_of_some _ he) rfl]
  rfl
 ·rw [Heap.get?_update_other _ _ (Ne.symm nb)]
  exact Heap.get?_push_of_some _ hb
end
end M
namespace M
open PySem PySem.Spec PyProof.Rows L2 PySem.Builtin.ObjectAttr
def exOnly:List Value→Bool
 | .ref _::r=>exOnly r
 | l=>l == bmV
theorem exOnly_cases:∀ {l:List Value},exOnly l=true→l=bmV∨∃ c r,l=.ref c::r∧exOnly r=true
 | [],e=>by cases (beq_iff_eq.mp (show (([]:List Value) == bmV)=true from e))
 | v::r,e=>by
  by_cases hv:∃ c,v=.ref c
  ·obtain ⟨c,rfl⟩:=hv
   exact .inr ⟨c,r,rfl,by unfold exOnly at e; exact e⟩
  ·have e':(v::r == bmV)=true:=by
    cases v <;> first | (unfold exOnly at e; exact e) | exact absurd ⟨_,rfl⟩ hv
   exact .inl (beq_iff_eq.mp e')
theorem refuse_ex (self:Value):∀ (n:Nat) {l:List Value},l.length≤n→exOnly l=true→refuseLoop self "__setattr__" l=pure ()
 | n,l,hn,e=>by
  rcases exOnly_cases e with rfl | ⟨c,r,rfl,e'⟩
  ·exact PySem.F.store_ValueError.passes self
  ·rw [refuseLoop_ref]
   cases n with
   | zero=>simp at hn
   | succ n=>exact refuse_ex self n (by simpa using hn) e'
theorem ex_has:∀ {l:List Value},exOnly l=true→l.contains (.type "object")=true
 | .ref c::r,e=>by rw [List.contains_cons,ex_has (l:=r) (by unfold exOnly at e; exact e),Bool.or_true]
 | [],e=>by cases (beq_iff_eq.mp (show (([]:List Value) == bmV)=true from e))
 | v::r,e=>by
  by_cases hv:∃ c,v=.ref c
  ·obtain ⟨c,rfl⟩:=hv
   rw [List.contains_cons,ex_has (l:=r) (by unfold exOnly at e; exact e),Bool.or_true]
  ·have e':(v::r == bmV)=true:=by
    cases v <;> first | (unfold exOnly at e; exact e) | exact absurd ⟨_,rfl⟩ hv
   rw [beq_iff_eq.mp e']; rfl
def exOver (K:PySem.W.Frag)(C:Addr):Bool:=(PySem.W.clsIn K C).any fun cd=>exOnly cd.mro
section
variable {prog:Program} {w:World} {A:Around} {E:Value→Shared→Prop} {K:PySem.W.Frag} {C e t0:Addr} {s:Shared} {name:Str} {v:Value}
theorem set_exc {Q:Unit→Shared→Prop}(X:K.In s.heap)(he:s.heap.get? e=some (newExc C t0 none))(hs:PySem.W.findIn K (.ref C) "__setattr__"=some (some (.builtin "object.__setattr__")))(hp:exOver K C=true)
  (ht:PySem.W.takerIn K C name=some none) (hh:PySem.W.hasDictIn K C=true)
  (hq:∀ h' tk',h'.get? e=some (newExc C t0 (some s.heap.objs.size))→h'.Ns1 s.heap.objs.size (fun y=>if y=name then some v else none)→(∀ b o,b≠e→s.heap.get? b=some o→h'.get? b=some o)→Q () { s with heap:=h',toks:=tk' }) :
  wpAny (model prog w) A (setAttr (.ref e) name v) Q E s:=by
 have J:PySem.W.InstAt s.heap e (newExc C t0 none) C none:=⟨he,rfl,rfl,trivial⟩
 refine PySem.W.set_plain X J hs ?_
 obtain ⟨hp0,g,d,t,os⟩:=s
 have SF:=PySem.F.store_object
 obtain ⟨cd,hc,ho⟩:=PySem.W.any_some hp
 have ne:cd.mro.isEmpty=false:=by cases q:cd.mro with | nil=>rw [q] at ho; cases ho | cons _ _=>rfl
 have sub:PySem.W.Looks (model prog w) hp0 (isInstance (.ref e) (.type "object")) true:=J.type.andThen (PySem.W.looks_mroIn X (by unfold PySem.W.mroIn; rw [hc,Option.bind_some,if_neg (by rw [ne]; decide),ex_has ho]))
 refine codeAny_call_builtin SF.slot.plain SF.entry (@PySem.W.check_slot (model prog w) _ _ ⟨hp0,g,d,t+1,os⟩ "object.__setattr__" "object" "__setattr__" (.ref e) [.str name t,v] [] _ SF.kind SF.split sub (SF.args (.ref e) (.str name t) v) ?_)
 obtain ⟨attr,ha,hr⟩:=Option.bind_eq_some_iff.mp ht
 have hm:PySem.W.Looks (model prog w) hp0 (mroOf (.ref C)) cd.mro:=(PySem.W.looks_clsIn X hc).andThen .now
 have L3:PySem.W.Looks (model prog w) hp0 (storeTaker? attr) none:=by
  cases attr with
  | none=>exact .now
  | some a=>
   obtain ⟨b,hb,hz⟩:=Option.map_eq_some_iff.mp hr
   refine (PySem.W.looks_takesIn X hb).andThen ?_
   cases b
   ·exact .now
   ·cases hz
 rw [PySem.W.osa_eq,refuse_eq]
 refine wpAny_bind (wpAny_bind (J.type.at (wpAny_bind (hm.at ?_))))
 rw [refuse_ex _ _ (Nat.le_refl _) ho]
 refine wpAny_pure (wpAny_bind (J.type.at (wpAny_bind ((PySem.W.looks_findIn X ha).at (wpAny_bind (L3.at ?_))))))
 obtain ⟨cd',hc',hd'⟩:=PySem.W.any_some hh
 show wpAny _ _ (storeInOwnDict (.ref e) (.ref C) (.str name t) name v _) _ _ _
 unfold storeInOwnDict ownDictForStores instanceDict
 have he:hp0.get? e=some { cls:=.ref C,dict:=none,data:=.fields #[.ref t0,.none,.none,.none,.bool false,.none] }:=he
 refine wpAny_bind (wpAny_pure (wpAny_bind (wpAny_bind (wpAny_loadPart_at he (wpAny_bind ((PySem.W.looks_clsIn X hc').at ?_))))))
 rw [hd']
 show wpAny _ _ (if (!true || !typeHasDict (.ref C))=true then pure none else do
   let d ← alloc { cls:=.type "dict",data:=.dict #[] }
   update e fun o=>{ cls:=o.cls,dict:=some d,data:=o.data,slots:=o.slots }
   dictMade (.ref C) e d) _ _ _
 rw [if_neg (by simp [typeHasDict])]
 have hx1:(hp0.push { cls:=.type "dict",data:=.dict #[] }).get? e=some { cls:=.ref C,dict:=none,data:=.fields #[.ref t0,.none,.none,.none,.bool false,.none] }:=Heap.get?_push_of_some _ he
 have hxs:e≠hp0.objs.size:=Nat.ne_of_lt (Heap.lt_size he)
 refine wpAny_bind (wpAny_alloc' (wpAny_bind (wpAny_update' hx1 (wpAny_pure ?_))))
 have hgd:((hp0.push { cls:=.type "dict",data:=.dict #[] }).update e fun o=>{ cls:=o.cls,dict:=some hp0.objs.size,data:=o.data,slots:=o.slots }).get? hp0.objs.size
   = some { cls:=.type "dict",data:=.dict #[] }:=
  (Heap.get?_update_ne _ _ _ _ hxs.symm).trans (Heap.get?_push_at rfl rfl)
 have hnd:((hp0.push { cls:=.type "dict",data:=.dict #[] }).update e fun o=>{ cls:=o.cls,dict:=some hp0.objs.size,data:=o.data,slots:=o.slots }).Ns hp0.objs.size (fun _=>none):=
  ⟨_,#[],_,hgd,rfl,fun e he=>absurd he (by simp),fun _=>rfl⟩
 show wpAny _ _ (storeInDict hp0.objs.size (.str name t) name v) _ _ _
 unfold storeInDict newKeyGuard
 refine wpAny_bind (wpAny_pure (wpAny_bind (wpAny_nsSet1 (Heap.Ns1.of_empty hnd) fun h' hn' hs=>?_)))
 obtain ⟨oD,esD,epD,hoD,hdD,hcD⟩:=hn'.count (PySem.Within.cons name v PySem.Within.nil)
 refine wpAny_bind (wpAny_lookBehind hoD (by rw [hdD]; exact pastItsLine_dict (Nat.le_trans hcD (by rw [List.length_cons,List.length_nil,sizeLine_eq]; omega))) ?_)
 refine wpAny_pure ?_
 refine hq h' _ ?_ hn' fun b ob hbx hb=>?_
 ·exact (hs.2 e hxs).trans (Heap.get?_update_self _ hx1 rfl)
 ·exact (hs.2 b (Nat.ne_of_lt (Heap.lt_size hb))).trans ((Heap.get?_update_ne _ _ _ _ hbx).trans (Heap.get?_push_of_some _ hb))
end
end M
namespace M
open PySem PySem.Spec PyProof.Rows L2
def XNew (e C:Addr)(d:Option Addr)(h:Heap):Prop:=∃ t,h.get? e=some (newExc C t d)
theorem xnew_stable {e C:Addr}{d:Option Addr}:∀ h1 h2:Heap,XNew e C d h1→(∀ o,h1.get? e=some o→h2.get? e=some o)→XNew e C d h2:=fun _ _ ⟨t,he⟩ k=>⟨t,k _ he⟩
theorem upd_self {H:Hp}{e:Addr}{o:HO}(h:H e=some o):upd H e o=H:=by
 funext b; unfold upd; split
 ·rename_i z; subst z; exact h.symm
 ·rfl
section
variable {X:Cx} {pins:List (Addr×Obj)} {σ:St} {H:Hp} {s:Shared} {e:Addr}
theorem untrack {φ:Heap→Prop}(I:Inv X pins σ (upd H e (.ext φ)) s)(he:H e=none):Inv X pins σ H s:=by
 have nn:∀ b,upd H e (.ext φ) b=none→H b=none:=fun b q=>by
  by_cases z:b=e
  ·subst z; exact he
  ·rwa [upd_ne z] at q
 have oo:∀ b u,upd H e (.ext φ) b=some u→u≠.ext φ→H b=some u:=fun b u q n=>by
  by_cases z:b=e
  ·subst z; rw [upd_same] at q; cases q; exact absurd rfl n
  ·rwa [upd_ne z] at q
 refine ⟨I.ok,I.os,I.bare,⟨I.base.keep,I.base.slot,fun b ob q n hx=>nn b (I.base.free b ob q n hx),I.base.there,fun b xs q=>oo b _ (I.base.tups b xs q) (by simp),fun b ob xs q=>oo b _ (I.base.frzs b ob xs q) (by simp),fun b ps q=>?_⟩,I.loc,I.cell,nn _ I.free,fun x c q=>nn _ (I.freeC x c q),fun p hp=>?_,fun b u q=>?_,I.len⟩
 ·obtain ⟨more,this⟩:=I.base.tbls b ps q
  exact ⟨more,oo b _ this (by simp)⟩
 ·obtain ⟨e1,n,ne',nf,d⟩:=I.pin p hp
  exact ⟨e1,nn _ n,ne',nf,d⟩
 ·have q':upd H e (.ext φ) b=some u:=by rw [upd_ne (ne_of_none q he)]; exact q
  exact (I.hok b u q').stay (fun c v _ r=>r) (fun c r=>oo c _ r (by simp)) fun c xs r=>oo c _ r (by simp)
end
structure IniOk (K:PySem.W.Frag)(C:Addr)(F:Str):Prop where
 ei:excI K C=true
 sa:PySem.W.findIn K (.ref C) "__setattr__"=some (some (.builtin "object.__setattr__"))
 ov:exOver K C=true
 tk:PySem.W.takerIn K C F=some none
 hd:PySem.W.hasDictIn K C=true
structure BaseOk (K:PySem.W.Frag)(D:Addr):Prop where
 ex:∃ mc,PySem.W.specialIn K (.ref D) "__getattribute__"=some (some (.builtin "type.__getattribute__"))∧PySem.W.readsIn K D mc=true∧PySem.W.findCls K (.ref D) mc "__init__"=some (.val (.builtin "ValueError.__init__"))
def tIni (C:Addr)(t:TA):TE:=fun σ H Q=>t σ H fun vs H1=>∃ e v,vs=[.ref e,v]∧H1 e=some (.ext (XNew e C none))∧Q .non H1
def sIni (C:Addr)(F:Str)(ta tv:TE):TS:=fun D σ H=>tv σ H fun y H1=>ta σ H1 fun x H2=>∃ e,x=.ref e∧H2 e=some (.ext (XNew e C none)) ∧
 ∀ da,H2 da=none→da≠e→D.nx σ (upd (upd H2 e (.ext (XNew e C (some da)))) da (.xd [(F,y)]))
section
variable {X:Cx} {C D:Addr} {F c:Str} {e0:Expr} {es:List Expr} {t:TA} {ta tv:TE} {o value:Expr} {pos pos' apos p:Pos}
theorem pe_ini {pl:Sem Bool}(hB:BaseOk X.K D)(hq:excI X.K C=true)(hm:X.mg c=some (.ref D))(hg:Gl X c)(ha:PA X (e0::es) t)(hdb:(c == ("__debug__":Str))=false:=by decide)
  (hst:starEach (e0::es) X.env=(false,eval e0 X.env)::starEach es X.env:=by rfl) (hpl:(backTo pos (starEach es X.env)).any (·.1)=false:=by rfl)
  (hev:eval (.Call (.Attribute (.Name c p) "__init__" apos) (e0::es) [] pos) X.env=(do
   let ov ← eval (.Name c p) X.env
   standAt apos.atName
   let (f,first) ← holding [ov] (getMethod ov "__init__" pl)
   callWith pos f first (backTo pos (starEach (e0::es) X.env)) (backToKw pos (keywordEach [] X.env))):=by rfl):PE X (.Call (.Attribute (.Name c p) "__init__" apos) (e0::es) [] pos) (tIni C t):=by
 intro pins s σ H Q I h
 obtain ⟨mc,h1,h2,h3⟩:=hB.ex
 refine PySem.W.methodCall_KW (pl:=pl) (ld_glob I hg hm ?_ hdb) hev
 refine PySem.W.method_cls I.kIn h1 (PySem.W.cls_value I.kIn h2 h3 rfl ?_)
 have hA:=ha pos pins _ σ H _ (I.tok (s.toks+1)) h
 rw [hst] at hA ⊢
 refine Calls.callWith_builtin (by show (false || (backTo pos (starEach es X.env)).any (·.1))=false; rw [hpl] <;> rfl) (Calls.evalArgs_plain ?_)
 refine thn hA fun us s2 ⟨vs,H2,I2,r,e,v,ev,ee,q2⟩=>?_
 subst ev
 obtain ⟨u1,u2,rfl,r1⟩:∃ u1 u2,us=[u1,u2]∧RelV (.ref e) u1:=by
  cases r with
  | cons r1 r2=>
   cases r2 with
   | cons r2 r3=>cases r3; exact ⟨_,_,rfl,r1⟩
 obtain rfl:u1=Value.ref e:=r1
 obtain ⟨⟨t0,he⟩,_,_⟩:=(show ObjOk X.prog X.w H2 s2.heap e (.ext (XNew e C none)) from I2.hok e _ ee)
 obtain ⟨hp,g,d,tk,os⟩:=s2
 refine init_base I2.kIn hq he (by rw [sizeLine_eq]; simp) fun h' t' he' k=>⟨.non,H2,?_,rfl,q2⟩
 have J:=I2.write (x:=e) (e:=e) (o:=.ext (XNew e C none)) (h':=h') (t':=tk) (by rw [ee]; trivial) (.inl rfl) (fun b u nb hb=>k b u nb hb) ⟨_,he'⟩ ⟨⟨t',he'⟩,⟨_,he'⟩,xnew_stable⟩
 rw [upd_self ee] at J
 exact J
theorem ps_ini (hC:IniOk X.K C F)(ha:PE X o ta)(hv:PE X value tv)(hs:swapsWith value (some (.Attribute o F pos')) pos.line X.env=pure false:=by rfl):PS X (.Assign [.Attribute o F pos'] value pos) (sIni C F ta tv):=by
 intro pins s σ H D I h
 refine plainObj_wpAny_Assign_Attribute (thn (hv pins s σ H _ I h) fun u s1 ⟨y,H1,I1,ry,q⟩=>thn (ha pins s1 σ H1 _ I1 q) fun ov s2 ⟨x,H2,I2,rx,e,ex,ee,q2⟩=>?_) hs
 subst ex
 obtain rfl:ov=Value.ref e:=rx
 obtain ⟨⟨t0,he⟩,_,_⟩:=(show ObjOk X.prog X.w H2 s2.heap e (.ext (XNew e C none)) from I2.hok e _ ee)
 refine set_exc I2.kIn he hC.sa hC.ov hC.tk hC.hd fun h' tk' he' hns k=>?_
 have fr:s2.heap.get? s2.heap.objs.size=none:=Heap.get?_none_of_le (Nat.le_refl _)
 have nH:H2 s2.heap.objs.size=none:=untracked I2.hok fr
 have nE:s2.heap.objs.size≠e:=Ne.symm (Nat.ne_of_lt (Heap.lt_size he))
 have J:=I2.write (x:=e) (e:=e) (o:=.ext (XNew e C (some s2.heap.objs.size))) (h':=h') (t':=tk') (by rw [ee]; trivial) (.inl rfl) (fun b u nb hb=>k b u nb hb) ⟨_,he'⟩ ⟨⟨t0,he'⟩,⟨_,he'⟩,xnew_stable⟩
 have J2:=track (e:=s2.heap.objs.size) (ho:=.xd [(F,y)]) J (by rw [upd_ne nE]; exact nH) (outs_new I2 fr) ⟨_,hns,fun f=>by
  show RelO (List.lookup f [(F,y)]) (if f=F then some u else none)
  by_cases z:f=F
  ·subst z; simp only [List.lookup,beq_self_eq_true,if_pos]; exact ry
  ·have:(f == F)=false:=beq_eq_false_iff_ne.mpr z
   simp only [List.lookup,this,if_neg z]; trivial⟩
 exact ⟨σ,_,J2,q2 _ nH nE⟩
end
def spI (C:Addr)(F:Str):Sp:=fun vs H Q _=>∃ e v,vs=[.ref e,v]∧H e=some (.ext (XNew e C none))∧∀ da,H da=none→da≠e→Q .non (upd (upd H e (.ext (XNew e C (some da)))) da (.xd [(F,v)]))
section
variable {P:Program} {w:World} {K:PySem.W.Frag} {mg:Str→Option Value} {base:Heap}
theorem ini_ok {x qual a F z:Str}{st:Stmt}{f:Addr}{fd:FuncData}{C:Addr}(R:Fun K x qual st f fd)(S:FnScope ["self",a] ["self",a] (defScope st))
  (hb:∀ (cdv:Value) (A:Around) (outer:List Env) (s:Shared) (H:Hp) (E:XK),PSs (cxOf CX0 P w K mg base ["self",a] qual (defScope st) f cdv A outer s H E).nox (defBody st)
   (tSeq (tDrop (tIni C (tCons (tVar 0) (tCons (tC (.str z)) tNil)))) (sIni C F (tVar 0) (tVar 1)))):FnOk P w K mg base CX0 1 f fd ["self",a] (spI C F):=by
 refine R.ok S (fun vs H Q E h=>?_) (fun cdv A outer s H vs Q E hr h=>⟨_,hb cdv A outer s H E,?_⟩)
 ·obtain ⟨e,v,rfl,_⟩:=h
  rfl
 ·obtain ⟨e,v,rfl,he,q⟩:=h
  refine ⟨.ref e,rfl,e,.str z,rfl,he,v,rfl,.ref e,rfl,e,rfl,he,q⟩
end
section
variable {prog:Program} {w:World} {A:Around} {E:Value→Shared→Prop} {s:Shared} {env:Env} {C:Addr} {nm q:Str} {N:Addr} {bs bm:List Value} {hdct:Bool} {sn:List Str} {sub:List Value} {ab:Bool} {col:Option Bool} {dd:Option Addr} {k0 k1 k2 k3 k5:Option Value} {newId:String}
theorem raise_callI {x:Str}{np cpos pos:Pos}{args:List Expr}{Q:Flow→Shared→Prop}(hbase:bm.contains (.type "BaseException")=true)(hh:A.handled=none)(hplain:(backTo cpos (starEach args env)).any (·.1)=false)
  (h:wpAny (model prog w) A (eval (.Name x np) env) (fun f s₁=>f=.ref C∧wpAny (model prog w) A (evalArgs (.ref C) true (backTo cpos (starEach args env)) [])
   (fun a s₂=>a.kw=[]∧s₂.heap.get? C=some (excClassObj nm q C N bs bm hdct sn sub ab col dd k0 k1 k2 k3 k5 newId) ∧
    wpAny (model prog w) A (call (.ref C) a.pos) (fun v s₃=>∃ e t d,v=.ref e∧s₃.heap.get? C=some (excClassObj nm q C N bs bm hdct sn sub ab col dd k0 k1 k2 k3 k5 newId)∧s₃.heap.get? e=some (newExc C t d)∧E (.ref e) s₃) E s₂) E s₁) E s) :
  wpAny (model prog w) A (exec (.Raise (some (.Call (.Name x np) args [] cpos)) none pos) env) Q E s:=by
 rw [arm_exec_Raise]
 first
  | refine wpAny_bind (wpAny_standAt (raise_made (C:=C) (nm:=nm) (q:=q) (N:=N) (bs:=bs) (bm:=bm) (hdct:=hdct) (sn:=sn) (sub:=sub) (ab:=ab) (col:=col) (dd:=dd) (k0:=k0) (k1:=k1) (k2:=k2) (k3:=k3) (k5:=k5) (newId:=newId) hbase hh (wpAny_bind (wpAny_mono (wpAny_Call_ofName (wpAny_mono h (fun f s₁ h₁=>?_) fun _ _ x=>x)) (fun v s₃ h₃=>wpAny_bind (wpAny_standAt (wpAny_pure h₃))) fun _ _ x=>x))))
  | (simp only [evalOpt,Option.map]; refine wpAny_bind (wpAny_standAt (raise_made (C:=C) (nm:=nm) (q:=q) (N:=N) (bs:=bs) (bm:=bm) (hdct:=hdct) (sn:=sn) (sub:=sub) (ab:=ab) (col:=col) (dd:=dd) (k0:=k0) (k1:=k1) (k2:=k2) (k3:=k3) (k5:=k5) (newId:=newId) hbase hh (wpAny_bind (wpAny_mono (wpAny_Call_ofName (wpAny_mono h (fun f s₁ h₁=>?_) fun _ _ x=>x)) (fun v s₃ h₃=>wpAny_bind (wpAny_standAt (wpAny_pure h₃))) fun _ _ x=>x)))))
  | (refine wpAny_bind (wpAny_standAt (raise_made (C:=C) (nm:=nm) (q:=q) (N:=N) (bs:=bs) (bm:=bm) (hdct:=hdct) (sn:=sn) (sub:=sub) (ab:=ab) (col:=col) (dd:=dd) (k0:=k0) (k1:=k1) (k2:=k2) (k3:=k3) (k5:=k5) (newId:=newId) hbase hh ?_)); refine wpAny_bind (wpAny_mono (wpAny_Call_ofName (wpAny_mono h (fun f s₁ h₁=>?_) fun _ _ x=>x)) (fun v s₃ h₃=>wpAny_bind (wpAny_standAt (wpAny_pure h₃))) fun _ _ x=>x))
 obtain ⟨rfl,h₁⟩:=h₁
 unfold callWith
 refine wpAny_bind (wpAny_holding (wpAny_mono h₁ (fun a s₂ h₂=>wpAny_bind (wpAny_standAt ?_)) fun _ _ x=>x))
 obtain ⟨apos,akw⟩:=a
 obtain ⟨hkw,hC,h₂⟩:=h₂
 obtain rfl:akw=[]:=hkw
 obtain ⟨hp,g,d,tk,os⟩:=s₂
 simp only [hplain]
 refine wpAny_bind (wpAny_keeperOf_exc hC ?_)
 exact wpAny_bind (wpAny_mono h₂ (fun v s₃ z=>wpAny_bind (wpAny_holding (wpAny_point (wpAny_pure z)))) fun _ _ z=>z)
end
def RzI (P:Program)(w:World)(K:PySem.W.Frag)(mg:Str→Option Value)(base:Heap)(T:CTb)(k:Nat)(c F:Str):Prop:=
 ∃ C f fd ps,T.x c=some C∧mg c=some (.ref C)∧excI K C=true∧PySem.W.findIn K (.ref C) "__init__"=some (some (.ref f))∧PySem.W.typeIn K (.ref f)=some (.type "function")∧FnOk P w K mg base CX0 k f fd ps (spI C F)∧Binds K fd ps []
def xRaiseI (c F:Str)(f:Exs):Sm:=fun ρ h=>match f ρ h with
 | .ok [w] h1=>.ex (.exc c [F] [w]) h1
 | .ok _ _=>.no
 | .ex w h1=>.ex w h1
 | .no=>.no
section
variable {X:Cx} {Z:Zc} {fa:Exs} {c F:Str} {np cpos pos:Pos} {e:Expr} {es:List Expr} {kk j:Nat}
theorem qs_raiseI (Rz:RzI X.prog X.w X.K X.mg X.base Z.T kk c F)(hr:Room j X.A)(hkj:kk+1≤j)(hx:XOk X Z)(hg:Gl X c)(ha:QA X Z (e::es) fa)(hdb:(c == ("__debug__":Str))=false:=by decide)(he:starEach (e::es) X.env=(false,eval e X.env)::starEach es X.env:=by rfl)
  (hpl:(backTo cpos (starEach es X.env)).any (·.1)=false:=by rfl) (hcl:X.calm=true:=by rfl):QS X Z (.Raise (some (.Call (.Name c np) (e::es) [] cpos)) none pos) (xRaiseI c F fa):=by
 obtain ⟨C,f,fd,ps,hT,hm,hq,hi,hf,Fk,hb⟩:=Rz
 refine ⟨fun pins s σ H D I ⟨φ,h,ρ,x,q⟩=>?_⟩
 obtain ⟨bm,N,nm,qn,bs,hd,sn,sub,ab,col,dd,k0,k1,k2,k3,k5,hC,Tl⟩:=excI_of I.ok.mod.kin hq
 have hps:=ha.pa cpos pins s σ H (fun vs H1=>∃ φ1 h1 w1 v1,vs=[v1]∧Here Z σ H1 φ1 h1 ρ∧RW Z.T φ1 H1 w1 v1∧Z.xw (.exc c [F] [w1]) h1) I ⟨φ,h,ρ,x,by
  unfold xRaiseI at q
  cases e1:fa ρ h with
  | no=>rw [e1] at q; exact q.elim
  | ex w h1=>rw [e1] at q; exact q
  | ok ws h1=>
   rw [e1] at q
   rcases ws with _ | ⟨w1,_ | ⟨w2,ws⟩⟩
   ·exact q.elim
   ·intro φ1 H1 vs s1 r1 rw1
    obtain ⟨v1,rfl,y⟩:=rws_one rw1
    exact ⟨φ1,h1,w1,v1,rfl,x.step s1 r1,y,q⟩
   ·exact q.elim⟩
 refine raise_callI (C:=C) (nm:=nm) (q:=qn) (N:=N) (bs:=bs) (bm:=bm) (hdct:=hd) (sn:=sn) (sub:=sub) (ab:=ab) (col:=col) (dd:=dd) (k0:=k0) (k1:=k1) (k2:=k2) (k3:=k3) (k5:=k5) (newId:="ValueError.__new__") (Tl.hasType PySem.F.excBase_ValueError.hasBase) (I.ok.hd hcl) (by rw [he]; show (false || (backTo cpos (starEach es X.env)).any (·.1))=false; rw [hpl]; rfl) (ld_glob I hg hm ⟨rfl,?_⟩ hdb)
 rw [he] at hps ⊢
 refine Calls.evalArgs_plain (thn hps fun us s2 ⟨vs,H2,I2,r,φ2,h2,w1,v1,ev,x2,rw1,xw⟩=>⟨rfl,I2.bk _ _ hC,?_⟩)
 subst ev
 obtain ⟨u1,rfl,ru⟩:=r.one
 obtain ⟨hp,g,d,tk,os⟩:=s2
 have I2':=I2
 have k:∀ b o,hp.get? b=some o→((hp.push (newTup [u1])).push (newExc C hp.objs.size none)).get? b=some o:=fun b o z=>Heap.get?_push_of_some _ (Heap.get?_push_of_some _ z)
 have hget:((hp.push (newTup [u1])).push (newExc C hp.objs.size none)).get? (hp.objs.size+1)=some (newExc C hp.objs.size none):=by
  have:=Heap.get?_push_size (hp.push (newTup [u1])) (o:=newExc C hp.objs.size none) rfl
  rwa [Heap.size_push] at this
 have fr:hp.get? (hp.objs.size+1)=none:=Heap.get?_none_of_le (Nat.le_succ _)
 have nH:H2 (hp.objs.size+1)=none:=untracked I2.hok fr
 have I3:=I2.laid (a:=hp.objs.size+1) (o:=.ext (XNew (hp.objs.size+1) C none)) (h':=(hp.push (newTup [u1])).push (newExc C hp.objs.size none)) (t':=tk) k (Nat.le_succ _) ⟨⟨_,hget⟩,⟨_,hget⟩,xnew_stable⟩
 have r2:Vals [V.ref (hp.objs.size+1),v1] [Value.ref (hp.objs.size+1),u1]:=.cons rfl (.cons ru .nil)
 let Q':VK:=fun v H4=>v=.non∧∃ da,H2 da=none∧da≠hp.objs.size+1∧H4=upd (upd H2 (hp.objs.size+1) (.ext (XNew (hp.objs.size+1) C (some da)))) da (.xd [(F,v1)])
 have hsp:spI C F [V.ref (hp.objs.size+1),v1] (upd H2 (hp.objs.size+1) (.ext (XNew (hp.objs.size+1) C none))) Q' (fun _ _ _=>False):=
  ⟨hp.objs.size+1,v1,rfl,upd_same,fun da n1 n2=>⟨rfl,da,by rwa [upd_ne n2] at n1,n2,by rw [upd_upd]⟩⟩
 have hl:[Value.ref (hp.objs.size+1),u1].length=ps.length:=by rw [← r2.length]; exact Fk.len _ _ _ _ hsp
 refine wpAny_call (call_excI (rest:=[u1]) I2.kIn hq hi hf (by rw [sizeLine_eq]; simp) (codeAny_mono (Fk.run _ X.stack _ _ ⟨[Value.ref (hp.objs.size+1),u1],[]⟩ [Value.ref (hp.objs.size+1),u1] _ Q' (fun _ _ _=>False) ((hr.mono hkj).make C [u1] []) (fun _=>I.ok.hd hcl)
  (I3.env0.make C [u1] []) (by have:=hb _ [Value.ref (hp.objs.size+1),u1] I3.kIn (by simpa using hl); simpa using this) r2 hsp) fun r s' hq'=>?_))
 cases r with
 | error e2=>exact hq'.elim
 | ok fl=>
  cases fl with
  | ret u=>
   obtain ⟨v,H',I4,rv,hv,da,n1,n2,rfl⟩:=I3.after hq'
   subst hv
   have eE:upd (upd H2 (hp.objs.size+1) (.ext (XNew (hp.objs.size+1) C (some da)))) da (.xd [(F,v1)])=upd (upd H2 da (.xd [(F,v1)])) (hp.objs.size+1) (.ext (XNew (hp.objs.size+1) C (some da))):=by
    funext b; unfold upd
    by_cases z1:b=da
    ·subst z1; simp [n2]
    ·by_cases z2:b=hp.objs.size+1
     ·subst z2; simp [Ne.symm n2]
     ·simp [z1,z2]
   rw [eE] at I4
   obtain ⟨⟨t0,he0⟩,_,_⟩:=(show ObjOk X.prog X.w _ s'.heap (hp.objs.size+1) (.ext (XNew (hp.objs.size+1) C (some da))) from I4.hok _ _ upd_same)
   have nE:upd H2 da (.xd [(F,v1)]) (hp.objs.size+1)=none:=by rw [upd_ne (Ne.symm n2)]; exact nH
   have I5:=untrack I4 nE
   refine ⟨rv,hp.objs.size+1,t0,some da,rfl,I5.bk _ _ hC,he0,?_⟩
   have st:=step_tmp (φ:=φ2) (H:=H2) (ho:=.xd [(F,v1)]) n1
   refine hx _ _ ⟨pins,σ,_,hp.objs.size+1,.ref C,some da,none,φ2,h2,.exc c [F] [w1],rfl,⟨I5,⟨_,_,he0,rfl,rfl,rfl,rfl,rfl⟩,fun b hb=>?_⟩,x2.sg,x2.st.trans st,x2.rh.tmp n1,⟨C,[v1],hT,rfl,rfl,?_,x2.rh.fresh n1,upd_same⟩,xw⟩
   ·have hb:b=hp.objs.size+1:=by simpa using hb
    subst hb
    exact ⟨nE,outs_new I2 fr⟩
   ·unfold RWs
    exact ⟨v1,[],rfl,rw1.step st,by unfold RWs; rfl⟩
  | next=>exact False.elim hq'
  | brk=>exact False.elim hq'
  | cont=>exact False.elim hq'
end
end M
namespace M
open PySem PySem.Spec PyProof.Rows L2
def FxOk (K:PySem.W.Frag)(T:CTb)(c nm:Str):Prop:=∀ C,T.x c=some C→ExcTy K C∧PySem.W.hasDictIn K C=true∧PySem.W.findIn K (.ref C) nm=some none
def xXf (c0 nm:Str)(f:Ex):Ex:=fun ρ h=>(f ρ h).bind fun a h1=>match a with
 | .exc c fs ws=>bif decide (c=c0) then (match (fs.zip ws).lookup nm with
  | some w=>.ok w h1
  | none=>.no) else .no
 | _=>.no
def tXf (K:PySem.W.Frag)(ta:TE)(nm:Str):TE:=fun σ H Q=>ta σ H fun x H1=>∃ e C d kvs v,x=.ref e∧Hx H1 e C (some d)∧H1 d=some (.xd kvs)∧ExcTy K C∧PySem.W.hasDictIn K C=true∧PySem.W.findIn K (.ref C) nm=some none∧kvs.lookup nm=some v∧Q v H1
theorem zip_lookup {T:CTb}{φ:List Addr}{H:Hp}{nm:Str}{w:W}:∀ {fs:List Str} {ws:List W} {vs:List V},RWs T φ H ws vs→(fs.zip ws).lookup nm=some w→∃ v,(fs.zip vs).lookup nm=some v∧RW T φ H w v
 | [],_,_,_,e=>by simp at e
 | f::fs,[],_,_,e=>by simp at e
 | f::fs,a::ws,vs,r,e=>by
  unfold RWs at r
  obtain ⟨v,vr,rfl,rv,rr⟩:=r
  rw [List.zip_cons_cons] at e ⊢
  by_cases z:nm=f
  ·subst z
   simp only [List.lookup,beq_self_eq_true] at e ⊢
   cases e
   exact ⟨v,rfl,rv⟩
  ·have:(nm == f)=false:=beq_eq_false_iff_ne.mpr z
   simp only [List.lookup,this] at e ⊢
   exact zip_lookup rr e
section
variable {X:Cx} {Z:Zc} {f:Ex} {o:Expr} {c0 nm:Str} {pos:Pos} {ta:TE}
theorem pe_xfld (he:PE X o ta)(hb:attributeBase o nm X.env (eval o X.env)=eval o X.env):PE X (.Attribute o nm pos) (tXf X.K ta nm):=by
 intro pins s σ H Q I h
 refine attr_of hb (thn (he pins s σ H _ I h) fun u s1 ⟨x,H1,I1,rx,e,C,d,kvs,v,ex,ee,ed,hz,hh,ha,l,q⟩=>?_)
 subst ex
 obtain rfl:u=Value.ref e:=rx
 obtain ⟨ob,_,ee⟩:=ee
 obtain ⟨_,⟨oe,vs,a,b,c,dd⟩,_⟩:=(show ObjOk X.prog X.w H1 s1.heap e (.frz ob (.ext (XShape e C (some d)))) from I1.hok e _ ee)
 obtain ⟨mA,hn,hr⟩:=(show ObjOk X.prog X.w H1 s1.heap d (.xd kvs) from I1.hok d _ ed)
 obtain ⟨od,ho,hl⟩:=lookIn_ns hn
 obtain ⟨u',hu,ru⟩:=RelO.some_of (v:=v) (o:=mA nm) (by rw [← l]; exact hr nm)
 have J:PySem.W.InstAt s1.heap e oe C (some od):=⟨a,b,by unfold PySem.W.notCls; rw [c],by rw [dd]; exact ho⟩
 unfold getAttr
 refine wpAny_bind (wpAny_mkText (exc_by (s:={ s1 with toks:=s1.toks+1 }) I1.kIn J hz (PySem.W.findObj_own hh ha rfl (by rw [hl,hu])) ?_))
 exact PySem.W.handed_on (handed_of ru) ⟨v,H1,I1.tok _,ru,q⟩
theorem q_xfld (ho:QE X Z o f)(hK:FxOk X.K Z.T c0 nm)(hb:attributeBase o nm X.env (eval o X.env)=eval o X.env:=by rfl):QE X Z (.Attribute o nm pos) (xXf c0 nm f):=
 ⟨(pe_xfld ho.pe hb).imp fun σ H Q q=>by
  obtain ⟨φ,m,ρ,x,q⟩:=q
  refine ⟨φ,m,ρ,x,?_⟩
  unfold xXf at q
  rw [bindP] at q
  refine q.mono fun a h1 q1=>fun φ1 H1 u s1 r1 ra=>?_
  cases a with
  | exc c fs ws=>
   dsimp only at q1
   cases hc:decide (c=c0) with
   | false=>rw [hc] at q1; exact q1.elim
   | true=>
    rw [hc] at q1
    have hc:=of_decide_eq_true hc
    subst hc
    dsimp only [cond] at q1
    cases e2:(fs.zip ws).lookup nm with
    | none=>rw [e2] at q1; exact q1.elim
    | some w=>
     rw [e2] at q1
     unfold RW at ra
     obtain ⟨e,C,d,vs,rfl,ne,hT,hH,hl,hd,hrw⟩:=ra
     obtain ⟨v,lv,rv⟩:=zip_lookup hrw e2
     obtain ⟨z1,z2,z3⟩:=hK C hT
     cases d with
     | none=>rw [show fs=[] from hd] at e2; simp at e2
     | some d1=>exact ⟨e,C,d1,_,v,rfl,hH,hd.2,z1,z2,z3,lv,q1 φ1 H1 v s1 r1 rv⟩
  | _=>exact q1.elim⟩
end
end M
namespace M
open PySem PySem.Spec PyProof.Rows L2
def excTyB (K:PySem.W.Frag)(C:Addr):Bool:=
 PySem.W.findIn K (.ref C) "__getattribute__" == some (some (.builtin "BaseException.__getattribute__")) && (PySem.W.findIn K (.ref C) "__getattr__" == some none && (PySem.W.mroIn K C (.type "BaseException") == some true &&
 (PySem.W.findIn K (.ref C) "__class__" == some (some (.builtin "object.__class__")) && (PySem.W.specialIn K (.builtin "object.__class__") "__get__" == some (some (.builtin "getset_descriptor.__get__")) && (PySem.W.takesIn K (.builtin "object.__class__") == some true && PySem.W.mroIn K C (.type "object") == some true)))))
theorem excTy_of {K:PySem.W.Frag}{C:Addr}(h:excTyB K C=true):ExcTy K C:=by
 unfold excTyB at h
 simp only [Bool.and_eq_true,beq_iff_eq] at h
 obtain ⟨a,b,c,d,e,f,g⟩:=h
 exact ⟨a,b,c,d,e,f,g⟩
def excAll (K:PySem.W.Frag)(l:List Addr):Bool:=l.all (excTyB K)
theorem excAll_of {K:PySem.W.Frag}{l:List Addr}(h:excAll K l=true){C:Addr}(m:C∈l):ExcTy K C:=excTy_of (List.all_eq_true.mp h C m)
def capAll (K:PySem.W.Frag)(D:Addr)(l:List Addr):Bool:=excSh K D "ValueError.__new__" && (PySem.W.mroIn K D (.type "BaseException") == some true && l.all fun a=>excSh K a "ValueError.__new__" && PySem.W.mroIn K a (.ref D) == some true)
theorem cap_of {K:PySem.W.Frag}{mg:Str→Option Value}{T:CTb}{d:Str}{sub:Str→Bool}{D:Addr}{l:List Addr}(h:capAll K D l=true)(hm:mg d=some (.ref D))(hT:∀ c C,sub c=true→T.x c=some C→C∈l):CatAt K mg T d sub:=by
 unfold capAll at h
 simp only [Bool.and_eq_true,beq_iff_eq] at h
 refine ⟨D,hm,h.1,h.2.1,fun c C hs e=>?_⟩
 have:=List.all_eq_true.mp h.2.2 C (hT c C hs e)
 simp only [Bool.and_eq_true,beq_iff_eq] at this
 exact this
def rzAll (K:PySem.W.Frag)(l:List Addr):Bool:=l.all (rzIn K)
theorem rzAll_of {K:PySem.W.Frag}{l:List Addr}(h:rzAll K l=true){C:Addr}(m:C∈l):rzIn K C=true:=List.all_eq_true.mp h C m
def kitSq (K:PySem.W.Frag)(l r:List Addr):Bool:=(List.range l.length).all fun i=>(List.range r.length).all fun j=>PySem.W.kitOne K (.ref (l.getD i 0)) (.ref (r.getD j 0)) == some (l.getD i 0 == r.getD j 0)
theorem kitSq_get {K:PySem.W.Frag}{l r:List Addr}(h:kitSq K l r=true){a b:Addr}(ha:a∈l)(hb:b∈r):PySem.W.kitOne K (.ref a) (.ref b)=some (a == b):=by
 obtain ⟨i,hi,rfl⟩:=List.getElem_of_mem ha
 obtain ⟨j,hj,rfl⟩:=List.getElem_of_mem hb
 have:=List.all_eq_true.mp (List.all_eq_true.mp h i (List.mem_range.mpr hi)) j (List.mem_range.mpr hj)
 simpa [List.getD,hi,hj] using this
def kitTy (K:PySem.W.Frag)(l:List Addr)(v:Value)(b:Bool):Bool:=l.all fun a=>PySem.W.kitOne K (.ref a) v == some b
theorem kitTy_get {K:PySem.W.Frag}{l:List Addr}{v:Value}{b:Bool}(h:kitTy K l v b=true){a:Addr}(ha:a∈l):PySem.W.kitOne K (.ref a) v=some b:=beq_iff_eq.mp (List.all_eq_true.mp h a ha)
def iniB (K:PySem.W.Frag)(C:Addr)(F:Str):Bool:=excI K C && (PySem.W.findIn K (.ref C) "__setattr__" == some (some (.builtin "object.__setattr__")) && (exOver K C && (PySem.W.takerIn K C F == some none && (PySem.W.hasDictIn K C && PySem.W.findIn K (.ref C) F == some none))))
theorem ini_of {K:PySem.W.Frag}{C:Addr}{F:Str}(h:iniB K C F=true):IniOk K C F∧PySem.W.findIn K (.ref C) F=some none:=by
 unfold iniB at h
 simp only [Bool.and_eq_true,beq_iff_eq] at h
 obtain ⟨a,b,c,d,e,f⟩:=h
 exact ⟨⟨a,b,c,d,e⟩,f⟩
def InX (K:PySem.W.Frag)(C:Addr)(qual:Str)(st:Stmt):Prop:=∃ f fd,PySem.W.findIn K (.ref C) "__init__"=some (some (.ref f))∧PySem.W.typeIn K (.ref f)=some (.type "function")∧Fun K "__init__" qual st f fd
section
variable {K:PySem.W.Frag} {C:Addr}
theorem inx {qual:Str}{st:Stmt}{f:Addr}{oc:Value}{od an:Option Addr}{osl:Array (Option Value)}{kV doc pm cdv ct:Value}(a:PySem.W.findIn K (.ref C) "__init__"=some (some (.ref f)))(i:PySem.W.isFn K (.ref f)=true)
  (l:K.lookup f=some ⟨oc,od,.func (PySem.W.fnOf "__init__" qual (defArgs st) (defBody st) (defScope st) .none kV doc pm an cdv ct),osl⟩) (c:PySem.W.codeIn K cdv qual=true) (k:PySem.W.keepIn K (.ref f)=true):InX K C qual st:=⟨f,_,a,beq_iff_eq.mp i,fun_mk l c k⟩
theorem basx {mc:Value}(g1:PySem.W.specialIn K (.ref C) "__getattribute__"=some (some (.builtin "type.__getattribute__")))(g0:PySem.W.typeIn K (.ref C)=some mc)(g2:PySem.W.readsIn K C mc=true)
  (g3:PySem.W.findCls K (.ref C) mc "__init__"=some (.val (.builtin "ValueError.__init__"))):BaseOk K C:=⟨⟨mc,g1,g2,g3⟩⟩
end
end M
namespace M
open PySem PySem.Spec PyProof.Rows L2
end M
namespace M
open PySem PySem.Spec PyProof.Rows L2
end M
namespace M
open PySem PySem.Spec PyProof.Rows L2
open PySem.SeqAt (RcAt RcNeAt EqAt rc_eq_decline_or rc_ne_decline_or)
end M
namespace M
open PySem PySem.Spec PyProof.Rows L2
end M
namespace L2
open PySem PySem.Spec PyProof.Rows
end L2
namespace M
open PySem PySem.Spec PyProof.Rows L2
end M
namespace M
open PySem PySem.Spec PyProof.Rows L2
end M
namespace M
open PySem PySem.Spec PyProof.Rows L2
end M
namespace M
open PySem PySem.Spec PyProof.Rows L2
end M
namespace PySem
open PySem.W
end PySem
namespace M
open PySem PySem.Spec PyProof.Rows L2
end M
namespace M
open PySem PySem.Spec PyProof.Rows L2
end M
namespace M
open PySem PySem.Spec PyProof.Rows L2
end M
namespace L2
open PySem PySem.Spec PyProof.Rows
end L2
namespace M
open PySem PySem.Spec PyProof.Rows L2
end M
namespace PySem
open PySem.W
end PySem
namespace M
open PySem PySem.Spec PyProof.Rows L2
end M
namespace M
open PySem PySem.Spec PyProof.Rows L2
end M
namespace M
open PySem PySem.Spec PyProof.Rows L2
end M
namespace M
open PySem PySem.Spec PyProof.Rows L2
end M
namespace M
open PySem PySem.Spec PyProof.Rows L2
section
variable {X:Cx} {Z:Zc} {qc:Bool} {k j:Nat} {F:Fm} {x:Str} {p pos:Pos}
theorem q_fnX0 (G:FnAt X.prog X.w X.K X.mg X.base (CXe qc X.prog X.w) k x (spH Z.T F))(hx:XOk X Z)(hr:Room j X.A)(hkj:k≤j)(hg:Gl X x)(hdb:(x == ("__debug__":Str))=false:=by decide)(hq:qc=true→X.calm=true:=by first | exact fun _=>rfl | (intro h; cases h)):QE X Z (.Call (.Name x p) [] [] pos) (xCallX F xNil):=by
 obtain ⟨f,fd,ps,Fk,hm,kp,hb⟩:=G
 refine ⟨fun pins s σ H Q I ⟨φ,h,ρ,x0,q⟩=>wpAny_Call_Name_kw (ld_glob I hg hm ?_ hdb)⟩
 have q1:(F [] h).post (Kv Z.T φ H Q) Z.xw:=q
 exact PySem.W.callWith_K0 I.kIn kp (run_mX (us:=[]) (vs:=[]) Fk hx (hr.mono hkj) hq hb I .nil x0.sg x0.st x0.rh (by unfold RWs; rfl) q1)
end
instance pu_callX {F:Fm}{f:Exs}[hF:PuF F][hf:PuS f]:Pu (xCallX F f):=⟨fun ρ h w h' e=>by
 unfold xCallX at e
 cases e1:f ρ h with
 | no=>rw [e1] at e; cases e
 | ex _ _=>rw [e1] at e; cases e
 | ok a h1=>
  rw [e1] at e
  have e:F a h1=.ok w h':=e
  have:=hf.pu _ _ _ _ e1
  subst this
  exact hF.pu _ _ _ _ e⟩
instance puf_selfX {n m:Nat}{f:Ex}[hf:Pu f]:PuF (selfX n m (xRet f)):=⟨fun ws h w h' e=>by
 unfold selfX runB xRet at e
 cases hl:decide (ws.length=n) with
 | false=>rw [hl] at e; cases e
 | true=>
  rw [hl] at e
  cases e2:f (startW m ws) h with
  | no=>rw [e2] at e; simp [Out.res] at e
  | ex w1 h1=>rw [e2] at e; simp [Out.res] at e; cases e3:decide (h.length≤h1.length) <;> (rw [e3] at e; cases e)
  | ok w1 h1=>
   have:=hf.pu _ _ _ _ e2
   subst this
   rw [e2] at e
   simp [Out.res] at e
   exact e.2.symm⟩
section
variable {X:Cx} {Z:Zc} {a b:Expr} {rest:List Expr} {f g:Ex} {pos:Pos} {ta tb:TE}
theorem pe_orT (ha:PE X a ta)(hb:PE X (.BoolOp .Or (b::rest) pos) tb):PE X (.BoolOp .Or (a::b::rest) pos) (fun σ H Q=>ta σ H fun x H1=>truF H1 x fun k=>if k=true then Q x H1 else tb σ H1 Q):=by
 intro pins s σ H Q I h
 refine BoolOp_or (thn (ha pins s σ H _ I h) fun v s1 ⟨x,H1,I1,r1,q1⟩=>?_)
 refine thn (tru_ok pins s1 σ H1 x v (fun k H2=>if k=true then Q x H2 else tb σ H2 Q) I1 r1 (truF_ok q1)) fun c s2 ⟨H2,I2,q2⟩=>?_
 cases c with
 | false=>exact hb pins s2 σ H2 Q I2 q2
 | true=>exact ⟨x,H2,I2,r1,q2⟩
def xOrL (f g:Ex):Ex:=fun ρ h=>(f ρ h).bind fun w h1=>match truM h1 w with
 | some (.bl true)=>.ok w h1
 | some (.bl false)=>g ρ h1
 | _=>.no
theorem q_orL (ha:QE X Z a f)(hb:QE X Z (.BoolOp .Or (b::rest) pos) g):QE X Z (.BoolOp .Or (a::b::rest) pos) (xOrL f g):=
 ⟨(pe_orT ha.pe hb.pe).imp fun σ H Q ⟨φ,m,ρ,x,q⟩=>⟨φ,m,ρ,x,by
  unfold xOrL at q
  rw [bindP] at q
  refine q.mono fun w h1 q1=>fun φ1 H1 v s1 r1 rw1=>?_
  split at q1
  ·rename_i e
   exact truM_ok (b:=true) rw1 e (iteT (q1 φ1 H1 v s1 r1 rw1))
  ·rename_i e
   exact truM_ok (b:=false) rw1 e (iteF (⟨φ1,h1,ρ,x.step s1 r1,q1.mono fun w h2 k=>k.step s1⟩))
  ·exact q1.elim⟩⟩
end
end M
namespace K82
open PySem L2 M

local macro_rules | `(tactic| simp! [$ts,*])=>`(tactic| simp [$ts,*,runB,startW,Out.res,xSeq,xIfS,xRet,xDrop,xAsg,gN,xNext,xVar,xC,xNil,xCons,xBin,xUn,xCb,xIf,xTup,xLst,xCall0,xNo,Res.bind,Res.of,iop,iopC,divM,modM,bandM,ltM,invM,addM,items,ixM,seqs,eqO,neO,eqM,flatW,eqFl,tyN,Kit.get,sizeLine_eq,xFor,xLoop,xIl,truM,intW,strW,joinM,xBmS,ρC,gT2,xCallX,xRaise,xTry,endX,fgt,isiX,tyX,kitA,clTy,xIr1,xRaiseI,xXf])
local macro_rules | `(tactic| simp_arith [$ts,*])=>`(tactic| simp [$ts,*,runB,startW,Out.res,xSeq,xIfS,xRet,xDrop,xAsg,gN,xNext,xVar,xC,xNil,xCons,xBin,xUn,xCb,xIf,xTup,xLst,xCall0,xNo,Res.bind,Res.of,iop,iopC,divM,modM,bandM,ltM,invM,addM,items,ixM,seqs,eqO,neO,eqM,flatW,eqFl,tyN,sizeLine_eq,xFor,xLoop,xIl,truM,intW,strW,joinM,xBmS,ρC,gT2,xCallX,xRaise,xTry,endX,fgt,isiX,tyX,kitA,clTy,xIr1,xRaiseI,xXf])
local macro_rules | `(tactic| simp_all! [$ts,*])=>`(tactic| simp [$ts,*,runB,startW,Out.res,xSeq,xIfS,xRet,xDrop,xAsg,gN,xNext,xVar,xC,xNil,xCons,xBin,xUn,xCb,xIf,xTup,xLst,xCall0,xNo,Res.bind,Res.of,iop,iopC,divM,modM,bandM,ltM,invM,addM,items,ixM,seqs,eqO,neO,flatW,eqFl,tyN,Kit.get,sizeLine_eq,xFor,xLoop,xIl,truM,intW,strW,joinM,xBmS,ρC,gT2,xCallX,xRaise,xTry,endX,fgt,isiX,tyX,kitA,clTy,xIr1,xRaiseI,xXf])
def top (i:Nat):Stmt:=PySem.Challenge.pw_passkeep_k82_words_of_refusals.main.body.getD i (.Pass ⟨0,0,0,0⟩)
abbrev s_missing:Stmt:=top 25
theorem sc_missing:FnScope ["needed","had"] ["needed","had"] (defScope s_missing):=⟨rfl,rfl,rfl,by decide +kernel,rfl,by decide +kernel,by decide +kernel⟩
theorem bd_missing:BindsAll "missing" "missing" s_missing ["needed","had"]:=fun _ _ _ _ _ _ us hl=>match us,hl with | [_,_],_=>rfl
abbrev s_within:Stmt:=top 26
theorem sc_within:FnScope ["some","more"] ["some","more"] (defScope s_within):=⟨rfl,rfl,rfl,by decide +kernel,rfl,by decide +kernel,by decide +kernel⟩
theorem bd_within:BindsAll "within" "within" s_within ["some","more"]:=fun _ _ _ _ _ _ us hl=>match us,hl with | [_,_],_=>rfl
abbrev s_rights_with_words:Stmt:=top 27
theorem sc_rights_with_words:FnScope [] [] (defScope s_rights_with_words):=⟨rfl,rfl,rfl,by decide +kernel,rfl,by decide +kernel,by decide +kernel⟩
theorem bd_rights_with_words:BindsAll "rights_with_words" "rights_with_words" s_rights_with_words []:=fun _ _ _ _ _ _ us hl=>match us,hl with | [],_=>rfl
abbrev s_words_of:Stmt:=top 28
theorem sc_words_of:FnScope ["rights","words"] ["rights"] (defScope s_words_of):=⟨rfl,rfl,rfl,by decide +kernel,rfl,by decide +kernel,by decide +kernel⟩
theorem bd_words_of:BindsAll "words_of" "words_of" s_words_of ["rights"]:=fun _ _ _ _ _ _ us hl=>match us,hl with | [_],_=>rfl
abbrev s_word_of_what_is_none:Stmt:=top 30
theorem sc_word_of_what_is_none:FnScope ["error"] ["error"] (defScope s_word_of_what_is_none):=⟨rfl,rfl,rfl,by decide +kernel,rfl,by decide +kernel,by decide +kernel⟩
theorem bd_word_of_what_is_none:BindsAll "word_of_what_is_none" "word_of_what_is_none" s_word_of_what_is_none ["error"]:=fun _ _ _ _ _ _ us hl=>match us,hl with | [_],_=>rfl
abbrev s_refusal_word:Stmt:=top 31
theorem sc_refusal_word:FnScope ["error"] ["error"] (defScope s_refusal_word):=⟨rfl,rfl,rfl,by decide +kernel,rfl,by decide +kernel,by decide +kernel⟩
theorem bd_refusal_word:BindsAll "refusal_word" "refusal_word" s_refusal_word ["error"]:=fun _ _ _ _ _ _ us hl=>match us,hl with | [_],_=>rfl
abbrev s_l_first:Stmt:=top 33
theorem sc_l_first:FnScope ["_law_k","_law_rights"] ["_law_k","_law_rights"] (defScope s_l_first):=⟨rfl,rfl,rfl,by decide +kernel,rfl,by decide +kernel,by decide +kernel⟩
theorem bd_l_first:BindsAll "_law_first" "_law_first" s_l_first ["_law_k","_law_rights"]:=fun _ _ _ _ _ _ us hl=>match us,hl with | [_,_],_=>rfl
abbrev s_l_second:Stmt:=top 34
theorem sc_l_second:FnScope ["_law_k"] ["_law_k"] (defScope s_l_second):=⟨rfl,rfl,rfl,by decide +kernel,rfl,by decide +kernel,by decide +kernel⟩
theorem bd_l_second:BindsAll "_law_second" "_law_second" s_l_second ["_law_k"]:=fun _ _ _ _ _ _ us hl=>match us,hl with | [_],_=>rfl
abbrev s_l_due:Stmt:=top 35
theorem sc_l_due:FnScope ["_law_k","_law_rights","_law_some","_law_words"] ["_law_k","_law_rights"] (defScope s_l_due):=⟨rfl,rfl,rfl,by decide +kernel,rfl,by decide +kernel,by decide +kernel⟩
theorem bd_l_due:BindsAll "_law_due" "_law_due" s_l_due ["_law_k","_law_rights"]:=fun _ _ _ _ _ _ us hl=>match us,hl with | [_,_],_=>rfl
abbrev s_l_told:Stmt:=top 36
theorem sc_l_told:FnScope ["_law_k","_law_rights","e"] ["_law_k","_law_rights"] (defScope s_l_told):=⟨rfl,rfl,rfl,by decide +kernel,rfl,by decide +kernel,by decide +kernel⟩
theorem bd_l_told:BindsAll "_law_told" "_law_told" s_l_told ["_law_k","_law_rights"]:=fun _ _ _ _ _ _ us hl=>match us,hl with | [_,_],_=>rfl
abbrev s_law:Stmt:=top 37
theorem sc_law:FnScope ["_law_script","_law_cell","_law_k","_law_rights"] ["_law_script"] (defScope s_law):=⟨rfl,rfl,rfl,by decide +kernel,rfl,by decide +kernel,by decide +kernel⟩
theorem bd_law:BindsAll "law" "law" s_law ["_law_script"]:=fun _ _ _ _ _ _ us hl=>match us,hl with | [_],_=>rfl
abbrev s_NoDeed__init:Stmt:=inClass (top 16) 0
theorem sc_NoDeed__init:FnScope ["self","deed"] ["self","deed"] (defScope s_NoDeed__init):=⟨rfl,rfl,rfl,by decide +kernel,rfl,by decide +kernel,by decide +kernel⟩
theorem bd_NoDeed__init:BindsAll "__init__" "NoDeed.__init__" s_NoDeed__init ["self","deed"]:=fun _ _ _ _ _ _ us hl=>match us,hl with | [_,_],_=>rfl
abbrev s_Lacks__init:Stmt:=inClass (top 17) 0
theorem sc_Lacks__init:FnScope ["self","missing"] ["self","missing"] (defScope s_Lacks__init):=⟨rfl,rfl,rfl,by decide +kernel,rfl,by decide +kernel,by decide +kernel⟩
theorem bd_Lacks__init:BindsAll "__init__" "Lacks.__init__" s_Lacks__init ["self","missing"]:=fun _ _ _ _ _ _ us hl=>match us,hl with | [_,_],_=>rfl
structure Cs where
 Empty:Addr
 Full:Addr
 Lacks:Addr
 NoDeed:Addr
 NoHandle:Addr
 NoKind:Addr
 NoName:Addr
 NoRights:Addr
 NoRow:Addr
 NoTask:Addr
 NoThing:Addr
 NoValue:Addr
 NoWords:Addr
 Taken:Addr
 TooGreat:Addr
 TooMany:Addr
 PassError:Addr
def names:List Str:=["Empty","Full","Lacks","NoDeed","NoHandle","NoKind","NoName","NoRights","NoRow","NoTask","NoThing","NoValue","NoWords","Taken","TooGreat","TooMany"]
def Cs.l (C:Cs):List Addr:=[C.Empty,C.Full,C.Lacks,C.NoDeed,C.NoHandle,C.NoKind,C.NoName,C.NoRights,C.NoRow,C.NoTask,C.NoThing,C.NoValue,C.NoWords,C.Taken,C.TooGreat,C.TooMany]
def nm (i:Fin 16):Str:=names.getD i.val ""
def T0 (C:Cs):CTb:=⟨fun _=>none,fun c=>(names.zip C.l).lookup c,fun c=>if c="PassError" then some C.PassError else none⟩
def ents:List ((Ty×Ty)×Bool):=(List.range 16).flatMap fun i=>((.inr (names.getD i ""),.inr "PassError"),true)::(List.range 16).map fun j=>((.inr (names.getD i ""),.inr (names.getD j "")),i == j)
def kitL:Kit:=ents
theorem kgA:∀ i j:Fin 16,Kit.get kitL (.inr (nm i)) (.inr (nm j))=some (decide (i=j)):=by decide +kernel
def subP (c:Str):Bool:=names.contains c
theorem subP_i:∀ i:Fin 16,subP (nm i)=true:=by decide +kernel
abbrev mis (a b:Int):Int:=Builtin.bitAnd a (Builtin.bitNot b)
def six:List (Int×Str):=[(1,"look"),(2,"put"),(4,"send"),(8,"hear"),(16,"end"),(32,"pass")]
def g6 (p:Int×Str):W:=.tup [.int p.1,.str p.2]
def fl (r:Int):List (Int×Str):=six.filter fun p=>decide (mis p.1 r=0)
def wl (r:Int):List Str:=(fl r).map (·.2)
def BL:Str:=⟨#[32]⟩
def wo (r:Int):Str:=if (wl r).isEmpty=true then "nothing" else Txt.join BL (wl r)
theorem blank:Str.ofString " "=BL:=by decide +kernel
theorem wl_sum (r:Int):((wl r).map fun t=>t.length+BL.length).sum≤60:=by
 have key:∀ (l:List (Int×Str)) (p:Int×Str→Bool),(((l.filter p).map (·.2)).map fun t=>t.length+BL.length).sum≤(((l.map (·.2))).map fun t=>t.length+BL.length).sum:=by
  intro l p
  induction l with
  | nil=>simp
  | cons a r ih=>
   rw [List.filter_cons]
   split
   ·simp at ih ⊢; omega
   ·simp at ih ⊢; omega
 exact Nat.le_trans (key six _) (by decide +kernel)
def pw (n:Nat):Int:=[1,2,4,8,16,32].getD n 1
def wd (n:Nat):Str:=(["look","put","send","hear","end","pass"]:List Str).getD n ""
def dl (r:Int):List Str:=((List.range 6).filter fun n=>decide (r / pw n % 2=1)).map wd
def dl1 (r:Int):List Str:=if (dl r).isEmpty=true then ["nothing"] else dl r
def due (i:Fin 16)(r:Int):Str:=if i=2 then Txt.join BL ("Lacks"::dl1 r) else nm i
theorem d1:∀ n:Fin 64,Str.ofString "Lacks "++wo (n.val:Int)=Txt.join BL ("Lacks"::dl1 (n.val:Int))∧(wo (n.val:Int)).length≤100∧(dl1 (n.val:Int)).length≤6∧((("Lacks":Str)::dl1 (n.val:Int)).map fun t=>t.length+BL.length).sum≤100:=by decide +kernel
theorem lkM {w:W}:List.lookup (Str.ofString "missing") ([Str.ofString "missing"].zip [w])=some w:=by simp [List.lookup]
theorem pickW {l:List W}{i:Int}(h0:0≤i)(h1:i<l.length):∃ y∈l,atI l i=some y:=by
 refine ⟨l.getD i.toNat .non,?_,atI_getD _ h0 h1⟩
 have h:i.toNat<l.length:=by omega
 rw [List.getD_eq_getElem?_getD,List.getElem?_eq_getElem h]
 exact List.getElem_mem h
structure Tx (K:PySem.W.Frag)(mg:Str→Option Value)(C:Cs):Prop where
 b_isinstance:mg "isinstance"=none
 b_range:mg "range"=none
 c_LOOK:GC mg "LOOK" (.int 1)
 c_PUT:GC mg "PUT" (.int 2)
 c_SEND:GC mg "SEND" (.int 4)
 c_HEAR:GC mg "HEAR" (.int 8)
 c_END:GC mg "END" (.int 16)
 c_PASS:GC mg "PASS" (.int 32)
 ins:InsOk K (T0 C)
 exo:ExcOk K (T0 C)
 kit:KitOk K (T0 C) kitL
 rz_Empty:RzAt K mg (T0 C) "Empty"
 rz_Full:RzAt K mg (T0 C) "Full"
 rz_NoHandle:RzAt K mg (T0 C) "NoHandle"
 rz_NoKind:RzAt K mg (T0 C) "NoKind"
 rz_NoName:RzAt K mg (T0 C) "NoName"
 rz_NoRights:RzAt K mg (T0 C) "NoRights"
 rz_NoRow:RzAt K mg (T0 C) "NoRow"
 rz_NoTask:RzAt K mg (T0 C) "NoTask"
 rz_NoThing:RzAt K mg (T0 C) "NoThing"
 rz_NoValue:RzAt K mg (T0 C) "NoValue"
 rz_NoWords:RzAt K mg (T0 C) "NoWords"
 rz_Taken:RzAt K mg (T0 C) "Taken"
 rz_TooGreat:RzAt K mg (T0 C) "TooGreat"
 rz_TooMany:RzAt K mg (T0 C) "TooMany"
 cat_PassError:CatAt K mg (T0 C) "PassError" subP
 g_Empty:GC mg "Empty" (.ref C.Empty)
 t_Empty:(T0 C).any "Empty"=some C.Empty
 g_Full:GC mg "Full" (.ref C.Full)
 t_Full:(T0 C).any "Full"=some C.Full
 g_Lacks:GC mg "Lacks" (.ref C.Lacks)
 t_Lacks:(T0 C).any "Lacks"=some C.Lacks
 g_NoDeed:GC mg "NoDeed" (.ref C.NoDeed)
 t_NoDeed:(T0 C).any "NoDeed"=some C.NoDeed
 g_NoHandle:GC mg "NoHandle" (.ref C.NoHandle)
 t_NoHandle:(T0 C).any "NoHandle"=some C.NoHandle
 g_NoKind:GC mg "NoKind" (.ref C.NoKind)
 t_NoKind:(T0 C).any "NoKind"=some C.NoKind
 g_NoName:GC mg "NoName" (.ref C.NoName)
 t_NoName:(T0 C).any "NoName"=some C.NoName
 g_NoRights:GC mg "NoRights" (.ref C.NoRights)
 t_NoRights:(T0 C).any "NoRights"=some C.NoRights
 g_NoRow:GC mg "NoRow" (.ref C.NoRow)
 t_NoRow:(T0 C).any "NoRow"=some C.NoRow
 g_NoTask:GC mg "NoTask" (.ref C.NoTask)
 t_NoTask:(T0 C).any "NoTask"=some C.NoTask
 g_NoThing:GC mg "NoThing" (.ref C.NoThing)
 t_NoThing:(T0 C).any "NoThing"=some C.NoThing
 g_NoValue:GC mg "NoValue" (.ref C.NoValue)
 t_NoValue:(T0 C).any "NoValue"=some C.NoValue
 g_NoWords:GC mg "NoWords" (.ref C.NoWords)
 t_NoWords:(T0 C).any "NoWords"=some C.NoWords
 g_Taken:GC mg "Taken" (.ref C.Taken)
 t_Taken:(T0 C).any "Taken"=some C.Taken
 g_TooGreat:GC mg "TooGreat" (.ref C.TooGreat)
 t_TooGreat:(T0 C).any "TooGreat"=some C.TooGreat
 g_TooMany:GC mg "TooMany" (.ref C.TooMany)
 t_TooMany:(T0 C).any "TooMany"=some C.TooMany
 g_PassError:GC mg "PassError" (.ref C.PassError)
 t_PassError:(T0 C).any "PassError"=some C.PassError
 fx_missing:FxOk K (T0 C) "Lacks" "missing"
section
variable {P:Program} {w:World} {K:PySem.W.Frag} {mg:Str→Option Value} {base:Heap} {C:Cs}
theorem xFor_loop {fi:Ei}{G:Tg}{B:Sm}{ρ:Sg}{h h':Mem}{ws:List W}(e:fi ρ h=.ok none ws h'):xFor fi G B ρ h=xLoop G B ws ρ h':=by unfold xFor; rw [e]
theorem xSeq_nx {F G:Sm}{ρ ρ':Sg}{h h':Mem}(e:F ρ h=.nx ρ' h'):xSeq F G ρ h=G ρ' h':=by unfold xSeq; rw [e]
theorem ok_ini_Lacks {f:Addr}{fd:FuncData}{L D:Addr}(hC:IniOk K L "missing")(hB:BaseOk K D)(hm:mg "PassError"=some (.ref D))(R:Fun K "__init__" "Lacks.__init__" s_Lacks__init f fd):FnOk P w K mg base CX0 1 f fd ["self","missing"] (spI L "missing"):=
 ini_ok R sc_Lacks__init fun cdv A outer s H E=>pss_cons (ps_expr (pe_ini hB hC.ei hm rfl (pa_cons (pe_var rfl (Or.inl rfl)) (pa_cons pe_str pa_nil)))) (pss_one (ps_ini hC (pe_var rfl (Or.inl rfl)) (pe_var rfl (Or.inl rfl))))
theorem ok_ini_NoDeed {f:Addr}{fd:FuncData}{L D:Addr}(hC:IniOk K L "deed")(hB:BaseOk K D)(hm:mg "PassError"=some (.ref D))(R:Fun K "__init__" "NoDeed.__init__" s_NoDeed__init f fd):FnOk P w K mg base CX0 1 f fd ["self","deed"] (spI L "deed"):=
 ini_ok R sc_NoDeed__init fun cdv A outer s H E=>pss_cons (ps_expr (pe_ini hB hC.ei hm rfl (pa_cons (pe_var rfl (Or.inl rfl)) (pa_cons pe_str pa_nil)))) (pss_one (ps_ini hC (pe_var rfl (Or.inl rfl)) (pe_var rfl (Or.inl rfl))))
def S_mis (F:Fm):Prop:=∀ h a b,F [.int a,.int b] h=.ok (.int (mis a b)) h
theorem ok_mis (T:Tx K mg C)(R:DefAt K mg "missing" s_missing):∃ F,FnAt P w K mg base (CXe false P w) 1 "missing" (spH (T0 C) F)∧S_mis F∧PuF F:=⟨_,(defX R sc_missing bd_missing (hB:=fun f cdv A outer s H E φ0 hr hx=>(qb_one (qs_ret (q_bin op_and bandM_ok (q_var 0) (q_un un_inv invM_ok (q_var 1))))))) selfX_told,fun h a b=>selfX_ok rfl (by simp! [xNo]) (Nat.le_refl _),inferInstance⟩
def S_within (F:Fm):Prop:=∀ h a b,F [.int a,.int b] h=.ok (.bl (decide (mis a b=0))) h
theorem ok_within (T:Tx K mg C){Fm':Fm}[PuF Fm'](hm:S_mis Fm')(G_missing:FnAt P w K mg base (CXe false P w) 1 "missing" (spH (T0 C) Fm'))(R:DefAt K mg "within" s_within):∃ F,FnAt P w K mg base (CXe false P w) 2 "within" (spH (T0 C) F)∧S_within F∧PuF F:=by
 refine ⟨_,(defX R sc_within bd_within (hB:=fun f cdv A outer s H E φ0 hr hx=>(qb_one (qs_ret (q_cmp (op_eqF hr) eqO_ok (q_fnX G_missing hx hr (by decide) rfl (qa_cons (q_var 0) (qa_cons (q_var 1) qa_nil))) q_int (nomark _)))))) selfX_told,fun h a b=>selfX_ok rfl ?_ (Nat.le_refl _),inferInstance⟩
 have e:=hm h a b
 generalize mis a b=q at e ⊢
 simp! [e]
def S_six (F:Fm):Prop:=∀ h,F [] h=.ok (.tl (six.map g6)) h
theorem ok_six (T:Tx K mg C)(R:DefAt K mg "rights_with_words" s_rights_with_words):∃ F,FnAt P w K mg base (CXe false P w) 1 "rights_with_words" (spH (T0 C) F)∧S_six F∧PuF F:=⟨_,(defX R sc_rights_with_words bd_rights_with_words (hB:=fun f cdv A outer s H E φ0 hr hx=>(qb_one (qs_ret (q_lst (qa_cons (q_tup (qa_cons (q_gci rfl T.c_LOOK) (qa_cons q_str qa_nil))) (qa_cons (q_tup (qa_cons (q_gci rfl T.c_PUT) (qa_cons q_str qa_nil))) (qa_cons (q_tup (qa_cons (q_gci rfl T.c_SEND) (qa_cons q_str qa_nil))) (qa_cons (q_tup (qa_cons (q_gci rfl T.c_HEAR) (qa_cons q_str qa_nil))) (qa_cons (q_tup (qa_cons (q_gci rfl T.c_END) (qa_cons q_str qa_nil))) (qa_cons (q_tup (qa_cons (q_gci rfl T.c_PASS) (qa_cons q_str qa_nil))) qa_nil))))))))))) selfX_told,fun h=>selfX_ok rfl (by simp! [six,g6]) (Nat.le_refl _),inferInstance⟩
def S_wo (F:Fm):Prop:=∀ h r,F [.int r] h=.ok (.str (wo r)) h
theorem ok_wo (T:Tx K mg C){F6 Fw:Fm}[PuF F6][PuF Fw](h6:S_six F6)(hw:S_within Fw)(G_rights_with_words:FnAt P w K mg base (CXe false P w) 1 "rights_with_words" (spH (T0 C) F6))(G_within:FnAt P w K mg base (CXe false P w) 2 "within" (spH (T0 C) Fw))(R:DefAt K mg "words_of" s_words_of):∃ F,FnAt P w K mg base (CXe false P w) 3 "words_of" (spH (T0 C) F)∧S_wo F:=by
 refine ⟨_,(defX R sc_words_of bd_words_of (hB:=fun f cdv A outer s H E φ0 hr hx=>(qb_cons (qs_setc (osc:=defScope s_words_of) (N:=["rights","words"]) (own:=["right","word"]) (fr:=["rights"]) (ix:=[0]) (i:=1) sc_words_of.nd rfl rfl (fun _ _ _=>trivial) rfl rfl rfl (by decide +kernel) (qi_list (q_fnX0 G_rights_with_words hx hr (by decide) rfl)) (fun _=>(tg_tup2 (zb_set (by decide)) (zb_set (by decide)))) (fun _ _ _ _ _=>(qg_tupV (n:=2) rfl (qgs_cons (qg_cn 0 (by decide +kernel) rfl (by decide +kernel) rfl) (qgs_cons (qg_cn 1 (by decide +kernel) rfl (by decide +kernel) rfl) qgs_nil)))) (fun _ _ _ _ _ _=>(qc_one (qt_val (q_fnX G_within (xok_no fun _ _ h=>h) hr (by decide) rfl (qa_cons (q_var 0) (qa_cons (q_var 2) qa_nil)))))) (fun _ _ _ _ _ _=>(q_var 1)))
   (qb_one (qs_ret (q_if (qt_tru (q_var 1)) (q_join q_str (qa_cons (q_var 1) qa_nil)) q_str)))))) selfX_told,fun h r=>selfX_ok rfl ?_ (Nat.le_refl _)⟩
 generalize hC:xComp _ _ _ _ _ _=C
 have ec:C [some (.int r),none] h=.ok (.tl ((wl r).map W.str)) h:=by
  rw [← hC]
  have e6:=h6 h
  refine Eq.trans (xComp_fil (h1:=h) (s:=none) g6 (fun p=>W.str p.2) (fun p=>decide (mis p.1 r=0)) six (by simp! [e6]) (by decide) (fun p hp acc=>?_)) ?_
  ·have e:=hw (h++[.lst acc]) p.1 r
   refine ⟨_,rfl,⟨h++[.lst acc],?_⟩,fun _=>⟨⟨h++[.lst acc],?_⟩,rfl⟩⟩
   ·generalize h++[O.lst acc]=hx at e
    generalize decide (mis p.1 r=0)=dm at e
    simp! [e]
   ·simp! [xNo]
  ·simp [wl,fl]
 have hj:JoinOk BL (wl r)=true:=joinOk_of (Nat.le_trans (wl_sum r) (by rw [sizeLine_eq]; decide))
 rw [blank]
 unfold wo
 cases q:wl r with
 | nil=>rw [q] at ec; simp! [ec]
 | cons a l=>
  rw [q] at ec hj
  simp! [ec,hj,strW_map]
def S_first (F:Fm):Prop:=∀ (h:Mem) (r:Int),∃ y,F [.int 0,.int r] h=.ex (.exc "Empty" [] []) h∧F [.int 1,.int r] h=.ex (.exc "Full" [] []) h∧F [.int 2,.int r] h=.ex (.exc "Lacks" ["missing"] [.int r]) h∧F [.int 3,.int r] h=.ex (.exc "NoDeed" ["deed"] [y]) h∧F [.int 4,.int r] h=.ex (.exc "NoHandle" [] []) h∧F [.int 5,.int r] h=.ex (.exc "NoKind" [] []) h∧F [.int 6,.int r] h=.ex (.exc "NoName" [] []) h∧F [.int 7,.int r] h=.ex (.exc "NoRights" [] []) h
theorem ok_first (T:Tx K mg C)(Z_Lacks:RzI P w K mg base (T0 C) 1 "Lacks" "missing")(Z_NoDeed:RzI P w K mg base (T0 C) 1 "NoDeed" "deed")(R:DefAt K mg "_law_first" s_l_first):∃ F,FnAt P w K mg base (CXe true P w) 3 "_law_first" (spH (T0 C) F)∧S_first F:=by
 refine ⟨_,(defX R sc_l_first bd_l_first (hB:=fun f cdv A outer s H E φ0 hr hx=>(qb_cons (qs_if (qt_cmp (op_eqF hr) eqO_ok (q_var 0) q_int (nomark _)) (qb_one (qs_raise T.rz_Empty hx rfl (qa_cons q_str qa_nil))) qb_nil)
   (qb_cons (qs_if (qt_cmp (op_eqF hr) eqO_ok (q_var 0) q_int (nomark _)) (qb_one (qs_raise T.rz_Full hx rfl (qa_cons q_str qa_nil))) qb_nil)
   (qb_cons (qs_if (qt_cmp (op_eqF hr) eqO_ok (q_var 0) q_int (nomark _)) (qb_one (qs_raiseI Z_Lacks hr (by decide) hx rfl (qa_cons (q_var 1) qa_nil))) qb_nil)
   (qb_cons (qs_if (qt_cmp (op_eqF hr) eqO_ok (q_var 0) q_int (nomark _)) (qb_one (qs_raiseI Z_NoDeed hr (by decide) hx rfl (qa_cons (q_ix ix_any ixM_ok (q_lst (qa_cons q_str (qa_cons q_non (qa_cons q_int (qa_cons q_str qa_nil))))) (q_bin op_mod modM_ok (q_var 1) q_int) (fun _ _=>rfl)) qa_nil))) qb_nil)
   (qb_cons (qs_if (qt_cmp (op_eqF hr) eqO_ok (q_var 0) q_int (nomark _)) (qb_one (qs_raise T.rz_NoHandle hx rfl (qa_cons q_str qa_nil))) qb_nil)
   (qb_cons (qs_if (qt_cmp (op_eqF hr) eqO_ok (q_var 0) q_int (nomark _)) (qb_one (qs_raise T.rz_NoKind hx rfl (qa_cons q_str qa_nil))) qb_nil)
   (qb_cons (qs_if (qt_cmp (op_eqF hr) eqO_ok (q_var 0) q_int (nomark _)) (qb_one (qs_raise T.rz_NoName hx rfl (qa_cons q_str qa_nil))) qb_nil)
   (qb_one (qs_raise T.rz_NoRights hx rfl (qa_cons q_str qa_nil)))))))))))) selfX_told,fun h r=>?_⟩
 obtain ⟨y,hy,ey⟩:=pickW (l:=[.str "look",.non,.int 7,.str "Lacks"]) (i:=r % 4) (by omega) (by show _<(4:Int); omega)
 have hl:ltW h.length y=true:=by
  simp only [List.mem_cons,List.not_mem_nil,or_false] at hy
  rcases hy with rfl | rfl | rfl | rfl <;> rfl
 exact ⟨y,selfX_exc rfl (by simp! [ey,hl]) (Nat.le_refl _),selfX_exc rfl (by simp! [ey,hl]) (Nat.le_refl _),selfX_exc rfl (by simp! [ey,hl]) (Nat.le_refl _),selfX_exc rfl (by simp! [ey,hl]) (Nat.le_refl _),selfX_exc rfl (by simp! [ey,hl]) (Nat.le_refl _),selfX_exc rfl (by simp! [ey,hl]) (Nat.le_refl _),selfX_exc rfl (by simp! [ey,hl]) (Nat.le_refl _),selfX_exc rfl (by simp! [ey,hl]) (Nat.le_refl _)⟩
def S_second (F:Fm):Prop:=∀ h:Mem,F [.int 8] h=.ex (.exc "NoRow" [] []) h∧F [.int 9] h=.ex (.exc "NoTask" [] []) h∧F [.int 10] h=.ex (.exc "NoThing" [] []) h∧F [.int 11] h=.ex (.exc "NoValue" [] []) h∧F [.int 12] h=.ex (.exc "NoWords" [] []) h∧F [.int 13] h=.ex (.exc "Taken" [] []) h∧F [.int 14] h=.ex (.exc "TooGreat" [] []) h∧F [.int 15] h=.ex (.exc "TooMany" [] []) h
theorem ok_second (T:Tx K mg C)(R:DefAt K mg "_law_second" s_l_second):∃ F,FnAt P w K mg base (CXe true P w) 3 "_law_second" (spH (T0 C) F)∧S_second F:=by
 refine ⟨_,(defX R sc_l_second bd_l_second (hB:=fun f cdv A outer s H E φ0 hr hx=>(qb_cons (qs_if (qt_cmp (op_eqF hr) eqO_ok (q_var 0) q_int (nomark _)) (qb_one (qs_raise T.rz_NoRow hx rfl (qa_cons q_str qa_nil))) qb_nil)
   (qb_cons (qs_if (qt_cmp (op_eqF hr) eqO_ok (q_var 0) q_int (nomark _)) (qb_one (qs_raise T.rz_NoTask hx rfl (qa_cons q_str qa_nil))) qb_nil)
   (qb_cons (qs_if (qt_cmp (op_eqF hr) eqO_ok (q_var 0) q_int (nomark _)) (qb_one (qs_raise T.rz_NoThing hx rfl (qa_cons q_str qa_nil))) qb_nil)
   (qb_cons (qs_if (qt_cmp (op_eqF hr) eqO_ok (q_var 0) q_int (nomark _)) (qb_one (qs_raise T.rz_NoValue hx rfl (qa_cons q_str qa_nil))) qb_nil)
   (qb_cons (qs_if (qt_cmp (op_eqF hr) eqO_ok (q_var 0) q_int (nomark _)) (qb_one (qs_raise T.rz_NoWords hx rfl (qa_cons q_str qa_nil))) qb_nil)
   (qb_cons (qs_if (qt_cmp (op_eqF hr) eqO_ok (q_var 0) q_int (nomark _)) (qb_one (qs_raise T.rz_Taken hx rfl (qa_cons q_str qa_nil))) qb_nil)
   (qb_cons (qs_if (qt_cmp (op_eqF hr) eqO_ok (q_var 0) q_int (nomark _)) (qb_one (qs_raise T.rz_TooGreat hx rfl (qa_cons q_str qa_nil))) qb_nil)
   (qb_one (qs_raise T.rz_TooMany hx rfl (qa_cons q_str qa_nil)))))))))))) selfX_told,fun h=>⟨selfX_exc rfl (by simp! [xNo]) (Nat.le_refl _),selfX_exc rfl (by simp! [xNo]) (Nat.le_refl _),selfX_exc rfl (by simp! [xNo]) (Nat.le_refl _),selfX_exc rfl (by simp! [xNo]) (Nat.le_refl _),selfX_exc rfl (by simp! [xNo]) (Nat.le_refl _),selfX_exc rfl (by simp! [xNo]) (Nat.le_refl _),selfX_exc rfl (by simp! [xNo]) (Nat.le_refl _),selfX_exc rfl (by simp! [xNo]) (Nat.le_refl _)⟩⟩
def S_none (F:Fm):Prop:=∀ (h:Mem) (i:Fin 16) (fs:List Str) (ws:List W),i=3∨i=4∨i=5∨i=6∨i=7∨i=8∨i=9∨i=10∨i=11∨i=12→F [.exc (nm i) fs ws] h=.ok (.str (nm i)) h
theorem ok_none (T:Tx K mg C)(R:DefAt K mg "word_of_what_is_none" s_word_of_what_is_none):∃ F,FnAt P w K mg base (CXe false P w) 1 "word_of_what_is_none" (spH (T0 C) F)∧S_none F:=by
 refine ⟨_,(defX R sc_word_of_what_is_none bd_word_of_what_is_none (hB:=fun f cdv A outer s H E φ0 hr hx=>(qb_cons (qs_if (qt_val (q_cb (isiX_ok T.ins T.exo T.kit) (call_isiX K rfl) rfl T.b_isinstance (by first | exact boot_b_isinstance | rfl) (qa_cons (q_var 0) (qa_cons (q_cls rfl T.g_NoRights T.t_NoRights) qa_nil)))) (qb_one (qs_ret q_str)) qb_nil)
   (qb_cons (qs_if (qt_val (q_cb (isiX_ok T.ins T.exo T.kit) (call_isiX K rfl) rfl T.b_isinstance (by first | exact boot_b_isinstance | rfl) (qa_cons (q_var 0) (qa_cons (q_cls rfl T.g_NoName T.t_NoName) qa_nil)))) (qb_one (qs_ret q_str)) qb_nil)
   (qb_cons (qs_if (qt_val (q_cb (isiX_ok T.ins T.exo T.kit) (call_isiX K rfl) rfl T.b_isinstance (by first | exact boot_b_isinstance | rfl) (qa_cons (q_var 0) (qa_cons (q_cls rfl T.g_NoValue T.t_NoValue) qa_nil)))) (qb_one (qs_ret q_str)) qb_nil)
   (qb_cons (qs_if (qt_val (q_cb (isiX_ok T.ins T.exo T.kit) (call_isiX K rfl) rfl T.b_isinstance (by first | exact boot_b_isinstance | rfl) (qa_cons (q_var 0) (qa_cons (q_cls rfl T.g_NoWords T.t_NoWords) qa_nil)))) (qb_one (qs_ret q_str)) qb_nil)
   (qb_cons (qs_if (qt_val (q_cb (isiX_ok T.ins T.exo T.kit) (call_isiX K rfl) rfl T.b_isinstance (by first | exact boot_b_isinstance | rfl) (qa_cons (q_var 0) (qa_cons (q_cls rfl T.g_NoKind T.t_NoKind) qa_nil)))) (qb_one (qs_ret q_str)) qb_nil)
   (qb_cons (qs_if (qt_val (q_cb (isiX_ok T.ins T.exo T.kit) (call_isiX K rfl) rfl T.b_isinstance (by first | exact boot_b_isinstance | rfl) (qa_cons (q_var 0) (qa_cons (q_cls rfl T.g_NoTask T.t_NoTask) qa_nil)))) (qb_one (qs_ret q_str)) qb_nil)
   (qb_cons (qs_if (qt_val (q_cb (isiX_ok T.ins T.exo T.kit) (call_isiX K rfl) rfl T.b_isinstance (by first | exact boot_b_isinstance | rfl) (qa_cons (q_var 0) (qa_cons (q_cls rfl T.g_NoHandle T.t_NoHandle) qa_nil)))) (qb_one (qs_ret q_str)) qb_nil)
   (qb_cons (qs_if (qt_val (q_cb (isiX_ok T.ins T.exo T.kit) (call_isiX K rfl) rfl T.b_isinstance (by first | exact boot_b_isinstance | rfl) (qa_cons (q_var 0) (qa_cons (q_cls rfl T.g_NoThing T.t_NoThing) qa_nil)))) (qb_one (qs_ret q_str)) qb_nil)
   (qb_cons (qs_if (qt_val (q_cb (isiX_ok T.ins T.exo T.kit) (call_isiX K rfl) rfl T.b_isinstance (by first | exact boot_b_isinstance | rfl) (qa_cons (q_var 0) (qa_cons (q_cls rfl T.g_NoRow T.t_NoRow) qa_nil)))) (qb_one (qs_ret q_str)) qb_nil)
   (qb_cons (qs_if (qt_val (q_cb (isiX_ok T.ins T.exo T.kit) (call_isiX K rfl) rfl T.b_isinstance (by first | exact boot_b_isinstance | rfl) (qa_cons (q_var 0) (qa_cons (q_cls rfl T.g_NoDeed T.t_NoDeed) qa_nil)))) (qb_one (qs_ret q_str)) qb_nil)
   (qb_one (qs_ret q_str)))))))))))))) selfX_told,fun h i fs ws hi=>?_⟩
 rcases hi with rfl | rfl | rfl | rfl | rfl | rfl | rfl | rfl | rfl | rfl
 ·have en:nm 3=Str.ofString "NoDeed":=rfl
  rw [en]
  have k7:Kit.get kitL (.inr (Str.ofString "NoDeed")) (.inr (Str.ofString "NoRights"))=some false:=kgA 3 7
  have k6:Kit.get kitL (.inr (Str.ofString "NoDeed")) (.inr (Str.ofString "NoName"))=some false:=kgA 3 6
  have k11:Kit.get kitL (.inr (Str.ofString "NoDeed")) (.inr (Str.ofString "NoValue"))=some false:=kgA 3 11
  have k12:Kit.get kitL (.inr (Str.ofString "NoDeed")) (.inr (Str.ofString "NoWords"))=some false:=kgA 3 12
  have k5:Kit.get kitL (.inr (Str.ofString "NoDeed")) (.inr (Str.ofString "NoKind"))=some false:=kgA 3 5
  have k9:Kit.get kitL (.inr (Str.ofString "NoDeed")) (.inr (Str.ofString "NoTask"))=some false:=kgA 3 9
  have k4:Kit.get kitL (.inr (Str.ofString "NoDeed")) (.inr (Str.ofString "NoHandle"))=some false:=kgA 3 4
  have k10:Kit.get kitL (.inr (Str.ofString "NoDeed")) (.inr (Str.ofString "NoThing"))=some false:=kgA 3 10
  have k8:Kit.get kitL (.inr (Str.ofString "NoDeed")) (.inr (Str.ofString "NoRow"))=some false:=kgA 3 8
  have k3:Kit.get kitL (.inr (Str.ofString "NoDeed")) (.inr (Str.ofString "NoDeed"))=some true:=kgA 3 3
  exact selfX_ok rfl (by simp_arith [k7,k6,k11,k12,k5,k9,k4,k10,k8,k3]) (Nat.le_refl _)
 ·have en:nm 4=Str.ofString "NoHandle":=rfl
  rw [en]
  have k7:Kit.get kitL (.inr (Str.ofString "NoHandle")) (.inr (Str.ofString "NoRights"))=some false:=kgA 4 7
  have k6:Kit.get kitL (.inr (Str.ofString "NoHandle")) (.inr (Str.ofString "NoName"))=some false:=kgA 4 6
  have k11:Kit.get kitL (.inr (Str.ofString "NoHandle")) (.inr (Str.ofString "NoValue"))=some false:=kgA 4 11
  have k12:Kit.get kitL (.inr (Str.ofString "NoHandle")) (.inr (Str.ofString "NoWords"))=some false:=kgA 4 12
  have k5:Kit.get kitL (.inr (Str.ofString "NoHandle")) (.inr (Str.ofString "NoKind"))=some false:=kgA 4 5
  have k9:Kit.get kitL (.inr (Str.ofString "NoHandle")) (.inr (Str.ofString "NoTask"))=some false:=kgA 4 9
  have k4:Kit.get kitL (.inr (Str.ofString "NoHandle")) (.inr (Str.ofString "NoHandle"))=some true:=kgA 4 4
  exact selfX_ok rfl (by simp_arith [k7,k6,k11,k12,k5,k9,k4]) (Nat.le_refl _)
 ·have en:nm 5=Str.ofString "NoKind":=rfl
  rw [en]
  have k7:Kit.get kitL (.inr (Str.ofString "NoKind")) (.inr (Str.ofString "NoRights"))=some false:=kgA 5 7
  have k6:Kit.get kitL (.inr (Str.ofString "NoKind")) (.inr (Str.ofString "NoName"))=some false:=kgA 5 6
  have k11:Kit.get kitL (.inr (Str.ofString "NoKind")) (.inr (Str.ofString "NoValue"))=some false:=kgA 5 11
  have k12:Kit.get kitL (.inr (Str.ofString "NoKind")) (.inr (Str.ofString "NoWords"))=some false:=kgA 5 12
  have k5:Kit.get kitL (.inr (Str.ofString "NoKind")) (.inr (Str.ofString "NoKind"))=some true:=kgA 5 5
  exact selfX_ok rfl (by simp_arith [k7,k6,k11,k12,k5]) (Nat.le_refl _)
 ·have en:nm 6=Str.ofString "NoName":=rfl
  rw [en]
  have k7:Kit.get kitL (.inr (Str.ofString "NoName")) (.inr (Str.ofString "NoRights"))=some false:=kgA 6 7
  have k6:Kit.get kitL (.inr (Str.ofString "NoName")) (.inr (Str.ofString "NoName"))=some true:=kgA 6 6
  exact selfX_ok rfl (by simp_arith [k7,k6]) (Nat.le_refl _)
 ·have en:nm 7=Str.ofString "NoRights":=rfl
  rw [en]
  have k7:Kit.get kitL (.inr (Str.ofString "NoRights")) (.inr (Str.ofString "NoRights"))=some true:=kgA 7 7
  exact selfX_ok rfl (by simp_arith [k7]) (Nat.le_refl _)
 ·have en:nm 8=Str.ofString "NoRow":=rfl
  rw [en]
  have k7:Kit.get kitL (.inr (Str.ofString "NoRow")) (.inr (Str.ofString "NoRights"))=some false:=kgA 8 7
  have k6:Kit.get kitL (.inr (Str.ofString "NoRow")) (.inr (Str.ofString "NoName"))=some false:=kgA 8 6
  have k11:Kit.get kitL (.inr (Str.ofString "NoRow")) (.inr (Str.ofString "NoValue"))=some false:=kgA 8 11
  have k12:Kit.get kitL (.inr (Str.ofString "NoRow")) (.inr (Str.ofString "NoWords"))=some false:=kgA 8 12
  have k5:Kit.get kitL (.inr (Str.ofString "NoRow")) (.inr (Str.ofString "NoKind"))=some false:=kgA 8 5
  have k9:Kit.get kitL (.inr (Str.ofString "NoRow")) (.inr (Str.ofString "NoTask"))=some false:=kgA 8 9
  have k4:Kit.get kitL (.inr (Str.ofString "NoRow")) (.inr (Str.ofString "NoHandle"))=some false:=kgA 8 4
  have k10:Kit.get kitL (.inr (Str.ofString "NoRow")) (.inr (Str.ofString "NoThing"))=some false:=kgA 8 10
  have k8:Kit.get kitL (.inr (Str.ofString "NoRow")) (.inr (Str.ofString "NoRow"))=some true:=kgA 8 8
  exact selfX_ok rfl (by simp_arith [k7,k6,k11,k12,k5,k9,k4,k10,k8]) (Nat.le_refl _)
 ·have en:nm 9=Str.ofString "NoTask":=rfl
  rw [en]
  have k7:Kit.get kitL (.inr (Str.ofString "NoTask")) (.inr (Str.ofString "NoRights"))=some false:=kgA 9 7
  have k6:Kit.get kitL (.inr (Str.ofString "NoTask")) (.inr (Str.ofString "NoName"))=some false:=kgA 9 6
  have k11:Kit.get kitL (.inr (Str.ofString "NoTask")) (.inr (Str.ofString "NoValue"))=some false:=kgA 9 11
  have k12:Kit.get kitL (.inr (Str.ofString "NoTask")) (.inr (Str.ofString "NoWords"))=some false:=kgA 9 12
  have k5:Kit.get kitL (.inr (Str.ofString "NoTask")) (.inr (Str.ofString "NoKind"))=some false:=kgA 9 5
  have k9:Kit.get kitL (.inr (Str.ofString "NoTask")) (.inr (Str.ofString "NoTask"))=some true:=kgA 9 9
  exact selfX_ok rfl (by simp_arith [k7,k6,k11,k12,k5,k9]) (Nat.le_refl _)
 ·have en:nm 10=Str.ofString "NoThing":=rfl
  rw [en]
  have k7:Kit.get kitL (.inr (Str.ofString "NoThing")) (.inr (Str.ofString "NoRights"))=some false:=kgA 10 7
  have k6:Kit.get kitL (.inr (Str.ofString "NoThing")) (.inr (Str.ofString "NoName"))=some false:=kgA 10 6
  have k11:Kit.get kitL (.inr (Str.ofString "NoThing")) (.inr (Str.ofString "NoValue"))=some false:=kgA 10 11
  have k12:Kit.get kitL (.inr (Str.ofString "NoThing")) (.inr (Str.ofString "NoWords"))=some false:=kgA 10 12
  have k5:Kit.get kitL (.inr (Str.ofString "NoThing")) (.inr (Str.ofString "NoKind"))=some false:=kgA 10 5
  have k9:Kit.get kitL (.inr (Str.ofString "NoThing")) (.inr (Str.ofString "NoTask"))=some false:=kgA 10 9
  have k4:Kit.get kitL (.inr (Str.ofString "NoThing")) (.inr (Str.ofString "NoHandle"))=some false:=kgA 10 4
  have k10:Kit.get kitL (.inr (Str.ofString "NoThing")) (.inr (Str.ofString "NoThing"))=some true:=kgA 10 10
  exact selfX_ok rfl (by simp_arith [k7,k6,k11,k12,k5,k9,k4,k10]) (Nat.le_refl _)
 ·have en:nm 11=Str.ofString "NoValue":=rfl
  rw [en]
  have k7:Kit.get kitL (.inr (Str.ofString "NoValue")) (.inr (Str.ofString "NoRights"))=some false:=kgA 11 7
  have k6:Kit.get kitL (.inr (Str.ofString "NoValue")) (.inr (Str.ofString "NoName"))=some false:=kgA 11 6
  have k11:Kit.get kitL (.inr (Str.ofString "NoValue")) (.inr (Str.ofString "NoValue"))=some true:=kgA 11 11
  exact selfX_ok rfl (by simp_arith [k7,k6,k11]) (Nat.le_refl _)
 ·have en:nm 12=Str.ofString "NoWords":=rfl
  rw [en]
  have k7:Kit.get kitL (.inr (Str.ofString "NoWords")) (.inr (Str.ofString "NoRights"))=some false:=kgA 12 7
  have k6:Kit.get kitL (.inr (Str.ofString "NoWords")) (.inr (Str.ofString "NoName"))=some false:=kgA 12 6
  have k11:Kit.get kitL (.inr (Str.ofString "NoWords")) (.inr (Str.ofString "NoValue"))=some false:=kgA 12 11
  have k12:Kit.get kitL (.inr (Str.ofString "NoWords")) (.inr (Str.ofString "NoWords"))=some true:=kgA 12 12
  exact selfX_ok rfl (by simp_arith [k7,k6,k11,k12]) (Nat.le_refl _)
def S_rw (F:Fm):Prop:=(∀ (h:Mem) (i:Fin 16) (fs:List Str) (ws:List W),i≠2→F [.exc (nm i) fs ws] h=.ok (.str (nm i)) h)∧∀ (h:Mem) (r:Int),(wo r).length≤100→F [.exc "Lacks" ["missing"] [.int r]] h=.ok (.str (Str.ofString "Lacks "++wo r)) h
theorem ok_rw (T:Tx K mg C){Fn Fw:Fm}(hn:S_none Fn)(hw:S_wo Fw)(G_words_of:FnAt P w K mg base (CXe false P w) 3 "words_of" (spH (T0 C) Fw))(G_word_of_what_is_none:FnAt P w K mg base (CXe false P w) 1 "word_of_what_is_none" (spH (T0 C) Fn))(R:DefAt K mg "refusal_word" s_refusal_word):∃ F,FnAt P w K mg base (CXe false P w) 4 "refusal_word" (spH (T0 C) F)∧S_rw F:=by
 refine ⟨_,(defX R sc_refusal_word bd_refusal_word (hB:=fun f cdv A outer s H E φ0 hr hx=>(qb_cons (qs_if (qt_val (q_cb (isiX_ok T.ins T.exo T.kit) (call_isiX K rfl) rfl T.b_isinstance (by first | exact boot_b_isinstance | rfl) (qa_cons (q_var 0) (qa_cons (q_cls rfl T.g_Lacks T.t_Lacks) qa_nil)))) (qb_one (qs_ret (q_bin op_addV addM_ok q_str (q_fnX G_words_of hx hr (by decide) rfl (qa_cons (q_xfld (q_var 0) T.fx_missing) qa_nil))))) qb_nil)
   (qb_cons (qs_if (qt_val (q_cb (isiX_ok T.ins T.exo T.kit) (call_isiX K rfl) rfl T.b_isinstance (by first | exact boot_b_isinstance | rfl) (qa_cons (q_var 0) (qa_cons (q_cls rfl T.g_Taken T.t_Taken) qa_nil)))) (qb_one (qs_ret q_str)) qb_nil)
   (qb_cons (qs_if (qt_val (q_cb (isiX_ok T.ins T.exo T.kit) (call_isiX K rfl) rfl T.b_isinstance (by first | exact boot_b_isinstance | rfl) (qa_cons (q_var 0) (qa_cons (q_cls rfl T.g_TooMany T.t_TooMany) qa_nil)))) (qb_one (qs_ret q_str)) qb_nil)
   (qb_cons (qs_if (qt_val (q_cb (isiX_ok T.ins T.exo T.kit) (call_isiX K rfl) rfl T.b_isinstance (by first | exact boot_b_isinstance | rfl) (qa_cons (q_var 0) (qa_cons (q_cls rfl T.g_TooGreat T.t_TooGreat) qa_nil)))) (qb_one (qs_ret q_str)) qb_nil)
   (qb_cons (qs_if (qt_val (q_cb (isiX_ok T.ins T.exo T.kit) (call_isiX K rfl) rfl T.b_isinstance (by first | exact boot_b_isinstance | rfl) (qa_cons (q_var 0) (qa_cons (q_cls rfl T.g_Empty T.t_Empty) qa_nil)))) (qb_one (qs_ret q_str)) qb_nil)
   (qb_cons (qs_if (qt_val (q_cb (isiX_ok T.ins T.exo T.kit) (call_isiX K rfl) rfl T.b_isinstance (by first | exact boot_b_isinstance | rfl) (qa_cons (q_var 0) (qa_cons (q_cls rfl T.g_Full T.t_Full) qa_nil)))) (qb_one (qs_ret q_str)) qb_nil)
   (qb_one (qs_ret (q_fnX G_word_of_what_is_none hx hr (by decide) rfl (qa_cons (q_var 0) qa_nil)))))))))))) selfX_told,fun h i fs ws hi=>?_,fun h r hr=>?_⟩
 ·match i,hi with
  | ⟨0,q⟩,_=>
   have en:nm 0=Str.ofString "Empty":=rfl
   have eq:(⟨0,q⟩:Fin 16)=0:=rfl
   rw [eq,en]
   have k2:Kit.get kitL (.inr (Str.ofString "Empty")) (.inr (Str.ofString "Lacks"))=some false:=kgA 0 2
   have k13:Kit.get kitL (.inr (Str.ofString "Empty")) (.inr (Str.ofString "Taken"))=some false:=kgA 0 13
   have k15:Kit.get kitL (.inr (Str.ofString "Empty")) (.inr (Str.ofString "TooMany"))=some false:=kgA 0 15
   have k14:Kit.get kitL (.inr (Str.ofString "Empty")) (.inr (Str.ofString "TooGreat"))=some false:=kgA 0 14
   have k0:Kit.get kitL (.inr (Str.ofString "Empty")) (.inr (Str.ofString "Empty"))=some true:=kgA 0 0
   exact selfX_ok rfl (by simp_arith [k2,k13,k15,k14,k0]) (Nat.le_refl _)
  | ⟨1,q⟩,_=>
   have en:nm 1=Str.ofString "Full":=rfl
   have eq:(⟨1,q⟩:Fin 16)=1:=rfl
   rw [eq,en]
   have k2:Kit.get kitL (.inr (Str.ofString "Full")) (.inr (Str.ofString "Lacks"))=some false:=kgA 1 2
   have k13:Kit.get kitL (.inr (Str.ofString "Full")) (.inr (Str.ofString "Taken"))=some false:=kgA 1 13
   have k15:Kit.get kitL (.inr (Str.ofString "Full")) (.inr (Str.ofString "TooMany"))=some false:=kgA 1 15
   have k14:Kit.get kitL (.inr (Str.ofString "Full")) (.inr (Str.ofString "TooGreat"))=some false:=kgA 1 14
   have k0:Kit.get kitL (.inr (Str.ofString "Full")) (.inr (Str.ofString "Empty"))=some false:=kgA 1 0
   have k1:Kit.get kitL (.inr (Str.ofString "Full")) (.inr (Str.ofString "Full"))=some true:=kgA 1 1
   exact selfX_ok rfl (by simp_arith [k2,k13,k15,k14,k0,k1]) (Nat.le_refl _)
  | ⟨2,_⟩,hi=>exact absurd rfl hi
  | ⟨3,q⟩,_=>
   have en:nm 3=Str.ofString "NoDeed":=rfl
   have eq:(⟨3,q⟩:Fin 16)=3:=rfl
   rw [eq,en]
   have e:=hn h 3 fs ws (by simp)
   rw [en] at e
   have k2:Kit.get kitL (.inr (Str.ofString "NoDeed")) (.inr (Str.ofString "Lacks"))=some false:=kgA 3 2
   have k13:Kit.get kitL (.inr (Str.ofString "NoDeed")) (.inr (Str.ofString "Taken"))=some false:=kgA 3 13
   have k15:Kit.get kitL (.inr (Str.ofString "NoDeed")) (.inr (Str.ofString "TooMany"))=some false:=kgA 3 15
   have k14:Kit.get kitL (.inr (Str.ofString "NoDeed")) (.inr (Str.ofString "TooGreat"))=some false:=kgA 3 14
   have k0:Kit.get kitL (.inr (Str.ofString "NoDeed")) (.inr (Str.ofString "Empty"))=some false:=kgA 3 0
   have k1:Kit.get kitL (.inr (Str.ofString "NoDeed")) (.inr (Str.ofString "Full"))=some false:=kgA 3 1
   exact selfX_ok rfl (by simp_arith [k2,k13,k15,k14,k0,k1,e]) (Nat.le_refl _)
  | ⟨4,q⟩,_=>
   have en:nm 4=Str.ofString "NoHandle":=rfl
   have eq:(⟨4,q⟩:Fin 16)=4:=rfl
   rw [eq,en]
   have e:=hn h 4 fs ws (by simp)
   rw [en] at e
   have k2:Kit.get kitL (.inr (Str.ofString "NoHandle")) (.inr (Str.ofString "Lacks"))=some false:=kgA 4 2
   have k13:Kit.get kitL (.inr (Str.ofString "NoHandle")) (.inr (Str.ofString "Taken"))=some false:=kgA 4 13
   have k15:Kit.get kitL (.inr (Str.ofString "NoHandle")) (.inr (Str.ofString "TooMany"))=some false:=kgA 4 15
   have k14:Kit.get kitL (.inr (Str.ofString "NoHandle")) (.inr (Str.ofString "TooGreat"))=some false:=kgA 4 14
   have k0:Kit.get kitL (.inr (Str.ofString "NoHandle")) (.inr (Str.ofString "Empty"))=some false:=kgA 4 0
   have k1:Kit.get kitL (.inr (Str.ofString "NoHandle")) (.inr (Str.ofString "Full"))=some false:=kgA 4 1
   exact selfX_ok rfl (by simp_arith [k2,k13,k15,k14,k0,k1,e]) (Nat.le_refl _)
  | ⟨5,q⟩,_=>
   have en:nm 5=Str.ofString "NoKind":=rfl
   have eq:(⟨5,q⟩:Fin 16)=5:=rfl
   rw [eq,en]
   have e:=hn h 5 fs ws (by simp)
   rw [en] at e
   have k2:Kit.get kitL (.inr (Str.ofString "NoKind")) (.inr (Str.ofString "Lacks"))=some false:=kgA 5 2
   have k13:Kit.get kitL (.inr (Str.ofString "NoKind")) (.inr (Str.ofString "Taken"))=some false:=kgA 5 13
   have k15:Kit.get kitL (.inr (Str.ofString "NoKind")) (.inr (Str.ofString "TooMany"))=some false:=kgA 5 15
   have k14:Kit.get kitL (.inr (Str.ofString "NoKind")) (.inr (Str.ofString "TooGreat"))=some false:=kgA 5 14
   have k0:Kit.get kitL (.inr (Str.ofString "NoKind")) (.inr (Str.ofString "Empty"))=some false:=kgA 5 0
   have k1:Kit.get kitL (.inr (Str.ofString "NoKind")) (.inr (Str.ofString "Full"))=some false:=kgA 5 1
   exact selfX_ok rfl (by simp_arith [k2,k13,k15,k14,k0,k1,e]) (Nat.le_refl _)
  | ⟨6,q⟩,_=>
   have en:nm 6=Str.ofString "NoName":=rfl
   have eq:(⟨6,q⟩:Fin 16)=6:=rfl
   rw [eq,en]
   have e:=hn h 6 fs ws (by simp)
   rw [en] at e
   have k2:Kit.get kitL (.inr (Str.ofString "NoName")) (.inr (Str.ofString "Lacks"))=some false:=kgA 6 2
   have k13:Kit.get kitL (.inr (Str.ofString "NoName")) (.inr (Str.ofString "Taken"))=some false:=kgA 6 13
   have k15:Kit.get kitL (.inr (Str.ofString "NoName")) (.inr (Str.ofString "TooMany"))=some false:=kgA 6 15
   have k14:Kit.get kitL (.inr (Str.ofString "NoName")) (.inr (Str.ofString "TooGreat"))=some false:=kgA 6 14
   have k0:Kit.get kitL (.inr (Str.ofString "NoName")) (.inr (Str.ofString "Empty"))=some false:=kgA 6 0
   have k1:Kit.get kitL (.inr (Str.ofString "NoName")) (.inr (Str.ofString "Full"))=some false:=kgA 6 1
   exact selfX_ok rfl (by simp_arith [k2,k13,k15,k14,k0,k1,e]) (Nat.le_refl _)
  | ⟨7,q⟩,_=>
   have en:nm 7=Str.ofString "NoRights":=rfl
   have eq:(⟨7,q⟩:Fin 16)=7:=rfl
   rw [eq,en]
   have e:=hn h 7 fs ws (by simp)
   rw [en] at e
   have k2:Kit.get kitL (.inr (Str.ofString "NoRights")) (.inr (Str.ofString "Lacks"))=some false:=kgA 7 2
   have k13:Kit.get kitL (.inr (Str.ofString "NoRights")) (.inr (Str.ofString "Taken"))=some false:=kgA 7 13
   have k15:Kit.get kitL (.inr (Str.ofString "NoRights")) (.inr (Str.ofString "TooMany"))=some false:=kgA 7 15
   have k14:Kit.get kitL (.inr (Str.ofString "NoRights")) (.inr (Str.ofString "TooGreat"))=some false:=kgA 7 14
   have k0:Kit.get kitL (.inr (Str.ofString "NoRights")) (.inr (Str.ofString "Empty"))=some false:=kgA 7 0
   have k1:Kit.get kitL (.inr (Str.ofString "NoRights")) (.inr (Str.ofString "Full"))=some false:=kgA 7 1
   exact selfX_ok rfl (by simp_arith [k2,k13,k15,k14,k0,k1,e]) (Nat.le_refl _)
  | ⟨8,q⟩,_=>
   have en:nm 8=Str.ofString "NoRow":=rfl
   have eq:(⟨8,q⟩:Fin 16)=8:=rfl
   rw [eq,en]
   have e:=hn h 8 fs ws (by simp)
   rw [en] at e
   have k2:Kit.get kitL (.inr (Str.ofString "NoRow")) (.inr (Str.ofString "Lacks"))=some false:=kgA 8 2
   have k13:Kit.get kitL (.inr (Str.ofString "NoRow")) (.inr (Str.ofString "Taken"))=some false:=kgA 8 13
   have k15:Kit.get kitL (.inr (Str.ofString "NoRow")) (.inr (Str.ofString "TooMany"))=some false:=kgA 8 15
   have k14:Kit.get kitL (.inr (Str.ofString "NoRow")) (.inr (Str.ofString "TooGreat"))=some false:=kgA 8 14
   have k0:Kit.get kitL (.inr (Str.ofString "NoRow")) (.inr (Str.ofString "Empty"))=some false:=kgA 8 0
   have k1:Kit.get kitL (.inr (Str.ofString "NoRow")) (.inr (Str.ofString "Full"))=some false:=kgA 8 1
   exact selfX_ok rfl (by simp_arith [k2,k13,k15,k14,k0,k1,e]) (Nat.le_refl _)
  | ⟨9,q⟩,_=>
   have en:nm 9=Str.ofString "NoTask":=rfl
   have eq:(⟨9,q⟩:Fin 16)=9:=rfl
   rw [eq,en]
   have e:=hn h 9 fs ws (by simp)
   rw [en] at e
   have k2:Kit.get kitL (.inr (Str.ofString "NoTask")) (.inr (Str.ofString "Lacks"))=some false:=kgA 9 2
   have k13:Kit.get kitL (.inr (Str.ofString "NoTask")) (.inr (Str.ofString "Taken"))=some false:=kgA 9 13
   have k15:Kit.get kitL (.inr (Str.ofString "NoTask")) (.inr (Str.ofString "TooMany"))=some false:=kgA 9 15
   have k14:Kit.get kitL (.inr (Str.ofString "NoTask")) (.inr (Str.ofString "TooGreat"))=some false:=kgA 9 14
   have k0:Kit.get kitL (.inr (Str.ofString "NoTask")) (.inr (Str.ofString "Empty"))=some false:=kgA 9 0
   have k1:Kit.get kitL (.inr (Str.ofString "NoTask")) (.inr (Str.ofString "Full"))=some false:=kgA 9 1
   exact selfX_ok rfl (by simp_arith [k2,k13,k15,k14,k0,k1,e]) (Nat.le_refl _)
  | ⟨10,q⟩,_=>
   have en:nm 10=Str.ofString "NoThing":=rfl
   have eq:(⟨10,q⟩:Fin 16)=10:=rfl
   rw [eq,en]
   have e:=hn h 10 fs ws (by simp)
   rw [en] at e
   have k2:Kit.get kitL (.inr (Str.ofString "NoThing")) (.inr (Str.ofString "Lacks"))=some false:=kgA 10 2
   have k13:Kit.get kitL (.inr (Str.ofString "NoThing")) (.inr (Str.ofString "Taken"))=some false:=kgA 10 13
   have k15:Kit.get kitL (.inr (Str.ofString "NoThing")) (.inr (Str.ofString "TooMany"))=some false:=kgA 10 15
   have k14:Kit.get kitL (.inr (Str.ofString "NoThing")) (.inr (Str.ofString "TooGreat"))=some false:=kgA 10 14
   have k0:Kit.get kitL (.inr (Str.ofString "NoThing")) (.inr (Str.ofString "Empty"))=some false:=kgA 10 0
   have k1:Kit.get kitL (.inr (Str.ofString "NoThing")) (.inr (Str.ofString "Full"))=some false:=kgA 10 1
   exact selfX_ok rfl (by simp_arith [k2,k13,k15,k14,k0,k1,e]) (Nat.le_refl _)
  | ⟨11,q⟩,_=>
   have en:nm 11=Str.ofString "NoValue":=rfl
   have eq:(⟨11,q⟩:Fin 16)=11:=rfl
   rw [eq,en]
   have e:=hn h 11 fs ws (by simp)
   rw [en] at e
   have k2:Kit.get kitL (.inr (Str.ofString "NoValue")) (.inr (Str.ofString "Lacks"))=some false:=kgA 11 2
   have k13:Kit.get kitL (.inr (Str.ofString "NoValue")) (.inr (Str.ofString "Taken"))=some false:=kgA 11 13
   have k15:Kit.get kitL (.inr (Str.ofString "NoValue")) (.inr (Str.ofString "TooMany"))=some false:=kgA 11 15
   have k14:Kit.get kitL (.inr (Str.ofString "NoValue")) (.inr (Str.ofString "TooGreat"))=some false:=kgA 11 14
   have k0:Kit.get kitL (.inr (Str.ofString "NoValue")) (.inr (Str.ofString "Empty"))=some false:=kgA 11 0
   have k1:Kit.get kitL (.inr (Str.ofString "NoValue")) (.inr (Str.ofString "Full"))=some false:=kgA 11 1
   exact selfX_ok rfl (by simp_arith [k2,k13,k15,k14,k0,k1,e]) (Nat.le_refl _)
  | ⟨12,q⟩,_=>
   have en:nm 12=Str.ofString "NoWords":=rfl
   have eq:(⟨12,q⟩:Fin 16)=12:=rfl
   rw [eq,en]
   have e:=hn h 12 fs ws (by simp)
   rw [en] at e
   have k2:Kit.get kitL (.inr (Str.ofString "NoWords")) (.inr (Str.ofString "Lacks"))=some false:=kgA 12 2
   have k13:Kit.get kitL (.inr (Str.ofString "NoWords")) (.inr (Str.ofString "Taken"))=some false:=kgA 12 13
   have k15:Kit.get kitL (.inr (Str.ofString "NoWords")) (.inr (Str.ofString "TooMany"))=some false:=kgA 12 15
   have k14:Kit.get kitL (.inr (Str.ofString "NoWords")) (.inr (Str.ofString "TooGreat"))=some false:=kgA 12 14
   have k0:Kit.get kitL (.inr (Str.ofString "NoWords")) (.inr (Str.ofString "Empty"))=some false:=kgA 12 0
   have k1:Kit.get kitL (.inr (Str.ofString "NoWords")) (.inr (Str.ofString "Full"))=some false:=kgA 12 1
   exact selfX_ok rfl (by simp_arith [k2,k13,k15,k14,k0,k1,e]) (Nat.le_refl _)
  | ⟨13,q⟩,_=>
   have en:nm 13=Str.ofString "Taken":=rfl
   have eq:(⟨13,q⟩:Fin 16)=13:=rfl
   rw [eq,en]
   have k2:Kit.get kitL (.inr (Str.ofString "Taken")) (.inr (Str.ofString "Lacks"))=some false:=kgA 13 2
   have k13:Kit.get kitL (.inr (Str.ofString "Taken")) (.inr (Str.ofString "Taken"))=some true:=kgA 13 13
   exact selfX_ok rfl (by simp_arith [k2,k13]) (Nat.le_refl _)
  | ⟨14,q⟩,_=>
   have en:nm 14=Str.ofString "TooGreat":=rfl
   have eq:(⟨14,q⟩:Fin 16)=14:=rfl
   rw [eq,en]
   have k2:Kit.get kitL (.inr (Str.ofString "TooGreat")) (.inr (Str.ofString "Lacks"))=some false:=kgA 14 2
   have k13:Kit.get kitL (.inr (Str.ofString "TooGreat")) (.inr (Str.ofString "Taken"))=some false:=kgA 14 13
   have k15:Kit.get kitL (.inr (Str.ofString "TooGreat")) (.inr (Str.ofString "TooMany"))=some false:=kgA 14 15
   have k14:Kit.get kitL (.inr (Str.ofString "TooGreat")) (.inr (Str.ofString "TooGreat"))=some true:=kgA 14 14
   exact selfX_ok rfl (by simp_arith [k2,k13,k15,k14]) (Nat.le_refl _)
  | ⟨15,q⟩,_=>
   have en:nm 15=Str.ofString "TooMany":=rfl
   have eq:(⟨15,q⟩:Fin 16)=15:=rfl
   rw [eq,en]
   have k2:Kit.get kitL (.inr (Str.ofString "TooMany")) (.inr (Str.ofString "Lacks"))=some false:=kgA 15 2
   have k13:Kit.get kitL (.inr (Str.ofString "TooMany")) (.inr (Str.ofString "Taken"))=some false:=kgA 15 13
   have k15:Kit.get kitL (.inr (Str.ofString "TooMany")) (.inr (Str.ofString "TooMany"))=some true:=kgA 15 15
   exact selfX_ok rfl (by simp_arith [k2,k13,k15]) (Nat.le_refl _)
  | ⟨n+16,hn⟩,_=>exact absurd hn (by omega)
 ·have k2:Kit.get kitL (.inr (Str.ofString "Lacks")) (.inr (Str.ofString "Lacks"))=some true:=kgA 2 2
  have hs:(Str.ofString "Lacks ").length+(wo r).length≤sizeLine:=by
   have:(Str.ofString "Lacks ").length=6:=by decide +kernel
   rw [this,sizeLine_eq]; omega
  refine selfX_ok rfl ?_ (Nat.le_refl _)
  rw [sizeLine_eq] at hs
  have ew:=hw h r
  generalize wo r=zw at hs ew ⊢
  simp_arith [k2,hs,lkM,ew]
def S_due (F:Fm):Prop:=∀ (h:Mem) (i:Fin 16) (r:Int),0≤r→r<64→F [.int (i.val:Int),.int r] h=.ok (.str (due i r)) h
theorem ok_due (T:Tx K mg C)(R:DefAt K mg "_law_due" s_l_due):∃ F,FnAt P w K mg base CX0 1 "_law_due" (spH (T0 C) F)∧S_due F:=by
 refine ⟨_,(def0s R sc_l_due bd_l_due (hB:=fun f cdv A outer s H E φ0 H0 hr=>(qb_cons (qs_if (qt_cmp (op_eqF hr) eqO_ok (q_var 0) q_int (nomark _)) (qb_cons (qs_set (i:=2) sc_l_due.nd rfl (Or.inr rfl) (fun _ _ _=>trivial) (q_lst (qa_cons q_str (qa_cons q_str (qa_cons q_str (qa_cons q_str (qa_cons q_str (qa_cons q_str qa_nil))))))))
   (qb_cons (qs_setc (osc:=defScope s_l_due) (N:=["_law_k","_law_rights","_law_some","_law_words"]) (own:=["_law_j"]) (fr:=["_law_rights","_law_some"]) (ix:=[1,2]) (i:=3) sc_l_due.nd rfl rfl (fun _ _ _=>trivial) rfl rfl rfl (by decide +kernel) (qi_range1 rfl T.b_range q_int) (fun _=>(tg_name (zb_set (by decide)))) (fun _ _ _ _ _=>(qg_cn 0 (by decide +kernel) rfl (by decide +kernel) rfl)) (fun _ _ _ _ _ _=>(qc_one (qt_cmp (op_eqF hr) eqO_ok (q_bin op_mod modM_ok (q_bin op_fdiv divM_ok (q_var 1) (q_ix ix_any ixM_ok (q_lst (qa_cons q_int (qa_cons q_int (qa_cons q_int (qa_cons q_int (qa_cons q_int (qa_cons q_int qa_nil))))))) (q_var 0) (fun _ _=>rfl))) q_int) q_int (nomark _)))) (fun _ _ _ _ _ _=>(q_ix ix_any ixM_ok (q_var 2) (q_var 0) (fun _ _=>rfl))))
   (qb_one (qs_ret (q_join q_str (qa_cons (q_bin op_addV addM_ok (q_lst (qa_cons q_str qa_nil)) (q_orL (q_var 3) (q_one (q_lst (qa_cons q_str qa_nil))))) qa_nil)))))) qb_nil)
   (qb_cons (qs_set (i:=2) sc_l_due.nd rfl (Or.inr rfl) (fun _ _ _=>trivial) (q_lst (qa_cons q_str (qa_cons q_str (qa_cons q_str (qa_cons q_str (qa_cons q_str (qa_cons q_str (qa_cons q_str (qa_cons q_str (qa_cons q_str (qa_cons q_str qa_nil))))))))))))
   (qb_cons (qs_set (i:=2) sc_l_due.nd rfl (Or.inr rfl) (fun _ _ _=>trivial) (q_bin op_addV addM_ok (q_var 2) (q_lst (qa_cons q_str (qa_cons q_str (qa_cons q_str (qa_cons q_str (qa_cons q_str (qa_cons q_str qa_nil)))))))))
   (qb_one (qs_ret (q_ix ix_any ixM_ok (q_var 2) (q_var 0) (fun _ _=>rfl))))))))),fun h i r h0 h1=>?_⟩
 by_cases hi:i=2
 ·subst hi
  refine selfF_ok rfl ?_ (Nat.le_refl _)
  generalize hC:xComp _ _ _ _ _ _=C
  have ec:C [some (.int 2),some (.int r),some (.tl [.str "look",.str "put",.str "send",.str "hear",.str "end",.str "pass"]),none] h=.ok (.tl ((dl r).map W.str)) h:=by
   rw [← hC]
   refine Eq.trans (xComp_fil (h1:=h) (s:=none) (fun n:Nat=>W.int (0+(n:Int))) (fun n:Nat=>W.str (wd n)) (fun n=>decide (r / pw n % 2=1)) (List.range 6) (by simp! [rngW]) (by decide) (fun n hn acc=>by
    have hn:=List.mem_range.mp hn
    have hc:n=0∨n=1∨n=2∨n=3∨n=4∨n=5:=by omega
    refine ⟨_,rfl,⟨h++[.lst acc],?_⟩,fun _=>⟨⟨h++[.lst acc],?_⟩,rfl⟩⟩
    ·rcases hc with rfl | rfl | rfl | rfl | rfl | rfl <;> simp! [pw,atI,ixN]
    ·rcases hc with rfl | rfl | rfl | rfl | rfl | rfl <;> simp! [wd,atI,ixN])) ?_
   simp [dl]
  obtain ⟨x,rfl⟩:=Int.eq_ofNat_of_zero_le h0
  obtain ⟨_,_,d3,d4⟩:=d1 ⟨x,by omega⟩
  have hj:JoinOk BL ("Lacks"::dl1 (x:Int))=true:=joinOk_of (Nat.le_trans d4 (by rw [sizeLine_eq]; decide))
  rw [blank]
  have e2:due 2 (x:Int)=Txt.join BL ("Lacks"::dl1 (x:Int)):=rfl
  rw [e2]
  unfold dl1 at hj d3 ⊢
  show _=_
  cases q:dl (x:Int) with
  | nil=>rw [q] at ec hj d3; simp at hj; simp! [ec,hj,sizeLine_eq,strW,xOrL,truM]
  | cons a l=>
   rw [q] at ec hj d3
   have hs:1+(l.length+1)≤16777216:=by
    simp at d3
    omega
   have e3:strW (.str (Str.ofString "Lacks")::.str a::l.map W.str)=some (Str.ofString "Lacks"::a::l):=strW_map (Str.ofString "Lacks"::a::l)
   simp at hj
   simp! [ec,hj,hs,strW_map l,xOrL,truM]
 ·refine selfF_ok rfl ?_ (Nat.le_refl _)
  match i,hi with
  | ⟨0,_⟩,_=>simp! [due,nm,names,atI,ixN,sizeLine_eq]
  | ⟨1,_⟩,_=>simp! [due,nm,names,atI,ixN,sizeLine_eq]
  | ⟨2,_⟩,hi=>exact absurd rfl hi
  | ⟨3,_⟩,_=>simp! [due,nm,names,atI,ixN,sizeLine_eq]
  | ⟨4,_⟩,_=>simp! [due,nm,names,atI,ixN,sizeLine_eq]
  | ⟨5,_⟩,_=>simp! [due,nm,names,atI,ixN,sizeLine_eq]
  | ⟨6,_⟩,_=>simp! [due,nm,names,atI,ixN,sizeLine_eq]
  | ⟨7,_⟩,_=>simp! [due,nm,names,atI,ixN,sizeLine_eq]
  | ⟨8,_⟩,_=>simp! [due,nm,names,atI,ixN,sizeLine_eq]
  | ⟨9,_⟩,_=>simp! [due,nm,names,atI,ixN,sizeLine_eq]
  | ⟨10,_⟩,_=>simp! [due,nm,names,atI,ixN,sizeLine_eq]
  | ⟨11,_⟩,_=>simp! [due,nm,names,atI,ixN,sizeLine_eq]
  | ⟨12,_⟩,_=>simp! [due,nm,names,atI,ixN,sizeLine_eq]
  | ⟨13,_⟩,_=>simp! [due,nm,names,atI,ixN,sizeLine_eq]
  | ⟨14,_⟩,_=>simp! [due,nm,names,atI,ixN,sizeLine_eq]
  | ⟨15,_⟩,_=>simp! [due,nm,names,atI,ixN,sizeLine_eq]
  | ⟨n+16,hn⟩,_=>exact absurd hn (by omega)
def S_told (F:Fm):Prop:=∀ (h:Mem) (i:Fin 16) (r:Int),0≤r→r<64→F [.int (i.val:Int),.int r] h=.ok (.tl [.str (due i r),.str (due i r)]) h
theorem ok_told (T:Tx K mg C){F1 F2 Fr:Fm}(h1:S_first F1)(h2:S_second F2)(hr0:S_rw Fr)(G_l_first:FnAt P w K mg base (CXe true P w) 3 "_law_first" (spH (T0 C) F1))(G_l_second:FnAt P w K mg base (CXe true P w) 3 "_law_second" (spH (T0 C) F2))(G_refusal_word:FnAt P w K mg base (CXe false P w) 4 "refusal_word" (spH (T0 C) Fr))(R:DefAt K mg "_law_told" s_l_told) :
  ∃ F,FnAt P w K mg base CX0 5 "_law_told" (spH (T0 C) F)∧S_told F:=by
 refine ⟨_,(def0s R sc_l_told bd_l_told (hB:=fun f cdv A outer s H E φ0 H0 hr=>(qb_cons (qs_try (i:=2) (asg:=[]) T.cat_PassError rfl sc_l_told.nd rfl rfl (fun _=>trivial) rfl rfl
    (fun E1 pn1 φ1 H1 sg1 xw1 hsg hx=>(qb_cons (qs_if (qt_cmp op_lt ltM_ok (q_var 0) q_int (nomark _)) (qb_one (qs_expr (q_fnX G_l_first hx hr (by decide) rfl (qa_cons (q_var 0) (qa_cons (q_var 1) qa_nil))))) qb_nil)
    (qb_one (qs_expr (q_fnX G_l_second hx hr (by decide) rfl (qa_cons (q_var 0) qa_nil))))))
    (fun e1 o1 u1 φ1 H1=>have hr:=hr.mark (some (.ref e1)); (qb_one (qs_ret (q_lst (qa_cons (q_fnX G_refusal_word (xok_no fun _ _ h=>h) hr (by decide) rfl (qa_cons (q_var 2) qa_nil)) (qa_cons (q_fnX G_refusal_word (xok_no fun _ _ h=>h) hr (by decide) rfl (qa_cons (q_var 2) qa_nil)) qa_nil)))))))
   (qb_one (qs_ret (q_lst qa_nil)))))),fun h i r z0 z1=>?_⟩
 obtain ⟨y,a0,a1,a2,a3,a4,a5,a6,a7⟩:=h1 h r
 obtain ⟨a8,a9,a10,a11,a12,a13,a14,a15⟩:=h2 h
 match i with
 | ⟨0,_⟩=>
  show selfF _ _ _ [W.int 0,.int r] h=.ok (.tl [.str (nm 0),.str (nm 0)]) h
  have e:=hr0.1 h 0 [] [] (by decide)
  have u:=subP_i 0
  have en:nm 0=Str.ofString "Empty":=rfl
  rw [en] at e u ⊢
  exact selfF_ok rfl (by simp! [a0,e,u]) (Nat.le_refl _)
 | ⟨1,_⟩=>
  show selfF _ _ _ [W.int 1,.int r] h=.ok (.tl [.str (nm 1),.str (nm 1)]) h
  have e:=hr0.1 h 1 [] [] (by decide)
  have u:=subP_i 1
  have en:nm 1=Str.ofString "Full":=rfl
  rw [en] at e u ⊢
  exact selfF_ok rfl (by simp! [a1,e,u]) (Nat.le_refl _)
 | ⟨2,_⟩=>
  show selfF _ _ _ [W.int 2,.int r] h=.ok (.tl [.str (due 2 r),.str (due 2 r)]) h
  obtain ⟨x,rfl⟩:=Int.eq_ofNat_of_zero_le z0
  obtain ⟨q1,q2,_⟩:=d1 ⟨x,by omega⟩
  have e:=hr0.2 h (x:Int) q2
  have ed:due 2 (x:Int)=Str.ofString "Lacks "++wo (x:Int):=q1.symm
  rw [ed]
  have u:=subP_i 2
  have en:nm 2=Str.ofString "Lacks":=rfl
  rw [en] at u
  exact selfF_ok rfl (by simp! [a2,e,u]) (Nat.le_refl _)
 | ⟨3,_⟩=>
  show selfF _ _ _ [W.int 3,.int r] h=.ok (.tl [.str (nm 3),.str (nm 3)]) h
  have e:=hr0.1 h 3 ["deed"] [y] (by decide)
  have u:=subP_i 3
  have en:nm 3=Str.ofString "NoDeed":=rfl
  rw [en] at e u ⊢
  exact selfF_ok rfl (by simp! [a3,e,u]) (Nat.le_refl _)
 | ⟨4,_⟩=>
  show selfF _ _ _ [W.int 4,.int r] h=.ok (.tl [.str (nm 4),.str (nm 4)]) h
  have e:=hr0.1 h 4 [] [] (by decide)
  have u:=subP_i 4
  have en:nm 4=Str.ofString "NoHandle":=rfl
  rw [en] at e u ⊢
  exact selfF_ok rfl (by simp! [a4,e,u]) (Nat.le_refl _)
 | ⟨5,_⟩=>
  show selfF _ _ _ [W.int 5,.int r] h=.ok (.tl [.str (nm 5),.str (nm 5)]) h
  have e:=hr0.1 h 5 [] [] (by decide)
  have u:=subP_i 5
  have en:nm 5=Str.ofString "NoKind":=rfl
  rw [en] at e u ⊢
  exact selfF_ok rfl (by simp! [a5,e,u]) (Nat.le_refl _)
 | ⟨6,_⟩=>
  show selfF _ _ _ [W.int 6,.int r] h=.ok (.tl [.str (nm 6),.str (nm 6)]) h
  have e:=hr0.1 h 6 [] [] (by decide)
  have u:=subP_i 6
  have en:nm 6=Str.ofString "NoName":=rfl
  rw [en] at e u ⊢
  exact selfF_ok rfl (by simp! [a6,e,u]) (Nat.le_refl _)
 | ⟨7,_⟩=>
  show selfF _ _ _ [W.int 7,.int r] h=.ok (.tl [.str (nm 7),.str (nm 7)]) h
  have e:=hr0.1 h 7 [] [] (by decide)
  have u:=subP_i 7
  have en:nm 7=Str.ofString "NoRights":=rfl
  rw [en] at e u ⊢
  exact selfF_ok rfl (by simp! [a7,e,u]) (Nat.le_refl _)
 | ⟨8,_⟩=>
  show selfF _ _ _ [W.int 8,.int r] h=.ok (.tl [.str (nm 8),.str (nm 8)]) h
  have e:=hr0.1 h 8 [] [] (by decide)
  have u:=subP_i 8
  have en:nm 8=Str.ofString "NoRow":=rfl
  rw [en] at e u ⊢
  exact selfF_ok rfl (by simp! [a8,e,u]) (Nat.le_refl _)
 | ⟨9,_⟩=>
  show selfF _ _ _ [W.int 9,.int r] h=.ok (.tl [.str (nm 9),.str (nm 9)]) h
  have e:=hr0.1 h 9 [] [] (by decide)
  have u:=subP_i 9
  have en:nm 9=Str.ofString "NoTask":=rfl
  rw [en] at e u ⊢
  exact selfF_ok rfl (by simp! [a9,e,u]) (Nat.le_refl _)
 | ⟨10,_⟩=>
  show selfF _ _ _ [W.int 10,.int r] h=.ok (.tl [.str (nm 10),.str (nm 10)]) h
  have e:=hr0.1 h 10 [] [] (by decide)
  have u:=subP_i 10
  have en:nm 10=Str.ofString "NoThing":=rfl
  rw [en] at e u ⊢
  exact selfF_ok rfl (by simp! [a10,e,u]) (Nat.le_refl _)
 | ⟨11,_⟩=>
  show selfF _ _ _ [W.int 11,.int r] h=.ok (.tl [.str (nm 11),.str (nm 11)]) h
  have e:=hr0.1 h 11 [] [] (by decide)
  have u:=subP_i 11
  have en:nm 11=Str.ofString "NoValue":=rfl
  rw [en] at e u ⊢
  exact selfF_ok rfl (by simp! [a11,e,u]) (Nat.le_refl _)
 | ⟨12,_⟩=>
  show selfF _ _ _ [W.int 12,.int r] h=.ok (.tl [.str (nm 12),.str (nm 12)]) h
  have e:=hr0.1 h 12 [] [] (by decide)
  have u:=subP_i 12
  have en:nm 12=Str.ofString "NoWords":=rfl
  rw [en] at e u ⊢
  exact selfF_ok rfl (by simp! [a12,e,u]) (Nat.le_refl _)
 | ⟨13,_⟩=>
  show selfF _ _ _ [W.int 13,.int r] h=.ok (.tl [.str (nm 13),.str (nm 13)]) h
  have e:=hr0.1 h 13 [] [] (by decide)
  have u:=subP_i 13
  have en:nm 13=Str.ofString "Taken":=rfl
  rw [en] at e u ⊢
  exact selfF_ok rfl (by simp! [a13,e,u]) (Nat.le_refl _)
 | ⟨14,_⟩=>
  show selfF _ _ _ [W.int 14,.int r] h=.ok (.tl [.str (nm 14),.str (nm 14)]) h
  have e:=hr0.1 h 14 [] [] (by decide)
  have u:=subP_i 14
  have en:nm 14=Str.ofString "TooGreat":=rfl
  rw [en] at e u ⊢
  exact selfF_ok rfl (by simp! [a14,e,u]) (Nat.le_refl _)
 | ⟨15,_⟩=>
  show selfF _ _ _ [W.int 15,.int r] h=.ok (.tl [.str (nm 15),.str (nm 15)]) h
  have e:=hr0.1 h 15 [] [] (by decide)
  have u:=subP_i 15
  have en:nm 15=Str.ofString "TooMany":=rfl
  rw [en] at e u ⊢
  exact selfF_ok rfl (by simp! [a15,e,u]) (Nat.le_refl _)
 | ⟨n+16,hn⟩=>exact absurd hn (by omega)
theorem ok_law {f:Addr}{fd:FuncData}(T:Tx K mg C)(R:Fun K "law" "law" s_law f fd){Fd Ft:Fm}(hFd:S_due Fd)(hFt:S_told Ft)
  (G_l_due:FnAt P w K mg base CX0 1 "_law_due" (spH (T0 C) Fd)) (G_l_told:FnAt P w K mg base CX0 5 "_law_told" (spH (T0 C) Ft)):FnOk P w K mg base CX0 6 f fd ["_law_script"] (spH (T0 C) lawF):=by
 refine fun0q R sc_law (hB:=fun cdv A outer s H E φ0 H0 hr=>(qb_cons (qs_for (tg_name (fun _ _ _=>trivial)) PassesOwn.never rfl (qi_list (q_var 0)) (qg_name (i:=1) sc_law.nd rfl (Or.inl rfl))
    (qb_cons (qs_set (i:=2) sc_law.nd rfl (Or.inl rfl) (fun _ _ _=>trivial) (q_bin op_mod modM_ok (q_var 1) q_int))
    (qb_cons (qs_set (i:=3) sc_law.nd rfl (Or.inl rfl) (fun _ _ _=>trivial) (q_bin op_mod modM_ok (q_bin op_fdiv divM_ok (q_var 1) q_int) q_int))
    (qb_one (qs_if (qt_cmp (op_neF hr) neO_ok (q_fn0 G_l_told hr (by decide) rfl (qa_cons (q_var 2) (qa_cons (q_var 3) qa_nil))) (q_rep (qa_cons (q_fn0 G_l_due hr (by decide) rfl (qa_cons (q_var 2) (qa_cons (q_var 3) qa_nil))) qa_nil) q_int) (nomark _)) (qb_one (qs_ret q_bl)) qb_nil)))))
   (qb_one (qs_ret q_bl)))) ?_ ?_
 ·exact lawF_ex
 ·refine lawF_told fun ns hl=>?_
  generalize hB:xSeq (xAsg (gN 2) _) _=B
  have turn:∀ u∈ns.map W.int,∀ (ρ:Sg) (h:Mem),(∃ v1 v2 v3,ρ=[some (.tl (ns.map W.int)),v1,v2,v3]∧h=[])→∃ ρ1,gN 1 u ρ=some ρ1∧∃ ρ' h',(B ρ1 h=.nx ρ' h'∨B ρ1 h=.ct ρ' h')∧∃ v1 v2 v3,ρ'=[some (.tl (ns.map W.int)),v1,v2,v3]∧h'=[]:=by
   rintro u hu ρ h ⟨v1,v2,v3,rfl,rfl⟩
   obtain ⟨c,hc,rfl⟩:=List.mem_map.mp hu
   obtain ⟨i,hi⟩:∃ i:Fin 16,c % 16=(i.val:Int):=⟨⟨(c % 16).toNat,by omega⟩,by simp; omega⟩
   refine ⟨_,rfl,[some (.tl (ns.map W.int)),some (.int c),some (.int (i.val:Int)),some (.int (c / 16 % 64))],[],.inl ?_,_,_,_,rfl,rfl⟩
   rw [← hB]
   have e1:=hFt [] i (c / 16 % 64) (by omega) (by omega)
   have e2:=hFd [] i (c / 16 % 64) (by omega) (by omega)
   have e4:=eqM_tl (h:=[]) (n:=3) (ws:=[.str (due i (c / 16 % 64)),.str (due i (c / 16 % 64))]) (by intro w hw; simp at hw; subst hw; rfl)
   simp_all! [hi,e1,e2,e4,xRep,repM,List.replicate]
  obtain ⟨ρ1,h1,e1,v1,v2,v3,rfl,rfl⟩:=xLoop_nx _ _ [some (.tl (ns.map W.int)),none,none,none] [] ⟨none,none,none,rfl,rfl⟩ turn
  refine ⟨[],congrArg Out.res (?_:_=Out.rt (.bl true) [])⟩
  refine (xSeq_nx ((xFor_loop (ws:=ns.map W.int) (h':=[]) (by simp! [xNo])).trans e1)).trans ?_
  simp! [xNo]
theorem lk_mem {c:Str}{A:Addr}:∀ {ks:List Str} {l:List Addr},(ks.zip l).lookup c=some A→A∈l
 | [],_,e=>by simp at e
 | k::ks,[],e=>by simp at e
 | k::ks,a::l,e=>by
  rw [List.zip_cons_cons] at e
  unfold List.lookup at e
  split at e
  ·cases e; exact List.mem_cons_self
  ·exact List.mem_cons_of_mem _ (lk_mem e)
def ndA (l:List Addr):Bool:=decide l.Nodup
theorem x_i (C:Cs):∀ i,i<16→(T0 C).x (names.getD i "")=some (C.l.getD i 0)∧(T0 C).any (names.getD i "")=some (C.l.getD i 0)
 | 0,_=>⟨rfl,rfl⟩
 | 1,_=>⟨rfl,rfl⟩
 | 2,_=>⟨rfl,rfl⟩
 | 3,_=>⟨rfl,rfl⟩
 | 4,_=>⟨rfl,rfl⟩
 | 5,_=>⟨rfl,rfl⟩
 | 6,_=>⟨rfl,rfl⟩
 | 7,_=>⟨rfl,rfl⟩
 | 8,_=>⟨rfl,rfl⟩
 | 9,_=>⟨rfl,rfl⟩
 | 10,_=>⟨rfl,rfl⟩
 | 11,_=>⟨rfl,rfl⟩
 | 12,_=>⟨rfl,rfl⟩
 | 13,_=>⟨rfl,rfl⟩
 | 14,_=>⟨rfl,rfl⟩
 | 15,_=>⟨rfl,rfl⟩
 | n+16,h=>absurd h (by omega)
theorem fin {w:World}{h:Heap}{fa C_Empty C_Full C_Lacks C_NoDeed C_NoHandle C_NoKind C_NoName C_NoRights C_NoRow C_NoTask C_NoThing C_NoValue C_NoWords C_Taken C_TooGreat C_TooMany C_PassError:Addr}(KX:K.In h)(G:h.Ns mainGlobals mg)(hmg:mg "law"=some (.ref fa))(hNL:noList K=true)(D0:DefAt K mg "missing" s_missing)(D1:DefAt K mg "within" s_within)(D2:DefAt K mg "rights_with_words" s_rights_with_words)(D3:DefAt K mg "words_of" s_words_of)(D4:DefAt K mg "word_of_what_is_none" s_word_of_what_is_none)(D5:DefAt K mg "refusal_word" s_refusal_word)(D6:DefAt K mg "_law_first" s_l_first)(D7:DefAt K mg "_law_second" s_l_second)(D8:DefAt K mg "_law_due" s_l_due)(D9:DefAt K mg "_law_told" s_l_told)(D10:DefAt K mg "law" s_law)(n0:mg "isinstance"=none)(n1:mg "range"=none)(c0:GC mg "LOOK" (.int 1))(c1:GC mg "PUT" (.int 2))(c2:GC mg "SEND" (.int 4))(c3:GC mg "HEAR" (.int 8))(c4:GC mg "END" (.int 16))(c5:GC mg "PASS" (.int 32))(o_Empty:PySem.W.nsIn K mainGlobals "Empty"=some (some (.ref C_Empty)))(o_Full:PySem.W.nsIn K mainGlobals "Full"=some (some (.ref C_Full)))(o_Lacks:PySem.W.nsIn K mainGlobals "Lacks"=some (some (.ref C_Lacks)))(o_NoDeed:PySem.W.nsIn K mainGlobals "NoDeed"=some (some (.ref C_NoDeed)))(o_NoHandle:PySem.W.nsIn K mainGlobals "NoHandle"=some (some (.ref C_NoHandle)))(o_NoKind:PySem.W.nsIn K mainGlobals "NoKind"=some (some (.ref C_NoKind)))(o_NoName:PySem.W.nsIn K mainGlobals "NoName"=some (some (.ref C_NoName)))(o_NoRights:PySem.W.nsIn K mainGlobals "NoRights"=some (some (.ref C_NoRights)))(o_NoRow:PySem.W.nsIn K mainGlobals "NoRow"=some (some (.ref C_NoRow)))(o_NoTask:PySem.W.nsIn K mainGlobals "NoTask"=some (some (.ref C_NoTask)))(o_NoThing:PySem.W.nsIn K mainGlobals "NoThing"=some (some (.ref C_NoThing)))(o_NoValue:PySem.W.nsIn K mainGlobals "NoValue"=some (some (.ref C_NoValue)))(o_NoWords:PySem.W.nsIn K mainGlobals "NoWords"=some (some (.ref C_NoWords)))(o_Taken:PySem.W.nsIn K mainGlobals "Taken"=some (some (.ref C_Taken)))(o_TooGreat:PySem.W.nsIn K mainGlobals "TooGreat"=some (some (.ref C_TooGreat)))(o_TooMany:PySem.W.nsIn K mainGlobals "TooMany"=some (some (.ref C_TooMany)))(o_PassError:PySem.W.nsIn K mainGlobals "PassError"=some (some (.ref C_PassError)))(xa:excAll K [C_Empty,C_Full,C_Lacks,C_NoDeed,C_NoHandle,C_NoKind,C_NoName,C_NoRights,C_NoRow,C_NoTask,C_NoThing,C_NoValue,C_NoWords,C_Taken,C_TooGreat,C_TooMany]=true)(cp:capAll K C_PassError [C_Empty,C_Full,C_Lacks,C_NoDeed,C_NoHandle,C_NoKind,C_NoName,C_NoRights,C_NoRow,C_NoTask,C_NoThing,C_NoValue,C_NoWords,C_Taken,C_TooGreat,C_TooMany]=true)(ra:rzAll K [C_Empty,C_Full,C_NoHandle,C_NoKind,C_NoName,C_NoRights,C_NoRow,C_NoTask,C_NoThing,C_NoValue,C_NoWords,C_Taken,C_TooGreat,C_TooMany]=true)(ks:kitSq K [C_Empty,C_Full,C_Lacks,C_NoDeed,C_NoHandle,C_NoKind,C_NoName,C_NoRights,C_NoRow,C_NoTask,C_NoThing,C_NoValue,C_NoWords,C_Taken,C_TooGreat,C_TooMany] [C_Empty,C_Full,C_Lacks,C_NoDeed,C_NoHandle,C_NoKind,C_NoName,C_NoRights,C_NoRow,C_NoTask,C_NoThing,C_NoValue,C_NoWords,C_Taken,C_TooGreat,C_TooMany]=true)(kp:kitTy K [C_Empty,C_Full,C_Lacks,C_NoDeed,C_NoHandle,C_NoKind,C_NoName,C_NoRights,C_NoRow,C_NoTask,C_NoThing,C_NoValue,C_NoWords,C_Taken,C_TooGreat,C_TooMany] (.ref C_PassError) true=true)(nd:ndA [C_Empty,C_Full,C_Lacks,C_NoDeed,C_NoHandle,C_NoKind,C_NoName,C_NoRights,C_NoRow,C_NoTask,C_NoThing,C_NoValue,C_NoWords,C_Taken,C_TooGreat,C_TooMany]=true)(iL:iniB K C_Lacks "missing"=true)(iN:iniB K C_NoDeed "deed"=true)(bs:BaseOk K C_PassError)(xL:InX K C_Lacks "Lacks.__init__" s_Lacks__init)(xN:InX K C_NoDeed "NoDeed.__init__" s_NoDeed__init) :
  ∃ fd:FuncData,(∀ (s:Shared) (u:Value),BindsTo s fd ⟨[u],[]⟩ [("_law_script",u)])∧∀ base:Heap,K.In base→base.Ns mainGlobals mg→FnOk P w K mg base CX0 6 fa fd ["_law_script"] (sp_law K):=by
 obtain ⟨C,hC⟩:∃ C:Cs,C=⟨C_Empty,C_Full,C_Lacks,C_NoDeed,C_NoHandle,C_NoKind,C_NoName,C_NoRights,C_NoRow,C_NoTask,C_NoThing,C_NoValue,C_NoWords,C_Taken,C_TooGreat,C_TooMany,C_PassError⟩:=⟨_,rfl⟩
 have hl:C.l=[C_Empty,C_Full,C_Lacks,C_NoDeed,C_NoHandle,C_NoKind,C_NoName,C_NoRights,C_NoRow,C_NoTask,C_NoThing,C_NoValue,C_NoWords,C_Taken,C_TooGreat,C_TooMany]:=by subst hC; rfl
 have hX:∀ c A,(T0 C).x c=some A→A∈[C_Empty,C_Full,C_Lacks,C_NoDeed,C_NoHandle,C_NoKind,C_NoName,C_NoRights,C_NoRow,C_NoTask,C_NoThing,C_NoValue,C_NoWords,C_Taken,C_TooGreat,C_TooMany]:=fun c A e=>by rw [← hl]; exact lk_mem e
 have hI:InsOk K (T0 C):=fun c A e=>nomatch (show (none:Option Addr)=some A from e)
 have hE:ExcOk K (T0 C):=fun c A e=>⟨rfl,excAll_of xa (hX c A e)⟩
 have nd':([C_Empty,C_Full,C_Lacks,C_NoDeed,C_NoHandle,C_NoKind,C_NoName,C_NoRights,C_NoRow,C_NoTask,C_NoThing,C_NoValue,C_NoWords,C_Taken,C_TooGreat,C_TooMany]:List Addr).Nodup:=of_decide_eq_true nd
 rw [← hl] at nd'
 have hlen:C.l.length=16:=rfl
 have hm:∀ i,i<16→C.l.getD i 0∈C.l:=fun i hi=>by
  have h:i<C.l.length:=hi
  rw [List.getD_eq_getElem?_getD,List.getElem?_eq_getElem h]
  exact List.getElem_mem h
 have hK:KitOk K (T0 C) kitL:=by
  intro e he
  unfold kitL ents at he
  obtain ⟨i,hi,he⟩:=List.mem_flatMap.mp he
  have hi:=List.mem_range.mp hi
  rcases List.mem_cons.mp he with rfl | he
  ·exact ⟨_,_,⟨_,(x_i C i hi).2,rfl⟩,⟨C.PassError,rfl,rfl⟩,by subst hC; exact kitTy_get kp (hm i hi)⟩
  obtain ⟨j,hj,rfl⟩:=List.mem_map.mp he
  have hj:=List.mem_range.mp hj
  refine ⟨_,_,⟨_,(x_i C i hi).2,rfl⟩,⟨_,(x_i C j hj).2,rfl⟩,?_⟩
  rw [← hl] at ks
  rw [kitSq_get ks (hm i hi) (hm j hj)]
  have hi':i<C.l.length:=hi
  have hj':j<C.l.length:=hj
  congr 1
  rw [Bool.eq_iff_iff]
  simp only [beq_iff_eq,List.getD_eq_getElem?_getD,List.getElem?_eq_getElem hi',List.getElem?_eq_getElem hj',Option.getD_some]
  constructor
  ·intro q; exact (List.getElem_inj nd').mp q
  ·intro q; subst q; rfl
 have gc:∀ {x:Str} {A:Addr},PySem.W.nsIn K mainGlobals x=some (some (.ref A))→GC mg x (.ref A):=fun o=>gc_mk KX G o rfl
 have T:Tx K mg C:=⟨n0,n1,c0,c1,c2,c3,c4,c5,hI,hE,hK,⟨C_Empty,by subst hC; rfl,PySem.W.mg_of KX G o_Empty,rzAll_of ra (by simp)⟩,⟨C_Full,by subst hC; rfl,PySem.W.mg_of KX G o_Full,rzAll_of ra (by simp)⟩,⟨C_NoHandle,by subst hC; rfl,PySem.W.mg_of KX G o_NoHandle,rzAll_of ra (by simp)⟩,⟨C_NoKind,by subst hC; rfl,PySem.W.mg_of KX G o_NoKind,rzAll_of ra (by simp)⟩,⟨C_NoName,by subst hC; rfl,PySem.W.mg_of KX G o_NoName,rzAll_of ra (by simp)⟩,⟨C_NoRights,by subst hC; rfl,PySem.W.mg_of KX G o_NoRights,rzAll_of ra (by simp)⟩,⟨C_NoRow,by subst hC; rfl,PySem.W.mg_of KX G o_NoRow,rzAll_of ra (by simp)⟩,⟨C_NoTask,by subst hC; rfl,PySem.W.mg_of KX G o_NoTask,rzAll_of ra (by simp)⟩,⟨C_NoThing,by subst hC; rfl,PySem.W.mg_of KX G o_NoThing,rzAll_of ra (by simp)⟩,⟨C_NoValue,by subst hC; rfl,PySem.W.mg_of KX G o_NoValue,rzAll_of ra (by simp)⟩,⟨C_NoWords,by subst hC; rfl,PySem.W.mg_of KX G o_NoWords,rzAll_of ra (by simp)⟩,⟨C_Taken,by subst hC; rfl,PySem.W.mg_of KX G o_Taken,rzAll_of ra (by simp)⟩,⟨C_TooGreat,by subst hC; rfl,PySem.W.mg_of KX G o_TooGreat,rzAll_of ra (by simp)⟩,⟨C_TooMany,by subst hC; rfl,PySem.W.mg_of KX G o_TooMany,rzAll_of ra (by simp)⟩,cap_of cp (PySem.W.mg_of KX G o_PassError) (fun c A _ e=>hX c A e),by subst hC; exact gc o_Empty,by subst hC; rfl,by subst hC; exact gc o_Full,by subst hC; rfl,by subst hC; exact gc o_Lacks,by subst hC; rfl,by subst hC; exact gc o_NoDeed,by subst hC; rfl,by subst hC; exact gc o_NoHandle,by subst hC; rfl,by subst hC; exact gc o_NoKind,by subst hC; rfl,by subst hC; exact gc o_NoName,by subst hC; rfl,by subst hC; exact gc o_NoRights,by subst hC; rfl,by subst hC; exact gc o_NoRow,by subst hC; rfl,by subst hC; exact gc o_NoTask,by subst hC; rfl,by subst hC; exact gc o_NoThing,by subst hC; rfl,by subst hC; exact gc o_NoValue,by subst hC; rfl,by subst hC; exact gc o_NoWords,by subst hC; rfl,by subst hC; exact gc o_Taken,by subst hC; rfl,by subst hC; exact gc o_TooGreat,by subst hC; rfl,by subst hC; exact gc o_TooMany,by subst hC; rfl,by subst hC; exact gc o_PassError,by subst hC; rfl,fun A e=>by subst hC; have e:some C_Lacks=some A:=e; cases e; exact ⟨excAll_of xa (by simp),(ini_of iL).1.hd,(ini_of iL).2⟩⟩
 refine law_mk D10 hmg bd_law fun f fd F base=>?_
 obtain ⟨fL,dL,i1,i2,RL⟩:=xL
 obtain ⟨fN,dN,j1,j2,RN⟩:=xN
 have ZL:RzI P w K mg base (T0 C) 1 "Lacks" "missing":=⟨C_Lacks,fL,dL,_,by subst hC; rfl,PySem.W.mg_of KX G o_Lacks,(ini_of iL).1.ei,i1,i2,ok_ini_Lacks (ini_of iL).1 bs (PySem.W.mg_of KX G o_PassError) RL,RL.binds bd_Lacks__init⟩
 have ZN:RzI P w K mg base (T0 C) 1 "NoDeed" "deed":=⟨C_NoDeed,fN,dN,_,by subst hC; rfl,PySem.W.mg_of KX G o_NoDeed,(ini_of iN).1.ei,j1,j2,ok_ini_NoDeed (ini_of iN).1 bs (PySem.W.mg_of KX G o_PassError) RN,RN.binds bd_NoDeed__init⟩
 obtain ⟨Fmi,Gmi,hmi,pmi⟩:=ok_mis (P:=P) (w:=w) (base:=base) T D0
 obtain ⟨Fwi,Gwi,hwi,pwi⟩:=ok_within (P:=P) (w:=w) (base:=base) T hmi Gmi D1
 obtain ⟨F6,G6,h6,p6⟩:=ok_six (P:=P) (w:=w) (base:=base) T D2
 obtain ⟨Fwo,Gw,hwo⟩:=ok_wo (P:=P) (w:=w) (base:=base) T h6 hwi G6 Gwi D3
 obtain ⟨F1,G1,h1⟩:=ok_first (P:=P) (w:=w) (base:=base) T ZL ZN D6
 obtain ⟨F2,G2,h2⟩:=ok_second (P:=P) (w:=w) (base:=base) T D7
 obtain ⟨Fn,Gn,hn⟩:=ok_none (P:=P) (w:=w) (base:=base) T D4
 obtain ⟨Fr,Gr,hr⟩:=ok_rw (P:=P) (w:=w) (base:=base) T hn hwo Gw Gn D5
 obtain ⟨Fd,Gd,hd⟩:=ok_due (P:=P) (w:=w) (base:=base) T D8
 obtain ⟨Ft,Gt,ht⟩:=ok_told (P:=P) (w:=w) (base:=base) T h1 h2 hr G1 G2 Gr D9
 exact (ok_law T F hd ht Gd Gt).imp (lawF_sp hNL)
end
end K82
namespace PySem.W.Fast
def tw16167243907607798515:Nat:=0
def tw11283046831654452280:Nat:=0
def tw10087997079638500729:Nat:=0
def tw4309663800633315818:Nat:=0
def tw12541964569947270636:Nat:=0
def tw4857135835657521553:Nat:=0
def tw4639798897488025087:Nat:=0
def tw17527960545139213187:Nat:=0
def tw5417894452705601405:Nat:=0
def tw6792852978886782080:Nat:=0
def tw3788937014540622139:Nat:=0
def tw13762176454751186927:Nat:=0
def tw11954026829398940256:Nat:=0
def tw18230976936151955722:Nat:=0
def tw14122353075957372460:Nat:=0
def tw3277286900029446061:Nat:=0
def tw3700736649816021179:Nat:=0
def tw17828234465354435463:Nat:=0
def tw10142550167994314929:Nat:=0
def tw2086019143989323174:Nat:=0
def tw10567715209067586321:Nat:=0
def tw17052727353758184243:Nat:=0
def tw3761547393137911223:Nat:=0
def tw6407811533928908487:Nat:=0
def tw17808728749497815254:Nat:=0
def tw13384863260426674428:Nat:=0
def tw13341979320900170502:Nat:=0
def tw182840745618240940:Nat:=0
def tw17958268289116263173:Nat:=0
def tw14177746107514851090:Nat:=0
def tw1998489011318559856:Nat:=0
def tw15201061637889694862:Nat:=0
def tw1000679322671094040:Nat:=0
def tw12631312023873029360:Nat:=0
def tw2832005647738486619:Nat:=0
def tw6154237116048898799:Nat:=0
def tw4143179664943617008:Nat:=0
def tw14792449900999264037:Nat:=0
def tw16605648248221636383:Nat:=0
def tw8499535550594901470:Nat:=0
def tw760475625456348990:Nat:=0
def tw13463982179008431946:Nat:=0
def tw11619372762593196668:Nat:=0
def tw16936398376456924253:Nat:=0
def tw5291177988929170830:Nat:=0
def tw17604159625859893971:Nat:=0
def tw11276042977685594832:Nat:=0
def tw6889515429129774846:Nat:=0
def tw10805828663642796141:Nat:=0
def tw16945474106213193817:Nat:=0
def tw9917700162571189122:Nat:=0
def tw7094437969934929726:Nat:=0
def tw5240998873387248164:Nat:=0
def tw7944708605261610067:Nat:=0
def tw12093665761227793882:Nat:=0
def tw16496361095764640671:Nat:=0
def tw6369087018550619978:Nat:=0
def tw10390181182075205063:Nat:=0
def tw586810735142386679:Nat:=0
def tw4764004846714466627:Nat:=0
def tw5815059224029332304:Nat:=0
def tw8632749573834459584:Nat:=0
def tw11744893530046797518:Nat:=0
def tw4831795549528717831:Nat:=0
def tw4812034702438221757:Nat:=0
def tw16304895451029645784:Nat:=0
def tw1973233358043379504:Nat:=0
def tw17585678536752437596:Nat:=0
def tw12245101037997934404:Nat:=0
def tw8673038418050750406:Nat:=0
def tw17836627124620158156:Nat:=0
def tw8195544078098453824:Nat:=0
def tw8841284613289921248:Nat:=0
def tw2505030473654174206:Nat:=0
def tw17987495411128908205:Nat:=0
def tw2737508429526089781:Nat:=0
def tw3141807662253204598:Nat:=0
def tw17351156984783851491:Nat:=0
def tw14880744204006371494:Nat:=0
def tw14071416310975070159:Nat:=0
def tw13792927221599958329:Nat:=0
def tw18083035347533523803:Nat:=0
def tw15651190561623200214:Nat:=0
def tw17313266723605709102:Nat:=0
def tw10102699252477122482:Nat:=0
def tw1736634172537307958:Nat:=0
def tw12996592932430193941:Nat:=0
def tw1460548839550997182:Nat:=0
def tw16157102802797258352:Nat:=0
def tw16557618226771668583:Nat:=0
def tw7031375114477261561:Nat:=0
def tw13517514412542618915:Nat:=0
def tw8088671266192572464:Nat:=0
def tw5976284420651398025:Nat:=0
def tw13055674022603741444:Nat:=0
def tw6478906230184246485:Nat:=0
def tw8119291927093800073:Nat:=0
def tw13554221958410118921:Nat:=0
def tw9714593620791072736:Nat:=0
def tw4639751799060459842:Nat:=0
def tw15127378974879032352:Nat:=0
def tw8575166729762271201:Nat:=0
def tw12646329584741168425:Nat:=0
def tw16467939228392791713:Nat:=0
def tw17179769412268934256:Nat:=0
def tw14856264986593510407:Nat:=0
def tw10152644317614760816:Nat:=0
def tw11133696465111154687:Nat:=0
def tw16834895332449764862:Nat:=0
def tw6880842756828206564:Nat:=0
def tw12872263163090883399:Nat:=0
def tw7562930132388181835:Nat:=0
def tw3726286175622460179:Nat:=0
def tw13554373298588500875:Nat:=0
def tw7286006251169130319:Nat:=0
def tw7789166920484535792:Nat:=0
def tw7429718484696161120:Nat:=0
def tw10781173598558623934:Nat:=0
def tw2878329499345740976:Nat:=0
def tw10684135694569309516:Nat:=0
def tw11135506429782244221:Nat:=0
def tw14681985204617924826:Nat:=0
def tw10630342982555214708:Nat:=0
def tw17208294992724193996:Nat:=0
def tw1354012428440093898:Nat:=0
def tw13253001248773901252:Nat:=0
def tw11372324429159653333:Nat:=0
def tw5428664352150516108:Nat:=0
def tw18426259669481594685:Nat:=0
def tw6449422122546555559:Nat:=0
def tw15072096577902676450:Nat:=0
def tw13497866247462546828:Nat:=0
def tw7842131952904536515:Nat:=0
def tw13020757311219876134:Nat:=0
def tw12883425443005298614:Nat:=0
def tw11402364557270643964:Nat:=0
def tw8677437055016970883:Nat:=0
def tw18394777007051839223:Nat:=0
def tw15401758742392764045:Nat:=0
def tw11684252931240510539:Nat:=0
def tw12266102762276528035:Nat:=0
def tw942583668629419501:Nat:=0
def tw1206495439341104832:Nat:=0
def tw17960158185889895989:Nat:=0
def tw12753487675270793377:Nat:=0
def tw9693297725862872081:Nat:=0
def tw7258966151564829363:Nat:=0
def tw2887404339431053916:Nat:=0
def tw2212036204898183423:Nat:=0
def tw6683937161812330054:Nat:=0
def tw11569477389632907032:Nat:=0
def tw6746279631326084040:Nat:=0
def tw15212941715565498227:Nat:=0
def tw12533379145352484219:Nat:=0
def tw8659578495735735234:Nat:=0
def tw15928598355011382902:Nat:=0
def tw6870285361909984766:Nat:=0
def tw15055771265680887193:Nat:=0
def tw18228195453097346367:Nat:=0
def tw8658370204981143453:Nat:=0
def tw17673069534757660524:Nat:=0
def tw15542505155934988057:Nat:=0
def tw16061866809193595294:Nat:=0
def tw114240992628050053:Nat:=0
def tw4273362434387581912:Nat:=0
def tw18062349913661124998:Nat:=0
def tw10503624085377634739:Nat:=0
def tw18282609487102027111:Nat:=0
def tw16591941274846304052:Nat:=0
def tw14388469245472832985:Nat:=0
def tw4930357122440753596:Nat:=0
def tw11763487596504971352:Nat:=0
def tw8547030604865304172:Nat:=0
def tw1538839819224455552:Nat:=0
def tw14166239813318190270:Nat:=0
def tw11648778871026056156:Nat:=0
def tw6430374209043072966:Nat:=0
def tw15090814438059075130:Nat:=0
def tw1110083955986402178:Nat:=0
def tw5214230512620089587:Nat:=0
def tw9788301699441056222:Nat:=0
def tw16599119292409257505:Nat:=0
def tw4244323190142230069:Nat:=0
def tw12288617207538419624:Nat:=0
def tw8181017513092762391:Nat:=0
def tw15121559628275949189:Nat:=0
def tw10126491100997358904:Nat:=0
def tw6090202518842746544:Nat:=0
def tw17054937957920872411:Nat:=0
def tw17073277482129547953:Nat:=0
def tw5219090476683771480:Nat:=0
def tw3274089204739421718:Nat:=0
def tw18187812596252393822:Nat:=0
def tw9970790563230524937:Nat:=0
def tw1991885510964407786:Nat:=0
def tw2982687475042002830:Nat:=0
def tw2287389094965371563:Nat:=0
def tw16964611132302935189:Nat:=0
def tw157381959711007862:Nat:=0
def tw16649983745324137266:Nat:=0
def tw17798681230196817429:Nat:=0
def tw10523008525199627508:Nat:=0
def tw2882490234406537929:Nat:=0
def tw13925860258366150379:Nat:=0
def tw17857037202051817104:Nat:=0
def tw15112329365099549182:Nat:=0
def tw6869574100648997083:Nat:=0
def tw3309798151712338664:Nat:=0
def tw5633327229442294131:Nat:=0
def tw4295812272031508457:Nat:=0
def tw11259274447985085175:Nat:=0
def tw15440915945213137318:Nat:=0
def tw17475536819171831542:Nat:=0
def tw14306736866725393509:Nat:=0
def tw6744023171208886787:Nat:=0
def tw3687121125209600043:Nat:=0
def tw8591447486502062666:Nat:=0
def tw16343882791340995225:Nat:=0
def tw8026115418227087956:Nat:=0
def tw16427217213401551921:Nat:=0
def tw11669609248223084498:Nat:=0
def tw2986472006179133207:Nat:=0
def tw6087470961757882766:Nat:=0
end PySem.W.Fast
open PySem PySem.W PyProof.Rows
set_option maxRecDepth 100000 in
set_option maxHeartbeats 0 in
theorem PySem.Challenge.cw_passkeep_k82_words_of_refusals_holds : PySem.Challenge.rw_passkeep_k82_words_of_refusals.Holds := by
 w_on; o_law; k_head; (case hw=>w_witness2)
 k_fill
 refine L2.walk0 (l:=PySem.Challenge.rw_passkeep_k82_words_of_refusals) (k:=6) (x:="_law_script") rfl rfl ⟨by decide,by decide⟩ (fun w h Y=>PySem.W.kIn_of Y) ?F
 case F=>
  intro w mg fa h KX G hmg
  have hNL:M.noList (L2.KOf KX)=true:=by dsimp only [L2.KOf]; kernel_rfl
  have D_missing:L2.DefAt (L2.KOf KX) mg "missing" K82.s_missing:=by
   dsimp only [L2.KOf]; refine' L2.def_mk KX G ?a ?l ?c ?k; (case a=>k_is); (case l=>k_is); (case c=>k_is); (case k=>k_is)
  have D_within:L2.DefAt (L2.KOf KX) mg "within" K82.s_within:=by
   dsimp only [L2.KOf]; refine' L2.def_mk KX G ?a ?l ?c ?k; (case a=>k_is); (case l=>k_is); (case c=>k_is); (case k=>k_is)
  have D_rights_with_words:L2.DefAt (L2.KOf KX) mg "rights_with_words" K82.s_rights_with_words:=by
   dsimp only [L2.KOf]; refine' L2.def_mk KX G ?a ?l ?c ?k; (case a=>k_is); (case l=>k_is); (case c=>k_is); (case k=>k_is)
  have D_words_of:L2.DefAt (L2.KOf KX) mg "words_of" K82.s_words_of:=by
   dsimp only [L2.KOf]; refine' L2.def_mk KX G ?a ?l ?c ?k; (case a=>k_is); (case l=>k_is); (case c=>k_is); (case k=>k_is)
  have D_word_of_what_is_none:L2.DefAt (L2.KOf KX) mg "word_of_what_is_none" K82.s_word_of_what_is_none:=by
   dsimp only [L2.KOf]; refine' L2.def_mk KX G ?a ?l ?c ?k; (case a=>k_is); (case l=>k_is); (case c=>k_is); (case k=>k_is)
  have D_refusal_word:L2.DefAt (L2.KOf KX) mg "refusal_word" K82.s_refusal_word:=by
   dsimp only [L2.KOf]; refine' L2.def_mk KX G ?a ?l ?c ?k; (case a=>k_is); (case l=>k_is); (case c=>k_is); (case k=>k_is)
  have D_l_first:L2.DefAt (L2.KOf KX) mg "_law_first" K82.s_l_first:=by
   dsimp only [L2.KOf]; refine' L2.def_mk KX G ?a ?l ?c ?k; (case a=>k_is); (case l=>k_is); (case c=>k_is); (case k=>k_is)
  have D_l_second:L2.DefAt (L2.KOf KX) mg "_law_second" K82.s_l_second:=by
   dsimp only [L2.KOf]; refine' L2.def_mk KX G ?a ?l ?c ?k; (case a=>k_is); (case l=>k_is); (case c=>k_is); (case k=>k_is)
  have D_l_due:L2.DefAt (L2.KOf KX) mg "_law_due" K82.s_l_due:=by
   dsimp only [L2.KOf]; refine' L2.def_mk KX G ?a ?l ?c ?k; (case a=>k_is); (case l=>k_is); (case c=>k_is); (case k=>k_is)
  have D_l_told:L2.DefAt (L2.KOf KX) mg "_law_told" K82.s_l_told:=by
   dsimp only [L2.KOf]; refine' L2.def_mk KX G ?a ?l ?c ?k; (case a=>k_is); (case l=>k_is); (case c=>k_is); (case k=>k_is)
  have D_law:L2.DefAt (L2.KOf KX) mg "law" K82.s_law:=by
   dsimp only [L2.KOf]; refine' L2.def_mk KX G ?a ?l ?c ?k; (case a=>k_is); (case l=>k_is); (case c=>k_is); (case k=>k_is)
  have N_isinstance:mg "isinstance"=none:=PySem.W.mg_none_of KX G (by k_is)
  have N_range:mg "range"=none:=PySem.W.mg_none_of KX G (by k_is)
  have c_LOOK:L2.GC mg "LOOK" (.int 1):=L2.gc_mk KX G (by k_is) ⟨_,rfl⟩
  have c_PUT:L2.GC mg "PUT" (.int 2):=L2.gc_mk KX G (by k_is) ⟨_,rfl⟩
  have c_SEND:L2.GC mg "SEND" (.int 4):=L2.gc_mk KX G (by k_is) ⟨_,rfl⟩
  have c_HEAR:L2.GC mg "HEAR" (.int 8):=L2.gc_mk KX G (by k_is) ⟨_,rfl⟩
  have c_END:L2.GC mg "END" (.int 16):=L2.gc_mk KX G (by k_is) ⟨_,rfl⟩
  have c_PASS:L2.GC mg "PASS" (.int 32):=L2.gc_mk KX G (by k_is) ⟨_,rfl⟩
  refine' K82.fin KX G hmg hNL D_missing D_within D_rights_with_words D_words_of D_word_of_what_is_none D_refusal_word D_l_first D_l_second D_l_due D_l_told D_law N_isinstance N_range c_LOOK c_PUT c_SEND c_HEAR c_END c_PASS ?gg19 ?gg20 ?gg21 ?gg22 ?gg23 ?gg24 ?gg25 ?gg26 ?gg27 ?gg28 ?gg29 ?gg30 ?gg31 ?gg32 ?gg33 ?gg34 ?gg35 ?gg36 ?gg37 ?gg38 ?gg39 ?gg40 ?gg41 ?gg42 ?gg43 ?gg44 ?gg45 ?gg46
  (case gg19=>k_is)
  (case gg20=>k_is)
  (case gg21=>k_is)
  (case gg22=>k_is)
  (case gg23=>k_is)
  (case gg24=>k_is)
  (case gg25=>k_is)
  (case gg26=>k_is)
  (case gg27=>k_is)
  (case gg28=>k_is)
  (case gg29=>k_is)
  (case gg30=>k_is)
  (case gg31=>k_is)
  (case gg32=>k_is)
  (case gg33=>k_is)
  (case gg34=>k_is)
  (case gg35=>k_is)
  (case gg36=>first | kernel_rfl | decide +kernel | (dsimp only [L2.KOf]; kernel_rfl) | (trace_state; k_is))
  (case gg37=>first | kernel_rfl | decide +kernel | (dsimp only [L2.KOf]; kernel_rfl) | (trace_state; k_is))
  (case gg38=>first | kernel_rfl | decide +kernel | (dsimp only [L2.KOf]; kernel_rfl) | (trace_state; k_is))
  (case gg39=>first | kernel_rfl | decide +kernel | (dsimp only [L2.KOf]; kernel_rfl) | (trace_state; k_is))
  (case gg40=>first | kernel_rfl | decide +kernel | (dsimp only [L2.KOf]; kernel_rfl) | (trace_state; k_is))
  (case gg41=>first | kernel_rfl | decide +kernel | (dsimp only [L2.KOf]; kernel_rfl) | (trace_state; k_is))
  (case gg42=>first | kernel_rfl | decide +kernel | (dsimp only [L2.KOf]; kernel_rfl) | (trace_state; k_is))
  (case gg43=>first | kernel_rfl | decide +kernel | (dsimp only [L2.KOf]; kernel_rfl) | (trace_state; k_is))
  (case gg44=>refine' M.basx ?qx_44 ?qy_44 ?qz_44 ?qw_44; (case qx_44=>k_is); (case qy_44=>k_is); (case qz_44=>k_is); (case qw_44=>k_is))
  (case gg45=>refine' M.inx ?qa_45 ?qi_45 ?ql_45 ?qc_45 ?qk_45; (case qa_45=>k_is); (case qi_45=>k_is); (case ql_45=>k_is); (case qc_45=>k_is); (case qk_45=>k_is))
  (case gg46=>refine' M.inx ?qa_46 ?qi_46 ?ql_46 ?qc_46 ?qk_46; (case qa_46=>k_is); (case qi_46=>k_is); (case ql_46=>k_is); (case qc_46=>k_is); (case qk_46=>k_is))
