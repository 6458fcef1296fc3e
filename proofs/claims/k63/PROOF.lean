import PyProof.Rows.All
import OpenK.KLine
import KE.KDictSum
import KE.LcSums
import KE.KIsAll
import OpenK.KOwn
import KE.KRevIter
import Lean
import PySem.Challenge.RW_passkeep_k63_hearing_refused
open Array renaming getElem?_eq_some_iff->Yb3,length_toList->Ycj,getElem?_toList->YcC
open Bool renaming and_eq_true->Yaa,false_ne_true->Yav,or_eq_true->YaP,not_eq_true'->Ya0,and_eq_true_iff->Ybe,eq_iff_iff->YbZ,false_eq_true->Yb5,beq_eq_decide_eq->YcD,and_self->Ydz,false_and->YeB,and_false->YeF
open False renaming elim->Ya9
open ForInStep renaming yield->YbA
open Int renaming emod_lt_of_pos->YbC,emod_nonneg->Yb2,toNat_natCast->Ydg,eq_ofNat_of_zero_le->Yeb
open List renaming all_eq_true->Yaf,map_cons->Yap,mem_append_right->Yas,mem_cons_of_mem->Yau,mem_of_getElem?->Yax,mem_cons->Yaz,getElem?_eq_some_iff->YaA,size_toArray->YaB,mem_cons_self->YaD,length_map->YaE,lookup_cons->YaG,mem_append_left->YaL,getElem?_append_left->YaM,getElem?_map->YaU,getElem?_append_right->YaX,exists_cons_of_length_eq_add_one->YaY,length_cons->Ya4,lookup->Yba,all_cons->Ybf,length_append->Ybo,length_range->Yby,find?_cons->Ybz,pairwise_cons->YbB,mem_map->YbF,not_mem_nil->YbG,any_cons->YbJ,append_nil->YbK,getElem?_eq_none->YbL,range->YbM,cons_append->YbN,map_map->YbS,mem_append->YbX,filter_cons->Yb4,drop_eq_getElem_cons->Yb9,getElem?_set_ne->Yca,map_append->Ycg,prefix_refl->Ycp,replicate->Ycq,getElem?_set_self->Ycr,zip_cons_cons->Yct,mem_singleton->Ycu,mem_filter->Ycv,length_replicate->YcB,getElem?_set->YcM,reverse_cons->YcN,rec->YcO,mem_of_find?_eq_some->YcT,map_congr_left->YcV,map_nil->YcZ,getElem?_replicate->Yc5,length_nil->Yc6,length_eq_zero_iff->Yc8,getElem?_cons_zero->Yc9,getElem?_cons_succ->Yda,take_of_length_le->Ydc,prefix_of_prefix_length_le->Ydm,mem_range->Ydn,length_take->Yds,drop_length->Ydt,mem_of_mem_take->Ydw,filterMap_cons->YdB,nodup_cons->YdG,nil_append->YdJ,getD_eq_getElem?_getD->YdM,all_map->YdO,prefix_append->YdP,contains_cons->YdR,getElem?_take_of_lt->Yd0,isEmpty_iff->Yee,range_succ_eq_map->Yeh,of_mem_zip->Yeo,forIn_cons->Yeq,find?_some->Yer,map_set->Yew
open List.Pairwise renaming nil->Yfa
open Nat renaming le_refl->Yak,lt_of_lt_of_le->YaI,ne_of_lt->YaK,le_of_ble_eq_true->Ya2,blt->Ya7,le_trans->YbE,lt_irrefl->Yci,zero_le->Ycy,beq->Ydu,le_succ->YdE,lt_succ_self->Yed,ne_of_gt->Yel,min_eq_left->Yeu,ble->Yev,beq_eq->Yfb
open Nat.succ renaming inj->YcH
open Ne renaming symm->YbW
open Option renaming map_some->Yan,map_eq_some_iff->Yar,bind_eq_some_iff->Yaw,bind_some->YaH,rec->YaS,isSome_iff_exists->Ybh,isSome_map->Ydl,map_none->Yex
open Option.some renaming inj->YaT,injEq->Yd4
open Or renaming inl->Yfh
open Prod renaming snd->Yez
open PyProof.Rows renaming callWith_type1->YbY,envOfC->Yc4,kindOf->YdZ,AllBare->Yd6,IsTup->Yef,IntsAre->Ye7
open PySem renaming wpAny_bind->Yac,Spec->Yae,Value->Yag,starEach->Yah,sizeLine->Yai,Shared->Yaj,Addr->Yaq,wpAny_pure->Yat,wpAny->YaF,model->YaJ,Program->YaN,mainGlobals->YaO,Expr->YaQ,bootBuiltins->YaR,compareOp->YaV,foldedSetIterable->Ya1,backTo->Ya3,wpAny_mono->Ya6,attributeBase->Ybb,FuncData->Ybc,World->Ybg,sizeLine_eq->Ybj,keywordEach->Ybm,wpAny_Call_Name_kw->Ybn,wpAny_holding->Ybp,Around->Ybr,mem_of_lookup->Ybs,assignEach->Ybt,wpAny_truthy_bool->Ybu,wpAny_loadPart_at->Ybx,swapsWith->YbI,Heap->YbO,wpAny_standAt->YbP,eval->YbT,Keyword->Yb8,backToKw->Ycc,Stmt->Yce,wpAny_passesOwn->Ycf,wpAny_field->Ych,letOwnedTupleGo->Ycw,codeAny_mono->YcA,excClassObj->YcF,wpAny_ite_split->YcG,sysModules->YcI,binaryOp->YcJ,behindInMarks->YcK,NameKind->YcL,wpAny_setField->YcP,Scope->YcQ,wpAny_isSubtype_exc->YcU,Paired->YcX,wpAny_call->YcY,wpAny_callSpecial?_slot->Yc1,wpAny_execs_nil->Yc2,tupleKind_room_in1->Yc7,wpAny_newObj_type->Yde,codeAny->Ydi,plainObj_wpAny_Assign_Attribute->Ydj,sliceBounds->Ydk,wpAny_call_entry->Ydq,wpAny_isInstance->Ydr,codeAny_call_builtin->Ydv,wpAny_attempt->Ydx,wpAny_specialOf->YdA,wpAny_seqItems->YdS,getMethod->YdY,wpAny_Call_ofName->Yd3,standAt->Yd7,holding->Yd8,PassesOwn->Yek,lastMarks->Yem,wpAny_updateSeq->Yet,cLine->YeK,BindsTo->YeL,subscripted->YeM,valueAt->YeN,callerA->YeO,seqItems?->YeR,assign->YeS,tupleKind->YeV,noteFrame->YeX,Builtin->YeZ,callWith->Ye0,getItem->Ye8,pyNext->Yfc,Within->Yfd,isTrue->Yfe
open PySem.Around renaming under->Yff
open PySem.Builtin renaming bitAnd->YeC,bitNot->YeD,bitOr->YeW
open PySem.Builtin.List renaming listExtendWith->Yb1,listTooLong->Yc0,listLengthHint->YdK,listSameRef->Yd5,listItems->Yei
open PySem.Builtin.ObjectAttr renaming Found->Yd2
open PySem.Builtin.Str renaming occurrences->Yck
open PySem.Calls renaming evalArgs_plain->Ycd,spliced_cons->Yc3,callWith_builtin->Ydd,Name_function_global->YdL
open PySem.EntryCells renaming newEntry->YeP
open PySem.F renaming excBase_ValueError->YbH,plainAttrs_list->YbQ,slot_tuple_iterator_next->Ydb,plain_extend_loop->YdU,attr_ValueError->Yd9,slot_list_index->Yea,slot_dict_pop->Yep
open PySem.Heap renaming get?_push_of_some->Yad,lt_size->Yal,get?_push_size->YaC,get?_update_other->YaW,get?_update_self->Ya8,get?_update_ne->Ybi,get?_none_of_le->YbD,ExtBut->Ydf,SameBut->Ydo,size_push->YeE
open PySem.NameKind renaming free->Ybq,cell->Ycm
open PySem.Obj renaming mapFields->Yb6,isFreed_of_fields->Ydp,data_mapFields->YdQ,mapSeq->Yd1
open PySem.Paired renaming length->Ydy
open PySem.SeqAt renaming EqAt->Yey,RcNeAt->Yfg
open PySem.SeqAt.EqAt renaming bool_bool->YeA,int_str->YeT,str_int->YeU
open PySem.Spec renaming countIn->Ye2
open PySem.Str renaming ofString->Yam,length->Ye9
open PySem.Txt renaming slice->Yb0,join->YeY
open PySem.Value renaming ref->Yay,none->Ya5,bool->YcW,str->YdV,type->YdW,int->Yej,builtin->Ye1
open PySem.W renaming Frag->Yab,findIn->Yao,mroIn->YaZ,hasDictIn->Ybd,keepIn->Ybk,specialIn->Ybl,emptyDict->Ybv,fnOf->Ybw,nsIn->YbR,instObj->YbV,codeIn->Yb7,looks_findIn->Ycb,mg_of->Ycl,clsIn->Ycn,plainGet->Yco,callWith_K->Ycs,takerIn->Ycx,takesIn->Ycz,methodCall_KW->YcE,InstAt->YcR,typeIn->YcS,plainOver->Ydh,plainGet_of->YdC,looks_clsIn->YdD,callWith_K0->YdF,readsIn->YdH,findCls->YdI,isFn->YdN,lookIn->YdT,methodObj->YdX,any_some->Yec,cellsFrom_some->Yeg,makesIn->Yen,findObj->Yes,kitOne->YeG,kitAny->YeH,notCls->YeI,findObj_own->YeJ,looks_mroIn->YeQ,Looks->Ye3
open PySem.Within renaming cons->Ye6
open Sum renaming inl->Ye4,inr->Ye5
open True renaming intro->YbU
set_option Elab.async false
set_option autoImplicit true
set_option relaxedAutoImplicit true
set_option linter.all false
set_option maxRecDepth 100000
noncomputable section
set_option compiler.extract_closed false
set_option bootstrap.genMatcherCode false
namespace L2
open PySem PySem.Spec PyProof.Rows
def ZoR (o:Obj):Prop:=∃ fs,o.data=.fields fs/\fs[2]?=some .none
def Qh (A:Ybr)(h:YbO):Prop:=A.handled=none\/∃ e o,A.handled=some (.ref e)/\h.get? e=some o/\ZoR o
def Qh.keep (q:Qh A h)(k:∀ e,A.handled=some (.ref e)->∀ o,h.get? e=some o->h'.get? e=some o):Qh A h':=
 q.imp id fun ⟨e,o,a,b,c⟩=>⟨e,o,a,k e a o b,c⟩
def ZfU:entryFor table "proto.unchain"=some Builtin.«proto.unchain»:=entryFor_of_fast (by kernel_rfl)
section
variable {Pg:YaN} {Wd:Ybg} {Ar:Ybr} {Ee:Yag->Yaj->Prop} {sh:Yaj}
def Zji (I:sh.heap.get? e=some o)(c:ZoR o)(k:Q .none sh):YaF (YaJ Pg Wd) Ar (runValue (.builtin "proto.unchain" ⟨[v,.ref e,.ref e,.bool false],[]⟩)) Q Ee sh:=by
 obtain ⟨fs,z,J⟩:=c;refine wpAny_runValue (codeAny_builtin ZfU ?_);show YaF _ _ (field (.ref e) 2 >>= _) _ _ sh;refine Yac (Ych I z J ?_);rw[if_pos (by rfl)];exact Yat k
def ZnM (J:sh.heap.get? a=some oa)(Y:oa.data=.fields fs)(h2:2<fs.size)(q:Qh Ar sh.heap)(I:∀ e,Ar.handled=some (.ref e)->e≠a)
  (k:∀ h',(∀ b o,b≠a->sh.heap.get? b=some o->h'.get? b=some o)->(∃ o',h'.get? a=some o'/\o'.cls=oa.cls)->Ee (.ref a) { sh with heap:=h' }):YaF (YaJ Pg Wd) Ar (raiseNew (.ref a):Sem α) Q Ee sh:=by
 obtain ⟨cl,di,da,sl⟩:=oa;simp only at Y;subst Y;unfold raiseNew;refine Yac (wpAny_handled ?_);rcases q with q|⟨e,o,q,he,c⟩
 ·rw[q];exact Yac (Yat (wpAny_throw (k sh.heap (fun _ _ _ z=>z) ⟨_,J,rfl⟩)))
 ·rw[q];have ne:=I e q;have U:(Yay e != Yay a)=true:=by
   rw[bne_iff_ne];intro z;injection z with z
   exact ne z
  dsimp only;rw[if_pos U];refine Yac (Ybp (Zji he c ?_));refine Yac (YcP (a:=a) J rfl h2 (wpAny_throw (k _ (fun b o' hb z=>by rw[Ybi _ _ _ _ hb];exact z) ⟨_,Ya8 _ J rfl,rfl⟩)))
def Zja (q:Qh Ar sh.heap)(k:∀ h' a o',(∀ b o,sh.heap.get? b=some o->h'.get? b=some o)->h'.get? a=some o'->o'.cls=.type "StopIteration"->Ee (.ref a) { sh with heap:=h' }) :
  YaF (YaJ Pg Wd) Ar (newExc (.type "StopIteration") [] >>= fun x=>(raiseNew x:Sem α)) Q Ee sh:=by
 refine Yac ?_;unfold newExc newTuple;refine Yac (Yde ?_ (by size_fits));refine Yac (m:=firstArgMember _ _) (wpAny_of_eq (a:=Ya5) rfl ?_);refine Yde ?_ (by size_fits);dsimp only;have k1:∀ b o,sh.heap.get? b=some o->((sh.heap.push { cls:=.type "tuple",data:=.seq ([]:List Yag).toArray }).get? b=some o):=fun b o e=>Yad _ e
 generalize sh.heap.push { cls:=.type "tuple",data:=.seq ([]:List Yag).toArray }=h1 at k1;have k2:∀ b o,h1.get? b=some o->b≠h1.objs.size:=fun b o e=>YaK (Yal e)
 refine ZnM (sh:={ sh with heap:=_ }) (YaC _ rfl) rfl (by rw[Array.size_append];exact YaI (show 2<6 by decide) (Nat.le_add_right _ _)) (q.keep fun e _ o I=>Yad _ (k1 e o I)) (fun e a=>?_) fun h' Y ⟨o',ho,U⟩=>k h' _ o' (fun b o e=>Y b o (k2 b o (k1 b o e)) (Yad _ (k1 b o e))) ho U
 rcases q with z|⟨J,o,z,I,_⟩
 ·rw[z] at a;cases a
 ·rw[z] at a;have:J=e:=by injection a with a;injection a
  subst this;exact k2 _ o (k1 _ o I)
def Zif (q:Qh Ar sh.heap)(ne:∀ e,Ar.handled=some (.ref e)->e≠it)(U:sh.heap.IsListIter it l i)(sl:sh.heap.IsList l xs)(Y:xs[i]?=none)(k:∀ h',Ydf it sh.heap h'->Q none { sh with heap:=h' }) :
  YaF (YaJ Pg Wd) Ar (Yfc (.ref it)) Q Ee sh:=by
 obtain ⟨oi,J,ci,I⟩:=id U;obtain ⟨ol,gl,_,nl,dl⟩:=sl;unfold Yfc;refine Yac (Ydx (Yc1 (name:=Yam "__next__") U.typeIs slot_listiter_next (Ydq slot_listiter_next U.typeIs entry_listiter_next ?_ (args_listiter_next _))));show YaF _ Ar.in1 (field (.ref it) 0 >>= _) _ _ sh;refine Yac (Ych J I (x:=.ref l) rfl ?_);show YaF _ Ar.in1 (if (Yay l == Ya5)=true then _ else _) _ _ sh;rw[if_neg (show ¬(Yay l == Ya5)=true from fun z=>by cases z)];show YaF _ Ar.in1 (field (.ref it) 1 >>= _) _ _ sh;refine Yac (Ych J I (x:=.int i 0) rfl ?_);show YaF _ Ar.in1 (YeR (.ref l) >>= _) _ _ sh;refine Yac (YdS gl dl ?_);simp only[Ydg,Y];refine Yac (wpAny_rule (Yac (YcP J I (by simp) ?_)));refine Zja (Ar:=Ar.in1) (sh:={ sh with heap:=_ }) (q.keep fun e a o he=>?_) fun h' a o' hk ha hc=>?_
 ·show (sh.heap.update it _).get? e=some o;rw[Ybi _ _ _ _ (ne e a)];exact he
 ·refine Yac (Ydr (T:="StopIteration") (b:=true) ⟨o',ha,hc⟩ isSubtype_stop (Yat ?_));exact k h' fun b o hb e=>hk b o (by show (sh.heap.update it _).get? b=some o;rw[Ybi _ _ _ _ hb];exact e)
def Zl0 (q:Qh Ar sh.heap)(ne:∀ e,Ar.handled=some (.ref e)->e≠it)(U:sh.heap.IsTupleIter it l i)(sl:sh.heap.IsTuple l xs)(Y:xs[i]?=none)(k:∀ h',Ydf it sh.heap h'->Q none { sh with heap:=h' }) :
  YaF (YaJ Pg Wd) Ar (Yfc (.ref it)) Q Ee sh:=by
 obtain ⟨oi,J,ci,I⟩:=id U;obtain ⟨ol,gl,_,nl,dl⟩:=sl;unfold Yfc;refine Yac (Ydx (Yc1 (name:=Yam "__next__") U.typeIs Ydb (Ydq Ydb U.typeIs PySem.F.entry_tuple_iterator_next ?_ (PySem.F.args_tuple_iterator_next_1 _))));show YaF _ Ar.in1 (field (.ref it) 0 >>= _) _ _ sh;refine Yac (Ych J I (x:=.ref l) rfl ?_);show YaF _ Ar.in1 (if (Yay l == Ya5)=true then _ else _) _ _ sh;rw[if_neg (show ¬(Yay l == Ya5)=true from fun z=>by cases z)];show YaF _ Ar.in1 (field (.ref it) 1 >>= _) _ _ sh;refine Yac (Ych J I (x:=.int i 0) rfl ?_);show YaF _ Ar.in1 (YeR (.ref l) >>= _) _ _ sh;refine Yac (YdS gl dl ?_);simp only[Ydg,Y];refine Yac (wpAny_rule (Yac (YcP J I (by simp) ?_)));refine Zja (Ar:=Ar.in1) (sh:={ sh with heap:=_ }) (q.keep fun e a o he=>?_) fun h' a o' hk ha hc=>?_
 ·show (sh.heap.update it _).get? e=some o;rw[Ybi _ _ _ _ (ne e a)];exact he
 ·refine Yac (Ydr (T:="StopIteration") (b:=true) ⟨o',ha,hc⟩ isSubtype_stop (Yat ?_));exact k h' fun b o hb e=>hk b o (by show (sh.heap.update it _).get? b=some o;rw[Ybi _ _ _ _ hb];exact e)
def ZiK (q:Qh Ar sh.heap)(ne:∀ e,Ar.handled=some (.ref e)->e≠it)(U:IsTupIter sh.heap it l i)(sl:Yef sh.heap l xs)(Y:xs[i]?=none)(k:∀ h',Ydf it sh.heap h'->Q none { sh with heap:=h' }) :
  YaF (YaJ Pg Wd) Ar (Yfc (.ref it)) Q Ee sh:=by
 obtain ⟨oi,J,ci,I⟩:=id U;obtain ⟨ol,gl,_,nl,dl⟩:=sl;unfold Yfc;refine Yac (Ydx (Yc1 (name:=Yam "__next__") U.typeIs slot_tupleiter_next (Ydq slot_tupleiter_next U.typeIs entry_tupleiter_next ?_ (args_tupleiter_next _))));show YaF _ Ar.in1 (field (.ref it) 0 >>= _) _ _ sh;refine Yac (Ych J I (x:=.ref l) rfl ?_);show YaF _ Ar.in1 (if (Yay l == Ya5)=true then _ else _) _ _ sh;rw[if_neg (show ¬(Yay l == Ya5)=true from fun z=>by cases z)];show YaF _ Ar.in1 (field (.ref it) 1 >>= _) _ _ sh;refine Yac (Ych J I (x:=.int i 0) rfl ?_);show YaF _ Ar.in1 (YeR (.ref l) >>= _) _ _ sh;refine Yac (YdS gl dl ?_);simp only[Ydg,Y];refine Yac (wpAny_rule (Yac (YcP J I (by simp) ?_)));refine Zja (Ar:=Ar.in1) (sh:={ sh with heap:=_ }) (q.keep fun e a o he=>?_) fun h' a o' hk ha hc=>?_
 ·show (sh.heap.update it _).get? e=some o;rw[Ybi _ _ _ _ (ne e a)];exact he
 ·refine Yac (Ydr (T:="StopIteration") (b:=true) ⟨o',ha,hc⟩ isSubtype_stop (Yat ?_));exact k h' fun b o hb e=>hk b o (by show (sh.heap.update it _).get? b=some o;rw[Ybi _ _ _ _ hb];exact e)
def ZiL (q:Qh Ar sh.heap)(I:Yef sh.heap l xs)(k:∀ h',Ydf sh.heap.objs.size sh.heap h'->Q xs.toList { sh with heap:=h' }):YaF (YaJ Pg Wd) Ar (unpackItems (.ref l) xs.size none) Q Ee sh:=by
 have nl:l≠sh.heap.objs.size:=by obtain ⟨o,ho,_⟩:=I;exact YaK (Yal ho)
 unfold unpackItems;refine Yac ?_;unfold notIterableAtAll;refine Yac (YdA I.typeIs slot_tuple_iter.lookup (Yat ?_));simp only[Yb5,if_false];refine Yac (Ybp (iter_tuple I (Yac (Ybp (draw_tuple nl xs.size 0 _ _ ⟨_,YaC _ rfl,rfl,rfl⟩ (I.push _) (by omega) fun h1 i1 s1=>?_)))));have U:List.take xs.size (List.drop 0 xs.toList)=xs.toList:=by rw[List.drop_zero,Ydc (by simp)]
 rw[U,if_neg (by simp)];have l1:Yef h1 l xs:=(I.push _).extBut s1.extBut nl;have q1:Qh Ar h1:=q.keep fun e _ o J=>s1.extBut e o (YaK (Yal J)) (Yad _ J)
 refine Yac (Ybp (ZiK (sh:={ sh with heap:=h1 }) q1 (fun e a=>?_) i1 l1 (by simp) fun h2 x2=>?_))
 ·rcases q with z|⟨e2,o,z,J,_⟩
  ·rw[z] at a;cases a
  ·rw[z] at a;have:e2=e:=by injection a with a;injection a
   subst this;exact YaK (Yal J)
 ·simp only[Option.isSome_none,Yb5,if_false];exact Yat (k h2 fun b o Y e=>x2 b o Y (s1.extBut b o Y (Yad _ e)))
def Zlc (q:Qh Ar sh.heap)(I:Yef sh.heap l xs)(J:ts.length=xs.size)(z:ts.findIdx? (·.1)=none)
  (k:∀ h',Ydf sh.heap.objs.size sh.heap h'->YaF (YaJ Pg Wd) Ar (assignInOrder (ts.map (·.2)) xs.toList) Q Ee { sh with heap:=h' }):YaF (YaJ Pg Wd) Ar (unpack (.ref l) ts) Q Ee sh:=by
 unfold unpack;rw[J,z];exact Yac (Ybp (ZiL q I k))
def Zls {x1}(q:Qh Ar sh.heap)(I:Yef sh.heap l xs)(J:(Ybt es env).length=xs.size)(z:(Ybt es env).findIdx? (·.1)=none)
  (k:∀ h',Ydf sh.heap.objs.size sh.heap h'->YaF (YaJ Pg Wd) Ar (assignInOrder ((Ybt es env).map (·.2)) xs.toList) Q Ee { sh with heap:=h' }):YaF (YaJ Pg Wd) Ar (YeS (.Tuple es x1 pos) env (.ref l)) Q Ee sh:=by
 rw[assign_Tuple];exact Yac (YbP (Zlc q I J z k))
end
noncomputable abbrev Key:=Sum Int Str
def Zhb:Key->Yag->Bool
 | .inl k,v=>Yag.isInt k v
 | .inr x,v=>Yag.isStrOf x v
def Zzb (w:Ybg):Key->Int
 | .inl k=>hashInt k
 | .inr x=>hashStr w x
theorem Zal:∀ {k:Key} {v:Yag},Zhb k v=true->(∃ i t,k=Ye4 i/\v=Yej i t)\/(∃ x t,k=Ye5 x/\v=YdV x t)
 | .inl i,v,h=>by
  obtain ⟨t,e⟩:=Yag.isInt_shape (k:=i) (v:=v) h;exact .inl ⟨i,t,rfl,e⟩
 | .inr x,v,h=>by
  obtain ⟨t,e⟩:=Yag.isStrOf_shape (x:=x) (v:=v) h;exact .inr ⟨x,t,rfl,e⟩
def Zh9 (i:Int)(t:Tok):Zhb (.inl i) (.int i t)=true:=by simp[Zhb,Yag.isInt]
def Zjm (x:Str)(t:Tok):Zhb (.inr x) (.str x t)=true:=by simp[Zhb,Yag.isStrOf]
def Zti (a b:Int):decide ((Ye4 a:Key)=Ye4 b)=(a == b):=by
 by_cases e:a=b
 ·subst e;simp
 ·have h:¬(Ye4 a:Key)=Ye4 b:=fun q=>e (Ye4.inj q)
  rw[decide_eq_false h];exact (beq_eq_false_iff_ne.mpr e).symm
def Zr9 (a b:Str):decide ((Ye5 a:Key)=Ye5 b)=decide (a=b):=by
 by_cases e:a=b
 ·subst e;simp
 ·have h:¬(Ye5 a:Key)=Ye5 b:=fun q=>e (Ye5.inj q)
  rw[decide_eq_false h,decide_eq_false e]
def ZtS (a:Int)(b:Str):decide ((Ye4 a:Key)=Ye5 b)=false:=decide_eq_false (fun q=>nomatch q)
def Zsm (a:Str)(b:Int):decide ((Ye5 a:Key)=Ye4 b)=false:=decide_eq_false (fun q=>nomatch q)
def Zao (prog:YaN)(w:Ybg):PySem.KeyKind prog w Key where
 is:=Zhb
 hash:=Zzb w
 inj:=fun v a b Y J=>by
  rcases Zal Y with ⟨i,t,rfl,rfl⟩|⟨x,t,rfl,rfl⟩
  ·rcases Zal J with ⟨j,u,rfl,e⟩|⟨y,u,rfl,e⟩
   ·injection e with z _;rw[z]
   ·exact nomatch e
  ·rcases Zal J with ⟨j,u,rfl,e⟩|⟨y,u,rfl,e⟩
   ·exact nomatch e
   ·injection e with z _;rw[z]
 byValue:=fun k v h=>by
  rcases Zal h with ⟨i,t,rfl,rfl⟩|⟨x,t,rfl,rfl⟩<;>rfl
 pyHash:=fun I h=>by
  rcases Zal I with ⟨i,t,rfl,rfl⟩|⟨x,t,rfl,rfl⟩
  ·exact wpAny_pyHash_int h
  ·exact wpAny_pyHash_str h
 eqBool:=fun U I h=>by
  rcases Zal U with ⟨i,t,rfl,rfl⟩|⟨x,t,rfl,rfl⟩
  ·rcases Zal I with ⟨j,u,rfl,rfl⟩|⟨y,u,rfl,rfl⟩
   ·rw[Zti] at h;exact wpAny_eqBool_int h
   ·rw[ZtS] at h;exact YeT i t y u _ _ _ _ h
  ·rcases Zal I with ⟨j,u,rfl,rfl⟩|⟨y,u,rfl,rfl⟩
   ·rw[Zsm] at h;exact YeU x t j u _ _ _ _ h
   ·rw[Zr9] at h;exact wpAny_eqBool_str h
 «strs»:=fun k x t v h=>by
  rcases Zal h with ⟨i,u,rfl,e⟩|⟨y,u,rfl,e⟩
  ·exact nomatch e
  ·injection e with z _
   subst z;cases v<;>rfl
def ZfD (prog:YaN)(w:Ybg)(i:Int)(t:Tok):(Zao prog w).is (.inl i) (.int i t)=true:=Zh9 i t
def ZfX (prog:YaN)(w:Ybg)(x:Str)(t:Tok):(Zao prog w).is (.inr x) (.str x t)=true:=Zjm x t
inductive V where
 | non | bl (b:Bool) | int (i:Int) | str (x:Str) | byt (b:Array UInt8) | flt (b:UInt64) | ref (a:Yaq) | ty (n:String)
 deriving DecidableEq
def RelV:V->Yag->Prop
 | .non,u=>u=Ya5
 | .bl b,u=>u=YcW b
 | .int i,u=>∃ t,u=Yej i t
 | .str x,u=>∃ t,u=YdV x t
 | .byt b,u=>∃ t,u=Yag.bytes b t
 | .flt b,u=>∃ t,u=Yag.float b t
 | .ref a,u=>u=Yay a
 | .ty n,u=>u=YdW n
abbrev Vals:List V->List Yag->Prop:=YcX RelV
theorem Vals.length (r:Vals xs us):xs.length=us.length:=Ydy r
theorem Vals.get:∀ {xs:List V} {us:List Yag} {i:Nat} {x:V},Vals xs us->xs[i]?=some x->∃ u,us[i]?=some u/\RelV x u
 | _,_,_,_,.nil,e=>by simp at e
 | _,_,0,_,.cons r _,e=>by simp at e;subst e;exact ⟨_,rfl,r⟩
 | _,_,i+1,x,.cons _ t,e=>by
  obtain ⟨u,h1,h2⟩:=Vals.get (i:=i) (x:=x) t (by simpa using e);exact ⟨u,by simpa using h1,h2⟩
theorem Vals.append:∀ {xs ys:List V} {us ws:List Yag},Vals xs us->Vals ys ws->Vals (xs++ys) (us++ws)
 | _,_,_,_,.nil,s=>s
 | _,_,_,_,.cons r t,s=>.cons r (Vals.append t s)
theorem Vals.take:∀ {xs:List V} {us:List Yag} (n:Nat),Vals xs us->Vals (xs.take n) (us.take n)
 | _,_,0,_=>.nil
 | _,_,_+1,.nil=>.nil
 | _,_,n+1,.cons r t=>.cons r (Vals.take n t)
theorem Vals.drop:∀ {xs:List V} {us:List Yag} (n:Nat),Vals xs us->Vals (xs.drop n) (us.drop n)
 | _,_,0,r=>r
 | _,_,_+1,.nil=>.nil
 | _,_,n+1,.cons _ t=>Vals.drop n t
def RelO:Option V->Option Yag->Prop
 | some v,some u=>RelV v u
 | none,none=>True
 | _,_=>False
def KV {κ:Type}:List (κ×V)->List (κ×Yag)->Prop:=YcX fun (p:κ×V) (q:κ×Yag)=>p.1=q.1/\RelV p.2 q.2
noncomputable def kV:Key->V
 | .inl i=>.int i
 | .inr x=>.str x
inductive HO where
 | lst (xs:List V)
 | tup (xs:List V)
 | dK (kvs:List (Key×V)) | dT (kvs:List (List Key×V))
 | set (S:Int->Bool) (n:Nat)
 | ins (C dx:Yaq) (fs:List (Str×V))
 | own (x:Yaq)
 | xd (fs:List (Str×V))
 | met (f x:Yaq)
 | rng (lo hi:Int)
 | frz (o:Obj) (u:HO)
 | tbl (ps:Array Yag)
 | ext (φ:YbO->Prop)
noncomputable abbrev Hp:=Yaq->Option HO
noncomputable def upd (H:Hp)(a:Yaq)(o:HO):Hp:=fun b=>if b=a then some o else H b
def Zae:upd H a o a=some o:=by unfold upd;rw[if_pos rfl]
def Zab (h:b≠a):upd H a o b=H b:=by unfold upd;rw[if_neg h]
def ZoA:upd (upd H a o) a u=upd H a u:=by
 funext b;unfold upd;split<;>rfl
def Zwi {H:Hp}{a b:Yaq}{o u:HO}(h:H a=some o)(h':H b=some u)(d:o≠u):a≠b:=by
 intro e;subst e;rw[h] at h';exact d (YaT h')
def Zag {H:Hp}{a b:Yaq}{o:HO}(h:H a=some o)(h':H b=none):a≠b:=by
 intro e;subst e;rw[h] at h';cases h'
section
variable (P:YaN) (w:Ybg)
def ObjOk (H:Hp)(h:YbO)(a:Yaq):HO->Prop
 | .lst xs=>xs.length<=Yai/\∃ (its:List Yag) (n:Nat),Vals xs its/\h.get? a=some { cls:=.type "list",data:=.seq its.toArray n }
 | .tup xs=>xs.length<=Yai/\∃ its:List Yag,Vals xs its/\Yef h a its.toArray
 | .dK kvs=>kvs.length<=Yai/\(a == YcI)=false/\∃ vs,KV kvs vs/\h.DictOf (Zao P w) a vs
 | .dT kvs=>kvs.length<=Yai/\(a == YcI)=false/\∃ xs:List (List Key×Yaq×Yag),
   YcX (fun (p:List Key×V) (q:List Key×Yaq×Yag)=>p.1=q.1/\H q.2.1=some (.tup (p.1.map kV))/\RelV p.2 q.2.2) kvs xs /\
   ∃ o es ep,h.get? a=some o/\o.ExactDict/\o.data=.dict es ep/\es.toList=xs.map (entryOfKey (YeV (Zao P w)))/\(xs.map (·.1)).Nodup
 | .set S n=>h.SetOf (intKind P w) a S n
 | .ins C dx fs=>H dx=some (.own a)/\fs.length<=1000/\dx≠a/\h.get? a=some (YbV C dx) /\
   ∃ mA,h.Ns1 dx mA/\(∀ f,RelO (fs.lookup f) (mA f))/\Yfd mA (fs.map (·.1))
 | .own _=>∃ o,h.get? a=some o
 | .xd fs=>∃ mA,h.Ns1 a mA/\∀ f,RelO (fs.lookup f) (mA f)
 | .rng lo hi=>∃ t u v,h.get? a=some { cls:=.type "range",data:=.fields #[.int lo t,.int hi u,.int 1 v] }
 | .frz o u=>h.get? a=some o/\ObjOk H h a u
 | .tbl ps=>h.get? a=some { cls:=.none,data:=.fields ps }
 | .met f x=>h.get? a=some (YdX (.ref f) (.ref x))
 | .ext φ=>φ h/\(∃ o,h.get? a=some o)/\∀ h1 h2:YbO,φ h1->(∀ o,h1.get? a=some o->h2.get? a=some o)->φ h2
def HOk (H:Hp)(h:YbO):Prop:=∀ a o,H a=some o->ObjOk P w H h a o
end
section
variable {P:YaN} {w:Ybg} {H H':Hp} {h h':YbO} {a:Yaq} {o:HO}
theorem ObjOk.lt (x:ObjOk P w H h a o):a<h.objs.size:=by
 cases o with
 | lst xs=>obtain ⟨_,_,_,_,e⟩:=x;exact Yal e
 | tup xs=>obtain ⟨_,_,_,p⟩:=x;exact p.lt
 | dK kvs=>obtain ⟨_,_,_,_,o,_,_,e,_⟩:=x;exact Yal e
 | dT kvs=>obtain ⟨_,_,_,_,o,_,_,e,_⟩:=x;exact Yal e
 | set S n=>obtain ⟨o,_,_,_,e,_⟩:=x;exact Yal e
 | ins C dx fs=>obtain ⟨_,_,_,e,_⟩:=x;exact Yal e
 | own y=>obtain ⟨_,e⟩:=x;exact Yal e
 | xd fs=>obtain ⟨_,⟨_,_,_,e,_⟩,_⟩:=x;exact Yal e
 | rng lo hi=>obtain ⟨_,_,_,e⟩:=x;exact Yal e
 | frz ob u=>obtain ⟨e,_⟩:=x;exact Yal e
 | tbl ps=>exact Yal (show h.get? a=some _ from x)
 | met f y=>exact Yal (show h.get? a=some _ from x)
 | ext φ=>obtain ⟨_,⟨_,e⟩,_⟩:=x;exact Yal e
theorem YcX.mapP:∀ {z:List α} {I:List β},YcX F z I->(∀ a b,F a b->G a b)->YcX G z I
 | _,_,.nil,_=>.nil
 | _,_,.cons r t,f=>.cons (f _ _ r) (YcX.mapP t f)
def ObjOk.stay (x:ObjOk P w H h a o)(k:∀ b u,(b=a\/H b=some (.own a))->h.get? b=some u->h'.get? b=some u)
  (ho:∀ b,H b=some (.own a)->H' b=some (.own a)) (U:∀ b xs,H b=some (.tup xs)->H' b=some (.tup xs)):ObjOk P w H' h' a o:=by
 induction o with
 | lst xs=>obtain ⟨z,its,n,r,e⟩:=x;exact ⟨z,its,n,r,k _ _ (.inl rfl) e⟩
 | tup xs=>obtain ⟨z,its,r,ob,e,c⟩:=x;exact ⟨z,its,r,ob,k _ _ (.inl rfl) e,c⟩
 | dK kvs=>obtain ⟨z,y,vs,r,ob,es,ep,e,c⟩:=x;exact ⟨z,y,vs,r,ob,es,ep,k _ _ (.inl rfl) e,c⟩
 | dT kvs=>
  obtain ⟨z,y,xs,r,ob,es,ep,e,c⟩:=x;exact ⟨z,y,xs,YcX.mapP r fun p q z=>⟨z.1,U _ _ z.2.1,z.2.2⟩,ob,es,ep,k _ _ (.inl rfl) e,c⟩
 | set S n=>obtain ⟨ob,es,ep,t,e,c⟩:=x;exact ⟨ob,es,ep,t,k _ _ (.inl rfl) e,c⟩
 | ins C dx fs=>
  obtain ⟨d,z,I,e,mA,⟨od,es,ep,J,c⟩,r⟩:=x;exact ⟨ho _ d,z,I,k _ _ (.inl rfl) e,mA,⟨od,es,ep,k _ _ (.inr d) J,c⟩,r⟩
 | own y=>obtain ⟨ob,e⟩:=x;exact ⟨ob,k _ _ (.inl rfl) e⟩
 | xd fs=>obtain ⟨mA,⟨od,es,ep,e,c⟩,r⟩:=x;exact ⟨mA,⟨od,es,ep,k _ _ (.inl rfl) e,c⟩,r⟩
 | rng lo hi=>obtain ⟨t,u,v,e⟩:=x;exact ⟨t,u,v,k _ _ (.inl rfl) e⟩
 | frz ob u Y=>obtain ⟨e,q⟩:=x;exact ⟨k _ _ (.inl rfl) e,Y q⟩
 | tbl ps=>
  have e:h.get? a=some { cls:=.none,data:=.fields ps }:=x;show h'.get? a=some { cls:=.none,data:=.fields ps };exact k a _ (.inl rfl) e
 | met f y=>
  have e:h.get? a=some (YdX (.ref f) (.ref y)):=x;show h'.get? a=some (YdX (.ref f) (.ref y));exact k a _ (.inl rfl) e
 | ext φ=>obtain ⟨p,⟨o,e⟩,st⟩:=x;exact ⟨st _ _ p fun o q=>k _ _ (.inl rfl) q,⟨o,k _ _ (.inl rfl) e⟩,st⟩
theorem HOk.lt (x:HOk P w H h)(e:H a=some o):a<h.objs.size:=(x a o e).lt
def HOk.fresh (x:HOk P w H h)(e:h.objs.size<=a):H a=none:=by
 cases q:H a with
 | none=>rfl
 | some u=>exact absurd (YaI (x.lt q) e) (Yci _)
def HOk.kept (x:HOk P w H h)(k:∀ b u,h.get? b=some u->h'.get? b=some u):HOk P w H h':=fun a o e=>
 (x a o e).stay (fun b u _ q=>k b u q) (fun _ q=>q) fun _ _ q=>q
def HOk.laid (x:HOk P w H h)(k:∀ b u,h.get? b=some u->h'.get? b=some u)(U:h.objs.size<=a)(z:ObjOk P w (upd H a o) h' a o):HOk P w (upd H a o) h':=fun b u e=>by
 have J:=x.fresh U;by_cases I:b=a
 ·subst I;rw[Zae] at e;cases e;exact z
 ·rw[Zab I] at e;exact (x b u e).stay (fun c v _ q=>k c v q) (fun c q=>by rw[Zab (Zag q J)];exact q) fun c xs q=>by rw[Zab (Zag q J)];exact q
end
def Rd (H:Hp)(a:Yaq)(u:HO):Prop:=H a=some u\/∃ o,H a=some (.frz o u)
def Rd.of (h:H a=some u):Rd H a u:=.inl h
def Rd.ok (r:Rd H a u)(x:HOk P w H h):ObjOk P w H h a u:=by
 rcases r with r|⟨o,r⟩
 ·exact x a u r
 ·obtain ⟨_,q⟩:=x a _ r;exact q
def Mut:Option HO->Prop
 | some (.lst _)=>True
 | some (.dK _)=>True
 | some (.dT _)=>True
 | some (.set _ _)=>True
 | some (.ins _ _ _)=>True
 | some (.ext _)=>True
 | _=>False
section
variable {P:YaN} {w:Ybg} {H:Hp} {h h':YbO} {x e:Yaq} {o':HO}
def HOk.write (ok:HOk P w H h)(mu:Mut (H x))(he:e=x\/H e=some (.own x))(k:∀ b u,b≠e->h.get? b=some u->h'.get? b=some u)(ac:∃ u,h'.get? e=some u)
  (aa:ObjOk P w (upd H x o') h' x o'):HOk P w (upd H x o') h':=fun b u q=>by
 have J:∀ c y,H c=some (.own y)->c≠x:=fun c y r z=>by subst z;rw[r] at mu;exact mu
 have U:∀ c xs,H c=some (.tup xs)->c≠x:=fun c xs r z=>by subst z;rw[r] at mu;exact mu
 by_cases hb:b=x
 ·subst hb;rw[Zae] at q;cases q;exact aa
 ·rw[Zab hb] at q;by_cases I:b=e
  ·have q':H b=some (.own x):=by
    rcases he with z|z
    ·exact absurd (I.trans z) hb
    ·rw[I];exact z
   rw[q] at q';cases q';obtain ⟨v,hv⟩:=ac;exact ⟨v,by rw[I];exact hv⟩
  ·refine (ok b u q).stay (fun c v Y r=>k c v ?_ r) (fun c r=>by rw[Zab (J c b r)];exact r) fun c xs r=>by rw[Zab (U c xs r)];exact r
   rcases Y with rfl|Y
   ·exact I
   ·rintro rfl;rcases he with z|z
    ·exact J c b Y z
    ·rw[Y] at z;cases z;exact hb rfl
end
structure Un (fs ex:List Yaq)(H H':Hp)(h h':YbO):Prop where
 keep:∀ b o,h.get? b=some o->H b=none->b ∉ fs->b ∉ ex->h'.get? b=some o
 slot:∀ b o,h.get? b=some o->H b=none->b∈fs->b ∉ ex->∃ sl,h'.get? b=some { o with slots:=sl }
 free:∀ b o,h.get? b=some o->H b=none->b ∉ ex->H' b=none
 there:∀ b o,h.get? b=some o->b ∉ ex->∃ o',h'.get? b=some o'
 tups:∀ b xs,H b=some (.tup xs)->H' b=some (.tup xs)
 frzs:∀ b o u,H b=some (.frz o u)->H' b=some (.frz o u)
 tbls:∀ b ps,H b=some (.tbl ps)->∃ more,H' b=some (.tbl (ps++more))
section
variable {fs fs' ex ex':List Yaq} {H H1 H2:Hp} {h h1 h2 h':YbO} {a x e:Yaq} {o:HO}
def Un.any (u:Un fs ex H H1 h h1)(q:h.get? b=some ob)(n:H b=none)(z:b ∉ ex):∃ sl,h1.get? b=some { ob with slots:=sl }:=by
 by_cases I:b∈fs
 ·exact u.slot b ob q n I z
 ·exact ⟨ob.slots,u.keep b ob q n I z⟩
def Un.kept (k:∀ b u,h.get? b=some u->h'.get? b=some u):Un fs ex H H h h':=
 ⟨fun b ob q _ _ _=>k b ob q,fun b ob q _ _ _=>⟨ob.slots,k b ob q⟩,fun _ _ _ n _=>n,fun b ob q _=>⟨ob,k b ob q⟩,fun _ _ q=>q,fun _ _ _ q=>q,fun _ ps q=>⟨#[],by rw[q];simp⟩⟩
def Un.refl:Un fs ex H H h h:=Un.kept fun _ _ q=>q
theorem Un.laid (k:∀ b u,h.get? b=some u->h'.get? b=some u)(I:h.objs.size<=a)(z:H a=none):Un fs ex H (upd H a o) h h' where
 keep:=fun b u q _ _ _=>k b u q
 slot:=fun b u q _ _ _=>⟨u.slots,k b u q⟩
 free:=fun b u q n _=>by rw[Zab (YaK (YaI (Yal q) I))];exact n
 there:=fun b u q _=>⟨u,k b u q⟩
 tups:=fun b xs q=>by rw[Zab (Zag q z)];exact q
 frzs:=fun b u xs q=>by rw[Zab (Zag q z)];exact q
 tbls:=fun b ps q=>⟨#[],by rw[Zab (Zag q z),q];simp⟩
def Un.write (J:Mut (H x))(he:e=x\/H e=some (.own x))(k:∀ b u,b≠e->h.get? b=some u->h'.get? b=some u)(Y:∃ u,h'.get? e=some u):Un fs ex H (upd H x o) h h':=by
 have hx:∀ b,H b=none->b≠x:=fun b n z=>by subst z;rw[n] at J;exact J
 have hb:∀ b,H b=none->b≠e:=fun b n z=>by
  subst z;rcases he with r|r
  ·exact hx b n r
  ·rw[n] at r;cases r
 have U:∀ b u,H b=some u->¬Mut (some u)->b≠x:=fun b u q nm z=>by subst z;rw[q] at J;exact nm J
 refine ⟨fun b u q n _ _=>k b u (hb b n) q,fun b u q n _ _=>⟨u.slots,k b u (hb b n) q⟩,fun b u q n _=>by rw[Zab (hx b n)];exact n,fun b u q _=>?_,
  fun b xs q=>by rw[Zab (U b _ q fun z=>z)];exact q,fun b u xs q=>by rw[Zab (U b _ q fun z=>z)];exact q,fun b ps q=>⟨#[],by rw[Zab (U b _ q fun z=>z),q];simp⟩⟩
 by_cases I:b=e
 ·subst I;exact Y
 ·exact ⟨u,k b u I q⟩
end
noncomputable def trk (h:YbO)(H:Hp):List Yaq:=(YbM h.objs.size).filter fun a=>(H a).isSome
def ZkK (h:YbO)(H:Hp):YbO:=PySem.W.hideAll h (trk h H)
def ZjR (h:YbO)(H:Hp):(ZkK h H).objs.size=h.objs.size:=PySem.W.hideAll_size _ _
def ZlI (e:h.get? b=some o)(n:H b=none):(ZkK h H).get? b=some o:=
 PySem.W.hideAll_get _ e fun z=>by
  have q:(H b).isSome=true:=(Ycv.mp z).2;rw[n] at q;simp at q
def Znl (e:(ZkK h H).get? b=some o):h.get? b=some o/\H b=none:=by
 have I:h.get? b=some o:=PySem.W.of_hideAll (trk h H) e;refine ⟨I,?_⟩;cases q:H b with
 | none=>rfl
 | some x=>
  have J:b∈trk h H:=Ycv.mpr ⟨Ydn.mpr (Yal I),by simp[q]⟩;have z:(ZkK h H).get? b=none:=PySem.W.hideAll_none (trk h H) J;rw[z] at e;cases e
structure Mod (K:Yab)(mg:Str->Option Yag)(base:YbO):Prop where
 kin:K.In base
 glob:base.Ns YaO mg
 blt:∃ mb,base.Ns builtinsNs mb/\∀ x:Str,x≠"__name__"->mb x=YaR x
 nolimit:base.NoLimit
structure Cx where
 prog:YaN
 w:Ybg
 K:Yab
 mg:Str->Option Yag
 base:YbO
 A:Ybr
 N:List Str
 s₀:Yaj
 H₀:Hp
 env:Env
 outer:List Env
 stack:List Env
 ex:List Yaq
 fn:Str->Bool
 calm:Bool
 pn:List (Yaq×Obj)
 xe:Yag->Yaj->Prop
noncomputable def frs (l:List Env):List Yaq:=l.filterMap (·.frame)
abbrev Cx.fs (X:Cx):List Yaq:=frs X.outer
def Vis (z:YcQ)(x:Str):Prop:=z.names.lookup x=some .local\/z.names.lookup x=some .cell\/z.names.lookup x=some .free
def Loc (z:YcQ)(x:Str):Prop:=z.names.lookup x=some .local\/z.names.lookup x=some .cell
def Zy4 (env:Env)(h:YbO)(m:Str->Option Yag)(x:Str)(u:Yag):Prop:=
 (env.kindOf x=some .local/\m x=some u)\/((env.kindOf x=some .cell\/env.kindOf x=some .free)/\∃ c,env.cells.lookup x=some c/\h.IsCell c (some u))
def Lq (X:Cx):Prop:=X.A.handled=none\/∃ e o u,X.A.handled=some (.ref e)/\ZoR o/\X.H₀ e=some (.frz o u)
structure Cx.Ok (X:Cx):Prop where
 mod:Mod X.K X.mg X.base
 kind:X.env.scope.kind=.function
 glob:X.env.globals=YaO
 blt:X.env.builtins=builtinsNs
 above:X.s₀.heap.objs.size<=X.env.locals
 inj:∀ x y c,X.env.cells.lookup x=some c->X.env.cells.lookup y=some c->x=y
 has:∀ x,(X.env.kindOf x=some .cell\/X.env.kindOf x=some .free)->∃ c,X.env.cells.lookup x=some c
 cab:∀ x c,X.fn x=true->X.env.cells.lookup x=some c->X.s₀.heap.objs.size<=c
 hd:X.calm=true->X.A.handled=none
 frames:X.A.frames=some X.stack
 stk:X.stack=X.outer\/(X.stack=X.env::X.outer/\X.env.frame=some X.env.locals)
 exf:∀ b∈X.ex,b≠X.env.locals/\∀ x c,X.env.cells.lookup x=some c->c≠b
 bs:∀ b o,X.base.get? b=some o->X.s₀.heap.get? b=some o/\X.H₀ b=none
 bsz:X.base.objs.size<=X.s₀.heap.objs.size
 noex:∀ b o,X.base.get? b=some o->b ∉ X.ex
 exfs:∀ b∈X.ex,b ∉ X.fs
 funs:X.s₀.heap.FunFrames X.base X.outer
 frf:∀ b∈X.fs,X.H₀ b=none
 lq:Lq X
structure Inv (X:Cx)(pins:List (Yaq×Obj))(σ:List (Option V))(H:Hp)(s:Yaj):Prop where
 ok:X.Ok
 os:s.os=X.s₀.os
 bare:Yd6 s.gens
 base:Un X.fs X.ex X.H₀ H X.s₀.heap s.heap
 loc:∃ m,s.heap.Ns X.env.locals m/\∀ (i:Nat) (x:Str) (v:V),X.N[i]?=some x->σ[i]?=some (some v)->Vis X.env.scope x->∃ u,RelV v u/\Zy4 X.env s.heap m x u
 cell:∀ x c,X.env.cells.lookup x=some c->∃ v,s.heap.IsCell c v
 free:H X.env.locals=none
 freeC:∀ x c,X.env.cells.lookup x=some c->H c=none
 pin:∀ p∈X.pn++pins,s.heap.get? p.1=some p.2/\H p.1=none/\p.1≠X.env.locals/\p.1 ∉ X.fs/\∀ v,p.2.data≠.cell v
 hok:HOk X.prog X.w H s.heap
 len:σ.length=X.N.length
section
variable {X:Cx} {pins:List (Yaq×Obj)} {σ:List (Option V)} {H H':Hp} {s:Yaj} {h':YbO}
def Cx.Ok.nofr (ok:X.Ok)(e:X.base.get? b=some o):b ∉ X.fs:=fun z=>by
 have:=(ok.funs.mem z).1;rw[e] at this;cases this
def Inv.lqh (I:Inv X pins σ H s):X.A.handled=none\/∃ e o u,X.A.handled=some (.ref e)/\ZoR o/\H e=some (.frz o u):=I.ok.lq.imp id fun ⟨e,o,u,a,b,c⟩=>⟨e,o,u,a,b,I.base.frzs e o u c⟩
def Inv.qh (I:Inv X pins σ H s):Qh X.A s.heap:=I.lqh.imp id fun ⟨e,o,u,a,b,c⟩=>⟨e,o,a,(show s.heap.get? e=some o/\_ from I.hok e _ c).1,b⟩
def Inv.qne (I:Inv X pins σ H s)(U:H b=none):∀ e,X.A.handled=some (.ref e)->e≠b:=fun e z q=>by
 rcases I.lqh with y|⟨J,o,u,y,_,c⟩
 ·rw[y] at z;cases z
 ·rw[y] at z;have:J=e:=by injection z with z;injection z
  rw[this,q,U] at c;cases c
theorem Inv.bs (I:Inv X pins σ H s):∀ b o,X.base.get? b=some o->s.heap.get? b=some o/\H b=none:=fun b o e=>
 ⟨I.base.keep b o (I.ok.bs b o e).1 (I.ok.bs b o e).2 (I.ok.nofr e) (I.ok.noex b o e),I.base.free b o (I.ok.bs b o e).1 (I.ok.bs b o e).2 (I.ok.noex b o e)⟩
def Inv.bk (I:Inv X pins σ H s):∀ b o,X.base.get? b=some o->s.heap.get? b=some o:=fun b o e=>(I.bs b o e).1
theorem Inv.mod (I:Inv X pins σ H s):Mod X.K X.mg X.base:=I.ok.mod
def Inv.kIn (I:Inv X pins σ H s):X.K.In s.heap:=I.ok.mod.kin.keeps I.bk
theorem Inv.lt (I:Inv X pins σ H s):X.env.locals<s.heap.objs.size:=let ⟨_,z,_⟩:=I.loc;z.lt
def Inv.sz (I:Inv X pins σ H s):X.s₀.heap.objs.size<=s.heap.objs.size:=YbE I.ok.above (Nat.le_of_lt I.lt)
def Inv.nofs (I:Inv X pins σ H s)(h:s.heap.objs.size<=a):a ∉ X.fs:=fun z=>by
 obtain ⟨_,o,ho,_⟩:=I.ok.funs.mem z;exact absurd (YaI (Yal ho) (YbE I.sz h)) (Yci _)
def Inv.cne (I:Inv X pins σ H s):∀ x c,X.env.cells.lookup x=some c->c≠X.env.locals:=fun x c e z=>by
 obtain ⟨v,o,ho,Y⟩:=I.cell x c e;obtain ⟨m,⟨o',es,ep,J,U,_⟩,_⟩:=I.loc;rw[z,J] at ho;cases ho;rw[U] at Y;cases Y
theorem Inv.funs (I:Inv X pins σ H s):s.heap.FunFrames X.base X.outer:=by
 have Y:∀ (l:List Env),(∀ b∈frs l,b∈X.fs)->X.s₀.heap.FunFrames X.base l->s.heap.FunFrames X.base l:=by
  intro l
  induction l with
  | nil=>intro _ _;trivial
  | cons env r ih=>
   intro hs hl;obtain ⟨hk,⟨L,o,J,hn,ho,hd⟩,hr⟩:=hl;have hL:L∈X.fs:=hs L (by unfold frs;rw[YdB,J];exact YaD);obtain ⟨sl,e⟩:=I.base.slot L o ho (I.ok.frf L hL) hL fun z=>I.ok.exfs L z hL
   exact ⟨hk,⟨L,_,J,hn,e,hd⟩,ih (fun b U=>hs b (by unfold frs;rw[YdB,J];exact Yau _ U)) hr⟩
 exact Y X.outer (fun _ U=>U) I.ok.funs
theorem Inv.stack (I:Inv X pins σ H s):s.heap.FunFrames X.base X.stack:=by
 rcases I.ok.stk with e|⟨e,z⟩
 ·rw[e];exact I.funs
 ·rw[e];obtain ⟨m,J,_⟩:=I.loc;refine .cons (by rw[I.ok.kind];decide) z J ?_ I.funs;exact YbD (YbE I.ok.bsz I.ok.above)
def Inv.stkSub (I:Inv X pins σ H s):∀ b∈frs X.stack,b∈X.env.locals::X.fs:=fun b z=>by
 rcases I.ok.stk with e|⟨e,J⟩
 ·rw[e] at z;exact Yau _ z
 ·rw[e] at z;unfold frs at z;rw[YdB,J] at z;exact z
def Inv.stkFree (I:Inv X pins σ H s):∀ b∈frs X.stack,H b=none:=fun b J=>by
 rcases Yaz.mp (I.stkSub b J) with e|J
 ·rw[e];exact I.free
 ·obtain ⟨_,o,ho,_⟩:=I.ok.funs.mem J;exact I.base.free b o ho (I.ok.frf b J) fun z=>I.ok.exfs b z J
def Inv.step {g':Array GenState}{t':Nat}{d':Drawn}{ch:List Yaq}(I:Inv X pins σ H s)
  (ac:∀ b∈ch,(b∈X.ex\/X.s₀.heap.objs.size<=b)/\b≠X.env.locals/\(∀ x c,X.env.cells.lookup x=some c->c≠b)/\∀ p∈X.pn++pins,p.1≠b)
  (Y:∀ b o,b≠X.env.locals->b ∉ X.fs->b ∉ ch->s.heap.get? b=some o->H b=none->h'.get? b=some o)
  (ag:∀ b o,b≠X.env.locals->b∈X.fs->b ∉ ch->s.heap.get? b=some o->H b=none->∃ sl,h'.get? b=some { o with slots:=sl }) (U:∀ b o,b ∉ ch->s.heap.get? b=some o->H b=none->H' b=none)
  (ah:∀ b o,b ∉ ch->s.heap.get? b=some o->∃ o',h'.get? b=some o')
  (al:∀ b xs,H b=some (.tup xs)->H' b=some (.tup xs)) (ak:∀ b o u,H b=some (.frz o u)->H' b=some (.frz o u)) (aj:∀ b ps,H b=some (.tbl ps)->∃ more,H' b=some (.tbl (ps++more)))
  (ns:∀ m,s.heap.Ns X.env.locals m->h'.Ns X.env.locals m) (am:HOk X.prog X.w H' h') (hg:Yd6 g') :
  Inv X pins σ H' { s with heap:=h',gens:=g',drawn:=d',toks:=t' }:=by
 have ai:∀ b o,X.s₀.heap.get? b=some o->b≠X.env.locals:=fun b o e=>YaK (YaI (Yal e) I.ok.above)
 have af:∀ b o,X.s₀.heap.get? b=some o->b ∉ X.ex->b ∉ ch:=fun b o e J hb=>by
  rcases (ac b hb).1 with z|z
  ·exact J z
  ·exact absurd (YaI (Yal e) z) (Yci _)
 have ae:∀ x c,X.env.cells.lookup x=some c->∀ v,s.heap.IsCell c v->h'.IsCell c v:=fun x c e v ⟨o,ho,hd⟩=>by
  have aa:c ∉ ch:=fun z=>(ac c z).2.2.1 x c e rfl
  by_cases hc:c∈X.fs
  ·obtain ⟨sl,q⟩:=ag c o (I.cne x c e) hc aa ho (I.freeC x c e);exact ⟨_,q,hd⟩
  ·exact ⟨o,Y c o (I.cne x c e) hc aa ho (I.freeC x c e),hd⟩
 refine ⟨I.ok,I.os,hg,⟨fun b o e n hb J=>?_,fun b o e n hb J=>?_,fun b o e n J=>?_,fun b o e J=>?_,fun b xs e=>al b xs (I.base.tups b xs e),fun b o xs e=>ak b o xs (I.base.frzs b o xs e),fun b ps e=>?_⟩,?_,fun x c e=>?_,?_,fun x c e=>?_,fun p hp=>?_,am,I.len⟩
 ·exact Y b o (ai b o e) hb (af b o e J) (I.base.keep b o e n hb J) (I.base.free b o e n J)
 ·obtain ⟨sl,e1⟩:=I.base.slot b o e n hb J;obtain ⟨ao,e2⟩:=ag b _ (ai b o e) hb (af b o e J) e1 (I.base.free b o e n J);exact ⟨ao,e2⟩
 ·obtain ⟨o',e1⟩:=I.base.there b o e J;exact U b o' (af b o e J) e1 (I.base.free b o e n J)
 ·obtain ⟨o',e1⟩:=I.base.there b o e J;exact ah b o' (af b o e J) e1
 ·obtain ⟨m1,e1⟩:=I.base.tbls b ps e;obtain ⟨m2,e2⟩:=aj b _ e1;exact ⟨m1++m2,by rw[e2,Array.append_assoc]⟩
 ·obtain ⟨m,hn,hl⟩:=I.loc;refine ⟨m,ns m hn,fun i x v e1 e2 e3=>?_⟩;obtain ⟨u,r,l⟩:=hl i x v e1 e2 e3;refine ⟨u,r,?_⟩;rcases l with l|⟨k,c,e,z⟩
  ·exact .inl l
  ·exact .inr ⟨k,c,e,ae x c e _ z⟩
 ·obtain ⟨v,z⟩:=I.cell x c e;exact ⟨v,ae x c e v z⟩
 ·obtain ⟨m,⟨o,_,_,ho,_⟩,_⟩:=I.loc;exact U _ o (fun z=>(ac _ z).2.1 rfl) ho I.free
 ·obtain ⟨v,o,ho,hd⟩:=I.cell x c e;exact U c o (fun z=>(ac c z).2.2.1 x c e rfl) ho (I.freeC x c e)
 ·obtain ⟨e,n,ne,nf,d⟩:=I.pin p hp;have aa:p.1 ∉ ch:=fun z=>(ac p.1 z).2.2.2 p hp rfl
  exact ⟨Y p.1 p.2 ne nf aa e n,U p.1 p.2 aa e n,ne,nf,d⟩
def Inv.un {t':Nat}(I:Inv X pins σ H s)(u:Un X.fs [] H H' s.heap h')(Y:HOk X.prog X.w H' h'):Inv X pins σ H' { s with heap:=h',toks:=t' }:=by
 obtain ⟨m,⟨o,es,ep,ho,r⟩,_⟩:=id I.loc;obtain ⟨sl,hL⟩:=u.any ho I.free (by simp);exact I.step (g':=s.gens) (d':=s.drawn) (ch:=[]) (fun _ z=>nomatch z) (fun b o _ hb _ e n=>u.keep b o e n hb (by simp)) (fun b o _ hb _ e n=>u.slot b o e n hb (by simp)) (fun b o _ e n=>u.free b o e n (by simp)) (fun b o _ e=>u.there b o e (by simp)) u.tups u.frzs u.tbls (fun m' hm=>by
  obtain ⟨o',U,aa,J,r'⟩:=hm;rw[ho] at J;cases J;exact ⟨_,U,aa,hL,r'⟩) Y I.bare
def Inv.call {g':Array GenState}{t':Nat}{d':Drawn}{ch:List Yaq}(I:Inv X pins σ H s)(u:Un (frs X.stack) ch H H' s.heap h')(ac:HOk X.prog X.w H' h')(hg:Yd6 g')
  (Y:∀ b∈ch,(b∈X.ex\/X.s₀.heap.objs.size<=b)/\b≠X.env.locals/\(∀ x c,X.env.cells.lookup x=some c->c≠b)/\∀ p∈X.pn++pins,p.1≠b) :
  Inv X pins σ H' { s with heap:=h',gens:=g',drawn:=d',toks:=t' }:=by
 obtain ⟨m,⟨o,es,ep,ho,r⟩,_⟩:=id I.loc;obtain ⟨sl,hL⟩:=u.any ho I.free fun z=>(Y _ z).2.1 rfl
 exact I.step (ch:=ch) Y (fun b o hL hb J e n=>u.keep b o e n (fun z=>(Yaz.mp (I.stkSub b z)).elim hL hb) J) (fun b o _ _ J e n=>u.any e n J) (fun b o J e n=>u.free b o e n J) (fun b o J e=>u.there b o e J) u.tups u.frzs u.tbls (fun m' hm=>by
  obtain ⟨o',aa,ae,U,r'⟩:=hm;rw[ho] at U;cases U;exact ⟨_,aa,ae,hL,r'⟩) ac hg
def Inv.turned {t':Nat}{it:Yaq}(I:Inv X pins σ H s)(k:∀ b o,b≠it->s.heap.get? b=some o->h'.get? b=some o)(hn:H it=none)(Y:it≠X.env.locals)
  (h1:it∈X.ex\/X.s₀.heap.objs.size<=it) (h2:∀ x c,X.env.cells.lookup x=some c->c≠it) (h3:∀ p∈X.pn++pins,p.1≠it):Inv X pins σ H { s with heap:=h',toks:=t' }:=by
 have U:∀ b u,H b=some u->b≠it:=fun b u e z=>by rw[z,hn] at e;cases e
 refine I.step (g':=s.gens) (d':=s.drawn) (ch:=[it]) (fun b hb=>?_) (fun b o _ _ J e _=>k b o (fun z=>J (by simp[z])) e) (fun b o _ _ J e _=>⟨o.slots,k b o (fun z=>J (by simp[z])) e⟩) (fun _ _ _ _ n=>n)
  (fun b o J e=>⟨o,k b o (fun z=>J (by simp[z])) e⟩) (fun _ _ e=>e) (fun _ _ _ e=>e) (fun b ps e=>⟨#[],by rw[e];simp⟩) (fun m hm=>?_) (fun b u e=>?_) I.bare
 ·have e:b=it:=by simpa using hb
  subst e;exact ⟨h1,Y,h2,h3⟩
 ·obtain ⟨o,es,ep,ho,r⟩:=hm;exact ⟨o,es,ep,k _ o (YbW Y) ho,r⟩
 ·refine (I.hok b u e).stay (fun c v J q=>k c v ?_ q) (fun _ q=>q) fun _ _ q=>q
  rcases J with z|z
  ·rw[z];exact U b u e
  ·exact U c _ z
def Inv.tok (I:Inv X pins σ H s)(t:Nat):Inv X pins σ H { s with toks:=t }:=I.un (h':=s.heap) (t':=t) Un.refl I.hok
theorem Inv.kept (I:Inv X pins σ H s)(k:∀ b u,s.heap.get? b=some u->h'.get? b=some u):Inv X pins σ H { s with heap:=h',toks:=t' }:=I.un (Un.kept k) (I.hok.kept k)
theorem Inv.laid (I:Inv X pins σ H s)(k:∀ b u,s.heap.get? b=some u->h'.get? b=some u)(J:s.heap.objs.size<=a)(z:ObjOk X.prog X.w (upd H a o) h' a o) :
  Inv X pins σ (upd H a o) { s with heap:=h',toks:=t' }:=I.un (Un.laid k J (I.hok.fresh J)) (I.hok.laid k J z)
theorem Inv.write (I:Inv X pins σ H s)(Y:Mut (H x))(U:e=x\/H e=some (.own x))(k:∀ b u,b≠e->s.heap.get? b=some u->h'.get? b=some u)(z:∃ u,h'.get? e=some u)
  (J:ObjOk X.prog X.w (upd H x o) h' x o):Inv X pins σ (upd H x o) { s with heap:=h',toks:=t' }:=I.un (Un.write Y U k z) (I.hok.write Y U k z J)
def Inv.weak (I:Inv X pins σ H s)(J:σ'.length=σ.length)(w:∀ (i:Nat) v,σ'[i]?=some (some v)->σ[i]?=some (some v)):Inv X pins σ' H s:=
 ⟨I.ok,I.os,I.bare,I.base,let ⟨m,U,z⟩:=I.loc;⟨m,U,fun i x v Y e2 e3=>z i x v Y (w i v e2) e3⟩,I.cell,I.free,I.freeC,I.pin,I.hok,J.trans I.len⟩
def Inv.pins_of (I:Inv X pins σ H s)(h:∀ p∈pins',s.heap.get? p.1=some p.2/\H p.1=none/\p.1≠X.env.locals/\p.1 ∉ X.fs/\∀ v,p.2.data≠.cell v):Inv X pins' σ H s:=
 ⟨I.ok,I.os,I.bare,I.base,I.loc,I.cell,I.free,I.freeC,fun p J=>(YbX.mp J).elim (fun z=>I.pin p (YaL _ z)) (h p),I.hok,I.len⟩
def Zee {N:List Str}(I:N.Nodup){i j:Nat}{x:Str}(a:N[i]?=some x)(b:N[j]?=some x):i=j:=by
 obtain ⟨h1,z⟩:=YaA.mp a;obtain ⟨h2,J⟩:=YaA.mp b;exact (List.getElem_inj I).mp (z.trans J.symm)
noncomputable def ZjD {M:Model}{A:Ybr}{E:Yag->Yaj->Prop}{i:Nat}{x:Str}{v:V}{u:Yag}{Q:Unit->Yaj->Prop}(I:Inv X pins σ H s)(hN:X.N.Nodup)(hi:X.N[i]?=some x)(hx:Loc X.env.scope x)(r:RelV v u)
  (h:∀ s',Inv X pins (σ.set i (some v)) H s'->(∃ a,Ydo a s.heap s'.heap/\(a=X.env.locals\/X.env.cells.lookup x=some a))->Q () s') (hf:X.fn x=true\/X.env.scope.names.lookup x=some .local:=by first | exact .inl rfl | exact .inr rfl | assumption):YaF M A (storeName X.env x u) Q E s:=by
 obtain ⟨m,hn,hl⟩:=id I.loc;have ak:(X.env.scope.kind == .class || (X.env.scope.kind == .module && X.env.locals != X.env.globals))=false:=by rw[I.ok.kind];rfl
 have ac:i<σ.length:=by rw[I.len];exact (YaA.mp hi).1
 have ae:=I.cne;have U:∀ {a:Yaq} {h':YbO},(∃ o,s.heap.get? a=some o/\H a=none)->Ydo a s.heap h'->HOk X.prog X.w H h':=fun {a h'} ha J b ob e=>by
  obtain ⟨_,_,aa⟩:=ha;refine (I.hok b ob e).stay (fun c w' hc q=>(J.2 c ?_).trans q) (fun _ q=>q) fun _ _ q=>q
  rintro rfl;rcases hc with rfl|hc
  ·rw[aa] at e;cases e
  ·rw[aa] at hc;cases hc
 rcases hx with hk|hk
 ·refine wpAny_storeName_local hk hn (fun h' am J=>?_) ak;obtain ⟨oL,_,_,al,_⟩:=id hn;refine h _ ⟨I.ok,I.os,I.bare,⟨fun b o e n hb hx=>?_,fun b o e n hb hx=>?_,I.base.free,fun b o e hx=>?_,I.base.tups,I.base.frzs,I.base.tbls⟩,⟨_,am,fun j y v' Y e2 e3=>?_⟩,fun y c e=>?_,I.free,I.freeC,fun p hp=>?_,U ⟨oL,al,I.free⟩ J,by simpa using I.len⟩ ⟨_,J,.inl rfl⟩
  ·exact (J.2 b (YaK (YaI (Yal e) I.ok.above))).trans (I.base.keep b o e n hb hx)
  ·obtain ⟨sl,Y⟩:=I.base.slot b o e n hb hx;exact ⟨sl,(J.2 b (YaK (YaI (Yal e) I.ok.above))).trans Y⟩
  ·obtain ⟨o',Y⟩:=I.base.there b o e hx;exact ⟨o',(J.2 b (YaK (YaI (Yal e) I.ok.above))).trans Y⟩
  ·by_cases hj:j=i
   ·subst hj;rw[hi] at Y;cases Y;rw[Ycr ac] at e2;cases e2;exact ⟨u,r,.inl ⟨hk,by simp⟩⟩
   ·rw[Yca (YbW hj)] at e2;obtain ⟨u',r',q⟩:=hl j y v' Y e2 e3;refine ⟨u',r',?_⟩;rcases q with ⟨k,e⟩|⟨k,c,e,z⟩
    ·refine .inl ⟨k,?_⟩;have:y≠x:=fun e=>hj (Zee hN Y (e ▸ hi))
     simp[this,e]
    ·exact .inr ⟨k,c,e,z.sameBut J (ae y c e)⟩
  ·obtain ⟨w',z⟩:=I.cell y c e;exact ⟨w',z.sameBut J (ae y c e)⟩
  ·obtain ⟨e,n,ne,nf,d⟩:=I.pin p hp;exact ⟨(J.2 p.1 ne).trans e,n,ne,nf,d⟩
 ·have af:X.fn x=true:=by
   rcases hf with z|z
   ·exact z
   ·rw[z] at hk;cases hk
  obtain ⟨c,hc⟩:=I.ok.has x (.inl hk);obtain ⟨w',z⟩:=I.cell x c hc;refine wpAny_storeName_cell I.ok.kind hk hc z (fun h' aj J=>?_);obtain ⟨oc,ag,ah⟩:=id z;refine h { s with heap:=h' } ⟨I.ok,I.os,I.bare,⟨fun b o e n hb hx=>?_,fun b o e n hb hx=>?_,I.base.free,fun b o e hx=>?_,I.base.tups,I.base.frzs,I.base.tbls⟩,⟨m,hn.sameBut J (YbW (ae x c hc)),fun j y v' Y e2 e3=>?_⟩,fun y c' e=>?_,I.free,I.freeC,fun p hp=>?_,U ⟨oc,ag,I.freeC x c hc⟩ J,by simpa using I.len⟩ ⟨c,J,.inr hc⟩
  ·exact (J.2 b (YaK (YaI (Yal e) (I.ok.cab x c af hc)))).trans (I.base.keep b o e n hb hx)
  ·obtain ⟨sl,Y⟩:=I.base.slot b o e n hb hx;exact ⟨sl,(J.2 b (YaK (YaI (Yal e) (I.ok.cab x c af hc)))).trans Y⟩
  ·obtain ⟨o',Y⟩:=I.base.there b o e hx;exact ⟨o',(J.2 b (YaK (YaI (Yal e) (I.ok.cab x c af hc)))).trans Y⟩
  ·by_cases hj:j=i
   ·subst hj;rw[hi] at Y;cases Y;rw[Ycr ac] at e2;cases e2;exact ⟨u,r,.inr ⟨.inl hk,c,hc,aj⟩⟩
   ·rw[Yca (YbW hj)] at e2;obtain ⟨u',r',q⟩:=hl j y v' Y e2 e3;refine ⟨u',r',?_⟩;rcases q with q|⟨k,c',e,z'⟩
    ·exact .inl q
    ·refine .inr ⟨k,c',e,z'.sameBut J ?_⟩;rintro rfl;exact hj (Zee hN Y (I.ok.inj _ _ _ e hc ▸ hi))
  ·by_cases ai:c'=c
   ·subst ai;exact ⟨_,aj⟩
   ·obtain ⟨w2,z2⟩:=I.cell y c' e;exact ⟨w2,z2.sameBut J ai⟩
  ·obtain ⟨e,n,ne,nf,d⟩:=I.pin p hp;refine ⟨(J.2 p.1 ?_).trans e,n,ne,nf,d⟩;intro q;rw[q,ag] at e;have q':oc=p.2:=YaT e;exact d w' (by rw[<-q'];exact ah)
def Zce (I:Inv X pins σ H s)(J:X.N.Nodup)(hi:X.N[i]?=some x)(z:Loc X.env.scope x)(r:RelV v u)
  (h:∀ s',Inv X pins (σ.set i (some v)) H s'->Q () s') (U:X.fn x=true\/X.env.scope.names.lookup x=some .local:=by first | exact .inl rfl | exact .inr rfl | assumption):YaF M A (storeName X.env x u) Q E s:=
 ZjD I J hi z r (fun s' Y _=>h s' Y) U
def Inv.call' (I:Inv X pins σ H s)(ho:s'.os=s.os)(u:Un (frs X.stack) ch H H' s.heap s'.heap)(J:HOk X.prog X.w H' s'.heap)(U:Yd6 s'.gens)
  (z:∀ b∈ch,(b∈X.ex\/X.s₀.heap.objs.size<=b)/\b≠X.env.locals/\(∀ x c,X.env.cells.lookup x=some c->c≠b)/\∀ p∈X.pn++pins,p.1≠b):Inv X pins σ H' s':=by
 obtain ⟨h',g',d',t',o'⟩:=s';have e:o'=s.os:=ho;subst e;exact I.call (g':=g') (t':=t') (d':=d') u J U z
end
abbrev XK:=Yag->Option Yaq->Hp->Prop
noncomputable abbrev St:=List (Option V)
abbrev VK:=V->Hp->Prop
abbrev TE:=St->Hp->VK->Prop
abbrev TT:=St->Hp->(Bool->Hp->Prop)->Prop
abbrev TA:=St->Hp->(List V->Hp->Prop)->Prop
structure Ends where
 nx:St->Hp->Prop
 rt:VK
 bk:St->Hp->Prop:=fun _ _=>False
 ct:St->Hp->Prop:=fun _ _=>False
abbrev TS:=Ends->St->Hp->Prop
def EP (X:Cx)(pins:List (Yaq×Obj))(σ:St)(Q:VK)(u:Yag)(s':Yaj):Prop:=∃ v H',Inv X pins σ H' s'/\RelV v u/\Q v H'
def TP (X:Cx)(pins:List (Yaq×Obj))(σ:St)(Q:Bool->Hp->Prop)(b:Bool)(s':Yaj):Prop:=∃ H',Inv X pins σ H' s'/\Q b H'
def AP (X:Cx)(pins:List (Yaq×Obj))(σ:St)(Q:List V->Hp->Prop)(us:List Yag)(s':Yaj):Prop:=∃ vs H',Inv X pins σ H' s'/\Vals vs us/\Q vs H'
def SP (X:Cx)(pins:List (Yaq×Obj))(D:Ends)(f:Flow)(s':Yaj):Prop:=
 match f with
 | .next=>∃ σ' H',Inv X pins σ' H' s'/\D.nx σ' H'
 | .brk=>∃ σ' H',Inv X pins σ' H' s'/\D.bk σ' H'
 | .cont=>∃ σ' H',Inv X pins σ' H' s'/\D.ct σ' H'
 | .ret u=>∃ v σ' H',Inv X pins σ' H' s'/\RelV v u/\D.rt v H'
def PE (X:Cx)(e:YaQ)(t:TE):Prop:=
 ∀ (pins:List (Yaq×Obj)) (s:Yaj) (σ:St) (H:Hp) (Q:VK),Inv X pins σ H s->t σ H Q->YaF (YaJ X.prog X.w) X.A (YbT e X.env) (EP X pins σ Q) X.xe s
def PT (X:Cx)(e:YaQ)(t:TT):Prop:=
 ∀ (pins:List (Yaq×Obj)) (s:Yaj) (σ:St) (H:Hp) (Q:Bool->Hp->Prop),Inv X pins σ H s->t σ H Q->YaF (YaJ X.prog X.w) X.A (Yfe e X.env (YbT e X.env)) (TP X pins σ Q) X.xe s
def PW (X:Cx)(e:YaQ)(t:TT):Prop:=
 ∀ (z:Sem Yag) (pins:List (Yaq×Obj)) (s:Yaj) (σ:St) (H:Hp) (Q:Bool->Hp->Prop),Inv X pins σ H s->t σ H Q->YaF (YaJ X.prog X.w) X.A (Yfe e X.env z) (TP X pins σ Q) X.xe s
def PW.pt (h:PW X e t):PT X e t:=h _
def PA (X:Cx)(es:List YaQ)(t:TA):Prop:=
 ∀ (pos:Pos) (pins:List (Yaq×Obj)) (s:Yaj) (σ:St) (H:Hp) (Q:List V->Hp->Prop),Inv X pins σ H s->t σ H Q->YaF (YaJ X.prog X.w) X.A (spliced (Ya3 pos (Yah es X.env))) (AP X pins σ Q) X.xe s
def PS (X:Cx)(st:Yce)(t:TS):Prop:=
 ∀ (pins:List (Yaq×Obj)) (s:Yaj) (σ:St) (H:Hp) (D:Ends),Inv X pins σ H s->t D σ H->YaF (YaJ X.prog X.w) X.A (exec st X.env) (SP X pins D) X.xe s
def PSs (X:Cx)(st:List Yce)(t:TS):Prop:=
 ∀ (pins:List (Yaq×Obj)) (s:Yaj) (σ:St) (H:Hp) (D:Ends),Inv X pins σ H s->t D σ H->YaF (YaJ X.prog X.w) X.A (execs st X.env) (SP X pins D) X.xe s
def thn (h:YaF M A t Q E s)(z:∀ a s,Q a s->Q' a s):YaF M A t Q' E s:=Ya6 h z fun _ _ x=>x
section
variable {X:Cx}
noncomputable def ZtT (i:Nat):TE:=fun σ H Q=>∃ v,σ[i]?=some (some v)/\Q v H
noncomputable def tC (v:V):TE:=fun _ H Q=>Q v H
def Zc2 (hN:X.N[i]?=some x)(hv:Vis X.env.scope x)(U:(x == ("__debug__":Str))=false:=by decide)(Y:(x == ("__classdict__":Str))=false:=by decide):PE X (.Name x pos) (ZtT i):=by
 intro pins s σ H Q I h;obtain ⟨v,e,h⟩:=h;obtain ⟨m,hn,hl⟩:=I.loc;obtain ⟨u,r,l⟩:=hl i x v hN e hv;have fin:EP X pins σ Q u s:=⟨v,H,I,r,h⟩;rcases l with ⟨J,hm⟩|⟨J,c,hc,z⟩
 ·exact wpAny_Name (wpAny_loadName_local I.ok.kind J hn hm fin) U
 ·rcases J with J|J
  ·exact wpAny_Name (wpAny_loadName_cell I.ok.kind J hc z fin) U
  ·exact wpAny_Name (wpAny_loadName_free I.ok.kind J hc z fin Y) U
def Zuc {i j pos}:PE X (.Constant (.int i) j pos) (tC (.int i)):=fun _ _ _ H _ I h=>wpAny_Constant_int ⟨.int i,H,I.tok _,⟨_,rfl⟩,h⟩
def Zvw {b j pos}:PE X (.Constant (.bool b) j pos) (tC (.bl b)):=fun _ _ _ H _ I h=>Constant_bool ⟨.bl b,H,I,rfl,h⟩
def Zs1 {j pos}:PE X (.Constant .none j pos) (tC .non):=fun _ _ _ H _ I h=>Constant_none ⟨.non,H,I,rfl,h⟩
def Zj8 {x j pos}:PE X (.Constant (.str x) j pos) (tC (.str x)):=fun _ _ _ H _ I h=>Calls.Constant_str ⟨.str x,H,I.tok _,⟨_,rfl⟩,h⟩
def Gl (X:Cx)(x:Str):Prop:=X.env.kindOf x=some .globalImplicit
def ZaY (I:Inv X pins σ H s)(U:Gl X x)(J:X.mg x=some u)(h:Q u s)
  (z:(x == ("__debug__":Str))=false:=by decide):YaF (YaJ X.prog X.w) X.A (YbT (.Name x pos) X.env) Q E s:=
 YdL I.ok.kind U (Calls.loadGlobal_global (by rw[I.ok.glob];exact I.mod.glob.keeps I.bk) J h) z
def Zdr (I:Inv X pins σ H s)(hg:Gl X x)(Y:X.mg x=none)(U:YaR x=some u)(h:Q u s)
  (J:x≠"__name__":=by decide) (z:(x == ("__debug__":Str))=false:=by decide):YaF (YaJ X.prog X.w) X.A (YbT (.Name x pos) X.env) Q E s:=by
 obtain ⟨mb,h1,h2⟩:=I.mod.blt;exact YdL I.ok.kind hg (Calls.loadGlobal_builtin (by rw[I.ok.glob];exact I.mod.glob.keeps I.bk) Y (by rw[I.ok.blt];exact h1.keeps I.bk) ((h2 x J).trans U) h) z
def ZpV (U:Gl X x)(J:X.mg x=some u)(r:RelV v u)(z:(x == ("__debug__":Str))=false:=by decide):PE X (.Name x pos) (tC v):=
 fun _ _ _ H _ I h=>ZaY I U J ⟨v,H,I,r,h⟩ z
def Zoy (hg:Gl X x)(Y:X.mg x=none)(U:YaR x=some u)(r:RelV v u)(J:x≠"__name__":=by decide)(z:(x == ("__debug__":Str))=false:=by decide):PE X (.Name x pos) (tC v):=
 fun _ _ _ H _ I h=>Zdr I hg Y U ⟨v,H,I,r,h⟩ J z
variable {a b:YaQ} {ta tb:TE} {pos:Pos}
noncomputable def tB (t:TE):TT:=fun σ H Q=>t σ H fun x H1=>∃ c,x=.bl c/\Q c H1
def Zs5 (h:PE X e t)(U:∀ z,Yfe e X.env z=(do let v <- z;Yd7 e.pos;Yd8 [v] (truthy v)):=by intro _;rfl):PT X e (tB t):=by
 intro pins s σ H Q I J;refine isTrue_plain (thn (h pins s σ H _ I J) fun v s1 zq=>?_) (U _);obtain ⟨x,H1,Y,r1,q1⟩:=zq;obtain ⟨d,rfl,q⟩:=q1;cases r1;exact Ybu ⟨H1,Y,q⟩
variable {tA tB':TT} {rest:List YaQ}
noncomputable def Zvj (t u:TT):TT:=fun σ H Q=>t σ H fun c H1=>if c=true then u σ H1 Q else Q false H1
noncomputable def tOr (t u:TT):TT:=fun σ H Q=>t σ H fun c H1=>if c=true then Q true H1 else u σ H1 Q
noncomputable def Zx6 (t:TT):TT:=fun σ H Q=>t σ H fun c H1=>Q (!c) H1
def ZoD (z:PT X a tA):PW X (.BoolOp .And [a] pos) tA:=by
 intro wh pins s σ H Q I h;refine isTrue_and (thn (z pins s σ H Q I h) fun c s1 e=>?_);cases c with
 | true=>exact isTrue_and_nil e
 | false=>exact e
def Zt1 (z:PT X a tA):PW X (.BoolOp .Or [a] pos) tA:=by
 intro wh pins s σ H Q I h;refine isTrue_or (thn (z pins s σ H Q I h) fun c s1 e=>?_);cases c with
 | false=>exact isTrue_or_nil e
 | true=>exact e
def Zrm (U:PT X a tA)(Y:PW X (.BoolOp .And (b::rest) pos) tB'):PW X (.BoolOp .And (a::b::rest) pos) (Zvj tA tB'):=by
 intro wh pins s σ H Q I h;refine isTrue_and (thn (U pins s σ H _ I h) fun c s1 ⟨H1,z,J⟩=>?_);cases c with
 | true=>exact Y wh pins s1 σ H1 Q z J
 | false=>exact ⟨H1,z,J⟩
def Zxr (U:PT X a tA)(Y:PW X (.BoolOp .Or (b::rest) pos) tB'):PW X (.BoolOp .Or (a::b::rest) pos) (tOr tA tB'):=by
 intro wh pins s σ H Q I h;refine isTrue_or (thn (U pins s σ H _ I h) fun c s1 ⟨H1,z,J⟩=>?_);cases c with
 | true=>exact ⟨H1,z,J⟩
 | false=>exact Y wh pins s1 σ H1 Q z J
def Zte (z:PT X a tA):PT X (.UnaryOp .Not a pos) (Zx6 tA):=by
 intro pins s σ H Q I h;exact isTrue_not (z pins s σ H (fun c H1=>Q (!c) H1) I h)
noncomputable def Zw3 (ta tb:TE):TE:=fun σ H Q=>ta σ H fun x H1=>∃ c,x=.bl c/\if c=true then tb σ H1 Q else Q (.bl false) H1
noncomputable def Zzf (ta tb:TE):TE:=fun σ H Q=>ta σ H fun x H1=>∃ c,x=.bl c/\if c=true then Q (.bl true) H1 else tb σ H1 Q
noncomputable def Zwv (ta:TE):TE:=fun σ H Q=>ta σ H fun x H1=>∃ c,x=.bl c/\Q (.bl (!c)) H1
def ZtU {op}(h:PE X a t):PE X (.BoolOp op [a] pos) t:=fun pins s σ H Q I z=>BoolOp_one (h pins s σ H Q I z)
def Zq2 (ha:PE X a ta)(Y:PE X (.BoolOp .And (b::rest) pos) tb):PE X (.BoolOp .And (a::b::rest) pos) (Zw3 ta tb):=by
 intro pins s σ H Q I h;refine BoolOp_and (thn (ha pins s σ H _ I h) fun v s1 U=>?_);obtain ⟨x,H1,J,r1,z⟩:=U;obtain ⟨c,rfl,z⟩:=z;cases r1;refine Ybu ?_;cases c with
 | true=>exact Y pins s1 σ H1 Q J z
 | false=>exact ⟨.bl false,H1,J,rfl,z⟩
def Zu9 (ha:PE X a ta)(Y:PE X (.BoolOp .Or (b::rest) pos) tb):PE X (.BoolOp .Or (a::b::rest) pos) (Zzf ta tb):=by
 intro pins s σ H Q I h;refine BoolOp_or (thn (ha pins s σ H _ I h) fun v s1 U=>?_);obtain ⟨x,H1,J,r1,z⟩:=U;obtain ⟨c,rfl,z⟩:=z;cases r1;refine Ybu ?_;cases c with
 | false=>exact Y pins s1 σ H1 Q J z
 | true=>exact ⟨.bl true,H1,J,rfl,z⟩
def Ztg (J:PE X a ta):PE X (.UnaryOp .Not a pos) (Zwv ta):=by
 intro pins s σ H Q I h;refine UnaryOp_ (thn (J pins s σ H _ I h) fun v s1 Y=>?_);obtain ⟨x,H1,U,r1,z⟩:=Y;obtain ⟨c,rfl,z⟩:=z;cases r1;exact not_of (Ybu ⟨.bl (!c),H1,U,rfl,z⟩)
noncomputable def tIf (t:TT)(ta tb:TE):TE:=fun σ H Q=>t σ H fun c H1=>if c=true then ta σ H1 Q else tb σ H1 Q
def ZkS (Y:PT X c tA)(ha:PE X a ta)(U:PE X b tb):PE X (.IfExp c a b pos) (tIf tA ta tb):=by
 intro pins s σ H Q I h;refine wpAny_IfExp (thn (Y pins s σ H _ I h) fun d s1 ⟨H1,z,J⟩=>?_);cases d with
 | true=>exact ha pins s1 σ H1 Q z J
 | false=>exact U pins s1 σ H1 Q z J
end
def SqL (K:Yab)(H:Hp)(a:Yaq)(xs:List V):Prop:=
 Rd H a (.lst xs) \/
  ∃ (o:Obj) (its:Array Yag) (n:Nat),K.lookup a=some o/\o.cls=.type "list"/\o.dict=none/\o.data=.seq its n/\its.size<=Yai/\Vals xs its.toList
def SqT (K:Yab)(H:Hp)(a:Yaq)(xs:List V):Prop:=
 Rd H a (.tup xs) \/
  ∃ (o:Obj) (its:Array Yag) (n:Nat),K.lookup a=some o/\o.cls=.type "tuple"/\o.data=.seq its n/\its.size<=Yai/\Vals xs its.toList
noncomputable def Zx8:Yag->Option V
 | .none=>some .non
 | .bool b=>some (.bl b)
 | .int i _=>some (.int i)
 | .str x _=>some (.str x)
 | .bytes b _=>some (.byt b)
 | .float b _=>some (.flt b)
 | .ref a=>some (.ref a)
 | .type n=>some (.ty n)
 | _=>none
def RelV.abs (r:RelV x u):Zx8 u=some x:=by
 cases x with
 | non=>cases r;rfl
 | bl _=>cases r;rfl
 | int _=>obtain ⟨t,rfl⟩:=r;rfl
 | str _=>obtain ⟨t,rfl⟩:=r;rfl
 | byt _=>obtain ⟨t,rfl⟩:=r;rfl
 | flt _=>obtain ⟨t,rfl⟩:=r;rfl
 | ref _=>cases r;rfl
 | ty _=>cases r;rfl
def RelV.inj (r:RelV x u)(q:RelV y u):x=y:=YaT (r.abs.symm.trans q.abs)
theorem Vals.inj:∀ {xs ys:List V} {us:List Yag},Vals xs us->Vals ys us->xs=ys
 | _,_,_,.nil,.nil=>rfl
 | _,_,_,.cons r t,.cons r' t'=>by rw[r.inj r',Vals.inj t t']
section
variable {X:Cx} {pins:List (Yaq×Obj)} {σ:St} {H:Hp} {s:Yaj} {a:Yaq} {xs ys:List V}
def SqL.of {K:Yab}(h:H a=some (.lst xs)):SqL K H a xs:=.inl (.inl h)
def SqT.of {K:Yab}(h:H a=some (.tup xs)):SqT K H a xs:=.inl (.inl h)
def Inv.list (I:Inv X pins σ H s)(h:SqL X.K H a xs):∃ its:List Yag,Vals xs its/\PlainL s.heap a its.toArray/\xs.length<=Yai:=by
 rcases h with h|⟨o,its,n,hk,Y,J,U,hz,r⟩
 ·obtain ⟨z,its,n,r,e⟩:=h.ok I.hok;exact ⟨its,r,⟨_,n,e,rfl,rfl,rfl⟩,z⟩
 ·refine ⟨its.toList,r,⟨o,n,I.kIn a o hk,Y,J,by simpa using U⟩,?_⟩;have e:=r.length;simp only[Ycj] at e;omega
def Inv.tuple (I:Inv X pins σ H s)(h:SqT X.K H a xs):∃ its:List Yag,Vals xs its/\Yef s.heap a its.toArray/\xs.length<=Yai:=by
 rcases h with h|⟨o,its,n,Y,U,J,hz,r⟩
 ·obtain ⟨z,its,r,p⟩:=h.ok I.hok;exact ⟨its,r,p,z⟩
 ·refine ⟨its.toList,r,⟨o,I.kIn a o Y,U,n,by simpa using J⟩,?_⟩;have e:=r.length;simp only[Ycj] at e;omega
def Inv.list_inj (I:Inv X pins σ H s)(h:SqL X.K H a xs)(h':SqL X.K H a ys):xs=ys:=by
 obtain ⟨its,r,⟨o,n,e,_,_,d⟩,_⟩:=I.list h;obtain ⟨its',r',⟨o',U,z,_,_,d'⟩,_⟩:=I.list h';rw[e] at z;cases z;rw[d] at d';injection d' with J _
 have:its=its':=by simpa using congrArg Array.toList J
 subst this;exact r.inj r'
def Inv.tuple_inj (I:Inv X pins σ H s)(h:SqT X.K H a xs)(h':SqT X.K H a ys):xs=ys:=by
 obtain ⟨its,r,⟨o,e,_,n,d⟩,_⟩:=I.tuple h;obtain ⟨its',r',⟨o',z,_,U,d'⟩,_⟩:=I.tuple h';rw[e] at z;cases z;rw[d] at d';injection d' with J _
 have:its=its':=by simpa using congrArg Array.toList J
 subst this;exact r.inj r'
end
noncomputable abbrev Cx.wish (X:Cx)(E:Yag->Yaj->Prop):Cx:={ X with xe:=E }
abbrev Cx.nox (X:Cx):Cx:=X.wish fun _ _=>False
theorem Cx.Ok.wish {X:Cx}(ok:X.Ok)(E:Yag->Yaj->Prop):(X.wish E).Ok:=
 ⟨ok.mod,ok.kind,ok.glob,ok.blt,ok.above,ok.inj,ok.has,ok.cab,ok.hd,ok.frames,ok.stk,ok.exf,ok.bs,ok.bsz,ok.noex,ok.exfs,ok.funs,ok.frf,ok.lq⟩
def Cx.Ok.unwish {X:Cx}{E:Yag->Yaj->Prop}(ok:(X.wish E).Ok):X.Ok:=
 ⟨ok.mod,ok.kind,ok.glob,ok.blt,ok.above,ok.inj,ok.has,ok.cab,ok.hd,ok.frames,ok.stk,ok.exf,ok.bs,ok.bsz,ok.noex,ok.exfs,ok.funs,ok.frf,ok.lq⟩
section
variable {X:Cx} {pins:List (Yaq×Obj)} {σ:St} {H:Hp} {s:Yaj} {E:Yag->Yaj->Prop}
theorem Inv.wish (I:Inv X pins σ H s)(E:Yag->Yaj->Prop):Inv (X.wish E) pins σ H s:=⟨I.ok.wish E,I.os,I.bare,I.base,I.loc,I.cell,I.free,I.freeC,I.pin,I.hok,I.len⟩
theorem Inv.unwish (I:Inv (X.wish E) pins σ H s):Inv X pins σ H s:=⟨I.ok.unwish,I.os,I.bare,I.base,I.loc,I.cell,I.free,I.freeC,I.pin,I.hok,I.len⟩
theorem SP.unwish (h:SP (X.wish E) pins D f s'):SP X pins D f s':=by
 cases f with
 | next=>obtain ⟨σ',H',I,q⟩:=h;exact ⟨σ',H',I.unwish,q⟩
 | brk=>obtain ⟨σ',H',I,q⟩:=h;exact ⟨σ',H',I.unwish,q⟩
 | cont=>obtain ⟨σ',H',I,q⟩:=h;exact ⟨σ',H',I.unwish,q⟩
 | ret u=>obtain ⟨v,σ',H',I,r,q⟩:=h;exact ⟨v,σ',H',I.unwish,r,q⟩
theorem PSs.nox {st:List Yce}{t:TS}(h:PSs X.nox st t):PSs X st t:=fun pins s σ H D I J=>
 Ya6 (h pins s σ H D (I.wish _) J) (fun _ _ q=>q.unwish) fun _ _ z=>Ya9 z
end
section
variable {X:Cx} {st:Yce} {rest:List Yce} {t u:TS} {e:YaQ} {te:TE} {pos:Pos}
noncomputable def ZvZ:TS:=fun D σ H=>D.nx σ H
noncomputable def Zxl (t u:TS):TS:=fun D σ H=>t { D with nx:=u D } σ H
def pss_nil:PSs X [] ZvZ:=fun _ _ σ H _ I h=>Yc2 ⟨σ,H,I,h⟩
def Zef (h1:PS X st t)(h2:PSs X rest u):PSs X (st::rest) (Zxl t u):=by
 intro pins s σ H D I h;refine wpAny_execs_cons (thn (h1 pins s σ H { D with nx:=u D } I h) fun f s1 q=>?_);cases f with
 | next=>
  obtain ⟨σ',H',z,q⟩:=q;exact h2 pins s1 σ' H' D z q
 | ret v=>exact q
 | brk=>exact q
 | cont=>exact q
def Zfl (h1:PS X st t):PSs X [st] t:=by
 intro pins s σ H D I h;refine wpAny_execs_cons (thn (h1 pins s σ H D I h) fun f s1 q=>?_);cases f with
 | next=>exact Yc2 q
 | ret v=>exact q
 | brk=>exact q
 | cont=>exact q
def Inv.quiet (I:Inv X pins σ H s):interactive X.env=false:=by simp[interactive,I.ok.kind]
noncomputable def Zss (te:TE):TS:=fun D σ H=>te σ H fun _ H1=>D.nx σ H1
def Zfu (z:PE X e te)(Y:YbI e none pos.line X.env=pure false:=by rfl):PS X (.Expr e pos) (Zss te):=by
 intro pins s σ H D I h;exact wpAny_Expr_any (thn (z pins s σ H _ I h) fun v s1 ⟨x,H1,U,r1,J⟩=>⟨σ,H1,U,J⟩) I.quiet Y
noncomputable def Zy6 (te:TE):TS:=fun D σ H=>te σ H D.rt
def Zs9 (z:PE X e te):PS X (.Return (some e) pos) (Zy6 te):=by
 intro pins s σ H D I h;exact wpAny_Return_some (thn (z pins s σ H _ I h) fun v s1 ⟨x,H1,U,r1,J⟩=>⟨x,σ,H1,U,r1,J⟩)
noncomputable def Zyt (c:TT)(t u:TS):TS:=fun D σ H=>c σ H fun b H1=>if b=true then t D σ H1 else u D σ H1
def ZvE (Y:PT X c tc)(ha:PSs X a t)(U:PSs X b u):PS X (.If c a b pos) (Zyt tc t u):=by
 intro pins s σ H D I h;refine wpAny_If (thn (Y pins s σ H _ I h) fun d s1 ⟨H1,z,J⟩=>?_);cases d with
 | true=>exact ha pins s1 σ H1 D z J
 | false=>exact U pins s1 σ H1 D z J
end
abbrev TG:=V->St->Hp->(St->Hp->Prop)->Prop
abbrev TGs:=List V->St->Hp->(St->Hp->Prop)->Prop
def PG (X:Cx)(z:YaQ)(t:TG):Prop:=
 ∀ (pins:List (Yaq×Obj)) (s:Yaj) (σ:St) (H:Hp) (v:V) (u:Yag) (Q:St->Hp->Prop),Inv X pins σ H s->RelV v u->t v σ H Q ->
  YaF (YaJ X.prog X.w) X.A (YeS z X.env u) (fun _ s'=>∃ σ' H',Inv X pins σ' H' s'/\Q σ' H') X.xe s
def PGs (X:Cx)(z:List YaQ)(t:TGs):Prop:=
 ∀ (pins:List (Yaq×Obj)) (s:Yaj) (σ:St) (H:Hp) (vs:List V) (us:List Yag) (Q:St->Hp->Prop),Inv X pins σ H s->Vals vs us->t vs σ H Q ->
  YaF (YaJ X.prog X.w) X.A (assignInOrder ((Ybt z X.env).map (·.2)) us) (fun _ s'=>∃ σ' H',Inv X pins σ' H' s'/\Q σ' H') X.xe s
section
variable {X:Cx} {pos:Pos}
noncomputable def ZcL (i:Nat):TG:=fun v σ H Q=>Q (σ.set i (some v)) H
def Zoz (J:X.N.Nodup)(hi:X.N[i]?=some x)(z:Loc X.env.scope x)(U:X.fn x=true\/X.env.scope.names.lookup x=some .local:=by first | exact .inl rfl | exact .inr rfl | assumption):PG X (.Name x pos) (ZcL i):=by
 intro pins s σ H v u Q I r h;exact wpAny_assign_Name (Zce I J hi z r (fun s' Y=>⟨_,H,Y,h⟩) U)
noncomputable def Zq9:TGs:=fun vs σ H Q=>vs=[]/\Q σ H
noncomputable def ZfC (t:TG)(u:TGs):TGs:=fun vs σ H Q=>∃ v r,vs=v::r/\t v σ H fun σ' H'=>u r σ' H' Q
def Zp8:PGs X [] Zq9:=by
 intro pins s σ H vs us Q I r h;obtain ⟨e,h⟩:=h;subst e;cases r;exact assignInOrder_nil ⟨σ,H,I,h⟩
def Zld (h1:PG X e t)(h2:PGs X es u)
  (U:(Ybt (e::es) X.env).map (·.2)=YeS e X.env::(Ybt es X.env).map (·.2):=by rfl):PGs X (e::es) (ZfC t u):=by
 intro pins s σ H vs us Q I r h;obtain ⟨v,vr,Y,h⟩:=h;subst Y;cases r with
 | cons r J=>
  rw[U];refine assignInOrder_cons (thn (h1 pins s σ H _ _ _ I r h) fun _ s1 ⟨z,H1,I1,q1⟩=>?_);exact h2 pins s1 z H1 _ _ Q I1 J q1
noncomputable def Zyx (K:Yab)(n:Nat)(t:TGs):TG:=fun v σ H Q=>∃ a xs,v=.ref a/\SqT K H a xs/\xs.length=n/\t xs σ H Q
def Zsp (hc:X.calm=X.calm)(h:PGs X es t)
  (hn:(Ybt es X.env).length=n:=by rfl) (z:(Ybt es X.env).findIdx? (·.1)=none:=by rfl):PG X (.Tuple es k pos) (Zyx X.K n t):=by
 intro pins s σ H v u Q I r J;obtain ⟨a,xs,e1,hq,hl,J⟩:=J;subst e1;cases r;obtain ⟨its,U,ht,hz⟩:=I.tuple hq;refine Zls I.qh ht (by simp[hn,<-hl,U.length]) z fun h' Y=>?_
 have I1:Inv X pins σ H { s with heap:=h' }:=I.kept (t':=s.toks) fun b o e=>Y b o (YaK (Yal e)) e
 exact h pins _ σ H xs _ Q I1 (by simpa using U) J
noncomputable def Zx2 (te:TE)(g:TG):TS:=fun D σ H=>te σ H fun x H1=>g x σ H1 D.nx
def ZtR (Y:X.N.Nodup)(hi:X.N[i]?=some x)(z:Loc X.env.scope x)(he:PE X e te)(U:YbI e (some (.Name x pos')) pos.line X.env=pure false:=by rfl)(hf:X.fn x=true\/X.env.scope.names.lookup x=some .local:=by first | exact .inl rfl | exact .inr rfl | assumption) :
  PS X (.Assign [.Name x pos'] e pos) (Zx2 te (ZcL i)):=by
 intro pins s σ H D I h;refine wpAny_Assign_Name (thn (he pins s σ H _ I h) fun v s1 zq=>?_) U;obtain ⟨y,H1,I1,r1,q1⟩:=zq;exact Zce I1 Y hi z r1 (fun s2 J=>⟨_,H1,J,q1⟩) hf
end
section
variable {X:Cx} {pos:Pos}
noncomputable def Zma (c:TT)(tb:TS):TS:=fun D σ H=>∃ W:Nat->St->Hp->Prop,(∃ m,W m σ H)/\∀ m σ H,W m σ H ->
 c σ H fun b H1=>if b=true then ∃ N:St->Hp->Prop,(∀ σ' H',N σ' H'->∃ z,z<m/\W z σ' H')/\tb { D with nx:=N,ct:=N,bk:=D.nx } σ H1 else D.nx σ H1
def Zll (hp:Yek (YaJ X.prog X.w) X.A X.env X.xe)(hc:PT X c tc)(hb:PSs X body tb):PS X (.While c body [] pos) (Zma tc tb):=by
 intro pins s σ H D I h;obtain ⟨W,⟨m0,w0⟩,Y⟩:=h;refine wpAny_While (codeAny_whileLoop (fun n s'=>∃ σ' H',Inv X pins σ' H' s'/\W n σ' H') ?_ m0 ⟨σ,H,I,w0⟩);rintro n s1 ⟨J,H1,I1,w1⟩;refine Ycf hp (thn (hc pins s1 J H1 _ I1 (Y n J H1 w1)) fun b s2 ⟨H2,I2,q2⟩=>?_);cases b with
 | true=>
  obtain ⟨N,hN,q2⟩:=q2;rw[if_pos rfl];refine Ycf hp (thn (hb pins s2 J H2 _ I2 q2) fun f s3 q3=>?_);cases f with
  | next=>
   obtain ⟨z,U,I3,n3⟩:=q3;obtain ⟨m',hm,w3⟩:=hN z U n3;exact ⟨m',hm,z,U,I3,w3⟩
  | cont=>
   obtain ⟨z,U,I3,n3⟩:=q3;obtain ⟨m',hm,w3⟩:=hN z U n3;exact ⟨m',hm,z,U,I3,w3⟩
  | brk=>exact q3
  | ret v=>exact q3
 | false=>
  rw[if_neg Yav];exact Yc2 ⟨J,H2,I2,q2⟩
end
structure It where
 go:Nat->Hp->Prop
 yld:Nat->Hp->V->Hp->Prop
 stop:Nat->Hp->Prop
def ZfQ (X:Cx)(pins:List (Yaq×Obj))(H:Hp)(b:Yaq):Prop:=
 H b=none/\b≠X.env.locals/\b ∉ X.fs/\(b∈X.ex\/X.s₀.heap.objs.size<=b)/\(∀ x c,X.env.cells.lookup x=some c->c≠b)/\∀ p∈X.pn++pins,p.1≠b
def Inv.fpOk (I:Inv X pins σ H s)(J:s.heap.objs.size<=b)(Y:H' b=none):ZfQ X pins H' b:=by
 refine ⟨Y,Yel (YaI I.lt J),I.nofs J,.inr (YbE I.sz J),fun x c e z=>?_,fun p U z=>?_⟩
 ·obtain ⟨v,q⟩:=I.cell x c e;exact absurd (YaI q.lt (by rw[z];exact J)) (Yci _)
 ·exact absurd (YaI (Yal (I.pin p U).1) (by rw[z];exact J)) (Yci _)
structure Turn (P:YaN)(w:Ybg)(K:Yab)(tg:YaQ)(J:It)(fp:List Yaq)(it:Yaq)(tn:Nat->YbO->Prop)(qq:Bool):Prop where
 mem:it∈fp
 obj:∀ i h,tn i h->∀ b∈fp,∃ o,h.get? b=some o/\∀ v,o.data≠.cell v
 keep:∀ i h h',tn i h->(∀ b∈fp,∀ o,h.get? b=some o->h'.get? b=some o)->tn i h'
 item:∀ (X:Cx),X.prog=P->X.w=w->X.K=K->(qq=true->X.calm=true)->∀ (i:Nat) (pins:List (Yaq×Obj)) (s:Yaj) (σ:St) (H:Hp) (E:Yag->Yaj->Prop),Inv X pins σ H s->(∀ b∈fp,ZfQ X pins H b)->tn i s.heap->J.go i H ->
  YaF (YaJ P w) X.A (Yfc (.ref it)) (fun r s1=>∃ u,r=some u /\
   YaF (YaJ P w) X.A (Ycw tg (.ref it) u) (fun _ s2=>∃ x H',Inv X pins σ H' s2/\RelV x u/\J.yld i H x H'/\tn (i+1) s2.heap/\∀ b∈fp,H' b=none) E s1) E s
 done:∀ (X:Cx),X.prog=P->X.w=w->X.K=K->(qq=true->X.calm=true)->∀ (i:Nat) (pins:List (Yaq×Obj)) (s:Yaj) (σ:St) (H:Hp) (E:Yag->Yaj->Prop),Inv X pins σ H s->(∀ b∈fp,ZfQ X pins H b)->tn i s.heap->J.stop i H ->
  YaF (YaJ P w) X.A (Yfc (.ref it)) (fun r s1=>r=none/\Inv X pins σ H s1) E s
 self:∀ (A:Ybr) (i:Nat) (s:Yaj) (Q:Yag->Yaj->Prop) (E:Yag->Yaj->Prop),tn i s.heap->Q (.ref it) s->YaF (YaJ P w) A (pyIter (.ref it)) Q E s
abbrev TI:=St->Hp->(It->Hp->Prop)->Prop
def PIE (X:Cx)(pins:List (Yaq×Obj))(σ:St)(tg:YaQ)(R:It->Hp->Prop)(z:Yag)(s2:Yaj):Prop:=
 ∃ (it:Yaq) (fp:List Yaq) (U:Nat->YbO->Prop) (J:It) (H':Hp),z=.ref it/\Inv X pins σ H' s2/\(∃ I,(I=true->X.calm=true)/\Turn X.prog X.w X.K tg J fp it U I)/\U 0 s2.heap/\(∀ b∈fp,ZfQ X pins H' b)/\R J H'
def PI (X:Cx)(tg iter:YaQ)(wi:TI):Prop:=
 ∀ (pins:List (Yaq×Obj)) (s:Yaj) (σ:St) (H:Hp) (R:It->Hp->Prop),Inv X pins σ H s->wi σ H R ->
  YaF (YaJ X.prog X.w) X.A (YbT iter X.env) (fun v s1=>YaF (YaJ X.prog X.w) X.A (pyIter v) (PIE X pins σ tg R) X.xe s1) X.xe s
def ZkE (ho:s.heap.get? it=some o)(U:o.cls=.type n)(I:o.data=.fields vs)
    (J:["enumerate","zip","dict_itemiterator","dict_reverseitemiterator","odict_iterator","itertools.zip_longest","itertools.pairwise"].contains n=false) (z:Q () s):YaF M A (Ycw tg (.ref it) u) Q E s:=by
  unfold Ycw;cases tg<;>first
    | exact Yat z
    | (cases u<;>first
        | exact Yat z
        | (refine Yac (wpAny_load ho ?_)
           rw[U,I];show YaF M A (if (["enumerate","zip","dict_itemiterator","dict_reverseitemiterator","odict_iterator","itertools.zip_longest","itertools.pairwise"].contains n && vs[0]? == some (rawInt _))=true then _ else _) Q E s;rw[if_neg (by intro h;rw[J,YeB] at h;cases h)];exact Yat z))
noncomputable def Itl (K:Yab)(a:Yaq):It:=
 ⟨fun i H=>∃ xs x,SqL K H a xs/\xs[i]?=some x,fun i H x H'=>H'=H/\∀ xs,SqL K H a xs->xs[i]?=some x,fun i H=>∃ xs,SqL K H a xs/\xs.length<=i⟩
noncomputable def Itt (K:Yab)(a:Yaq):It:=
 ⟨fun i H=>∃ xs x,SqT K H a xs/\xs[i]?=some x,fun i H x H'=>H'=H/\∀ xs,SqT K H a xs->xs[i]?=some x,fun i H=>∃ xs,SqT K H a xs/\xs.length<=i⟩
noncomputable def Itr (lo:Int)(n:Nat):It:=⟨fun i _=>i<n,fun i H x H'=>H'=H/\x=.int (lo+i),fun i _=>n<=i⟩
theorem Zi3 {P:YaN}{w:Ybg}{K:Yab}{tg:YaQ}(a it:Yaq):Turn P w K tg (Itl K a) [it] it (fun i h=>h.IsListIter it a i) false where
 mem:=by simp
 obj:=fun i h st b J=>by
  have e:b=it:=by simpa using J
  subst e;obtain ⟨o,e,c,d⟩:=st;exact ⟨o,e,fun v z=>by rw[d] at z;cases z⟩
 keep:=fun i h h' st k=>st.at fun o e=>k it (by simp) o e
 item:=by
  intro X hP hw hK hc i pins s σ H E I hf st hg;subst hP hw hK;obtain ⟨xs,x,Y,hx⟩:=hg;obtain ⟨its,rv,p,hz⟩:=I.list Y;obtain ⟨u,hu,ru⟩:=rv.get hx;obtain ⟨f0,f1,f2,f3,f4,f5⟩:=hf it (by simp);refine wpAny_pyNext_list_item st p.isList (x:=u) (by simpa using hu) fun h' U sb=>?_
  have I1:Inv X pins σ H { s with heap:=h' }:=I.turned (t':=s.toks) (fun b o J e=>(sb.2 b J).trans e) f0 f1 f3 f4 f5;obtain ⟨o,e,c,d⟩:=id U;exact ⟨u,rfl,ZkE (s:={ s with heap:=h' }) e c d (by decide) ⟨x,H,I1,ru,⟨rfl,fun ys hy=>by rw[I.list_inj hy Y];exact hx⟩,U,fun b J=>(hf b J).1⟩⟩
 done:=by
  intro X hP hw hK hc i pins s σ H E I hf st hg;subst hP hw hK;obtain ⟨xs,Y,hx⟩:=hg;obtain ⟨its,rv,p,hz⟩:=I.list Y;obtain ⟨f0,f1,f2,f3,f4,f5⟩:=hf it (by simp);have hl:=rv.length;exact Zif I.qh (I.qne f0) st p.isList (by simp;omega) fun h' eb=>⟨rfl,I.turned (t':=s.toks) (fun b o J e=>eb b o J e) f0 f1 f3 f4 f5⟩
 self:=fun _ _ _ _ _ st h=>wpAny_pyIter_listiter st h
theorem Zhv {P:YaN}{w:Ybg}{K:Yab}{tg:YaQ}(a it:Yaq):Turn P w K tg (Itt K a) [it] it (fun i h=>h.IsTupleIter it a i) false where
 mem:=by simp
 obj:=fun i h st b J=>by
  have e:b=it:=by simpa using J
  subst e;obtain ⟨o,e,c,d⟩:=st;exact ⟨o,e,fun v z=>by rw[d] at z;cases z⟩
 keep:=fun i h h' st k=>st.at fun o e=>k it (by simp) o e
 item:=by
  intro X hP hw hK hc i pins s σ H E I hf st hg;subst hP hw hK;obtain ⟨xs,x,Y,hx⟩:=hg;obtain ⟨its,rv,p,hz⟩:=I.tuple Y;obtain ⟨u,hu,ru⟩:=rv.get hx;obtain ⟨f0,f1,f2,f3,f4,f5⟩:=hf it (by simp);refine wpAny_pyNext_tuple_item st (show s.heap.IsTuple a its.toArray from p) (x:=u) (by simpa using hu) fun h' U sb=>?_
  have I1:Inv X pins σ H { s with heap:=h' }:=I.turned (t':=s.toks) (fun b o J e=>(sb.2 b J).trans e) f0 f1 f3 f4 f5;obtain ⟨o,e,c,d⟩:=id U;exact ⟨u,rfl,ZkE (s:={ s with heap:=h' }) e c d (by decide) ⟨x,H,I1,ru,⟨rfl,fun ys hy=>by rw[I.tuple_inj hy Y];exact hx⟩,U,fun b J=>(hf b J).1⟩⟩
 done:=by
  intro X hP hw hK hc i pins s σ H E I hf st hg;subst hP hw hK;obtain ⟨xs,Y,hx⟩:=hg;obtain ⟨its,rv,p,hz⟩:=I.tuple Y;obtain ⟨f0,f1,f2,f3,f4,f5⟩:=hf it (by simp);have hl:=rv.length;exact Zl0 I.qh (I.qne f0) st (show s.heap.IsTuple a its.toArray from p) (by simp;omega) fun h' eb=>⟨rfl,I.turned (t':=s.toks) (fun b o J e=>eb b o J e) f0 f1 f3 f4 f5⟩
 self:=fun _ _ _ _ _ st h=>wpAny_pyIter_tupleiter st h
theorem ZhE {P:YaN}{w:Ybg}{K:Yab}{tg:YaQ}(it:Yaq)(lo:Int)(n:Nat):Turn P w K tg (Itr lo n) [it] it (fun i h=>IsRangeIter h it (lo+(i:Nat) * 1) ((n:Int) - (i:Nat)) 1) true where
 mem:=by simp
 obj:=fun i h st b J=>by
  have e:b=it:=by simpa using J
  subst e;exact ⟨_,st,fun v z=>by
   have z':Data.fields _=Data.cell v:=z;cases z'⟩
 keep:=fun i h h' st k=>k it (by simp) _ st
 item:=by
  intro X hP hw hK hc i pins s σ H E I Y st hg;subst hP hw hK;obtain ⟨f0,f1,f2,f3,f4,f5⟩:=Y it (by simp);have W:=Walks.range (prog:=X.prog) (w:=X.w) (I.ok.hd (hc rfl)) it lo 1 n;refine W.item i s _ _ hg st fun v h' tk hv U kk=>?_
  obtain ⟨t,rfl⟩:=hv;have I1:Inv X pins σ H { s with heap:=h',toks:=tk }:=I.turned (fun b o J e=>kk b o (by simpa using J) e) f0 f1 f3 f4 f5;refine ⟨_,rfl,ZkE (s:={ s with heap:=h',toks:=tk }) (n:="range_iterator") U rfl rfl (by decide) ⟨.int (lo+i),H,I1,⟨t,?_⟩,⟨rfl,rfl⟩,U,fun b J=>(Y b J).1⟩⟩;rw[Int.mul_one]
 done:=by
  intro X hP hw hK hc i pins s σ H E I Y st hg;subst hP hw hK;obtain ⟨f0,f1,f2,f3,f4,f5⟩:=Y it (by simp);exact wpAny_pyNext_range_end (I.ok.hd (hc rfl)) st (by have:n<=i:=hg;omega) fun h' eb=>⟨rfl,I.turned (t':=s.toks) (fun b o J e=>eb b o J e) f0 f1 f3 f4 f5⟩
 self:=fun _ _ _ _ _ st h=>wpAny_pyIter_rangeiter st h
section
variable {X:Cx} {tg:YaQ}
def ZuV (K:Yab)(tl:TE):TI:=fun σ H R=>tl σ H fun x H1=>∃ a,x=.ref a/\(∃ xs,SqL K H1 a xs)/\R (Itl K a) H1
def Zx9 (K:Yab)(tl:TE):TI:=fun σ H R=>tl σ H fun x H1=>∃ a,x=.ref a/\(∃ xs,SqT K H1 a xs)/\R (Itt K a) H1
def Zof {l:YaQ}{tl:TE}(U:PE X l tl):PI X tg l (ZuV X.K tl):=by
 intro pins s σ H R I h;refine thn (U pins s σ H _ I h) fun v s1 zq=>?_
 obtain ⟨x,H1,J,r1,q1⟩:=zq;obtain ⟨a,e,⟨xs,Y⟩,q⟩:=q1;subst e;cases r1;obtain ⟨its,rv,p,hz⟩:=J.list Y;refine wpAny_pyIter_list p.isList ?_;refine ⟨s1.heap.objs.size,[s1.heap.objs.size],_,_,H1,rfl,J.kept (t':=s1.toks) fun b o e=>Yad _ e,⟨false,(fun z=>by cases z),Zi3 a _⟩,⟨_,YaC _ rfl,rfl,rfl⟩,fun b hb=>?_,q⟩;have e:b=s1.heap.objs.size:=by simpa using hb
 subst e;exact J.fpOk (Yak _) (J.hok.fresh (Yak _))
def ZrL {l:YaQ}{tl:TE}(U:PE X l tl):PI X tg l (Zx9 X.K tl):=by
 intro pins s σ H R I h;refine thn (U pins s σ H _ I h) fun v s1 zq=>?_
 obtain ⟨x,H1,J,r1,q1⟩:=zq;obtain ⟨a,e,⟨xs,Y⟩,q⟩:=q1;subst e;cases r1;obtain ⟨its,rv,p,hz⟩:=J.tuple Y;refine wpAny_pyIter_tuple (show s1.heap.IsTuple a its.toArray from p) ?_;refine ⟨s1.heap.objs.size,[s1.heap.objs.size],_,_,H1,rfl,J.kept (t':=s1.toks) fun b o e=>Yad _ e,⟨false,(fun z=>by cases z),Zhv a _⟩,⟨_,YaC _ rfl,rfl,rfl⟩,fun b hb=>?_,q⟩;have e:b=s1.heap.objs.size:=by simpa using hb
 subst e;exact J.fpOk (Yak _) (J.hok.fresh (Yak _))
def Zln {pins:List (Yaq×Obj)}{σ:St}{H:Hp}{s:Yaj}{R:It->Hp->Prop}{E:Yag->Yaj->Prop}{lo hi:Int}{t u v:Tok}{tk:Nat}(Y:X.calm=true)(I:Inv X pins σ H s)(h1:-(2 ^ 62)<=lo)(h2:lo<2 ^ 62)(h3:-(2 ^ 62)<=hi)(J:hi<2 ^ 62)
  (q:R (Itr lo (hi - lo).toNat) H):YaF (YaJ X.prog X.w) X.A (pyIter (.ref s.heap.objs.size)) (PIE X pins σ tg R) E { s with heap:=s.heap.push { cls:=.type "range",data:=.fields #[.int lo t,.int hi u,.int 1 v] },toks:=tk }:=by
 refine wpAny_pyIter_range (IsRange.new ..) (small_one h1 h2 h3 J) ?_;have z:Inv X pins σ H { s with heap:=s.heap.push { cls:=.type "range",data:=.fields #[.int lo t,.int hi u,.int 1 v] },toks:=tk }:=I.kept fun b o e=>Yad _ e
 refine ⟨(s.heap.push { cls:=.type "range",data:=.fields #[.int lo t,.int hi u,.int 1 v] }).objs.size,[(s.heap.push { cls:=.type "range",data:=.fields #[.int lo t,.int hi u,.int 1 v] }).objs.size],_,_,H,rfl,
  z.kept (t':=tk) fun b o e=>Yad _ e,⟨true,fun _=>Y,ZhE _ lo (hi - lo).toNat⟩,?_,fun b hb=>?_,q⟩
 ·have U:lo+((0:Nat):Int) * 1=lo:=by simp
  have e2:(((hi - lo).toNat:Nat):Int) - ((0:Nat):Int)=Builtin.Range.rangeSize lo hi 1:=by rw[rangeSize_one];split<;>omega
  show IsRangeIter _ _ (lo+((0:Nat):Int) * 1) ((((hi - lo).toNat:Nat):Int) - ((0:Nat):Int)) 1;rw[U,e2];exact YaC _ rfl
 ·have e:b=(s.heap.push { cls:=.type "range",data:=.fields #[.int lo t,.int hi u,.int 1 v] }).objs.size:=by simpa using hb
  subst e;exact z.fpOk (Yak _) (z.hok.fresh (Yak _))
def ZwE (ta:TA):TI:=fun σ H R=>ta σ H fun vs H1=>∃ j:Int,vs=[.int j] /\ -(2 ^ 62)<=j/\j<2 ^ 62/\R (Itr 0 j.toNat) H1
def Zic {a:YaQ}{ta:TA}{p pos:Pos}(hg:Gl X "range")(hm:X.mg "range"=none)(ha:PA X [a] ta)(hs:Yah [a] X.env=[(false,YbT a X.env)]:=by rfl)(hc:X.calm=true:=by rfl):PI X tg (.Call (.Name "range" p) [a] [] pos) (ZwE ta):=by
 intro pins s σ H R I h;refine Call_ (Zdr I hg hm boot_range (YbY (thn (ha pos pins s σ H _ I h) fun us s1 Y=>?_) hs rfl));obtain ⟨vs,H1,I1,r1,z⟩:=Y;obtain ⟨j,e,z,U,q⟩:=z;subst e;cases r1 with
 | cons r J=>
  cases J;obtain ⟨t,rfl⟩:=r;exact call_range_1 (Zln hc I1 (by omega) (by omega) z U (by simpa using q))
noncomputable def ZxK (wi:TI)(g:TG)(tb:TS):TS:=fun D σ H=>wi σ H fun J H1=>∃ W:Nat->Nat->St->Hp->Prop,(∃ m,W 0 m σ H1)/\∀ i m σ H,W i m σ H ->
 (J.stop i H/\D.nx σ H)\/(J.go i H/\∃ N:St->Hp->Prop,(∀ σ' H',N σ' H'->∃ I,I<m/\W (i+1) I σ' H')/\∀ x H',J.yld i H x H'->g x σ H' fun z H2=>tb { D with nx:=N,ct:=N,bk:=D.nx } z H2)
noncomputable def ZeB (fp:List Yaq)(h:YbO):List (Yaq×Obj):=fp.filterMap fun b=>(h.get? b).map fun o=>(b,o)
def Zbt (z:b∈fp)(e:h.get? b=some o):(b,o)∈ZeB fp h:=List.mem_filterMap.mpr ⟨b,z,by rw[e];rfl⟩
def ZjA (z:p∈ZeB fp h):p.1∈fp/\h.get? p.1=some p.2:=by
 obtain ⟨b,I,e⟩:=List.mem_filterMap.mp z;cases q:h.get? b with
 | none=>rw[q] at e;cases e
 | some o=>
  rw[q] at e;have J:(b,o)=p:=YaT e;subst J;exact ⟨I,q⟩
def Inv.pinned (I:Inv X pins σ H s)(hf:∀ b∈fp,ZfQ X pins H b)(ho:∀ b∈fp,∃ o,s.heap.get? b=some o/\∀ v,o.data≠.cell v):Inv X (pins++ZeB fp s.heap) σ H s:=
 I.pins_of fun p hp=>(YbX.mp hp).elim (fun z=>I.pin p (Yas _ z)) fun z=>by
  obtain ⟨U,e⟩:=ZjA z;obtain ⟨f0,f1,Y,_⟩:=hf p.1 U;obtain ⟨o,J,d⟩:=ho p.1 U;rw[e] at J;cases J;exact ⟨e,f0,f1,Y,d⟩
def Inv.unpinned (I:Inv X (pins++pl) σ H s):Inv X pins σ H s:=I.pins_of fun p z=>I.pin p (Yas _ (YaL _ z))
def ZmO (hp:Yek (YaJ X.prog X.w) X.A X.env X.xe)(hc:X.calm=X.calm)(hi:PI X tg iter wi)(hg:PG X tg g)(hb:PSs X body tb)
  (hs:∀ x,Ya1 iter X.env x=pure x:=by intro _;rfl):PS X (.For tg iter body [] pos) (ZxK wi g tb):=by
 intro pins s σ H D I h;refine wpAny_For (thn (hi pins s σ H _ I h) fun v s1 h1=>thn h1 fun aq s2 h2=>?_) hs;obtain ⟨it,fp,tn,J,H2,e,I2,⟨qq,ak,T⟩,ap,f2,W,⟨m0,w0⟩,aj⟩:=h2;subst e;have Y:∀ {H':Hp},(∀ b∈fp,H' b=none)->∀ b∈fp,ZfQ X pins H' b:=fun hn b hb=>⟨hn b hb,(f2 b hb).2⟩
 refine codeAny_forLoop_any (fun n s'=>∃ i σ' H',Inv X pins σ' H' s'/\tn i s'.heap/\(∀ b∈fp,H' b=none)/\W i n σ' H') ?_ m0 ⟨0,σ,H2,I2,ap,fun b hb=>(f2 b hb).1,w0⟩;rintro n s3 ⟨i,aa,H3,I3,ag,ai,w3⟩;rcases aj i n aa H3 w3 with ⟨af,qn⟩|⟨go,N,hN,ah⟩
 ·refine Ycf hp (thn (T.done X rfl rfl rfl ak i pins s3 aa H3 X.xe I3 (Y ai) ag af) fun r s4 ⟨hr,I4⟩=>?_);subst hr;exact Yc2 ⟨aa,H3,I4,qn⟩
 ·refine Ycf hp (thn (T.item X rfl rfl rfl ak i pins s3 aa H3 X.xe I3 (Y ai) ag go) fun r s4 ⟨u,hr,h4⟩=>?_);subst hr;refine Ycf hp (thn h4 fun _ s5 zq=>?_);obtain ⟨x,H5,I5,r5,y5,ae,al⟩:=zq;have ao:=I5.pinned (Y al) (T.obj _ _ ae);refine Ycf hp (thn (hg _ s5 aa H5 x u _ ao r5 (ah x H5 y5)) fun _ s6 ⟨am,H6,I6,q6⟩=>?_);refine Ycf hp (thn (hb _ s6 am H6 _ I6 q6) fun f s7 q7=>?_);have ac:∀ {z:St} {H7:Hp},Inv X (pins++ZeB fp s5.heap) z H7 s7->N z H7->∃ m,m<n/\∃ i σ' H',Inv X pins σ' H' s7/\tn i s7.heap/\(∀ b∈fp,H' b=none)/\W i m σ' H':=fun {z H7} U n7=>by
   obtain ⟨m',hm,w7⟩:=hN z H7 n7;refine ⟨m',hm,i+1,z,H7,U.unpinned,T.keep _ _ _ ae fun b hb o e=>(U.pin (b,o) (Yas _ (Yas _ (Zbt hb e)))).1,fun b hb=>?_,w7⟩;obtain ⟨o,e,d⟩:=T.obj _ _ ae b hb;exact (U.pin (b,o) (Yas _ (Yas _ (Zbt hb e)))).2.1
  cases f with
  | next=>obtain ⟨z,H7,U,n7⟩:=q7;exact ac U n7
  | cont=>obtain ⟨z,H7,U,n7⟩:=q7;exact ac U n7
  | brk=>obtain ⟨z,H7,U,q7⟩:=q7;exact ⟨z,H7,U.unpinned,q7⟩
  | ret v=>obtain ⟨x7,z,H7,U,r7,q7⟩:=q7;exact ⟨x7,z,H7,U.unpinned,r7,q7⟩
end
abbrev R2:=V->V->Hp->VK->Prop
def OpR (X:Cx)(f:Yag->Yag->Sem Yag)(r:R2):Prop:=
 ∀ (pins:List (Yaq×Obj)) (s:Yaj) (σ:St) (H:Hp) (x y:V) (v u:Yag) (Q:VK),Inv X pins σ H s->RelV x v->RelV y u->r x y H Q ->
  YaF (YaJ X.prog X.w) X.A (f v u) (EP X pins σ Q) X.xe s
def UnR (X:Cx)(f:Yag->Sem Yag)(r:V->Hp->VK->Prop):Prop:=
 ∀ (pins:List (Yaq×Obj)) (s:Yaj) (σ:St) (H:Hp) (x:V) (v:Yag) (Q:VK),Inv X pins σ H s->RelV x v->r x H Q ->
  YaF (YaJ X.prog X.w) X.A (f v) (EP X pins σ Q) X.xe s
def CallR (X:Cx)(f:Yag)(r:List V->Hp->VK->Prop):Prop:=
 ∀ (pins:List (Yaq×Obj)) (s:Yaj) (σ:St) (H:Hp) (xs:List V) (us:List Yag) (Q:VK),Inv X pins σ H s->Vals xs us->r xs H Q ->
  YaF (YaJ X.prog X.w) X.A (call f us) (EP X pins σ Q) X.xe s
noncomputable def tOp (r:R2)(ta tb:TE):TE:=fun σ H Q=>ta σ H fun x H1=>tb σ H1 fun y H2=>r x y H2 Q
noncomputable def tUn (r:V->Hp->VK->Prop)(ta:TE):TE:=fun σ H Q=>ta σ H fun x H1=>r x H1 Q
noncomputable def rI (C:Int->Int->Prop)(g:Int->Int->V):R2:=fun x y H Q=>∃ i j,x=.int i/\y=.int j/\C i j/\Q (g i j) H
noncomputable def rI0 (g:Int->Int->V):R2:=fun x y H Q=>∃ i j,x=.int i/\y=.int j/\Q (g i j) H
def rU (g:Int->V):V->Hp->VK->Prop:=fun x H Q=>∃ i,x=.int i/\Q (g i) H
section
variable {X:Cx} {a b c:YaQ} {ta tb tc:TE} {pos:Pos}
def Zxm (ha:PE X a ta)(hb:PE X b tb){pins:List (Yaq×Obj)}{s:Yaj}{σ:St}{H:Hp}{R:V->V->Hp->Prop}(I:Inv X pins σ H s)
  (h:ta σ H fun x H1=>tb σ H1 fun y H2=>R x y H2) {Q:Yag->Yaj->Prop} {f:Yag->Yag->Sem Yag}
  (hf:∀ v u s2 x y H2,Inv X pins σ H2 s2->RelV x v->RelV y u->R x y H2->YaF (YaJ X.prog X.w) X.A (f v u) Q X.xe s2) :
  YaF (YaJ X.prog X.w) X.A (YbT a X.env) (fun v z=>YaF (YaJ X.prog X.w) X.A (YbT b X.env) (fun u J=>YaF (YaJ X.prog X.w) X.A (f v u) Q X.xe J) X.xe z) X.xe s:=by
 refine thn (ha pins s σ H _ I h) fun v s1 U=>?_
 obtain ⟨x,H1,I1,r1,q1⟩:=U;refine thn (hb pins s1 σ H1 _ I1 q1) fun u s2 U=>?_
 obtain ⟨y,H2,Y,r2,q2⟩:=U;exact hf v u s2 x y H2 Y r1 r2 q2
def Zxd {op:Operator}{r:R2}(ho:OpR X (YcJ op) r)(ha:PE X a ta)(Y:PE X b tb):PE X (.BinOp a op b pos) (tOp r ta tb):=by
 intro pins s σ H Q I h;exact wpAny_BinOp (Zxm ha Y I h fun v u s2 x y H2 z U J q=>ho pins s2 σ H2 x y v u Q z U J q)
def Zv1 (ho:UnR X (unaryOp op) r)(z:PE X a ta):PE X (.UnaryOp op a pos) (tUn r ta):=by
 intro pins s σ H Q I h;exact UnaryOp_ (thn (z pins s σ H _ I h) fun v s1 ⟨x,H1,U,r1,J⟩=>ho pins s1 σ H1 x v Q U r1 J)
def opI {f:Yag->Yag->Sem Yag}{C:Int->Int->Prop}{g:Int->Int->Int}
  (z:∀ (i j:Int) (t u:Tok) (s:Yaj) (Q:Yag->Yaj->Prop) (E:Yag->Yaj->Prop),C i j->Q (.int (g i j) s.toks) { s with toks:=s.toks+1 }->YaF (YaJ X.prog X.w) X.A (f (.int i t) (.int j u)) Q E s) :
  OpR X f (rI C fun i j=>.int (g i j)):=by
 intro pins s σ H x y v u Q I U J h;obtain ⟨i,j,rfl,rfl,Y,q⟩:=h;obtain ⟨t,rfl⟩:=U;obtain ⟨t',rfl⟩:=J;exact z i j t t' s _ _ Y ⟨.int (g i j),H,I.tok _,⟨_,rfl⟩,q⟩
def ZuM {f:Yag->Yag->Sem Yag}{g:Int->Int->Int}
  (z:∀ (i j:Int) (t u:Tok) (s:Yaj) (Q:Yag->Yaj->Prop) (E:Yag->Yaj->Prop),Q (.int (g i j) s.toks) { s with toks:=s.toks+1 }->YaF (YaJ X.prog X.w) X.A (f (.int i t) (.int j u)) Q E s) :
  OpR X f (rI0 fun i j=>.int (g i j)):=by
 intro pins s σ H x y v u Q I U J h;obtain ⟨i,j,rfl,rfl,q⟩:=h;obtain ⟨t,rfl⟩:=U;obtain ⟨t',rfl⟩:=J;exact z i j t t' s _ _ ⟨.int (g i j),H,I.tok _,⟨_,rfl⟩,q⟩
def ZuI {f:Yag->Yag->Sem Yag}{g:Int->Int->Bool}
  (z:∀ (i j:Int) (t u:Tok) (s:Yaj) (Q:Yag->Yaj->Prop) (E:Yag->Yaj->Prop),Q (.bool (g i j)) s->YaF (YaJ X.prog X.w) X.A (f (.int i t) (.int j u)) Q E s) :
  OpR X f (rI0 fun i j=>.bl (g i j)):=by
 intro pins s σ H x y v u Q I U J h;obtain ⟨i,j,rfl,rfl,q⟩:=h;obtain ⟨t,rfl⟩:=U;obtain ⟨t',rfl⟩:=J;exact z i j t t' s _ _ ⟨.bl (g i j),H,I,rfl,q⟩
def Zxp (i j:Int):Prop:=0<j/\j<1073741824
def CMul (i j:Int):Prop:=(-(2 ^ 64)<i/\i<2 ^ 64)\/(-(2 ^ 64)<j/\j<2 ^ 64)
def CMul.ok (h:CMul i j):IntMulOk i j:=by
 rcases h with ⟨h1,h2⟩|⟨h1,h2⟩
 ·exact .of_left (intBits_le_64 h1 h2)
 ·exact .of_right (intBits_le_64 h1 h2)
def ZsE:OpR X (YcJ .Add) (rI0 fun i j=>.int (i+j)):=ZuM fun _ _ _ _ _ _ _ q=>add_int q
def ZtA:OpR X (YcJ .Sub) (rI0 fun i j=>.int (i - j)):=ZuM fun _ _ _ _ _ _ _ q=>sub_int q
def Zrh:OpR X (YcJ .Mult) (rI CMul fun i j=>.int (i * j)):=opI fun _ _ _ _ _ _ _ z q=>mul_int q z.ok
def ZpS:OpR X (YcJ .FloorDiv) (rI Zxp fun i j=>.int (i / j)):=opI fun i j _ _ _ _ _ z q=>by
 have h1:(0:Int)<j:=z.1;have h2:j<1073741824:=z.2;exact floordiv_int (by omega) (by rw[Int.fdiv_eq_ediv_of_nonneg i (by omega)];exact q) (.inl (PyProof.noPylong_small (by omega)))
def Zsf:OpR X (YcJ .Mod) (rI (fun _ j=>0<j) fun i j=>.int (i % j)):=opI fun i j _ _ _ _ _ z q=>by
 have h1:(0:Int)<j:=z;exact mod_int' (by omega) (by rw[Int.fmod_eq_emod_of_nonneg i (by omega)];exact q)
def Ztj:OpR X (YcJ .BitAnd) (rI0 fun i j=>.int (YeC i j)):=ZuM fun _ _ _ _ _ _ _ q=>and_int q
def Zxs:OpR X (YcJ .BitOr) (rI0 fun i j=>.int (YeW i j)):=ZuM fun _ _ _ _ _ _ _ q=>or_int q
def unI {f:Yag->Sem Yag}{g:Int->Int}
  (z:∀ (i:Int) (t:Tok) (s:Yaj) (Q:Yag->Yaj->Prop) (E:Yag->Yaj->Prop),Q (.int (g i) s.toks) { s with toks:=s.toks+1 }->YaF (YaJ X.prog X.w) X.A (f (.int i t)) Q E s) :
  UnR X f (rU fun i=>.int (g i)):=by
 intro pins s σ H x v Q I J h;obtain ⟨i,rfl,q⟩:=h;obtain ⟨t,rfl⟩:=J;exact z i t s _ _ ⟨.int (g i),H,I.tok _,⟨_,rfl⟩,q⟩
def ZrK:UnR X (unaryOp .Invert) (rU fun i=>.int (YeD i)):=unI fun _ _ _ _ _ q=>invert_int q
end
section
variable {X:Cx} {a b c:YaQ} {ta tb tc:TE} {pos:Pos}
def fin_bl (I:Inv X pins σ H s)(q:Q (.bl k) H)(e:k=k'):EP X pins σ Q (.bool k') s:=by
 subst e;exact ⟨.bl k,H,I,rfl,q⟩
def Zwm:OpR X (YaV .Lt) (rI0 fun i j=>.bl (decide (i<j))):=ZuI fun _ _ _ _ _ _ _ q=>lt_int q
def Zu4:OpR X (YaV .LtE) (rI0 fun i j=>.bl (decide (i<=j))):=ZuI fun _ _ _ _ _ _ _ q=>le_int q
def Zws:OpR X (YaV .Gt) (rI0 fun i j=>.bl (decide (j<i))):=ZuI fun _ _ _ _ _ _ _ q=>gt_int q
def ZvD:OpR X (YaV .GtE) (rI0 fun i j=>.bl (decide (j<=i))):=ZuI fun _ _ _ _ _ _ _ q=>ge_int q
def Zio:OpR X (YaV .In) (fun x y H Q=>∃ i j,x=.str i/\y=.str j/\Q (.bl (!(Yck j i 0 j.length 1).isEmpty)) H):=by
 intro pins s σ H x y v u Q I J z h;obtain ⟨i,j,rfl,rfl,q⟩:=h;obtain ⟨t,rfl⟩:=J;obtain ⟨t',rfl⟩:=z;exact in_str (fin_bl I q rfl)
def ZsU:OpR X (YaV .Is) (fun x y H Q=>y=.non/\Q (.bl (decide (x=.non))) H):=by
 intro pins s σ H x y v u Q I z J h;obtain ⟨rfl,q⟩:=h;cases J;refine is_none_gen (fin_bl I q ?_);cases x<;>first
  | (cases z;rfl)
  | (obtain ⟨t,rfl⟩:=z;rfl)
def ZoF:OpR X (YaV .IsNot) (fun x y H Q=>y=.non/\Q (.bl (!decide (x=.non))) H):=by
 intro pins s σ H x y v u Q I z J h;obtain ⟨rfl,q⟩:=h;cases J;refine isnot_none_gen (fin_bl I q ?_);cases x<;>first
  | (cases z;rfl)
  | (obtain ⟨t,rfl⟩:=z;rfl)
def OpR.or (h:OpR X f r)(h':OpR X f r'):OpR X f (fun x y H Q=>r x y H Q\/r' x y H Q):=by
 intro pins s σ H x y v u Q I J z q;rcases q with q|q
 ·exact h pins s σ H x y v u Q I J z q
 ·exact h' pins s σ H x y v u Q I J z q
def Znz {op:CmpOp}{r:R2}(ho:OpR X (YaV op) r)(ha:PE X a ta)(hb:PE X b tb)(J:YcK op b=false):PE X (.Compare a [op] [b] pos) (tOp r ta tb):=by
 intro pins s σ H Q I h;exact wpAny_Compare1 (Zxm ha hb I h fun v u s2 x y H2 z Y U q=>ho pins s2 σ H2 x y v u Q z Y U q) J
noncomputable def Zs3 (t:TE):TT:=fun σ H Q=>t σ H fun x H'=>∃ k,x=.bl k/\Q k H'
def Zns (ho:OpR X (YaV op) r)(ha:PE X a ta)(hb:PE X b tb)(hm:YcK op b=false):PT X (.Compare a [op] [b] pos) (Zs3 (tOp r ta tb)):=by
 intro pins s σ H Q I h;refine wpAny_isTrue_Compare1 (thn (ha pins s σ H _ I h) fun v s1 ⟨x,H1,I1,r1,q1⟩=>thn (hb pins s1 σ H1 _ I1 q1) fun u s2 ⟨y,H2,U,r2,Y⟩=>
  thn (ho pins s2 σ H2 x y v u _ U r1 r2 Y) fun c s3 ⟨z,J,I3,r3,k,e,q3⟩=>?_) hm
 subst e;cases r3;exact Ybu ⟨J,I3,q3⟩
noncomputable def ZhT (r r':R2)(ta tb tc:TE):TE:=fun σ H Q=>ta σ H fun x H1=>tb σ H1 fun y H2=>r x y H2 fun z I=>∃ k,z=.bl k /\
 (if k=true then tc σ I fun U J=>r' y U J Q else Q (.bl false) I)
def ZkT (ho:OpR X (YaV op) r)(J:OpR X (YaV op') r')(ha:PE X a ta)(hb:PE X b tb)(hc:PE X c tc)
  (hm:Yem [op,op'] [b,c]=false:=by with_unfolding_all rfl):PE X (.Compare a [op,op'] [b,c] pos) (ZhT r r' ta tb tc):=by
 intro pins s σ H Q I h;refine Compare_chain (thn (ha pins s σ H _ I h) fun v s1 ⟨x,H1,I1,r1,q1⟩=>chain_link (thn (hb pins s1 σ H1 _ I1 q1) fun u s2 ⟨y,H2,I2,Y,q2⟩=>
  thn (ho pins s2 σ H2 x y v u _ I2 r1 Y q2) fun d s3 ⟨z,H3,U,r3,k,e,q3⟩=>?_)) hm
 subst e;cases r3;refine Ybu ?_;cases k with
 | false=>exact ite_ff ⟨.bl false,H3,U,rfl,q3⟩
 | true=>exact ite_tt (chain_last (thn (hc pins s3 σ H3 _ U q3) fun w' s4 ⟨z',H4,I4,r4,q4⟩=>J pins s4 σ H4 y z' u w' Q I4 Y r4 q4))
def Zly (ho:OpR X (YaV op) r)(J:OpR X (YaV op') r')(ha:PE X a ta)(hb:PE X b tb)(hc:PE X c tc)
  (hm:Yem [op,op'] [b,c]=false:=by with_unfolding_all rfl):PT X (.Compare a [op,op'] [b,c] pos) (Zs3 (ZhT r r' ta tb tc)):=by
 intro pins s σ H Q I h;refine isTrue_chain (thn (ha pins s σ H _ I h) fun v s1 ⟨x,H1,I1,r1,q1⟩=>test_link (thn (hb pins s1 σ H1 _ I1 q1) fun u s2 ⟨y,H2,I2,Y,q2⟩=>
  thn (ho pins s2 σ H2 x y v u _ I2 r1 Y q2) fun d s3 ⟨z,H3,U,r3,k,e,q3⟩=>?_)) hm
 subst e;cases r3;refine Ybu ?_;cases k with
 | false=>
  obtain ⟨k',e',q'⟩:=q3;cases e';exact ite_ff ⟨H3,U,q'⟩
 | true=>
  refine ite_tt (test_last (thn (hc pins s3 σ H3 _ U q3) fun w' s4 ⟨z',H4,I4,r4,q4⟩=>thn (J pins s4 σ H4 y z' u w' _ I4 Y r4 q4) fun d' s5 zq=>?_));obtain ⟨z2,H5,I5,r5,k2,e2,q5⟩:=zq;subst e2;cases r5;exact Ybu ⟨H5,I5,q5⟩
def Zgq:(Yai:Nat)<2 ^ 63:=by rw[Ybj];decide
def Zhr:OpR X (YcJ .Add) (fun x y H Q=>∃ i j,x=.str i/\y=.str j/\i.length+j.length<=Yai/\Q (.str (i++j)) H):=by
 intro pins s σ H x y v u Q I J z h;obtain ⟨i,j,rfl,rfl,hz,q⟩:=h;obtain ⟨t,rfl⟩:=J;obtain ⟨t',rfl⟩:=z;exact add_str (fun t' tk=>⟨.str (i++j),H,I.tok _,⟨_,rfl⟩,q⟩) hz
def Zd1 (r:Vals [x] us):∃ u,us=[u]/\RelV x u:=by
 cases r with
 | cons r1 z=>cases z;exact ⟨_,rfl,r1⟩
def Zjn:CallR X (.type "int") (fun xs H Q=>(∃ i,xs=[.int i]/\Q (.int i) H)\/∃ k,xs=[.bl k]/\Q (.int (if k then 1 else 0)) H):=by
 intro pins s σ H xs us Q I r h;rcases h with ⟨i,rfl,q⟩|⟨k,rfl,q⟩
 ·obtain ⟨u,rfl,t,rfl⟩:=Zd1 r;exact call_int_int ⟨.int i,H,I,⟨_,rfl⟩,q⟩
 ·obtain ⟨u,rfl,r1⟩:=Zd1 r;cases r1;exact call_int_bool ⟨.int (if k then 1 else 0),H,I.tok _,⟨_,rfl⟩,q⟩
def ZkN:CallR X (.builtin "ord") (fun xs H Q=>∃ x,xs=[.str x]/\x.length=1/\Q (.int (x.cps.getD 0 0:Nat)) H):=by
 intro pins s σ H xs us Q I r h;obtain ⟨x,rfl,hz,q⟩:=h;obtain ⟨u,rfl,t,rfl⟩:=Zd1 r;exact ord_of_one hz ⟨.int _,H,I.tok _,⟨_,rfl⟩,q⟩
def ZyC (K:Yab)(x:V)(H:Hp)(n:Nat):Prop:=
 match x with
 | .str y=>y.length<=Yai/\n=y.length
 | .byt y=>y.size<=Yai/\n=y.size
 | .ref p=>(∃ xs,SqL K H p xs/\n=xs.length)\/∃ xs,SqT K H p xs/\n=xs.length
 | _=>False
def ZlS:CallR X (.builtin "len") (fun xs H Q=>∃ x n,xs=[x]/\ZyC X.K x H n/\Q (.int n) H):=by
 intro pins s σ H xs us Q I r h;obtain ⟨x,n,rfl,e,q⟩:=h;obtain ⟨u,rfl,Y⟩:=Zd1 r;have hl:=Zgq;have hs:Yai=16777216:=Ybj;cases x with
 | str y=>
  obtain ⟨t,rfl⟩:=Y;obtain ⟨hy,J⟩:y.length<=Yai/\n=y.length:=e;subst J;exact len_str (by omega) ⟨.int _,H,I.tok _,⟨_,rfl⟩,q⟩
 | byt y=>
  obtain ⟨t,rfl⟩:=Y;obtain ⟨hy,J⟩:y.size<=Yai/\n=y.size:=e;subst J;exact PySem.W.len_bytes (by omega) ⟨.int _,H,I.tok _,⟨_,rfl⟩,q⟩
 | ref p=>
  cases Y;have J:(∃ xs,SqL X.K H p xs/\n=xs.length)\/∃ xs,SqT X.K H p xs/\n=xs.length:=e;rcases J with ⟨xs,U,J⟩|⟨xs,U,J⟩
  ·subst J;obtain ⟨its,r',pl,hz⟩:=I.list U;have z:=r'.length;exact Calls.call_len_list pl.isList (by simp only[YaB];omega) ⟨.int xs.length,H,I.tok _,⟨_,by simp only[YaB];rw[z]⟩,q⟩
  ·subst J;obtain ⟨its,r',pl,hz⟩:=I.tuple U;have z:=r'.length;exact len_tuple pl (by simp only[YaB];omega) ⟨.int xs.length,H,I.tok _,⟨_,by simp only[YaB];rw[z]⟩,q⟩
 | _=>exact (show False from e).elim
end
structure ObjM (h:YbO)(x dx C:Yaq)(mA:Str->Option Yag):Prop where
 obj:h.get? x=some (YbV C dx)
 ns:h.Ns1 dx mA
 ne:dx≠x
def Zew {h:YbO}{dx:Yaq}{mA:Str->Option Yag}(n:h.Ns1 dx mA):∃ od,h.get? dx=some od/\∀ name,YdT name od=some (mA name):=by
 obtain ⟨o,es,ep,ho,U,Y,_,hm⟩:=n;refine ⟨o,ho,fun name=>?_⟩;have e:=hm name;unfold nsFind findBy at e;rw[<-Array.find?_toList] at e;unfold YdT;rw[U];dsimp only;split
 ·rename_i y q;rw[q] at e;exact congrArg some e
 ·rename_i q;rw[q] at e;have a:es.toList.any (·.refKey)=false:=by
   rw[List.any_eq_false];intro y hy;obtain ⟨z,t,I⟩:=Y y (Array.mem_toList_iff.mp hy);simp[DictEntry.refKey,I]
  have J:¬es.toList.any (·.refKey)=true:=by rw[a];exact Yav
  rw[if_neg J];exact congrArg some e
def ObjM.look (I:ObjM h x dx C mA):∃ od,YcR h x (YbV C dx) C (some od)/\∀ name,YdT name od=some (mA name):=
 let ⟨od,ho,z⟩:=Zew I.ns
 ⟨od,⟨I.obj,rfl,rfl,ho⟩,z⟩
section
variable {prog:YaN} {w:Ybg} {A:Ybr} {E:Yag->Yaj->Prop} {s:Yaj} {K:Yab} {x dx C f:Yaq} {mA:Str->Option Yag} {name:Str} {v:Yag}
def Zn2 (X:K.In s.heap)(I:ObjM s.heap x dx C mA)(hg:Yco K C name=true)(U:Ybd K C=true)
  (ha:Yao K (.ref C) name=some none) (hv:mA name=some v) (z:PySem.W.handedIn v=true) (h:Q v { s with toks:=s.toks+1 }) :
  YaF (YaJ prog w) A (getAttr (.ref x) name expr) Q E s:=by
 obtain ⟨od,J,Y⟩:=I.look;exact PySem.W.get_value X J (YdC hg).1 (YeJ U ha rfl (by rw[Y,hv])) z h
def ZkQ (X:K.In s.heap)(I:ObjM s.heap x dx C mA)(z:Yco K C name=true)
  (hf:Yao K (.ref C) name=some (some (.ref f))) (U:YdN K (.ref f)=true) (hv:mA name=none) (h:Q (.ref f,[.ref x]) s) :
  YaF (YaJ prog w) A (YdY (.ref x) name pl) Q E s:=by
 obtain ⟨od,J,Y⟩:=I.look;exact PySem.W.method_fn X J (YdC z).1 (YdC z).2 hf (beq_iff_eq.mp U) (by show (YdT name od).map (·.isSome)=some false;rw[Y,hv];rfl) h
def Zpb (X:K.In s.heap)(I:ObjM s.heap x dx C mA)
  (hs:Yao K (.ref C) "__setattr__"=some (some (.builtin "object.__setattr__"))) (hp:Ydh K C=true) (ht:Ycx K C name=some none) (hh:Ybd K C=true)
  (hw:Yfd mA ns) (hsz:ns.length<=Yai)
  (h:∀ h',ObjM h' x dx C (fun y=>if y=name then some v else mA y)->Ydo dx s.heap h'->Q () { s with heap:=h',toks:=s.toks+2 }) :
  YaF (YaJ prog w) A (setAttr (.ref x) name v) Q E s:=by
 obtain ⟨od,J,hl⟩:=I.look;refine PySem.W.set_plain X J hs (PySem.W.osa_open (s:={ s with toks:=s.toks+1 }) (r:=none) X J hp ht fun b=>?_);obtain ⟨cd,hc,ae⟩:=Yec hh;have hx:s.heap.get? x=some ⟨.ref C,some dx,.plain,#[]⟩:=I.obj;refine Yac (Yat (Yac (Yac (wpAny_loadPart hx (Yac (Ye3.here (s:={ s with toks:=s.toks+1 }) (YdD X hc) ?_))))));rw[ae];refine Yat (a:=some dx) (Yac (Yat (Yac ?_)));refine wpAny_nsSet1 (s:={ s with toks:=s.toks+1 }) I.ns fun h' z U=>?_
 obtain ⟨oD,ag,af,aa,ac,Y⟩:=z.count (Ye6 name v hw);refine Yac (wpAny_lookBehind aa (by rw[ac];exact pastItsLine_dict (YbE Y (by rw[Ya4];omega))) ?_);exact Yat (h _ ⟨(U.2 _ (YbW I.ne)).trans I.obj,z,I.ne⟩ U)
def ZlT {R:Result->Yaj->Prop}(X:K.In s.heap)(J:Yen K C=true)
  (hi:Yao K (.ref C) "__init__"=some (some (.ref f))) (I:YcS K (.ref f)=some (.type "function"))
  (h:Ydi (YaJ prog w) (A.under (.builtin "type.__call__" ⟨.ref C::vs,kw⟩)) (.call (.ref f) ⟨.ref (s.heap.objs.size+1)::vs,kw⟩) (PySem.W.InitBack (s.heap.objs.size+1) R)
   { s with heap:=(s.heap.push Ybv).push (YbV C s.heap.objs.size) }) :
  Ydi (YaJ prog w) A (.call (.ref C) ⟨vs,kw⟩) R s:=by
 obtain ⟨U,g,d,t,os⟩:=s;exact PySem.W.make_core (PySem.W.makes_of X J) (Ycb X hi) (fun z=>PySem.W.bind_fn X z I) (.inl rfl) h
end
noncomputable def Zdp (f:Str)(v:V):List (Str×V)->List (Str×V)
 | []=>[(f,v)]
 | (g,x)::r=>if g=f then (g,v)::r else (g,x)::Zdp f v r
theorem ZcZ (f g:Str)(v:V):∀ fs:List (Str×V),(Zdp f v fs).lookup g=if g=f then some v else fs.lookup g
 | []=>by
  show Yba g [(f,v)]=_;by_cases h:g=f
  ·have z:(g == f)=true:=beq_iff_eq.mpr h;simp only[Yba,z,if_pos h]
  ·have z:(g == f)=false:=beq_eq_false_iff_ne.mpr h;simp only[Yba,z,if_neg h]
 | (k,x)::r=>by
  have J:=ZcZ f g v r;rw[show Zdp f v ((k,x)::r)=(if k=f then (k,v)::r else (k,x)::Zdp f v r) from rfl];by_cases I:k=f
  ·rw[if_pos I];by_cases h:g=k
   ·have z:(g == k)=true:=beq_iff_eq.mpr h;simp only[Yba,z,if_pos (h.trans I)]
   ·have z:(g == k)=false:=beq_eq_false_iff_ne.mpr h;simp only[Yba,z,if_neg (fun e:g=f=>h (e.trans I.symm))]
  ·rw[if_neg I];by_cases h:g=k
   ·have z:(g == k)=true:=beq_iff_eq.mpr h;simp only[Yba,z,if_neg (fun e:g=f=>I (h.symm.trans e))]
   ·have z:(g == k)=false:=beq_eq_false_iff_ne.mpr h;simp only[Yba,z];exact J
theorem Zc1 (f:Str)(v:V):∀ fs:List (Str×V),f∈(Zdp f v fs).map (·.1)/\∀ g,g∈fs.map (·.1)->g∈(Zdp f v fs).map (·.1)
 | []=>⟨by simp[Zdp],fun g h=>by simp at h⟩
 | (k,x)::r=>by
  obtain ⟨i1,I⟩:=Zc1 f v r;rw[show Zdp f v ((k,x)::r)=(if k=f then (k,v)::r else (k,x)::Zdp f v r) from rfl];by_cases z:k=f
  ·rw[if_pos z];subst z;exact ⟨by simp,fun g h=>by simpa using h⟩
  ·rw[if_neg z];refine ⟨?_,fun g h=>?_⟩
   ·rw[Yap];exact Yau _ i1
   ·rw[Yap] at h ⊢;rcases Yaz.mp h with e|e
    ·exact Yaz.mpr (.inl e)
    ·exact Yau _ (I g e)
theorem ZcN (f:Str)(v:V):∀ fs:List (Str×V),(Zdp f v fs).length<=fs.length+1
 | []=>by simp[Zdp]
 | (k,x)::r=>by
  have I:=ZcN f v r;rw[show Zdp f v ((k,x)::r)=(if k=f then (k,v)::r else (k,x)::Zdp f v r) from rfl];by_cases z:k=f
  ·rw[if_pos z,Ya4,Ya4];omega
  ·rw[if_neg z,Ya4,Ya4];omega
def RelO.some_of (r:RelO (some v) o):∃ u,o=some u/\RelV v u:=by
 cases o with
 | none=>exact (show False from r).elim
 | some u=>exact ⟨u,rfl,r⟩
def RelO.none_of (r:RelO none o):o=none:=by
 cases o with
 | none=>rfl
 | some u=>exact (show False from r).elim
def Zep (r:RelV v u):PySem.W.handedIn u=true:=by
 cases v with
 | non=>cases (show u=Ya5 from r);rfl
 | bl b=>cases (show u=YcW b from r);rfl
 | int i=>obtain ⟨t,e⟩:=(show ∃ t,u=Yej i t from r);cases e;rfl
 | str x=>obtain ⟨t,e⟩:=(show ∃ t,u=YdV x t from r);cases e;rfl
 | byt b=>obtain ⟨t,e⟩:=(show ∃ t,u=Yag.bytes b t from r);cases e;rfl
 | flt b=>obtain ⟨t,e⟩:=(show ∃ t,u=Yag.float b t from r);cases e;rfl
 | ref a=>cases (show u=Yay a from r);rfl
 | ty n=>cases (show u=YdW n from r);rfl
section
variable {P:YaN} {w:Ybg} {H H':Hp} {h h':YbO} {a C dx:Yaq} {fs fs':List (Str×V)}
def Zea (I:HOk P w H h)(e:H a=some (.ins C dx fs)):∃ mA,ObjM h a dx C mA/\(∀ f,RelO (fs.lookup f) (mA f))/\Yfd mA (fs.map (·.1))/\fs.length<=1000/\H dx=some (.own a):=by
 obtain ⟨d,z,J,ob,mA,n,r,q⟩:=(show ObjOk P w H h a (.ins C dx fs) from I a _ e);exact ⟨mA,⟨ob,n,J⟩,r,q,z,d⟩
end
structure Cls (K:Yab)(C:Yaq):Prop where
 pg:Yco K C Str.empty=true
 hd:Ybd K C=true
 po:Ydh K C=true
 sa:Yao K (.ref C) "__setattr__"=some (some (.builtin "object.__setattr__"))
def Cls.get {K:Yab}{C:Yaq}(c:Cls K C)(f:Str):Yco K C f=true:=c.pg
def NoAttr (K:Yab)(C:Yaq)(f:Str):Prop:=Yao K (.ref C) f=some none
def NoAttr.taker {K:Yab}{C:Yaq}{f:Str}(n:NoAttr K C f):Ycx K C f=some none:=by
 unfold Ycx;rw[show Yao K (.ref C) f=some none from n];rfl
structure Meth (K:Yab)(C:Yaq)(m:Str)(f:Yaq):Prop where
 at_:Yao K (.ref C) m=some (some (.ref f))
 fn:YdN K (.ref f)=true
 kp:Ybk K (.ref f)=true
section
variable {X:Cx} {pins:List (Yaq×Obj)} {σ:St} {H:Hp} {s:Yaj} {a C dx:Yaq} {fs:List (Str×V)} {f:Str} {v:V} {A:Ybr} {E:Yag->Yaj->Prop}
def Zhj (I:Inv X pins σ H s)(e:H a=some (.ins C dx fs))(c:Cls X.K C)(n:NoAttr X.K C f)(l:fs.lookup f=some v)
  (h:∀ u s',Inv X pins σ H s'->RelV v u->Q u s'):YaF (YaJ X.prog X.w) A (getAttr (.ref a) f b) Q E s:=by
 obtain ⟨mA,O,r,_,_,_⟩:=Zea I.hok e;obtain ⟨u,J,z⟩:=RelO.some_of (v:=v) (o:=mA f) (by rw[<-l];exact r f);exact Zn2 I.kIn O (c.get f) c.hd n J (Zep z) (h u _ (I.tok _) z)
def ZdG (I:Inv X pins σ H s)(e:H a=some (.ins C dx fs))(c:Cls X.K C)(k:Meth X.K C m g)(l:fs.lookup m=none)
  (h:Q (.ref g,[.ref a]) s):YaF (YaJ X.prog X.w) A (YdY (.ref a) m pl) Q E s:=by
 obtain ⟨mA,O,r,_,_,_⟩:=Zea I.hok e;have z:mA m=none:=RelO.none_of (by rw[<-l];exact r m);exact ZkQ I.kIn O (c.get m) k.at_ k.fn z h
def Zhs (I:Inv X pins σ H s)(e:H a=some (.ins C dx fs))(c:Cls X.K C)(n:NoAttr X.K C f)(hl:fs.length<1000)(ry:RelV y u)
  (h:∀ s',Inv X pins σ (upd H a (.ins C dx (Zdp f y fs))) s'->Q () s'):YaF (YaJ X.prog X.w) A (setAttr (.ref a) f u) Q E s:=by
 obtain ⟨mA,O,r,wi,_,ho⟩:=Zea I.hok e;have hz:(fs.map (·.1)).length<=Yai:=by rw[YaE,Ybj];omega
 refine Zpb I.kIn O c.sa c.po n.taker c.hd wi hz fun h' J sb=>h _ ?_
 have U:∃ o,h'.get? dx=some o:=let ⟨o,_,_,Y,_⟩:=J.ns;⟨o,Y⟩
 refine I.write (x:=a) (e:=dx) (by rw[e];exact YbU) (.inr ho) (fun b q hb z=>(sb.2 b hb).trans z) U ?_;refine ⟨by rw[Zab O.ne];exact ho,?_,O.ne,J.obj,_,J.ns,fun g=>?_,fun g hg=>?_⟩
 ·have:=ZcN f y fs;omega
 ·show RelO ((Zdp f y fs).lookup g) (if g=f then some u else mA g);rw[ZcZ];by_cases q:g=f
  ·rw[if_pos q,if_pos q];exact ry
  ·rw[if_neg q,if_neg q];exact r g
 ·by_cases q:g=f
  ·rw[q];exact (Zc1 f y fs).1
  ·refine (Zc1 f y fs).2 g (wi g fun z=>hg ?_);show (if g=f then some u else mA g)=none;rw[if_neg q];exact z
def Inv.made (I:Inv X pins σ H s):Inv X pins σ (upd (upd H s.heap.objs.size (.own (s.heap.objs.size+1))) (s.heap.objs.size+1) (.ins C s.heap.objs.size []))
  { s with heap:=(s.heap.push Ybv).push (YbV C s.heap.objs.size) }:=by
 have J:(s.heap.push Ybv).get? s.heap.objs.size=some Ybv:=YaC s.heap rfl;have U:((s.heap.push Ybv).push (YbV C s.heap.objs.size)).get? (s.heap.objs.size+1)=some (YbV C s.heap.objs.size):=by
  have:=YaC (s.heap.push Ybv) (o:=YbV C s.heap.objs.size) rfl
  rwa [YeE] at this
 have e3:(s.heap.push Ybv).Ns s.heap.objs.size (fun _=>none):=⟨Ybv,#[],_,J,rfl,(fun e Y=>absurd Y (by simp)),fun _=>rfl⟩;have I1:=I.laid (a:=s.heap.objs.size) (o:=.own (s.heap.objs.size+1)) (h':=s.heap.push Ybv) (t':=s.toks) (fun b u q=>Yad _ q) (Yak _) ⟨_,J⟩;refine I1.laid (a:=s.heap.objs.size+1) (o:=.ins C s.heap.objs.size []) (t':=s.toks) (fun b u q=>Yad _ q) (Nat.le_of_eq (YeE _ _)) ?_;have z:s.heap.objs.size≠s.heap.objs.size+1:=YaK (Yed _);refine ⟨by rw[Zab z,Zae],Ycy _,z,U,fun _=>none,(YbO.Ns1.of_empty e3).at fun o q=>Yad _ q,fun _=>YbU,fun y hy=>absurd rfl hy⟩
def Zi8 (I:Ybb e f env (YbT e env)=YbT e env)
  (h:YaF (YaJ prog w) A (YbT e env) (fun o z=>YaF (YaJ prog w) A (getAttr o f true) Q E z) E s):YaF (YaJ prog w) A (YbT (.Attribute e f pos) env) Q E s:=
 Attribute_any_ h (by rw[arm_eval_Attribute,I])
end
noncomputable def ZyI (K:Yab)(ta:TE)(f:Str):TE:=fun σ H Q=>ta σ H fun x H1=>∃ a C dx fs v,x=.ref a/\H1 a=some (.ins C dx fs)/\Cls K C/\NoAttr K C f/\fs.lookup f=some v/\Q v H1
def ZyN (K:Yab)(ta tv:TE)(f:Str):TS:=fun D σ H=>tv σ H fun y H1=>ta σ H1 fun x H2=>∃ a C dx fs,x=.ref a/\H2 a=some (.ins C dx fs)/\Cls K C/\NoAttr K C f/\fs.length<1000 /\
 D.nx σ (upd H2 a (.ins C dx (Zdp f y fs)))
section
variable {X:Cx} {o e value:YaQ} {f:Str} {pos pos' tpos:Pos} {ta tv:TE}
def ZsK (U:PE X e ta)(hb:Ybb e f X.env (YbT e X.env)=YbT e X.env):PE X (.Attribute e f pos) (ZyI X.K ta f):=by
 intro pins s σ H Q I h;refine Zi8 hb (thn (U pins s σ H _ I h) fun u s1 J=>?_);obtain ⟨x,H1,I1,Y,a,C,dx,fs,v,ex,ea,c,n,l,q⟩:=J;subst ex;obtain rfl:u=Yay a:=Y;exact Zhj I1 ea c n l fun u' s2 z ru=>⟨v,H1,z,ru,q⟩
def ZqP (ha:PE X o ta)(Y:PE X value tv)(U:YbI value (some (.Attribute o f pos')) pos.line X.env=pure false):PS X (.Assign [.Attribute o f pos'] value pos) (ZyN X.K ta tv f):=by
 intro pins s σ H D I h;refine Ydj (thn (Y pins s σ H _ I h) fun u s1 ⟨y,H1,I1,ry,q⟩=>thn (ha pins s1 σ H1 _ I1 q) fun ov s2 zq=>?_) U;obtain ⟨x,H2,z,rx,a,C,dx,fs,ex,ea,c,n,l,J⟩:=zq;subst ex;obtain rfl:ov=Yay a:=rx;exact Zhs z ea c n l ry fun s3 I3=>⟨σ,_,I3,J⟩
end
section
variable {X:Cx} {pins:List (Yaq×Obj)} {σ:St} {H:Hp} {s:Yaj} {A:Ybr} {E:Yag->Yaj->Prop} {Q:Yag->Yaj->Prop} {c:Yag} {b:Bool}
inductive TyOf (K:Yab) (H:Hp):V->Yag->Prop where
 | non:TyOf K H .non (.type "NoneType")
 | bl (x:Bool):TyOf K H (.bl x) (.type "bool")
 | int (i:Int):TyOf K H (.int i) (.type "int")
 | str (x:Str):TyOf K H (.str x) (.type "str")
 | flt (x:UInt64):TyOf K H (.flt x) (.type "float")
 | lst {a:Yaq} {xs:List V} (e:H a=some (.lst xs)):TyOf K H (.ref a) (.type "list")
 | frz {a:Yaq} {o:Obj} {xs:List V} (e:H a=some (.frz o (.lst xs))):TyOf K H (.ref a) (.type "list")
 | tup {a:Yaq} {xs:List V} (e:H a=some (.tup xs)):TyOf K H (.ref a) (.type "tuple")
 | dK {a:Yaq} {kvs:List (Key×V)} (e:H a=some (.dK kvs)):TyOf K H (.ref a) (.type "dict")
 | dT {a:Yaq} {kvs:List (List Key×V)} (e:H a=some (.dT kvs)):TyOf K H (.ref a) (.type "dict")
 | ins {a C dx:Yaq} {fs:List (Str×V)} (e:H a=some (.ins C dx fs)) (cl:Cls K C) (ha:Yao K (.ref C) "__class__"=some (some (.builtin "object.__class__")))
   (hn:Ybl K (.builtin "object.__class__") "__get__"=some (some (.builtin "getset_descriptor.__get__"))) (htk:Ycz K (.builtin "object.__class__")=some true)
   (hm:YaZ K C (.type "object")=some true):TyOf K H (.ref a) (.ref C)
end
structure Room (k:Nat)(A:Ybr):Prop where
 dp:A.depth+3 * k+5<recursionLimit
 un:A.units+16 * k+200<YeK
def Room.mono (r:Room k A)(h:j<=k):Room j A:=⟨by have:=r.dp;omega,by have:=r.un;omega⟩
theorem Room.deeper (r:Room (k+1) A)(env:Env):Room k (A.deeper env):=
 ⟨by have:=r.dp;show A.depth+1+3 * k+5<_;omega,by have:=r.un;show A.units+3+16 * k+200<_;omega⟩
def Zg9 {A:Ybr}{C:Yaq}{us:List Yag}{z:List (Str×Yag)}:(A.under (.builtin "type.__call__" ⟨.ref C::us,z⟩)).depth=A.depth+1:=by
 first | rfl | simp[Yff,Code.weight,Code.isCreation,Code.isGuard,Code.isCaller,Code.frames,Code.isFrame,guardIds]
def Zhn {A:Ybr}{C:Yaq}{us:List Yag}{z:List (Str×Yag)}:(A.under (.builtin "type.__call__" ⟨.ref C::us,z⟩)).units=A.units+1:=by
 first | rfl | simp[Yff,Code.cUnits,Code.frames,Code.isFrame]
def Room.make (r:Room (k+1) A)(C:Yaq)(us:List Yag)(z:List (Str×Yag)):Room k (A.under (.builtin "type.__call__" ⟨.ref C::us,z⟩)):=
 ⟨by have:=r.dp;rw[Zg9];omega,by have:=r.un;rw[Zhn];omega⟩
theorem Room.depth (r:Room k A):A.depth<recursionLimit:=by have:=r.dp;omega
theorem Room.units (r:Room k A):A.units+64<YeK:=by have:=r.un;omega
noncomputable def ZvC:TA:=fun _ H Q=>Q [] H
noncomputable def Zng (ta:TE)(tr:TA):TA:=fun σ H Q=>ta σ H fun x H1=>tr σ H1 fun xs H2=>Q (x::xs) H2
section
variable {X:Cx} {e:YaQ} {es:List YaQ} {te:TE} {t:TA} {pos:Pos}
def pa_nil:PA X [] ZvC:=fun _ _ _ _ H Q I h=>Calls.spliced_nil ⟨[],H,I,.nil,h⟩
def Zbd (ha:PE X e te)(U:PA X es t)(hs:Yah (e::es) X.env=(false,YbT e X.env)::Yah es X.env:=by rfl):PA X (e::es) (Zng te t):=by
 intro pos pins s σ H Q I h;rw[hs];show YaF _ _ (spliced ((false,YbT e X.env)::Ya3 pos (Yah es X.env))) _ _ s;refine Yc3 (thn (ha pins s σ H _ I h) fun u s1 Y=>?_);obtain ⟨x,H1,I1,r1,q1⟩:=Y;exact thn (U pos pins s1 σ H1 _ I1 q1) fun us s2 ⟨xs,H2,z,r2,J⟩=>⟨x::xs,H2,z,.cons r1 r2,J⟩
def Zy5 (t:TA):TE:=fun σ H Q=>t σ H fun xs H1=>xs.length<=Yai/\∀ p,H1 p=none->Q (.ref p) (upd H1 p (.tup xs))
def Zzg (t:TA):TE:=fun σ H Q=>t σ H fun xs H1=>xs.length<=Yai/\∀ p,H1 p=none->Q (.ref p) (upd H1 p (.lst xs))
def Ztu {x1}(h:PA X es t):PE X (.Tuple es x1 pos) (Zy5 t):=by
 intro pins s σ H Q I Y;refine wpAny_Tuple_spliced (thn (h pos pins s σ H _ I Y) fun us s1 ⟨xs,H1,J,r,z,q⟩=>⟨by rw[<-r.length];exact z,?_⟩);have U:H1 s1.heap.objs.size=none:=J.hok.fresh (Yak _);refine ⟨.ref s1.heap.objs.size,upd H1 s1.heap.objs.size (.tup xs),J.laid (t':=s1.toks) (fun b u e=>Yad _ e) (Yak _) ?_,rfl,q _ U⟩;exact ⟨z,us,r,⟨_,YaC _ rfl,rfl,_,rfl⟩⟩
def Zl9 (h:PA X es t):PE X (.List es pos) (Zzg t):=by
 intro pins s σ H Q I Y;refine wpAny_List_spliced (thn (h pos pins s σ H _ I Y) fun us s1 ⟨xs,H1,J,r,z,q⟩=>⟨by rw[<-r.length];exact z,?_⟩);have U:H1 s1.heap.objs.size=none:=J.hok.fresh (Yak _);refine ⟨.ref s1.heap.objs.size,upd H1 s1.heap.objs.size (.lst xs),J.laid (t':=s1.toks) (fun b u e=>Yad _ e) (Yak _) ?_,rfl,q _ U⟩;exact ⟨z,us,0,r,YaC _ rfl⟩
end
abbrev Sp:=List V->Hp->VK->XK->Prop
structure CXT where
 ct:List Env->Hp->Yaj->XK->Yag->Yaj->Prop
 q:Bool
instance:CoeFun CXT fun _=>List Env->Hp->Yaj->XK->Yag->Yaj->Prop:=⟨CXT.ct⟩
structure Env0 (P:YaN)(w:Ybg)(K:Yab)(mg:Str->Option Yag)(base:YbO)(A:Ybr)(outer:List Env)(s:Yaj)(H:Hp):Prop where
 frames:A.frames=some outer
 mod:Mod K mg base
 bs:∀ b o,base.get? b=some o->s.heap.get? b=some o/\H b=none
 bsz:base.objs.size<=s.heap.objs.size
 funs:s.heap.FunFrames base outer
 frf:∀ b∈frs outer,H b=none
 hok:HOk P w H s.heap
 bare:Yd6 s.gens
 lq:A.handled=none\/∃ e o u,A.handled=some (.ref e)/\ZoR o/\H e=some (.frz o u)
def CE (outer:List Env)(P:YaN)(w:Ybg)(H:Hp)(s:Yaj)(Q:VK)(u:Yag)(s':Yaj):Prop:=
 ∃ v H',s'.os=s.os/\Yd6 s'.gens/\Un (frs outer) [] H H' s.heap s'.heap/\HOk P w H' s'.heap/\RelV v u/\Q v H'
def CR (CX:CXT)(outer:List Env)(P:YaN)(w:Ybg)(H:Hp)(s:Yaj)(Q:VK)(E:XK)(r:Result)(s':Yaj):Prop:=
 match r with
 | .ok (.ret u)=>CE outer P w H s Q u s'
 | .ok _=>False
 | .error e=>CX outer H s E e s'
structure FnOk (P:YaN)(w:Ybg)(K:Yab)(mg:Str->Option Yag)(base:YbO)(CX:CXT)(k:Nat)(f:Yaq)(fd:Ybc)(ps:List Str)(sp:Sp):Prop where
 len:∀ vs H Q E,sp vs H Q E->vs.length=ps.length
 run:∀ (A:Ybr) (outer:List Env) (s:Yaj) (H:Hp) (args:Args) (us:List Yag) (vs:List V) (Q:VK) (E:XK),Room k A->(CX.q=true->A.handled=none)->Env0 P w K mg base A outer s H->YeL s fd args (ps.zip us)->Vals vs us->sp vs H Q E ->
  Ydi (YaJ P w) A (.call (.ref f) args) (CR CX outer P w H s Q E) s
theorem FnOk.mono {P:YaN}{w:Ybg}{K:Yab}{mg:Str->Option Yag}{base:YbO}{CX:CXT}{j k:Nat}{f:Yaq}{fd:Ybc}{ps:List Str}{sp:Sp}(F:FnOk P w K mg base CX j f fd ps sp)(h:j<=k) :
  FnOk P w K mg base CX k f fd ps sp:=⟨F.len,fun A outer s H z us vs Q E I=>F.run A outer s H z us vs Q E (I.mono h)⟩
def FnOk.imp {P:YaN}{w:Ybg}{K:Yab}{mg:Str->Option Yag}{base:YbO}{CX:CXT}{k:Nat}{f:Yaq}{fd:Ybc}{ps:List Str}{sp I:Sp}(F:FnOk P w K mg base CX k f fd ps sp)
  (h:∀ vs H Q E,I vs H Q E->sp vs H Q E):FnOk P w K mg base CX k f fd ps I:=
 ⟨fun vs H Q E q=>F.len vs H Q E (h _ _ _ _ q),fun A outer s H z us vs Q E U J he hb hv Y=>F.run A outer s H z us vs Q E U J he hb hv (h _ _ _ _ Y)⟩
def Env0.make {P:YaN}{w:Ybg}{K:Yab}{mg:Str->Option Yag}{base:YbO}{A:Ybr}{outer:List Env}{s:Yaj}{H:Hp}(e:Env0 P w K mg base A outer s H)(C:Yaq)(us:List Yag)(z:List (Str×Yag)) :
  Env0 P w K mg base (A.under (.builtin "type.__call__" ⟨.ref C::us,z⟩)) outer s H:=⟨by first | exact e.frames | (simpa [Yff,Code.envs,Code.isFrame,pushEnvs] using e.frames),e.mod,e.bs,e.bsz,e.funs,e.frf,e.hok,e.bare,e.lq⟩
section
variable {X:Cx} {pins:List (Yaq×Obj)} {σ:St} {H:Hp} {s s':Yaj}
def Inv.env0 (I:Inv X pins σ H s):Env0 X.prog X.w X.K X.mg X.base X.A X.stack s H:=
 ⟨I.ok.frames,I.ok.mod,I.bs,YbE I.ok.bsz I.sz,I.stack,I.stkFree,I.hok,I.bare,I.lqh⟩
def Inv.after (I:Inv X pins σ H s)(h:CE X.stack X.prog X.w H s Q u s'):EP X pins σ Q u s':=by
 obtain ⟨v,H',os,J,un,U,r,q⟩:=h;obtain ⟨hh,g,d,t,Y⟩:=s';obtain rfl:Y=s.os:=os;exact ⟨v,H',I.call (h':=hh) (g':=g) (d':=d) (t':=t) (ch:=[]) un U J (fun b z=>absurd z (by simp)),r,q⟩
end
noncomputable def Zqz (sp:Sp)(dvs:List V)(E:XK)(t:TA):TE:=fun σ H Q=>t σ H fun vs H1=>sp (vs++dvs) H1 Q E
def Zqb (C:Yaq)(sp:Sp)(dvs:List V)(E:XK)(t:TA):TE:=fun σ H Q=>t σ H fun vs H1=>∀ x dx,H1 x=none->H1 dx=none->dx≠x ->
 sp (.ref x::(vs++dvs)) (upd (upd H1 dx (.own x)) x (.ins C dx [])) (fun v H2=>v=.non/\Q (.ref x) H2) E
def Binds (K:Yab)(fd:Ybc)(ps:List Str)(ds:List Yag):Prop:=
 ∀ (s:Yaj) (us:List Yag),K.In s.heap->(us++ds).length=ps.length->YeL s fd ⟨us,[]⟩ (ps.zip (us++ds))
def Binds.all {K:Yab}{fd:Ybc}{ps:List Str}(h:∀ us:List Yag,us.length=ps.length->bindArgs fd ⟨us,[]⟩=pure (ps.zip us)):Binds K fd ps []:=fun s us _ z=>by
 rw[YbK] at z ⊢;exact .of_eq (h us z)
def Zex (CX:CXT)(X:Cx)(E:XK):Prop:=(CX.q=true->X.calm=true)/\∀ (pins:List (Yaq×Obj)) (σ:St) (H:Hp) (s:Yaj) (e:Yag) (s':Yaj),Inv X pins σ H s->CX X.stack H s E e s'->X.xe e s'
section
variable {X:Cx} {CX:CXT} {k:Nat} {f C:Yaq} {fd:Ybc} {ps:List Str} {sp:Sp} {dvs:List V} {ds:List Yag} {E:XK} {x m:Str} {p pos apos:Pos} {e o:YaQ} {es:List YaQ} {ta:TE} {t:TA}
def Zro (F:FnOk X.prog X.w X.K X.mg X.base CX k f fd ps sp)(hr:Room k X.A)(hb:Binds X.K fd ps ds)(hd:Vals dvs ds)(U:Zex CX X E)
  (I:Inv X pins σ H s) (r:Vals vs us) (h:sp (vs++dvs) H Q E):YaF (YaJ X.prog X.w) X.A (call (.ref f) us) (EP X pins σ Q) X.xe s:=by
 have Y:Vals (vs++dvs) (us++ds):=r.append hd;have hl:(us++ds).length=ps.length:=by rw[<-Y.length];exact F.len _ _ _ _ h
 refine YcY (YcA (F.run X.A X.stack s H ⟨us,[]⟩ (us++ds) (vs++dvs) Q E hr (fun z=>I.ok.hd (U.1 z)) I.env0 (hb s us I.kIn hl) Y h) fun r s' J=>?_);cases r with
 | error e=>exact U.2 pins σ H s e s' I J
 | ok fl=>
  cases fl with
  | ret u=>exact I.after J
  | next=>exact Ya9 J
  | brk=>exact Ya9 J
  | cont=>exact Ya9 J
structure Mk (K:Yab)(C f:Yaq):Prop where
 makes:Yen K C=true
 init:Yao K (.ref C) "__init__"=some (some (.ref f))
 fn:YdN K (.ref f)=true
 kp:Ybk K (.ref C)=true
def Zgg (M:Mk X.K C f)(F:FnOk X.prog X.w X.K X.mg X.base CX k f fd ps sp)(hr:Room (k+1) X.A)(hb:Binds X.K fd ps ds)(hd:Vals dvs ds)
  (Y:Zex CX X E) (I:Inv X pins σ H s) (r:Vals vs us)
  (h:∀ x dx,H x=none->H dx=none->dx≠x->sp (.ref x::(vs++dvs)) (upd (upd H dx (.own x)) x (.ins C dx [])) (fun v H2=>v=.non/\Q (.ref x) H2) E) :
  YaF (YaJ X.prog X.w) X.A (call (.ref C) us) (EP X pins σ Q) X.xe s:=by
 have hq:=h (s.heap.objs.size+1) s.heap.objs.size (I.hok.fresh (YdE _)) (I.hok.fresh (Yak _)) (YaK (Yed _));have U:=Inv.made (C:=C) I;have r2:Vals (V.ref (s.heap.objs.size+1)::(vs++dvs)) (Yay (s.heap.objs.size+1)::(us++ds)):=.cons rfl (r.append hd);have hl:(Yay (s.heap.objs.size+1)::us++ds).length=ps.length:=by
  have e:=r2.length;rw[F.len _ _ _ _ hq] at e;exact e.symm
 refine YcY (ZlT (f:=f) I.kIn M.makes M.init (beq_iff_eq.mp M.fn) (YcA (F.run _ X.stack _ _ ⟨Yay (s.heap.objs.size+1)::us,[]⟩ (Yay (s.heap.objs.size+1)::(us++ds)) _ _ E (hr.make C us []) (fun z=>I.ok.hd (Y.1 z))
  (U.env0.make C us []) (hb _ (Yay (s.heap.objs.size+1)::us) U.kIn hl) r2 hq) fun r s' J=>?_))
 cases r with
 | error e=>exact Y.2 pins σ _ _ e s' U J
 | ok fl=>
  cases fl with
  | ret u=>
   obtain ⟨v,H',I3,rv,ev,q3⟩:=U.after J;subst ev;exact ⟨rv,⟨V.ref (s.heap.objs.size+1),H',I3,rfl,q3⟩⟩
  | next=>exact Ya9 J
  | brk=>exact Ya9 J
  | cont=>exact Ya9 J
def Zp2 (M:Mk X.K C f)(F:FnOk X.prog X.w X.K X.mg X.base CX k f fd ps sp)(hr:Room (k+1) X.A)(hg:Gl X x)(hm:X.mg x=some (.ref C))(hb:Binds X.K fd ps ds)(hd:Vals dvs ds)(Y:Zex CX X E)
  (ha:PA X (e::es) t) (z:(x == ("__debug__":Str))=false:=by decide) (he:Yah (e::es) X.env=(false,YbT e X.env)::Yah es X.env:=by rfl) (J:(Ya3 pos (Yah es X.env)).any (·.1)=false:=by rfl) :
  PE X (.Call (.Name x p) (e::es) [] pos) (Zqb C sp dvs E t):=by
 intro pins s σ H Q I h;refine Ybn (ZaY I hg hm ?_ z);refine Ycs (h₀:=X.base) I.ok.mod.kin M.kp (thn (ha pos pins s σ H _ I h) fun us s1 ⟨vs,H1,U,r,q⟩=>⟨U.kIn,?_⟩) he J;exact Zgg M F hr hb hd Y U r q
def Zl6 (M:Mk X.K C f)(F:FnOk X.prog X.w X.K X.mg X.base CX k f fd ps sp)(Y:Room (k+1) X.A)(hg:Gl X x)(hm:X.mg x=some (.ref C))(hb:Binds X.K fd ps ds)(U:Vals dvs ds)(J:Zex CX X E)
  (z:(x == ("__debug__":Str))=false:=by decide):PE X (.Call (.Name x p) [] [] pos) (Zqb C sp dvs E ZvC):=by
 intro pins s σ H Q I h;refine Ybn (ZaY I hg hm ?_ z);exact YdF I.kIn M.kp (Zgg (us:=[]) M F Y hb U J I .nil h)
end
structure FnScope (N P:List Str)(sc:YcQ):Prop where
 kind:sc.kind=.function
 co:sc.isCoroutine=false
 gen:sc.isGenerator=false
 nd:N.Nodup
 pre:N.take P.length=P
 par:∀ x∈P,sc.names.lookup x=some .local\/sc.names.lookup x=some .cell
 nofree:∀ y∈sc.names,y.2≠.free
theorem Zfb {I:Str->Option YcL}{x:Str}:∀ {z:List (Str×Yag)} {m:Str->Option Yag},(∀ v,(x,v) ∉ z)->bindL I z m x=m x
 | [],_,_=>rfl
 | (n,v)::r,m,h=>by
  unfold bindL;rw[Zfb fun w J=>h w (Yau _ J)];split
  ·have:x≠n:=by rintro rfl;exact h v YaD
   simp[this]
  ·rfl
theorem ZeF {I:Str->Option YcL}{x:Str}:∀ {z:List (Str×Yag)} {m:Str->Option Yag},(∀ v,(x,v) ∉ z)->bindC I z m x=m x
 | [],_,_=>rfl
 | (n,v)::r,m,h=>by
  unfold bindC;rw[ZeF fun w J=>h w (Yau _ J)];split
  ·rfl
  ·have:x≠n:=by rintro rfl;exact h v YaD
   simp[this]
theorem Ze0 {z:Str->Option YcL}{x:Str}{v:Yag}:∀ {P:List Str} {vs:List Yag} {i:Nat} {m:Str->Option Yag},P.Nodup->P[i]?=some x->vs[i]?=some v->z x=some .local ->
  bindL z (P.zip vs) m x=some v
 | [],_,_,_,_,h,_,_=>by simp at h
 | _::_,[],_,_,_,_,h,_=>by simp at h
 | p::P,w::vs,0,m,I,h1,h2,J=>by
  simp at h1 h2;subst h1;subst h2;show bindL z ((p,w)::P.zip vs) m p=_;unfold bindL;rw[Zfb fun v U=>(YdG.mp I).1 (Yeo U).1,if_pos J];simp
 | p::P,w::vs,i+1,m,I,h1,h2,J=>by
  show bindL z ((p,w)::P.zip vs) m x=_;unfold bindL;exact Ze0 (i:=i) (YdG.mp I).2 (by simpa using h1) (by simpa using h2) J
theorem Zey {z:Str->Option YcL}{x:Str}{v:Yag}:∀ {P:List Str} {vs:List Yag} {i:Nat} {m:Str->Option Yag},P.Nodup->P[i]?=some x->vs[i]?=some v->z x≠some .local ->
  bindC z (P.zip vs) m x=some v
 | [],_,_,_,_,h,_,_=>by simp at h
 | _::_,[],_,_,_,_,h,_=>by simp at h
 | p::P,w::vs,0,m,I,h1,h2,J=>by
  simp at h1 h2;subst h1;subst h2;show bindC z ((p,w)::P.zip vs) m p=_;unfold bindC;rw[ZeF fun v U=>(YdG.mp I).1 (Yeo U).1,if_neg J];simp
 | p::P,w::vs,i+1,m,I,h1,h2,J=>by
  show bindC z ((p,w)::P.zip vs) m x=_;unfold bindC;exact Zey (i:=i) (YdG.mp I).2 (by simpa using h1) (by simpa using h2) J
noncomputable def start (N:List Str)(vs:List V):St:=vs.map some++Ycq (N.length - vs.length) none
noncomputable def Zcm (CX:CXT)(P:YaN)(w:Ybg)(K:Yab)(mg:Str->Option Yag)(base:YbO)(N:List Str)(z:Str)(scope:YcQ)(f:Yaq)(J:Yag)(A:Ybr)(outer:List Env)(s:Yaj)(H:Hp)(E:XK):Cx where
 prog:=P
 w:=w
 K:=K
 mg:=mg
 base:=base
 A:=A.deeper (Yc4 z scope s.heap.objs.size f J)
 N:=N
 s₀:=s
 H₀:=H
 env:=Yc4 z scope s.heap.objs.size f J
 outer:=outer
 stack:=Yc4 z scope s.heap.objs.size f J::outer
 ex:=[]
 calm:=CX.q
 fn:=fun _=>true
 pn:=[]
 xe:=fun e s'=>YaF (YaJ P w) (A.deeper (Yc4 z scope s.heap.objs.size f J)) (leaving (Yc4 z scope s.heap.objs.size f J) e) (fun _ I=>CX outer H s E e I) (fun U I=>CX outer H s E U I) s'
def ZgX {z:YcQ}{n:Nat}{x:Str}(h:z.names.lookup x=some .cell):∃ c,(cellsFrom n z.names []).lookup x=some c:=by
 have q:=Yeg z.names n [] (.inl h);exact Ybh.mp q
def Zjt {CX:CXT}{P:YaN}{w:Ybg}{K:Yab}{mg:Str->Option Yag}{base:YbO}{N ps:List Str}{I:Str}{scope:YcQ}{f:Yaq}{cd:Yag}{A:Ybr}{outer:List Env}{s s1:Yaj}{H:Hp}{E:XK}{us:List Yag}{vs:List V}
  (S:FnScope N ps scope) (hd:CX.q=true->A.handled=none) (e0:Env0 P w K mg base A outer s H) (hl:vs.length=ps.length) (r:Vals vs us)
  (x:InCallC s s.heap.objs.size (bindL (Yc4 I scope s.heap.objs.size f cd).kindOf (ps.zip us) fun _=>none) (cellsFrom (s.heap.objs.size+1) scope.names []) (bindC (Yc4 I scope s.heap.objs.size f cd).kindOf (ps.zip us) fun _=>none) s1) :
  Inv (Zcm CX P w K mg base N I scope f cd A outer s H E) [] (start N vs) H s1:=by
 have ac:ps.length<=N.length:=by have:=congrArg List.length S.pre;rw[Yds] at this;omega
 obtain ⟨h1,tk,rfl,hk⟩:=x.done;have U:∀ b:Yaq,b ∉ (Zcm CX P w K mg base N I scope f cd A outer s H E).ex:=fun b z=>absurd (show b∈([]:List Yaq) from z) (by simp)
 refine ⟨⟨e0.mod,S.kind,rfl,rfl,Yak _,fun y z c h1 h2=>?_,fun y J=>?_,fun y c _ h=>?_,hd,Ybr.frames_deeper e0.frames,.inr ⟨rfl,rfl⟩,fun b z=>absurd z (U b),e0.bs,e0.bsz,fun b _ _=>U b,fun b z=>absurd z (U b),e0.funs,e0.frf,e0.lq⟩,
  rfl,e0.bare,Un.kept hk,⟨_,x.toInCall.ns,fun i y v h1 h2 h3=>?_⟩,fun y c h=>⟨_,x.cell y c h⟩,e0.hok.fresh (Yak _),fun y c h=>?_,fun p Y=>absurd (show p∈([]:List (Yaq×Obj)) from Y) (by simp),e0.hok.kept hk,?_⟩
 ·exact name_of_addr x.apart (Ybs h1) (Ybs h2)
 ·have J:scope.names.lookup y=some .cell\/scope.names.lookup y=some .free:=J;rcases J with J|J
  ·exact ZgX J
  ·exact absurd rfl (S.nofree _ (Ybs J))
 ·exact Nat.le_of_lt (x.above y c (Ybs h))
 ·have hi:i<vs.length:=by
   unfold start at h2;by_cases hi:i<vs.length
   ·exact hi
   ·rw[YaX (by simpa using hi)] at h2;rw[Yc5] at h2;split at h2<;>cases h2
  have ha:vs[i]?=some v:=by
   unfold start at h2;rw[YaM (by simpa using hi),YaU] at h2;cases e:vs[i]? with
   | none=>rw[e] at h2;cases h2
   | some a=>rw[e] at h2;cases h2;rfl
  obtain ⟨u,hu,rv⟩:=r.get ha;have Y:ps[i]?=some y:=by
   rw[<-S.pre,Yd0 (by omega)];exact h1
  have aa:ps.Nodup:=by rw[<-S.pre];exact S.nd.sublist (List.take_sublist _ _)
  refine ⟨u,rv,?_⟩;rcases S.par y (Yax Y) with k|k
  ·exact .inl ⟨k,Ze0 aa Y hu k⟩
  ·obtain ⟨c,e⟩:=ZgX (n:=s.heap.objs.size+1) k;refine .inr ⟨.inl k,c,e,?_⟩;have q:=x.cell y c e;rw[Zey aa Y hu (by show scope.names.lookup y≠_;rw[k];decide)] at q;exact q
 ·exact e0.hok.fresh (Nat.le_of_lt (x.above y c (Ybs h)))
 ·unfold start;show _=N.length;rw[Ybo,YaE,YcB];omega
def ZpP {CX:CXT}{P:YaN}{w:Ybg}{K:Yab}{mg:Str->Option Yag}{base:YbO}{k:Nat}{f:Yaq}{name z:Str}{Y:Arguments}{body:List Yce}{scope:YcQ}{dV kV af pm U ct oc:Yag}{an od:Option Yaq}
  {ah:Array (Option Yag)} {N ps:List Str} {sp:Sp} (lk:K.lookup f=some ⟨oc,od,.func (Ybw name z Y body scope dV kV af pm an U ct),ah⟩) (ai:Yb7 K U z=true) (S:FnScope N ps scope)
  (ag:∀ vs H Q E,sp vs H Q E->vs.length=ps.length)
  (aa:∀ (A:Ybr) (outer:List Env) (s:Yaj) (H:Hp) (vs:List V) (Q:VK) (E:XK),Room k (A.deeper (Yc4 z scope s.heap.objs.size f U))->sp vs H Q E ->
   ∃ t,PSs (Zcm CX P w K mg base N z scope f U A outer s H E) body t/\t { nx:=fun _ H'=>Q .non H',rt:=Q } (start N vs) H) :
  FnOk P w K mg base CX (k+1) f (Ybw name z Y body scope dV kV af pm an U ct) ps sp:=by
 refine ⟨ag,fun A outer s H ak us vs Q E hr aj e0 hb r ae=>?_⟩;have hl:=ag _ _ _ _ ae;have KX:K.In s.heap:=e0.mod.kin.keeps fun b o e=>(e0.bs b o e).1
 have lim:s.heap.NoLimit:=e0.mod.nolimit.keeps fun b o e=>(e0.bs b o e).1
 have ac:∀ y∈ps.zip us,scope.names.lookup y.1=some .local\/(scope.names.lookup y.1=some .cell/\((cellsFrom (s.heap.objs.size+1) scope.names []).lookup y.1).isSome=true):=fun ⟨n,v⟩ hy=>by
  rcases S.par n (Yeo hy).1 with q|q
  ·exact .inl q
  ·exact .inr ⟨q,Yeg _ _ _ (.inl q)⟩
 refine codeAny_call_function hr.depth (KX _ _ lk) rfl S.co S.gen rfl (PySem.W.codeRec_of KX ai) (hb _ _ _ _ ?_);refine wpAny_newFunctionEnv_cells S.kind ac fun env he s1 x=>?_
 subst he;refine ⟨lim.keeps x.toInCall.keep,codeAny_func ?_⟩;obtain ⟨t,ht,hq⟩:=aa A outer s H vs Q E (hr.deeper _) ae;have I:Inv (Zcm CX P w K mg base N z scope f U A outer s H E) [] (start N vs) H s1:=Zjt S aj e0 hl r x;refine Ya6 (ht [] s1 (start N vs) H _ I hq) (fun fl s' hs=>?_) fun e s' hs=>hs
 have fin:∀ {σ':St} {H':Hp} {v:V} {u:Yag},Inv (Zcm CX P w K mg base N z scope f U A outer s H E) [] σ' H' s'->RelV v u->Q v H'->CE outer P w H s Q u s':=
  fun {σ' H' v u} J rv q=>⟨v,H',J.os,J.bare,J.base,J.hok,rv,q⟩
 cases fl with
 | ret u=>
  obtain ⟨v,σ',H',J,rv,q⟩:=hs;exact fin J rv q
 | next=>
  obtain ⟨σ',H',J,q⟩:=hs;exact fin (v:=V.non) (u:=Ya5) J rfl q
 | brk=>
  obtain ⟨_,_,_,q⟩:=hs;exact Ya9 q
 | cont=>
  obtain ⟨_,_,_,q⟩:=hs;exact Ya9 q
section
variable {X:Cx} {x:Str} {p pos:Pos} {e:YaQ} {es:List YaQ} {t:TA} {id T:String} {r:List V->Hp->VK->Prop}
noncomputable def tCB (r:List V->Hp->VK->Prop)(t:TA):TE:=fun σ H Q=>t σ H fun vs H1=>r vs H1 Q
def ZkI (hc:CallR X (.builtin id) r)(hg:Gl X x)(hm:X.mg x=none)(hv:YaR x=some (.builtin id))(ha:PA X (e::es) t)(U:x≠"__name__":=by decide)(z:(x == ("__debug__":Str))=false:=by decide)
  (Y:Yah (e::es) X.env=(false,YbT e X.env)::Yah es X.env:=by rfl) (J:(Ya3 pos (Yah es X.env)).any (·.1)=false:=by rfl):PE X (.Call (.Name x p) (e::es) [] pos) (tCB r t):=by
 intro pins s σ H Q I h;refine Ybn (Zdr I hg hm hv ?_ U z);exact PyProof.Rows.callWith_builtin1 (thn (ha pos pins s σ H _ I h) fun us s1 ⟨vs,H1,I1,r1,q1⟩=>hc pins s1 σ H1 vs us Q I1 r1 q1) Y J
def Zem (hc:CallR X (.type T) r)(hg:Gl X x)(hm:X.mg x=none)(hv:YaR x=some (.type T))(ha:PA X (e::es) t)(U:x≠"__name__":=by decide)(z:(x == ("__debug__":Str))=false:=by decide)
  (Y:Yah (e::es) X.env=(false,YbT e X.env)::Yah es X.env:=by rfl) (J:(Ya3 pos (Yah es X.env)).any (·.1)=false:=by rfl):PE X (.Call (.Name x p) (e::es) [] pos) (tCB r t):=by
 intro pins s σ H Q I h;refine Ybn (Zdr I hg hm hv ?_ U z);exact YbY (thn (ha pos pins s σ H _ I h) fun us s1 ⟨vs,H1,I1,r1,q1⟩=>hc pins s1 σ H1 vs us Q I1 r1 q1) Y J
end
end L2
namespace HT
open PySem PyProof.Rows
section
variable {prog:YaN} {w:Ybg} {A:Ybr} {E:Yag->Yaj->Prop} {s:Yaj}
noncomputable def sIx (n d:Nat):Option Int->Nat
 | none=>d
 | some v=>if v<0 then (v+(n:Int)).toNat else min v.toNat n
end
end HT
namespace L2
open PySem PySem.Spec PyProof.Rows
abbrev TO:=St->Hp->(Option Int->Hp->Prop)->Prop
def PO (X:Cx)(e:Option YaQ)(t:TO):Prop:=
 ∀ (pins:List (Yaq×Obj)) (s:Yaj) (σ:St) (H:Hp) (Q:Option Int->Hp->Prop),Inv X pins σ H s->t σ H Q ->
  YaF (YaJ X.prog X.w) X.A (evalPart e X.env) (fun u s'=>∃ o H',Inv X pins σ H' s'/\IsPart u o/\Q o H') X.xe s
noncomputable def ZpR:TO:=fun _ H Q=>Q none H
noncomputable def ZuY (t:TE):TO:=fun σ H Q=>t σ H fun x H1=>∃ i,x=.int i/\Q (some i) H1
def ZbW:∀ {us:List Yag},Vals (ns.map V.int) us->Ye7 us ns:=by
 induction ns with
 | nil=>intro us r;rw[YcZ] at r;cases r;exact .nil
 | cons n ns z=>
  intro us r;rw[Yap] at r;cases r with
  | cons r1 I=>
   obtain ⟨t,e⟩:=r1;subst e;exact .cons n t (z I)
section
variable {X:Cx} {e:YaQ} {te:TE} {lo hi:Option YaQ} {tl th:TO} {pos p2:Pos}
def ZpJ:PO X none ZpR:=by
 intro pins s σ H Q I h;rw[evalPart_none];exact Yat ⟨none,H,I,.none,h⟩
def Zn8 (h:PE X e te):PO X (some e) (ZuY te):=by
 intro pins s σ H Q I J;rw[evalPart_some];refine thn (h pins s σ H _ I J) fun u s1 z=>?_
 obtain ⟨x,H1,Y,r1,U⟩:=z;obtain ⟨i,rfl,q⟩:=U;obtain ⟨t,rfl⟩:=r1;exact ⟨some i,H1,Y,.int i t,q⟩
def SlR (X:Cx)(r:V->Option Int->Option Int->Hp->VK->Prop):Prop:=
 ∀ (pins:List (Yaq×Obj)) (s:Yaj) (σ:St) (H:Hp) (x:V) (v vl z:Yag) (lo hi:Option Int) (sl:Yaq) (Q:VK),Inv X pins σ H s->RelV x v->s.heap.IsSliceOf sl vl z .none->IsPart vl lo->IsPart z hi->r x lo hi H Q ->
  ∃ T id,typeLookup (.type T) "__getitem__"=pure (some (.builtin id))/\s.TypeIs v T/\YaF (YaJ X.prog X.w) X.A (Ye8 v (.ref sl)) (EP X pins σ Q) X.xe s
def SlR.or (h:SlR X r)(h':SlR X r'):SlR X (fun x lo hi H Q=>r x lo hi H Q\/r' x lo hi H Q):=by
 intro pins s σ H x v vl J lo hi sl Q I z U pl pu q;rcases q with q|q
 ·exact h pins s σ H x v vl J lo hi sl Q I z U pl pu q
 ·exact h' pins s σ H x v vl J lo hi sl Q I z U pl pu q
noncomputable def tSl (r:V->Option Int->Option Int->Hp->VK->Prop)(te:TE)(tl th:TO):TE:=fun σ H Q=>te σ H fun x H1=>tl σ H1 fun l H2=>th σ H2 fun u z=>r x l u z Q
def ZkY (hr:SlR X r)(he:PE X e te)(hl:PO X lo tl)(hu:PO X hi th):PE X (.Subscript e (.Slice lo hi none p2) pos) (tSl r te tl th):=by
 intro pins s σ H Q I h;refine Subscript_ (thn (he pins s σ H _ I h) fun v s1 U=>?_);obtain ⟨x,H1,I1,r1,q1⟩:=U;refine wpAny_Slice (thn (hl pins s1 σ H1 _ I1 q1) fun vl s2 ⟨l,H2,I2,pl,q2⟩=>thn (hu pins s2 σ H2 _ I2 q2) fun J z U=>?_);obtain ⟨u,Y,I3,pu,q3⟩:=U;rw[evalPart_none];refine Yat ?_;have I4:Inv X pins σ Y { z with heap:=z.heap.push { cls:=.type "slice",data:=.fields #[vl,J,.none] } }:=I3.kept (t':=z.toks) fun b ob q=>Yad _ q
 obtain ⟨T,id,hT,ht,hg⟩:=hr pins { z with heap:=z.heap.push { cls:=.type "slice",data:=.fields #[vl,J,.none] } } σ Y x v vl J l u z.heap.objs.size Q I4 r1 (YbO.IsSliceOf.new ..) pl pu q3;show YaF (YaJ X.prog X.w) X.A (subscriptTail e (.Slice lo hi none p2) v (.ref z.heap.objs.size)) (EP X pins σ Q) X.xe { z with heap:=z.heap.push { cls:=.type "slice",data:=.fields #[vl,J,.none] } };exact tail_any (ops:=[.ref z.heap.objs.size,v]) ht hT hg (by with_unfolding_all rfl)
def ZoE (xs:List V)(lo hi:Option Int):List V:=(xs.drop (HT.sIx xs.length 0 lo)).take (HT.sIx xs.length xs.length hi - HT.sIx xs.length 0 lo)
def Zfi (xs:List V)(lo hi:Option Int):(ZoE xs lo hi).length<=xs.length:=by
 unfold ZoE;rw[Yds,List.length_drop];omega
end
noncomputable def ixN (n:Nat)(i:Int):Option Nat:=if 0<=i then (if i<n then some i.toNat else none) else if -(n:Int)<=i then some (i+n).toNat else none
def atI {α:Type}(xs:List α)(i:Int):Option α:=(ixN xs.length i).bind fun j=>xs[j]?
noncomputable def ZoM (h:ixN n i=some j):seqIndex? i n=some j/\j<n /\ -(n:Int)<=i/\i<n:=by
 unfold ixN at h;by_cases z:0<=i
 ·rw[if_pos z] at h;by_cases h1:i<n
  ·rw[if_pos h1] at h;have e:i.toNat=j:=YaT h;exact ⟨by rw[seqIndex_of z h1,e],by omega,by omega,h1⟩
  ·rw[if_neg h1] at h;cases h
 ·rw[if_neg z] at h;by_cases h1:-(n:Int)<=i
  ·rw[if_pos h1] at h;have e:(i+n).toNat=j:=YaT h;exact ⟨by rw[seqIndex_neg (by omega) h1,e],by omega,h1,by omega⟩
  ·rw[if_neg h1] at h;cases h
def ZfP (h:atI xs i=some v):∃ j,seqIndex? i xs.length=some j/\xs[j]?=some v/\j<xs.length /\ -(xs.length:Int)<=i/\i<xs.length:=by
 unfold atI at h;cases e:ixN xs.length i with
 | none=>rw[e] at h;cases h
 | some j=>
  rw[e] at h;obtain ⟨h1,h2,h3,z⟩:=ZoM e;exact ⟨j,h1,h,h2,h3,z⟩
def Zeg (b:YaQ):Prop:=∀ o i,YeM b false o i=operate [o,i] (Ye8 o i)
def IxR (X:Cx)(r:R2):Prop:=
 ∀ (value z:YaQ) (pins:List (Yaq×Obj)) (s:Yaj) (σ:St) (H:Hp) (x y:V) (v u:Yag) (Q:VK),Inv X pins σ H s->RelV x v->RelV y u->r x y H Q ->
  YeM z false v u=operate [v,u] (Ye8 v u)->YaF (YaJ X.prog X.w) X.A (subscriptTail value z v u) (EP X pins σ Q) X.xe s
def MtR (X:Cx)(id:String)(r:V->List V->Hp->VK->Prop):Prop:=
 ∀ (pins:List (Yaq×Obj)) (s:Yaj) (σ:St) (H:Hp) (x:V) (xs:List V) (v:Yag) (us:List Yag) (Q:VK),Inv X pins σ H s->RelV x v->Vals xs us->r x xs H Q ->
  YaF (YaJ X.prog X.w) X.A (call (.builtin id) (v::us)) (EP X pins σ Q) X.xe s
section
variable {X:Cx} {a b:YaQ} {ta tb:TE} {pos:Pos}
def IxR.or (h:IxR X r)(h':IxR X r'):IxR X (fun x y H Q=>r x y H Q\/r' x y H Q):=by
 intro value z pins s σ H x y v u Q I U J q Y;rcases q with q|q
 ·exact h value z pins s σ H x y v u Q I U J q Y
 ·exact h' value z pins s σ H x y v u Q I U J q Y
def ZwM {r:R2}(J:IxR X r)(ha:PE X a ta)(hb:PE X b tb)(U:Zeg b):PE X (.Subscript a b pos) (tOp r ta tb):=by
 intro pins s σ H Q I h;exact Subscript_ (Zxm ha hb I h fun v u s2 x y H2 z Y ry q=>J a b pins s2 σ H2 x y v u Q z Y ry q (U _ _))
def ZxE (K:Yab):R2:=fun x y H Q=>∃ p xs i v,x=.ref p/\y=.int i/\SqL K H p xs/\atI xs i=some v/\Q v H
def Zx4 (K:Yab):R2:=fun x y H Q=>∃ p xs i v,x=.ref p/\y=.int i/\SqT K H p xs/\atI xs i=some v/\Q v H
def Zxw:R2:=fun x y H Q=>∃ z i c,x=.str z/\y=.int i/\z.length<=Yai/\atI z.cps.toList i=some c/\Q (.str ⟨#[c]⟩) H
def ix_list:IxR X (ZxE X.K):=by
 intro value Y pins s σ H x y v u Q I rx ry h hs;obtain ⟨p,xs,i,z,rfl,rfl,hq,he,q⟩:=h;cases rx;obtain ⟨t,rfl⟩:=ry;obtain ⟨its,r,pl,hz⟩:=I.list hq;obtain ⟨j,h1,h2,h3,h4,h5⟩:=ZfP he;obtain ⟨w,ew,U⟩:=r.get h2;have hl:=r.length;have hn:=Zgq;have fin:EP X pins σ Q w s:=⟨z,H,I,U,q⟩;by_cases h0:0<=i
 ·have J:i.toNat=j:=by
   rw[seqIndex_of h0 h5] at h1;exact YaT h1
  exact item_listR pl.isList h0 (by omega) (by rw[J];simpa using ew) fin hs
 ·have J:(i+(its.toArray.size:Int)).toNat=j:=by
   rw[seqIndex_neg (by omega) h4] at h1;rw[YaB,<-hl];exact YaT h1
  exact subscriptTail_builtinR (x:=w) pl.isList.typeIs slot_list_getitem.lookup
   (wpAny_getItem_list_neg (Q:=fun r s'=>r=w/\EP X pins σ Q r s') pl.isList (by omega) (by rw[YaB]<;>omega) (by omega) (by rw[J];simpa using ew) ⟨rfl,fin⟩) hs
def ix_tup:IxR X (Zx4 X.K):=by
 intro value U pins s σ H x y v u Q I rx ry h hs;obtain ⟨p,xs,i,z,rfl,rfl,Y,he,q⟩:=h;cases rx;obtain ⟨t,rfl⟩:=ry;obtain ⟨its,r,pl,hz⟩:=I.tuple Y;obtain ⟨j,h1,h2,h3,h4,h5⟩:=ZfP he;obtain ⟨w,ew,J⟩:=r.get h2;have hl:=r.length;have hn:=Zgq;have fin:EP X pins σ Q w s:=⟨z,H,I,J,q⟩;exact subscriptTail_builtinR (x:=w) pl.typeIs slot_tuple_getitem.lookup
  (getItem_tuple (j:=j) (Q:=fun r s'=>r=w/\EP X pins σ Q r s') pl (by omega) (by omega) (by rw[YaB,<-hl];exact h1) (by simpa using ew) ⟨rfl,fin⟩) hs
def Zsb:IxR X Zxw:=by
 intro value J pins s σ H x y v u Q I rx ry h hs;obtain ⟨z,i,c,rfl,rfl,hz,he,q⟩:=h;obtain ⟨t,rfl⟩:=rx;obtain ⟨t',rfl⟩:=ry;obtain ⟨j,h1,h2,h3,U,Y⟩:=ZfP he;have hl:z.cps.toList.length=z.length:=by simp[Ye9]
 rw[hl] at h1 U Y;have hn:=Zgq;exact tail_any (typeIs_str s z t) slot_str_getitem.lookup (getItem_str (c:=c) (by
  have e1:decide (i < -(2 ^ 63:Int))=false:=decide_eq_false (by omega);have e2:decide (i ≥ 2 ^ 63)=false:=decide_eq_false (by omega);rw[e1,e2,Bool.or_false]) (by rw[h1];simpa using h2) ⟨.str ⟨#[c]⟩,H,I.tok _,⟨_,rfl⟩,q⟩) hs
def rIx (K:Yab):R2:=fun x y H Q=>ZxE K x y H Q\/Zx4 K x y H Q\/Zxw x y H Q
def Zuu:IxR X (rIx X.K):=ix_list.or (ix_tup.or Zsb)
theorem Inv.lst {pins:List (Yaq×Obj)}{σ:St}{H:Hp}{s:Yaj}{p:Yaq}{xs:List V}(I:Inv X pins σ H s)(h:H p=some (.lst xs)) :
  ∃ (its:List Yag) (n:Nat),Vals xs its/\s.heap.get? p=some { cls:=.type "list",data:=.seq its.toArray n }/\xs.length<=Yai:=by
 obtain ⟨z,its,n,r,e⟩:=I.hok p _ h;exact ⟨its,n,r,e,z⟩
def Zfc (lo hi:Option Int)(n:Nat):(Ydk lo hi none n).1=((HT.sIx n 0 lo:Nat):Int)/\(Ydk lo hi none n).2.1=((HT.sIx n n hi:Nat):Int)/\(Ydk lo hi none n).2.2=1:=by
 refine ⟨?_,?_,rfl⟩
 ·cases lo with
  | none=>simp[Ydk,HT.sIx]
  | some i=>
   simp only[Ydk,HT.sIx,Option.getD_none,show (1:Int) > 0 by decide,if_true];by_cases h:i<0
   ·simp only[h,if_true]<;>omega
   ·simp only[h,if_false]<;>omega
 ·cases hi with
  | none=>simp[Ydk,HT.sIx]
  | some i=>
   simp only[Ydk,HT.sIx,Option.getD_none,show (1:Int) > 0 by decide,if_true];by_cases h:i<0
   ·simp only[h,if_true]<;>omega
   ·simp only[h,if_false]<;>omega
def ZdV (its:List Yag)(lo hi:Option Int):slicePick its.toArray lo hi none=((its.drop (HT.sIx its.length 0 lo)).take (HT.sIx its.length its.length hi - HT.sIx its.length 0 lo)).toArray:=by
 obtain ⟨h1,h2,h3⟩:=Zfc lo hi its.toArray.size;unfold slicePick;rw[h1,h2,h3];simp only[sliceRange_one,pick_run,YaB]<;>rfl
def Zx7 (K:Yab):V->Option Int->Option Int->Hp->VK->Prop:=fun x lo hi H Q=>∃ a xs,x=.ref a/\SqL K H a xs/\∀ p,H p=none->Q (.ref p) (upd H p (.lst (ZoE xs lo hi)))
def ZpW:SlR X (Zx7 X.K):=by
 intro pins s σ H x v vl vu lo hi sl Q I rx Y pl pu h;obtain ⟨a,xs,rfl,U,q⟩:=h;cases rx;obtain ⟨its,r,J,hz⟩:=I.list U;have z:=r.length;refine ⟨"list",_,slot_list_getitem.lookup,J.isList.typeIs,?_⟩;refine wpAny_getItem_list_slice J.isList Y pl pu .none (by simp) ?_ (by rw[YaB]<;>omega);rw[ZdV,<-z];refine ⟨.ref s.heap.objs.size,_,I.laid (t':=s.toks) (o:=.lst (ZoE xs lo hi)) (fun b ob q=>Yad _ q) (Yak _) ?_,rfl,q _ (I.hok.fresh (Yak _))⟩;exact ⟨YbE (Zfi xs lo hi) hz,_,0,(r.drop (HT.sIx xs.length 0 lo)).take (HT.sIx xs.length xs.length hi - HT.sIx xs.length 0 lo),YaC _ rfl⟩
noncomputable def Zan:V->Bool
 | .non=>true
 | .bl _=>true
 | .int _=>true
 | .str _=>true
 | _=>false
noncomputable def eqV:V->V->Bool
 | .non,.non=>true
 | .bl a,.bl b=>a == b
 | .bl a,.int b=>(if a then 1 else 0) == b
 | .int a,.bl b=>a == (if b then 1 else 0)
 | .int a,.int b=>a == b
 | .str a,.str b=>a == b
 | _,_=>false
def Zm1 (I:RelV y u)(z:RelV x v)(J:Zan y=true)(fx:Zan x=true):Yey A s u v (eqV y x):=by
 cases y with
 | non=>
  cases I;cases x with
  | non=>cases z;exact Yey.same _
  | bl b=>cases z;exact Yey.none_bool b
  | int b=>obtain ⟨t,rfl⟩:=z;exact Yey.none_int b t
  | str b=>obtain ⟨t,rfl⟩:=z;exact Yey.none_str b t
  | _=>exact absurd (show false=true from fx) Yav
 | bl a=>
  cases I;cases x with
  | non=>cases z;exact Yey.bool_none a
  | bl b=>cases z;exact YeA a b
  | int b=>obtain ⟨t,rfl⟩:=z;exact Yey.bool_int a b t
  | str b=>obtain ⟨t,rfl⟩:=z;exact Yey.bool_str a b t
  | _=>exact absurd (show false=true from fx) Yav
 | int a=>
  obtain ⟨t',rfl⟩:=I;cases x with
  | non=>cases z;exact Yey.int_none a t'
  | bl b=>cases z;exact Yey.int_bool a t' b
  | int b=>obtain ⟨t,rfl⟩:=z;exact Yey.int_int a t' b t
  | str b=>obtain ⟨t,rfl⟩:=z;exact YeT a t' b t
  | _=>exact absurd (show false=true from fx) Yav
 | str a=>
  obtain ⟨t',rfl⟩:=I;cases x with
  | non=>cases z;exact Yey.str_none a t'
  | bl b=>cases z;exact Yey.str_bool a t' b
  | int b=>obtain ⟨t,rfl⟩:=z;exact YeU a t' b t
  | str b=>obtain ⟨t,rfl⟩:=z;exact Yey.str_str a t' b t
  | _=>exact absurd (show false=true from fx) Yav
 | _=>exact absurd (show false=true from J) Yav
def eqU (x:V)(u:Yag):Bool:=match u with
 | .none=>eqV .non x
 | .bool b=>eqV (.bl b) x
 | .int i _=>eqV (.int i) x
 | .str z _=>eqV (.str z) x
 | _=>false
def Zmc (r:RelV y u)(f:Zan y=true):eqU x u=eqV y x:=by
 cases y with
 | non=>cases r;rfl
 | bl b=>cases r;rfl
 | int i=>obtain ⟨t,rfl⟩:=r;rfl
 | str z=>obtain ⟨t,rfl⟩:=r;rfl
 | _=>exact absurd (show false=true from f) Yav
theorem ZcG:∀ {xs:List V} {us:List Yag},Vals xs us->xs.all Zan=true->us.any (eqU x)=xs.any fun y=>eqV y x
 | _,_,.nil,_=>rfl
 | y::xs,u::us,.cons r t,f=>by
  rw[Ybf,Yaa] at f;rw[YbJ,YbJ,Zmc r f.1,ZcG t f.2]
theorem ZbH (I:RelV x v)(fx:Zan x=true):∀ {xs:List V} {us:List Yag},Vals xs us->xs.all Zan=true->∀ u∈us,Yey A s u v (eqU x u)
 | _,_,.nil,_=>fun u z=>by cases z
 | y::xs,u::us,.cons r t,f=>fun J z=>by
  rw[Ybf,Yaa] at f;rcases Yaz.mp z with rfl|z
  ·rw[Zmc r f.1];exact Zm1 r I f.1 fx
  ·exact ZbH I fx t f.2 J z
def inV (x:V)(xs:List V):Bool:=xs.any fun y=>eqV y x
def rIn (K:Yab)(z:Bool):R2:=fun x y H Q=>∃ p xs,y=.ref p/\(SqL K H p xs\/SqT K H p xs)/\Zan x=true/\xs.all Zan=true/\Q (.bl (if z then !inV x xs else inV x xs)) H
def ZiG:OpR X (YaV .In) (rIn X.K false):=by
 intro pins s σ H x y v u Q I U Y h;obtain ⟨p,xs,rfl,z,fx,fs,q⟩:=h;cases Y;rcases z with z|z
 ·obtain ⟨its,r,pl,hz⟩:=I.list z;refine SeqAt.in_listAt (eqU x) pl.isList (fun w J=>ZbH U fx r fs w (by simpa using J)) ⟨.bl _,H,I,rfl,?_⟩;rw[show its.toArray.any (eqU x)=its.any (eqU x) by simp,ZcG r fs];exact q
 ·obtain ⟨its,r,pl,hz⟩:=I.tuple z;refine SeqAt.in_tupleAt (eqU x) pl (fun w J=>ZbH U fx r fs w (by simpa using J)) ⟨.bl _,H,I,rfl,?_⟩;rw[show its.toArray.any (eqU x)=its.any (eqU x) by simp,ZcG r fs];exact q
def ZeS:OpR X (YaV .NotIn) (rIn X.K true):=by
 intro pins s σ H x y v u Q I U Y h;obtain ⟨p,xs,rfl,z,fx,fs,q⟩:=h;cases Y;rcases z with z|z
 ·obtain ⟨its,r,pl,hz⟩:=I.list z;refine SeqAt.notIn_listAt (eqU x) pl.isList (fun w J=>ZbH U fx r fs w (by simpa using J)) ⟨.bl _,H,I,rfl,?_⟩;rw[show its.toArray.any (eqU x)=its.any (eqU x) by simp,ZcG r fs];exact q
 ·obtain ⟨its,r,pl,hz⟩:=I.tuple z;refine SeqAt.notIn_tupleAt (eqU x) pl (fun w J=>ZbH U fx r fs w (by simpa using J)) ⟨.bl _,H,I,rfl,?_⟩;rw[show its.toArray.any (eqU x)=its.any (eqU x) by simp,ZcG r fs];exact q
def Ze7:OpR X (YaV .NotIn) (fun x y H Q=>∃ i j,x=.str i/\y=.str j/\Q (.bl (!(!(Yck j i 0 j.length 1).isEmpty))) H):=by
 intro pins s σ H x y v u Q I J z h;obtain ⟨i,j,rfl,rfl,q⟩:=h;obtain ⟨t,rfl⟩:=J;obtain ⟨t',rfl⟩:=z;exact notIn_str ⟨.bl _,H,I,rfl,q⟩
def CallR.or (h:CallR X f r)(h':CallR X f r'):CallR X f (fun xs H Q=>r xs H Q\/r' xs H Q):=by
 intro pins s σ H xs us Q I z q;rcases q with q|q
 ·exact h pins s σ H xs us Q I z q
 ·exact h' pins s σ H xs us Q I z q
def Ze5:CallR X (.type "list") (fun xs H Q=>∃ p ys,xs=[.ref p]/\(SqL X.K H p ys\/SqT X.K H p ys)/\∀ l,H l=none->Q (.ref l) (upd H l (.lst ys))):=by
 intro pins s σ H xs us Q I r h;obtain ⟨p,ys,rfl,J,q⟩:=h;obtain ⟨u,rfl,rx⟩:=Zd1 r;cases rx;have fin:∀ (its:List Yag),Vals ys its->ys.length<=Yai->∀ (h':YbO) (z:Nat),(∀ b o',s.heap.get? b=some o'->h'.get? b=some o') ->
   h'.get? s.heap.objs.size=some { cls:=.type "list",dict:=none,data:=.seq its.toArray z,slots:=#[] }->EP X pins σ Q (.ref s.heap.objs.size) { s with heap:=h' }:=fun its r' hz h' z Y e=>
  ⟨.ref s.heap.objs.size,_,I.laid (t':=s.toks) Y (Yak _) (show ObjOk X.prog X.w _ h' _ (.lst ys) from ⟨hz,its,z,r',e⟩),rfl,q _ (I.hok.fresh (Yak _))⟩
 rcases J with J|J
 ·obtain ⟨its,r',pl,hz⟩:=I.list J;have U:=r'.length;obtain ⟨o,ho,hc,n,hd⟩:=pl.isList;exact call_list_seq p (.inl rfl) ho hc hd (fun h' z Y e=>fin its r' hz h' z Y e) (by simp only[YaB]<;>omega)
 ·obtain ⟨its,r',pl,hz⟩:=I.tuple J;have U:=r'.length;obtain ⟨o,ho,hc,n,hd⟩:=pl;exact call_list_seq p (.inr rfl) ho hc hd (fun h' z Y e=>fin its r' hz h' z Y e) (by simp only[YaB]<;>omega)
def Zed:CallR X (.type "tuple") (fun xs H Q=>∃ p ys,xs=[.ref p]/\((SqL X.K H p ys/\∀ l,H l=none->Q (.ref l) (upd H l (.tup ys)))\/(SqT X.K H p ys/\Q (.ref p) H))):=by
 intro pins s σ H xs us Q I r h;obtain ⟨p,ys,rfl,h⟩:=h;obtain ⟨u,rfl,rx⟩:=Zd1 r;cases rx;rcases h with ⟨z,q⟩|⟨z,q⟩
 ·obtain ⟨its,r',pl,hz⟩:=I.list z;have J:=r'.length;refine call_tuple_list pl.isList (fun h' kp=>?_) (by simp only[YaB]<;>omega);have U:Inv X pins σ H { s with heap:=h' }:=I.kept (t':=s.toks) kp;have Y:Inv X pins σ (upd H h'.objs.size (.tup ys)) { s with heap:=h'.push { cls:=.type "tuple",data:=.seq its.toArray } }:=
   U.laid (t':=s.toks) (fun b o e=>Yad _ e) (Yak _) (show ObjOk X.prog X.w _ _ _ (.tup ys) from ⟨hz,its,r',Yef.new _ _⟩)
  exact ⟨.ref h'.objs.size,_,Y,rfl,q _ (U.hok.fresh (Yak _))⟩
 ·obtain ⟨its,r',pl,hz⟩:=I.tuple z;exact call_tuple_same pl ⟨.ref p,H,I,rfl,q⟩
def tyV (K:Yab)(T:String)(x:V)(H:Hp):Prop:=match x with
 | .str _=>T="str"
 | .int _=>T="int"
 | .ref p=>(T="list"/\∃ xs,SqL K H p xs)\/(T="tuple"/\∃ o,K.lookup p=some o/\o.cls=.type "tuple"/\o.dict=none) \/
   (T="dict"/\((∃ kvs,H p=some (.dK kvs))\/∃ kvs,H p=some (.dT kvs)))\/(T="set"/\∃ S n,H p=some (.set S n))
 | _=>False
def ZrD (I:Inv X pins σ H s)(r:RelV x v)(ty:tyV X.K T x H) :
  s.TypeIs v T/\∀ a,v=.ref a->∃ ob,s.heap.get? a=some ob/\ob.dict=none:=by
 cases x with
 | str z=>
  obtain ⟨t,rfl⟩:=r;cases (show T="str" from ty);exact ⟨typeIs_str s z t,fun _ e=>nomatch e⟩
 | int i=>
  obtain ⟨t,rfl⟩:=r;cases (show T="int" from ty);exact ⟨typeIs_int s i t,fun _ e=>nomatch e⟩
 | ref p=>
  cases r;rcases ty with ⟨rfl,xs,hq⟩|⟨rfl,o,J,hc,U⟩|⟨rfl,J⟩|⟨rfl,S,n,J⟩
  ·obtain ⟨its,_,pl,_⟩:=I.list hq;refine ⟨pl.isList.typeIs,fun a e=>?_⟩;cases e;obtain ⟨o,n,e,c,U,_⟩:=pl;exact ⟨o,e,U⟩
  ·refine ⟨⟨o,I.kIn p o J,hc⟩,fun a e=>?_⟩;cases e;exact ⟨o,I.kIn _ o J,U⟩
  ·have z:∃ o,s.heap.get? p=some o/\o.ExactDict:=by
    rcases J with ⟨kvs,J⟩|⟨kvs,J⟩
    ·obtain ⟨_,_,_,_,o,_,_,e,ex,_⟩:=I.hok p _ J;exact ⟨o,e,ex⟩
    ·obtain ⟨_,_,_,_,o,_,_,e,ex,_⟩:=I.hok p _ J;exact ⟨o,e,ex⟩
   obtain ⟨o,e,ex⟩:=z;refine ⟨⟨o,e,ex.1⟩,fun a Y=>?_⟩;cases Y;exact ⟨o,e,ex.2.1⟩
  ·obtain ⟨o,_,_,_,e,ex,_⟩:=I.hok p _ J;refine ⟨⟨o,e,ex.1⟩,fun a Y=>?_⟩;cases Y;exact ⟨o,e,ex.2.1⟩
 | _=>exact Ya9 ty
noncomputable def tBM (K:Yab)(T:String)(r:V->List V->Hp->VK->Prop)(to:TE)(t:TA):TE:=fun σ H Q=>to σ H fun x H1=>tyV K T x H1/\t σ H1 fun xs H2=>r x xs H2 Q
variable {o e:YaQ} {es:List YaQ} {to:TE} {t:TA} {name:Str} {apos cpos:Pos} {T id:String} {r:V->List V->Hp->VK->Prop}
def Zg7 (pa:PlainAttrs T)(Y:Slot T name id)(ac:typeOf (.builtin id)=pure (.type "method_descriptor"))(hm:MtR X id r)(ho:PE X o to)(ha:PA X (e::es) t)
  (U:Ybb o name X.env (YbT o X.env)=YbT o X.env:=by rfl)
  (aa:((Ya3 cpos (Yah (e::es) X.env)).all (fun x=>!x.1) && (Ycc cpos (Ybm [] X.env)).all (fun x=>x.1.isSome)
   && decide ((e::es).length+([]:List Yb8).length+(if ([]:List Yb8).isEmpty then 0 else 1)<30))=true:=by rfl)
  (J:(apos.endLine == cpos.line)=true:=by rfl) (hs:Yah (e::es) X.env=(false,YbT e X.env)::Yah es X.env:=by rfl) (z:(Ya3 cpos (Yah es X.env)).any (·.1)=false:=by rfl) :
  PE X (.Call (.Attribute o name apos) (e::es) [] cpos) (tBM X.K T r to t):=by
 intro pins s σ H Q I h;refine wpAny_Call_method_late U aa J rfl (thn (ho pins s σ H _ I h) fun v s1 zq=>?_);obtain ⟨x,H1,I1,r1,ty,q1⟩:=zq;obtain ⟨h1,h2⟩:=ZrD I1 r1 ty;refine ⟨T,id,pa,Y,ac,h1,h2,?_⟩;have hA:=ha cpos pins s1 σ H1 _ I1 q1;rw[hs] at hA ⊢;refine Ydd (by show (false || (Ya3 cpos (Yah es X.env)).any (·.1))=false;rw[z]<;>rfl) (Ycd ?_);exact thn hA fun us s2 ⟨vs,H2,I2,r2,q2⟩=>hm pins s2 σ H2 x vs v us Q I2 r1 r2 q2
end
def MtM (X:Cx)(id:String)(r:V->List V->Hp->VK->Prop):Prop:=
 ∀ (pins:List (Yaq×Obj)) (s:Yaj) (σ:St) (H:Hp) (x:V) (xs:List V) (v:Yag) (us:List Yag) (Q:VK),Inv X pins σ H s->RelV x v->Vals xs us->r x xs H Q ->
  YaF (YaJ X.prog X.w) X.A (call (.builtin id) (v::us)) (EP X pins σ Q) X.xe s
theorem Vals.one:∀ {x:V} {us:List Yag},Vals [x] us->∃ u,us=[u]/\RelV x u
 | _,_,.cons r .nil=>⟨_,rfl,r⟩
theorem Vals.eraseIdx:∀ {xs:List V} {us:List Yag} (i:Nat),Vals xs us->Vals (xs.eraseIdx i) (us.eraseIdx i)
 | _,_,_,.nil=>.nil
 | _,_,0,.cons _ t=>t
 | _,_,i+1,.cons r t=>.cons r (Vals.eraseIdx i t)
theorem Zeu:∀ (l:List α) (i:Nat),(l.eraseIdx i).length<=l.length
 | [],_=>Yak _
 | _::_,0=>YdE _
 | _::r,i+1=>Nat.succ_le_succ (Zeu r i)
section
variable {X:Cx} {pins:List (Yaq×Obj)} {σ:St} {H:Hp} {s:Yaj} {l b:Yaq} {xs ys zs:List V}
def Inv.lset {its its':List Yag}{n:Nat}{f:Array Yag->Array Yag}{t':Nat}(I:Inv X pins σ H s)(J:H l=some (.lst xs))
  (e:s.heap.get? l=some { cls:=.type "list",data:=.seq its.toArray n }) (Y:f its.toArray=its'.toArray) (z:Vals ys its') (hz:ys.length<=Yai) :
  Inv X pins σ (upd H l (.lst ys)) { s with heap:=s.heap.update l (Yd1 f),toks:=t' }:=by
 have q:=PySem.IsL.update e f;rw[Y] at q;refine I.write (x:=l) (e:=l) (by rw[J];exact trivial) (.inl rfl) (fun b' u U hu=>(YaW s.heap (Yd1 f) (YbW U)).trans hu) ⟨_,q⟩ ?_;exact ⟨hz,its',_,z,q⟩
def Inv.lnew (I:Inv X pins σ H s)(z:Vals ys its)(hz:ys.length<=Yai) :
  Inv X pins σ (upd H s.heap.objs.size (.lst ys)) { s with heap:=s.heap.push { cls:=.type "list",data:=.seq its.toArray },toks:=t' }:=
 I.laid (fun _ _ q=>Yad _ q) (Yak _) ⟨hz,its,0,z,YaC _ rfl⟩
theorem Inv.fresh (I:Inv X pins σ H s):H s.heap.objs.size=none:=I.hok.fresh (Yak _)
def Inv.lstM (I:Inv X pins σ H s)(J:H l=some (.lst xs)):xs.length<=Yai/\∃ (its:List Yag) (n:Nat),Vals xs its/\xs.length=its.length/\s.heap.get? l=some { cls:=.type "list",data:=.seq its.toArray n }:=by
 obtain ⟨z,its,n,r,e⟩:=I.hok l _ J;exact ⟨z,its,n,r,r.length,e⟩
def ZkD (h:n<=Yai):Yc0 n=false:=by
 unfold Yc0;exact decide_eq_false (by omega)
end
section
variable {X:Cx}
def Zo7:V->List V->Hp->VK->Prop:=fun x vs H Q=>∃ l xs y,x=.ref l/\vs=[y]/\H l=some (.lst xs)/\xs.length<Yai/\Q .non (upd H l (.lst (xs++[y])))
def ZeT:MtM X "list.append" Zo7:=by
 intro pins s σ H x vs v us Q I rx U h;obtain ⟨l,xs,y,rfl,rfl,J,hz,q⟩:=h;cases rx;obtain ⟨u,rfl,Y⟩:=U.one;obtain ⟨z,its,n,r,hl,e⟩:=I.lstM J;refine call_meets F.slot_list_append ⟨_,e,rfl⟩ F.entry_list_append (F.args_list_append_2 _ _) (PySem.list_append l its.toArray n u (by rw[YaB];omega)) ⟨e,?_⟩;refine ⟨.non,_,I.lset (its':=its++[u]) J e (by simp) (r.append (.cons Y .nil)) ?_,rfl,q⟩;rw[Ybo,List.length_singleton];omega
def Zpp:V->List V->Hp->VK->Prop:=fun x vs H Q=>∃ l b xs zs,x=.ref l/\vs=[.ref b]/\H l=some (.lst xs)/\H b=some (.lst zs)/\xs.length+zs.length<=Yai/\Q .non (upd H l (.lst (xs++zs)))
def ZhR:MtM X "list.extend" Zpp:=by
 intro pins s σ H x vs v us Q I rx rv h;obtain ⟨l,b,xs,zs,rfl,rfl,Y,hB,hz,q⟩:=h;cases rx;obtain ⟨u,rfl,ru⟩:=rv.one;cases ru;obtain ⟨z,its,n,r,hl,e⟩:=I.lstM Y;obtain ⟨z2,J,n2,r2,aa,e2⟩:=I.lstM hB;have hsz:its.toArray.size+J.toArray.size<=Yai:=by rw[YaB,YaB];omega
 have U:¬(!its.toArray.isEmpty && Yc0 (its.toArray.size+J.toArray.size))=true:=by
  rw[ZkD hsz,YeF];exact Yav
 refine call_meets F.slot_list_extend ⟨_,e,rfl⟩ F.entry_list_extend (F.args_list_extend_2 _ _)
  (AutoSeq1.list_extend_list_list_0 l its.toArray n b J.toArray n2 U (by rw[YaB];omega) (by omega)) ⟨e,e2,?_⟩
 refine ⟨.non,_,I.lset (its':=its++J) Y e (by simp) (r.append r2) ?_,rfl,q⟩;rw[Ybo];omega
def ZmB:V->List V->Hp->VK->Prop:=fun x vs H Q=>∃ l xs i k y,x=.ref l/\vs=[.int i]/\H l=some (.lst xs) /\ -(2 ^ 63)<=i/\i<2 ^ 63/\seqIndex? i xs.length=some k/\xs[k]?=some y/\Q y (upd H l (.lst (xs.eraseIdx k)))
def ZkF:MtM X "list.pop" ZmB:=by
 intro pins s σ H x vs v us Q I rx rv h;obtain ⟨l,xs,i,k,y,rfl,rfl,U,h1,h2,hk,hy,q⟩:=h;cases rx;obtain ⟨u,rfl,ru⟩:=rv.one;obtain ⟨t,rfl⟩:=ru;obtain ⟨z,its,n,r,Y,e⟩:=I.lstM U;obtain ⟨w,hw,J⟩:=r.get hy;refine call_meets F.slot_list_pop ⟨_,e,rfl⟩ F.entry_list_pop (F.args_list_pop_2 _ _)
  (MeetsSeq.list_pop_at l its.toArray n i t k w (fitsIndex_both h1 h2) (by rw[YaB,<-Y];exact hk) (by rw[<-YcC];exact hw) (by rw[YaB];omega)) ⟨e,?_⟩
 refine ⟨y,_,I.lset (its':=its.eraseIdx k) U e ?_ (r.eraseIdx k) ?_,J,q⟩
 ·show its.toArray.eraseIdxIfInBounds k=(its.eraseIdx k).toArray;rw[List.eraseIdxIfInBounds_toArray]
 ·have:=Zeu xs k;omega
end
section
variable {κ:Type} [DecidableEq κ]
noncomputable def Zck (kvs:List (κ×V))(k:κ):Option V:=(kvs.find? fun kv=>decide (kv.1=k)).map (·.2)
noncomputable def Zc4 (kvs:List (κ×V))(k:κ)(v:V):List (κ×V):=
 if (kvs.any fun kv=>decide (kv.1=k))=true then kvs.map (fun kv=>if kv.1=k then (kv.1,v) else kv) else kvs++[(k,v)]
noncomputable def ZdN (kvs:List (κ×V))(k:κ):List (κ×V):=kvs.filter fun kv=>decide (kv.1≠k)
def Zd4 {p:κ×V}{r:List (κ×V)}{k:κ}(e:p.1=k):Zck (p::r) k=some p.2:=by simp[Zck,Ybz,e]
def Zec {p:κ×V}{r:List (κ×V)}{k:κ}(e:¬p.1=k):Zck (p::r) k=Zck r k:=by simp[Zck,Ybz,e]
theorem ZgI (k:κ):∀ kvs:List (κ×V),(kvs.any fun kv=>decide (kv.1=k))=(Zck kvs k).isSome
 | []=>rfl
 | p::r=>by
  rw[YbJ];by_cases e:p.1=k
  ·simp only[Zd4 e,decide_eq_true e,Bool.true_or,Option.isSome_some]
  ·rw[Zec e,decide_eq_false e,Bool.false_or];exact ZgI k r
def Zbz (kvs:List (κ×V))(k:κ)(v:V):(Zc4 kvs k v).length<=kvs.length+1:=by
 unfold Zc4;split
 ·rw[YaE];omega
 ·rw[Ybo,Ya4,Yc6];omega
def RelO.isSome_eq (r:RelO o u):o.isSome=u.isSome:=by
 cases o with
 | none=>cases u with
  | none=>rfl
  | some _=>exact (show False from r).elim
 | some _=>cases u with
  | none=>exact (show False from r).elim
  | some _=>rfl
def KV.val {kvs:List (κ×V)}{vs:List (κ×Yag)}(r:KV kvs vs)(k:κ):RelO (Zck kvs k) (YeN vs k):=by
 unfold KV at r
 induction r with
 | nil=>exact YbU
 | @cons p q ps J h t U=>
  obtain ⟨h1,h2⟩:=h;by_cases e:p.1=k
  ·have I:q.1=k:=h1.symm.trans e;have b:YeN (q::J) k=some q.2:=by simp[YeN,Ybz,I]
   rw[Zd4 e,b];exact h2
  ·have I:¬q.1=k:=fun z=>e (h1.trans z)
   have b:YeN (q::J) k=YeN J k:=by simp[YeN,Ybz,I]
   rw[Zec e,b];exact U
theorem KV.any (r:KV kvs vs)(k:κ):(kvs.any fun kv=>decide (kv.1=k))=vs.any fun kv=>decide (kv.1=k):=by
 unfold KV at r
 induction r with
 | nil=>rfl
 | cons h t z=>rw[YbJ,YbJ,z,h.1]
def KV.repl (r:KV kvs vs)(k:κ)(J:RelV y u) :
  KV (kvs.map fun kv=>if kv.1=k then (kv.1,y) else kv) (vs.map fun kv=>if kv.1=k then (kv.1,u) else kv):=by
 unfold KV at r ⊢
 induction r with
 | nil=>exact .nil
 | @cons p q ps U h t I=>
  rw[Yap,Yap];refine .cons ?_ I;obtain ⟨h1,h2⟩:=h;by_cases e:p.1=k
  ·rw[if_pos e,if_pos (h1.symm.trans e)];exact ⟨h1,J⟩
  ·rw[if_neg e,if_neg (fun z=>e (h1.trans z))];exact ⟨h1,h2⟩
def KV.put (r:KV kvs vs)(k:κ)(z:RelV y u):KV (Zc4 kvs k y) (stored vs k u):=by
 unfold Zc4 stored;rw[r.any k];by_cases e:(vs.any fun kv=>decide (kv.1=k))=true
 ·rw[if_pos e,if_pos e];exact r.repl k z
 ·rw[if_neg e,if_neg e];exact YcX.snoc r ⟨rfl,z⟩
def KV.drop (r:KV kvs vs)(k:κ):KV (ZdN kvs k) (without vs k):=by
 unfold KV at r ⊢;unfold ZdN without
 induction r with
 | nil=>exact .nil
 | @cons p q ps U h t I=>
  obtain ⟨h1,h2⟩:=h;rw[Yb4,Yb4];by_cases e:p.1=k
  ·have a:¬decide (p.1≠k)=true:=by simp[e]
   have b:¬decide (q.1≠k)=true:=by simp[h1.symm.trans e]
   rw[if_neg a,if_neg b];exact I
  ·have J:¬q.1=k:=fun z=>e (h1.trans z)
   have a:decide (p.1≠k)=true:=by simp[e]
   have b:decide (q.1≠k)=true:=by simp[J]
   rw[if_pos a,if_pos b];exact .cons ⟨h1,h2⟩ I
theorem KV.length (r:KV kvs vs):kvs.length=vs.length:=Ydy r
def Zlr (kvs:List (κ×V))(k:κ):(ZdN kvs k).length<=kvs.length:=List.length_filter_le _ _
end
def Zfk (r:RelV (kV k) u):(Zao P w).is k u=true:=by
 cases k with
 | inl i=>obtain ⟨t,e⟩:=(show ∃ t,u=Yej i t from r);subst e;exact ZfD P w i t
 | inr x=>obtain ⟨t,e⟩:=(show ∃ t,u=YdV x t from r);subst e;exact ZfX P w x t
theorem ZeO:∀ {ks:List Key} {us:List Yag},Vals (ks.map kV) us->ItemsAre (Zao P w) ks us
 | [],_,r=>by rw[YcZ] at r;cases r;exact .nil
 | k::ks,_,r=>by
  rw[Yap] at r;cases r with
  | cons h t=>exact .cons (Zfk h) (ZeO t)
abbrev KT (H:Hp):List (List Key×V)->List (List Key×Yaq×Yag)->Prop:=YcX fun p q=>p.1=q.1/\H q.2.1=some (.tup (p.1.map kV))/\RelV p.2 q.2.2
def KT.val {H:Hp}{kvs:List (List Key×V)}{xs:List (List Key×Yaq×Yag)}(r:KT H kvs xs)(k:List Key):RelO (Zck kvs k) ((atKey xs k).map (·.2)):=by
 induction r with
 | nil=>exact YbU
 | @cons p q ps I h t U=>
  obtain ⟨h1,_,h2⟩:=h;by_cases e:p.1=k
  ·have J:q.1=k:=h1.symm.trans e;have b:atKey (q::I) k=some q.2:=by simp[atKey,Ybz,J]
   rw[Zd4 e,b];exact h2
  ·have J:¬q.1=k:=fun z=>e (h1.trans z)
   have b:atKey (q::I) k=atKey I k:=by simp[atKey,Ybz,J]
   rw[Zec e,b];exact U
def KT.repl (r:KT H kvs xs)(k:List Key)(J:RelV y u) :
  KT H (kvs.map fun kv=>if kv.1=k then (kv.1,y) else kv) (xs.map (putAt k u)):=by
 induction r with
 | nil=>exact .nil
 | @cons p q ps U h t I=>
  rw[Yap,Yap];refine .cons ?_ I;obtain ⟨h1,h2,h3⟩:=h;unfold putAt;by_cases e:p.1=k
  ·rw[if_pos e,if_pos (h1.symm.trans e)];exact ⟨h1,h2,J⟩
  ·rw[if_neg e,if_neg (fun z=>e (h1.trans z))];exact ⟨h1,h2,h3⟩
def KT.put (r:KT H kvs xs)(k:List Key)(I:H b=some (.tup (k.map kV)))(z:RelV y u) :
  KT H (Zc4 kvs k y) (storedH xs k b u):=by
 have e:(kvs.any fun kv=>decide (kv.1=k))=(atKey xs k).isSome:=by
  rw[ZgI,(r.val k).isSome_eq,Ydl]
 unfold Zc4 storedH;rw[e];by_cases q:(atKey xs k).isSome=true
 ·rw[if_pos q,if_pos q];exact r.repl k z
 ·rw[if_neg q,if_neg q];exact YcX.snoc r ⟨rfl,I,z⟩
def KT.keeps (r:KT H kvs xs)(I:∀ b ys,H b=some (.tup ys)->H' b=some (.tup ys)):KT H' kvs xs:=
 YcX.mapP r fun _ _ z=>⟨z.1,I _ _ z.2.1,z.2.2⟩
section
variable {P:YaN} {w:Ybg} {H:Hp} {h:YbO} {a:Yaq}
def ZnY (ok:HOk P w H h)(e:Rd H a u):ObjOk P w H h a u:=e.ok ok
def Zd2 (ok:HOk P w H h)(e:Rd H a (.dK kvs)):kvs.length<=Yai/\(a == YcI)=false/\∃ vs,KV kvs vs/\h.DictOf (Zao P w) a vs:=
 show ObjOk P w H h a (.dK kvs) from ZnY ok e
def Zg5 (ok:HOk P w H h)(e:H a=some (.dK kvs)):kvs.length<=Yai/\(a == YcI)=false/\∃ vs,KV kvs vs/\h.DictOf (Zao P w) a vs:=Zd2 ok (.inl e)
def Zes (ok:HOk P w H h)(e:H a=some (.tup (ks.map kV))):(YeV (Zao P w)).is h ks a:=by
 obtain ⟨_,its,r,o,h1,h2,n,h3⟩:=(show ObjOk P w H h a (.tup (ks.map kV)) from ok a _ e);exact ⟨o,its.toArray,n,h1,h2,h3,by simpa using ZeO r⟩
def Zhw (ok:HOk P w H h)(e:Rd H a (.dT kvs)):kvs.length<=Yai/\(a == YcI)=false /\
  ∃ xs,KT H kvs xs/\h.DictOfH (YeV (Zao P w)) a xs:=by
 obtain ⟨z,y,xs,r,o,es,ep,h1,h2,h3,Y,h5⟩:=(show ObjOk P w H h a (.dT kvs) from ZnY ok e);refine ⟨z,y,xs,r,o,es,ep,h1,h2,h3,Y,fun x I=>?_,h5⟩;have J:∀ {l:List (List Key×V)} {m:List (List Key×Yaq×Yag)},KT H l m->∀ x∈m,(YeV (Zao P w)).is h x.1 x.2.1:=by
  intro l m q
  induction q with
  | nil=>intro x I;exact nomatch I
  | @cons p q ps qs U t ih=>
   intro x I;rcases Yaz.mp I with e|I
   ·subst e;exact Zes ok (by rw[<-U.1];exact U.2.1)
   ·exact ih x I
 exact J r x I
def Zwb (ok:HOk P w H h)(e:H a=some (.dT kvs)):kvs.length<=Yai/\(a == YcI)=false /\
  ∃ xs,KT H kvs xs/\h.DictOfH (YeV (Zao P w)) a xs:=Zhw ok (.inl e)
end
def DGet (H:Hp)(a:Yaq)(y:V)(r:Option V):Prop:=
 (∃ kvs k,Rd H a (.dK kvs)/\y=kV k/\r=Zck kvs k)\/∃ kvs k b,Rd H a (.dT kvs)/\y=.ref b/\H b=some (.tup (k.map kV))/\r=Zck kvs k
def DPut (H:Hp)(a:Yaq)(y v:V)(H':Hp):Prop:=
 (∃ kvs k,H a=some (.dK kvs)/\y=kV k/\kvs.length<Yai/\H'=upd H a (.dK (Zc4 kvs k v))) \/
 ∃ kvs k b,H a=some (.dT kvs)/\y=.ref b/\H b=some (.tup (k.map kV))/\kvs.length<Yai/\H'=upd H a (.dT (Zc4 kvs k v))
theorem DGet.k {H:Hp}{a:Yaq}{kvs:List (Key×V)}{k:Key}(e:H a=some (.dK kvs)):DGet H a (kV k) (Zck kvs k):=.inl ⟨kvs,k,.inl e,rfl,rfl⟩
theorem DPut.k {H:Hp}{a:Yaq}{kvs:List (Key×V)}{k:Key}{v:V}(e:H a=some (.dK kvs))(z:kvs.length<Yai):DPut H a (kV k) v (upd H a (.dK (Zc4 kvs k v))):=.inl ⟨kvs,k,e,rfl,z,rfl⟩
section
variable {X:Cx} {pins:List (Yaq×Obj)} {σ:St} {H:Hp} {s:Yaj} {a:Yaq} {y v:V} {u r:Yag} {o:Option V} {A:Ybr} {E:Yag->Yaj->Prop}
def Inv.big (I:Inv X pins σ H s):YcI<s.heap.objs.size:=by
 have h:YaO<s.heap.objs.size:=(I.mod.glob.keeps I.bk).lt;exact Nat.lt_trans (by decide) h
def Ziu (hu:A.units+1<YeK)(I:Inv X pins σ H s)(g:DGet H a y (some v))(ry:RelV y u)(h:∀ Y s',Inv X pins σ H s'->RelV v Y->Q Y s') :
  YaF (YaJ X.prog X.w) A (Ye8 (.ref a) u) Q E s:=by
 rcases g with ⟨kvs,k,e,ey,l⟩|⟨kvs,k,b,e,ey,eb,l⟩
 ·subst ey;obtain ⟨z,hd,vs,U,dd⟩:=Zd2 I.hok e;obtain ⟨Y,hw,J⟩:=RelO.some_of (v:=v) (o:=YeN vs k) (by rw[l];exact U.val k);exact wpAny_getItem_of (Zfk ry) dd.mapOf hw (h Y _ (I.tok _) J)
 ·subst ey;cases (show u=Yay b from ry);obtain ⟨z,hd,xs,U,dd⟩:=Zhw I.hok e;obtain ⟨Y,hw,J⟩:=RelO.some_of (v:=v) (o:=(atKey xs k).map (·.2)) (by rw[l];exact U.val k);obtain ⟨p,hp,aa⟩:=Yar.mp hw;refine wpAny_getItem_heap (Yc7 hu) (Zes I.hok eb) dd hp ?_;rw[aa];exact h Y _ (I.tok _) J
def Zxx (hu:A.units+1<YeK)(I:Inv X pins σ H s)(g:DGet H a y o)(ry:RelV y u)(h:∀ s',Inv X pins σ H s'->Q (.bool o.isSome) s') :
  YaF (YaJ X.prog X.w) A (YaV .In u (.ref a)) Q E s:=by
 rcases g with ⟨kvs,k,e,U,l⟩|⟨kvs,k,b,e,U,eb,l⟩
 ·subst U;obtain ⟨z,Y,vs,J,dd⟩:=Zd2 I.hok e;refine wpAny_in_of (Zfk ry) Y dd.mapOf ?_;rw[<-(J.val k).isSome_eq,<-l];exact h _ (I.tok _)
 ·subst U;cases (show u=Yay b from ry);obtain ⟨z,Y,xs,J,dd⟩:=Zhw I.hok e;refine wpAny_in_heap (Yc7 hu) (Zes I.hok eb) Y dd ?_;have q:=(J.val k).isSome_eq;rw[Ydl] at q;rw[<-q,<-l];exact h _ (I.tok _)
def ZiX (hu:A.units+1<YeK)(I:Inv X pins σ H s)(g:DGet H a y o)(ry:RelV y u)(h:∀ s',Inv X pins σ H s'->Q (.bool (!o.isSome)) s') :
  YaF (YaJ X.prog X.w) A (YaV .NotIn u (.ref a)) Q E s:=by
 rcases g with ⟨kvs,k,e,U,l⟩|⟨kvs,k,b,e,U,eb,l⟩
 ·subst U;obtain ⟨z,Y,vs,J,dd⟩:=Zd2 I.hok e;refine wpAny_notIn_of (Zfk ry) Y dd.mapOf ?_;rw[<-(J.val k).isSome_eq,<-l];exact h _ (I.tok _)
 ·subst U;cases (show u=Yay b from ry);obtain ⟨z,Y,xs,J,dd⟩:=Zhw I.hok e;refine wpAny_notIn_heap (Yc7 hu) (Zes I.hok eb) Y dd ?_;have q:=(J.val k).isSome_eq;rw[Ydl] at q;rw[<-q,<-l];exact h _ (I.tok _)
def Zd5 (I:Inv X pins σ H s)(mu:Mut (H a))(U:Ydo a s.heap h')(Y:∃ q,h'.get? a=some q)(J:ObjOk X.prog X.w (upd H a ob) h' a ob) :
  Inv X pins σ (upd H a ob) { s with heap:=h',toks:=t' }:=
 I.write (x:=a) (e:=a) mu (.inl rfl) (fun b q hb z=>(U.2 b hb).trans z) Y J
def ZjZ (z:kvs.length<=Yai)(J:(a == YcI)=false)(I:KV kvs vs)(dd:h'.DictOf (Zao P w) a vs) :
  ObjOk P w H' h' a (.dK kvs):=⟨z,J,vs,I,dd⟩
def ZjS {H':Hp}{Q:Unit->Yaj->Prop}(hu:A.units+1<YeK)(I:Inv X pins σ H s)(g:DPut H a y v H')(ry:RelV y u)(rv:RelV v r)(h:∀ s',Inv X pins σ H' s'->Q () s') :
  YaF (YaJ X.prog X.w) A (setItem (.ref a) u r) Q E s:=by
 rcases g with ⟨kvs,k,e,ey,l,eH⟩|⟨kvs,k,b,e,ey,eb,l,eH⟩
 ·subst ey eH;obtain ⟨z,hd,vs,J,dd⟩:=Zg5 I.hok e;have hz:vs.length<=Yai:=by rw[<-J.length];exact z
  have hl:(Zc4 kvs k v).length<=Yai:=by have:=Zbz kvs k v;omega
  refine wpAny_setItem_pairs (hsz:=hz) (Zfk ry) dd fun h' U hs=>h _ ?_
  have he:∃ q,h'.get? a=some q:=let ⟨q,_,_,Y,_⟩:=U;⟨q,Y⟩
  exact Zd5 I (by rw[e];exact YbU) hs he (ZjZ hl hd (J.put k rv) U)
 ·subst ey eH;cases (show u=Yay b from ry);obtain ⟨z,hd,xs,J,dd⟩:=Zwb I.hok e;have hz:xs.length<=Yai:=by rw[<-Ydy J];exact z
  have hl:(Zc4 kvs k v).length<=Yai:=by have:=Zbz kvs k v;omega
  refine wpAny_setItem_heap (hsz:=hz) (Yc7 hu) (Zes I.hok eb) dd fun h' U hs=>h _ ?_
  obtain ⟨q,es,ep,Y,h2,h3,h4,_,h5⟩:=U;refine Zd5 I (by rw[e];exact YbU) hs ⟨q,Y⟩ ⟨hl,hd,_,(J.put k eb rv).keeps fun c ys ec=>?_,q,es,ep,Y,h2,h3,h4,h5⟩;rw[Zab (Zwi ec e (fun z=>nomatch z))];exact ec
end
section
variable {X:Cx} {pins:List (Yaq×Obj)} {σ:St} {H:Hp} {s:Yaj} {a:Yaq} {kvs:List (Key×V)} {k:Key} {u:Yag} {A:Ybr} {E:Yag->Yaj->Prop}
def ZwO (I:Inv X pins σ H s)(e:H a=some (.dK kvs))(ry:RelV (kV k) u)(l:Zck kvs k=some v)(hm:more=[]\/∃ x,more=[x])
  (h:∀ Y s',Inv X pins σ (upd H a (.dK (ZdN kvs k))) s'->RelV v Y->Q Y s'):YaF (YaJ X.prog X.w) A (call (.builtin "dict.pop") (.ref a::u::more)) Q E s:=by
 obtain ⟨z,hd,vs,J,dd⟩:=Zg5 I.hok e;obtain ⟨Y,hw,aa⟩:=RelO.some_of (v:=v) (o:=YeN vs k) (by rw[<-l];exact J.val k);have hp:(keyPart u).isSome=true:=by
  cases k with
  | inl i=>obtain ⟨t,q⟩:=(show ∃ t,u=Yej i t from ry);subst q;rfl
  | inr x=>obtain ⟨t,q⟩:=(show ∃ t,u=YdV x t from ry);subst q;rfl
 have ha:argsOk "dict.pop" ⟨.ref a::u::more,[]⟩:=by
  rcases hm with q|⟨x,q⟩
  ·subst q;exact PySem.F.args_dict_pop_2 _ _
  ·subst q;exact PySem.F.args_dict_pop_3 _ _ _
 refine call_meetsIn Yep dd.typeIs PySem.F.entry_dict_pop ha (meets_dict_pop_there (Zao X.prog X.w) a (Zfk ry) more hm hp)
  ⟨vs,Y,dd,by rw[<-J.length];exact z,hw,fun h' U hs=>h Y _ ?_ aa⟩
 have he:∃ q,h'.get? a=some q:=let ⟨q,_,_,hq,_⟩:=U;⟨q,hq⟩
 exact Zd5 I (by rw[e];exact YbU) hs he (ZjZ (YbE (Zlr kvs k) z) hd (J.drop k) U)
def ZwY (I:Inv X pins σ H s)(e:Rd H a (.dK kvs))(h:∀ t s',Inv X pins σ H s'->Q (.int kvs.length t) s'):YaF (YaJ X.prog X.w) A (call (.builtin "len") [.ref a]) Q E s:=by
 obtain ⟨z,U,vs,J,dd⟩:=Zd2 I.hok e;refine call_len_dict U dd (by rw[<-J.length];rw[Ybj] at z;omega) ?_;rw[<-J.length];exact h _ _ (I.tok _)
end
def Zvo (i:YaQ):Prop:=∀ ov z,YeM i false ov z=operate [ov,z] (Ye8 ov z)
def Zoq {prog:YaN}{w:Ybg}{A:Ybr}{E:Yag->Yaj->Prop}{s:Yaj}{env:Env}{value z:YaQ}{pos:Pos}{T id:String}{Q:Yag->Yaj->Prop}
  (hl:typeLookup (.type T) "__getitem__"=pure (some (.builtin id))) (hs:Zvo z)
  (h:YaF (YaJ prog w) A (YbT value env) (fun o U=>YaF (YaJ prog w) A (YbT z env) (fun i I=>I.TypeIs o T/\YaF (YaJ prog w) A (Ye8 o i) Q E I) E U) E s) :
  YaF (YaJ prog w) A (YbT (.Subscript value z pos) env) Q E s:=by
 refine Subscript_ (Ya6 h (fun o U ac=>Ya6 ac (fun i I J=>?_) fun _ _ x=>x) fun _ _ x=>x);obtain ⟨hT,J⟩:=J;unfold subscriptTail;refine Yac ?_;rw[getitemInPython_of_ne hT.not_modules];refine Yac (YdA hT hl ?_);have fin:YaF (YaJ prog w) A (YeM z false o i) (fun r Y=>YaF (YaJ prog w) A (letTemporaryGo value o r >>= fun _=>pure r) Q E Y) E I:=by
  rw[hs o i];exact wpAny_operating (Ya6 J (fun r Y aa=>Yac (wpAny_letTemporaryGo (Yat aa))) fun _ _ x=>x)
 first
  | exact Yat (Yac fin)
  | exact Yac (Yat (Yac fin))
  | exact Yac fin
def Zf7 (I:Inv X pins σ H s)(g:DGet H a y o):s.TypeIs (.ref a) "dict":=by
 rcases g with ⟨kvs,k,e,_,_⟩|⟨kvs,k,b,e,_,_,_⟩
 ·obtain ⟨_,_,vs,_,dd⟩:=Zd2 I.hok e;exact dd.typeIs
 ·obtain ⟨_,_,xs,_,dd⟩:=Zhw I.hok e;exact dd.typeIs
noncomputable def Zwg (td ty:TE):TE:=fun σ H Q=>td σ H fun x H1=>ty σ H1 fun y H2=>∃ a v,x=.ref a/\DGet H2 a y (some v)/\Q v H2
noncomputable def ZwD (td ty tv:TE):TS:=fun D σ H=>tv σ H fun v H1=>td σ H1 fun x H2=>ty σ H2 fun y I=>∃ a z,x=.ref a/\DPut I a y v z/\D.nx σ z
section
variable {X:Cx} {o i e value:YaQ} {pos pos' tpos:Pos} {td ty tv:TE}
def Zp0 (hu:X.A.units+1<YeK)(ho:PE X o td)(hi:PE X i ty)(hs:Zvo i):PE X (.Subscript o i pos) (Zwg td ty):=by
 intro pins s σ H Q I h;refine Zoq PySem.F.slot_dict_getitem.lookup hs (thn (ho pins s σ H _ I h) fun u s1 ⟨x,H1,I1,rx,Y⟩=>thn (hi pins s1 σ H1 _ I1 Y) fun iv s2 zq=>?_);obtain ⟨y,H2,J,ry,a,v,ex,g,U⟩:=zq;subst ex;obtain rfl:u=Yay a:=rx;exact ⟨Zf7 J g,Ziu hu J g ry fun w' s3 I3 z=>⟨v,H2,I3,z,U⟩⟩
def Zn0 (hu:X.A.units+1<YeK)(ho:PE X o td)(hi:PE X i ty)(hv:PE X value tv)(hs:YbI value (some (.Subscript o i pos')) pos.line X.env=pure false) :
  PS X (.Assign [.Subscript o i pos'] value pos) (ZwD td ty tv):=by
 intro pins s σ H D I h;refine wpAny_Assign_Subscript (thn (hv pins s σ H _ I h) fun r s1 ⟨v,H1,U,rv,J⟩=>thn (ho pins s1 σ H1 _ U J) fun u s2 ⟨x,H2,I2,rx,q2⟩=>thn (hi pins s2 σ H2 _ I2 q2) fun iv s3 zq=>?_) hs;obtain ⟨y,H3,Y,ry,a,z,ex,g,q3⟩:=zq;subst ex;obtain rfl:u=Yay a:=rx;exact ZjS hu Y g ry rv fun s4 I4=>⟨σ,z,I4,q3⟩
end
def Zgx (h:YbO)(z:YcI<h.objs.size):ObjOk P w H (h.push { cls:=.type "dict",data:=.dict #[] }) h.objs.size (.dK []):=
 ⟨Ycy _,beq_eq_false_iff_ne.mpr (YbW (YaK z)),[],.nil,YbO.DictOf.new h⟩
def Zqy:TE:=fun _ H Q=>∀ p,H p=none->Q (.ref p) (upd H p (.dK []))
section
variable {X:Cx} {pos:Pos}
def pe_dnewK:PE X (.Dict [] [] pos) Zqy:=fun pins s σ H Q I h=>
 wpAny_Dict_empty ⟨.ref s.heap.objs.size,_,I.laid (a:=s.heap.objs.size) (o:=.dK []) (t':=s.toks) (fun _ _ q=>Yad _ q) (Yak _) (Zgx s.heap I.big),rfl,h _ (I.hok.fresh (Yak _))⟩
end
def ZgM:List (TE×TE)->St->Hp->(List (V×V)->Hp->Prop)->Prop
 | [],_,H,Q=>Q [] H
 | (tk,tv)::r,σ,H,Q=>tk σ H fun x H1=>tv σ H1 fun y H2=>ZgM r σ H2 fun ps z=>Q ((x,y)::ps) z
abbrev VV:List (V×V)->List (Yag×Yag)->Prop:=YcX fun p q=>RelV p.1 q.1/\RelV p.2 q.2
def PPs (X:Cx)(pos:Pos)(keys:List (Option YaQ))(values:List YaQ)(z:List (TE×TE)):Prop:=
 ∀ (pins:List (Yaq×Obj)) (s:Yaj) (σ:St) (H:Hp) (Q:List (V×V)->Hp->Prop),Inv X pins σ H s->ZgM z σ H Q ->
  YaF (YaJ X.prog X.w) X.A (evalPairs (pairTrees keys values X.env pos)) (fun vs s'=>∃ ps H',Inv X pins σ H' s'/\VV ps vs/\Q ps H') X.xe s
def Zol:PPs X pos [] [] []:=fun pins s σ H Q I h=>pairTrees_nil_walk ⟨[],H,I,.nil,h⟩
def Zlg (hk:PE X k tk)(hv:PE X v tv)(hr:PPs X pos ks vs trs) :
  PPs X pos (some k::ks) (v::vs) ((tk,tv)::trs):=fun pins s σ H Q I h=>
 pairTrees_cons_walk (thn (hk pins s σ H _ I h) fun u s1 ⟨x,H1,I1,rx,q1⟩=>thn (hv pins s1 σ H1 _ I1 q1) fun w2 s2 ⟨y,H2,U,ry,Y⟩=>
  thn (hr pins s2 σ H2 _ U Y) fun ws s3 ⟨ps,J,I3,z,q3⟩=>⟨(x,y)::ps,J,I3,.cons ⟨rx,ry⟩ z,q3⟩)
def Zb6 (kvs more:List (Key×V)):List (Key×V):=more.foldl (fun z kv=>Zc4 z kv.1 kv.2) kvs
def KV.merge:∀ {more:List (Key×V)} {z:List (Key×Yag)} {kvs:List (Key×V)} {vs:List (Key×Yag)},KV more z->KV kvs vs->KV (Zb6 kvs more) (merged vs z):=by
 intro more z kvs vs r;unfold KV at r
 induction r generalizing kvs vs with
 | nil=>intro q;exact q
 | @cons p q ps U h t I=>
  intro J;have e:KV (Zc4 kvs p.1 p.2) (stored vs q.1 q.2):=by
   have:=J.put p.1 h.2;rw[<-h.1];exact this
  exact I e
theorem ZbL:∀ (more kvs:List (Key×V)),(Zb6 kvs more).length<=kvs.length+more.length
 | [],kvs=>by show kvs.length<=kvs.length+0;omega
 | p::r,kvs=>by
  have h1:=ZbL r (Zc4 kvs p.1 p.2);have h2:=Zbz kvs p.1 p.2;show (Zb6 (Zc4 kvs p.1 p.2) r).length<=_;rw[Ya4];omega
theorem ZdD:∀ {kvs:List (Key×V)} {ws:List (Yag×Yag)},VV (kvs.map fun kv=>(kV kv.1,kv.2)) ws->∃ z,Carries (Zao P w) ws z/\KV kvs z
 | [],_,r=>by rw[YcZ] at r;cases r;exact ⟨[],YbU,.nil⟩
 | p::kvs,_,r=>by
  rw[Yap] at r;cases r with
  | @cons a b J bs h t=>
   obtain ⟨z,c,q⟩:=ZdD (P:=P) (w:=w) t;obtain ⟨U,I⟩:=b;exact ⟨(p.1,I)::z,⟨Zfk h.1,rfl,c⟩,.cons ⟨rfl,h.2⟩ q⟩
def Zv0 (z:List (TE×TE)):TE:=fun σ H Q=>∀ p,H p=none->ZgM z σ (upd H p (.dK [])) fun ps H2=>H2 p=some (.dK [])/\∃ kvs:List (Key×V),ps=kvs.map (fun kv=>(kV kv.1,kv.2))/\kvs.length<=15/\Q (.ref p) (upd H2 p (.dK (Zb6 [] kvs)))
def Zo3 (h:PPs X pos keys values trs)(J:keys.all (·.isSome)=true)(hl:keys.length=values.length)(h0:keys≠[])
  (aa:keys.length<=15):PE X (.Dict keys values pos) (Zv0 trs):=by
 intro pins s σ H Q I q;have hn:=I.hok.fresh (Yak s.heap.objs.size);have I1:=I.laid (a:=s.heap.objs.size) (o:=.dK []) (h':=s.heap.push { cls:=.type "dict",data:=.dict #[] }) (t':=s.toks) (fun _ _ q=>Yad _ q) (Yak _) (Zgx s.heap I.big);refine wpAny_Dict_walk (knd:=Zao X.prog X.w) J hl h0 aa (thn (h pins _ σ _ _ I1 (q _ hn)) fun ws s2 zq=>?_);obtain ⟨ps,H2,I2,Y,e,kvs,ep,lk,q2⟩:=zq;subst ep;obtain ⟨rs,c,rk⟩:=ZdD (P:=X.prog) (w:=X.w) Y;obtain ⟨z,hd,ac,r0,dd⟩:=Zg5 I2.hok e;cases r0;refine ⟨rs,c,dd,fun h' U hs=>⟨.ref s.heap.objs.size,_,?_,rfl,q2⟩⟩;have hz:(Zb6 [] kvs).length<=Yai:=by
  have h1:=ZbL kvs [];rw[Yc6] at h1;rw[Ybj];omega
 have he:∃ q,h'.get? s.heap.objs.size=some q:=let ⟨q,_,_,hq,_⟩:=U;⟨q,hq⟩
 exact Zd5 I2 (by rw[e];exact YbU) hs he (ZjZ hz hd (rk.merge .nil) U)
structure M1 (X:Cx)(o:YaQ)(m:Str)(apos:Pos)(e:YaQ)(cpos:Pos):Prop where
 base:Ybb o m X.env (YbT o X.env)=YbT o X.env
 few:((Ya3 cpos (Yah [e] X.env)).all (fun x=>!x.1) && (Ycc cpos (Ybm [] X.env)).all (fun x=>x.1.isSome)
  && decide (([e]:List YaQ).length+([]:List Yb8).length+(if ([]:List Yb8).isEmpty then 0 else 1)<30))=true
 line:(apos.endLine == cpos.line)=true
 trees:Ya3 cpos (Yah [e] X.env)=[(false,YbT e X.env)]
def IsD (H:Hp)(a:Yaq):Prop:=(∃ kvs,Rd H a (.dK kvs))\/∃ kvs,Rd H a (.dT kvs)
def Zs7 (I:Inv X pins σ H s)(d:IsD H a) :
  s.TypeIs (.ref a) "dict"/\(∀ b,Yay a=.ref b->∃ ob,s.heap.get? b=some ob/\ob.dict=none)/\(a == YcI)=false:=by
 rcases d with ⟨kvs,e⟩|⟨kvs,e⟩
 ·obtain ⟨_,z,vs,_,dd⟩:=Zd2 I.hok e;refine ⟨dd.typeIs,fun b q=>?_,z⟩;cases q;obtain ⟨ob,_,_,h1,h2,_⟩:=dd;exact ⟨ob,h1,h2.2.1⟩
 ·obtain ⟨_,z,xs,_,dd⟩:=Zhw I.hok e;refine ⟨dd.typeIs,fun b q=>?_,z⟩;cases q;obtain ⟨ob,_,_,h1,h2,_⟩:=dd;exact ⟨ob,h1,h2.2.1⟩
def Zrj (td ty:TE):TE:=fun σ H Q=>td σ H fun x H1=>∃ a,x=.ref a/\IsD H1 a/\ty σ H1 fun y H2=>∃ kvs k v,H2 a=some (.dK kvs)/\y=kV k/\Zck kvs k=some v/\Q v (upd H2 a (.dK (ZdN kvs k)))
section
variable {X:Cx} {o e f:YaQ} {apos cpos:Pos} {td ty tx:TE}
def ZlM (ho:PE X o td)(he:PE X e ty)(m:M1 X o "pop" apos e cpos):PE X (.Call (.Attribute o "pop" apos) [e] [] cpos) (Zrj td ty):=by
 intro pins s σ H Q I h;refine wpAny_Call_method m.base m.few m.line PySem.F.plainAttrs_dict Yep PySem.F.type_dict_pop (thn (ho pins s σ H _ I h) fun u s1 zq=>?_);obtain ⟨x,H1,J,rx,a,ex,d,q1⟩:=zq;subst ex;obtain rfl:u=Yay a:=rx;obtain ⟨t1,t2,_⟩:=Zs7 J d;refine ⟨t1,t2,?_⟩;rw[m.trees];refine Ydd rfl (Ycd (Yc3 (thn (he pins s1 σ H1 _ J q1) fun iv s2 ⟨y,H2,Y,ry,kvs,k,v,ea,U,l,q2⟩=>Calls.spliced_nil ?_)));subst U;exact ZwO Y ea ry l (.inl rfl) fun w' s3 I3 z=>⟨v,_,I3,z,q2⟩
end
end L2
namespace Att
open PySem PySem.W PySem.Calls PyProof.Rows
def Zcq:∀ (ns:List Int) (vs:List Yag),WellAll P h vs (ns.map WData.int)->Ye7 vs ns:=by
 intro ns
 induction ns with
 | nil=>
  intro vs w;rw[YcZ] at w;cases w;exact .nil
 | cons n ns z=>
  intro vs w;rw[Yap] at w;cases w with
  | cons a b=>
   cases a;exact .cons _ _ (z _ b)
def Zj6 {l:OpenLaw}{n:Nat}(hn:l.most=some n){P:Params}{h:YbO}{args:List WData}{z:List Yag}
  (I:l.row.toRowW.claim.pre args=true) (aa:WellAll P h z args) :
  ∃ a vs ns,z=[Yay a]/\args=[WData.list (ns.map WData.int)]/\h.get? a=some { cls:=.type "list",data:=.seq vs.toArray }/\Ye7 vs ns/\ns.length<=n:=by
 have ac:WShape.hasAll [] args [.list .int]=true:=(pre_splitW I).1;have hc:l.pre.holds [] { args:=args }=true:=(pre_splitW I).2;obtain ⟨d,r,rfl,h1,h2⟩:=hasAllW_cons ac;obtain rfl:=hasAllW_nil h2;obtain ⟨xs,rfl,h3⟩:=hasW_list h1;obtain ⟨ns,rfl⟩:=items_int h3;have J:ns.length<=n:=by
  unfold OpenLaw.pre at hc;have h4:(WTm.not (.lt (.lit (.int (n:Int))) (.len (.arg 0)))).holds [] { args:=[.list (ns.map .int)] }=true:=by
   have h4:=(holds_andW hc).1;rw[hn] at h4;exact h4
  have Y:=condW_of h4 (w_not (w_lt w_lit (w_len_list (w_arg rfl))));rw[YaE] at Y;refine Nat.le_of_not_lt fun q=>?_
  have q':(n:Int)<((ns.length:Nat):Int):=by omega
  first
   | (rw[decide_eq_true q'] at Y;exact absurd Y (by decide))
   | (simp at Y;omega)
 cases aa with
 | cons w1 w2=>
  cases w2;cases w1 with
  | list ho U=>exact ⟨_,_,ns,rfl,rfl,ho,Zcq ns _ U,J⟩
def Zib (l:OpenLaw)(args:List WData):l.row.toRowW.claim.post args (.bool true) args=true:=
 postW_of (r:=l.row.toRowW) (X:=(true == true))
  (show WShape.has [] (.bool true) .bool=true by first | rfl | decide | simp[WShape.has,WShape.arms,WShape.armsAll])
  (show (WTm.eq .res (.lit (.bool true))).value [] { args:=args,res:=some (.bool true),after:=args }=some (.bool (true == true)) from w_eq_bool (w_res rfl) w_lit) rfl
def attach_call {l:OpenLaw}{n:Nat}{q:YaN}{J:List Str}{XP:(Str->Option Yag)->YbO->Prop}{YP:Ybg->YbO->Prop}{d:DefRec}
  (hn:l.most=some n) (ak:d.params.defaults=[])
  (ae:∀ (w:Ybg) (I z:Yaj) (mg mb:Str->Option Yag) (fa:Yaq) (o:Obj) (pm cd aa:Yag) (a:Yaq) (vs:List Yag) (ns:List Int),
   Ground q J [] XP w I mg mb z.heap->YP w z.heap ->
   z.heap.get? fa=some o->o.data=.func (docDef d.name d.params d.body d.scope pm cd aa)->z.heap.CodeRec cd d.name->mg d.name=some (.ref fa) ->
   z.heap.get? a=some { cls:=.type "list",data:=.seq vs.toArray }->Ye7 vs ns->ns.length<=n->z.gens = #[] ->
   Ydi (YaJ l.prog w) YeO (.call (.ref fa) ⟨[.ref a],[]⟩) (fun r s'=>r=.ok (.ret (.bool true))/\OldK z.heap s'.heap/\s'.os=z.os/\Yd6 s'.gens) z) :
  WalkO q J XP YP l.row.toRowW d [] (fun f vs=>PySem.call f vs):=by
 intro w I z mg mb G Y fa o pm cd aa dV kV ho hd ai hD ah hg al am as ag ao aq aj ap;obtain rfl:dV=.none:=Dflts.none hD ak;obtain rfl:kV=.none:=Dflts.noKw hD;obtain ⟨a,vs,ns,rfl,rfl,af,U,ac⟩:=Zj6 hn ag aj;refine enter_call (YcA (ae w I z mg mb fa o pm cd aa a vs ns G Y ho (fd_plain hd) ai ah af U ac hg) fun r s' hq=>?_);obtain ⟨rfl,h2,h3,h4⟩:=hq;exact ⟨.inl ⟨.bool true,.bool true,[],rfl,fun _=>rfl,.bool true,Zib l _,fun _=>⟨Yfa,fun _ hm=>(nomatch hm)⟩⟩,h2,h3,h4⟩
end Att
namespace L2
open PySem PySem.Spec PyProof.Rows
theorem Zcx:∀ {vs:List Yag} {ns:List Int},Ye7 vs ns->Vals (ns.map V.int) vs
 | _,_,.nil=>.nil
 | _,_,.cons n t h=>.cons ⟨t,rfl⟩ (Zcx h)
def ZuK (H:Hp):Prop:=∀ b,H b=none\/∃ o xs,H b=some (.frz o (.lst xs))
def ZlX {P:YaN}{w:Ybg}{K:Yab}{mg mb:Str->Option Yag}{CX:CXT}{k:Nat}{fa a:Yaq}{fd:Ybc}{x:Str}{sp:Sp}{I:Yaj}{vs:List Yag}{ns:List Int}
  (KX:K.In I.heap) (ae:I.heap.Ns YaO mg) (J:I.heap.Ns builtinsNs mb) (aj:∀ x:Str,x≠"__name__"->mb x=YaR x) (ac:I.heap.NoLimit) (hg:I.gens = #[])
  (ha:I.heap.get? a=some { cls:=.type "list",data:=.seq vs.toArray }) (hi:Ye7 vs ns) (hl:ns.length<=Yai) (hr:Room k YeO)
  (F:∀ base:YbO,K.In base->base.Ns YaO mg->FnOk P w K mg base CX k fa fd [x] sp) (aa:∀ (s:Yaj) (u:Yag),YeL s fd ⟨[u],[]⟩ [(x,u)])
  (ak:∀ H:Hp,ZuK H->SqL K H a (ns.map V.int)->sp [.ref a] H (fun v _=>v=.bl true) fun _ _ _=>False)
  (al:∀ H e s',CX [] H I (fun _ _ _=>False) e s'->False) :
  Ydi (YaJ P w) YeO (.call (.ref fa) ⟨[.ref a],[]⟩) (fun r s'=>r=.ok (.ret (.bool true))/\OldK I.heap s'.heap/\s'.os=I.os/\Yd6 s'.gens) I:=by
 have rv:=Zcx hi;have Zqn:=hi.length;have Y:∀ H:Hp,ZuK H->SqL K H a (ns.map V.int)->HOk P w H I.heap->(∀ b,H b≠none->b=a)->(H a≠none->K.lookup a=none) ->
   Ydi (YaJ P w) YeO (.call (.ref fa) ⟨[.ref a],[]⟩) (fun r s'=>r=.ok (.ret (.bool true))/\OldK I.heap s'.heap/\s'.os=I.os/\Yd6 s'.gens) I:=by
  intro H hO hS ag hA hK;have ZaI:∀ {b:Yaq} {o:Obj},I.heap.get? b=some o->H b=none->(ZkK I.heap H).get? b=some o:=fun e n=>ZlI e n
  have am:∀ {b:Yaq} {o:Obj} {es:Array DictEntry} {ep:Nat},I.heap.get? b=some o->o.data=.dict es ep->H b=none:=fun {b o es ep} e d=>by
   cases q:H b with
   | none=>rfl
   | some u=>
    have e':b=a:=hA b (by rw[q];simp);subst e';rw[ha] at e;cases e;have d':Data.seq vs.toArray _=Data.dict es ep:=d;cases d'
  have U:∀ {b:Yaq} {m:Str->Option Yag},I.heap.Ns b m->(ZkK I.heap H).Ns b m:=fun {b m} ⟨o,es,ep,e,d,r⟩=>⟨o,es,ep,ZaI e (am e d),d,r⟩
  have af:K.In (ZkK I.heap H):=fun b o e=>ZaI (KX b o e) (by
   cases q:H b with
   | none=>rfl
   | some u=>
    have e':b=a:=hA b (by rw[q];simp);subst e';rw[hK (by rw[q];simp)] at e;cases e)
  have hM:Mod K mg (ZkK I.heap H):=⟨af,U ae,⟨mb,U J,aj⟩,let ⟨mc,h1,h2⟩:=ac;⟨mc,U h1,h2⟩⟩;have e0:Env0 P w K mg (ZkK I.heap H) YeO [] I H:=⟨rfl,hM,fun b o e=>Znl e,Nat.le_of_eq (ZjR _ _),trivial,fun b J=>absurd (show b∈([]:List Yaq) from J) (by simp),ag,.of_eq hg,.inl rfl⟩;refine YcA ((F _ af (U ae)).run YeO [] I H ⟨[.ref a],[]⟩ [.ref a] [.ref a] _ _ hr (fun _=>rfl) e0 (aa I (.ref a)) (.cons rfl .nil) (ak H hO hS)) fun r s' h=>?_
  cases r with
  | error e=>exact (al H e s' h).elim
  | ok fl=>
   cases fl with
   | next=>exact Ya9 h
   | brk=>exact Ya9 h
   | cont=>exact Ya9 h
   | ret u=>
    obtain ⟨v,H',os,ah,un,ai,r',q⟩:=h;have q':v=.bl true:=q;subst q';obtain rfl:u=YcW true:=r';refine ⟨rfl,OldK.of_keep fun b o e=>?_,os,ah⟩;cases q:H b with
    | none=>exact un.keep b o e q (by intro z;exact absurd (show b∈([]:List Yaq) from z) (by simp)) (by simp)
    | some u=>
     rcases hO b with z|⟨ob,xs,z⟩
     ·rw[q] at z;cases z
     ·have z2:=un.frzs b ob _ z;obtain ⟨e1,_⟩:=ag b _ z;obtain ⟨e2,_⟩:=ai b _ z2;rw[e] at e1;cases e1;exact e2
 cases hk:K.lookup a with
 | some o=>
  have e:=KX a o hk;rw[ha] at e;cases e;refine Y (fun _=>none) (fun _=>.inl rfl) (.inr ⟨_,vs.toArray,_,hk,rfl,rfl,rfl,by rw[YaB,Zqn];exact hl,by simpa using rv⟩) (fun b u z=>by have z':(none:Option HO)=some u:=z;cases z') (fun b z=>absurd rfl z) fun z=>absurd rfl z
 | none=>
  refine Y (fun b=>if b=a then some (.frz { cls:=.type "list",data:=.seq vs.toArray } (.lst (ns.map V.int))) else none) (fun b=>?_) (.inl (.inr ⟨{ cls:=.type "list",data:=.seq vs.toArray },if_pos rfl⟩)) (fun b u z=>?_) (fun b z=>?_) fun _=>hk
  ·by_cases J:b=a
   ·exact .inr ⟨_,_,if_pos J⟩
   ·exact .inl (if_neg J)
  ·by_cases J:b=a
   ·have z':=(if_pos J).symm.trans z;cases z';subst J;exact ⟨ha,by rw[YaE];exact hl,vs,_,rv,ha⟩
   ·have z':=(if_neg J).symm.trans z;cases z'
  ·by_cases J:b=a
   ·exact J
   ·exact absurd (if_neg J) z
noncomputable abbrev KOf {K:Yab}{h:YbO}(_:K.In h):Yab:=K
def ZoX {l:PySem.W.OpenLaw}{n k:Nat}{q:YaN}{J:List Str}{XP:(Str->Option Yag)->YbO->Prop}{YP:Ybg->YbO->Prop}{d:DefRec}{K:Params->Yab}{CX:Ybg->CXT}{sp:Ybg->Sp}{x:Str}
  (hn:l.most=some n) (ae:n<=Yai) (ag:d.params.defaults=[]) (hr:Room k YeO)
  (hY:∀ (w:Ybg) (h:YbO),YP w h->(K w.params).In h)
  (F:∀ (w:Ybg) (mg:Str->Option Yag) (fa:Yaq) (h:YbO),(K w.params).In h->h.Ns YaO mg->mg d.name=some (.ref fa) ->
   ∃ fd:Ybc,(∀ (s:Yaj) (u:Yag),YeL s fd ⟨[u],[]⟩ [(x,u)]) /\
    ∀ base:YbO,(K w.params).In base->base.Ns YaO mg->FnOk l.prog w (K w.params) mg base (CX w) k fa fd [x] (sp w))
  (af:∀ (w:Ybg) (H:Hp) (a:Yaq) (ns:List Int),ns.length<=n->ZuK H->SqL (K w.params) H a (ns.map V.int)->sp w [.ref a] H (fun v _=>v=.bl true) fun _ _ _=>False)
  (ah:∀ (w:Ybg) (H:Hp) (s:Yaj) (e:Yag) (s':Yaj),CX w [] H s (fun _ _ _=>False) e s'->False) :
  PySem.W.WalkO q J XP YP l.row.toRowW d [] (fun f vs=>PySem.call f vs):=by
 refine Att.attach_call hn ag fun w ai aa mg mb fa o pm cd ak a vs ns G Y ho hd aj ac U I z hg=>?_
 have KX:=hY w _ Y;obtain ⟨fd,hb,hF⟩:=F w mg fa _ KX G.T.g ac;exact ZlX KX G.T.g G.T.b G.T.builtins G.T.nolimit hg U I (YbE z ae) hr hF hb (fun H hO hS=>af w H a ns z hO hS) fun H e s'=>ah w H aa e s'
noncomputable def Zac (s:Yce)(j:Nat):Yce:=match s with
 | .ClassDef _ _ _ body _ _ _ _ _ _ _=>body.getD j (.Pass ⟨0,0,0,0⟩)
 | _=>.Pass ⟨0,0,0,0⟩
noncomputable def ZaM (s:Yce):Arguments:=match s with
 | .FunctionDef _ a _ _ _ _ _ _ _ _=>a
 | _=>{ posonlyargs:=[],args:=[],vararg:=none,kwonlyargs:=[],kw_defaults:=[],kwarg:=none,defaults:=[] }
noncomputable def Zah (s:Yce):List Yce:=match s with
 | .FunctionDef _ _ b _ _ _ _ _ _ _=>b
 | _=>[]
noncomputable def Zaa (s:Yce):YcQ:=match s with
 | .FunctionDef _ _ _ _ _ _ z _ _ _=>z
 | _=>{ kind:=.function,names:=[],isGenerator:=false,isCoroutine:=false }
noncomputable abbrev CX0:CXT:=⟨fun _ _ _ _ _ _=>False,true⟩
noncomputable abbrev E0:XK:=fun _ _ _=>False
def Zp9 (z:X.calm=true):Zex CX0 X E0:=⟨fun _=>z,fun _ _ _ _ _ _ _ h=>Ya9 h⟩
structure Fun (K:Yab)(x qual:Str)(st:Yce)(f:Yaq)(fd:Ybc):Prop where
 ex:∃ (oc:Yag) (od:Option Yaq) (kV doc pm:Yag) (an:Option Yaq) (cdv ct:Yag) (osl:Array (Option Yag)),
  fd=Ybw x qual (ZaM st) (Zah st) (Zaa st) .none kV doc pm an cdv ct/\K.lookup f=some ⟨oc,od,.func fd,osl⟩/\Yb7 K cdv qual=true
 kp:Ybk K (.ref f)=true
section
variable {P:YaN} {w:Ybg} {K:Yab} {mg:Str->Option Yag} {base:YbO}
def Fun.ok {x z:Str}{st:Yce}{f:Yaq}{fd:Ybc}{N ps:List Str}{k:Nat}{sp:Sp}(F:Fun K x z st f fd)(S:FnScope N ps (Zaa st))(U:∀ vs H Q E,sp vs H Q E->vs.length=ps.length)
  (J:∀ (I:Yag) (A:Ybr) (outer:List Env) (s:Yaj) (H:Hp) (vs:List V) (Q:VK) (E:XK),Room k (A.deeper (Yc4 z (Zaa st) s.heap.objs.size f I))->sp vs H Q E ->
   ∃ t,PSs (Zcm CX0 P w K mg base N z (Zaa st) f I A outer s H E).nox (Zah st) t/\t { nx:=fun _ H'=>Q .non H',rt:=Q } (start N vs) H):FnOk P w K mg base CX0 (k+1) f fd ps sp:=by
 obtain ⟨oc,od,kV,ac,pm,an,I,ct,ae,rfl,lk,Y⟩:=F.ex;refine ZpP lk Y S U fun A outer s H vs Q E hr aa=>?_
 obtain ⟨t,h,q⟩:=J I A outer s H vs Q E hr aa;exact ⟨t,h.nox,q⟩
def Fun.binds {x z:Str}{st:Yce}{f:Yaq}{fd:Ybc}{ps:List Str}(F:Fun K x z st f fd)
  (h:∀ (kV I U:Yag) (an:Option Yaq) (J ct:Yag) (us:List Yag),us.length=ps.length->bindArgs (Ybw x z (ZaM st) (Zah st) (Zaa st) .none kV I U an J ct) ⟨us,[]⟩=pure (ps.zip us)):Binds K fd ps []:=by
 obtain ⟨oc,od,kV,I,U,an,J,ct,Y,rfl,lk,aa⟩:=F.ex;exact .all (h kV I U an J ct)
def ZmU {x z:Str}{st:Yce}{f:Yaq}{oc:Yag}{od an:Option Yaq}{U:Array (Option Yag)}{kV J Y I ct:Yag}(l:K.lookup f=some ⟨oc,od,.func (Ybw x z (ZaM st) (Zah st) (Zaa st) .none kV J Y an I ct),U⟩)
  (c:Yb7 K I z=true) (k:Ybk K (.ref f)=true):Fun K x z st f (Ybw x z (ZaM st) (Zah st) (Zaa st) .none kV J Y an I ct):=⟨⟨oc,od,kV,J,Y,an,I,ct,U,rfl,l,c⟩,k⟩
end
def Zhg (z:Room k A):A.units+1<YeK:=Nat.lt_of_le_of_lt (Nat.add_le_add_left (by decide:1<=64) _) z.units
section
variable {X:Cx}
def ZiB:CallR X (.builtin "len") (fun xs H Q=>∃ a kvs,xs=[V.ref a]/\H a=some (.dK kvs)/\Q (.int kvs.length) H):=by
 intro pins s σ H xs us Q I r h;obtain ⟨a,kvs,rfl,J,q⟩:=h;obtain ⟨u,rfl,z⟩:=Zd1 r;cases z;exact ZwY I (.inl J) fun t s' U=>⟨.int kvs.length,H,U,⟨t,rfl⟩,q⟩
end
noncomputable def Zko {A B:Prop}(h:B):if false=true then A else B:=by
 rw[if_neg Yav];exact h
def Zkq {A B:Prop}(h:A):if true=true then A else B:=by
 rw[if_pos rfl];exact h
def Same (H H':Hp):Prop:=∀ b o,H b=some o->H' b=some o
def Same.seq {K:Yab}{H H':Hp}{a:Yaq}{xs:List V}(e:Same H H')(h:SqL K H a xs):SqL K H' a xs:=by
 rcases h with (h|⟨o,h⟩)|h
 ·exact .inl (.inl (e _ _ h))
 ·exact .inl (.inr ⟨o,e _ _ h⟩)
 ·exact .inr h
def Zhu (K:Yab)(mg:Str->Option Yag)(x:Str)(st:Yce):Prop:=∃ f fd,Fun K x x st f fd/\mg x=some (.ref f)
def FnAt (P:YaN)(w:Ybg)(K:Yab)(mg:Str->Option Yag)(base:YbO)(CX:CXT)(k:Nat)(x:Str)(sp:Sp):Prop:=
 ∃ f fd ps,FnOk P w K mg base CX k f fd ps sp/\mg x=some (.ref f)/\Ybk K (.ref f)=true/\Binds K fd ps []
def ZaV (x z:Str)(st:Yce)(ps:List Str):Prop:=∀ (kV I U:Yag) (an:Option Yaq) (J ct:Yag) (us:List Yag),us.length=ps.length ->
 bindArgs (Ybw x z (ZaM st) (Zah st) (Zaa st) .none kV I U an J ct) ⟨us,[]⟩=pure (ps.zip us)
section
variable {P:YaN} {w:Ybg} {K:Yab} {mg:Str->Option Yag} {base:YbO}
theorem FnAt.mono (G:FnAt P w K mg base CX j x sp)(h:j<=k):FnAt P w K mg base CX k x sp:=by
 obtain ⟨f,fd,ps,F,r⟩:=G;exact ⟨f,fd,ps,F.mono h,r⟩
end
section
variable {X:Cx} {CX:CXT} {k j:Nat} {sp:Sp} {E:XK} {x:Str} {p pos:Pos} {e:YaQ} {es:List YaQ} {t:TA}
def GC (mg:Str->Option Yag)(x:Str)(v:V):Prop:=∃ u,mg x=some u/\RelV v u
def ZrY (J:Gl X x)(h:GC X.mg x v)(z:(x == ("__debug__":Str))=false:=by decide):PE X (.Name x p) (tC v):=by
 obtain ⟨u,I,r⟩:=h;exact ZpV J I r z
def ZwB (n:String)(Y:Gl X x)(U:X.mg x=none)(J:YaR x=some (.type n))(I:x≠"__name__":=by decide)(z:(x == ("__debug__":Str))=false:=by decide):PE X (.Name x p) (tC (.ty n)):=
 Zoy Y U J rfl I z
def Zm4:V->Yag->Prop
 | .ty n,c=>c=.type n
 | .ref a,c=>c=.ref a
 | _,_=>False
end
section
variable {K:Yab} {h:YbO} {mg:Str->Option Yag}
def ZtO (X:K.In h)(G:h.Ns YaO mg)(a:YbR K YaO x=some (some u))(r:RelV v u):GC mg x v:=⟨u,Ycl X G a,r⟩
def Zuq {P:YaN}{w:Ybg}{CX:CXT}{k:Nat}{sp:Sp}{st:Yce}{fa:Yaq}{x:Str}(R:Zhu K mg "law" st)(J:mg "law"=some (.ref fa))(hb:ZaV "law" "law" st [x])
  (F:∀ (f:Yaq) (fd:Ybc),Fun K "law" "law" st f fd->∀ base:YbO,FnOk P w K mg base CX k f fd [x] sp) :
  ∃ fd:Ybc,(∀ (s:Yaj) (u:Yag),YeL s fd ⟨[u],[]⟩ [(x,u)])/\∀ base:YbO,K.In base->base.Ns YaO mg->FnOk P w K mg base CX k fa fd [x] sp:=by
 obtain ⟨f,fd,F1,Y⟩:=R;have e:=J.symm.trans Y;cases e;refine ⟨fd,fun s u=>?_,fun base _ _=>F fa fd F1 base⟩;obtain ⟨oc,od,kV,z,pm,an,I,ct,U,rfl,lk,aa⟩:=F1.ex;exact .of_eq (hb kV z pm an I ct [u] rfl)
end
noncomputable def Zdn (K:Yab):Sp:=fun vs H Q _=>∃ (a:Yaq) (ns:List Int),vs=[.ref a]/\SqL K H a (ns.map V.int)/\ns.length<=63/\ZuK H/\∀ H',Q (.bl true) H'
def walk0 {l:PySem.W.OpenLaw}{k:Nat}{q:YaN}{I:List Str}{XP:(Str->Option Yag)->YbO->Prop}{U:Ybg->YbO->Prop}{d:DefRec}{K:Params->Yab}{x:Str}(hn:l.most=some 63)(J:d.params.defaults=[])(hr:Room k YeO)
  (hY:∀ (w:Ybg) (h:YbO),U w h->(K w.params).In h)
  (F:∀ (w:Ybg) (mg:Str->Option Yag) (fa:Yaq) (h:YbO),(K w.params).In h->h.Ns YaO mg->mg d.name=some (.ref fa) ->
   ∃ fd:Ybc,(∀ (s:Yaj) (u:Yag),YeL s fd ⟨[u],[]⟩ [(x,u)])/\∀ base:YbO,(K w.params).In base->base.Ns YaO mg->FnOk l.prog w (K w.params) mg base CX0 k fa fd [x] (Zdn (K w.params))) :
  PySem.W.WalkO q I XP U l.row.toRowW d [] (fun f vs=>PySem.call f vs):=
 ZoX (n:=63) (k:=k) (x:=x) (CX:=fun _=>CX0) (sp:=fun w=>Zdn (K w.params)) hn (by decide) J hr hY F (fun _ H a ns hl Y hS=>⟨a,ns,rfl,hS,hl,Y,fun _=>rfl⟩) fun _ _ _ _ _ z=>z
noncomputable def Zam (H:Hp)(a:Yaq):Option (List V):=match H a with
 | some (.lst xs)=>some xs
 | some (.frz _ (.lst xs))=>some xs
 | _=>none
noncomputable def Zbi (H:Hp)(a:Yaq):Option (List V):=match H a with
 | some (.tup xs)=>some xs
 | _=>none
def ZaP (h:Zam H a=some xs):Rd H a (.lst xs):=by
 unfold Zam at h;split at h
 ·rename_i e;cases h;exact .inl e
 ·rename_i e;cases h;exact .inr ⟨_,e⟩
 ·cases h
def Zad {K:Yab}{H:Hp}{a:Yaq}{xs:List V}(h:Zam H a=some xs):SqL K H a xs:=.inl (ZaP h)
def ZbF (h:Zbi H a=some xs):H a=some (.tup xs):=by
 unfold Zbi at h;split at h
 ·rename_i e;cases h;exact e
 ·cases h
def Zav {K:Yab}{H:Hp}{a:Yaq}{xs:List V}(h:Zbi H a=some xs):SqT K H a xs:=.inl (.inl (ZbF h))
def Zaz (h:H a=some (.lst xs)):Zam H a=some xs:=by unfold Zam;rw[h]
def Zbn (h:H a=some (.tup xs)):Zbi H a=some xs:=by unfold Zbi;rw[h]
def ZaZ {α:Type}(o:Option α)(k:α->Prop):Prop:=match o with
 | some a=>k a
 | none=>False
def Zak (h:ZaZ o k):∃ a,o=some a/\k a:=by
 cases o with
 | none=>exact h.elim
 | some a=>exact ⟨a,rfl,h⟩
noncomputable def ZaG (H:Hp)(a:Yaq):Option (List V):=match H a with
 | some (.lst xs)=>some xs
 | some (.frz _ (.lst xs))=>some xs
 | some (.tup xs)=>some xs
 | _=>none
def Zbm (h:ZaG H a=some xs):Zam H a=some xs\/Zbi H a=some xs:=by
 unfold ZaG at h;unfold Zam Zbi;split at h
 ·rename_i e;cases h;left;rw[e]
 ·rename_i e;cases h;left;rw[e]
 ·rename_i e;cases h;right;rw[e]
 ·cases h
def ixV:R2:=fun x y H Q=>match x,y with
 | .ref p,.int i=>ZaZ (ZaG H p) fun xs=>ZaZ (atI xs i) fun v=>Q v H
 | .str z,.int i=>z.length<=Yai/\ZaZ (atI z.cps.toList i) fun c=>Q (.str ⟨#[c]⟩) H
 | _,_=>False
section
variable {X:Cx} {a b c:YaQ} {ta tb tc:TE} {pos:Pos}
def IxR.imp (h:IxR X r)(i:∀ x y H Q,r' x y H Q->r x y H Q):IxR X r':=fun value z pins s σ H x y v u Q I U J q Y=>h value z pins s σ H x y v u Q I U J (i _ _ _ _ q) Y
def OpR.imp (h:OpR X f r)(i:∀ x y H Q,r' x y H Q->r x y H Q):OpR X f r':=fun pins s σ H x y v u Q I J z q=>h pins s σ H x y v u Q I J z (i _ _ _ _ q)
def CallR.imp (h:CallR X f r)(i:∀ xs H Q,r' xs H Q->r xs H Q):CallR X f r':=fun pins s σ H xs us Q I z q=>h pins s σ H xs us Q I z (i _ _ _ q)
def SlR.imp (h:SlR X r)(i:∀ x l u H Q,r' x l u H Q->r x l u H Q):SlR X r':=fun pins s σ H x v vl J lo hi sl Q I z h1 h2 h3 q=>h pins s σ H x v vl J lo hi sl Q I z h1 h2 h3 (i _ _ _ _ _ q)
def ZsY:IxR X ixV:=by
 refine (Zuu (X:=X)).imp fun x y H Q h=>?_
 unfold ixV at h;split at h
 ·rename_i p i;obtain ⟨xs,e,h⟩:=Zak h;obtain ⟨v,I,h⟩:=Zak h;rcases Zbm e with e|e
  ·exact .inl ⟨p,xs,i,v,rfl,rfl,Zad e,I,h⟩
  ·exact .inr (.inl ⟨p,xs,i,v,rfl,rfl,Zav e,I,h⟩)
 ·rename_i z i;obtain ⟨hz,h⟩:=h;obtain ⟨c,I,h⟩:=Zak h;exact .inr (.inr ⟨z,i,c,rfl,rfl,hz,I,h⟩)
 ·exact h.elim
def Inv.lstR (I:Inv X pins σ H s)(J:Zam H l=some xs) :
  xs.length<=Yai/\∃ (its:List Yag) (n:Nat),Vals xs its/\xs.length=its.length/\s.heap.get? l=some { cls:=.type "list",data:=.seq its.toArray n }:=by
 obtain ⟨z,its,n,r,e⟩:=(ZaP J).ok I.hok;exact ⟨z,its,n,r,r.length,e⟩
def ZwC:R2:=fun x y H Q=>match x,y with
 | .ref l,.ref b=>ZaZ (Zam H l) fun xs=>ZaZ (Zam H b) fun zs=>xs.length+zs.length<=Yai/\∀ p,H p=none->Q (.ref p) (upd H p (.lst (xs++zs)))
 | _,_=>False
def ZpC:OpR X (YcJ .Add) ZwC:=by
 intro pins s σ H x y v u Q I Y ry h;unfold ZwC at h;split at h
 ·obtain ⟨xs,U,h⟩:=Zak h;obtain ⟨zs,hB,hz,q⟩:=Zak h;cases Y;cases ry;obtain ⟨z,its,n,r,hl,e⟩:=I.lstR U;obtain ⟨z2,J,n2,r2,aa,e2⟩:=I.lstR hB;refine PySem.P.add_list e e2 ?_ (by rw[YaB,YaB];omega);have ea:its.toArray++J.toArray=(its++J).toArray:=by simp
  rw[ea];exact ⟨.ref _,_,I.lnew (t':=s.toks) (r.append r2) (by rw[Ybo];omega),rfl,q _ I.fresh⟩
 ·exact h.elim
def ZuT:R2:=fun x y H Q=>match x,y with
 | .int i,.int j=>Q (.int (i+j)) H
 | .str i,.str j=>i.length+j.length<=Yai/\Q (.str (i++j)) H
 | .ref l,.ref b=>ZwC (.ref l) (.ref b) H Q
 | _,_=>False
def Znk:OpR X (YcJ .Add) ZuT:=by
 refine ((ZsE (X:=X)).or ((Zhr (X:=X)).or (ZpC (X:=X)))).imp fun x y H Q h=>?_
 unfold ZuT at h;split at h
 ·exact .inl ⟨_,_,rfl,rfl,h⟩
 ·exact .inr (.inl ⟨_,_,rfl,rfl,h.1,h.2⟩)
 ·exact .inr (.inr h)
 ·exact h.elim
def slL:V->Option Int->Option Int->Hp->VK->Prop:=fun x lo hi H Q=>match x with
 | .ref a=>ZaZ (Zam H a) fun xs=>∀ p,H p=none->Q (.ref p) (upd H p (.lst (ZoE xs lo hi)))
 | _=>False
def ZnF:SlR X slL:=by
 refine (ZpW (X:=X)).imp fun x l u H Q h=>?_
 unfold slL at h;split at h
 ·obtain ⟨xs,e,h⟩:=Zak h;exact ⟨_,xs,rfl,Zad e,h⟩
 ·exact h.elim
def Zqn:List V->Hp->VK->Prop:=fun xs H Q=>match xs with
 | [.str z]=>z.length<=Yai/\Q (.int z.length) H
 | [.ref p]=>(match H p with
  | some (.dK kvs)=>Q (.int kvs.length) H
  | _=>ZaZ (ZaG H p) fun ys=>Q (.int ys.length) H)
 | _=>False
def Zij:CallR X (.builtin "len") Zqn:=by
 refine ((ZlS (X:=X)).or (ZiB (X:=X))).imp fun xs H Q h=>?_
 unfold Zqn at h;split at h
 ·exact .inl ⟨_,_,rfl,⟨h.1,rfl⟩,h.2⟩
 ·rename_i p;split at h
  ·rename_i e;exact .inr ⟨p,_,rfl,e,h⟩
  ·obtain ⟨ys,e,h⟩:=Zak h;rcases Zbm e with e|e
   ·exact .inl ⟨_,_,rfl,.inl ⟨ys,Zad e,rfl⟩,h⟩
   ·exact .inl ⟨_,_,rfl,.inr ⟨ys,Zav e,rfl⟩,h⟩
 ·exact h.elim
end
end L2
set_option maxHeartbeats 1000000
namespace L2
open PySem PySem.Spec PyProof.Rows
noncomputable def Zau (z:List (Str×Yaq)):List (Str×YcL)->List (Str×Yaq)->List (Str×Yaq)
 | [],I=>I
 | (n,k)::r,I=>if (k == .free)=true then (match z.lookup n with
   | some c=>Zau z r ((n,c)::I)
   | none=>Zau z r I) else Zau z r I
theorem ZbP:∀ (z:List (Str×YcL)) (I:List (Str×Yaq)),(∀ x∈z,x.2=.free->∃ c,env.cells.lookup x.1=some c) ->
  (forIn z I fun (x:Str×YcL) (cs:List (Str×Yaq))=>(match x with
   | (name,J)=>if (J == Ybq)=true then do let a <- cellOf env name;pure (YbA ((name,a)::cs)) else pure (YbA cs):Sem (ForInStep (List (Str×Yaq)))))=pure (Zau env.cells z I)
 | [],I,_=>rfl
 | (n,k)::r,I,h=>by
  have ih:=fun a=>ZbP (env:=env) r a fun x hx=>h x (Yau _ hx)
  rw[Yeq];by_cases U:(k == Ybq)=true
  ·obtain ⟨c,Y⟩:=h (n,k) YaD (by simpa using U);have e1:cellOf env n=pure c:=by unfold cellOf;rw[Y]
   simp only[U,if_true,e1,Zau,Y];exact ih _
  ·simp only[U,if_false,Zau];exact ih _
def Zdy (h:∀ x∈scope.names,x.2=.free->∃ c,env.cells.lookup x.1=some c):closureFor scope env=pure (Zau env.cells scope.names []):=by
 unfold closureFor;simp only[];have:=ZbP (env:=env) scope.names [] h;rw[show (forIn scope.names [] fun x r=>(match x with
   | (name,z)=>if (z == Ybq)=true then do let __do_lift <- cellOf env name;pure (YbA ((name,__do_lift)::r)) else pure (YbA r):Sem (ForInStep (List (Str×Yaq)))))=pure (Zau env.cells scope.names []) from this]
 rfl
theorem ZaW:∀ (I:List (Str×YcL)) (z:List (Str×Yaq)),(∀ y d,z.lookup y=some d->cells.lookup y=some d)->(Zau cells I z).lookup x=some c->cells.lookup x=some c
 | [],z,U,h=>U x c h
 | (n,k)::r,z,U,h=>by
  unfold Zau at h;split at h
  ·split at h
   ·rename_i d hd;refine ZaW r _ (fun y e J=>?_) h;rw[YaG] at J;cases Y:y == n with
    | true=>
     rw[Y] at J;have:y=n:=eq_of_beq Y;subst this;cases J;exact hd
    | false=>
     rw[Y] at J;exact U y e J
   ·exact ZaW r z U h
  ·exact ZaW r z U h
theorem Zbr (J:cells.lookup x=some c):∀ (I:List (Str×YcL)) (z:List (Str×Yaq)),z.lookup x=some c->(Zau cells I z).lookup x=some c
 | [],_,h=>h
 | (n,k)::r,z,h=>by
  unfold Zau;split
  ·split
   ·rename_i d U;refine Zbr J r _ ?_;rw[YaG];cases Y:x == n with
    | true=>
     have:x=n:=eq_of_beq Y;subst this;rw[J] at U;cases U;rfl
    | false=>exact h
   ·exact Zbr J r z h
  ·exact Zbr J r z h
theorem Za4 (J:cells.lookup x=some c):∀ (z:List (Str×YcL)) (I:List (Str×Yaq)),z.lookup x=some .free->(Zau cells z I).lookup x=some c
 | [],_,h=>by simp at h
 | (n,k)::r,I,h=>by
  rw[YaG] at h;unfold Zau;cases U:x == n with
  | true=>
   rw[U] at h;cases h;have:x=n:=eq_of_beq U;subst this;rw[if_pos (show (Ybq == Ybq)=true by decide),J];exact Zbr J r _ (by rw[YaG,beq_self_eq_true])
  | false=>
   rw[U] at h;split
   ·split
    ·exact Za4 J r _ h
    ·exact Za4 J r I h
   ·exact Za4 J r I h
noncomputable def compOk (osc:YcQ)(N own fr:List Str)(ix:List Nat)(scope:YcQ):Bool:=
 scope.kind == .function && scope.names.all (fun y=>y.2 != .cell) && scope.names.all (fun y=>y.2 != .local || scope.names.lookup y.1 == some .local) &&
 scope.names.all (fun y=>y.2 != .free || osc.names.lookup y.1 == some .cell) && own.all (fun x=>scope.names.lookup x == some .local) && fr.all (fun x=>scope.names.lookup x == some .free) && decide (ix.map (fun j=>N[j]?)=fr.map some) && decide ((own++fr).Nodup) && own.all (fun x=>scope.names.all fun y=>y.2 != .free || decide (y.1≠x))
def ZbZ (X:Cx)(own fr:List Str)(scope:YcQ)(C:Yaq)(s:Yaj)(H:Hp)(pins:List (Yaq×Obj))(fp:List Yaq):Cx where
 prog:=X.prog
 w:=X.w
 K:=X.K
 mg:=X.mg
 base:=X.base
 A:=X.A
 N:=own++fr
 s₀:=s
 H₀:=H
 env:=compEnvC scope (Zau X.env.cells scope.names []) C X.env
 outer:=X.stack
 stack:=X.stack
 ex:=fp
 calm:=X.calm
 fn:=fun x=>decide (x∈own)
 pn:=X.pn++pins
 xe:=fun _ _=>False
noncomputable def σC (own:List Str)(ix:List Nat)(σ:St):St:=Ycq own.length none++ix.map fun j=>(σ[j]?).join
theorem ZaB {env:Env}:∀ {z:List (Str×YcL)} {x:Str} {k:YcL},(z.map fun (n,k)=>if (k == Ybq && env.scope.kind == .function && env.kindOf n == some .cell) then (n,Ycm) else (n,k)).lookup x=some k ->
  z.lookup x=some k\/(k=.cell/\z.lookup x=some .free)
 | [],_,_,h=>by simp at h
 | (n,J)::r,x,k,h=>by
  have ih:=@ZaB env r x k;have h:Yba x ((if (J == Ybq && env.scope.kind == .function && env.kindOf n == some .cell)=true then (n,Ycm) else (n,J))::_)=_:=h;by_cases U:(J == Ybq && env.scope.kind == .function && env.kindOf n == some .cell)=true
  ·rw[if_pos U,YaG] at h;have hk:J=.free:=by
    have Y:=U;rw[Yaa,Yaa] at Y;have:=Y.1.1;cases J<;>first|rfl|cases this
   rw[YaG];cases I:x == n with
   | true=>
    rw[I] at h;cases h;exact .inr ⟨rfl,by rw[hk]⟩
   | false=>
    rw[I] at h;exact ih h
  ·rw[if_neg U,YaG] at h;rw[YaG];cases I:x == n with
   | true=>
    rw[I] at h;exact .inl h
   | false=>
    rw[I] at h;exact ih h
theorem ZaH {env:Env}:∀ {z:List (Str×YcL)} {x:Str},z.lookup x=some .free ->
  (z.map fun (n,k)=>if (k == Ybq && env.scope.kind == .function && env.kindOf n == some .cell) then (n,Ycm) else (n,k)).lookup x=some .cell \/
  (z.map fun (n,k)=>if (k == Ybq && env.scope.kind == .function && env.kindOf n == some .cell) then (n,Ycm) else (n,k)).lookup x=some .free
 | [],_,h=>by simp at h
 | (n,I)::r,x,h=>by
  have Y:=@ZaH env r x;show Yba x ((if (I == Ybq && env.scope.kind == .function && env.kindOf n == some .cell)=true then (n,Ycm) else (n,I))::_)=_\/Yba x ((if (I == Ybq && env.scope.kind == .function && env.kindOf n == some .cell)=true then (n,Ycm) else (n,I))::_)=_;rw[YaG] at h;by_cases U:(I == Ybq && env.scope.kind == .function && env.kindOf n == some .cell)=true
  ·rw[if_pos U];simp only[YaG];cases J:x == n with
   | true=>exact .inl rfl
   | false=>rw[J] at h;exact Y h
  ·rw[if_neg U];simp only[YaG];cases J:x == n with
   | true=>rw[J] at h;exact .inr h
   | false=>rw[J] at h;exact Y h
structure CompScope (osc:YcQ)(N own fr:List Str)(ix:List Nat)(scope:YcQ):Prop where
 kind:scope.kind=.function
 nocell:∀ y∈scope.names,y.2≠.cell
 loc:∀ y∈scope.names,y.2=.local->scope.names.lookup y.1=some .local
 free:∀ y∈scope.names,y.2=.free->osc.names.lookup y.1=some .cell
 ow:∀ x∈own,scope.names.lookup x=some .local
 fe:∀ x∈fr,scope.names.lookup x=some .free
 ic:ix.map (fun j=>N[j]?)=fr.map some
 nd:(own++fr).Nodup
 lf:∀ x∈own,∀ y∈scope.names,y.2=.free->y.1≠x
def compOk.of (h:compOk osc N own fr ix scope=true):CompScope osc N own fr ix scope:=by
 unfold compOk at h;simp only[Yaa,decide_eq_true_eq] at h;obtain ⟨⟨⟨⟨⟨⟨⟨⟨h1,h2⟩,h3⟩,Y⟩,h5⟩,h6⟩,h7⟩,h8⟩,U⟩:=h;refine ⟨?_,fun y I e=>?_,fun y I e=>?_,fun y I e=>?_,fun x J=>?_,fun x J=>?_,h7,h8,fun x J y I e=>?_⟩
 ·revert h1;cases scope.kind<;>first|(intro _;rfl)|(intro z;cases z)
 ·have:=Yaf.mp h2 y I;rw[e] at this;exact absurd this (by decide)
 ·have:=Yaf.mp h3 y I;rw[e] at this;have q:(scope.names.lookup y.1 == some YcL.local)=true:=by simpa using this
  exact eq_of_beq q
 ·have:=Yaf.mp Y y I;rw[e] at this;have q:(osc.names.lookup y.1 == some Ycm)=true:=by simpa using this
  exact eq_of_beq q
 ·exact eq_of_beq (Yaf.mp h5 x J)
 ·exact eq_of_beq (Yaf.mp h6 x J)
 ·have:=Yaf.mp (Yaf.mp U x J) y I;rw[e] at this
  simpa using this
section
variable {X:Cx} {pins:List (Yaq×Obj)} {σ:St} {H H':Hp} {s:Yaj} {own fr:List Str} {ix:List Nat} {scope:YcQ} {fp:List Yaq} {osc:YcQ} {N:List Str}
def Inv.cellAt (I:Inv X pins σ H s)(h:X.env.scope.names.lookup x=some .cell):∃ c,X.env.cells.lookup x=some c:=I.ok.has x (.inl h)
def Zov (I:Inv X pins σ H s)(S:CompScope X.env.scope X.N own fr ix scope)(hc:X.calm=X.calm)(hf:∀ b∈fp,ZfQ X pins H b)(hx:∀ b∈fp,b<s.heap.objs.size) :
  (ZbZ X own fr scope s.heap.objs.size s H pins fp).Ok:=by
 have sub:∀ x c,(Zau X.env.cells scope.names []).lookup x=some c->X.env.cells.lookup x=some c:=fun x c h=>ZaW scope.names [] (fun y d q=>by simp at q) h
 have U:∀ x,scope.names.lookup x=some .free->∃ c,(Zau X.env.cells scope.names []).lookup x=some c:=fun x h=>by
  obtain ⟨c,ac⟩:=I.cellAt (S.free (x,.free) (Ybs h) rfl);exact ⟨c,Za4 ac scope.names [] h⟩
 refine ⟨I.ok.mod,S.kind,I.ok.glob,I.ok.blt,Yak _,fun x y c h1 h2=>I.ok.inj x y c (sub x c h1) (sub y c h2),fun x aa=>?_,fun x c h1 h2=>?_,I.ok.hd,I.ok.frames,.inl rfl,fun b hb=>?_,I.bs,YbE I.ok.bsz I.sz,fun b o e hb=>?_,fun b hb hs=>?_,I.stack,I.stkFree,I.lqh⟩
 ·have aa:(relabel scope X.env).names.lookup x=some .cell\/(relabel scope X.env).names.lookup x=some .free:=aa;rcases aa with h|h
  ·rcases ZaB h with q|⟨_,q⟩
   ·exact absurd rfl (S.nocell (x,.cell) (Ybs q))
   ·exact U x q
  ·rcases ZaB h with q|⟨z,_⟩
   ·exact U x q
   ·cases z
 ·exfalso;have h1:x∈own:=of_decide_eq_true h1;have h3:=S.ow x h1;have:∀ (J:List (Str×YcL)) (Y:List (Str×Yaq)),Y.lookup x=none->(∀ y∈J,y.2=.free->y.1≠x)->(Zau X.env.cells J Y).lookup x=none:=by
   intro J
   induction J with
   | nil=>intro Y ha _;exact ha
   | cons y r ih=>
    intro Y ha hn;obtain ⟨n,k⟩:=y;unfold Zau;split
    ·rename_i hk;have hk:k=.free:=by cases k<;>first|rfl|cases hk
     split
     ·refine ih _ ?_ fun z hz=>hn z (Yau _ hz)
      rw[YaG];have:(x == n)=false:=by
       have:=hn (n,k) YaD hk;exact beq_eq_false_iff_ne.mpr fun z=>this z.symm
      rw[this];exact ha
     ·exact ih _ ha fun z hz=>hn z (Yau _ hz)
    ·exact ih _ ha fun z hz=>hn z (Yau _ hz)
  by_cases hm:∃ y∈scope.names,y.2=.free/\y.1=x
  ·obtain ⟨y,hy,e1,e2⟩:=hm;exact S.lf x h1 y hy e1 e2
  ·have h5:=this scope.names [] (by simp) (fun y hy e z=>hm ⟨y,hy,e,z⟩);have h2:(Zau X.env.cells scope.names []).lookup x=some c:=h2;rw[h5] at h2;cases h2
 ·refine ⟨YaK (hx b hb),fun x c h z=>?_⟩;exact (hf b hb).2.2.2.2.1 x c (sub x c h) z
 ·rcases (hf b hb).2.2.2.1 with z|z
  ·exact I.ok.noex b o e z
  ·exact absurd (YaI (Yal e) (YbE I.ok.bsz z)) (Yci _)
 ·obtain ⟨_,h1,h2,_⟩:=hf b hb;rcases Yaz.mp (I.stkSub b hs) with z|z
  ·exact h1 z
  ·exact h2 z
def Zhi (I:Inv X pins σ H s)(S:CompScope X.env.scope X.N own fr ix scope)(hc:X.calm=X.calm)(hf:∀ b∈fp,ZfQ X pins H b)(hx:∀ b∈fp,b<s.heap.objs.size)
  (ac:h1.Ns s.heap.objs.size m) (hk:∀ b o,s.heap.get? b=some o->h1.get? b=some o) :
  Inv (ZbZ X own fr scope s.heap.objs.size s H pins fp) [] (σC own ix σ) H { s with heap:=h1,toks:=tk }:=by
 have sub:∀ x c,(Zau X.env.cells scope.names []).lookup x=some c->X.env.cells.lookup x=some c:=fun x c h=>ZaW scope.names [] (fun y d q=>by simp at q) h
 have hl:ix.length=fr.length:=by
  have:=congrArg List.length S.ic
  simpa using this
 refine ⟨Zov I S hc hf hx,rfl,I.bare,Un.kept hk,⟨m,ac,fun i x v J h2 h3=>?_⟩,fun x c h=>?_,I.hok.fresh (Yak _),fun x c h=>I.freeC x c (sub x c h),fun p hp=>?_,I.hok.kept hk,?_⟩
 ·have J:(own++fr)[i]?=some x:=J;have hi:own.length<=i:=by
   by_cases z:i<own.length
   ·unfold σC at h2;rw[YaM (by simpa using z),Yc5] at h2;split at h2<;>cases h2
   ·omega
  unfold σC at h2;rw[YaX (by simpa using hi),YcB,YaU] at h2;rw[YaX hi] at J;cases e:ix[i - own.length]? with
  | none=>rw[e] at h2;cases h2
  | some j=>
   rw[e] at h2;have h2:(σ[j]?).join=some v:=YaT h2;have e2:σ[j]?=some (some v):=by
    cases q:σ[j]? with
    | none=>rw[q] at h2;cases h2
    | some o=>rw[q] at h2;exact congrArg some h2
   have e3:X.N[j]?=some x:=by
    have q:=congrArg (fun l=>l[i - own.length]?) S.ic;simp only[YaU,e,J] at q
    simpa using q
   have Y:=S.fe x (Yax J);have ho:=S.free (x,.free) (Ybs Y) rfl;obtain ⟨m0,_,aa⟩:=I.loc;obtain ⟨u,r,l⟩:=aa j x v e3 e2 (.inr (.inl ho));refine ⟨u,r,.inr ⟨?_,?_⟩⟩
   ·exact ZaH Y
   ·rcases l with ⟨k,_⟩|⟨_,c,ae,U⟩
    ·have k:X.env.scope.names.lookup x=some .local:=k;rw[ho] at k;cases k
    ·refine ⟨c,Za4 ae scope.names [] Y,?_⟩;obtain ⟨o,q1,q2⟩:=U;exact ⟨o,hk c o q1,q2⟩
 ·obtain ⟨v,o,q1,q2⟩:=I.cell x c (sub x c h);exact ⟨v,o,hk c o q1,q2⟩
 ·have hp:p∈(X.pn++pins)++[]:=hp;rw[YbK] at hp;obtain ⟨e,n,ne,nf,d⟩:=I.pin p hp;refine ⟨hk _ _ e,n,YaK (Yal e),fun z=>?_,d⟩;rcases Yaz.mp (I.stkSub p.1 z) with q|q
  ·exact ne q
  ·exact nf q
 ·show (σC own ix σ).length=(own++fr).length;unfold σC;simp[hl]
def ZeU (I:Inv X pins σ H s)(J:Inv (ZbZ X own fr scope s.heap.objs.size s H pins fp) pins' σ' H' s')(z:∀ b∈fp,ZfQ X pins H b):Inv X pins σ H' s':=
 I.call' (ch:=fp) J.os J.base J.hok J.bare fun b U=>⟨(z b U).2.2.2.1,(z b U).2.1,(z b U).2.2.2.2.1,(z b U).2.2.2.2.2⟩
def Zid (I:Inv X pins σ H s)(J:Inv (ZbZ X own fr scope s.heap.objs.size s H pins fp) pins' σ' H' s')(z:∀ b∈fp,ZfQ X pins H b)(hs:Ydo s.heap.objs.size s'.heap h') :
  Inv X pins σ H' { s' with heap:=h' }:=by
 have U:=ZeU I J z;have f:=I.fpOk (H':=H') (Yak _) J.free;exact U.turned (t':=s'.toks) (it:=s.heap.objs.size) (fun b o Y e=>hs.extBut b o Y e) f.1 f.2.1 f.2.2.2.1 f.2.2.2.2.1 f.2.2.2.2.2
end
def leS:St->St->Prop
 | [],[]=>True
 | none::a,_::b=>leS a b
 | some x::a,y::b=>y=some x/\leS a b
 | _,_=>False
theorem leS.len:∀ {a b:St},leS a b->a.length=b.length
 | [],[],_=>rfl
 | none::a,_::b,h=>by have:=leS.len (a:=a) (b:=b) h;simp[this]
 | some x::a,y::b,h=>by have:=leS.len (a:=a) (b:=b) h.2;simp[this]
 | [],_::_,h=>h.elim
 | none::_,[],h=>h.elim
 | some _::_,[],h=>h.elim
theorem leS.get:∀ {a b:St} {i:Nat} {v:V},leS a b->a[i]?=some (some v)->b[i]?=some (some v)
 | [],[],_,_,_,e=>by simp at e
 | none::a,_::b,0,_,_,e=>by simp at e
 | none::a,_::b,i+1,v,h,e=>by
  have:=leS.get (a:=a) (b:=b) (i:=i) (v:=v) h (by simpa using e)
  simpa using this
 | some x::a,y::b,0,v,h,e=>by
  simp at e;subst e
  simpa using h.1
 | some x::a,y::b,i+1,v,h,e=>by
  have:=leS.get (a:=a) (b:=b) (i:=i) (v:=v) h.2 (by simpa using e)
  simpa using this
 | [],_::_,_,_,h,_=>h.elim
 | none::_,[],_,_,h,_=>h.elim
 | some _::_,[],_,_,h,_=>h.elim
section
variable {X:Cx} {pins:List (Yaq×Obj)} {σ σ':St} {H:Hp} {s:Yaj}
def Inv.less (I:Inv X pins σ' H s)(h:leS σ σ'):Inv X pins σ H s:=I.weak h.len fun _ _ e=>h.get e
def PCs (X:Cx)(ifs:List YaQ)(t:TT):Prop:=
 ∀ (pins:List (Yaq×Obj)) (s:Yaj) (σ:St) (H:Hp) (Q:Bool->Hp->Prop),Inv X pins σ H s->t σ H Q ->
  YaF (YaJ X.prog X.w) X.A (forIn ifs true fun c r=>if r=true then do let ok <- Yfe c X.env (YbT c X.env);pure (YbA ok) else pure (YbA r)) (TP X pins σ Q) X.xe s
noncomputable def ZyV:TT:=fun _ H Q=>Q true H
def Zh7:PCs X [] ZyV:=fun pins s σ H Q I h=>Yat ⟨H,I,h⟩
theorem Zgo:∀ (ifs:List YaQ),(forIn ifs false fun c r=>if r=true then do let ok <- Yfe c env (YbT c env);pure (YbA ok) else pure (YbA r):Sem Bool)=pure false
 | []=>rfl
 | c::r=>by
  rw[Yeq];simp only[Yb5,if_false];exact Zgo r
def Zlj (h:PT X c t)(h':PCs X r u):PCs X (c::r) (Zvj t u):=by
 intro pins s σ H Q I q;rw[Yeq];simp only[if_true];refine Yac (Yac (thn (h pins s σ H _ I q) fun b s1 ⟨H1,J,z⟩=>Yat ?_));cases b with
 | true=>
  rw[if_pos rfl] at z;exact h' pins s1 σ H1 Q J z
 | false=>
  rw[if_neg (by simp)] at z;show YaF _ _ (forIn r false _) _ _ _;rw[Zgo];exact Yat ⟨H1,J,z⟩
end
def Zis {R:Result->Yaj->Prop}(I:Nat->Yaj->Prop)
  (aj:∀ n s,I n s->YaF (YaJ prog w) A (Yfc it) (fun r U=>match r with
   | none=>R (.ok .next) U
   | some v=>YaF (YaJ prog w) A (Ycw target it v) (fun _ J=>YaF (YaJ prog w) A (YeS target env v) (fun _ ag=>
     YaF (YaJ prog w) A (forIn ifs true fun c r=>if r=true then do let ok <- Yfe c env (YbT c env);pure (YbA ok) else pure (YbA r)) (fun ok Y=>
      if ok=true then YaF (YaJ prog w) A (YbT elt env) (fun x aa=>
       YaF (YaJ prog w) A (call (.builtin "list.append") [acc,x]) (fun _ af=>∃ m,m<n/\I m af) (fun _ _=>False) aa) (fun _ _=>False) Y
      else ∃ m,m<n/\I m Y) (fun _ _=>False) ag) (fun _ _=>False) J) (fun _ _=>False) U) (fun _ _=>False) s)
  (n:Nat) (h:I n s):Ydi (YaJ prog w) A (.compLoop (.ListComp elt [⟨target,iter,ifs,0⟩] scope pos) 0 it acc env) R s:=by
 have mo:∀ {α:Type} {t:Sem α} {Q:α->Yaj->Prop} {E:Yag->Yaj->Prop} {s:Yaj},YaF (YaJ prog w) A t Q (fun _ _=>False) s->YaF (YaJ prog w) A t Q E s:=fun h=>Ya6 h (fun _ _ q=>q) fun _ _ z=>z.elim
 refine codeAny_loop rfl I (fun n s hI=>?_) n h;show YaF _ A ((compTurn (.ListComp elt [⟨target,iter,ifs,0⟩] scope pos) 0 it acc env).onRaise (fun x=>do YeX x env;theTreesLotGoes x)) _ _ s;refine wpAny_noted ?_;rw[compTurn_list];refine Yac (YbP (Yac (mo (thn (aj n s hI) fun r U ae=>?_))));cases r with
 | none=>exact Yat ae
 | some v=>
  refine Yac (mo (thn ae fun _ J ah=>Yac (mo (thn ah fun _ ag ak=>Yac (mo (thn ak fun ok Y ac=>?_))))));cases ok with
  | false=>exact Yat ⟨rfl,ac⟩
  | true=>exact Yac (Yac (mo (thn ac fun x aa ai=>Yac (mo (thn ai fun _ af al=>Yat (Yat ⟨rfl,al⟩))))))
def ZeM (J:It)(I:St)(Y:Yaq)(g:TG)(tt:TT)(te:TE)(Q:Hp->Prop)(H:Hp):Prop:=
 ∃ W:Nat->Nat->Hp->Prop,(∃ m,W 0 m H)/\∀ i m H,W i m H->(J.stop i H/\Q H) \/
  (J.go i H/\∀ x H',J.yld i H x H'->g x I H' fun z H2=>leS I z/\tt z H2 fun b H3=>if b=true then te z H3 fun y H4=>∃ ys,H4 Y=some (.lst ys)/\ys.length<Yai/\∃ U,U<m/\W (i+1) U (upd H4 Y (.lst (ys++[y])))
   else ∃ U,U<m/\W (i+1) U H3)
def Zwe (own:List Str)(ix:List Nat)(wi:TI)(g:TG)(tt:TT)(te:TE):TE:=fun σ H Q=>wi σ H fun J H1=>∀ z,H1 z=none->ZeM J (σC own ix σ) z g tt te (fun H2=>Q (.ref z) H2) (upd H1 z (.lst []))
def Zxc (own:List Str)(ix:List Nat)(i:Nat)(wi:TI)(g:TG)(tt:TT)(te:TE):TS:=fun D σ H=>wi σ H fun J H1=>∀ z,H1 z=none->ZeM J (σC own ix σ) z g tt te (fun H2=>D.nx (σ.set i (some (.ref z))) H2) (upd H1 z (.lst []))
abbrev InC (X:Cx)(own fr:List Str)(scope:YcQ)(p:Cx->Prop):Prop:=∀ (C:Yaq) (s:Yaj) (H:Hp) (pins:List (Yaq×Obj)) (fp:List Yaq),p (ZbZ X own fr scope C s H pins fp)
section
variable {X:Cx} {osc:YcQ} {N own fr:List Str} {ix:List Nat} {scope:YcQ} {tg iter elt:YaQ} {ifs:List YaQ} {pos:Pos} {wi:TI} {g:TG} {tt:TT} {te:TE}
def Zdm {pins:List (Yaq×Obj)}{s:Yaj}{σ:St}{H:Hp}{it:Yaq}{fp:List Yaq}{tn:Nat->YbO->Prop}{J:It}{qq:Bool}{E:Yag->Yaj->Prop}{Qf:Yaq->Hp->Prop}(S:CompScope X.env.scope X.N own fr ix scope)(hc:X.calm=X.calm)
  (hg:InC X own fr scope fun Y=>PG Y tg g) (ht:InC X own fr scope fun Y=>PCs Y ifs tt) (he:InC X own fr scope fun Y=>PE Y elt te)
  (I:Inv X pins σ H s) (bf:qq=true->X.calm=true) (T:Turn X.prog X.w X.K tg J fp it tn qq) (st:tn 0 s.heap) (hf:∀ b∈fp,ZfQ X pins H b) (h:∀ U,H U=none->ZeM J (σC own ix σ) U g tt te (Qf U) (upd H U (.lst [])))
  {RR:Yag->Yaq->Result->Yaj->Prop}
  (hR:∀ (U C:Yaq) (aa:Yaj) (ai H':Hp) (a2:List Yaq) (s':Yaj),C=aa.heap.objs.size->aa.os=s.os->Inv X pins σ ai aa->(∀ b∈a2,ZfQ X pins ai b)->Inv (ZbZ X own fr scope C aa ai pins a2) [] (σC own ix σ) H' s'->Qf U H'->(∃ m,s'.heap.Ns C m)->RR (.ref U) C (.ok .next) s') :
  YaF (YaJ X.prog X.w) X.A (newList []) (fun U aa=>YaF (YaJ X.prog X.w) X.A (newFunctionEnv scope X.env.globals (Zau X.env.cells scope.names []) [] X.env.qual none .none (some X.env)) (fun am a4=>
   Ydi (YaJ X.prog X.w) X.A (.compStart (.ListComp elt [⟨tg,iter,ifs,0⟩] scope pos) 0 (.ref it) U { am with scope:=relabel scope X.env }) (RR U am.locals) a4) E aa) E s:=by
 refine Yde (wpAny_newFunctionEnv S.nocell (by intro y hy;simp at hy) (fun af ac ae=>?_) S.kind);dsimp only at ac ae ⊢;have as:H s.heap.objs.size=none:=I.fresh;have I3:Inv X pins σ (upd H s.heap.objs.size (.lst [])) { s with heap:=s.heap.push { cls:=.type "list",dict:=none,data:=.seq ([]:List Yag).toArray },toks:=s.toks }:=
  I.lnew (its:=[]) (t':=s.toks) .nil (Ycy _)
 generalize ar:({ s with heap:=s.heap.push { cls:=.type "list",dict:=none,data:=.seq ([]:List Yag).toArray },toks:=s.toks }:Yaj)=s3 at I3;have eh:s.heap.push { cls:=.type "list",dict:=none,data:=.seq ([]:List Yag).toArray }=s3.heap:=by rw[<-ar]
 have eo:s3.os=s.os:=by rw[<-ar]
 have es:({ s with heap:=af,toks:=s.toks+([]:List (Str×Yag)).length }:Yaj) = { s3 with heap:=af,toks:=s.toks }:=by rw[<-ar];rfl
 rw[eh] at ac ae ⊢;have ek:∀ b o,s.heap.get? b=some o->s3.heap.get? b=some o:=fun b o e=>by rw[<-eh];exact Yad _ e
 have aw:∀ b o,s3.heap.get? b=some o->af.get? b=some o:=fun b o e=>ae.extBut b o (YaK (Yal e)) (Yad _ e)
 have al:∀ b∈fp,∃ o,s.heap.get? b=some o/\∀ v,o.data≠.cell v:=T.obj 0 _ st;have hx:∀ b∈fp,b<s3.heap.objs.size:=fun b hb=>by
  obtain ⟨o,e,_⟩:=al b hb;exact Yal (ek b o e)
 have ap:∀ b∈fp,ZfQ X pins (upd H s.heap.objs.size (.lst [])) b:=fun b hb=>by
  obtain ⟨o,e,_⟩:=al b hb;refine ⟨?_,(hf b hb).2⟩;rw[Zab (YaK (Yal e))];exact (hf b hb).1
 have a3:tn 0 af:=T.keep 0 _ _ st fun b hb o e=>aw b o (ek b o e)
 have J0:=Zhi (tk:=s.toks) I3 S hc ap hx ac aw;generalize hY:ZbZ X own fr scope s3.heap.objs.size s3 (upd H s.heap.objs.size (.lst [])) pins fp=Y at J0;have a6:PG Y tg g:=hY ▸ hg _ _ _ _ _;have a8:PCs Y ifs tt:=hY ▸ ht _ _ _ _ _;have a7:PE Y elt te:=hY ▸ he _ _ _ _ _;have y1:Y.prog=X.prog:=by rw[<-hY];rfl
 have y2:Y.w=X.w:=by rw[<-hY];rfl
 have y3:Y.K=X.K:=by rw[<-hY];rfl
 have y4:qq=true->Y.calm=true:=fun z=>by rw[<-hY];exact bf z
 have y5:Y.A=X.A:=by rw[<-hY];rfl
 have y6:Y.env=compEnvC scope (Zau X.env.cells scope.names []) s3.heap.objs.size X.env:=by rw[<-hY];rfl
 have y7:Y.xe=fun _ _=>False:=by rw[<-hY];rfl
 have ak:Y.env.locals=s3.heap.objs.size:=by rw[y6];rfl
 have ah:∀ {H':Hp},(∀ b∈fp,H' b=none)->∀ b∈fp,ZfQ Y [] H' b:=fun hn b hb=>by
  refine ⟨hn b hb,by rw[ak];exact YaK (hx b hb),?_,?_,?_,?_⟩
  ·rw[<-hY];intro z;rcases Yaz.mp (I.stkSub b z) with q|q
   ·exact (hf b hb).2.1 q
   ·exact (hf b hb).2.2.1 q
  ·rw[<-hY];exact .inl hb
  ·rw[y6];intro x c e;exact (hf b hb).2.2.2.2.1 x c (ZaW scope.names [] (fun y d q=>by simp at q) e)
  ·rw[<-hY];intro p hp;have hp:p∈(X.pn++pins)++[]:=hp;rw[YbK] at hp;exact (hf b hb).2.2.2.2.2 p hp
 obtain ⟨W,⟨m0,w0⟩,ay⟩:=h s.heap.objs.size as;have ao:Ydi (YaJ X.prog X.w) X.A (.compLoop (.ListComp elt [⟨tg,iter,ifs,0⟩] scope pos) 0 (.ref it) (.ref s.heap.objs.size) (compEnvC scope (Zau X.env.cells scope.names []) s3.heap.objs.size X.env)) (RR (.ref s.heap.objs.size) s3.heap.objs.size) { s3 with heap:=af,toks:=s.toks }:=by
  refine Zis (fun n s'=>∃ i H',Inv Y [] (σC own ix σ) H' s'/\tn i s'.heap/\(∀ b∈fp,H' b=none)/\W i n H') ?_ m0 ⟨0,_,J0,a3,fun b hb=>(ap b hb).1,w0⟩;rintro n s4 ⟨i,H4,I4,az,a5,w4⟩;rcases ay i n H4 w4 with ⟨au,qn⟩|⟨go,ax⟩
  ·have e0:=T.done Y y1 y2 y3 y4 i [] s4 _ H4 (fun _ _=>False) I4 (ah a5) az au;rw[y5] at e0;refine thn e0 fun r s5 ⟨hr,I5⟩=>?_
   subst hr;have bc:∃ m,s5.heap.Ns s3.heap.objs.size m:=by
    obtain ⟨m,hm,_⟩:=I5.loc;rw[ak] at hm;exact ⟨m,hm⟩
   exact hR s.heap.objs.size s3.heap.objs.size s3 _ H4 fp s5 rfl eo I3 ap (by rw[hY];exact I5) qn bc
  ·have e0:=T.item Y y1 y2 y3 y4 i [] s4 _ H4 (fun _ _=>False) I4 (ah a5) az go;rw[y5] at e0;refine thn e0 fun r s5 ⟨u,hr,h5⟩=>?_
   subst hr;refine thn h5 fun _ s6 zq=>?_
   obtain ⟨x,H6,I6,r6,bd,aq,a9⟩:=zq;have bb:=I6.pinned (ah a9) (T.obj _ _ aq);have e1:=a6 _ s6 _ H6 x u _ bb r6 (ax x H6 bd);rw[y7,y6,y5,y2,y1] at e1;refine thn e1 fun _ s7 zq=>?_
   obtain ⟨aj,H7,I7,be,q7⟩:=zq;have e2:=a8 _ s7 aj H7 _ I7 q7;rw[y7,y6,y5,y2,y1] at e2;refine thn e2 fun b s8 ⟨H8,I8,q8⟩=>?_
   have ag:∀ {m':Nat} {H9:Hp} {s9:Yaj},Inv Y (([]:List (Yaq×Obj))++ZeB fp s6.heap) aj H9 s9->m'<n->W (i+1) m' H9->∃ m,m<n/\∃ i H',Inv Y [] (σC own ix σ) H' s9/\tn i s9.heap/\(∀ b∈fp,H' b=none)/\W i m H':=fun {m' H9 s9} I9 hm w9=>by
    refine ⟨m',hm,i+1,H9,(I9.less be).unpinned,T.keep _ _ _ aq fun b hb o e=>(I9.pin (b,o) (Yas _ (Yas _ (Zbt hb e)))).1,fun b hb=>?_,w9⟩;obtain ⟨o,e,d⟩:=T.obj _ _ aq b hb;exact (I9.pin (b,o) (Yas _ (Yas _ (Zbt hb e)))).2.1
   cases b with
   | false=>
    rw[if_neg (by simp)] at q8 ⊢;obtain ⟨m',hm,w9⟩:=q8;exact ag I8 hm w9
   | true=>
    rw[if_pos rfl] at q8 ⊢;have e3:=a7 _ s8 aj H8 _ I8 q8;rw[y7,y6,y5,y2,y1] at e3;refine thn e3 fun v s9 zq=>?_
    obtain ⟨y,H9,I9,r9,ys,ha,hz,m',hm,w9⟩:=zq;have e4:=ZeT (X:=Y) _ s9 aj H9 (.ref s.heap.objs.size) [y] (.ref s.heap.objs.size) [v] (fun v' H'=>v'=.non/\H'=upd H9 s.heap.objs.size (.lst (ys++[y]))) I9 rfl (.cons r9 .nil) ⟨_,ys,y,rfl,rfl,ha,hz,rfl,rfl⟩;rw[y7,y5,y2,y1] at e4;refine thn e4 fun v' bh zq=>?_
    obtain ⟨bj,bg,ba,bi,_,eH⟩:=zq;subst eH;exact ag ba hm w9
 rw[es];exact codeAny_compStart_list ao (T.self X.A 0 _ _ _ a3 ao)
def ZjE (hc:X.calm=X.calm)(ho:X.env.scope=osc)(hN:X.N=N)(hk:compOk osc N own fr ix scope=true)(hi:PI X tg iter wi)
  (hg:InC X own fr scope fun Y=>PG Y tg g) (ht:InC X own fr scope fun Y=>PCs Y ifs tt) (he:InC X own fr scope fun Y=>PE Y elt te) (hs:∀ x,Ya1 iter X.env x=pure x:=by intro _;rfl) :
  PE X (.ListComp elt [⟨tg,iter,ifs,0⟩] scope pos) (Zwe own ix wi g tt te):=by
 subst ho hN;have S:=compOk.of hk;intro pins s σ H Q I h;rw[eval_ListComp];have U:closureFor scope X.env=pure (Zau X.env.cells scope.names []):=Zdy fun x hx e=>I.cellAt (S.free x hx e)
 refine wpAny_comprehension_free (use:=none) rfl hs U S.kind S.loc (thn (hi pins s σ H _ I h) fun v s1 h1=>thn h1 fun ag s2 h2=>?_);obtain ⟨it,fp,tn,J,H2,e,I2,⟨qq,af,T⟩,ae,f2,q⟩:=h2;subst e;refine Zdm (Qf:=fun z H'=>Q (.ref z) H') (RR:=fun z C=>compPost (YaJ X.prog X.w) X.A X.xe none (EP X pins σ Q) z C) S hc hg ht he I2 af T ae f2 q ?_;intro z C s3 H3 H' ah s' eC _ I3 ac J' q' ⟨m,hm⟩;subst eC;exact ⟨m,hm,fun h' aa=>⟨.ref z,H',Zid I3 J' ac aa,rfl,q'⟩⟩
def Zf5 (am:X.N.Nodup)(aj:X.N[i]?=some x)(hl:X.env.scope.names.lookup x=some .local)(hc:X.calm=X.calm)(ho:X.env.scope=osc)(hN:X.N=N)(hk:compOk osc N own fr ix scope=true)(hi:PI X tg iter wi)
  (hg:InC X own fr scope fun Y=>PG Y tg g) (ht:InC X own fr scope fun Y=>PCs Y ifs tt) (he:InC X own fr scope fun Y=>PE Y elt te) (hs:∀ x,Ya1 iter X.env x=pure x:=by intro _;rfl)
  (ah:YbI (.ListComp elt [⟨tg,iter,ifs,0⟩] scope pos) (some (.Name x px)) spos.line X.env=pure true:=by rfl) :
  PS X (.Assign [.Name x px] (.ListComp elt [⟨tg,iter,ifs,0⟩] scope pos) spos) (Zxc own ix i wi g tt te):=by
 subst ho hN;have S:=compOk.of hk;intro pins s σ H D I h;rw[exec_Assign_Name_used _ _ _ _ ah];refine Yac (YbP (Yac ?_));show YaF _ X.A (do let _ <- comprehension (.ListComp elt [⟨tg,iter,ifs,0⟩] scope pos) scope X.env _ (newList []) false (YbT iter X.env) (some (YeS (.Name x px) X.env))) _ _ s;have aa:closureFor scope X.env=pure (Zau X.env.cells scope.names []):=Zdy fun x hx e=>I.cellAt (S.free x hx e)
 refine Yac (Ya6 (wpAny_comprehension_free (use:=some (YeS (.Name x px) X.env)) (Q:=fun _ s'=>SP X pins D .next s') rfl hs aa S.kind S.loc (thn (hi pins s σ H _ I h) fun v s1 h1=>thn h1 fun ap s2 h2=>?_)) (fun _ s' hq=>Yat (Yat hq)) fun _ _ e=>e);obtain ⟨it,fp,tn,J,H2,e,I2,⟨qq,ao,T⟩,al,f2,q⟩:=h2;subst e;refine Zdm (Qf:=fun U H'=>D.nx (σ.set i (some (.ref U))) H') (RR:=fun U C=>compPost (YaJ X.prog X.w) X.A X.xe (some (YeS (.Name x px) X.env)) (fun _ s'=>SP X pins D .next s') U C) S hc hg ht he I2 ao T al f2 q ?_;intro U C s3 H3 H' aq s' eC _ I3 ak J' q' ⟨m,hm⟩;subst eC;have I':=ZeU I3 J' ak;have f:=I3.fpOk (H':=H') (Yak _) J'.free;obtain ⟨oC,es,ep,ag,af,r⟩:=id hm;have IP:Inv X (pins++[(s3.heap.objs.size,oC)]) σ H' s':=I'.pins_of fun p hp=>by
  rcases YbX.mp hp with z|z
  ·exact I'.pin p (Yas _ z)
  ·have e:p=(s3.heap.objs.size,oC):=by simpa using z
   subst e;exact ⟨ag,f.1,f.2.1,f.2.2.1,fun v z=>by have z:oC.data=.cell v:=z;rw[af] at z;cases z⟩
 show YaF _ X.A (YeS (.Name x px) X.env (.ref U)) _ _ _;refine wpAny_assign_Name (Zce IP am aj (.inl hl) (v:=.ref U) rfl (fun ae ac=>?_) (.inr hl));have kC:=(ac.pin (s3.heap.objs.size,oC) (Yas _ (Yas _ (by simp)))).1;refine ⟨m,⟨oC,es,ep,kC,af,r⟩,fun h' ai=>?_⟩;have I5:Inv X pins (σ.set i (some (.ref U))) H' ae:=ac.unpinned;exact ⟨_,H',I5.turned (t':=ae.toks) (it:=s3.heap.objs.size) (fun b o hb e=>ai.extBut b o hb e) f.1 f.2.1 f.2.2.2.1 f.2.2.2.2.1 f.2.2.2.2.2,q'⟩
end
def Zg1 (z:0<=i):atI l i=l[i.toNat]?:=by
 unfold atI ixN;rw[if_pos z];by_cases h:i<l.length
 ·rw[if_pos h];rfl
 ·rw[if_neg h];have:l.length<=i.toNat:=by omega
  simp[YbL this]
def Zi4 (h:H a=some (.lst xs)):ZaG H a=some xs:=by unfold ZaG;rw[h]
def ZcS (h:H a=some (.tup xs)):ZaG H a=some xs:=by unfold ZaG;rw[h]
noncomputable def ZfO (f:V->V->Option Bool):List V->List V->Option Bool
 | x::xs,y::ys=>match f x y,ZfO f xs ys with
  | some a,some b=>some (a && b)
  | _,_=>none
 | _,_=>some true
noncomputable def eAt (f:V->V->Option Bool)(xs ys:List V)(j:Nat):Bool:=match xs[j]?,ys[j]? with
 | some x,some y=>(f x y).getD false
 | _,_=>true
theorem Zct:∀ {xs ys:List V} {b:Bool},ZfO f xs ys=some b ->
  (∀ (j:Nat) x y,xs[j]?=some x->ys[j]?=some y->f x y=some (eAt f xs ys j))/\b=(YbM (min xs.length ys.length)).all (eAt f xs ys)
 | [],ys,b,h=>by
  cases h;exact ⟨fun j x y e _=>by simp at e,by simp⟩
 | x::xs,[],b,h=>by
  cases h;exact ⟨fun j x y _ e=>by simp at e,by simp⟩
 | x::xs,y::ys,b,h=>by
  unfold ZfO at h;cases z:f x y with
  | none=>rw[z] at h;cases h
  | some a=>
   cases J:ZfO f xs ys with
   | none=>rw[z,J] at h;cases h
   | some c=>
    rw[z,J] at h;cases h;obtain ⟨h1,h2⟩:=Zct J;refine ⟨fun j U y' ex I=>?_,?_⟩
    ·cases j with
     | zero=>
      simp at ex I;subst ex I;simp[eAt,z]
     | succ j=>
      have:=h1 j U y' (by simpa using ex) (by simpa using I);rw[this];simp[eAt]
    ·have em:min (x::xs).length (y::ys).length=min xs.length ys.length+1:=by simp
     rw[em,Yeh,Ybf,YdO,h2];have e0:eAt f (x::xs) (y::ys) 0=a:=by simp[eAt,z]
     have Y:(eAt f (x::xs) (y::ys) ∘ Nat.succ)=eAt f xs ys:=by
      funext j;simp[eAt]
     rw[e0,Y]
def eqF (H:Hp):Nat->V->V->Option Bool
 | 0,x,y=>if (Zan x && Zan y)=true then some (eqV x y) else none
 | n+1,x,y=>if (Zan x && Zan y)=true then some (eqV x y) else match x,y with
  | .ref a,.ref b=>(match Zam H a,Zam H b with
   | some xs,some ys=>if xs.length=ys.length then ZfO (eqF H n) xs ys else some false
   | none,none=>(match Zbi H a,Zbi H b with
    | some xs,some ys=>(ZfO (eqF H n) xs ys).map (· && decide (xs.length=ys.length))
    | _,_=>none)
   | some _,none=>if (Zbi H b).isSome=true then some false else none
   | none,some _=>if (Zbi H a).isSome=true then some false else none)
  | .ref a,y=>if ((ZaG H a).isSome && Zan y)=true then some false else none
  | x,.ref b=>if ((ZaG H b).isSome && Zan x)=true then some false else none
  | _,_=>none
def ZgN (h:Zan x=true):eqV x x=true:=by
 cases x<;>first|rfl|(simp[eqV];done)|(simp[Zan] at h)
theorem ZcC (J:∀ x b,f x x=some b->b=true):∀ {xs:List V} {b:Bool},ZfO f xs xs=some b->b=true
 | [],b,h=>by cases h;rfl
 | x::xs,b,h=>by
  unfold ZfO at h;cases z:f x x with
  | none=>rw[z] at h;cases h
  | some a=>
   cases I:ZfO f xs xs with
   | none=>rw[z,I] at h;cases h
   | some c=>
    rw[z,I] at h;cases h;rw[J x a z,ZcC J I];rfl
theorem Zeh:∀ {n:Nat} {x:V} {b:Bool},eqF H n x x=some b->b=true
 | 0,x,b,h=>by
  unfold eqF at h;split at h
  ·rename_i z;cases h;rw[Ydz] at z;exact ZgN z
  ·cases h
 | n+1,x,b,h=>by
  unfold eqF at h;split at h
  ·rename_i z;cases h;rw[Ydz] at z;exact ZgN z
  ·rename_i z;cases x with
   | ref a=>
    simp only at h;cases J:Zam H a with
    | some xs=>
     rw[J] at h;simp only[if_true] at h;exact ZcC (fun x b h=>Zeh h) h
    | none=>
     rw[J] at h;simp only at h;cases U:Zbi H a with
     | some xs=>
      rw[U] at h;simp only[decide_true,Bool.and_true] at h;cases I:ZfO (eqF H n) xs xs with
      | none=>rw[I] at h;cases h
      | some c=>
       rw[I] at h;cases h;exact ZcC (fun x b h=>Zeh h) I
     | none=>
      rw[U] at h;cases h
   | _=>first | (simp[Zan] at z;done) | (simp only at h;cases h)
def ZqU (I:RelV y u)(z:RelV x v)(J:Zan y=true)(fx:Zan x=true):SeqAt.RcAt A s u v (eqV y x):=by
 cases y with
 | non=>
  cases I;cases x with
  | non=>cases z;exact SeqAt.RcAt.none_none
  | bl b=>cases z;exact SeqAt.RcAt.none_bool b
  | int b=>obtain ⟨t,rfl⟩:=z;exact SeqAt.RcAt.none_int b t
  | str b=>obtain ⟨t,rfl⟩:=z;exact SeqAt.RcAt.none_str b t
  | _=>exact absurd (show false=true from fx) Yav
 | bl a=>
  cases I;cases x with
  | non=>cases z;exact SeqAt.RcAt.bool_none a
  | bl b=>cases z;exact SeqAt.RcAt.bool_bool a b
  | int b=>obtain ⟨t,rfl⟩:=z;exact SeqAt.RcAt.bool_int a b t
  | str b=>obtain ⟨t,rfl⟩:=z;exact SeqAt.RcAt.bool_str a b t
  | _=>exact absurd (show false=true from fx) Yav
 | int a=>
  obtain ⟨t',rfl⟩:=I;cases x with
  | non=>cases z;exact SeqAt.RcAt.int_none a t'
  | bl b=>cases z;exact SeqAt.RcAt.int_bool a t' b
  | int b=>obtain ⟨t,rfl⟩:=z;exact SeqAt.RcAt.int_int a t' b t
  | str b=>obtain ⟨t,rfl⟩:=z;exact SeqAt.RcAt.int_str a t' b t
  | _=>exact absurd (show false=true from fx) Yav
 | str a=>
  obtain ⟨t',rfl⟩:=I;cases x with
  | non=>cases z;exact SeqAt.RcAt.str_none a t'
  | bl b=>cases z;exact SeqAt.RcAt.str_bool a t' b
  | int b=>obtain ⟨t,rfl⟩:=z;exact SeqAt.RcAt.str_int a t' b t
  | str b=>obtain ⟨t,rfl⟩:=z;exact SeqAt.RcAt.str_str a t' b t
  | _=>exact absurd (show false=true from fx) Yav
 | _=>exact absurd (show false=true from J) Yav
def Zsq (I:RelV y u)(z:RelV x v)(J:Zan y=true)(fx:Zan x=true):Yfg A s u v (!eqV y x):=by
 cases y with
 | non=>
  cases I;cases x with
  | non=>cases z;exact Yfg.none_none
  | bl b=>cases z;exact Yfg.none_bool b
  | int b=>obtain ⟨t,rfl⟩:=z;exact Yfg.none_int b t
  | str b=>obtain ⟨t,rfl⟩:=z;exact Yfg.none_str b t
  | _=>exact absurd (show false=true from fx) Yav
 | bl a=>
  cases I;cases x with
  | non=>cases z;exact Yfg.bool_none a
  | bl b=>cases z;exact Yfg.bool_bool a b
  | int b=>obtain ⟨t,rfl⟩:=z;exact Yfg.bool_int a b t
  | str b=>obtain ⟨t,rfl⟩:=z;exact Yfg.bool_str a b t
  | _=>exact absurd (show false=true from fx) Yav
 | int a=>
  obtain ⟨t',rfl⟩:=I;cases x with
  | non=>cases z;exact Yfg.int_none a t'
  | bl b=>cases z;exact Yfg.int_bool a t' b
  | int b=>obtain ⟨t,rfl⟩:=z;exact Yfg.int_int a t' b t
  | str b=>obtain ⟨t,rfl⟩:=z;exact Yfg.int_str a t' b t
  | _=>exact absurd (show false=true from fx) Yav
 | str a=>
  obtain ⟨t',rfl⟩:=I;cases x with
  | non=>cases z;exact Yfg.str_none a t'
  | bl b=>cases z;exact Yfg.str_bool a t' b
  | int b=>obtain ⟨t,rfl⟩:=z;exact Yfg.str_int a t' b t
  | str b=>obtain ⟨t,rfl⟩:=z;exact Yfg.str_str a t' b t
  | _=>exact absurd (show false=true from fx) Yav
 | _=>exact absurd (show false=true from J) Yav
structure EqOk (A:Ybr)(s:Yaj)(u v:Yag)(b:Bool):Prop where
 rc:SeqAt.RcAt A s u v b
 rn:Yfg A s u v (!b)
 eq:Yey A s u v b
def EqOk.flat (I:RelV y u)(J:RelV x v)(z:Zan y=true)(fx:Zan x=true):EqOk A s u v (eqV y x):=⟨ZqU I J z fx,Zsq I J z fx,Zm1 I J z fx⟩
def EqOk.list_flat (z:s.heap.IsList l items)(I:A.units<YeK)(J:RelV x v)(fx:Zan x=true):EqOk A s (.ref l) v false:=by
 cases x with
 | non=>cases J;exact ⟨SeqAt.RcAt.list_none z I,Yfg.list_none z I,Yey.list_none z I⟩
 | bl b=>cases J;exact ⟨SeqAt.RcAt.list_bool b z I,Yfg.list_bool b z I,Yey.list_bool b z I⟩
 | int b=>obtain ⟨t,rfl⟩:=J;exact ⟨SeqAt.RcAt.list_int b t z I,Yfg.list_int b t z I,Yey.list_int b t z I⟩
 | str b=>obtain ⟨t,rfl⟩:=J;exact ⟨SeqAt.RcAt.list_str b t z I,Yfg.list_str b t z I,Yey.list_str b t z I⟩
 | _=>exact absurd (show false=true from fx) Yav
def EqOk.flat_list (z:s.heap.IsList l items)(I:A.units<YeK)(J:RelV x v)(fx:Zan x=true):EqOk A s v (.ref l) false:=by
 cases x with
 | non=>cases J;exact ⟨SeqAt.RcAt.none_list z I,Yfg.none_list z I,Yey.none_list z I⟩
 | bl b=>cases J;exact ⟨SeqAt.RcAt.bool_list b z I,Yfg.bool_list b z I,Yey.bool_list b z I⟩
 | int b=>obtain ⟨t,rfl⟩:=J;exact ⟨SeqAt.RcAt.int_list b t z I,Yfg.int_list b t z I,Yey.int_list b t z I⟩
 | str b=>obtain ⟨t,rfl⟩:=J;exact ⟨SeqAt.RcAt.str_list b t z I,Yfg.str_list b t z I,Yey.str_list b t z I⟩
 | _=>exact absurd (show false=true from fx) Yav
def EqOk.tuple_flat (z:s.heap.IsTuple l items)(I:A.units<YeK)(J:RelV x v)(fx:Zan x=true):EqOk A s (.ref l) v false:=by
 cases x with
 | non=>cases J;exact ⟨SeqAt.RcAt.tuple_none z I,Yfg.tuple_none z I,Yey.tuple_none z I⟩
 | bl b=>cases J;exact ⟨SeqAt.RcAt.tuple_bool b z I,Yfg.tuple_bool b z I,Yey.tuple_bool b z I⟩
 | int b=>obtain ⟨t,rfl⟩:=J;exact ⟨SeqAt.RcAt.tuple_int b t z I,Yfg.tuple_int b t z I,Yey.tuple_int b t z I⟩
 | str b=>obtain ⟨t,rfl⟩:=J;exact ⟨SeqAt.RcAt.tuple_str b t z I,Yfg.tuple_str b t z I,Yey.tuple_str b t z I⟩
 | _=>exact absurd (show false=true from fx) Yav
def EqOk.flat_tuple (z:s.heap.IsTuple l items)(I:A.units<YeK)(J:RelV x v)(fx:Zan x=true):EqOk A s v (.ref l) false:=by
 cases x with
 | non=>cases J;exact ⟨SeqAt.RcAt.none_tuple z I,Yfg.none_tuple z I,Yey.none_tuple z I⟩
 | bl b=>cases J;exact ⟨SeqAt.RcAt.bool_tuple b z I,Yfg.bool_tuple b z I,Yey.bool_tuple b z I⟩
 | int b=>obtain ⟨t,rfl⟩:=J;exact ⟨SeqAt.RcAt.int_tuple b t z I,Yfg.int_tuple b t z I,Yey.int_tuple b t z I⟩
 | str b=>obtain ⟨t,rfl⟩:=J;exact ⟨SeqAt.RcAt.str_tuple b t z I,Yfg.str_tuple b t z I,Yey.str_tuple b t z I⟩
 | _=>exact absurd (show false=true from fx) Yav
def Yef.isTuple (x:Yef h a items):h.IsTuple a items:=let ⟨o,ho,I,n,z⟩:=x;⟨o,ho,I,n,z⟩
section
variable {X:Cx} {pins:List (Yaq×Obj)} {σ:St} {H:Hp} {s:Yaj}
theorem Vals.at (r:Vals xs us)(h:j<us.toArray.size):∃ x,xs[j]?=some x/\RelV x us.toArray[j]:=by
 have J:=r.length;have I:j<us.length:=by simpa using h
 have z:j<xs.length:=by omega
 obtain ⟨u,e,q⟩:=r.get (i:=j) (x:=xs[j]) (by simp[z]);refine ⟨xs[j],by simp[z],?_⟩;have:us.toArray[j]=u:=by
  rw[List.getElem_toArray];rw[List.getElem?_eq_getElem I] at e;exact YaT e
 rw[this];exact q
theorem Zj5 (I:Inv X pins σ H s):∀ (n:Nat) (A:Ybr) {x y:V} {u v:Yag} {b:Bool},A.units+n<YeK->eqF H n x y=some b->RelV x u->RelV y v->EqOk A s u v b
 | 0,A,x,y,u,v,b,hu,h,rx,ry=>by
  unfold eqF at h;split at h
  ·rename_i hf;cases h;rw[Yaa] at hf;exact .flat rx ry hf.1 hf.2
  ·cases h
 | n+1,A,x,y,u,v,b,hu,h,rx,ry=>by
  have ih:=fun {x y u v b}=>Zj5 I n A.in1 (x:=x) (y:=y) (u:=u) (v:=v) (b:=b) (by show A.units+1+n<YeK;omega)
  have J:A.units<YeK:=by omega
  have h0:=h;unfold eqF at h;split at h
  ·rename_i hf;cases h;rw[Yaa] at hf;exact .flat rx ry hf.1 hf.2
  ·split at h
   ·rename_i p q _;cases rx;cases ry;have fin:SeqAt.RcAt A s (.ref p) (.ref q) b->Yfg A s (.ref p) (.ref q) (!b)->EqOk A s (.ref p) (.ref q) b:=fun h1 h2=>by
     refine ⟨h1,h2,?_⟩;by_cases e:p=q
     ·subst e;rw[Zeh h0];exact Yey.same _
     ·exact Yey.of_refs e h1
    split at h
    ·rename_i xs ys Y e2;obtain ⟨its,r1,U,z1⟩:=I.list (Zad (K:=X.K) Y);obtain ⟨z,r2,p2,z2⟩:=I.list (Zad (K:=X.K) e2);have l1:=r1.length;have l2:=r2.length;split at h
     ·rename_i el;obtain ⟨s1,s2⟩:=Zct h;have hsz:its.toArray.size=z.toArray.size:=by simp;omega
      have hm:min xs.length ys.length=its.toArray.size:=by simp;omega
      have he:∀ j (h1:j<its.toArray.size) (h2:j<z.toArray.size),Yey A.in1 s its.toArray[j] z.toArray[j] (eAt (eqF H n) xs ys j):=fun j h1 h2=>by
       obtain ⟨x',ex,qx⟩:=r1.at h1;obtain ⟨y',ey,qy⟩:=r2.at h2;exact (ih (s1 j x' y' ex ey) qx qy).eq
      rw[hm] at s2;subst s2;exact fin (SeqAt.RcAt.lists U.isList p2.isList hsz J he) (Yfg.lists U.isList p2.isList hsz J he)
     ·rename_i el;cases h;have hsz:(its.toArray.size != z.toArray.size)=true:=by
       simp only[YaB,bne_iff_ne,ne_eq];omega
      exact fin (SeqAt.RcAt.lists_lengths U.isList p2.isList hsz J) (Yfg.lists_lengths U.isList p2.isList hsz J)
    ·rename_i Y e2;split at h
     ·rename_i xs ys e3 e4;obtain ⟨its,r1,U,z1⟩:=I.tuple (Zav (K:=X.K) e3);obtain ⟨z,r2,p2,z2⟩:=I.tuple (Zav (K:=X.K) e4);have l1:=r1.length;have l2:=r2.length;cases ea:ZfO (eqF H n) xs ys with
      | none=>rw[ea] at h;cases h
      | some c=>
       rw[ea] at h;cases h;obtain ⟨s1,s2⟩:=Zct ea;have hm:min xs.length ys.length=min its.toArray.size z.toArray.size:=by simp;omega
       have hd:decide (xs.length=ys.length)=(its.toArray.size == z.toArray.size):=by
        rw[YbZ];simp;omega
       have he:∀ j (h1:j<its.toArray.size) (h2:j<z.toArray.size),Yey A.in1 s its.toArray[j] z.toArray[j] (eAt (eqF H n) xs ys j):=fun j h1 h2=>by
        obtain ⟨x',ex,qx⟩:=r1.at h1;obtain ⟨y',ey,qy⟩:=r2.at h2;exact (ih (s1 j x' y' ex ey) qx qy).eq
       rw[hm] at s2;rw[s2,hd] at fin ⊢;exact fin (SeqAt.RcAt.tuples (Yef.isTuple U) (Yef.isTuple p2) J he) (Yfg.tuples (Yef.isTuple U) (Yef.isTuple p2) J he)
     ·cases h
    ·rename_i xs Y e2;split at h
     ·rename_i e3;cases h;obtain ⟨ys,e4⟩:=Ybh.mp e3;obtain ⟨its,r1,U,z1⟩:=I.list (Zad (K:=X.K) Y);obtain ⟨z,r2,p2,z2⟩:=I.tuple (Zav (K:=X.K) e4);exact fin (SeqAt.RcAt.list_tuple U.isList (Yef.isTuple p2) J) (Yfg.list_tuple U.isList (Yef.isTuple p2) J)
     ·cases h
    ·rename_i ys Y e2;split at h
     ·rename_i e3;cases h;obtain ⟨xs,e4⟩:=Ybh.mp e3;obtain ⟨its,r1,U,z1⟩:=I.tuple (Zav (K:=X.K) e4);obtain ⟨z,r2,p2,z2⟩:=I.list (Zad (K:=X.K) e2);exact fin (SeqAt.RcAt.tuple_list (Yef.isTuple U) p2.isList J) (Yfg.tuple_list (Yef.isTuple U) p2.isList J)
     ·cases h
   ·rename_i p _ _;cases rx;split at h
    ·rename_i Y;cases h;rw[Yaa] at Y;obtain ⟨xs,e2⟩:=Ybh.mp Y.1;rcases Zbm e2 with e3|e3
     ·obtain ⟨its,r1,U,z1⟩:=I.list (Zad (K:=X.K) e3);exact .list_flat U.isList J ry Y.2
     ·obtain ⟨its,r1,U,z1⟩:=I.tuple (Zav (K:=X.K) e3);exact .tuple_flat (Yef.isTuple U) J ry Y.2
    ·cases h
   ·rename_i p _ _;cases ry;split at h
    ·rename_i Y;cases h;rw[Yaa] at Y;obtain ⟨xs,e2⟩:=Ybh.mp Y.1;rcases Zbm e2 with e3|e3
     ·obtain ⟨its,r1,U,z1⟩:=I.list (Zad (K:=X.K) e3);exact .flat_list U.isList J rx Y.2
     ·obtain ⟨its,r1,U,z1⟩:=I.tuple (Zav (K:=X.K) e3);exact .flat_tuple (Yef.isTuple U) J rx Y.2
    ·cases h
   ·cases h
def Zvf:R2:=fun x y H Q=>ZaZ (eqF H 4 x y) fun b=>Q (.bl b) H
def Zwy:R2:=fun x y H Q=>ZaZ (eqF H 4 x y) fun b=>Q (.bl (!b)) H
def Zrf (U:Room k X.A):OpR X (YaV .Eq) Zvf:=by
 intro pins s σ H x y v u Q I J z h;obtain ⟨b,e,q⟩:=Zak h;refine PySem.W.cmp_ofEq ((Zj5 I 4 X.A ?_ e J z).rc _ _ _ _ ⟨.bl b,H,I,rfl,q⟩);have:=U.un;omega
def ZrI (U:Room k X.A):OpR X (YaV .NotEq) Zwy:=by
 intro pins s σ H x y v u Q I J z h;obtain ⟨b,e,q⟩:=Zak h;refine PySem.W.cmp_ofNotEq ((Zj5 I 4 X.A ?_ e J z).rn _ _ _ _ ⟨.bl (!b),H,I,rfl,q⟩);have:=U.un;omega
end
noncomputable def ZbY:List V->Option (List Str)
 | []=>some []
 | .str x::r=>(ZbY r).map (x :: ·)
 | _::_=>none
noncomputable def Zb4:List V->Option (List Int)
 | []=>some []
 | .int x::r=>(Zb4 r).map (x :: ·)
 | _::_=>none
noncomputable def Za8:List V->Option (List Bool)
 | []=>some []
 | .bl x::r=>(Za8 r).map (x :: ·)
 | _::_=>none
theorem Ze2:∀ {xs:List V} {z:List Str},ZbY xs=some z->xs=z.map V.str
 | [],z,h=>by cases h;rfl
 | x::r,z,h=>by
  cases x with
  | str y=>
   unfold ZbY at h;cases e:ZbY r with
   | none=>rw[e] at h;cases h
   | some t=>rw[e] at h;cases h;rw[Ze2 e];rfl
  | _=>cases h
theorem ZcB:∀ {xs:List V} {z:List Int},Zb4 xs=some z->xs=z.map V.int
 | [],z,h=>by cases h;rfl
 | x::r,z,h=>by
  cases x with
  | int y=>
   unfold Zb4 at h;cases e:Zb4 r with
   | none=>rw[e] at h;cases h
   | some t=>rw[e] at h;cases h;rw[ZcB e];rfl
  | _=>cases h
theorem ZbC:∀ {xs:List V} {z:List Bool},Za8 xs=some z->xs=z.map V.bl
 | [],z,h=>by cases h;rfl
 | x::r,z,h=>by
  cases x with
  | bl y=>
   unfold Za8 at h;cases e:Za8 r with
   | none=>rw[e] at h;cases h
   | some t=>rw[e] at h;cases h;rw[ZbC e];rfl
  | _=>cases h
theorem ZeQ:∀ {z:List Str} {us:List Yag},Vals (z.map V.str) us->∃ l:List (Str×Tok),us=strValues l/\l.map (·.1)=z
 | [],us,h=>by cases h;exact ⟨[],rfl,rfl⟩
 | t::z,us,h=>by
  cases h with
  | cons r h=>
   obtain ⟨tk,rfl⟩:=r;obtain ⟨l,rfl,rfl⟩:=ZeQ h;exact ⟨(t,tk)::l,rfl,rfl⟩
section
variable {X:Cx} {o e:YaQ} {to te:TE} {t:TA} {apos cpos:Pos}
def ZoT:V->List V->Hp->VK->Prop:=fun x vs H Q=>match x,vs with
 | .str z,[.ref p]=>ZaZ (Zam H p) fun xs=>ZaZ (ZbY xs) fun I=>JoinOk z I=true/\Q (.str (YeY z I)) H
 | _,_=>False
def ZpQ:MtM X "str.join" ZoT:=by
 intro pins s σ H x vs v us Q I rx J h;unfold ZoT at h;split at h
 ·obtain ⟨xs,Y,h⟩:=Zak h;obtain ⟨ts,e2,U,q⟩:=Zak h;obtain ⟨tk,rfl⟩:=rx;obtain ⟨u,rfl,ru⟩:=J.one;cases ru;obtain ⟨its,r,pl,z⟩:=I.list (Zad (K:=X.K) Y);rw[Ze2 e2] at r;obtain ⟨l,rfl,el⟩:=ZeQ r;exact SC.join pl.isList el U fun t' k=>⟨.str _,H,I.tok k,⟨t',rfl⟩,q⟩
 ·exact h.elim
def Zvu:List V->Hp->VK->Prop:=fun vs H Q=>match vs with
 | [.ref p]=>ZaZ (Zam H p) fun xs=>ZaZ (Zb4 xs) fun ns=>Q (.int ns.sum) H
 | _=>False
def Zl1 (hc:X.calm=true):CallR X (.builtin "sum") Zvu:=by
 intro pins s σ H xs us Q I rv h;unfold Zvu at h;split at h
 ·obtain ⟨xs,e1,h⟩:=Zak h;obtain ⟨ns,e2,q⟩:=Zak h;obtain ⟨u,rfl,ru⟩:=rv.one;cases ru;obtain ⟨its,r,pl,z⟩:=I.list (Zad (K:=X.K) e1);rw[ZcB e2] at r;have hi:=ZbW r;obtain ⟨ps,Y⟩:=hi.allInts.items;have J:numsOf its.toArray.toList=ns:=by rw[show its.toArray.toList=its from rfl,hi.numsOf]
  have U:=pl.isList;rw[Y] at U J;rw[nums_intItems] at J;refine sum_intListG (I.ok.hd hc) U fun h' tk t' hk=>?_
  rw[preSum_eq,Ydc (by simp),J];exact ⟨.int ns.sum,H,I.kept (t':=tk) hk,⟨_,rfl⟩,q⟩
 ·exact h.elim
def slS:V->Option Int->Option Int->Hp->VK->Prop:=fun x lo hi H Q=>match x with
 | .str z=>z.length<=Yai/\Q (.str (Yb0 z lo hi)) H
 | _=>False
def Zsx:SlR X slS:=by
 intro pins s σ H x v vl vu lo hi sl Q I rx U pl pu h;unfold slS at h;split at h
 ·rename_i z;obtain ⟨hz,q⟩:=h;obtain ⟨tk,rfl⟩:=rx;refine ⟨"str",_,F.slot_str_getitem.lookup,typeIs_str _ _ _,?_⟩;have fin:∀ (l u:Option (Int×Tok)),vl=partValue l->vu=partValue u->lo=l.map (·.1)->hi=u.map (·.1)->YaF (YaJ X.prog X.w) X.A (Ye8 (.str z tk) (.ref sl)) (EP X pins σ Q) X.xe s:=fun l u Y e2 e3 e4=>by
   subst Y e2 e3 e4;obtain ⟨o,ho,hc,J⟩:=U;exact wpAny_getItem_str_slice (l:=l) (u:=u) (st:=none) ⟨o,ho,hc,J⟩ rfl
    (post_val_or_str ⟨YbE (Txt.slice_le z _ _) hz,fun t' k=>⟨.str _,H,I.tok k,⟨t',rfl⟩,q⟩⟩)
  cases pl with
  | none=>cases pu with
   | none=>exact fin none none rfl rfl rfl rfl
   | int j t=>exact fin none (some (j,t)) rfl rfl rfl rfl
  | int i t'=>cases pu with
   | none=>exact fin (some (i,t')) none rfl rfl rfl rfl
   | int j t=>exact fin (some (i,t')) (some (j,t)) rfl rfl rfl rfl
 ·exact h.elim
end
def ZjG (h:(Zan x && Zan y)=true):eqF H n x y=some (eqV x y):=by
 cases n<;>(unfold eqF;rw[if_pos h])
section
variable {X:Cx} {a:YaQ} {ta:TE} {pos:Pos}
def ZiJ (n:Nat)(t:TGs):TG:=fun v σ H Q=>match v with
 | .ref a=>ZaZ (Zbi H a) fun xs=>xs.length=n/\t xs σ H Q
 | _=>False
def Znp (hc:X.calm=X.calm)(h:PGs X es t)
  (Y:(Ybt es X.env).length=n:=by rfl) (J:(Ybt es X.env).findIdx? (·.1)=none:=by rfl):PG X (.Tuple es k pos) (ZiJ n t):=by
 intro pins s σ H v u Q I r z;refine Zsp hc h Y J pins s σ H v u Q I r ?_;unfold ZiJ at z;split at z
 ·obtain ⟨xs,e,U,q⟩:=Zak z;exact ⟨_,xs,rfl,Zav e,U,q⟩
 ·exact z.elim
end
def ZcJ:Zam (upd H p (.lst xs)) p=some xs:=Zaz Zae
def ZjT (h1:Zam H a=some xs)(h2:Zam H b=some ys):eqF H (n+1) (.ref a) (.ref b)=if xs.length=ys.length then ZfO (eqF H n) xs ys else some false:=by
 unfold eqF;rw[if_neg (by simp[Zan])];simp only[h1,h2]
def ZhD (h1:Zbi H a=some xs)(h2:Zbi H b=some ys):eqF H (n+1) (.ref a) (.ref b)=(ZfO (eqF H n) xs ys).map (· && decide (xs.length=ys.length)):=by
 have z:Zam H a=none:=by unfold Zam;rw[ZbF h1]
 have I:Zam H b=none:=by unfold Zam;rw[ZbF h2]
 unfold eqF;rw[if_neg (by simp[Zan])];simp only[h1,h2,z,I]
section
variable {X:Cx} {o e:YaQ} {to:TE} {t:TA} {apos cpos:Pos}
def ZdO:V->List V->Hp->VK->Prop:=fun x vs H Q=>match x,vs with
 | .ref l,[y]=>(match H l with
  | some (.lst xs)=>xs.length<Yai/\Q .non (upd H l (.lst (xs++[y])))
  | _=>False)
 | _,_=>False
def Zhh:MtM X "list.append" ZdO:=by
 intro pins s σ H x vs v us Q I J z h;unfold ZdO at h;split at h
 ·split at h
  ·rename_i xs e;exact ZeT pins s σ H _ _ v us Q I J z ⟨_,xs,_,rfl,rfl,e,h.1,h.2⟩
  ·exact h.elim
 ·exact h.elim
def Zn4:List V->Hp->VK->Prop:=fun vs H Q=>match vs with
 | [.ref p]=>ZaZ (ZaG H p) fun ys=>∀ l,H l=none->Q (.ref l) (upd H l (.lst ys))
 | _=>False
def ZhF:CallR X (.type "list") Zn4:=by
 refine (Ze5 (X:=X)).imp fun xs H Q h=>?_
 unfold Zn4 at h;split at h
 ·obtain ⟨ys,e,h⟩:=Zak h;rcases Zbm e with e|e
  ·exact ⟨_,ys,rfl,.inl (Zad e),h⟩
  ·exact ⟨_,ys,rfl,.inr (Zav e),h⟩
 ·exact h.elim
end
end L2
namespace M
open PySem PySem.Spec PyProof.Rows L2
inductive W where
 | non | bl (b:Bool) | int (i:Int) | str (x:Str) | ty (n:String) | cls (c:Str) | ref (n:Nat)
 | tup (ws:List W) | tl (ws:List W) | td (ks:List Key) (ws:List W) | ti (c:Str) (fs:List Str) (ws:List W) | exc (c:Str) (fs:List Str) (ws:List W)
inductive O where
 | lst (ws:List W) | dic (kvs:List (Key×W)) | ins (c:Str) (fs:List (Str×W))
 | fdic (kvs:List (Key×W))
noncomputable abbrev Mem:=List O
noncomputable abbrev Sg:=List (Option W)
structure CTb where
 t:Str->Option Yaq
 x:Str->Option Yaq
 o:Str->Option Yaq
noncomputable def CTb.any (T:CTb)(c:Str):Option Yaq:=match T.t c with
 | some C=>some C
 | none=>(match T.x c with
  | some C=>some C
  | none=>T.o c)
instance:CoeFun CTb fun _=>Str->Option Yaq:=⟨CTb.t⟩
def CTb.any_t {T:CTb}{c:Str}{C:Yaq}(h:T c=some C):T.any c=some C:=by unfold CTb.any;rw[show T.t c=some C from h]
noncomputable abbrev St:=L2.St
def Za1 (e C:Yaq)(d:Option Yaq)(h:YbO):Prop:=∃ o vs,h.get? e=some o/\o.cls=.ref C/\o.data=.fields vs/\o.dict=d
def Hx (H:Hp)(e C:Yaq)(d:Option Yaq):Prop:=∃ o,ZoR o/\H e=some (.frz o (.ext (Za1 e C d)))
section
variable (T:CTb) (φ:List Yaq) (H:Hp)
mutual
def RW:W->V->Prop
 | .non,v=>v=.non
 | .bl b,v=>v=.bl b
 | .int i,v=>v=.int i
 | .str x,v=>v=.str x
 | .ty n,v=>v=.ty n
 | .cls c,v=>∃ C,T.any c=some C/\v=.ref C
 | .ref n,v=>∃ a,φ[n]?=some a/\v=.ref a
 | .tup ws,v=>∃ p vs,v=.ref p/\p ∉ φ/\H p=some (.tup vs)/\RWs ws vs
 | .tl ws,v=>∃ p vs,v=.ref p/\p ∉ φ/\Zam H p=some vs/\RWs ws vs
 | .td ks ws,v=>∃ p vs,v=.ref p/\p ∉ φ/\H p=some (.dK (ks.zip vs))/\ks.length=ws.length/\RWs ws vs
 | .ti c fs ws,v=>∃ p C dx vs,v=.ref p/\p ∉ φ/\T c=some C/\H p=some (.ins C dx (fs.zip vs))/\fs.length=ws.length/\RWs ws vs
 | .exc c fs ws,v=>∃ e C d vs,v=.ref e/\e ∉ φ/\T.x c=some C/\Hx H e C d/\fs.length=ws.length/\(match d with
  | some da=>da ∉ φ/\H da=some (.xd (fs.zip vs))
  | none=>fs=[])/\RWs ws vs
def RWs:List W->List V->Prop
 | [],vs=>vs=[]
 | w::ws,vs=>∃ v r,vs=v::r/\RW w v/\RWs ws r
end
def RP {κ:Type}:List (κ×W)->List (κ×V)->Prop:=YcX fun p q=>p.1=q.1/\RW T φ H p.2 q.2
def RO:O->HO->Prop
 | .lst ws,o=>∃ vs,o=.lst vs/\RWs T φ H ws vs
 | .dic kvs,o=>∃ kv,o=.dK kv/\RP T φ H kvs kv
 | .ins c fs,o=>∃ C dx z,o=.ins C dx z/\T c=some C/\RP T φ H fs z
 | .fdic kvs,o=>∃ ob kv,o=.frz ob (.dK kv)/\RP T φ H kvs kv
end
structure Step0 (φ:List Yaq)(H:Hp)(φ':List Yaq)(H':Hp):Prop where
 pre:φ <+: φ'
 keep:∀ a o,H a=some o->a ∉ φ->H' a=some o
 new:∀ a,a∈φ'->a ∉ φ->H a=none
structure Step (φ:List Yaq)(H:Hp)(φ':List Yaq)(H':Hp):Prop extends Step0 φ H φ' H' where
 fr:∀ a o u,H a=some (.frz o u)->H' a=some (.frz o u)
def Step.refl (φ:List Yaq)(H:Hp):Step φ H φ H:=⟨⟨Ycp _,fun _ _ e _=>e,fun _ h n=>absurd h n⟩,fun _ _ _ e=>e⟩
def Step0.out (s:Step0 φ H φ' H')(e:H a=some o)(n:a ∉ φ):a ∉ φ':=fun z=>by rw[s.new a z n] at e;cases e
theorem Step0.trans (s:Step0 φ H φ' H')(t:Step0 φ' H' φ'' H''):Step0 φ H φ'' H'':=
 ⟨s.pre.trans t.pre,fun a o e n=>t.keep a o (s.keep a o e n) (s.out e n),fun a h n=>by
  by_cases z:a∈φ'
  ·exact s.new a z n
  ·cases e:H a with
   | none=>rfl
   | some o=>have:=t.new a h z;rw[s.keep a o e n] at this;cases this⟩
theorem Step.trans (s:Step φ H φ' H')(t:Step φ' H' φ'' H''):Step φ H φ'' H'':=⟨s.toStep0.trans t.toStep0,fun a o u e=>t.fr a o u (s.fr a o u e)⟩
def Step0.get {φ φ':List Yaq}{H H':Hp}(s:Step0 φ H φ' H'){n:Nat}{a:Yaq}(e:φ[n]?=some a):φ'[n]?=some a:=by
 obtain ⟨t,rfl⟩:=s.pre;rw[YaM (YaA.mp e).1];exact e
noncomputable def Zcu (h:Zam H p=some vs):∃ o,H p=some o/\∀ H':Hp,H' p=some o->Zam H' p=some vs:=by
 rcases ZaP h with q|⟨o,q⟩
 ·exact ⟨_,q,fun H' e=>Zaz e⟩
 ·exact ⟨_,q,fun H' e=>by unfold Zam;rw[e]⟩
section
variable {T:CTb} {φ φ':List Yaq} {H H':Hp}
mutual
theorem RW.step0 (s:Step0 φ H φ' H'):∀ {w:W} {v:V},RW T φ H w v->RW T φ' H' w v
 | .non,v,h=>by unfold RW at h ⊢;exact h
 | .bl b,v,h=>by unfold RW at h ⊢;exact h
 | .int i,v,h=>by unfold RW at h ⊢;exact h
 | .str x,v,h=>by unfold RW at h ⊢;exact h
 | .ty n,v,h=>by unfold RW at h ⊢;exact h
 | .cls c,v,h=>by unfold RW at h ⊢;exact h
 | .ref n,v,h=>by
  unfold RW at h ⊢;obtain ⟨a,e,q⟩:=h;exact ⟨a,s.get e,q⟩
 | .tup ws,v,h=>by
  unfold RW at h ⊢;obtain ⟨p,vs,e,n,q,r⟩:=h;exact ⟨p,vs,e,s.out q n,s.keep _ _ q n,RWs.step0 s r⟩
 | .tl ws,v,h=>by
  unfold RW at h ⊢;obtain ⟨p,vs,e,n,q,r⟩:=h;obtain ⟨o,ho,k⟩:=Zcu q;exact ⟨p,vs,e,s.out ho n,k _ (s.keep _ _ ho n),RWs.step0 s r⟩
 | .td ks ws,v,h=>by
  unfold RW at h ⊢;obtain ⟨p,vs,e,n,q,l,r⟩:=h;exact ⟨p,vs,e,s.out q n,s.keep _ _ q n,l,RWs.step0 s r⟩
 | .ti c fs ws,v,h=>by
  unfold RW at h ⊢;obtain ⟨p,C,dx,vs,e,n,c,q,l,r⟩:=h;exact ⟨p,C,dx,vs,e,s.out q n,c,s.keep _ _ q n,l,RWs.step0 s r⟩
 | .exc c fs ws,v,h=>by
  unfold RW at h ⊢;obtain ⟨e,C,d,vs,q,n,c,x,l,m,r⟩:=h;obtain ⟨I,z,x⟩:=x;refine ⟨e,C,d,vs,q,s.out x n,c,⟨I,z,s.keep _ _ x n⟩,l,?_,RWs.step0 s r⟩;cases d with
  | none=>exact m
  | some da=>exact ⟨s.out m.2 m.1,s.keep _ _ m.2 m.1⟩
theorem RWs.step0 (s:Step0 φ H φ' H'):∀ {ws:List W} {vs:List V},RWs T φ H ws vs->RWs T φ' H' ws vs
 | [],vs,h=>by unfold RWs at h ⊢;exact h
 | w::ws,vs,h=>by
  unfold RWs at h ⊢;obtain ⟨v,r,e,a,b⟩:=h;exact ⟨v,r,e,RW.step0 s a,RWs.step0 s b⟩
end
def RW.step (s:Step φ H φ' H')(h:RW T φ H w v):RW T φ' H' w v:=h.step0 s.toStep0
def RWs.step (s:Step φ H φ' H')(h:RWs T φ H ws vs):RWs T φ' H' ws vs:=h.step0 s.toStep0
def Zbj (s:Step0 φ H φ' H')(h:RP T φ H ps qs):RP T φ' H' ps qs:=YcX.mapP h fun _ _ q=>⟨q.1,q.2.step0 s⟩
theorem RO.step0 (s:Step0 φ H φ' H')(h:RO T φ H o ho):RO T φ' H' o ho:=by
 cases o with
 | lst ws=>obtain ⟨vs,e,r⟩:=h;exact ⟨vs,e,r.step0 s⟩
 | dic kvs=>obtain ⟨kv,e,r⟩:=h;exact ⟨kv,e,Zbj s r⟩
 | ins c fs=>obtain ⟨C,dx,z,e,c,r⟩:=h;exact ⟨C,dx,z,e,c,Zbj s r⟩
 | fdic kvs=>obtain ⟨ob,kv,e,r⟩:=h;exact ⟨ob,kv,e,Zbj s r⟩
def RO.step (s:Step φ H φ' H')(h:RO T φ H o ho):RO T φ' H' o ho:=h.step0 s.toStep0
end
structure RH (T:CTb)(φ:List Yaq)(h:Mem)(H:Hp):Prop where
 len:φ.length=h.length
 nd:φ.Nodup
 obj:∀ (n:Nat) o a,h[n]?=some o->φ[n]?=some a->∃ ho,H a=some ho/\RO T φ H o ho
structure RS (T:CTb)(φ:List Yaq)(H:Hp)(ρ:Sg)(σ:St):Prop where
 len:ρ.length=σ.length
 var:∀ (i:Nat) w,ρ[i]?=some (some w)->∃ v,σ[i]?=some (some v)/\RW T φ H w v
section
variable {T:CTb} {φ φ':List Yaq} {H H':Hp} {h:Mem} {ρ:Sg} {σ:St}
theorem RS.step (s:Step φ H φ' H')(r:RS T φ H ρ σ):RS T φ' H' ρ σ:=⟨r.len,fun i w e=>by
 obtain ⟨v,a,b⟩:=r.var i w e;exact ⟨v,a,b.step s⟩⟩
theorem RS.set (r:RS T φ H ρ σ)(q:RW T φ H w v):RS T φ H (ρ.set i (some w)) (σ.set i (some v)):=⟨by simp[r.len],fun j u e=>by
 rw[YcM] at e ⊢;split at e
 ·rename_i z;subst z;split at e
  ·rename_i I;rw[if_pos rfl,if_pos (by rw[<-r.len];exact I)];cases e;exact ⟨v,rfl,q⟩
  ·cases e
 ·rename_i z;rw[if_neg z];exact r.var j u e⟩
def RH.at (r:RH T φ h H){n:Nat}{o:O}(e:h[n]?=some o):∃ a ho,φ[n]?=some a/\H a=some ho/\RO T φ H o ho:=by
 have z:n<φ.length:=by rw[r.len];exact (YaA.mp e).1
 obtain ⟨ho,q,x⟩:=r.obj n o φ[n] e (by simp[z]);exact ⟨φ[n],ho,by simp[z],q,x⟩
def RH.there (r:RH T φ h H)(m:a∈φ):∃ ho,H a=some ho:=by
 obtain ⟨n,z,e⟩:=List.getElem_of_mem m;have I:n<h.length:=by rw[<-r.len];exact z
 obtain ⟨ho,q,_⟩:=r.obj n h[n] a (by simp[I]) (by simp[z,e]);exact ⟨ho,q⟩
def RH.fresh (r:RH T φ h H)(z:H p=none):p ∉ φ:=fun m=>by
 obtain ⟨ho,q⟩:=r.there m;rw[z] at q;cases q
def ZaS (z:H p=none):Step φ H φ (upd H p ho):=⟨⟨Ycp _,fun a o e _=>by rw[Zab (Zag e z)];exact e,fun _ m n=>absurd m n⟩,fun a o u e=>by rw[Zab (Zag e z)];exact e⟩
def RH.stay (r:RH T φ h H)(s:Step φ H φ H')(k:∀ a∈φ,H' a=H a):RH T φ h H':=⟨r.len,r.nd,fun n o a e q=>by
 obtain ⟨ho,x,y⟩:=r.obj n o a e q;exact ⟨ho,by rw[k a (Yax q)];exact x,y.step s⟩⟩
def RH.tmp (r:RH T φ h H)(I:H p=none):RH T φ h (upd H p ho):=r.stay (ZaS I) fun a m=>Zab fun z=>by subst z;exact r.fresh I m
def ZaQ (z:H p=none):Step φ H (φ++[p]) (upd H p ho):=⟨⟨YdP _ _,fun a o e _=>by rw[Zab (Zag e z)];exact e,fun a m n=>by
 rcases YbX.mp m with m|m
 ·exact absurd m n
 ·have:a=p:=by simpa using m
  subst this;exact z⟩,fun a o u e=>by rw[Zab (Zag e z)];exact e⟩
def RH.new (r:RH T φ h H)(J:H p=none)(x:RO T φ H o ho):RH T (φ++[p]) (h++[o]) (upd H p ho):=by
 have s:=ZaQ (φ:=φ) (ho:=ho) J;refine ⟨by simp[r.len],?_,fun n u a e q=>?_⟩
 ·rw[List.nodup_append];refine ⟨r.nd,by simp,fun a m b k z=>?_⟩;have:b=p:=by simpa using k
  subst z this;exact r.fresh J m
 ·by_cases U:n<h.length
  ·rw[YaM U] at e;rw[YaM (by rw[r.len];exact U)] at q;obtain ⟨Y,y,z⟩:=r.obj n u a e q;exact ⟨Y,by rw[Zab (fun z=>by subst z;exact r.fresh J (Yax q))];exact y,z.step s⟩
  ·have I:h.length<=n:=Nat.le_of_not_lt U;rw[YaX I] at e;rw[YaX (by rw[r.len];exact I),r.len] at q;have:n - h.length=0:=by
    have:=(YaA.mp e).1;simp at this;omega
   rw[this] at e q;simp at e q;subst e q;exact ⟨ho,Zae,x.step s⟩
def Za2 (m:a∈φ):Step0 φ H φ (upd H a ho):=⟨Ycp _,fun b o e n=>by rw[Zab (fun z=>by subst z;exact n m)];exact e,fun _ m n=>absurd m n⟩
def Zky (x:Option HO):Prop:=∀ o u,x≠some (.frz o u)
def ZeZ (e:x=some (.lst xs)):Zky x:=fun o u z=>by rw[e] at z;cases z
def Zjz (e:x=some (.dK xs)):Zky x:=fun o u z=>by rw[e] at z;cases z
def Zun (e:x=some (.ins C dx xs)):Zky x:=fun o u z=>by rw[e] at z;cases z
def ZaF (m:a∈φ)(I:Zky (H a)):Step φ H φ (upd H a ho):=⟨Za2 m,fun b o u e=>by
 by_cases z:b=a
 ·subst z;exact absurd e (I o u)
 ·rw[Zab z];exact e⟩
theorem RH.set (r:RH T φ h H)(q:φ[n]?=some a)(x:RO T φ H o ho):RH T φ (h.set n o) (upd H a ho):=by
 have s:=Za2 (H:=H) (ho:=ho) (Yax q);refine ⟨by simp[r.len],r.nd,fun k u b e I=>?_⟩;rw[YcM] at e;split at e
 ·rename_i J;subst J;rw[q] at I;cases I;split at e
  ·cases e;exact ⟨ho,Zae,x.step0 s⟩
  ·cases e
 ·rename_i J;obtain ⟨U,y,z⟩:=r.obj k u b e I;refine ⟨U,?_,z.step0 s⟩;rw[Zab]
  ·exact y
  ·intro z;subst z;exact J ((List.getElem?_inj (YaA.mp q).1 r.nd).mp (q.trans I.symm))
end
inductive Res where
 | ok (w:W) (h:Mem) | ex (w:W) (h:Mem) | no
inductive RsL where
 | ok (ws:List W) (h:Mem) | ex (w:W) (h:Mem) | no
abbrev Ex:=Sg->Mem->Res
abbrev Exs:=Sg->Mem->RsL
noncomputable def Res.bind (r:Res)(k:W->Mem->Res):Res:=match r with
 | .ok w h=>k w h
 | .ex w h=>.ex w h
 | .no=>.no
noncomputable def Res.of (o:Option W)(h:Mem):Res:=match o with
 | some w=>.ok w h
 | none=>.no
def Res.post (r:Res)(k:W->Mem->Prop)(e:W->Mem->Prop):Prop:=match r with
 | .ok w h=>k w h
 | .ex w h=>e w h
 | .no=>False
def RsL.post (r:RsL)(k:List W->Mem->Prop)(e:W->Mem->Prop):Prop:=match r with
 | .ok w h=>k w h
 | .ex w h=>e w h
 | .no=>False
def Res.post.mono {r:Res}{k z:W->Mem->Prop}{e:W->Mem->Prop}(h:r.post k e)(i:∀ w m,k w m->z w m):r.post z e:=by
 cases r<;>first|exact i _ _ h|exact h
structure Zc where
 T:CTb
 φ:List Yaq
 H:Hp
 sg:St->Prop
 xw:W->Mem->Prop
structure Here (Z:Zc)(σ:St)(H:Hp)(φ:List Yaq)(h:Mem)(ρ:Sg):Prop where
 sg:Z.sg σ
 st:Step Z.φ Z.H φ H
 rh:RH Z.T φ h H
 rs:RS Z.T φ H ρ σ
theorem Here.step (x:Here Z σ H φ h ρ)(s:Step φ H φ' H')(r:RH Z.T φ' h' H'):Here Z σ H' φ' h' ρ:=⟨x.sg,x.st.trans s,r,x.rs.step s⟩
def Kv (T:CTb)(φ:List Yaq)(H:Hp)(Q:VK):W->Mem->Prop:=fun w h'=>∀ φ' H' v,Step φ H φ' H'->RH T φ' h' H'->RW T φ' H' w v->Q v H'
def Kvs (T:CTb)(φ:List Yaq)(H:Hp)(Q:List V->Hp->Prop):List W->Mem->Prop:=fun ws h'=>∀ φ' H' vs,Step φ H φ' H'->RH T φ' h' H'->RWs T φ' H' ws vs->Q vs H'
def Kv.step (k:Kv T φ H Q w h)(s:Step φ H φ' H'):Kv T φ' H' Q w h:=fun φ2 H2 v t r x=>k φ2 H2 v (s.trans t) r x
noncomputable def tH (Z:Zc)(f:Ex):TE:=fun σ H Q=>∃ φ h ρ,Here Z σ H φ h ρ/\(f ρ h).post (Kv Z.T φ H Q) Z.xw
noncomputable def tHA (Z:Zc)(f:Exs):TA:=fun σ H Q=>∃ φ h ρ,Here Z σ H φ h ρ/\(f ρ h).post (Kvs Z.T φ H Q) Z.xw
noncomputable def tHT (Z:Zc)(f:Ex):TT:=fun σ H Q=>∃ φ h ρ,Here Z σ H φ h ρ/\(f ρ h).post (fun w h'=>∃ b,w=.bl b/\∀ φ' H',Step φ H φ' H'->RH Z.T φ' h' H'->Q b H') Z.xw
section
variable {X:Cx} {e a b c:YaQ} {es:List YaQ}
def _root_.L2.PE.imp (h:PE X e t)(i:∀ σ H Q,t' σ H Q->t σ H Q):PE X e t':=fun pins s σ H Q I q=>h pins s σ H Q I (i σ H Q q)
def _root_.L2.PT.imp (h:PT X e t)(i:∀ σ H Q,t' σ H Q->t σ H Q):PT X e t':=fun pins s σ H Q I q=>h pins s σ H Q I (i σ H Q q)
def _root_.L2.PW.imp (h:PW X e t)(i:∀ σ H Q,t' σ H Q->t σ H Q):PW X e t':=fun w pins s σ H Q I q=>h w pins s σ H Q I (i σ H Q q)
def _root_.L2.PA.imp (h:PA X es t)(i:∀ σ H Q,t' σ H Q->t σ H Q):PA X es t':=fun pos pins s σ H Q I q=>h pos pins s σ H Q I (i σ H Q q)
end
noncomputable def Zf9 (i:Nat):Ex:=fun ρ h=>match ρ[i]? with
 | some (some w)=>.ok w h
 | _=>.no
noncomputable def xC (w:W):Ex:=fun _ h=>.ok w h
noncomputable def Zfe:Exs:=fun _ h=>.ok [] h
noncomputable def Zbv (f:Ex)(g:Exs):Exs:=fun ρ h=>match f ρ h with
 | .ok w h1=>(match g ρ h1 with
  | .ok ws h2=>.ok (w::ws) h2
  | r=>r)
 | .ex w h1=>.ex w h1
 | .no=>.no
def ZbS (op:Mem->W->W->Option W)(f g:Ex):Ex:=fun ρ h=>(f ρ h).bind fun a h1=>(g ρ h1).bind fun b h2=>.of (op h2 a b) h2
def xUn (op:Mem->W->Option W)(f:Ex):Ex:=fun ρ h=>(f ρ h).bind fun a h1=>.of (op h1 a) h1
noncomputable def xCb (op:Mem->List W->Option W)(f:Exs):Ex:=fun ρ h=>match f ρ h with
 | .ok ws h1=>.of (op h1 ws) h1
 | .ex w h1=>.ex w h1
 | .no=>.no
def ZiN (f g:Ex):Ex:=fun ρ h=>(f ρ h).bind fun w h1=>match w with
 | .bl true=>g ρ h1
 | .bl false=>.ok (.bl false) h1
 | _=>.no
def xOr (f g:Ex):Ex:=fun ρ h=>(f ρ h).bind fun w h1=>match w with
 | .bl true=>.ok (.bl true) h1
 | .bl false=>g ρ h1
 | _=>.no
def Zjb (f:Ex):Ex:=fun ρ h=>(f ρ h).bind fun w h1=>match w with
 | .bl b=>.ok (.bl (!b)) h1
 | _=>.no
def xIf (c f g:Ex):Ex:=fun ρ h=>(c ρ h).bind fun w h1=>match w with
 | .bl true=>f ρ h1
 | .bl false=>g ρ h1
 | _=>.no
def Zbk (op op':Mem->W->W->Option W)(f g k:Ex):Ex:=fun ρ h=>(f ρ h).bind fun a h1=>(g ρ h1).bind fun b h2=>match op h2 a b with
 | some (.bl true)=>(k ρ h2).bind fun c h3=>(match op' h3 b c with
  | some (.bl z)=>.ok (.bl z) h3
  | _=>.no)
 | some (.bl false)=>.ok (.bl false) h2
 | _=>.no
noncomputable def Zq7 (f:Exs):Ex:=fun ρ h=>match f ρ h with
 | .ok ws h1=>if ws.length<=Yai then .ok (.tup ws) h1 else .no
 | .ex w h1=>.ex w h1
 | .no=>.no
noncomputable def Zqq (f:Exs):Ex:=fun ρ h=>match f ρ h with
 | .ok ws h1=>if ws.length<=Yai then .ok (.tl ws) h1 else .no
 | .ex w h1=>.ex w h1
 | .no=>.no
noncomputable def ZjO (f:Exs):Ex:=fun ρ h=>match f ρ h with
 | .ok ws h1=>if ws.length<=Yai then .ok (.ref h1.length) (h1++[.lst ws]) else .no
 | .ex w h1=>.ex w h1
 | .no=>.no
def OpW (T:CTb)(op:Mem->W->W->Option W)(r:R2):Prop:=∀ φ h H a b u v w Q,RH T φ h H->RW T φ H a u->RW T φ H b v->op h a b=some w->(∀ H' x,Step φ H φ H'->RH T φ h H'->RW T φ H' w x->Q x H')->r u v H Q
def UnW (T:CTb)(op:Mem->W->Option W)(r:V->Hp->VK->Prop):Prop:=∀ φ h H a u w Q,RH T φ h H->RW T φ H a u->op h a=some w->(∀ H' x,Step φ H φ H'->RH T φ h H'->RW T φ H' w x->Q x H')->r u H Q
def CbW (T:CTb)(op:Mem->List W->Option W)(r:List V->Hp->VK->Prop):Prop:=∀ φ h H ws vs w Q,RH T φ h H->RWs T φ H ws vs->op h ws=some w->(∀ H' x,Step φ H φ H'->RH T φ h H'->RW T φ H' w x->Q x H')->r vs H Q
def BmW (T:CTb)(op:Mem->W->List W->Option W)(r:V->List V->Hp->VK->Prop):Prop:=∀ φ h H a u ws vs w Q,RH T φ h H->RW T φ H a u->RWs T φ H ws vs->op h a ws=some w->(∀ H' x,Step φ H φ H'->RH T φ h H'->RW T φ H' w x->Q x H')->r u vs H Q
section
variable {X:Cx} {Z:Zc} {f g k:Ex} {fa:Exs} {e a b c:YaQ} {es rest:List YaQ} {pos:Pos}
def Zba {r:Res}{k:W->Mem->Res}{K:W->Mem->Prop}{E:W->Mem->Prop}:(r.bind k).post K E↔r.post (fun w h=>(k w h).post K E) E:=by cases r<;>rfl
def ofP {o:Option W}{h:Mem}{K:W->Mem->Prop}{E:W->Mem->Prop}(q:(Res.of o h).post K E):∃ w,o=some w/\K w h:=by
 cases o with
 | none=>exact q.elim
 | some w=>exact ⟨w,rfl,q⟩
def Kv.end (k:Kv T φ H Q w h):∀ H' x,Step φ H φ H'->RH T φ h H'->RW T φ H' w x->Q x H':=fun H' x s r y=>k φ H' x s r y
def ZqX (i:Nat)(h:PE X e (ZtT i)):PE X e (tH Z (Zf9 i)):=h.imp fun σ H Q ⟨φ,m,ρ,x,q⟩=>by
 unfold Zf9 at q;split at q
 ·rename_i w e;obtain ⟨v,z,r⟩:=x.rs.var i w e;exact ⟨v,z,q φ H v (Step.refl _ _) x.rh r⟩
 ·exact q.elim
def Znj (h:PE X e (tC v))(r:∀ φ H,RW Z.T φ H w v):PE X e (tH Z (xC w)):=h.imp fun σ H Q ⟨φ,m,ρ,x,q⟩=>q φ H v (Step.refl _ _) x.rh (r φ H)
def ZtE {i j pos}:PE X (.Constant (.int i) j pos) (tH Z (xC (.int i))):=Znj Zuc fun _ _=>by unfold RW;rfl
def Zwu {b j pos}:PE X (.Constant (.bool b) j pos) (tH Z (xC (.bl b))):=Znj Zvw fun _ _=>by unfold RW;rfl
def ZqZ {j pos}:PE X (.Constant .none j pos) (tH Z (xC .non)):=Znj Zs1 fun _ _=>by unfold RW;rfl
def Zsg {x j pos}:PE X (.Constant (.str x) j pos) (tH Z (xC (.str x))):=Znj Zj8 fun _ _=>by unfold RW;rfl
def two {σ:St}{H:Hp}{φ:List Yaq}{h:Mem}{ρ:Sg}{k:W->W->Mem->Res}{Q:VK}(x:Here Z σ H φ h ρ)(q:((f ρ h).bind fun a h1=>(g ρ h1).bind fun b h2=>k a b h2).post (Kv Z.T φ H Q) Z.xw)
  {R:V->V->Hp->Prop} (i:∀ φ2 H2 h2 u v a b,Step φ H φ2 H2->Here Z σ H2 φ2 h2 ρ->RW Z.T φ2 H2 a u->RW Z.T φ2 H2 b v->(k a b h2).post (Kv Z.T φ2 H2 Q) Z.xw->R u v H2) :
  tH Z f σ H fun u H1=>tH Z g σ H1 fun v H2=>R u v H2:=by
 refine ⟨φ,h,ρ,x,?_⟩;rw[Zba] at q;refine q.mono fun a h1 z=>fun φ1 H1 u s1 r1 J=>?_
 refine ⟨φ1,h1,ρ,x.step s1 r1,?_⟩;rw[Zba] at z;refine z.mono fun b h2 I=>fun φ2 H2 v s2 Y U=>?_
 exact i φ2 H2 h2 u v a b (s1.trans s2) ((x.step s1 r1).step s2 Y) (J.step s2) U (I.mono fun w m k=>k.step (s1.trans s2))
def ZtM {op:Operator}{o:Mem->W->W->Option W}{r:R2}(ho:OpR X (YcJ op) r)(J:OpW Z.T o r)(ha:PE X a (tH Z f))(U:PE X b (tH Z g)):PE X (.BinOp a op b pos) (tH Z (ZbS o f g)):=
 (Zxd ho ha U).imp fun σ H Q ⟨φ,m,ρ,x,q⟩=>two x q fun φ2 H2 h2 u v a b s y I Y z=>by
  obtain ⟨w,e,k⟩:=ofP z;exact J φ2 h2 H2 a b u v w Q y.rh I Y e k.end
def ZqE {op:CmpOp}{o:Mem->W->W->Option W}{r:R2}(ho:OpR X (YaV op) r)(J:OpW Z.T o r)(ha:PE X a (tH Z f))(Y:PE X b (tH Z g))(U:YcK op b=false):PE X (.Compare a [op] [b] pos) (tH Z (ZbS o f g)):=
 (Znz ho ha Y U).imp fun σ H Q ⟨φ,m,ρ,x,q⟩=>two x q fun φ2 H2 h2 u v a b s y I rb z=>by
  obtain ⟨w,e,k⟩:=ofP z;exact J φ2 h2 H2 a b u v w Q y.rh I rb e k.end
def Zu1 {o:Mem->W->W->Option W}{r:R2}(ho:IxR X r)(U:OpW Z.T o r)(ha:PE X a (tH Z f))(Y:PE X b (tH Z g))(J:Zeg b):PE X (.Subscript a b pos) (tH Z (ZbS o f g)):=
 (ZwM ho ha Y J).imp fun σ H Q ⟨φ,m,ρ,x,q⟩=>two x q fun φ2 H2 h2 u v a b s y I rb z=>by
  obtain ⟨w,e,k⟩:=ofP z;exact U φ2 h2 H2 a b u v w Q y.rh I rb e k.end
def Zwd (ho:UnR X (unaryOp op) r)(I:UnW Z.T o r)(z:PE X a (tH Z f)):PE X (.UnaryOp op a pos) (tH Z (xUn o f)):=
 (Zv1 ho z).imp fun σ H Q ⟨φ,m,ρ,x,q⟩=>⟨φ,m,ρ,x,by
  unfold xUn at q;rw[Zba] at q;refine q.mono fun a h1 U=>fun φ1 H1 u s1 r1 J=>?_
  obtain ⟨w,e,k⟩:=ofP U;exact I φ1 h1 H1 a u w Q r1 J e (k.step s1).end⟩
def Zby {T:CTb}{φ:List Yaq}{H:Hp}{v:V}{c:Bool}(h:RW T φ H (.bl c) v):v=.bl c:=by unfold RW at h;exact h
def Zxj {σ:St}{H:Hp}{Q:Bool->Hp->Prop}(h:tHT Z f σ H Q):tB (tH Z f) σ H Q:=by
 obtain ⟨φ,m,ρ,x,q⟩:=h;refine ⟨φ,m,ρ,x,q.mono ?_⟩;rintro w h1 ⟨b,rfl,k⟩ φ1 H1 v s1 r1 z;exact ⟨b,Zby z,k φ1 H1 s1 r1⟩
def Zo6 (h:PE X e (tH Z f))(I:∀ z,Yfe e X.env z=(do let v <- z;Yd7 e.pos;Yd8 [v] (truthy v)):=by intro _;rfl):PT X e (tHT Z f):=(Zs5 h I).imp fun σ H Q q=>Zxj q
def Zn5 {op:CmpOp}{o:Mem->W->W->Option W}{r:R2}(ho:OpR X (YaV op) r)(U:OpW Z.T o r)(ha:PE X a (tH Z f))(hb:PE X b (tH Z g))(Y:YcK op b=false):PT X (.Compare a [op] [b] pos) (tHT Z (ZbS o f g)):=
 (Zns ho ha hb Y).imp fun σ H Q ⟨φ,m,ρ,x,q⟩=>by
  have q':(ZbS o f g ρ m).post (Kv Z.T φ H fun v H'=>∃ k,v=.bl k/\Q k H') Z.xw:=q.mono (by
   rintro w h1 ⟨b,rfl,k⟩ φ1 H1 v s1 r1 z;exact ⟨b,Zby z,k φ1 H1 s1 r1⟩)
  exact two x q' fun φ2 H2 h2 u v a b s y J rb I=>by
   obtain ⟨w,e,k⟩:=ofP I;exact U φ2 h2 H2 a b u v w _ y.rh J rb e k.end
def Zob (h:tHT Z (ZiN f g) σ H Q):Zvj (tHT Z f) (tHT Z g) σ H Q:=by
 obtain ⟨φ,m,ρ,x,q⟩:=h;refine ⟨φ,m,ρ,x,?_⟩;unfold ZiN at q;rw[Zba] at q;refine q.mono fun w h1 z=>?_
 split at z
 ·exact ⟨true,rfl,fun φ1 H1 s1 r1=>Zkq ⟨φ1,h1,ρ,x.step s1 r1,z.mono fun w h2 ⟨b,e,k⟩=>⟨b,e,fun φ2 H2 s2 I=>k φ2 H2 (s1.trans s2) I⟩⟩⟩
 ·obtain ⟨b,e,k⟩:=z;cases e;exact ⟨false,rfl,fun φ1 H1 s1 r1=>Zko (k φ1 H1 s1 r1)⟩
 ·exact z.elim
def Zts (h:tHT Z (xOr f g) σ H Q):tOr (tHT Z f) (tHT Z g) σ H Q:=by
 obtain ⟨φ,m,ρ,x,q⟩:=h;refine ⟨φ,m,ρ,x,?_⟩;unfold xOr at q;rw[Zba] at q;refine q.mono fun w h1 z=>?_
 split at z
 ·obtain ⟨b,e,k⟩:=z;cases e;exact ⟨true,rfl,fun φ1 H1 s1 r1=>Zkq (k φ1 H1 s1 r1)⟩
 ·exact ⟨false,rfl,fun φ1 H1 s1 r1=>Zko ⟨φ1,h1,ρ,x.step s1 r1,z.mono fun w h2 ⟨b,e,k⟩=>⟨b,e,fun φ2 H2 s2 I=>k φ2 H2 (s1.trans s2) I⟩⟩⟩
 ·exact z.elim
def Zpe (h:tHT Z (Zjb f) σ H Q):Zx6 (tHT Z f) σ H Q:=by
 obtain ⟨φ,m,ρ,x,q⟩:=h;refine ⟨φ,m,ρ,x,?_⟩;unfold Zjb at q;rw[Zba] at q;refine q.mono fun w h1 z=>?_
 split at z
 ·obtain ⟨b,e,k⟩:=z;cases e;exact ⟨_,rfl,k⟩
 ·exact z.elim
def Zm8 (h:PT X a (tHT Z f)):PT X (.UnaryOp .Not a pos) (tHT Z (Zjb f)):=(Zte h).imp fun _ _ _ q=>Zpe q
def Zkt (h:PT X a (tHT Z f)):PW X (.BoolOp .And [a] pos) (tHT Z f):=ZoD h
def Zm6 (h:PT X a (tHT Z f)):PW X (.BoolOp .Or [a] pos) (tHT Z f):=Zt1 h
def Znr (z:PT X a (tHT Z f))(I:PW X (.BoolOp .And (b::rest) pos) (tHT Z g)):PW X (.BoolOp .And (a::b::rest) pos) (tHT Z (ZiN f g)):=(Zrm z I).imp fun _ _ _ q=>Zob q
def ZrM (z:PT X a (tHT Z f))(I:PW X (.BoolOp .Or (b::rest) pos) (tHT Z g)):PW X (.BoolOp .Or (a::b::rest) pos) (tHT Z (xOr f g)):=(Zxr z I).imp fun _ _ _ q=>Zts q
def Zsz (J:PE X a (tH Z f))(U:PE X (.BoolOp .And (b::rest) pos) (tH Z g)):PE X (.BoolOp .And (a::b::rest) pos) (tH Z (ZiN f g)):=
 (Zq2 J U).imp fun σ H Q ⟨φ,m,ρ,x,q⟩=>⟨φ,m,ρ,x,by
  unfold ZiN at q;rw[Zba] at q;refine q.mono fun w h1 I=>fun φ1 H1 v s1 r1 z=>?_
  split at I
  ·exact ⟨true,Zby z,Zkq (⟨φ1,h1,ρ,x.step s1 r1,I.mono fun w h2 k=>k.step s1⟩)⟩
  ·exact ⟨false,Zby z,Zko (I φ1 H1 _ s1 r1 (by unfold RW;rfl))⟩
  ·exact I.elim⟩
def ZwW (J:PE X a (tH Z f))(U:PE X (.BoolOp .Or (b::rest) pos) (tH Z g)):PE X (.BoolOp .Or (a::b::rest) pos) (tH Z (xOr f g)):=
 (Zu9 J U).imp fun σ H Q ⟨φ,m,ρ,x,q⟩=>⟨φ,m,ρ,x,by
  unfold xOr at q;rw[Zba] at q;refine q.mono fun w h1 I=>fun φ1 H1 v s1 r1 z=>?_
  split at I
  ·exact ⟨true,Zby z,Zkq (I φ1 H1 _ s1 r1 (by unfold RW;rfl))⟩
  ·exact ⟨false,Zby z,Zko (⟨φ1,h1,ρ,x.step s1 r1,I.mono fun w h2 k=>k.step s1⟩)⟩
  ·exact I.elim⟩
def Zt4 {op}(h:PE X a (tH Z f)):PE X (.BoolOp op [a] pos) (tH Z f):=ZtU h
def Ztr (J:PE X a (tH Z f)):PE X (.UnaryOp .Not a pos) (tH Z (Zjb f)):=
 (Ztg J).imp fun σ H Q ⟨φ,m,ρ,x,q⟩=>⟨φ,m,ρ,x,by
  unfold Zjb at q;rw[Zba] at q;refine q.mono fun w h1 z=>fun φ1 H1 v s1 r1 I=>?_
  split at z
  ·exact ⟨_,Zby I,z φ1 H1 _ s1 r1 (by unfold RW;rfl)⟩
  ·exact z.elim⟩
def Zxq (U:PT X c (tHT Z k))(I:PE X a (tH Z f))(J:PE X b (tH Z g)):PE X (.IfExp c a b pos) (tH Z (xIf k f g)):=
 (ZkS U I J).imp fun σ H Q ⟨φ,m,ρ,x,q⟩=>⟨φ,m,ρ,x,by
  unfold xIf at q;rw[Zba] at q;refine q.mono fun w h1 z=>?_
  split at z
  ·exact ⟨true,rfl,fun φ1 H1 s1 r1=>Zkq (⟨φ1,h1,ρ,x.step s1 r1,z.mono fun w h2 k=>k.step s1⟩)⟩
  ·exact ⟨false,rfl,fun φ1 H1 s1 r1=>Zko (⟨φ1,h1,ρ,x.step s1 r1,z.mono fun w h2 k=>k.step s1⟩)⟩
  ·exact z.elim⟩
def Zn9:PA X [] (tHA Z Zfe):=pa_nil.imp fun σ H Q ⟨φ,m,ρ,x,q⟩=>q φ H [] (Step.refl _ _) x.rh (by unfold RWs;rfl)
def ZlF (ha:PE X e (tH Z f))(Y:PA X es (tHA Z fa))(hs:Yah (e::es) X.env=(false,YbT e X.env)::Yah es X.env:=by rfl):PA X (e::es) (tHA Z (Zbv f fa)):=
 (Zbd ha Y hs).imp fun σ H Q ⟨φ,m,ρ,x,q⟩=>⟨φ,m,ρ,x,by
  unfold Zbv at q;cases I:f ρ m with
  | no=>rw[I] at q;exact q.elim
  | ex w h1=>rw[I] at q;exact q
  | ok w h1=>
   rw[I] at q;intro φ1 H1 v s1 r1 U;refine ⟨φ1,h1,ρ,x.step s1 r1,?_⟩;simp only at q;cases J:fa ρ h1 with
   | no=>rw[J] at q;exact q.elim
   | ex w2 h2=>rw[J] at q;exact q
   | ok ws h2=>
    rw[J] at q;intro φ2 H2 vs s2 r2 z;refine q φ2 H2 (v::vs) (s1.trans s2) r2 ?_;unfold RWs;exact ⟨v,vs,rfl,U.step s2,z⟩⟩
theorem RWs.length:∀ {ws:List W} {vs:List V},RWs T φ H ws vs->ws.length=vs.length
 | [],vs,h=>by unfold RWs at h;subst h;rfl
 | w::ws,vs,h=>by
  unfold RWs at h;obtain ⟨v,r,rfl,_,h⟩:=h;simp[RWs.length h]
def Zr5 {x1}(h:PA X es (tHA Z fa)):PE X (.Tuple es x1 pos) (tH Z (Zq7 fa)):=
 (Ztu h).imp fun σ H Q ⟨φ,m,ρ,x,q⟩=>⟨φ,m,ρ,x,by
  unfold Zq7 at q;cases I:fa ρ m with
  | no=>rw[I] at q;exact q.elim
  | ex w h1=>rw[I] at q;exact q
  | ok ws h1=>
   rw[I] at q;simp only at q;split at q
   ·rename_i hz;intro φ1 H1 vs s1 r1 z;refine ⟨by rw[<-z.length];exact hz,fun p J=>?_⟩;have s2:=ZaS (φ:=φ1) (ho:=.tup vs) J;refine q φ1 _ _ (s1.trans s2) (r1.tmp J) ?_;unfold RW;exact ⟨p,vs,rfl,r1.fresh J,Zae,z.step s2⟩
   ·exact q.elim⟩
def Zuj (h:PA X es (tHA Z fa)):PE X (.List es pos) (tH Z (Zqq fa)):=
 (Zl9 h).imp fun σ H Q ⟨φ,m,ρ,x,q⟩=>⟨φ,m,ρ,x,by
  unfold Zqq at q;cases I:fa ρ m with
  | no=>rw[I] at q;exact q.elim
  | ex w h1=>rw[I] at q;exact q
  | ok ws h1=>
   rw[I] at q;simp only at q;split at q
   ·rename_i hz;intro φ1 H1 vs s1 r1 z;refine ⟨by rw[<-z.length];exact hz,fun p J=>?_⟩;have s2:=ZaS (φ:=φ1) (ho:=.lst vs) J;refine q φ1 _ _ (s1.trans s2) (r1.tmp J) ?_;unfold RW;exact ⟨p,vs,rfl,r1.fresh J,ZcJ,z.step s2⟩
   ·exact q.elim⟩
def Zou (h:PA X es (tHA Z fa)):PE X (.List es pos) (tH Z (ZjO fa)):=
 (Zl9 h).imp fun σ H Q ⟨φ,m,ρ,x,q⟩=>⟨φ,m,ρ,x,by
  unfold ZjO at q;cases I:fa ρ m with
  | no=>rw[I] at q;exact q.elim
  | ex w h1=>rw[I] at q;exact q
  | ok ws h1=>
   rw[I] at q;simp only at q;split at q
   ·rename_i hz;intro φ1 H1 vs s1 r1 z;refine ⟨by rw[<-z.length];exact hz,fun p J=>?_⟩;refine q (φ1++[p]) _ _ (s1.trans (ZaQ J)) (r1.new J (by unfold RO;exact ⟨vs,rfl,z⟩)) ?_;unfold RW;exact ⟨p,by rw[<-r1.len];simp,rfl⟩
   ·exact q.elim⟩
def ZtZ (J:CbW Z.T o r)(h:∀ {t:TA},PA X es t->PE X e (tCB r t))(U:PA X es (tHA Z fa)):PE X e (tH Z (xCb o fa)):=
 (h U).imp fun σ H Q ⟨φ,m,ρ,x,q⟩=>⟨φ,m,ρ,x,by
  unfold xCb at q;cases z:fa ρ m with
  | no=>rw[z] at q;exact q.elim
  | ex w h1=>rw[z] at q;exact q
  | ok ws h1=>
   rw[z] at q;intro φ1 H1 vs s1 r1 I;obtain ⟨w,e,k⟩:=ofP q;exact J φ1 h1 H1 ws vs w Q r1 I e (k.step s1).end⟩
end
inductive Out where
 | nx (ρ:Sg) (h:Mem) | rt (w:W) (h:Mem) | bk (ρ:Sg) (h:Mem) | ct (ρ:Sg) (h:Mem) | ex (w:W) (h:Mem) | no
abbrev Sm:=Sg->Mem->Out
def Ks (Z:Zc)(φ:List Yaq)(H:Hp)(n:St->Hp->Prop):Sg->Mem->Prop:=fun ρ' h'=>∀ φ' H' σ',Step φ H φ' H'->RH Z.T φ' h' H'->RS Z.T φ' H' ρ' σ'->Z.sg σ'->n σ' H'
def Out.post (Z:Zc)(φ:List Yaq)(H:Hp)(D:Ends):Out->Prop
 | .nx ρ h=>Ks Z φ H D.nx ρ h
 | .rt w h=>Kv Z.T φ H D.rt w h
 | .bk ρ h=>Ks Z φ H D.bk ρ h
 | .ct ρ h=>Ks Z φ H D.ct ρ h
 | .ex w h=>Z.xw w h
 | .no=>False
def Ks.step (k:Ks Z φ H n ρ h)(s:Step φ H φ' H'):Ks Z φ' H' n ρ h:=fun φ2 H2 σ t r x g=>k φ2 H2 σ (s.trans t) r x g
def Zar {Z:Zc}{φ φ':List Yaq}{H H':Hp}{D:Ends}{o:Out}(k:o.post Z φ H D)(s:Step φ H φ' H'):o.post Z φ' H' D:=by
 cases o with
 | nx ρ h=>exact Ks.step k s
 | rt w h=>exact Kv.step k s
 | bk ρ h=>exact Ks.step k s
 | ct ρ h=>exact Ks.step k s
 | ex w h=>exact k
 | no=>exact k
noncomputable def tHS (Z:Zc)(F:Sm):TS:=fun D σ H=>∃ φ h ρ,Here Z σ H φ h ρ/\(F ρ h).post Z φ H D
noncomputable def Zjw:Sm:=fun ρ h=>.nx ρ h
noncomputable def Zf2 (F G:Sm):Sm:=fun ρ h=>match F ρ h with
 | .nx ρ' h'=>G ρ' h'
 | o=>o
noncomputable def Zp5 (c:Ex)(F G:Sm):Sm:=fun ρ h=>match c ρ h with
 | .ok (.bl true) h'=>F ρ h'
 | .ok (.bl false) h'=>G ρ h'
 | .ex w h'=>.ex w h'
 | _=>.no
noncomputable def Zqp (f:Ex):Sm:=fun ρ h=>match f ρ h with
 | .ok w h'=>.rt w h'
 | .ex w h'=>.ex w h'
 | .no=>.no
noncomputable def ZiD (f:Ex):Sm:=fun ρ h=>match f ρ h with
 | .ok _ h'=>.nx ρ h'
 | .ex w h'=>.ex w h'
 | .no=>.no
noncomputable abbrev Tg:=W->Sg->Option Sg
noncomputable def gN (i:Nat):Tg:=fun w ρ=>some (ρ.set i (some w))
def TgW (Z:Zc)(g:TG)(G:Tg):Prop:=∀ σ H φ h ρ w v ρ' Q,Here Z σ H φ h ρ->RW Z.T φ H w v->G w ρ=some ρ'->(∀ σ',RS Z.T φ H ρ' σ'->Z.sg σ'->Q σ' H)->g v σ H Q
def Zi9 (z:∀ σ v,Z.sg σ->Z.sg (σ.set i (some v))):TgW Z (ZcL i) (gN i):=fun σ H φ h ρ w v ρ' Q x r e k=>by
 cases e;exact k _ (x.rs.set r) (z _ _ x.sg)
noncomputable def ZdJ (G:Tg)(f:Ex):Sm:=fun ρ h=>match f ρ h with
 | .ok w h'=>(match G w ρ with
  | some ρ'=>.nx ρ' h'
  | none=>.no)
 | .ex w h'=>.ex w h'
 | .no=>.no
noncomputable def ZbN (G:Tg)(B:Sm):List W->Sm
 | [],ρ,h=>.nx ρ h
 | w::r,ρ,h=>match G w ρ with
  | none=>.no
  | some z=>(match B z h with
   | .nx ρ' h'=>ZbN G B r ρ' h'
   | .ct ρ' h'=>ZbN G B r ρ' h'
   | .bk ρ' h'=>.nx ρ' h'
   | o=>o)
inductive RsI where
 | ok (src:Option Nat) (ws:List W) (h:Mem) | ex (w:W) (h:Mem) | no
abbrev Ei:=Sg->Mem->RsI
def ZhK (src:Option Nat)(ws:List W)(h:Mem):Prop:=match src with
 | none=>True
 | some n=>h[n]?=some (.lst ws)
structure ItOk (T:CTb)(φ:List Yaq)(H:Hp)(J:It)(ws:List W)(P:Mem->Prop):Prop where
 go:∀ φ2 H2 h2 (i:Nat) w,Step φ H φ2 H2->RH T φ2 h2 H2->P h2->ws[i]?=some w->J.go i H2
 yld:∀ φ2 H2 h2 (i:Nat) w x H',Step φ H φ2 H2->RH T φ2 h2 H2->P h2->ws[i]?=some w->J.yld i H2 x H'->H'=H2/\RW T φ2 H2 w x
 stop:∀ φ2 H2 h2,Step φ H φ2 H2->RH T φ2 h2 H2->P h2->J.stop ws.length H2
noncomputable def tHI (Z:Zc)(f:Ei):TI:=fun σ H R=>∃ φ h ρ,Here Z σ H φ h ρ/\match f ρ h with
 | .ok src ws h'=>∀ φ' H' J,Step φ H φ' H'->RH Z.T φ' h' H'->ZhK src ws h'->ItOk Z.T φ' H' J ws (ZhK src ws)->R J H'
 | .ex w h'=>Z.xw w h'
 | .no=>False
section
variable {X:Cx} {Z:Zc} {f g k:Ex} {fa:Exs} {e a b c:YaQ} {es:List YaQ} {pos:Pos} {F G B:Sm} {st:Yce} {rest sts body:List Yce} {fi:Ei} {tg iter:YaQ}
def _root_.L2.PS.imp (h:PS X st t)(i:∀ D σ H,t' D σ H->t D σ H):PS X st t':=fun pins s σ H D I q=>h pins s σ H D I (i D σ H q)
def _root_.L2.PSs.imp (h:PSs X sts t)(i:∀ D σ H,t' D σ H->t D σ H):PSs X sts t':=fun pins s σ H D I q=>h pins s σ H D I (i D σ H q)
def _root_.L2.PI.imp (h:PI X tg iter t)(i:∀ σ H R,t' σ H R->t σ H R):PI X tg iter t':=fun pins s σ H R I q=>h pins s σ H R I (i σ H R q)
def Here.nx (x:Here Z σ H φ h ρ)(q:Ks Z φ H n ρ h):n σ H:=q φ H σ (Step.refl _ _) x.rh x.rs x.sg
def ZlB:PSs X [] (tHS Z Zjw):=pss_nil.imp fun D σ H ⟨φ,h,ρ,x,q⟩=>x.nx q
def ZsH {D:Ends}{σ:St}{H:Hp}(h:tHS Z (Zf2 F G) D σ H):Zxl (tHS Z F) (tHS Z G) D σ H:=by
 obtain ⟨φ,h,ρ,x,q⟩:=h;refine ⟨φ,h,ρ,x,?_⟩;unfold Zf2 at q;cases e:F ρ h with
 | nx ρ' h'=>
  rw[e] at q;intro φ1 H1 I s1 r1 z g1;exact ⟨φ1,h',ρ',⟨g1,x.st.trans s1,r1,z⟩,Zar q s1⟩
 | rt w h'=>rw[e] at q;exact q
 | bk ρ' h'=>rw[e] at q;exact q
 | ct ρ' h'=>rw[e] at q;exact q
 | ex w h'=>rw[e] at q;exact q
 | no=>rw[e] at q;exact q
def Zh1 (h1:PS X st (tHS Z F))(h2:PSs X rest (tHS Z G)):PSs X (st::rest) (tHS Z (Zf2 F G)):=(Zef h1 h2).imp fun D σ H q=>ZsH q
def Zl7 (h1:PS X st (tHS Z F)):PSs X [st] (tHS Z F):=Zfl h1
def Zm5 (z:PE X e (tH Z f)):PS X (.Return (some e) pos) (tHS Z (Zqp f)):=(Zs9 z).imp fun D σ H ⟨φ,h,ρ,x,q⟩=>⟨φ,h,ρ,x,by
 unfold Zqp at q;cases e:f ρ h with
 | ok w h'=>rw[e] at q;exact q
 | ex w h'=>rw[e] at q;exact q
 | no=>rw[e] at q;exact q⟩
def ZkL (z:PE X e (tH Z f))(I:YbI e none pos.line X.env=pure false:=by rfl):PS X (.Expr e pos) (tHS Z (ZiD f)):=(Zfu z I).imp fun D σ H ⟨φ,h,ρ,x,q⟩=>⟨φ,h,ρ,x,by
 unfold ZiD at q;cases e:f ρ h with
 | ok w h'=>rw[e] at q;exact fun φ1 H1 v s1 r1 _=>q φ1 H1 σ s1 r1 (x.rs.step s1) x.sg
 | ex w h'=>rw[e] at q;exact q
 | no=>rw[e] at q;exact q⟩
def Zr1 (J:PT X c (tHT Z f))(z:PSs X sts (tHS Z F))(I:PSs X rest (tHS Z G)):PS X (.If c sts rest pos) (tHS Z (Zp5 f F G)):=(ZvE J z I).imp fun D σ H ⟨φ,h,ρ,x,q⟩=>⟨φ,h,ρ,x,by
 unfold Zp5 at q;cases e:f ρ h with
 | ok w h'=>
  rw[e] at q;cases w with
  | bl b=>
   cases b with
   | true=>exact ⟨true,rfl,fun φ1 H1 s1 r1=>Zkq ⟨φ1,h',ρ,x.step s1 r1,Zar q s1⟩⟩
   | false=>exact ⟨false,rfl,fun φ1 H1 s1 r1=>Zko ⟨φ1,h',ρ,x.step s1 r1,Zar q s1⟩⟩
  | _=>exact q.elim
 | ex w h'=>rw[e] at q;exact q
 | no=>rw[e] at q;exact q⟩
def Zrk (U:TgW Z gg Gt)(h:tHS Z (ZdJ Gt f) D σ H):Zx2 (tH Z f) gg D σ H:=by
 obtain ⟨φ,h,ρ,x,q⟩:=h;refine ⟨φ,h,ρ,x,?_⟩;unfold ZdJ at q;cases e:f ρ h with
 | ok w h'=>
  rw[e] at q;intro φ1 H1 v s1 r1 I;simp only at q;cases z:Gt w ρ with
  | none=>rw[z] at q;exact q.elim
  | some ρ'=>
   rw[z] at q;exact U σ H1 φ1 h' ρ w v ρ' _ (x.step s1 r1) I z fun σ' J g=>q φ1 H1 σ' s1 r1 J g
 | ex w h'=>rw[e] at q;exact q
 | no=>rw[e] at q;exact q
def Zo4 (U:X.N.Nodup)(hi:X.N[i]?=some x)(I:Loc X.env.scope x)(z:∀ σ v,Z.sg σ->Z.sg (σ.set i (some v)))(Y:PE X e (tH Z f))(J:YbI e (some (.Name x pos')) pos.line X.env=pure false:=by rfl)
  (hf:X.fn x=true\/X.env.scope.names.lookup x=some .local:=by first | exact .inl rfl | exact .inr rfl | assumption):PS X (.Assign [.Name x pos'] e pos) (tHS Z (ZdJ (gN i) f)):=(ZtR U hi I Y J hf).imp fun D σ H q=>Zrk (Zi9 z) q
def Zfg {gg:TG}{Gt:Tg}(hw:TgW Z gg Gt){J:It}{D:Ends}{ws:List W}{φ1:List Yaq}{H1:Hp}{h1:Mem}{σ:St}{ρ:Sg}(x:Here Z σ H1 φ1 h1 ρ)(it:ItOk Z.T φ1 H1 J ws fun _=>True)(q:(ZbN Gt B ws ρ h1).post Z φ1 H1 D) :
  ∃ Wd:Nat->Nat->St->Hp->Prop,(∃ m,Wd 0 m σ H1)/\∀ i m σ H,Wd i m σ H->(J.stop i H/\D.nx σ H)\/(J.go i H/\∃ N:St->Hp->Prop,(∀ σ' H',N σ' H'->∃ m',m'<m/\Wd (i+1) m' σ' H') /\
   ∀ v H',J.yld i H v H'->gg v σ H' fun Y H2=>tHS Z B { D with nx:=N,ct:=N,bk:=D.nx } Y H2):=by
 refine ⟨fun i m σ H=>m=ws.length - i/\i<=ws.length/\∃ φ h ρ,Step φ1 H1 φ H/\Here Z σ H φ h ρ/\(ZbN Gt B (ws.drop i) ρ h).post Z φ H D,⟨ws.length,by simp,Ycy _,φ1,h1,ρ,Step.refl _ _,x,q⟩,?_⟩;rintro i m σ H ⟨rfl,hi,φ,h,ρ,s,y,q⟩;by_cases I:i<ws.length
 ·have ed:ws.drop i=ws[i]::ws.drop (i+1):=Yb9 I;have ei:ws[i]?=some ws[i]:=by simp[I]
  refine .inr ⟨it.go φ H h i _ s y.rh trivial ei,fun σ' H'=>i+1<=ws.length/\∃ φ h ρ,Step φ1 H1 φ H'/\Here Z σ' H' φ h ρ/\(ZbN Gt B (ws.drop (i+1)) ρ h).post Z φ H' D,fun σ' H' p=>⟨ws.length - (i+1),by omega,rfl,p⟩,fun v H' yl=>?_⟩;obtain ⟨rfl,aa⟩:=it.yld φ H h i _ v H' s y.rh trivial ei yl;rw[ed] at q;unfold ZbN at q;cases e2:Gt ws[i] ρ with
  | none=>rw[e2] at q;exact q.elim
  | some ρ'=>
   rw[e2] at q;simp only at q;refine hw σ H' φ h ρ _ v ρ' _ y aa e2 fun σ' rs g=>⟨φ,h,ρ',⟨g,y.st,y.rh,rs⟩,?_⟩
   cases e3:B ρ' h with
   | nx z h2=>
    rw[e3] at q;exact fun φ2 H2 Y s2 r2 U g2=>⟨I,φ2,h2,z,s.trans s2,⟨g2,y.st.trans s2,r2,U⟩,Zar q s2⟩
   | ct z h2=>
    rw[e3] at q;exact fun φ2 H2 Y s2 r2 U g2=>⟨I,φ2,h2,z,s.trans s2,⟨g2,y.st.trans s2,r2,U⟩,Zar q s2⟩
   | bk z h2=>rw[e3] at q;exact q
   | rt w2 h2=>rw[e3] at q;exact q
   | ex w2 h2=>rw[e3] at q;exact q
   | no=>rw[e3] at q;exact q.elim
 ·have e:i=ws.length:=by omega
  subst e;rw[Ydt] at q;exact .inl ⟨it.stop φ H h s y.rh trivial,y.nx q⟩
noncomputable def xIl (f:Ex):Ei:=fun ρ h=>match f ρ h with
 | .ok (.tl ws) h'=>.ok none ws h'
 | .ok (.ref n) h'=>(match h'[n]? with
  | some (.lst ws)=>.ok (some n) ws h'
  | _=>.no)
 | .ex w h'=>.ex w h'
 | _=>.no
theorem Za6:∀ {ws:List W} {vs:List V} {i:Nat} {w:W},RWs T φ H ws vs->ws[i]?=some w->∃ v,vs[i]?=some v/\RW T φ H w v
 | [],_,_,_,_,e=>by simp at e
 | w::ws,vs,i,u,h,e=>by
  unfold RWs at h;obtain ⟨v,r,rfl,a,b⟩:=h;cases i with
  | zero=>simp at e;subst e;exact ⟨v,by simp,a⟩
  | succ i=>
   obtain ⟨x,p,q⟩:=Za6 (i:=i) b (by simpa using e);exact ⟨x,by simpa using p,q⟩
def Zkx (h:PE X iter (tH Z f)):PI X tg iter (tHI Z (xIl f)):=by
 intro pins s σ H R I q;have base:∀ b o,X.base.get? b=some o->H b=none:=fun b o e=>(I.bs b o e).2
 refine Zof h pins s σ H R I ?_;obtain ⟨φ,m,ρ,x,q⟩:=q;refine ⟨φ,m,ρ,x,?_⟩;unfold xIl at q;cases e:f ρ m with
 | no=>rw[e] at q;exact q.elim
 | ex w h'=>rw[e] at q;exact q
 | ok w h'=>
  rw[e] at q;intro φ1 H1 v s1 r1 ac;cases w with
  | tl ws=>
   unfold RW at ac;obtain ⟨p,vs,rfl,np,hp,aa⟩:=ac;refine ⟨p,rfl,⟨vs,Zad hp⟩,q φ1 H1 _ s1 r1 trivial ?_⟩;obtain ⟨o,ho,ko⟩:=Zcu hp;refine ⟨fun φ2 H2 h2 i w s2 r2 _ ei=>?_,fun φ2 H2 h2 i w y H' s2 r2 _ ei yl=>?_,fun φ2 H2 h2 s2 r2 _=>?_⟩
   ·obtain ⟨v,ev,_⟩:=Za6 aa ei;exact ⟨vs,v,Zad (ko H2 (s2.keep _ _ ho np)),ev⟩
   ·obtain ⟨v,ev,rv⟩:=Za6 aa ei;obtain ⟨rfl,z⟩:=yl;have:=z vs (Zad (ko _ (s2.keep _ _ ho np)));rw[ev] at this;cases this;exact ⟨rfl,rv.step s2⟩
   ·exact ⟨vs,Zad (ko H2 (s2.keep _ _ ho np)),by rw[aa.length];exact Yak _⟩
  | ref n=>
   simp only at q;cases e2:h'[n]? with
   | none=>rw[e2] at q;exact q.elim
   | some o=>
    rw[e2] at q;cases o with
    | lst ws=>
     simp only at q;unfold RW at ac;obtain ⟨p,hp,rfl⟩:=ac;have rd:∀ φ2 H2 h2,Step φ1 H1 φ2 H2->RH Z.T φ2 h2 H2->h2[n]?=some (.lst ws)->∃ vs,H2 p=some (.lst vs)/\RWs Z.T φ2 H2 ws vs:=fun φ2 H2 h2 s2 r2 e3=>by
      obtain ⟨ho,y1,y2⟩:=r2.obj n _ p e3 (s2.get hp);obtain ⟨vs,rfl,y3⟩:=y2;exact ⟨vs,y1,y3⟩
     obtain ⟨vs,hv,aa⟩:=rd φ1 H1 h' (Step.refl _ _) r1 e2;refine ⟨p,rfl,⟨vs,Zad (Zaz hv)⟩,q φ1 H1 _ s1 r1 e2 ⟨fun φ2 H2 h2 i w s2 r2 e3 ei=>?_,fun φ2 H2 h2 i w y H' s2 r2 e3 ei yl=>?_,fun φ2 H2 h2 s2 r2 e3=>?_⟩⟩
     ·obtain ⟨Y,U,J⟩:=rd φ2 H2 h2 s2 r2 e3;obtain ⟨v,ev,_⟩:=Za6 J ei;exact ⟨Y,v,Zad (Zaz U),ev⟩
     ·obtain ⟨Y,U,J⟩:=rd φ2 H2 h2 s2 r2 e3;obtain ⟨v,ev,rv⟩:=Za6 J ei;obtain ⟨rfl,z⟩:=yl;have:=z Y (Zad (Zaz U));rw[ev] at this;cases this;exact ⟨rfl,rv⟩
     ·obtain ⟨Y,U,J⟩:=rd φ2 H2 h2 s2 r2 e3;exact ⟨Y,Zad (Zaz U),by rw[J.length];exact Yak _⟩
    | _=>exact q.elim
  | _=>exact q.elim
noncomputable def xIt (f:Ex):Ei:=fun ρ h=>match f ρ h with
 | .ok (.tup ws) h'=>.ok none ws h'
 | .ex w h'=>.ex w h'
 | _=>.no
def ZnS (h:PE X iter (tH Z f)):PI X tg iter (tHI Z (xIt f)):=(ZrL h).imp fun σ H R ⟨φ,m,ρ,x,q⟩=>⟨φ,m,ρ,x,by
 unfold xIt at q;cases e:f ρ m with
 | no=>rw[e] at q;exact q.elim
 | ex w h'=>rw[e] at q;exact q
 | ok w h'=>
  rw[e] at q;intro φ1 H1 v s1 r1 J;cases w with
  | tup ws=>
   unfold RW at J;obtain ⟨p,vs,rfl,np,U,I⟩:=J;refine ⟨p,rfl,⟨vs,Zav (Zbn U)⟩,q φ1 H1 _ s1 r1 trivial ?_⟩;refine ⟨fun φ2 H2 h2 i w s2 r2 _ Y=>?_,fun φ2 H2 h2 i w y H' s2 r2 _ Y yl=>?_,fun φ2 H2 h2 s2 r2 _=>?_⟩
   ·obtain ⟨v,ev,_⟩:=Za6 I Y;exact ⟨vs,v,Zav (Zbn (s2.keep _ _ U np)),ev⟩
   ·obtain ⟨v,ev,rv⟩:=Za6 I Y;obtain ⟨rfl,z⟩:=yl;have:=z vs (Zav (Zbn (s2.keep _ _ U np)));rw[ev] at this;cases this;exact ⟨rfl,rv.step s2⟩
   ·exact ⟨vs,Zav (Zbn (s2.keep _ _ U np)),by rw[I.length];exact Yak _⟩
  | _=>exact q.elim⟩
noncomputable def ZiC (lo:Int)(n:Nat):List W:=(YbM n).map fun (i:Nat)=>.int (lo+(i:Int))
def ZgG {lo:Int}{n i:Nat}{w:W}(h:(ZiC lo n)[i]?=some w):i<n/\w=.int (lo+i):=by
 unfold ZiC at h;rw[YaU] at h;by_cases hi:i<n
 ·rw[List.getElem?_range hi] at h;simp at h;exact ⟨hi,h.symm⟩
 ·rw[YbL (by simpa using hi)] at h;cases h
def ZrJ {T:CTb}{φ:List Yaq}{H:Hp}{lo:Int}{n:Nat}{P:Mem->Prop}:ItOk T φ H (Itr lo n) (ZiC lo n) P:=
 ⟨fun φ2 H2 h2 i w s2 J _ z=>(ZgG z).1,fun φ2 H2 h2 i w y H' s2 J _ z I=>⟨I.1,by rw[(ZgG z).2,I.2];unfold RW;rfl⟩,fun φ2 H2 h2 s2 J _=>by show n<=_;simp[ZiC]⟩
def ZhL (f:Ex):Ei:=fun ρ h=>match f ρ h with
 | .ok (.int j) h'=>cond (decide (-(2 ^ 62)<=j) && decide (j<2 ^ 62)) (.ok none (ZiC 0 j.toNat) h') .no
 | .ex w h'=>.ex w h'
 | _=>.no
def ZaO {T:CTb}{φ:List Yaq}{H:Hp}{v:V}{c:Int}(h:RW T φ H (.int c) v):v=.int c:=by unfold RW at h;exact h
def ZaX {T:CTb}{φ:List Yaq}{H:Hp}{v:V}{c:Str}(h:RW T φ H (.str c) v):v=.str c:=by unfold RW at h;exact h
def Zhy (hg:Gl X "range")(U:X.mg "range"=none)(ha:PE X a (tH Z f))(J:Yah [a] X.env=[(false,YbT a X.env)]:=by rfl)(Y:X.calm=true:=by rfl):PI X tg (.Call (.Name "range" p) [a] [] pos) (tHI Z (ZhL f)):=
 (Zic hg U (Zbd ha pa_nil J) J Y).imp fun σ H R ⟨φ,m,ρ,x,q⟩=>⟨φ,m,ρ,x,by
  unfold ZhL at q;cases e:f ρ m with
  | no=>rw[e] at q;exact q.elim
  | ex w h'=>rw[e] at q;exact q
  | ok w h'=>
   rw[e] at q;intro φ1 H1 v s1 r1 I;cases w with
   | int j=>
    simp only at q;cases z:(decide (-(2 ^ 62)<=j) && decide (j<2 ^ 62)) with
    | true=>
     rw[z] at q;simp only[Yaa,decide_eq_true_eq] at z;rw[ZaO I];exact ⟨j,rfl,z.1,z.2,q φ1 H1 _ s1 r1 trivial ZrJ⟩
    | false=>
     rw[z] at q;exact q.elim
   | _=>exact q.elim⟩
end
mutual
noncomputable def ltW (k:Nat):W->Bool
 | .ref n=>decide (n<k)
 | .tup ws=>Za7 k ws
 | .tl ws=>Za7 k ws
 | .td _ ws=>Za7 k ws
 | .ti _ _ ws=>Za7 k ws
 | .exc _ _ ws=>Za7 k ws
 | .non=>true
 | .bl _=>true
 | .int _=>true
 | .str _=>true
 | .ty _=>true
 | .cls _=>true
noncomputable def Za7 (k:Nat):List W->Bool
 | []=>true
 | w::ws=>ltW k w && Za7 k ws
end
def ltO (k:Nat):O->Bool
 | .lst ws=>Za7 k ws
 | .dic kvs=>Za7 k (kvs.map (·.2))
 | .fdic kvs=>Za7 k (kvs.map (·.2))
 | .ins _ fs=>Za7 k (fs.map (·.2))
section
variable {T:CTb} {φ φ':List Yaq} {H H':Hp}
mutual
theorem RW.lt:∀ {w:W} {v:V},RW T φ H w v->ltW φ.length w=true
 | .non,v,h=>by unfold ltW;rfl
 | .bl b,v,h=>by unfold ltW;rfl
 | .int i,v,h=>by unfold ltW;rfl
 | .str x,v,h=>by unfold ltW;rfl
 | .ty n,v,h=>by unfold ltW;rfl
 | .cls c,v,h=>by unfold ltW;rfl
 | .ref n,v,h=>by
  unfold RW at h;unfold ltW;obtain ⟨a,e,q⟩:=h;exact decide_eq_true (YaA.mp e).1
 | .tup ws,v,h=>by
  unfold RW at h;unfold ltW;obtain ⟨p,vs,e,n,q,r⟩:=h;exact RWs.lt r
 | .tl ws,v,h=>by
  unfold RW at h;unfold ltW;obtain ⟨p,vs,e,n,q,r⟩:=h;exact RWs.lt r
 | .td ks ws,v,h=>by
  unfold RW at h;unfold ltW;obtain ⟨p,vs,e,n,q,l,r⟩:=h;exact RWs.lt r
 | .ti c fs ws,v,h=>by
  unfold RW at h;unfold ltW;obtain ⟨p,C,dx,vs,e,n,c,q,l,r⟩:=h;exact RWs.lt r
 | .exc c fs ws,v,h=>by
  unfold RW at h;unfold ltW;obtain ⟨e,C,d,vs,q,n,c,x,l,m,r⟩:=h;exact RWs.lt r
theorem RWs.lt:∀ {ws:List W} {vs:List V},RWs T φ H ws vs->Za7 φ.length ws=true
 | [],vs,h=>by unfold Za7;rfl
 | w::ws,vs,h=>by
  unfold RWs at h;unfold Za7;obtain ⟨v,r,e,a,b⟩:=h;rw[RW.lt a,RWs.lt b];rfl
end
mutual
theorem RW.narrow (I:φ <+: φ'):∀ {w:W} {v:V},ltW φ.length w=true->RW T φ' H w v->RW T φ H w v
 | .non,v,l,h=>by unfold RW at h ⊢;exact h
 | .bl b,v,l,h=>by unfold RW at h ⊢;exact h
 | .int i,v,l,h=>by unfold RW at h ⊢;exact h
 | .str x,v,l,h=>by unfold RW at h ⊢;exact h
 | .ty n,v,l,h=>by unfold RW at h ⊢;exact h
 | .cls c,v,l,h=>by unfold RW at h ⊢;exact h
 | .ref n,v,l,h=>by
  unfold RW at h ⊢;unfold ltW at l;obtain ⟨a,e,q⟩:=h;refine ⟨a,?_,q⟩;obtain ⟨t,rfl⟩:=I;rw[YaM (of_decide_eq_true l)] at e;exact e
 | .tup ws,v,l,h=>by
  unfold RW at h ⊢;unfold ltW at l;obtain ⟨p,vs,e,n,q,r⟩:=h;exact ⟨p,vs,e,fun z=>n (I.subset z),q,RWs.narrow I l r⟩
 | .tl ws,v,l,h=>by
  unfold RW at h ⊢;unfold ltW at l;obtain ⟨p,vs,e,n,q,r⟩:=h;exact ⟨p,vs,e,fun z=>n (I.subset z),q,RWs.narrow I l r⟩
 | .td ks ws,v,l,h=>by
  unfold RW at h ⊢;unfold ltW at l;obtain ⟨p,vs,e,n,q,g,r⟩:=h;exact ⟨p,vs,e,fun z=>n (I.subset z),q,g,RWs.narrow I l r⟩
 | .ti c fs ws,v,l,h=>by
  unfold RW at h ⊢;unfold ltW at l;obtain ⟨p,C,dx,vs,e,n,c,q,g,r⟩:=h;exact ⟨p,C,dx,vs,e,fun z=>n (I.subset z),c,q,g,RWs.narrow I l r⟩
 | .exc c fs ws,v,l,h=>by
  unfold RW at h ⊢;unfold ltW at l;obtain ⟨e,C,d,vs,q,n,c,x,g,m,r⟩:=h;refine ⟨e,C,d,vs,q,fun z=>n (I.subset z),c,x,g,?_,RWs.narrow I l r⟩;cases d with
  | none=>exact m
  | some da=>exact ⟨fun z=>m.1 (I.subset z),m.2⟩
theorem RWs.narrow (z:φ <+: φ'):∀ {ws:List W} {vs:List V},Za7 φ.length ws=true->RWs T φ' H ws vs->RWs T φ H ws vs
 | [],vs,l,h=>by unfold RWs at h ⊢;exact h
 | w::ws,vs,l,h=>by
  unfold RWs at h ⊢;unfold Za7 at l;rw[Yaa] at l;obtain ⟨v,r,e,a,b⟩:=h;exact ⟨v,r,e,RW.narrow z l.1 a,RWs.narrow z l.2 b⟩
end
def Zoh {κ:Type}{ps:List (κ×W)}{I:List (κ×V)}(h:RP T φ H ps I):Za7 φ.length (ps.map (·.2))=true:=by
 induction h with
 | nil=>unfold Za7;rfl
 | cons a _ z=>rw[Yap];unfold Za7;rw[RW.lt a.2,z];rfl
def Zcv {κ:Type}(z:φ <+: φ'){ps:List (κ×W)}{I:List (κ×V)}(l:Za7 φ.length (ps.map (·.2))=true)(h:RP T φ' H ps I):RP T φ H ps I:=by
 induction h with
 | nil=>exact .nil
 | cons a _ J=>
  rw[Yap] at l;unfold Za7 at l;rw[Yaa] at l;exact .cons ⟨a.1,RW.narrow z l.1 a.2⟩ (J l.2)
theorem RO.lt {o:O}{ho:HO}(h:RO T φ H o ho):ltO φ.length o=true:=by
 cases o with
 | lst ws=>obtain ⟨vs,e,r⟩:=h;exact RWs.lt r
 | dic kvs=>obtain ⟨kv,e,r⟩:=h;exact Zoh r
 | ins c fs=>obtain ⟨C,dx,z,e,c,r⟩:=h;exact Zoh r
 | fdic kvs=>obtain ⟨ob,kv,e,r⟩:=h;exact Zoh r
theorem RO.narrow (z:φ <+: φ'){o:O}{ho:HO}(l:ltO φ.length o=true)(h:RO T φ' H o ho):RO T φ H o ho:=by
 cases o with
 | lst ws=>obtain ⟨vs,e,r⟩:=h;exact ⟨vs,e,RWs.narrow z l r⟩
 | dic kvs=>obtain ⟨kv,e,r⟩:=h;exact ⟨kv,e,Zcv z l r⟩
 | ins c fs=>obtain ⟨C,dx,I,e,c,r⟩:=h;exact ⟨C,dx,I,e,c,Zcv z l r⟩
 | fdic kvs=>obtain ⟨ob,kv,e,r⟩:=h;exact ⟨ob,kv,e,Zcv z l r⟩
def Wf (h:Mem):Prop:=∀ o∈h,ltO h.length o=true
def RH.wf (r:RH T φ h H):Wf h:=fun o m=>by
 obtain ⟨n,z,e⟩:=List.getElem_of_mem m;obtain ⟨a,ho,_,_,x⟩:=r.at (n:=n) (o:=o) (by simp[z,e]);rw[<-r.len];exact x.lt
def RH.drop (r:RH T φ' (h++g) H)(w:Wf h):∃ φ,φ <+: φ'/\φ.length=h.length/\RH T φ h H:=by
 have J:=r.len;rw[Ybo] at J;have z:(φ'.take h.length).length=h.length:=by rw[Yds];omega
 refine ⟨φ'.take h.length,List.take_prefix _ _,z,z,r.nd.sublist (List.take_sublist _ _),fun n o a e q=>?_⟩;have I:n<h.length:=(YaA.mp e).1;rw[Yd0 I] at q;obtain ⟨ho,x,y⟩:=r.obj n o a (by rw[YaM I];exact e) q;refine ⟨ho,x,y.narrow (List.take_prefix _ _) ?_⟩;rw[z];exact w o (Yax e)
end
def Zin (p:φ <+: φ')(h:φ'.length=φ.length):φ'=φ:=by
 obtain ⟨t,rfl⟩:=p;have:t=[]:=Yc8.mp (by simpa using h);rw[this,YbK]
noncomputable def ρC (own:Nat)(ix:List Nat)(ρ:Sg):Sg:=Ycq own none++ix.map fun j=>(ρ[j]?).join
def ZdZ (G:Tg)(c J:Ex)(I:Sg)(h:Mem):List W->List W->Option (List W)
 | [],z=>some z
 | w::r,z=>match G w I with
  | none=>none
  | some ρ=>(match c ρ (h++[.lst z]) with
   | .ok (.bl true) _=>(match J ρ (h++[.lst z]) with
    | .ok x _=>if ltW h.length x=true then ZdZ G c J I h r (z++[x]) else none
    | _=>none)
   | .ok (.bl false) _=>ZdZ G c J I h r z
   | _=>none)
def Za9 (fi:Ei)(own:Nat)(ix:List Nat)(G:Tg)(c z:Ex):Ex:=fun ρ h=>match fi ρ h with
 | .ok _ ws h1=>if ws.length<Yai then (match ZdZ G c z (ρC own ix ρ) h1 ws [] with
  | some out=>.ok (.tl out) h1
  | none=>.no) else .no
 | .ex w h1=>.ex w h1
 | .no=>.no
class Pu (f:Ex):Prop where
 pu:∀ ρ h w h',f ρ h=.ok w h'->h'=h
noncomputable def Zb (T:CTb)(own:List Str)(ix:List Nat)(σ:St):Zc:=⟨T,[],fun _=>none,fun σ'=>leS (σC own ix σ) σ',fun _ _=>False⟩
def Zcl:Step [] (fun _=>none) φ H:=⟨⟨List.nil_prefix,fun _ _ e=>(by cases e),fun _ _ _=>rfl⟩,fun _ _ _ e=>by cases e⟩
theorem Zch:∀ (σ:St),leS σ σ
 | []=>trivial
 | none::r=>Zch r
 | some x::r=>⟨rfl,Zch r⟩
theorem ZfI:∀ {σ σ':St} {i:Nat} {o:Option V},leS σ σ'->σ[i]?=some none->leS σ (σ'.set i o)
 | [],_,_,_,h,e=>by simp at e
 | none::r,[],_,_,h,_=>h.elim
 | some x::r,[],_,_,h,_=>h.elim
 | none::r,y::s,0,o,h,_=>h
 | some x::r,y::s,0,o,h,e=>by simp at e
 | none::r,y::s,i+1,o,h,e=>ZfI (σ:=r) (σ':=s) h (by simpa using e)
 | some x::r,y::s,i+1,o,h,e=>⟨h.1,ZfI (σ:=r) (σ':=s) h.2 (by simpa using e)⟩
def Zgp (hi:i<own.length):∀ σ' v,(Zb T own ix σ).sg σ'->(Zb T own ix σ).sg (σ'.set i (some v)):=fun σ' v h=>ZfI h (by
 unfold σC;rw[YaM (by simpa using hi)];simp[hi])
def Zx5 (r:RS T φ H ρ σ):RS T φ H (ρC own.length ix ρ) (σC own ix σ):=by
 refine ⟨by simp[ρC,σC],fun i w e=>?_⟩;unfold ρC at e;unfold σC;by_cases hi:i<own.length
 ·rw[YaM (by simpa using hi)] at e;simp[hi] at e
 ·rw[YaX (by simpa using hi),YcB,YaU] at e;rw[YaX (by simpa using hi),YcB,YaU];cases q:ix[i - own.length]? with
  | none=>rw[q] at e;cases e
  | some j=>
   rw[q] at e;have e:(ρ[j]?).join=some w:=YaT e;have I:ρ[j]?=some (some w):=by
    cases z:ρ[j]? with
    | none=>rw[z] at e;cases e
    | some o=>rw[z] at e;exact congrArg some e
   obtain ⟨v,a,b⟩:=r.var j w I;exact ⟨v,by rw[Yan,a];rfl,b⟩
theorem Zcj:∀ {ws:List W} {vs:List V},RWs T φ H ws vs->RW T φ H w v->RWs T φ H (ws++[w]) (vs++[v])
 | [],vs,h,q=>by unfold RWs at h;subst h;unfold RWs;exact ⟨v,[],rfl,q,by unfold RWs;rfl⟩
 | x::ws,vs,h,q=>by
  unfold RWs at h;obtain ⟨y,r,rfl,a,b⟩:=h;rw[YbN,YbN];unfold RWs;exact ⟨y,_,rfl,a,Zcj b q⟩
section
variable {X:Cx} {Z:Zc} {f g k:Ex} {fa:Exs} {fi:Ei} {osc:YcQ} {N own fr:List Str} {ix:List Nat} {scope:YcQ} {tg iter elt:YaQ} {ifs:List YaQ} {pos:Pos} {e c:YaQ}
def ZkX:PCs X [] (tHT Z (xC (.bl true))):=fun pins s σ H Q I ⟨φ,h,ρ,x,b,e,k⟩=>by
 cases e;exact Zh7 pins s σ H Q I (k φ H (Step.refl _ _) x.rh)
def Zk8 (h:PT X c (tHT Z f)):PCs X [c] (tHT Z f):=fun pins s σ H Q I q=>by
 refine Zlj h Zh7 pins s σ H Q I ?_;obtain ⟨φ,h,ρ,x,q⟩:=q;exact ⟨φ,h,ρ,x,q.mono fun w h' ⟨b,e,k⟩=>⟨b,e,fun φ' H' s r=>by
  cases b with
  | true=>exact Zkq (k φ' H' s r)
  | false=>exact Zko (k φ' H' s r)⟩⟩
def Zgi (hG:TgW (Zb T own ix σ) gg G)[hc:Pu cc][he:Pu el](hz:ws.length<Yai)
  (r1:RH T φ1 h1 H1) (rs:RS T φ1 H1 ρ σ) (sp:ZhK src ws h1) (it:ItOk T φ1 H1 J ws (ZhK src ws)) (q:ZdZ G cc el (ρC own.length ix ρ) h1 ws []=some out) (I:Yaq) (ha:H1 I=none)
  (k:∀ H',Step φ1 H1 φ1 H'->RH T φ1 h1 H'->RW T φ1 H' (.tl out) (.ref I)->Q H') :
  ZeM J (σC own ix σ) I gg (tHT (Zb T own ix σ) cc) (tH (Zb T own ix σ) el) Q (upd H1 I (.lst [])):=by
 have s0:=ZaQ (φ:=φ1) (ho:=.lst []) ha;have rb:=r1.new (o:=.lst []) ha (by unfold RO;exact ⟨[],rfl,by unfold RWs;rfl⟩);have ak:(φ1++[I]).length=φ1.length+1:=by simp
 have ac:∀ U,ZhK src ws (h1++[O.lst U]):=fun U=>by
  cases src with
  | none=>trivial
  | some n=>
   have sp:h1[n]?=some (.lst ws):=sp;show (h1++[O.lst U])[n]?=some (.lst ws);rw[YaM (YaA.mp sp).1];exact sp
 refine ⟨fun i m H=>m=ws.length - i/\i<=ws.length/\∃ U,Step (φ1++[I]) (upd H1 I (.lst [])) (φ1++[I]) H/\RH T (φ1++[I]) (h1++[.lst U]) H/\U.length<=i/\Za7 h1.length U=true/\ZdZ G cc el (ρC own.length ix ρ) h1 (ws.drop i) U=some out,
  ⟨ws.length,by simp,Ycy _,[],Step.refl _ _,rb,Yak _,by unfold Za7;rfl,q⟩,?_⟩
 rintro i m H ⟨rfl,hi,U,sH,Y,al,lt,q⟩;have hn:(φ1++[I])[h1.length]?=some I:=by rw[<-r1.len];simp
 by_cases aa:i<ws.length
 ·have ed:ws.drop i=ws[i]::ws.drop (i+1):=Yb9 aa;have ei:ws[i]?=some ws[i]:=by simp[aa]
  refine .inr ⟨it.go _ H _ i _ (s0.trans sH) Y (ac U) ei,fun x H' yl=>?_⟩;obtain ⟨rfl,ag⟩:=it.yld _ H _ i _ x H' (s0.trans sH) Y (ac U) ei yl;rw[ed] at q;unfold ZdZ at q;cases e2:G ws[i] (ρC own.length ix ρ) with
  | none=>rw[e2] at q;cases q
  | some ρ'=>
   rw[e2] at q;simp only at q;have x0:Here (Zb T own ix σ) (σC own ix σ) H' (φ1++[I]) (h1++[.lst U]) (ρC own.length ix ρ):=⟨Zch _,Zcl,Y,Zx5 (rs.step (s0.trans sH))⟩;refine hG _ _ _ _ _ _ x ρ' _ x0 ag e2 fun σ' ai le=>⟨le,?_⟩
   have x1:Here (Zb T own ix σ) σ' H' (φ1++[I]) (h1++[.lst U]) ρ':=⟨le,Zcl,Y,ai⟩;refine ⟨_,_,ρ',x1,?_⟩;cases e3:cc ρ' (h1++[.lst U]) with
   | no=>rw[e3] at q;cases q
   | ex w h2=>rw[e3] at q;cases q
   | ok w h2=>
    have eh:=hc.pu _ _ _ _ e3;subst eh;rw[e3] at q;cases w with
    | bl b=>
     refine ⟨b,rfl,fun aj H3 s3 r3=>?_⟩;have e4:aj=φ1++[I]:=Zin s3.pre (by rw[r3.len,Y.len]);subst e4;cases b with
     | false=>
      refine Zko ⟨ws.length - (i+1),by omega,rfl,aa,U,sH.trans s3,r3,by omega,lt,q⟩
     | true=>
      refine Zkq ⟨_,_,ρ',x1.step s3 r3,?_⟩;simp only at q;cases e5:el ρ' (h1++[.lst U]) with
      | no=>rw[e5] at q;cases q
      | ex w h2=>rw[e5] at q;cases q
      | ok y h2=>
       have eh:=he.pu _ _ _ _ e5;subst eh;rw[e5] at q;simp only at q;split at q
       ·rename_i ly;intro ah H4 v s4 r4 af;have e4:ah=φ1++[I]:=Zin s4.pre (by rw[r4.len,Y.len]);subst e4;obtain ⟨ho,y1,ys,rfl,y2⟩:=r4.obj h1.length (.lst U) I (by simp) hn;have lw:=y2.length;have s5:=ZaF (H:=H4) (ho:=.lst (ys++[v])) (Yax hn) (ZeZ y1);have r5:=r4.set (o:=.lst (U++[y])) (ho:=.lst (ys++[v])) hn (by unfold RO;exact ⟨_,rfl,Zcj y2 af⟩);rw[List.set_append_right _ _ (Yak _),Nat.sub_self,List.set_cons_zero] at r5;refine ⟨ys,y1,by omega,ws.length - (i+1),by omega,rfl,aa,U++[y],(sH.trans s3).trans (s4.trans s5),r5,by simp;omega,?_,q⟩;have ae:∀ (l:List W),Za7 h1.length l=true->Za7 h1.length (l++[y])=true:=by
         intro l
         induction l with
         | nil=>intro _;show Za7 _ [y]=true;unfold Za7;rw[ly];unfold Za7;rfl
         | cons z r ih=>
          intro hz;rw[YbN];unfold Za7 at hz ⊢;rw[Yaa] at hz;rw[hz.1,ih hz.2];rfl
        exact ae U lt
       ·cases q
    | _=>cases q
 ·have e:i=ws.length:=by omega
  subst e;rw[Ydt] at q;unfold ZdZ at q;have q:=YaT q;subst q;refine .inl ⟨it.stop _ H _ (s0.trans sH) Y (ac _),?_⟩;have s2:Step φ1 H1 φ1 H:=⟨⟨Ycp _,fun a o e n=>(s0.trans sH).keep a o e n,fun _ m n=>absurd m n⟩,fun a o u e=>(s0.trans sH).fr a o u e⟩;obtain ⟨φ2,p2,l2,r2⟩:=Y.drop r1.wf;have e2:φ2=φ1:=by
   have:=Ydm p2 (YdP φ1 [I]) (by rw[l2,<-r1.len];exact Yak _);exact (Zin this (by rw[l2,<-r1.len])).symm
  subst e2;obtain ⟨ho,y1,ys,rfl,y2⟩:=Y.obj h1.length (.lst U) I (by simp) hn;refine k H s2 r2 ?_;unfold RW;exact ⟨I,ys,rfl,r1.fresh ha,Zaz y1,y2.narrow (YdP _ _) (by rw[r1.len];exact lt)⟩
def ZnU (z:X.calm=X.calm)(ho:X.env.scope=osc)(hN:X.N=N)(hk:compOk osc N own fr ix scope=true)(hi:PI X tg iter (tHI Z fi))(hG:∀ σ,TgW (Zb Z.T own ix σ) gg G)[hc:Pu cc][he:Pu el]
  (hg:InC X own fr scope fun Y=>PG Y tg gg) (ht:∀ σ,InC X own fr scope fun Y=>PCs Y ifs (tHT (Zb Z.T own ix σ) cc)) (aa:∀ σ,InC X own fr scope fun Y=>PE Y elt (tH (Zb Z.T own ix σ) el)) (hs:∀ x,Ya1 iter X.env x=pure x:=by intro _;rfl) :
  PE X (.ListComp elt [⟨tg,iter,ifs,0⟩] scope pos) (tH Z (Za9 fi own.length ix G cc el)):=by
 intro pins s σ H Q I q;refine ZjE z ho hN hk hi hg (ht σ) (aa σ) hs pins s σ H Q I ?_;obtain ⟨φ,h,ρ,x,q⟩:=q;refine ⟨φ,h,ρ,x,?_⟩;unfold Za9 at q;cases e:fi ρ h with
 | no=>rw[e] at q;exact q.elim
 | ex w h'=>rw[e] at q;exact q
 | ok src ws h1=>
  rw[e] at q;simp only at q;split at q
  ·rename_i hz;cases U:ZdZ G cc el (ρC own.length ix ρ) h1 ws [] with
   | none=>rw[U] at q;exact q.elim
   | some out=>
    rw[U] at q;intro φ1 H1 J s1 r1 sp it ac ha;exact Zgi (hG σ) hz r1 (x.rs.step s1) sp it U ac ha fun H' s2 r2 w2=>q φ1 H' _ (s1.trans s2) r2 w2
  ·exact q.elim
def ZkG (aa:X.N.Nodup)(ag:X.N[i]?=some x)(hl:X.env.scope.names.lookup x=some .local)(ah:∀ σ v,Z.sg σ->Z.sg (σ.set i (some v)))(z:X.calm=X.calm)(ho:X.env.scope=osc)(hN:X.N=N)
  (hk:compOk osc N own fr ix scope=true) (hi:PI X tg iter (tHI Z fi)) (hG:∀ σ,TgW (Zb Z.T own ix σ) gg G) [hc:Pu cc] [he:Pu el]
  (hg:InC X own fr scope fun Y=>PG Y tg gg) (ht:∀ σ,InC X own fr scope fun Y=>PCs Y ifs (tHT (Zb Z.T own ix σ) cc)) (ac:∀ σ,InC X own fr scope fun Y=>PE Y elt (tH (Zb Z.T own ix σ) el)) (hs:∀ x,Ya1 iter X.env x=pure x:=by intro _;rfl)
  (ae:YbI (.ListComp elt [⟨tg,iter,ifs,0⟩] scope pos) (some (.Name x px)) spos.line X.env=pure true:=by rfl) :
  PS X (.Assign [.Name x px] (.ListComp elt [⟨tg,iter,ifs,0⟩] scope pos) spos) (tHS Z (ZdJ (gN i) (Za9 fi own.length ix G cc el))):=by
 intro pins s σ H D I q;refine Zf5 aa ag hl z ho hN hk hi hg (ht σ) (ac σ) hs ae pins s σ H D I ?_;obtain ⟨φ,h,ρ,x,q⟩:=q;refine ⟨φ,h,ρ,x,?_⟩;unfold ZdJ Za9 at q;cases e:fi ρ h with
 | no=>rw[e] at q;exact q.elim
 | ex w h'=>rw[e] at q;exact q
 | ok src ws h1=>
  rw[e] at q;simp only at q;by_cases hz:ws.length<Yai
  ·rw[if_pos hz] at q;cases U:ZdZ G cc el (ρC own.length ix ρ) h1 ws [] with
   | none=>rw[U] at q;exact q.elim
   | some out=>
    rw[U] at q;intro φ1 H1 J s1 r1 sp it af ha;exact Zgi (hG σ) hz r1 (x.rs.step s1) sp it U af ha fun H' s2 r2 w2=>q φ1 H' _ (s1.trans s2) r2 ((x.rs.step (s1.trans s2)).set w2) (ah _ _ x.sg)
  ·rw[if_neg hz] at q;exact q.elim
end
def RX (T:CTb)(φ:List Yaq)(H:Hp)(w:W)(cv:Yag)(da:Option Yaq):Prop:=match w with
 | .exc c fs ws=>∃ C vs,T.x c=some C/\cv=.ref C/\fs.length=ws.length/\RWs T φ H ws vs/\(match da with
  | some d=>d ∉ φ/\H d=some (.xd (fs.zip vs))
  | none=>fs=[])
 | _=>False
abbrev Fm:=List W->Mem->Res
noncomputable def spH (T:CTb)(F:Fm):Sp:=fun vs H Q E=>∃ φ h ws,RH T φ h H/\RWs T φ H ws vs/\(F ws h).post (Kv T φ H Q) (fun w h'=>∀ φ' H' cv da,Step φ H φ' H'->RH T φ' h' H'->RX T φ' H' w cv da->E cv da H')
noncomputable def ZaK (n:Nat)(ws:List W):Sg:=ws.map some++Ycq (n - ws.length) none
noncomputable def Out.res:Out->Res
 | .rt w h=>.ok w h
 | .nx _ h=>.ok .non h
 | .ex w h=>.ex w h
 | _=>.no
def ZhM (n:Nat)(B:Sm)(ws:List W)(h:Mem):Res:=(B (ZaK n ws) h).res
def Zqs (k:Nat)(r r':Res):Prop:=match r,r' with
 | .ok w h,.ok z h'=>∀ T φ' H' v,RH T φ' h' H'->RW T φ' H' z v->∃ φ1,φ1 <+: φ'/\k<=φ1.length/\RH T φ1 h H'/\RW T φ1 H' w v
 | .ex w h,.ex z h'=>∀ T φ' H' cv da,RH T φ' h' H'->RX T φ' H' z cv da->∃ φ1,φ1 <+: φ'/\k<=φ1.length/\RH T φ1 h H'/\RX T φ1 H' w cv da
 | .no,_=>True
 | _,_=>False
def Zi6 (z:k<=h.length):Zqs k (.ok w h) (.ok w h):=fun T φ' H' v r x=>⟨φ',Ycp _,by rw[r.len];exact z,r,x⟩
def Zps (z:k<=h.length):Zqs k (.ex w h) (.ex w h):=fun T φ' H' cv da r x=>⟨φ',Ycp _,by rw[r.len];exact z,r,x⟩
def ZiQ (U:k<=h.length)(J:Wf h)(Y:ltW h.length w=true):Zqs k (.ok w h) (.ok w (h++g)):=fun T φ' H' v r x=>by
 obtain ⟨φ1,I,z,r1⟩:=r.drop J;exact ⟨φ1,I,by rw[z];exact U,r1,x.narrow I (by rw[z];exact Y)⟩
noncomputable def Zf (T:CTb)(φ:List Yaq)(H:Hp):Zc:=⟨T,φ,H,fun _=>True,fun _ _=>False⟩
def Zcf (r:RWs T φ H ws vs):RS T φ H (ZaK N.length ws) (L2.start N vs):=by
 have z:=r.length;refine ⟨by simp[ZaK,L2.start,z],fun i w e=>?_⟩;unfold ZaK at e;unfold L2.start;by_cases hi:i<ws.length
 ·rw[YaM (by simpa using hi),YaU] at e;cases q:ws[i]? with
  | none=>rw[q] at e;cases e
  | some u=>
   rw[q] at e;cases e;obtain ⟨v,a,b⟩:=Za6 r q;exact ⟨v,by rw[YaM (by simpa [<-z] using hi),YaU,a];rfl,b⟩
 ·rw[YaX (by simpa using hi),Yc5] at e;split at e<;>cases e
def Zbe (s:Step φ H φ' H')(p:φ1 <+: φ')(l:φ.length<=φ1.length):Step φ H φ1 H':=
 ⟨⟨Ydm s.pre p l,s.keep,fun a m n=>s.new a (p.subset m) n⟩,s.fr⟩
def Zjg {T:CTb}{φ:List Yaq}{H:Hp}{h:Mem}{o:Out}{r:Res}{Q:VK}{E:W->Mem->Prop}(hl:φ.length=h.length)(I:Zqs h.length r o.res)(q:r.post (Kv T φ H Q) E)(hE:∀ w m Y z,r=.ex w m->o=.ex Y z->False) :
  o.post (Zf T φ H) φ H { nx:=fun _ H'=>Q .non H',rt:=Q }:=by
 cases r with
 | no=>exact q.elim
 | ex w m=>
  cases o with
  | ex Y z=>exact (hE _ _ _ _ rfl rfl).elim
  | _=>exact I.elim
 | ok w m=>
  cases o with
  | rt Y z=>
   intro φ' H' v s r x;obtain ⟨φ1,p1,J,r1,U⟩:=I T φ' H' v r x;exact q φ1 H' v (Zbe s p1 (by rw[hl];exact J)) r1 U
  | nx ρ' z=>
   intro φ' H' σ' s r rs _;obtain ⟨φ1,p1,J,r1,U⟩:=I T φ' H' .non r (by unfold RW;rfl);exact q φ1 H' .non (Zbe s p1 (by rw[hl];exact J)) r1 U
  | _=>exact I.elim
section
variable {P:YaN} {w:Ybg} {K:Yab} {mg:Str->Option Yag} {base:YbO} {T:CTb}
def Zkn (n m:Nat)(B:Sm)(F:Fm):Prop:=∀ ws h,Wf h->Za7 h.length ws=true->F ws h=.no\/(ws.length=n/\Zqs h.length (F ws h) (ZhM m B ws h))
def Zyv {x:Str}{st:Yce}{N ps:List Str}{k:Nat}{F:Fm}{f:Yaq}{fd:Ybc}{B:Sm}(R:Fun K x x st f fd)(S:FnScope N ps (Zaa st))
  (hB:∀ (z:Yag) (A:Ybr) (outer:List Env) (s:Yaj) (H:Hp) (E:XK) (J:List Yaq) (H0:Hp),Room k (A.deeper (Yc4 x (Zaa st) s.heap.objs.size f z))->PSs (Zcm CX0 P w K mg base N x (Zaa st) f z A outer s H E).nox (Zah st) (tHS (Zf T J H0) B))
  (Y:∀ ws h w m,F ws h≠.ex w m) (U:Zkn ps.length N.length B F):FnOk P w K mg base CX0 (k+1) f fd ps (spH T F):=by
 refine R.ok S (fun vs H Q E h=>?_) (fun z A outer s H vs Q E hr h=>?_)
 ·obtain ⟨φ,h,ws,r,I,q⟩:=h;rcases U ws h r.wf (by rw[<-r.len];exact I.lt) with e|⟨e,_⟩
  ·rw[e] at q;exact q.elim
  ·rw[<-I.length];exact e
 ·obtain ⟨φ,h,ws,r,I,q⟩:=h;refine ⟨_,hB z A outer s H E φ H hr,φ,h,ZaK N.length ws,⟨trivial,Step.refl _ _,r,Zcf I⟩,?_⟩;rcases U ws h r.wf (by rw[<-r.len];exact I.lt) with e|⟨e,ft⟩
  ·rw[e] at q;exact q.elim
  ·exact Zjg r.len ft q fun _ _ _ _ e _=>Y _ _ _ _ e
end
noncomputable def Zen (F:Fm)(f:Exs):Ex:=fun ρ h=>match f ρ h with
 | .ok ws h1=>(match F ws h1 with
  | .ok w h2=>.ok w h2
  | _=>.no)
 | .ex w h1=>.ex w h1
 | .no=>.no
section
variable {X:Cx} {Z:Zc} {fa:Exs} {k j:Nat} {F:Fm} {x:Str} {p pos:Pos} {e:YaQ} {es:List YaQ}
def Zlu (q:tH Z (Zen F fa) σ H Q):Zqz (spH Z.T F) [] E (tHA Z fa) σ H Q:=by
 obtain ⟨φ,h,ρ,x,q⟩:=q;refine ⟨φ,h,ρ,x,?_⟩;unfold Zen at q;cases e:fa ρ h with
 | no=>rw[e] at q;exact q.elim
 | ex w h'=>rw[e] at q;exact q
 | ok ws h1=>
  rw[e] at q;intro φ1 H1 vs s1 r1 I;rw[YbK];refine ⟨φ1,h1,ws,r1,I,?_⟩;simp only at q;cases z:F ws h1 with
  | no=>rw[z] at q;exact q.elim
  | ex w h'=>rw[z] at q;exact q.elim
  | ok w h2=>rw[z] at q;exact Kv.step q s1
end
instance Zzi {w:W}:Pu (xC w):=⟨fun ρ h w h' e=>by cases e;rfl⟩
noncomputable def noList (K:Yab):Bool:=K.all fun p=>match p.2.cls with
 | .type n=>n != "list"
 | _=>true
theorem Zdk [BEq α][LawfulBEq α]:∀ {l:List (α×β)},l.lookup a=some b->(a,b)∈l
 | [],h=>by simp at h
 | (x,y)::r,h=>by
  rw[YaG] at h;cases e:a == x with
  | true=>
   rw[e] at h;cases h;rw[eq_of_beq e];exact YaD
  | false=>
   rw[e] at h;exact Yau _ (Zdk h)
def ZiS {K:Yab}(h:noList K=true){a:Yaq}{o:Obj}(e:K.lookup a=some o):o.cls≠.type "list":=fun z=>by
 have:=Yaf.mp h (a,o) (Zdk e);simp[z] at this
def ZhP {K:Yab}(J:noList K=true){T:CTb}{H:Hp}{a:Yaq}{ns:List Int}(z:SqL K H a (ns.map V.int)):RW T [] H (.tl (ns.map W.int)) (.ref a):=by
 unfold RW;rcases z with z|⟨o,its,n,e,c,_⟩
 ·refine ⟨a,ns.map V.int,rfl,by simp,?_,?_⟩
  ·rcases z with q|⟨o,q⟩
   ·exact Zaz q
   ·unfold Zam;rw[q]
  ·induction ns with
   | nil=>unfold RWs;rfl
   | cons x r I=>
    have:∀ (l:List Int),RWs T [] H (l.map W.int) (l.map V.int):=by
     intro l
     induction l with
     | nil=>unfold RWs;rfl
     | cons y s I=>rw[Yap,Yap];unfold RWs;exact ⟨_,_,rfl,by unfold RW;rfl,I⟩
    exact this _
 ·exact absurd c (ZiS J e)
def Zr4:RH T [] [] H:=⟨rfl,List.nodup_nil,fun n o a e=>by simp at e⟩
def Zsy {K:Yab}{T:CTb}{F:Fm}(z:noList K=true)(U:∀ ns:List Int,ns.length<=63->∃ h,F [.tl (ns.map W.int)] []=.ok (.bl true) h):∀ vs H Q E,Zdn K vs H Q E->spH T F vs H Q E:=by
 rintro vs H Q E ⟨a,ns,rfl,J,I,_,q⟩;obtain ⟨h,e⟩:=U ns I;refine ⟨[],[],[.tl (ns.map W.int)],Zr4,?_,?_⟩
 ·unfold RWs;exact ⟨_,[],rfl,ZhP z J,by unfold RWs;rfl⟩
 ·rw[e];exact fun φ' H' v s r x=>by rw[Zby x];exact q H'
noncomputable def items (h:Mem):W->Option (List W)
 | .tl ws=>some ws
 | .ref n=>(match h[n]? with
  | some (.lst ws)=>some ws
  | _=>none)
 | _=>none
def ZgC (h:Mem):W->Option (List W)
 | .tup ws=>some ws
 | w=>items h w
section
variable {T:CTb} {φ:List Yaq} {H:Hp} {h:Mem} {w:W} {v:V} {ws:List W}
def Zay (r:RH T φ h H)(x:RW T φ H w v)(e:items h w=some ws):∃ p vs,v=.ref p/\Zam H p=some vs/\RWs T φ H ws vs:=by
 cases w with
 | tl us=>
  have e:some us=some ws:=e;cases e;unfold RW at x;obtain ⟨p,vs,a,b,c,d⟩:=x;exact ⟨p,vs,a,c,d⟩
 | ref n=>
  unfold items at e;unfold RW at x;obtain ⟨p,a,rfl⟩:=x;cases q:h[n]? with
  | none=>simp[q] at e
  | some o=>
   cases o with
   | lst us=>
    simp[q] at e;subst e;obtain ⟨ho,y,vs,rfl,z⟩:=r.obj n _ p q a;exact ⟨p,vs,rfl,Zaz y,z⟩
   | _=>simp[q] at e
 | _=>cases e
def ZdS (r:RH T φ h H)(x:RW T φ H w v)(e:ZgC h w=some ws):∃ p vs,v=.ref p/\ZaG H p=some vs/\RWs T φ H ws vs:=by
 cases w with
 | tup us=>
  have e:some us=some ws:=e;cases e;unfold RW at x;obtain ⟨p,vs,a,b,c,d⟩:=x;exact ⟨p,vs,a,ZcS c,d⟩
 | _=>
  obtain ⟨p,vs,a,b,c⟩:=Zay r x e;refine ⟨p,vs,a,?_,c⟩;rcases ZaP b with q|⟨o,q⟩
  ·exact Zi4 q
  ·unfold ZaG;rw[q]
theorem Zbq:∀ {ws us:List W} {vs xs:List V},RWs T φ H ws vs->RWs T φ H us xs->RWs T φ H (ws++us) (vs++xs)
 | [],us,vs,xs,h,q=>by unfold RWs at h;subst h;exact q
 | w::ws,us,vs,xs,h,q=>by
  unfold RWs at h;obtain ⟨v,r,rfl,a,b⟩:=h;rw[YbN,YbN];unfold RWs;exact ⟨v,_,rfl,a,Zbq b q⟩
theorem ZgR:∀ (n:Nat) {ws:List W} {vs:List V},RWs T φ H ws vs->RWs T φ H (ws.take n) (vs.take n)
 | 0,ws,vs,h=>by simp;unfold RWs;rfl
 | n+1,[],vs,h=>by unfold RWs at h;subst h;simp;unfold RWs;rfl
 | n+1,w::ws,vs,h=>by
  unfold RWs at h;obtain ⟨v,r,rfl,a,b⟩:=h;rw[List.take_succ_cons,List.take_succ_cons];unfold RWs;exact ⟨v,_,rfl,a,ZgR n b⟩
theorem Zgt:∀ (n:Nat) {ws:List W} {vs:List V},RWs T φ H ws vs->RWs T φ H (ws.drop n) (vs.drop n)
 | 0,ws,vs,h=>h
 | n+1,[],vs,h=>by unfold RWs at h;subst h;simp;unfold RWs;rfl
 | n+1,w::ws,vs,h=>by
  unfold RWs at h;obtain ⟨v,r,rfl,a,b⟩:=h;rw[List.drop_succ_cons,List.drop_succ_cons];exact Zgt n b
def Zkb {p:Yaq}{vs:List V}{Q:VK}(r:RH T φ h H)(z:H p=none)(x:RWs T φ H ws vs)(k:∀ H' u,Step φ H φ H'->RH T φ h H'->RW T φ H' (.tl ws) u->Q u H'):Q (.ref p) (upd H p (.lst vs)):=by
 have s:=ZaS (φ:=φ) (ho:=.lst vs) z;refine k _ _ s (r.tmp z) ?_;unfold RW;exact ⟨p,vs,rfl,r.fresh z,ZcJ,x.step s⟩
def Zaj {Q:VK}(r:RH T φ h H)(x:RW T φ H w v)(k:∀ H' u,Step φ H φ H'->RH T φ h H'->RW T φ H' w u->Q u H'):Q v H:=k H v (Step.refl _ _) r x
end
section
variable {X:Cx} {T:CTb}
noncomputable def iop (g:Int->Int->W)(_:Mem):W->W->Option W
 | .int i,.int j=>some (g i j)
 | _,_=>none
def Zdw {g:Int->Int->W}{z:Int->Int->V}(J:∀ φ H i j,RW T φ H (g i j) (z i j)):OpW T (iop g) (rI0 z):=by
 intro φ h H a b u v w Q r U I e k;unfold iop at e;split at e
 ·cases e;exact ⟨_,_,ZaO U,ZaO I,Zaj r (J φ H _ _) k⟩
 ·cases e
def Zo9 (C:Int->Int->Bool)(g:Int->Int->W)(_:Mem):W->W->Option W
 | .int i,.int j=>cond (C i j) (some (g i j)) none
 | _,_=>none
def Zfs {C:Int->Int->Bool}{I:Int->Int->Prop}{g:Int->Int->W}{J:Int->Int->V}(hC:∀ i j,C i j=true->I i j)(hg:∀ φ H i j,RW T φ H (g i j) (J i j)):OpW T (Zo9 C g) (rI I J):=by
 intro φ h H a b u v w Q r U Y e k;unfold Zo9 at e;split at e
 ·rename_i i j;cases z:C i j with
  | true=>
   rw[z] at e;cases e;exact ⟨_,_,ZaO U,ZaO Y,hC _ _ z,Zaj r (hg φ H _ _) k⟩
  | false=>rw[z] at e;cases e
 ·cases e
def ZaD:RW T φ H (.int i) (.int i):=by unfold RW;rfl
def Zek:RW T φ H (.bl i) (.bl i):=by unfold RW;rfl
noncomputable def Zql:RW T φ H (.str i) (.str i):=by unfold RW;rfl
def ZuX:=iop fun i j=>.int (i - j)
def Zny:OpW T ZuX (rI0 fun i j=>.int (i - j)):=Zdw fun _ _ _ _=>ZaD
def Zt9:=Zo9 (fun _ j=>decide (0<j) && decide (j<1073741824)) fun i j=>.int (i / j)
def Zn3:OpW T Zt9 (rI Zxp fun i j=>.int (i / j)):=Zfs (fun i j h=>by unfold Zxp;simp only[Yaa,decide_eq_true_eq] at h;exact h) fun _ _ _ _=>ZaD
def Zig:=Zo9 (fun _ j=>decide (0<j)) fun i j=>.int (i % j)
def ZpF:OpW T Zig (rI (fun _ j=>0<j) fun i j=>.int (i % j)):=Zfs (fun i j h=>of_decide_eq_true h) fun _ _ _ _=>ZaD
def ZuR:=Zo9 (fun i j=>(decide (-(2 ^ 64)<i) && decide (i<2 ^ 64)) || (decide (-(2 ^ 64)<j) && decide (j<2 ^ 64))) fun i j=>.int (i * j)
def ZnG:OpW T ZuR (rI CMul fun i j=>.int (i * j)):=Zfs (fun i j h=>by unfold CMul;simp only[YaP,Yaa,decide_eq_true_eq] at h;exact h) fun _ _ _ _=>ZaD
def ZnP:=iop fun i j=>.int (YeC i j)
def Zl5:OpW T ZnP (rI0 fun i j=>.int (YeC i j)):=Zdw fun _ _ _ _=>ZaD
def Zwt:=iop fun i j=>.int (YeW i j)
def Znc:OpW T Zwt (rI0 fun i j=>.int (YeW i j)):=Zdw fun _ _ _ _=>ZaD
noncomputable def ltM:=iop fun i j=>.bl (decide (i<j))
def ZtW:OpW T ltM (rI0 fun i j=>.bl (decide (i<j))):=Zdw fun _ _ _ _=>Zek
noncomputable def gtM:=iop fun i j=>.bl (decide (j<i))
def ZtH:OpW T gtM (rI0 fun i j=>.bl (decide (j<i))):=Zdw fun _ _ _ _=>Zek
noncomputable def geM:=iop fun i j=>.bl (decide (j<=i))
def Zr2:OpW T geM (rI0 fun i j=>.bl (decide (j<=i))):=Zdw fun _ _ _ _=>Zek
def rLe:R2:=fun x y H Q=>rI0 (fun i j=>.bl (decide (i<=j))) x y H Q\/∃ i j,x=.str i/\y=.str j/\Q (.bl (!decide (j.cps.toList<i.cps.toList))) H
def Zsv:OpR X (YaV .LtE) rLe:=by
 refine OpR.or Zu4 ?_;intro pins s σ H x y v u Q I J z h;obtain ⟨i,j,rfl,rfl,q⟩:=h;obtain ⟨t,rfl⟩:=J;obtain ⟨t',rfl⟩:=z;exact PySem.P.le_str (fin_bl I q rfl)
noncomputable def Zjv (i j:Str):Bool:=!decide (j.cps.toList<i.cps.toList)
def leM (_:Mem):W->W->Option W
 | .int i,.int j=>some (.bl (decide (i<=j)))
 | .str i,.str j=>some (.bl (Zjv i j))
 | _,_=>none
def ZrT:OpW T leM rLe:=by
 intro φ h H a b u v w Q r I z e k;unfold leM at e;split at e
 ·cases e;exact .inl ⟨_,_,ZaO I,ZaO z,Zaj r Zek k⟩
 ·cases e;exact .inr ⟨_,_,ZaX I,ZaX z,Zaj r Zek k⟩
 ·cases e
def ZuL (_:Mem):W->Option W
 | .int i=>some (.int (YeD i))
 | _=>none
def Znh:UnW T ZuL (rU fun i=>.int (YeD i)):=by
 intro φ h H a u w Q r z e k;unfold ZuL at e;split at e
 ·cases e;exact ⟨_,ZaO z,Zaj r ZaD k⟩
 ·cases e
def ZfK (h:Mem)(a b:W):Option W:=match a,b with
 | .int i,.int j=>some (.int (i+j))
 | .str x,.str y=>if x.length+y.length<=Yai then some (.str (x++y)) else none
 | a,b=>(match items h a,items h b with
  | some xs,some ys=>if xs.length+ys.length<=Yai then some (.tl (xs++ys)) else none
  | _,_=>none)
def Zp3:OpW T ZfK ZuT:=by
 intro φ h H a b u v w Q r I J e k;unfold ZfK at e;split at e
 ·cases e;rw[ZaO I,ZaO J];exact Zaj r ZaD k
 ·split at e
  ·rename_i hz;cases e;rw[ZaX I,ZaX J];exact ⟨hz,Zaj r Zql k⟩
  ·cases e
 ·split at e
  ·rename_i xs ys e1 e2;obtain ⟨p,vs,rfl,q1,U⟩:=Zay r I e1;obtain ⟨p',aa,rfl,q3,Y⟩:=Zay r J e2;split at e
   ·rename_i hz;cases e;show ZaZ (Zam H p) _;rw[q1];show ZaZ (Zam H p') _;rw[q3];exact ⟨by rw[<-U.length,<-Y.length];exact hz,fun z hp=>Zkb r hp (Zbq U Y) k⟩
   ·cases e
  ·cases e
def ixM (h:Mem)(a b:W):Option W:=match b with
 | .int i=>(match a with
  | .str z=>if z.length<=Yai then (atI z.cps.toList i).map fun c=>.str ⟨#[c]⟩ else none
  | a=>(ZgC h a).bind fun xs=>atI xs i)
 | _=>none
def Zn1 (r:RWs T φ H ws vs)(e:atI ws i=some w):∃ v,atI vs i=some v/\RW T φ H w v:=by
 unfold atI at e ⊢;rw[<-r.length];cases q:ixN ws.length i with
 | none=>rw[q] at e;cases e
 | some j=>
  rw[q] at e;exact Za6 r e
def Zqw:OpW T ixM ixV:=by
 intro φ h H a b u v w Q r z Y e k;unfold ixM at e;split at e
 ·rw[ZaO Y];split at e
  ·split at e
   ·rename_i hz;rw[ZaX z];cases q:atI _ _ with
    | none=>rw[q] at e;cases e
    | some c=>
     rw[q] at e;cases e;refine ⟨hz,?_⟩;show ZaZ (atI _ _) _;rw[q];exact Zaj r Zql k
   ·cases e
  ·cases q:ZgC h a with
   | none=>rw[q] at e;cases e
   | some xs=>
    rw[q] at e;obtain ⟨p,vs,rfl,q1,J⟩:=ZdS r z q;obtain ⟨x,U,I⟩:=Zn1 J e;show ZaZ (ZaG H p) _;rw[q1];show ZaZ (atI vs _) _;rw[U];exact Zaj r I k
 ·cases e
noncomputable def Zaq:W->Bool
 | .non=>true
 | .bl _=>true
 | .int _=>true
 | .str _=>true
 | _=>false
noncomputable def Zdd:W->W->Bool
 | .non,.non=>true
 | .bl a,.bl b=>decide (a=b)
 | .bl a,.int b=>decide ((if a then 1 else 0)=b)
 | .int a,.bl b=>decide (a=(if b then 1 else 0))
 | .int a,.int b=>decide (a=b)
 | .str a,.str b=>decide (a=b)
 | _,_=>false
noncomputable def Zel (f:W->W->Option Bool):List W->List W->Option Bool
 | x::xs,y::ys=>match f x y,Zel f xs ys with
  | some a,some b=>some (a && b)
  | _,_=>none
 | _,_=>some true
noncomputable def sq (h:Mem):W->Option (Bool×List W)
 | .tup ws=>some (false,ws)
 | w=>(items h w).map fun ws=>(true,ws)
def eqM (h:Mem):Nat->W->W->Option Bool
 | 0,a,b=>if (Zaq a && Zaq b)=true then some (Zdd a b) else none
 | n+1,a,b=>if (Zaq a && Zaq b)=true then some (Zdd a b) else match sq h a,sq h b with
  | some (true,xs),some (true,ys)=>if xs.length=ys.length then Zel (eqM h n) xs ys else some false
  | some (false,xs),some (false,ys)=>(Zel (eqM h n) xs ys).map (· && decide (xs.length=ys.length))
  | some (true,_),some (false,_)=>some false
  | some (false,_),some (true,_)=>some false
  | some _,none=>if Zaq b=true then some false else none
  | none,some _=>if Zaq a=true then some false else none
  | none,none=>none
def Zbc (r:RW T φ H a u)(f:Zaq a=true):Zan u=true/\∀ {b:W} {v:V},RW T φ H b v->Zaq b=true->eqV u v=Zdd a b:=by
 cases a with
 | non=>
  unfold RW at r;subst r;refine ⟨rfl,fun {b v} q f=>?_⟩;cases b<;>first|(unfold RW at q;subst q;first|rfl|(simp[eqV,Zdd,YcD];done))|cases f
 | bl x=>
  unfold RW at r;subst r;refine ⟨rfl,fun {b v} q f=>?_⟩;cases b<;>first|(unfold RW at q;subst q;first|rfl|(simp[eqV,Zdd,YcD];done))|cases f
 | int x=>
  unfold RW at r;subst r;refine ⟨rfl,fun {b v} q f=>?_⟩;cases b<;>first|(unfold RW at q;subst q;first|rfl|(simp[eqV,Zdd,YcD];done))|cases f
 | str x=>
  unfold RW at r;subst r;refine ⟨rfl,fun {b v} q f=>?_⟩;cases b<;>first|(unfold RW at q;subst q;first|rfl|(simp[eqV,Zdd,YcD];done))|cases f
 | _=>cases f
theorem Zf0 (J:∀ a b u v c,f a b=some c->RW T φ H a u->RW T φ H b v->g u v=some c) :
  ∀ {ws us:List W} {vs xs:List V} {c:Bool},Zel f ws us=some c->RWs T φ H ws vs->RWs T φ H us xs->ZfO g vs xs=some c
 | [],us,vs,xs,c,e,r,q=>by
  unfold RWs at r;subst r;cases e;rfl
 | w::ws,[],vs,xs,c,e,r,q=>by
  unfold RWs at q;subst q;cases e;cases vs<;>rfl
 | w::ws,u::us,vs,xs,c,e,r,q=>by
  unfold RWs at r q;obtain ⟨v,vr,rfl,r1,r2⟩:=r;obtain ⟨x,xr,rfl,Y,U⟩:=q;unfold Zel at e;cases z:f w u with
  | none=>rw[z] at e;cases e
  | some a=>
   cases I:Zel f ws us with
   | none=>rw[z,I] at e;cases e
   | some b=>
    rw[z,I] at e;cases e;unfold ZfO;rw[J _ _ _ _ _ z r1 Y,Zf0 J I r2 U]
def Zdj (r:RH T φ h H)(x:RW T φ H a u)(e:sq h a=some (b,ws)):∃ p vs,u=.ref p/\RWs T φ H ws vs/\(b=true->Zam H p=some vs)/\(b=false->Zbi H p=some vs/\Zam H p=none):=by
 cases a with
 | tup us=>
  have e:some (false,us)=some (b,ws):=e;cases e;unfold RW at x;obtain ⟨p,vs,y,_,c,d⟩:=x;exact ⟨p,vs,y,d,fun z=>(by cases z),fun _=>⟨Zbn c,by unfold Zam;rw[c]⟩⟩
 | _=>
  unfold sq at e;simp only[Yar] at e;obtain ⟨us,I,J⟩:=e;cases J;obtain ⟨p,vs,y,c,d⟩:=Zay r x I;exact ⟨p,vs,y,d,fun _=>c,fun z=>by cases z⟩
theorem ZjJ (r:RH T φ h H):∀ (n:Nat) (a b:W) (u v:V) (c:Bool),eqM h n a b=some c->RW T φ H a u->RW T φ H b v->eqF H n u v=some c
 | 0,a,b,u,v,c,e,ra,Y=>by
  unfold eqM at e;split at e
  ·rename_i I;cases e;rw[Yaa] at I;have f1:=Zbc ra I.1;have f2:=Zbc Y I.2;unfold eqF;rw[f1.1,f2.1,f1.2 Y I.2];rfl
  ·cases e
 | n+1,a,b,u,v,c,e,ra,Y=>by
  have ih:=fun a b u v c=>ZjJ r n a b u v c
  unfold eqM at e;split at e
  ·rename_i I;cases e;rw[Yaa] at I;have f1:=Zbc ra I.1;have f2:=Zbc Y I.2;rw[ZjG (by rw[f1.1,f2.1];rfl),f1.2 Y I.2]
  ·split at e
   ·rename_i xs ys e1 e2;obtain ⟨p,vs,rfl,q1,J,_⟩:=Zdj r ra e1;obtain ⟨p',aa,rfl,U,q4,_⟩:=Zdj r Y e2;rw[ZjT (J rfl) (q4 rfl),<-q1.length,<-U.length];split at e
    ·rename_i hl;rw[if_pos hl];exact Zf0 ih e q1 U
    ·rename_i hl;rw[if_neg hl];exact e
   ·rename_i xs ys e1 e2;obtain ⟨p,vs,rfl,q1,_,J⟩:=Zdj r ra e1;obtain ⟨p',aa,rfl,U,_,q4⟩:=Zdj r Y e2;rw[ZhD (J rfl).1 (q4 rfl).1,<-q1.length,<-U.length];cases e3:Zel (eqM h n) xs ys with
    | none=>rw[e3] at e;cases e
    | some d=>
     rw[e3] at e;rw[Zf0 ih e3 q1 U];exact e
   ·rename_i xs ys e1 e2;cases e;obtain ⟨p,vs,rfl,q1,J,_⟩:=Zdj r ra e1;obtain ⟨p',aa,rfl,U,_,q4⟩:=Zdj r Y e2;unfold eqF;rw[if_neg (by simp[Zan])];simp[J rfl,(q4 rfl).1,(q4 rfl).2]
   ·rename_i xs ys e1 e2;cases e;obtain ⟨p,vs,rfl,q1,_,J⟩:=Zdj r ra e1;obtain ⟨p',aa,rfl,U,q4,_⟩:=Zdj r Y e2;unfold eqF;rw[if_neg (by simp[Zan])];simp[q4 rfl,(J rfl).1,(J rfl).2]
   ·rename_i x e1 e2;split at e
    ·rename_i I;cases e;obtain ⟨bb,xs⟩:=x;obtain ⟨p,vs,rfl,q1,J,U⟩:=Zdj r ra e1;have f2:=(Zbc Y I).1;have hs:(ZaG H p).isSome=true:=by
      cases bb with
      | true=>
       rcases ZaP (J rfl) with z|⟨o,z⟩<;>(unfold ZaG;rw[z];rfl)
      | false=>rw[ZcS (ZbF (U rfl).1)];rfl
     unfold eqF;rw[if_neg (by simp[Zan])];cases v<;>first|(simp[hs,f2];done)|(simp[Zan] at f2)
    ·cases e
   ·rename_i x e1 e2;split at e
    ·rename_i I;cases e;obtain ⟨bb,xs⟩:=x;obtain ⟨p,vs,rfl,q1,J,U⟩:=Zdj r Y e2;have f2:=(Zbc ra I).1;have hs:(ZaG H p).isSome=true:=by
      cases bb with
      | true=>
       rcases ZaP (J rfl) with z|⟨o,z⟩<;>(unfold ZaG;rw[z];rfl)
      | false=>rw[ZcS (ZbF (U rfl).1)];rfl
     unfold eqF;rw[if_neg (by simp[Zan])];cases u<;>first|(simp[hs,f2];done)|(simp[Zan] at f2)
    ·cases e
   ·cases e
def eqO (h:Mem)(a b:W):Option W:=(eqM h 4 a b).map .bl
def neO (h:Mem)(a b:W):Option W:=(eqM h 4 a b).map fun c=>.bl (!c)
def ZqY:OpW T eqO Zvf:=by
 intro φ h H a b u v w Q r I z e k;unfold eqO at e;cases q:eqM h 4 a b with
 | none=>rw[q] at e;cases e
 | some c=>
  rw[q] at e;cases e;unfold Zvf;rw[ZjJ r 4 a b u v c q I z];exact Zaj r Zek k
def ZsA:OpW T neO Zwy:=by
 intro φ h H a b u v w Q r I z e k;unfold neO at e;cases q:eqM h 4 a b with
 | none=>rw[q] at e;cases e
 | some c=>
  rw[q] at e;cases e;unfold Zwy;rw[ZjJ r 4 a b u v c q I z];exact Zaj r Zek k
noncomputable abbrev Ty:=Sum String Str
noncomputable def tyN (h:Mem):W->Option Ty
 | .non=>some (.inl "NoneType")
 | .bl _=>some (.inl "bool")
 | .int _=>some (.inl "int")
 | .str _=>some (.inl "str")
 | .tup _=>some (.inl "tuple")
 | .tl _=>some (.inl "list")
 | .td _ _=>some (.inl "dict")
 | .ti c _ _=>some (.inr c)
 | .ref n=>(match h[n]? with
  | some (.lst _)=>some (.inl "list")
  | some (.dic _)=>some (.inl "dict")
  | some (.ins c _)=>some (.inr c)
  | some (.fdic _)=>none
  | none=>none)
 | _=>none
def TV (T:CTb):Ty->Yag->Prop
 | .inl n,v=>v=.type n
 | .inr c,v=>∃ C,T.any c=some C/\v=.ref C
noncomputable abbrev Kit:=List ((Ty×Ty)×Bool)
def ZjX (K:Yab)(T:CTb)(z:Kit):Prop:=∀ e∈z,∃ tv cv,TV T e.1.1 tv/\TV T e.1.2 cv/\YeG K tv cv=some e.2
structure InsTy (K:Yab)(C:Yaq):Prop where
 cl:Cls K C
 ha:Yao K (.ref C) "__class__"=some (some (.builtin "object.__class__"))
 hn:Ybl K (.builtin "object.__class__") "__get__"=some (some (.builtin "getset_descriptor.__get__"))
 htk:Ycz K (.builtin "object.__class__")=some true
 hm:YaZ K C (.type "object")=some true
def ZeI (K:Yab)(T:CTb):Prop:=∀ c C,T c=some C->InsTy K C
noncomputable def Kit.get (z:Kit)(t c:Ty):Option Bool:=(z.find? fun e=>decide (e.1=(t,c))).map (·.2)
def Kit.mem {z:Kit}{t c:Ty}{b:Bool}(h:z.get t c=some b):((t,c),b)∈z:=by
 unfold Kit.get at h;rw[Yar] at h;obtain ⟨⟨I,J⟩,e,rfl⟩:=h;have:=Yer e;have q:I=(t,c):=of_decide_eq_true this;subst q;exact YcT e
def Zua {K:Yab}(Y:ZeI K T){φ:List Yaq}{H:Hp}{h:Mem}{w:W}{v:V}{t:Ty}{tv:Yag}(r:RH T φ h H)(x:RW T φ H w v)(e:tyN h w=some t)(I:TV T t tv):TyOf K H v tv:=by
 cases w with
 | non=>cases e;cases I;unfold RW at x;subst x;exact .non
 | bl b=>cases e;cases I;unfold RW at x;subst x;exact .bl b
 | int b=>cases e;cases I;unfold RW at x;subst x;exact .int b
 | str b=>cases e;cases I;unfold RW at x;subst x;exact .str b
 | tup b=>cases e;cases I;unfold RW at x;obtain ⟨p,vs,rfl,_,c,_⟩:=x;exact .tup c
 | tl b=>
  cases e;cases I;unfold RW at x;obtain ⟨p,vs,rfl,_,c,_⟩:=x;rcases ZaP c with q|⟨o,q⟩
  ·exact .lst q
  ·exact .frz q
 | td k b=>cases e;cases I;unfold RW at x;obtain ⟨p,vs,rfl,_,c,_⟩:=x;exact .dK c
 | ti c f b=>
  cases e;unfold RW at x;obtain ⟨p,C,dx,vs,rfl,_,U,c2,_⟩:=x;obtain ⟨C',J,rfl⟩:=I;rw[CTb.any_t U] at J;cases J;have i:=Y _ _ U;exact .ins c2 i.cl i.ha i.hn i.htk i.hm
 | ref n=>
  unfold tyN at e;unfold RW at x;obtain ⟨p,a,rfl⟩:=x;cases q:h[n]? with
  | none=>simp[q] at e
  | some o=>
   obtain ⟨ho,y,z⟩:=r.obj n o p q a;cases o with
   | lst us=>simp[q] at e;subst e;cases I;obtain ⟨vs,rfl,_⟩:=z;exact .lst y
   | dic us=>simp[q] at e;subst e;cases I;obtain ⟨vs,rfl,_⟩:=z;exact .dK y
   | ins c fs=>
    simp[q] at e;subst e;obtain ⟨C,dx,fv,rfl,U,_⟩:=z;obtain ⟨C',J,rfl⟩:=I;rw[CTb.any_t U] at J;cases J;have i:=Y _ _ U;exact .ins y i.cl i.ha i.hn i.htk i.hm
   | fdic us=>simp[q] at e
 | ty n=>cases e
 | cls n=>cases e
 | exc _ _ _=>cases e
end
section
variable {X:Cx} {Z:Zc} {f g k:Ex} {a b c:YaQ} {pos:Pos} {op op':CmpOp} {o o':Mem->W->W->Option W} {r r':R2}
def ZgE (hw:OpW Z.T o r)(ae:OpW Z.T o' r')(q:tH Z (Zbk o o' f g k) σ H Q):ZhT r r' (tH Z f) (tH Z g) (tH Z k) σ H Q:=by
 obtain ⟨φ,h,ρ,x,q⟩:=q;unfold Zbk at q;refine two x q fun φ2 H2 h2 u v a b s y ra rb I=>?_
 cases e:o h2 a b with
 | none=>simp[e] at I;exact I.elim
 | some w=>
  refine hw φ2 h2 H2 a b u v w _ y.rh ra rb e fun H3 x3 Y r3 aa=>?_
  cases w with
  | bl z=>
   refine ⟨z,Zby aa,?_⟩;cases z with
   | false=>
    simp only[e] at I;exact Zko (I φ2 H3 _ Y r3 Zek)
   | true=>
    simp only[e] at I;refine Zkq ⟨φ2,h2,ρ,y.step Y r3,?_⟩;rw[Zba] at I;refine I.mono fun w4 h4 J=>fun U H4 v4 s4 r4 af=>?_
    cases e5:o' h4 b w4 with
    | none=>simp[e5] at J;exact J.elim
    | some w5=>
     refine ae U h4 H4 b w4 v v4 w5 _ r4 ((rb.step Y).step s4) af e5 fun H5 x5 s5 r5 ac=>?_
     cases w5 with
     | bl z=>
      simp only[e5] at J;rw[Zby ac]
      first
       | exact ⟨z,rfl,J U H5 _ ((Y.trans s4).trans s5) r5 Zek⟩
       | exact J U H5 _ ((Y.trans s4).trans s5) r5 Zek
     | _=>simp[e5] at J;exact J.elim
  | _=>simp[e] at I;exact I.elim
def Zlt (ho:OpR X (YaV op) r)(z:OpR X (YaV op') r')(J:OpW Z.T o r)(I:OpW Z.T o' r')(ha:PE X a (tH Z f))(Y:PE X b (tH Z g))(hc:PE X c (tH Z k))(U:Yem [op,op'] [b,c]=false:=by with_unfolding_all rfl) :
  PE X (.Compare a [op,op'] [b,c] pos) (tH Z (Zbk o o' f g k)):=(ZkT ho z ha Y hc U).imp fun σ H Q q=>ZgE J I q
def ZiT (ho:OpR X (YaV op) r)(z:OpR X (YaV op') r')(U:OpW Z.T o r)(I:OpW Z.T o' r')(ha:PE X a (tH Z f))(hb:PE X b (tH Z g))(hc:PE X c (tH Z k))(Y:Yem [op,op'] [b,c]=false:=by with_unfolding_all rfl) :
  PT X (.Compare a [op,op'] [b,c] pos) (tHT Z (Zbk o o' f g k)):=(Zly ho z ha hb hc Y).imp fun σ H Q ⟨φ,m,ρ,x,q⟩=>
 ZgE (Q:=fun v H'=>∃ k,v=.bl k/\Q k H') U I ⟨φ,m,ρ,x,q.mono (by
  rintro w h1 ⟨b,rfl,k⟩ φ1 H1 v s1 r1 J;exact ⟨b,Zby J,k φ1 H1 s1 r1⟩)⟩
end
section
variable {X:Cx} {Z:Zc} {f g:Ex} {x:Str} {p pos:Pos} {a:YaQ} {st:Yce}
def ZrW (I:Gl X x)(h:GC X.mg x (.int i))(z:(x == ("__debug__":Str))=false:=by decide):PE X (.Name x p) (tH Z (xC (.int i))):=Znj (ZrY I h z) fun _ _=>ZaD
def Zvx (n:String)(Y:Gl X x)(U:X.mg x=none)(J:YaR x=some (.type n))(I:x≠"__name__":=by decide)(z:(x == ("__debug__":Str))=false:=by decide):PE X (.Name x p) (tH Z (xC (.ty n))):=Znj (ZwB n Y U J I z) fun _ _=>by unfold RW;rfl
def ZtV (J:Gl X x)(h:GC X.mg x (.ref C))(z:Z.T.any x=some C)(I:(x == ("__debug__":Str))=false:=by decide):PE X (.Name x p) (tH Z (xC (.cls x))):=Znj (ZrY J h I) fun _ _=>by unfold RW;exact ⟨C,z,rfl⟩
noncomputable def xNo:Sm:=fun _ _=>.no
def ZhV:PS X st (tHS Z xNo):=fun _ _ _ _ _ _ ⟨_,_,_,_,h⟩=>h.elim
end
inductive RsO where
 | ok (o:Option Int) (h:Mem) | ex (w:W) (h:Mem) | no
abbrev Eo:=Sg->Mem->RsO
noncomputable def tHO (Z:Zc)(f:Eo):TO:=fun σ H Q=>∃ φ h ρ,Here Z σ H φ h ρ/\match f ρ h with
 | .ok o h'=>∀ φ' H',Step φ H φ' H'->RH Z.T φ' h' H'->Q o H'
 | .ex w h'=>Z.xw w h'
 | .no=>False
noncomputable def xPn:Eo:=fun _ h=>.ok none h
noncomputable def xPs (f:Ex):Eo:=fun ρ h=>match f ρ h with
 | .ok (.int i) h'=>.ok (some i) h'
 | .ex w h'=>.ex w h'
 | _=>.no
def xSl (op:Mem->W->Option Int->Option Int->Option W)(f:Ex)(l u:Eo):Ex:=fun ρ h=>(f ρ h).bind fun a h1=>match l ρ h1 with
 | .ok lo h2=>(match u ρ h2 with
  | .ok hi h3=>.of (op h3 a lo hi) h3
  | .ex w h3=>.ex w h3
  | .no=>.no)
 | .ex w h2=>.ex w h2
 | .no=>.no
def SlW (T:CTb)(op:Mem->W->Option Int->Option Int->Option W)(r:V->Option Int->Option Int->Hp->VK->Prop):Prop:=
 ∀ φ h H a v lo hi w Q,RH T φ h H->RW T φ H a v->op h a lo hi=some w->(∀ H' x,Step φ H φ H'->RH T φ h H'->RW T φ H' w x->Q x H')->r v lo hi H Q
section
variable {X:Cx} {Z:Zc} {f:Ex} {l u:Eo} {e:YaQ} {lo hi:Option YaQ} {pos p2:Pos}
def Zlk:PO X none (tHO Z xPn):=fun pins s σ H Q I ⟨φ,h,ρ,x,q⟩=>ZpJ pins s σ H Q I (q φ H (Step.refl _ _) x.rh)
def ZkP (h:PE X e (tH Z f)):PO X (some e) (tHO Z (xPs f)):=fun pins s σ H Q I ⟨φ,m,ρ,x,q⟩=>by
 refine Zn8 h pins s σ H Q I ⟨φ,m,ρ,x,?_⟩;unfold xPs at q;cases z:f ρ m with
 | no=>rw[z] at q;exact q.elim
 | ex w h'=>rw[z] at q;exact q
 | ok w h'=>
  rw[z] at q;intro φ1 H1 v s1 r1 J;cases w with
  | int i=>exact ⟨i,ZaO J,q φ1 H1 s1 r1⟩
  | _=>exact q.elim
def Zv8 (hr:SlR X r)(hw:SlW Z.T op r)(he:PE X e (tH Z f))(hl:PO X lo (tHO Z l))(hu:PO X hi (tHO Z u)) :
  PE X (.Subscript e (.Slice lo hi none p2) pos) (tH Z (xSl op f l u)):=(ZkY hr he hl hu).imp fun σ H Q ⟨φ,m,ρ,x,q⟩=>⟨φ,m,ρ,x,by
 unfold xSl at q;rw[Zba] at q;refine q.mono fun a h1 z=>fun φ1 H1 v s1 r1 ra=>⟨φ1,h1,ρ,x.step s1 r1,?_⟩
 cases J:l ρ h1 with
 | no=>simp only[J] at z;exact z.elim
 | ex w h'=>simp only[J] at z;exact z
 | ok lo h2=>
  simp only[J] at z;intro φ2 H2 s2 r2;refine ⟨φ2,h2,ρ,(x.step s1 r1).step s2 r2,?_⟩;cases I:u ρ h2 with
  | no=>simp only[I] at z;exact z.elim
  | ex w h'=>simp only[I] at z;exact z
  | ok hi h3=>
   simp only[I] at z;intro U H3 Y r3;obtain ⟨w,e4,k⟩:=ofP z;exact hw U h3 H3 a v lo hi w Q r3 ((ra.step s2).step Y) e4 (k.step ((s1.trans s2).trans Y)).end⟩
end
def Zoe (xs:List W)(lo hi:Option Int):List W:=(xs.drop (HT.sIx xs.length 0 lo)).take (HT.sIx xs.length xs.length hi - HT.sIx xs.length 0 lo)
def ZqD {T:CTb}{φ:List Yaq}{H:Hp}{ws:List W}{vs:List V}{lo hi:Option Int}(r:RWs T φ H ws vs):RWs T φ H (Zoe ws lo hi) (ZoE vs lo hi):=by
 unfold Zoe ZoE;rw[<-r.length];exact ZgR _ (Zgt _ r)
def Ztd:V->Option Int->Option Int->Hp->VK->Prop:=fun x lo hi H Q=>slL x lo hi H Q\/slS x lo hi H Q
def Zsw:SlR X Ztd:=SlR.or ZnF Zsx
def slM (h:Mem)(a:W)(lo hi:Option Int):Option W:=match a with
 | .str z=>if z.length<=Yai then some (.str (Yb0 z lo hi)) else none
 | a=>(items h a).map fun ws=>.tl (Zoe ws lo hi)
def Zur:SlW T slM Ztd:=by
 intro φ h H a v lo hi w Q r I e k;unfold slM at e;split at e
 ·split at e
  ·rename_i hz;cases e;rw[ZaX I];exact .inr ⟨hz,Zaj r Zql k⟩
  ·cases e
 ·rw[Yar] at e;obtain ⟨ws,e,rfl⟩:=e;obtain ⟨p,vs,rfl,Y,J⟩:=Zay r I e;refine .inl ?_;show ZaZ (Zam H p) _;rw[Y];exact fun z U=>Zkb r U (ZqD J) k
section
variable {X:Cx} {T:CTb}
def Zas (x:RWs T φ H [w] vs):∃ v,vs=[v]/\RW T φ H w v:=by
 unfold RWs at x;obtain ⟨I,r1,rfl,J,z⟩:=x;unfold RWs at z;subst z;exact ⟨I,rfl,J⟩
def Znq (x:RWs T φ H [w,w'] vs):∃ v z,vs=[v,z]/\RW T φ H w v/\RW T φ H w' z:=by
 unfold RWs at x;obtain ⟨I,r1,rfl,U,J⟩:=x;obtain ⟨v2,rfl,Y⟩:=Zas J;exact ⟨I,v2,rfl,U,Y⟩
def Zkm (h:Mem):List W->Option W
 | [.str z]=>if z.length<=Yai then some (.int z.length) else none
 | [.td ks _]=>some (.int ks.length)
 | [.ref n]=>(match h[n]? with
  | some (.dic kvs)=>some (.int kvs.length)
  | some (.lst ws)=>some (.int ws.length)
  | _=>none)
 | [w]=>(ZgC h w).map fun ws=>.int ws.length
 | _=>none
def Zbf (h:RP T φ H ps qs):ps.length=qs.length:=Ydy h
def ZpU:CbW T Zkm Zqn:=by
 intro φ h H ws vs w Q r x e k;have J:∀ (a:W) (u:V) (us:List W),RW T φ H a u->ZgC h a=some us->(∀ p kvs,u=.ref p->H p≠some (.dK kvs))->Q (.int us.length) H->Zqn [u] H Q:=by
  intro a u us ra e nd q;obtain ⟨p,vs,rfl,q1,q2⟩:=ZdS r ra e;show (match H p with | some (.dK kvs)=>Q (.int kvs.length) H | _=>ZaZ (ZaG H p) fun ys=>Q (.int ys.length) H);split
  ·rename_i kvs ek;exact absurd ek (nd p kvs rfl)
  ·rw[q1];show Q (.int vs.length) H;rw[<-q2.length];exact q
 unfold Zkm at e;split at e
 ·obtain ⟨v,rfl,I⟩:=Zas x;split at e
  ·rename_i hz;cases e;rw[ZaX I];exact ⟨hz,Zaj r ZaD k⟩
  ·cases e
 ·obtain ⟨v,rfl,I⟩:=Zas x;cases e;unfold RW at I;obtain ⟨p,vs,rfl,_,c,l,rr⟩:=I;show (match H p with | some (.dK kvs)=>Q (.int kvs.length) H | _=>ZaZ (ZaG H p) fun ys=>Q (.int ys.length) H);rw[c];show Q (.int ((_:List _).length:Nat)) H;rw[List.length_zip,<-rr.length,<-l,Nat.min_self];exact Zaj r ZaD k
 ·obtain ⟨v,rfl,I⟩:=Zas x;rename_i n;have x0:=I;unfold RW at I;obtain ⟨p,a,rfl⟩:=I;split at e
  ·rename_i kvs q;cases e;obtain ⟨ho,y,kv,rfl,z⟩:=r.obj n _ p q a;show (match H p with | some (.dK kvs)=>Q (.int kvs.length) H | _=>ZaZ (ZaG H p) fun ys=>Q (.int ys.length) H);rw[y];show Q (.int kv.length) H;rw[<-Zbf z];exact Zaj r ZaD k
  ·rename_i us q;cases e;refine J (.ref n) (.ref p) us x0 (by show items h (.ref n)=_;simp[items,q]) (fun p' kvs Y U=>?_) (Zaj r ZaD k);cases Y;obtain ⟨ho,y,kv,rfl,z⟩:=r.obj n _ p q a;rw[y] at U;cases U
  ·cases e
 ·obtain ⟨v,rfl,I⟩:=Zas x;rename_i _ w1 n1 n2 n3;rw[Yar] at e;obtain ⟨us,e,rfl⟩:=e;refine J w1 v us I e (fun p kvs Y U=>?_) (Zaj r ZaD k);subst Y;cases w1 with
  | tup a=>unfold RW at I;obtain ⟨q,vs,e3,_,c,_⟩:=I;cases e3;rw[U] at c;cases c
  | tl a=>
   unfold RW at I;obtain ⟨q,vs,e3,_,c,_⟩:=I;cases e3;rcases ZaP c with z|⟨o,z⟩<;>(rw[U] at z;cases z)
  | ref n=>exact n3 n rfl
  | _=>cases e
 ·cases e
end
section
variable {X:Cx} {T:CTb}
noncomputable def Zc5:List W->Option (List Int)
 | []=>some []
 | .int i::r=>(Zc5 r).map (i :: ·)
 | _::_=>none
theorem Zgb:∀ {ws:List W} {vs:List V} {ns:List Int},RWs T φ H ws vs->Zc5 ws=some ns->Zb4 vs=some ns
 | [],vs,ns,r,e=>by cases e;unfold RWs at r;subst r;rfl
 | w::ws,vs,ns,r,e=>by
  unfold RWs at r;obtain ⟨v,s,rfl,a,b⟩:=r;cases w with
  | int i=>
   unfold Zc5 at e;rw[Yar] at e;obtain ⟨z,e,rfl⟩:=e;rw[ZaO a];unfold Zb4;rw[Zgb b e];rfl
  | _=>cases e
def ZgB (ns:List Int):Zc5 (ns.map W.int)=some ns:=by
 induction ns with
 | nil=>rfl
 | cons x r z=>rw[Yap];unfold Zc5;rw[z];rfl
def Zso (h:Mem):List W->Option W
 | [w]=>((items h w).bind Zc5).map fun ns=>.int ns.sum
 | _=>none
def Zp6:CbW T Zso Zvu:=by
 intro φ h H ws vs w Q r x e k;unfold Zso at e;split at e
 ·obtain ⟨v,rfl,J⟩:=Zas x;rw[Yar] at e;obtain ⟨ns,e,rfl⟩:=e;rw[Yaw] at e;obtain ⟨us,I,U⟩:=e;obtain ⟨p,vs,rfl,Y,z⟩:=Zay r J I;show ZaZ (Zam H p) _;rw[Y];show ZaZ (Zb4 vs) _;rw[Zgb z U];exact Zaj r ZaD k
 ·cases e
def Zs8 (_:Mem):List W->Option W
 | [.int i]=>some (.int i)
 | [.bl b]=>some (.int (if b then 1 else 0))
 | _=>none
def Zpo:CbW T Zs8 (fun xs H Q=>(∃ i,xs=[.int i]/\Q (.int i) H)\/∃ k,xs=[.bl k]/\Q (.int (if k then 1 else 0)) H):=by
 intro φ h H ws vs w Q r x e k;unfold Zs8 at e;split at e
 ·obtain ⟨v,rfl,z⟩:=Zas x;cases e;rw[ZaO z];exact .inl ⟨_,rfl,Zaj r ZaD k⟩
 ·obtain ⟨v,rfl,z⟩:=Zas x;cases e;rw[Zby z];exact .inr ⟨_,rfl,Zaj r ZaD k⟩
 ·cases e
def Ztq (_:Mem):List W->Option W
 | [.str x]=>if x.length=1 then some (.int (x.cps.getD 0 0:Nat)) else none
 | _=>none
def Zod:CbW T Ztq (fun xs H Q=>∃ x,xs=[.str x]/\x.length=1/\Q (.int (x.cps.getD 0 0:Nat)) H):=by
 intro φ h H ws vs w Q r x e k;unfold Ztq at e;split at e
 ·obtain ⟨v,rfl,z⟩:=Zas x;split at e
  ·rename_i hz;cases e;rw[ZaX z];exact ⟨_,rfl,hz,Zaj r ZaD k⟩
  ·cases e
 ·cases e
def Zh4 (h:Mem):List W->Option W
 | [w]=>(ZgC h w).map .tl
 | _=>none
def ZlK:CbW T Zh4 Zn4:=by
 intro φ h H ws vs w Q r x e k;unfold Zh4 at e;split at e
 ·obtain ⟨v,rfl,I⟩:=Zas x;rw[Yar] at e;obtain ⟨us,e,rfl⟩:=e;obtain ⟨p,vs,rfl,U,J⟩:=ZdS r I e;show ZaZ (ZaG H p) _;rw[U];exact fun z Y=>Zkb r Y J k
 ·cases e
noncomputable def ZcY:W->Bool
 | .non=>true
 | _=>false
def Zne (_:Mem)(a b:W):Option W:=match b with
 | .non=>some (.bl (ZcY a))
 | _=>none
def Zfp (_:Mem)(a b:W):Option W:=match b with
 | .non=>some (.bl (!ZcY a))
 | _=>none
def Zix (h:RW T φ H .non v):v=.non:=by unfold RW at h;exact h
def Zj7 (h:RW T φ H a v):decide (v=.non)=ZcY a:=by
 cases a with
 | non=>rw[Zix h];rfl
 | cls c=>unfold RW at h;obtain ⟨_,_,rfl⟩:=h;rfl
 | ref c=>unfold RW at h;obtain ⟨_,_,rfl⟩:=h;rfl
 | tup c=>unfold RW at h;obtain ⟨_,_,rfl,_⟩:=h;rfl
 | tl c=>unfold RW at h;obtain ⟨_,_,rfl,_⟩:=h;rfl
 | td c d=>unfold RW at h;obtain ⟨_,_,rfl,_⟩:=h;rfl
 | ti c d f=>unfold RW at h;obtain ⟨_,_,_,_,rfl,_⟩:=h;rfl
 | exc c d f=>unfold RW at h;obtain ⟨_,_,_,_,rfl,_⟩:=h;rfl
 | _=>unfold RW at h;subst h;rfl
def Zpg:OpW T Zne (fun x y H Q=>y=.non/\Q (.bl (decide (x=.non))) H):=by
 intro φ h H a b u v w Q r I z e k;unfold Zne at e;split at e
 ·cases e;exact ⟨Zix z,by rw[Zj7 I];exact Zaj r Zek k⟩
 ·cases e
def Zk4:OpW T Zfp (fun x y H Q=>y=.non/\Q (.bl (!decide (x=.non))) H):=by
 intro φ h H a b u v w Q r I z e k;unfold Zfp at e;split at e
 ·cases e;exact ⟨Zix z,by rw[Zj7 I];exact Zaj r Zek k⟩
 ·cases e
noncomputable def Zqu:List W->Option (List Str)
 | []=>some []
 | .str i::r=>(Zqu r).map (i :: ·)
 | _::_=>none
theorem ZjV:∀ {ws:List W} {vs:List V} {ns:List Str},RWs T φ H ws vs->Zqu ws=some ns->ZbY vs=some ns
 | [],vs,ns,r,e=>by cases e;unfold RWs at r;subst r;rfl
 | w::ws,vs,ns,r,e=>by
  unfold RWs at r;obtain ⟨v,s,rfl,a,b⟩:=r;cases w with
  | str i=>
   unfold Zqu at e;rw[Yar] at e;obtain ⟨z,e,rfl⟩:=e;rw[ZaX a];unfold ZbY;rw[ZjV b e];rfl
  | _=>cases e
def Zkw (ns:List Str):Zqu (ns.map W.str)=some ns:=by
 induction ns with
 | nil=>rfl
 | cons x r z=>rw[Yap];unfold Zqu;rw[z];rfl
def Zff (h:Mem)(a:W)(ws:List W):Option W:=match a,ws with
 | .str z,[w]=>((items h w).bind Zqu).bind fun I=>if JoinOk z I=true then some (.str (YeY z I)) else none
 | _,_=>none
def Zl2:BmW T Zff ZoT:=by
 intro φ h H a u ws vs w Q r U x e k;unfold Zff at e;split at e
 ·obtain ⟨v,rfl,y0⟩:=Zas x;rw[Yaw] at e;obtain ⟨ts,e,z⟩:=e;rw[Yaw] at e;obtain ⟨us,Y,e2⟩:=e;obtain ⟨p,vs,rfl,q1,J⟩:=Zay r y0 Y;split at z
  ·rename_i I;cases z;rw[ZaX U];show ZaZ (Zam H p) _;rw[q1];show ZaZ (ZbY vs) _;rw[ZjV J e2];exact ⟨I,Zaj r Zql k⟩
  ·cases z
 ·cases e
end
section
variable {X:Cx} {Z:Zc} {f:Ex} {fa:Exs} {o e:YaQ} {apos cpos:Pos}
def Zni (op:Mem->W->List W->Option W)(f:Ex)(g:Exs):Ex:=fun ρ h=>(f ρ h).bind fun a h1=>match a with
 | .str z=>(match g ρ h1 with
  | .ok ws h2=>.of (op h2 (.str z) ws) h2
  | .ex w h2=>.ex w h2
  | .no=>.no)
 | _=>.no
def ZtK {op:Mem->W->List W->Option W}{r:V->List V->Hp->VK->Prop}(hw:BmW Z.T op r){K:Yab}{σ:St}{H:Hp}{Q:VK}(q:tH Z (Zni op f fa) σ H Q):tBM K "str" r (tH Z f) (tHA Z fa) σ H Q:=by
 obtain ⟨φ,m,ρ,x,q⟩:=q;refine ⟨φ,m,ρ,x,?_⟩;unfold Zni at q;rw[Zba] at q;refine q.mono fun a h1 I=>fun φ1 H1 u s1 r1 Y=>?_
 cases a with
 | str z=>
  rw[ZaX Y];refine ⟨rfl,φ1,h1,ρ,x.step s1 r1,?_⟩;simp only at I;cases U:fa ρ h1 with
  | no=>rw[U] at I;exact I.elim
  | ex w h2=>rw[U] at I;exact I
  | ok ws h2=>
   rw[U] at I;intro φ2 H2 vs s2 r2 J;obtain ⟨w,e,k⟩:=ofP I;exact hw φ2 h2 H2 (.str z) (.str z) ws vs w Q r2 Zql J e (k.step (s1.trans s2)).end
 | _=>exact I.elim
def Zpz (ho:PE X o (tH Z f))(ha:PA X [e] (tHA Z fa))(J:Ybb o "join" X.env (YbT o X.env)=YbT o X.env:=by rfl)
  (U:((Ya3 cpos (Yah [e] X.env)).all (fun x=>!x.1) && (Ycc cpos (Ybm [] X.env)).all (fun x=>x.1.isSome)
   && decide (([e]:List YaQ).length+([]:List Yb8).length+(if ([]:List Yb8).isEmpty then 0 else 1)<30))=true:=by rfl)
  (I:(apos.endLine == cpos.line)=true:=by rfl) (Y:Yah [e] X.env=(false,YbT e X.env)::Yah [] X.env:=by rfl) (z:(Ya3 cpos (Yah [] X.env)).any (·.1)=false:=by rfl) :
  PE X (.Call (.Attribute o "join" apos) [e] [] cpos) (tH Z (Zni Zff f fa)):=
 (Zg7 PySem.F.plainAttrs_str PySem.F.slot_str_join PySem.F.type_str_join ZpQ ho ha J U I Y z).imp fun σ H Q q=>ZtK Zl2 q
end
structure QE (X:Cx)(Z:Zc)(e:YaQ)(f:Ex):Prop where
 pe:PE X e (tH Z f)
structure QT (X:Cx)(Z:Zc)(e:YaQ)(f:Ex):Prop where
 pt:PT X e (tHT Z f)
structure QW (X:Cx)(Z:Zc)(e:YaQ)(f:Ex):Prop where
 pw:PW X e (tHT Z f)
structure QA (X:Cx)(Z:Zc)(es:List YaQ)(f:Exs):Prop where
 pa:PA X es (tHA Z f)
structure QO (X:Cx)(Z:Zc)(e:Option YaQ)(f:Eo):Prop where
 po:PO X e (tHO Z f)
structure QI (X:Cx)(Z:Zc)(tg iter:YaQ)(f:Ei):Prop where
 pi:PI X tg iter (tHI Z f)
structure QC (X:Cx)(Z:Zc)(ifs:List YaQ)(f:Ex):Prop where
 pc:PCs X ifs (tHT Z f)
structure QG (X:Cx)(tg:YaQ)(g:TG):Prop where
 pg:PG X tg g
structure QGs (X:Cx)(tgs:List YaQ)(g:TGs):Prop where
 pg:PGs X tgs g
structure QS (X:Cx)(Z:Zc)(st:Yce)(F:Sm):Prop where
 ps:PS X st (tHS Z F)
structure QB (X:Cx)(Z:Zc)(sts:List Yce)(F:Sm):Prop where
 ps:PSs X sts (tHS Z F)
section
variable {X:Cx} {Z:Zc} {f g k:Ex} {fa:Exs} {fi:Ei} {l u:Eo} {e a b c:YaQ} {es rest:List YaQ} {pos p p2:Pos} {F G B:Sm} {st:Yce} {sts more:List Yce} {tg iter:YaQ} {x:Str} {gg:TG} {Gt:Tg}
def ZvF (i:Nat)(U:X.N[i]?=some x:=by rfl)(J:Vis X.env.scope x:=by first | exact Yfh rfl | exact Or.inr (Yfh rfl) | exact Or.inr (Or.inr rfl))(I:(x == ("__debug__":Str))=false:=by decide)
  (z:(x == ("__classdict__":Str))=false:=by decide):QE X Z (.Name x pos) (Zf9 i):=⟨ZqX i (Zc2 U J I z)⟩
def ZvU {i j pos}:QE X Z (.Constant (.int i) j pos) (xC (.int i)):=⟨ZtE⟩
def ZyF {b j pos}:QE X Z (.Constant (.bool b) j pos) (xC (.bl b)):=⟨Zwu⟩
def ZwI {j pos}:QE X Z (.Constant .none j pos) (xC .non):=⟨ZqZ⟩
def Zw1 {x j pos}:QE X Z (.Constant (.str x) j pos) (xC (.str x)):=⟨Zsg⟩
def Zwj (I:Gl X x)(h:GC X.mg x (.int i))(z:(x == ("__debug__":Str))=false:=by decide):QE X Z (.Name x p) (xC (.int i)):=⟨ZrW I h z⟩
def Zyb (n:String)(Y:Gl X x)(U:X.mg x=none)(J:YaR x=some (.type n))(I:x≠"__name__":=by decide)(z:(x == ("__debug__":Str))=false:=by decide):QE X Z (.Name x p) (xC (.ty n)):=⟨Zvx n Y U J I z⟩
def Zwn (J:Gl X x)(h:GC X.mg x (.ref C))(z:Z.T.any x=some C)(I:(x == ("__debug__":Str))=false:=by decide):QE X Z (.Name x p) (xC (.cls x)):=⟨ZtV J h z I⟩
def ZuW (ho:OpR X (YcJ op) r)(z:OpW Z.T o r)(I:QE X Z a f)(J:QE X Z b g):QE X Z (.BinOp a op b pos) (ZbS o f g):=⟨ZtM ho z I.pe J.pe⟩
def ZvY (ho:OpR X (YaV op) r)(I:OpW Z.T o r)(z:QE X Z a f)(U:QE X Z b g)(J:YcK op b=false):QE X Z (.Compare a [op] [b] pos) (ZbS o f g):=⟨ZqE ho I z.pe U.pe J⟩
def ZsJ (ho:OpR X (YaV op) r)(I:OpW Z.T o r)(z:QE X Z a f)(U:QE X Z b g)(J:YcK op b=false):QT X Z (.Compare a [op] [b] pos) (ZbS o f g):=⟨Zn5 ho I z.pe U.pe J⟩
def Zp7 (ho:OpR X (YaV op) r)(z:OpR X (YaV op') r')(J:OpW Z.T o r)(I:OpW Z.T o' r')(ha:QE X Z a f)(Y:QE X Z b g)(hc:QE X Z c k)(U:Yem [op,op'] [b,c]=false:=by with_unfolding_all rfl) :
  QE X Z (.Compare a [op,op'] [b,c] pos) (Zbk o o' f g k):=⟨Zlt ho z J I ha.pe Y.pe hc.pe U⟩
def ZlL (ho:OpR X (YaV op) r)(z:OpR X (YaV op') r')(J:OpW Z.T o r)(I:OpW Z.T o' r')(ha:QE X Z a f)(Y:QE X Z b g)(hc:QE X Z c k)(U:Yem [op,op'] [b,c]=false:=by with_unfolding_all rfl) :
  QT X Z (.Compare a [op,op'] [b,c] pos) (Zbk o o' f g k):=⟨ZiT ho z J I ha.pe Y.pe hc.pe U⟩
def Zy1 (ho:IxR X r)(I:OpW Z.T o r)(z:QE X Z a f)(J:QE X Z b g)(U:Zeg b):QE X Z (.Subscript a b pos) (ZbS o f g):=⟨Zu1 ho I z.pe J.pe U⟩
def Zzc (ho:UnR X (unaryOp op) r)(z:UnW Z.T o r)(I:QE X Z a f):QE X Z (.UnaryOp op a pos) (xUn o f):=⟨Zwd ho z I.pe⟩
def ZsQ (h:QE X Z e f)(I:∀ z,Yfe e X.env z=(do let v <- z;Yd7 e.pos;Yd8 [v] (truthy v)):=by intro _;rfl):QT X Z e f:=⟨Zo6 h.pe I⟩
def ZrZ (h:QT X Z a f):QT X Z (.UnaryOp .Not a pos) (Zjb f):=⟨Zm8 h.pt⟩
def ZuH (h:QW X Z e f):QT X Z e f:=⟨h.pw.pt⟩
def ZjU (h:QT X Z a f):QW X Z (.BoolOp .And [a] pos) f:=⟨Zkt h.pt⟩
def Zmp (h:QT X Z a f):QW X Z (.BoolOp .Or [a] pos) f:=⟨Zm6 h.pt⟩
def Zuh (z:QT X Z a f)(I:QW X Z (.BoolOp .And (b::rest) pos) g):QW X Z (.BoolOp .And (a::b::rest) pos) (ZiN f g):=⟨Znr z.pt I.pw⟩
def Zw4 (z:QT X Z a f)(I:QW X Z (.BoolOp .Or (b::rest) pos) g):QW X Z (.BoolOp .Or (a::b::rest) pos) (xOr f g):=⟨ZrM z.pt I.pw⟩
def Zvl (z:QE X Z a f)(I:QE X Z (.BoolOp .And (b::rest) pos) g):QE X Z (.BoolOp .And (a::b::rest) pos) (ZiN f g):=⟨Zsz z.pe I.pe⟩
def Zyo (z:QE X Z a f)(I:QE X Z (.BoolOp .Or (b::rest) pos) g):QE X Z (.BoolOp .Or (a::b::rest) pos) (xOr f g):=⟨ZwW z.pe I.pe⟩
def Zv2 {op}(h:QE X Z a f):QE X Z (.BoolOp op [a] pos) f:=⟨Zt4 h.pe⟩
def Zxf (h:QE X Z a f):QE X Z (.UnaryOp .Not a pos) (Zjb f):=⟨Ztr h.pe⟩
def ZyK (J:QT X Z c k)(z:QE X Z a f)(I:QE X Z b g):QE X Z (.IfExp c a b pos) (xIf k f g):=⟨Zxq J.pt z.pe I.pe⟩
def ZtY:QA X Z [] Zfe:=⟨Zn9⟩
def Zo2 (I:QE X Z e f)(z:QA X Z es fa)(J:Yah (e::es) X.env=(false,YbT e X.env)::Yah es X.env:=by rfl):QA X Z (e::es) (Zbv f fa):=⟨ZlF I.pe z.pa J⟩
def Zxn {x1}(h:QA X Z es fa):QE X Z (.Tuple es x1 pos) (Zq7 fa):=⟨Zr5 h.pa⟩
def Zvv (h:QA X Z es fa):QE X Z (.List es pos) (Zqq fa):=⟨Zuj h.pa⟩
def Ztt (h:QA X Z es fa):QE X Z (.List es pos) (ZjO fa):=⟨Zou h.pa⟩
def Zyz {r:List V->Hp->VK->Prop}{o:Mem->List W->Option W}{id:String}(Y:CbW Z.T o r)(hc:CallR X (.builtin id) r)(hg:Gl X x)(hm:X.mg x=none)(U:YaR x=some (.builtin id))(ha:QA X Z (e::es) fa)(J:x≠"__name__":=by decide)(z:(x == ("__debug__":Str))=false:=by decide)
  (he:Yah (e::es) X.env=(false,YbT e X.env)::Yah es X.env:=by rfl) (I:(Ya3 pos (Yah es X.env)).any (·.1)=false:=by rfl):QE X Z (.Call (.Name x p) (e::es) [] pos) (xCb o fa):=
 ⟨ZtZ Y (fun h=>ZkI hc hg hm U h J z he I) ha.pa⟩
def Zvy {r:List V->Hp->VK->Prop}{o:Mem->List W->Option W}{id:String}(Y:CbW Z.T o r)(hc:CallR X (.type id) r)(hg:Gl X x)(hm:X.mg x=none)(U:YaR x=some (.type id))(ha:QA X Z (e::es) fa)(J:x≠"__name__":=by decide)(z:(x == ("__debug__":Str))=false:=by decide)
  (he:Yah (e::es) X.env=(false,YbT e X.env)::Yah es X.env:=by rfl) (I:(Ya3 pos (Yah es X.env)).any (·.1)=false:=by rfl):QE X Z (.Call (.Name x p) (e::es) [] pos) (xCb o fa):=
 ⟨ZtZ Y (fun h=>Zem hc hg hm U h J z he I) ha.pa⟩
def Zpt:QO X Z none xPn:=⟨Zlk⟩
def ZoS (h:QE X Z e f):QO X Z (some e) (xPs f):=⟨ZkP h.pe⟩
def ZyT {lo hi:Option YaQ}{op:Mem->W->Option Int->Option Int->Option W}{r:V->Option Int->Option Int->Hp->VK->Prop}(I:SlR X r)(J:SlW Z.T op r)(U:QE X Z e f)(z:QO X Z lo l)(Y:QO X Z hi u):QE X Z (.Subscript e (.Slice lo hi none p2) pos) (xSl op f l u):=⟨Zv8 I J U.pe z.po Y.po⟩
def ZrH (ho:QE X Z o f)(ha:QA X Z [e] fa)(J:Ybb o "join" X.env (YbT o X.env)=YbT o X.env:=by rfl)
  (U:((Ya3 cpos (Yah [e] X.env)).all (fun x=>!x.1) && (Ycc cpos (Ybm [] X.env)).all (fun x=>x.1.isSome)
   && decide (([e]:List YaQ).length+([]:List Yb8).length+(if ([]:List Yb8).isEmpty then 0 else 1)<30))=true:=by rfl)
  (I:(apos.endLine == cpos.line)=true:=by rfl) (Y:Yah [e] X.env=(false,YbT e X.env)::Yah [] X.env:=by rfl) (z:(Ya3 cpos (Yah [] X.env)).any (·.1)=false:=by rfl) :
  QE X Z (.Call (.Attribute o "join" apos) [e] [] cpos) (Zni Zff f fa):=⟨Zpz ho.pe ha.pa J U I Y z⟩
def ZnQ (I:X.N.Nodup)(hi:X.N[i]?=some x)(z:Loc X.env.scope x)(J:X.fn x=true\/X.env.scope.names.lookup x=some .local:=by first | exact .inl rfl | exact .inr rfl | assumption):QG X (.Name x pos) (ZcL i):=⟨Zoz I hi z J⟩
def ZpG:QGs X [] Zq9:=⟨Zp8⟩
def ZpE (h:QE X Z iter f):QI X Z tg iter (xIl f):=⟨Zkx h.pe⟩
def Zue (h:QE X Z iter f):QI X Z tg iter (xIt f):=⟨ZnS h.pe⟩
def Zh0 (U:Gl X "range")(I:X.mg "range"=none)(Y:QE X Z a f)(z:Yah [a] X.env=[(false,YbT a X.env)]:=by rfl)(J:X.calm=true:=by rfl):QI X Z tg (.Call (.Name "range" p) [a] [] pos) (ZhL f):=⟨Zhy U I Y.pe z J⟩
def Zjs:QC X Z [] (xC (.bl true)):=⟨ZkX⟩
def Zsc (h:QT X Z c f):QC X Z [c] f:=⟨Zk8 h.pt⟩
def ZmT (z:X.calm=X.calm)(ho:X.env.scope=osc)(hN:X.N=N)(hk:compOk osc N own fr ix scope=true)(hi:QI X Z tg iter fi)(J:∀ σ,TgW (Zb Z.T own ix σ) gg Gt)[hc:Pu cc][he:Pu el]
  (hg:InC X own fr scope fun Y=>QG Y tg gg) (U:∀ σ,InC X own fr scope fun Y=>QC Y (Zb Z.T own ix σ) ifs cc) (I:∀ σ,InC X own fr scope fun Y=>QE Y (Zb Z.T own ix σ) elt el) (hs:∀ x,Ya1 iter X.env x=pure x:=by intro _;rfl) :
  QE X Z (.ListComp elt [⟨tg,iter,ifs,0⟩] scope pos) (Za9 fi own.length ix Gt cc el):=⟨ZnU z ho hN hk hi.pi J (fun a b c d e=>(hg a b c d e).pg) (fun σ a b c d e=>(U σ a b c d e).pc) (fun σ a b c d e=>(I σ a b c d e).pe) hs⟩
def Zt3:QB X Z [] Zjw:=⟨ZlB⟩
def ZpY (h1:QS X Z st F)(h2:QB X Z sts G):QB X Z (st::sts) (Zf2 F G):=⟨Zh1 h1.ps h2.ps⟩
def Ztb (h1:QS X Z st F):QB X Z [st] F:=⟨Zl7 h1.ps⟩
def ZtC (z:QE X Z e f):QS X Z (.Return (some e) pos) (Zqp f):=⟨Zm5 z.pe⟩
def Zop (z:QE X Z e f)(I:YbI e none pos.line X.env=pure false:=by rfl):QS X Z (.Expr e pos) (ZiD f):=⟨ZkL z.pe I⟩
def ZvT (J:QT X Z c f)(z:QB X Z sts F)(I:QB X Z more G):QS X Z (.If c sts more pos) (Zp5 f F G):=⟨Zr1 J.pt z.ps I.ps⟩
def Zr3 (U:X.N.Nodup)(hi:X.N[i]?=some x)(I:Loc X.env.scope x)(z:∀ σ v,Z.sg σ->Z.sg (σ.set i (some v)))(Y:QE X Z e f)(J:YbI e (some (.Name x pos')) pos.line X.env=pure false:=by rfl)
  (hf:X.fn x=true\/X.env.scope.names.lookup x=some .local:=by first | exact .inl rfl | exact .inr rfl | assumption):QS X Z (.Assign [.Name x pos'] e pos) (ZdJ (gN i) f):=⟨Zo4 U hi I z Y.pe J hf⟩
def Zkd (I:X.N.Nodup)(aa:X.N[i]?=some x)(hl:X.env.scope.names.lookup x=some .local)(ac:∀ σ v,Z.sg σ->Z.sg (σ.set i (some v)))(z:X.calm=X.calm)(ho:X.env.scope=osc)(hN:X.N=N)
  (hk:compOk osc N own fr ix scope=true) (hi:QI X Z tg iter fi) (hG:∀ σ,TgW (Zb Z.T own ix σ) gg Gt) [hc:Pu cc] [he:Pu el]
  (hg:InC X own fr scope fun Y=>QG Y tg gg) (ht:∀ σ,InC X own fr scope fun Y=>QC Y (Zb Z.T own ix σ) ifs cc) (J:∀ σ,InC X own fr scope fun Y=>QE Y (Zb Z.T own ix σ) elt el) (hs:∀ x,Ya1 iter X.env x=pure x:=by intro _;rfl)
  (U:YbI (.ListComp elt [⟨tg,iter,ifs,0⟩] scope pos) (some (.Name x px)) spos.line X.env=pure true:=by rfl) :
  QS X Z (.Assign [.Name x px] (.ListComp elt [⟨tg,iter,ifs,0⟩] scope pos) spos) (ZdJ (gN i) (Za9 fi own.length ix Gt cc el)):=
 ⟨ZkG I aa hl ac z ho hN hk hi.pi hG (fun a b c d e=>(hg a b c d e).pg) (fun σ a b c d e=>(ht σ a b c d e).pc) (fun σ a b c d e=>(J σ a b c d e).pe) hs U⟩
def ZlE:QS X Z st xNo:=⟨ZhV⟩
end
section
variable {P:YaN} {w:Ybg} {K:Yab} {mg:Str->Option Yag} {base:YbO} {T:CTb}
def Zwz {x:Str}{st:Yce}{N ps:List Str}{k:Nat}{F:Fm}{f:Yaq}{fd:Ybc}{B:Sm}(R:Fun K x x st f fd)(S:FnScope N ps (Zaa st))
  (hB:∀ (z:Yag) (A:Ybr) (outer:List Env) (s:Yaj) (H:Hp) (E:XK) (I:List Yaq) (Y:Hp),Room k (A.deeper (Yc4 x (Zaa st) s.heap.objs.size f z))->QB (Zcm CX0 P w K mg base N x (Zaa st) f z A outer s H E).nox (Zf T I Y) (Zah st) B)
  (J:∀ ws h w m,F ws h≠.ex w m) (U:Zkn ps.length N.length B F):FnOk P w K mg base CX0 (k+1) f fd ps (spH T F):=Zyv R S (fun a b c d e g h i j=>(hB a b c d e g h i j).ps) J U
end
theorem ZiA:∀ {ws:List W} {ns:List Int},Zc5 ws=some ns->ws=ns.map W.int
 | [],ns,e=>by cases e;rfl
 | w::ws,ns,e=>by
  cases w with
  | int i=>
   unfold Zc5 at e;rw[Yar] at e;obtain ⟨z,e,rfl⟩:=e;rw[ZiA e];rfl
  | _=>cases e
def Zqe:Fm:=fun ws h=>match ws with
 | [.tl l]=>(match Zc5 l with
  | some ns=>if ns.length<=63/\h.isEmpty=true then .ok (.bl true) h else .no
  | none=>.no)
 | _=>.no
def Zoo (ws:List W)(h:Mem)(w:W)(m:Mem):Zqe ws h≠.ex w m:=by
 unfold Zqe;split
 ·split
  ·split<;>simp
  ·simp
 ·simp
def Zjj (hB:∀ ns:List Int,ns.length<=63->∃ g,ZhM n B [.tl (ns.map W.int)] []=.ok (.bl true) g):Zkn 1 n B Zqe:=by
 intro ws h J I;unfold Zqe;split
 ·rename_i l;cases e:Zc5 l with
  | none=>exact .inl rfl
  | some ns=>
   simp only;split
   ·rename_i z;have:h=[]:=Yee.mp z.2;subst this;rw[ZiA e];obtain ⟨g,q⟩:=hB ns z.1;refine .inr ⟨rfl,?_⟩;rw[q];exact ZiQ (h:=[]) (g:=g) (Yak _) (fun o m=>by simp at m) rfl
   ·exact .inl rfl
 ·exact .inl rfl
def ZpD {K:Yab}{T:CTb}(z:noList K=true):∀ vs H Q E,Zdn K vs H Q E->spH T Zqe vs H Q E:=Zsy z fun ns I=>⟨[],by simp[Zqe,ZgB,I]⟩
end M
namespace L2
open PySem PySem.Spec PyProof.Rows
noncomputable def Its (x:Str):It:=⟨fun i _=>i<x.cps.size,fun i H v H'=>H'=H/\∃ c,x.cps[i]?=some c/\v=.str ⟨#[c]⟩,fun i _=>x.cps.size<=i⟩
theorem ZgW {P:YaN}{w:Ybg}{K:Yab}{tg:YaQ}{ty:String}(U:ty="str_ascii_iterator"\/ty="str_iterator")(it:Yaq)(x:Str)(t:Tok):Turn P w K tg (Its x) [it] it (fun i h=>h.IsStrIter it ty x t i) true where
 mem:=by simp
 obj:=fun i h st b Y=>by
  have e:b=it:=by simpa using Y
  subst e;obtain ⟨o,e,c,d⟩:=st;exact ⟨o,e,fun v z=>by rw[d] at z;cases z⟩
 keep:=fun i h h' st k=>let ⟨o,ho,r⟩:=st;⟨o,k it (by simp) o ho,r⟩
 item:=by
  intro X hP hw hK hc i pins s σ H E I hf st J;subst hP hw hK;have J:i<x.cps.size:=J;obtain ⟨f0,f1,f2,f3,f4,f5⟩:=hf it (by simp);have fin:∀ h',h'.IsStrIter it ty x t (i+1)->Ydo it s.heap h'->(∃ u,some (YdV ⟨#[x.cps[i]]⟩ s.toks)=some u /\
    YaF (YaJ X.prog X.w) X.A (Ycw tg (.ref it) u) (fun _ s2=>∃ y H',Inv X pins σ H' s2/\RelV y u/\(Its x).yld i H y H'/\s2.heap.IsStrIter it ty x t (i+1)/\∀ b∈[it],H' b=none) E { s with heap:=h',toks:=s.toks+1 }):=fun h' aa sb=>by
   have I1:Inv X pins σ H { s with heap:=h',toks:=s.toks+1 }:=I.turned (t':=s.toks+1) (fun b o Y e=>(sb.2 b Y).trans e) f0 f1 f3 f4 f5;refine ⟨_,rfl,?_⟩;unfold Ycw;cases tg<;>exact Yat ⟨.str ⟨#[x.cps[i]]⟩,H,I1,⟨_,rfl⟩,⟨rfl,_,by simp[J],rfl⟩,aa,fun b Y=>(hf b Y).1⟩
  rcases U with rfl|rfl
  ·exact wpAny_pyNext_ascii_item st (c:=x.cps[i]) (by simp[J]) fin
  ·exact wpAny_pyNext_wide_item st (c:=x.cps[i]) (by simp[J]) fin
 done:=by
  intro X hP hw hK hc i pins s σ H E I hf st J;subst hP hw hK;have J:x.cps.size<=i:=J;obtain ⟨f0,f1,f2,f3,f4,f5⟩:=hf it (by simp);have fin:∀ h',Ydf it s.heap h'->(none:Option Yag)=none/\Inv X pins σ H { s with heap:=h' }:=fun h' eb=>⟨rfl,I.turned (t':=s.toks) (fun b o Y e=>eb b o Y e) f0 f1 f3 f4 f5⟩
  rcases U with rfl|rfl
  ·exact wpAny_pyNext_ascii_end (I.ok.hd (hc rfl)) st (by simp[J]) fin
  ·exact wpAny_pyNext_wide_end (I.ok.hd (hc rfl)) st (by simp[J]) fin
 self:=fun _ _ _ _ _ st h=>by
  rcases U with rfl|rfl
  ·exact wpAny_pyIter_striter_ascii st h
  ·exact wpAny_pyIter_striter_wide st h
def Zyg (tl:TE):TI:=fun σ H R=>tl σ H fun x H1=>∃ z,x=.str z/\R (Its z) H1
section
variable {X:Cx} {tg:YaQ}
def Zq5 {l:YaQ}{tl:TE}(U:X.calm=true)(hl:PE X l tl):PI X tg l (Zyg tl):=by
 intro pins s σ H R I h;refine thn (hl pins s σ H _ I h) fun v s1 zq=>?_
 obtain ⟨x,H1,J,r1,q1⟩:=zq;obtain ⟨z,e,q⟩:=q1;subst e;obtain ⟨t,rfl⟩:=r1;have fp:∀ b∈[s1.heap.objs.size],ZfQ X pins H1 b:=fun b hb=>by
  have e:b=s1.heap.objs.size:=by simpa using hb
  subst e;exact J.fpOk (Yak _) (J.hok.fresh (Yak _))
 cases Y:z.cps.all (· < 128) with
 | false=>exact wpAny_pyIter_wide Y ⟨s1.heap.objs.size,[s1.heap.objs.size],_,_,H1,rfl,J.kept (t':=s1.toks) fun b o e=>Yad _ e,⟨true,fun _=>U,ZgW (.inr rfl) _ z t⟩,⟨_,YaC _ rfl,rfl,rfl⟩,fp,q⟩
 | true=>exact wpAny_pyIter_ascii Y ⟨s1.heap.objs.size,[s1.heap.objs.size],_,_,H1,rfl,J.kept (t':=s1.toks) fun b o e=>Yad _ e,⟨true,fun _=>U,ZgW (.inl rfl) _ z t⟩,⟨_,YaC _ rfl,rfl,rfl⟩,fp,q⟩
def ZwS:List V->Hp->VK->Prop:=fun vs H Q=>match vs with
 | [.ref p]=>ZaZ (Zam H p) fun xs=>ZaZ (Za8 xs) fun bs=>Q (.bl (bs.all id)) H
 | _=>False
def Zfq:∀ {us:List Yag},Vals (bs.map V.bl) us->LSm.BoolsAre us bs:=by
 induction bs with
 | nil=>intro us h;cases h;exact .nil
 | cons b r z=>
  intro us h;cases h with
  | cons a q=>cases a;exact .cons _ (z q)
def Zkf (hc:X.calm=true):CallR X (.builtin "all") ZwS:=by
 intro pins s σ H xs us Q I rv h;unfold ZwS at h;split at h
 ·rename_i p;obtain ⟨xs,e1,h⟩:=Zak h;obtain ⟨bs,e2,q⟩:=Zak h;obtain ⟨u,rfl,ru⟩:=rv.one;cases ru;obtain ⟨its,r,pl,z⟩:=I.list (Zad (K:=X.K) e1);rw[ZbC e2] at r;have hb:=Zfq r;have J:=pl.isList;have Y:p<s.heap.objs.size:=by obtain ⟨_,e,_⟩:=id J;exact Yal e
  refine call_all_walk (wpAny_pyIter_list J ?_);refine ⟨s.heap.objs.size,[s.heap.objs.size,p],[s.heap.objs.size],its.toArray.size,_,_,fun i=>(bs[i]?).getD true,rfl,Walks.list (A:=X.A.in1) (I.ok.hd hc) _ p (YaK Y) its.toArray,
   ⟨⟨_,YaC _ rfl,rfl,rfl⟩,J.push _⟩,fun i v s' Q' E' hP hQ=>?_,fun h' tk hk=>?_⟩
  ·obtain ⟨b,e,rfl⟩:=hb.get i v (by simpa using hP);simp only[e,Option.getD_some] at hQ;exact Ybu hQ
  ·have e:((YbM its.toArray.size).all fun i=>(bs[i]?).getD true)=bs.all id:=by
    have aa:its.toArray.size=bs.length:=by simpa using hb.length
    rw[aa];have U:∀ (l:List Bool),((YbM l.length).all fun i=>(l[i]?).getD true)=l.all id:=by
     intro l
     induction l with
     | nil=>rfl
     | cons x r ih=>
      rw[Ya4,Yeh,Ybf,YdO,Ybf];have:((fun i=>((x::r)[i]?).getD true) ∘ Nat.succ)=fun i=>(r[i]?).getD true:=by
       funext i;simp
      rw[this,ih];rfl
    exact U bs
   rw[e];exact ⟨.bl _,H,I.kept (t':=tk) (LSm.kept_iter hk),rfl,q⟩
 ·exact h.elim
def Zqv (z:Bool):R2:=fun x y H Q=>match y with
 | .str j=>(match x with
  | .str i=>Q (.bl (z ^^ !(Yck j i 0 j.length 1).isEmpty)) H
  | _=>False)
 | .ref p=>(match H p with
  | some (.dK kvs)=>∃ k,x=kV k/\Q (.bl (z ^^ (Zck kvs k).isSome)) H
  | some (.frz _ (.dK kvs))=>∃ k,x=kV k/\Q (.bl (z ^^ (Zck kvs k).isSome)) H
  | _=>ZaZ (ZaG H p) fun xs=>Zan x=true/\xs.all Zan=true/\Q (.bl (z ^^ inV x xs)) H)
 | _=>False
def ZmH {K:Yab}{H:Hp}{p:Yaq}{xs:List V}(h:ZaG H p=some xs):SqL K H p xs\/SqT K H p xs:=by
 rcases Zbm h with h|h
 ·exact .inl (Zad h)
 ·exact .inr (Zav h)
def Ztx (Y:Room k X.A):OpR X (YaV .In) (Zqv false):=by
 intro pins s σ H x y v u Q I J z h;unfold Zqv at h;split at h
 ·split at h
  ·exact Zio pins s σ H _ _ v u Q I J z ⟨_,_,rfl,rfl,by simpa using h⟩
  ·exact h.elim
 ·split at h
  ·rename_i p kvs e;obtain ⟨k,rfl,q⟩:=h;cases z;exact Zxx (Zhg Y) I (.k e) J fun s' U=>⟨.bl _,H,U,rfl,by simpa using q⟩
  ·rename_i p ob kvs e;obtain ⟨k,rfl,q⟩:=h;cases z;exact Zxx (Zhg Y) I (.inl ⟨kvs,k,.inr ⟨ob,e⟩,rfl,rfl⟩) J fun s' U=>⟨.bl _,H,U,rfl,by simpa using q⟩
  ·obtain ⟨xs,e,h1,h2,q⟩:=Zak h;exact ZiG pins s σ H _ _ v u Q I J z ⟨_,xs,rfl,ZmH e,h1,h2,by simpa using q⟩
 ·exact h.elim
def ZhY (Y:Room k X.A):OpR X (YaV .NotIn) (Zqv true):=by
 intro pins s σ H x y v u Q I J z h;unfold Zqv at h;split at h
 ·split at h
  ·exact Ze7 pins s σ H _ _ v u Q I J z ⟨_,_,rfl,rfl,by simpa using h⟩
  ·exact h.elim
 ·split at h
  ·rename_i p kvs e;obtain ⟨k,rfl,q⟩:=h;cases z;exact ZiX (Zhg Y) I (.k e) J fun s' U=>⟨.bl _,H,U,rfl,by simpa using q⟩
  ·rename_i p ob kvs e;obtain ⟨k,rfl,q⟩:=h;cases z;exact ZiX (Zhg Y) I (.inl ⟨kvs,k,.inr ⟨ob,e⟩,rfl,rfl⟩) J fun s' U=>⟨.bl _,H,U,rfl,by simpa using q⟩
  ·obtain ⟨xs,e,h1,h2,q⟩:=Zak h;exact ZeS pins s σ H _ _ v u Q I J z ⟨_,xs,rfl,ZmH e,h1,h2,by simpa using q⟩
 ·exact h.elim
end
end L2
namespace M
open PySem PySem.Spec PyProof.Rows L2
section
variable {X:Cx} {Z:Zc} {f:Ex} {iter tg:YaQ}
noncomputable def signs (z:Str):List W:=z.cps.toList.map fun c=>.str ⟨#[c]⟩
def xIs (f:Ex):Ei:=fun ρ h=>match f ρ h with
 | .ok (.str z) h'=>.ok none (signs z) h'
 | .ex w h'=>.ex w h'
 | _=>.no
def ZsS:ItOk T φ H (Its z) (signs z) P:=by
 refine ⟨fun φ2 H2 h2 i w s2 J _ I=>?_,fun φ2 H2 h2 i w y H' s2 J _ I U=>?_,fun φ2 H2 h2 s2 J _=>?_⟩
 ·have:=(YaA.mp I).1;show i<z.cps.size
  simpa [signs] using this
 ·obtain ⟨rfl,c,Y,rfl⟩:=U;refine ⟨rfl,?_⟩;simp only[signs,YaU] at I;have e2:z.cps.toList[i]?=some c:=by simpa using Y
  rw[e2] at I;cases I;exact Zql
 ·show z.cps.size<=_;simp[signs]
def ZrP (h:QE X Z iter f)(J:X.calm=true:=by rfl):QI X Z tg iter (xIs f):=⟨(Zq5 J h.pe).imp fun σ H R ⟨φ,m,ρ,x,q⟩=>⟨φ,m,ρ,x,by
 unfold xIs at q;cases e:f ρ m with
 | no=>rw[e] at q;exact q.elim
 | ex w h'=>rw[e] at q;exact q
 | ok w h'=>
  rw[e] at q;intro φ1 H1 v s1 r1 I;cases w with
  | str z=>exact ⟨z,ZaX I,q φ1 H1 _ s1 r1 trivial ZsS⟩
  | _=>exact q.elim⟩⟩
end
section
variable {T:CTb}
noncomputable def ZdA:List W->Option (List Bool)
 | []=>some []
 | .bl i::r=>(ZdA r).map (i :: ·)
 | _::_=>none
theorem Zd8:∀ {ws:List W} {vs:List V} {ns:List Bool},RWs T φ H ws vs->ZdA ws=some ns->Za8 vs=some ns
 | [],vs,ns,r,e=>by cases e;unfold RWs at r;subst r;rfl
 | w::ws,vs,ns,r,e=>by
  unfold RWs at r;obtain ⟨v,s,rfl,a,b⟩:=r;cases w with
  | bl i=>
   unfold ZdA at e;rw[Yar] at e;obtain ⟨z,e,rfl⟩:=e;rw[Zby a];unfold Za8;rw[Zd8 b e];rfl
  | _=>cases e
def ZlG (ns:List Bool):ZdA (ns.map W.bl)=some ns:=by
 induction ns with
 | nil=>rfl
 | cons x r z=>rw[Yap];unfold ZdA;rw[z];rfl
def Zhx (h:Mem):List W->Option W
 | [w]=>((items h w).bind ZdA).map fun bs=>.bl (bs.all id)
 | _=>none
def ZkB:CbW T Zhx ZwS:=by
 intro φ h H ws vs w Q r x e k;unfold Zhx at e;split at e
 ·obtain ⟨v,rfl,J⟩:=Zas x;rw[Yar] at e;obtain ⟨ns,e,rfl⟩:=e;rw[Yaw] at e;obtain ⟨us,I,U⟩:=e;obtain ⟨p,vs,rfl,Y,z⟩:=Zay r J I;show ZaZ (Zam H p) _;rw[Y];show ZaZ (Za8 vs) _;rw[Zd8 z U];exact Zaj r Zek k
 ·cases e
def ZcO:W->Option Key
 | .int i=>some (.inl i)
 | .str x=>some (.inr x)
 | _=>none
noncomputable def ZhJ {α:Type}(kvs:List (Key×α))(k:Key):Option α:=(kvs.find? fun kv=>decide (kv.1=k)).map (·.2)
def Zbu (h:Mem):W->Option (List (Key×W))
 | .td ks ws=>some (ks.zip ws)
 | .ref n=>(match h[n]? with
  | some (.dic kvs)=>some kvs
  | some (.fdic kvs)=>some kvs
  | _=>none)
 | _=>none
def inM (z:Bool)(h:Mem)(a b:W):Option W:=match b with
 | .str j=>(match a with
  | .str i=>some (.bl (z ^^ !(Yck j i 0 j.length 1).isEmpty))
  | _=>none)
 | b=>(match Zbu h b with
  | some kvs=>(ZcO a).map fun k=>.bl (z ^^ (ZhJ kvs k).isSome)
  | none=>(ZgC h b).bind fun xs=>if (Zaq a && xs.all Zaq)=true then some (.bl (z ^^ xs.any fun y=>Zdd y a)) else none)
theorem ZfM (r:RP T φ H kvs kv)(k:Key):match ZhJ kvs k,Zck kv k with
  | some w,some v=>RW T φ H w v
  | none,none=>True
  | _,_=>False:=by
 unfold ZhJ Zck
 induction r with
 | nil=>trivial
 | @cons a b I bs h _ z=>
  rw[Ybz,Ybz,h.1];by_cases e:b.1=k
  ·simp only[e,decide_true];exact h.2
  ·simp only[e,decide_false];exact z
theorem ZmN:∀ {ks:List κ} {ws:List W} {vs:List V},RWs T φ H ws vs->RP T φ H (ks.zip ws) (ks.zip vs)
 | [],ws,vs,r=>by simp;exact .nil
 | k::ks,[],vs,r=>by unfold RWs at r;subst r;exact .nil
 | k::ks,w::ws,vs,r=>by
  unfold RWs at r;obtain ⟨v,s,rfl,a,b⟩:=r;rw[Yct,Yct];exact .cons ⟨rfl,a⟩ (ZmN b)
def Zcn (r:RH T φ h H)(x:RW T φ H w v)(e:Zbu h w=some kvs):∃ p kv,v=.ref p/\Rd H p (.dK kv)/\RP T φ H kvs kv:=by
 cases w with
 | td ks ws=>
  cases e;unfold RW at x;obtain ⟨p,vs,rfl,_,c,l,I⟩:=x;exact ⟨p,_,rfl,.inl c,ZmN I⟩
 | ref n=>
  unfold Zbu at e;unfold RW at x;obtain ⟨p,a,rfl⟩:=x;cases q:h[n]? with
  | none=>simp[q] at e
  | some o=>
   cases o with
   | dic us=>
    simp[q] at e;subst e;obtain ⟨ho,y,kv,rfl,z⟩:=r.obj n _ p q a;exact ⟨p,kv,rfl,.inl y,z⟩
   | fdic us=>
    simp[q] at e;subst e;obtain ⟨ho,y,ob,kv,rfl,z⟩:=r.obj n _ p q a;exact ⟨p,kv,rfl,.inr ⟨ob,y⟩,z⟩
   | _=>simp[q] at e
 | _=>cases e
noncomputable def ZcK (x:RW T φ H w v)(e:ZcO w=some k):v=kV k:=by
 cases w with
 | int i=>cases e;exact ZaO x
 | str i=>cases e;exact ZaX x
 | _=>cases e
theorem Zgr (I:RW T φ H a u)(fa:Zaq a=true):∀ {ws:List W} {vs:List V},RWs T φ H ws vs->ws.all Zaq=true->vs.all Zan=true/\inV u vs=ws.any fun y=>Zdd y a
 | [],vs,r,f=>by unfold RWs at r;subst r;exact ⟨rfl,rfl⟩
 | w::ws,vs,r,f=>by
  unfold RWs at r;obtain ⟨v,s,rfl,x,y⟩:=r;rw[Ybf,Yaa] at f;have z:=Zgr I fa y f.2;have f1:=Zbc x f.1;refine ⟨by rw[Ybf,f1.1,z.1];rfl,?_⟩;unfold inV at z ⊢;rw[YbJ,YbJ,z.2,f1.2 I fa]
def Zl8:OpW T (inM neg) (Zqv neg):=by
 intro φ h H a b u v w Q r Y rb e k;unfold inM at e;split at e
 ·rw[ZaX rb];split at e
  ·cases e;rw[ZaX Y];exact Zaj r Zek k
  ·cases e
 ·rename_i b' hb;cases q:Zbu h b with
  | some kvs=>
   rw[q] at e;simp only[Yar] at e;obtain ⟨I,e1,rfl⟩:=e;obtain ⟨p,kv,rfl,J,rp⟩:=Zcn r rb q;have:=ZfM rp I;have U:(Zck kv I).isSome=(ZhJ kvs I).isSome:=by
    cases z1:ZhJ kvs I<;>cases z2:Zck kv I<;>simp[z1,z2] at this ⊢
   have fin:∃ k,u=kV k/\Q (.bl (neg ^^ (Zck kv k).isSome)) H:=⟨I,ZcK Y e1,by rw[U];exact Zaj r Zek k⟩;unfold Zqv;rcases J with J|⟨ob,J⟩
   ·simp only[J];exact fin
   ·simp only[J];exact fin
  | none=>
   rw[q] at e;simp only[Yaw] at e;obtain ⟨xs,e1,U⟩:=e;split at U
   ·rename_i hf;cases U;rw[Yaa] at hf;obtain ⟨p,vs,rfl,J,rs⟩:=ZdS r rb e1;have hd:∀ kvs,H p≠some (.dK kvs):=fun kvs z=>by
     unfold ZaG at J;rw[z] at J;cases J
    have aa:∀ ob kvs,H p≠some (.frz ob (.dK kvs)):=fun ob kvs z=>by
     unfold ZaG at J;rw[z] at J;cases J
    have f:=Zgr Y hf.1 rs hf.2;have fin:ZaZ (ZaG H p) fun xs=>Zan u=true/\xs.all Zan=true/\Q (.bl (neg ^^ inV u xs)) H:=by
     rw[J];exact ⟨(Zbc Y hf.1).1,f.1,by rw[f.2];exact Zaj r Zek k⟩
    show (match H p with
     | some (.dK kvs)=>∃ k,u=kV k/\Q (.bl (neg ^^ (Zck kvs k).isSome)) H
     | some (.frz _ (.dK kvs))=>∃ k,u=kV k/\Q (.bl (neg ^^ (Zck kvs k).isSome)) H
     | _=>ZaZ (ZaG H p) fun xs=>Zan u=true/\xs.all Zan=true/\Q (.bl (neg ^^ inV u xs)) H)
    cases z:H p with
    | none=>exact fin
    | some o=>
     cases o with
     | dK kvs=>exact absurd z (hd kvs)
     | frz ob u'=>
      cases u' with
      | dK kvs=>exact absurd z (aa ob kvs)
      | _=>exact fin
     | _=>exact fin
   ·cases U
end
theorem ZgL (g r:α->W)(p:α->Bool):∀ (l:List α) (z:List W),
  (∀ a∈l,∀ z:List W,∃ ρ,G (g a) ρ0=some ρ/\(∃ h',c ρ (h++[.lst z])=.ok (.bl (p a)) h')/\(p a=true->(∃ h',el ρ (h++[.lst z])=.ok (r a) h')/\ltW h.length (r a)=true)) ->
  ZdZ G c el ρ0 h (l.map g) z=some (z++(l.filter p).map r)
 | [],z,_=>by simp[ZdZ]
 | a::l,z,I=>by
  obtain ⟨ρ,e1,⟨h',e2⟩,e3⟩:=I a YaD z;have J:=fun z=>ZgL g r p l z fun b m=>I b (Yau _ m)
  rw[Yap];unfold ZdZ;simp only[e1,e2];cases q:p a with
  | false=>
   simp only[Yb4,q];exact J z
  | true=>
   obtain ⟨⟨U,e4⟩,Y⟩:=e3 q;simp only[e4,Y,if_true,Yb4,q,Yap];rw[J];simp
def ZiU (g r:α->W)(p:α->Bool)(l:List α)(I:fi ρ h=.ok s (l.map g) h1)(hz:l.length<Yai)
  (J:∀ a∈l,∀ z:List W,∃ ρ',G (g a) (ρC own ix ρ)=some ρ'/\(∃ h',c ρ' (h1++[.lst z])=.ok (.bl (p a)) h')/\(p a=true->(∃ h',el ρ' (h1++[.lst z])=.ok (r a) h')/\ltW h1.length (r a)=true)) :
  Za9 fi own ix G c el ρ h=.ok (.tl ((l.filter p).map r)) h1:=by
 unfold Za9;rw[I];simp only[YaE,hz,if_true];rw[ZgL g r p l [] J];rfl
def ZbE (g r:α->W)(l:List α)(I:fi ρ h=.ok s (l.map g) h1)(hz:l.length<Yai)
  (J:∀ a∈l,∀ z:List W,∃ ρ',G (g a) (ρC own ix ρ)=some ρ'/\(∃ h',el ρ' (h1++[.lst z])=.ok (r a) h')/\ltW h1.length (r a)=true) :
  Za9 fi own ix G (xC (.bl true)) el ρ h=.ok (.tl (l.map r)) h1:=by
 rw[ZiU g r (fun _=>true) l I hz fun a m z=>by
  obtain ⟨ρ',U,e2,Y⟩:=J a m z;exact ⟨ρ',U,⟨_,rfl⟩,fun _=>⟨e2,Y⟩⟩]
 rw[List.filter_eq_self.mpr (by simp)]
def ZfZ (n m:Nat)(B:Sm):Fm:=fun ws h=>if ws.length=n then (match ZhM m B ws h with
 | .ok w h'=>if h.length<=h'.length then .ok w h' else .no
 | _=>.no) else .no
def Zjx (l:List α)(f:α->Bool):ZdA (l.map (W.bl ∘ f))=some (l.map f):=by rw[<-YbS,ZlG]
def ZaL (x y:Str):(x++y).cps.toList=x.cps.toList++y.cps.toList:=by rw[PySem.Str.cps_append,Array.toList_append]
def Zat (x:Str):x.length=x.cps.toList.length:=by simp[Ye9]
def Zgw (h:0<=j/\j<=x.length):(Yb0 x none (some j)).cps.toList=x.cps.toList.take j.toNat:=by
 show (StrLaws.sliceText x none (some j)).cps.toList=_;rw[StrLaws.sliceText_to (by simpa [Ye9] using h)];simp
def ZpZ (z:Str)(I:List Str):YeY z I=Str.join z I:=by
 unfold YeY;rw[StrLaws.glued_eq_join]
theorem Zdq:∀ (z:List Str),(Str.join ⟨#[]⟩ z).cps.toList=(z.map fun t=>t.cps.toList).flatten
 | []=>rfl
 | [x]=>by simp[Str.join]
 | x::y::r=>by
  show (x++⟨#[]⟩++Str.join ⟨#[]⟩ (y::r)).cps.toList=_;rw[ZaL,ZaL,Zdq (y::r)];simp
def Zjl (h:(ts.map fun t=>t.length+sep.length).sum<=Yai):JoinOk sep ts=true:=by
 have z:∀ (l:List Str) (n:Nat),l.foldl (fun I t=>I+t.length+sep.length) n=n+(l.map fun t=>t.length+sep.length).sum:=by
  intro l
  induction l with
  | nil=>intro n;simp
  | cons x r J=>intro n;rw[List.foldl_cons,J];simp;omega
 unfold JoinOk;rw[<-Array.foldl_toList];rw[show (ts.toArray.toList)=ts from rfl,z];simp[YeZ.Str.tooLong];omega
end M
namespace L2
open PySem PySem.Spec PyProof.Rows PySem.Builtin.Str
end L2
namespace M
open PySem PySem.Spec PyProof.Rows L2 PySem.Builtin.Str
open PySem PySem.Spec PyProof.Rows L2
section
variable {X:Cx} {Z:Zc} {f:Ex} {fa:Exs} {o e:YaQ} {es:List YaQ} {apos cpos pos:Pos}
def ZkR (h1:QG X e t)(h2:QGs X es u)(z:(Ybt (e::es) X.env).map (·.2)=YeS e X.env::(Ybt es X.env).map (·.2):=by rfl):QGs X (e::es) (ZfC t u):=⟨Zld h1.pg h2.pg z⟩
def Zos (J:X.calm=X.calm)(h:QGs X es t)(I:(Ybt es X.env).length=n:=by rfl)(z:(Ybt es X.env).findIdx? (·.1)=none:=by rfl):QG X (.Tuple es k pos) (ZiJ n t):=⟨Znp J h.pg I z⟩
noncomputable def gT2 (i j:Nat):Tg:=fun w ρ=>match w with
 | .tup [a,b]=>some ((ρ.set i (some a)).set j (some b))
 | _=>none
def ZnD (h1:∀ σ v,Z.sg σ->Z.sg (σ.set i (some v)))(h2:∀ σ v,Z.sg σ->Z.sg (σ.set j (some v))):TgW Z (ZiJ 2 (ZfC (ZcL i) (ZfC (ZcL j) Zq9))) (gT2 i j):=by
 intro σ H φ h ρ w v ρ' Q x r e k;unfold gT2 at e;split at e
 ·rename_i a b;cases e;unfold RW at r;obtain ⟨p,vs,rfl,_,U,I⟩:=r;obtain ⟨J,z,rfl,r1,Y⟩:=Znq I;show ZaZ (Zbi H p) _;rw[Zbn U];exact ⟨rfl,J,[z],rfl,z,[],rfl,rfl,k _ ((x.rs.set r1).set Y) (h2 _ _ (h1 _ _ x.sg))⟩
 ·cases e
end
section
variable {T:CTb} {φ:List Yaq} {H:Hp}
theorem ZcM:∀ {fs:List (Str×W)} {z:List (Str×V)},RP T φ H fs z->(∀ w,fs.lookup nm=some w->∃ v,z.lookup nm=some v/\RW T φ H w v)/\(fs.lookup nm=none->z.lookup nm=none)
 | [],z,r=>by
  cases r;exact ⟨fun _ e=>(by cases e),fun _=>rfl⟩
 | (a,x)::fs,z,r=>by
  cases r with
  | cons p q=>
   rename_i b l;obtain ⟨k,v⟩:=b;obtain ⟨e,I⟩:=p;dsimp only at e I;subst e;obtain ⟨i1,J⟩:=ZcM (nm:=nm) q;rw[YaG,YaG];cases h:nm == a with
   | true=>exact ⟨fun w e=>by cases e;exact ⟨v,rfl,I⟩,fun e=>by cases e⟩
   | false=>exact ⟨i1,J⟩
noncomputable def Zjy (f:Str)(w:W):List (Str×W)->List (Str×W)
 | []=>[(f,w)]
 | (g,x)::r=>bif g == f then (g,w)::r else (g,x)::Zjy f w r
theorem Zmg (x:RW T φ H w v):∀ {fs:List (Str×W)} {z:List (Str×V)},RP T φ H fs z->RP T φ H (Zjy nm w fs) (Zdp nm v z)
 | [],z,r=>by cases r;exact .cons ⟨rfl,x⟩ .nil
 | (a,y)::fs,z,r=>by
  cases r with
  | cons p q=>
   rename_i b l;obtain ⟨k,u⟩:=b;obtain ⟨e,I⟩:=p;dsimp only at e I;subst e;unfold Zjy Zdp;by_cases h:a=nm
   ·rw[if_pos h,beq_iff_eq.mpr h];exact .cons ⟨rfl,x⟩ q
   ·rw[if_neg h,beq_eq_false_iff_ne.mpr h];exact .cons ⟨rfl,I⟩ (Zmg x q)
def Zqk (nm:Str)(h:Mem):W->Option W
 | .ref n=>(match h[n]? with
  | some (.ins _ fs)=>fs.lookup nm
  | _=>none)
 | _=>none
def Zht (K:Yab)(T:CTb)(nm:Str):Prop:=∀ c C,T c=some C->Cls K C/\NoAttr K C nm
def Zya (K:Yab)(nm:Str):V->Hp->VK->Prop:=fun x H Q=>∃ a C dx fs v,x=.ref a/\H a=some (.ins C dx fs)/\Cls K C/\NoAttr K C nm/\fs.lookup nm=some v/\Q v H
def Zfv (r:RH T φ h H)(x:RW T φ H (.ref n) v)(e:h[n]?=some (.ins c fs)):∃ a C dx z,v=.ref a/\φ[n]?=some a/\H a=some (.ins C dx z)/\T c=some C/\RP T φ H fs z:=by
 unfold RW at x;obtain ⟨a,I,rfl⟩:=x;obtain ⟨ho,y,C,dx,z,rfl,U,J⟩:=r.obj n _ a e I;exact ⟨a,C,dx,z,rfl,I,y,U,J⟩
def ZpH {K:Yab}{nm:Str}(z:Zht K T nm):UnW T (Zqk nm) (Zya K nm):=by
 intro φ h H a u w Q r U e k;unfold Zqk at e;split at e
 ·rename_i n;split at e
  ·rename_i c fs q;obtain ⟨p,C,dx,fv,rfl,_,y,I,Y⟩:=Zfv r U q;obtain ⟨v,ev,J⟩:=(ZcM Y).1 w e;exact ⟨p,C,dx,fv,v,rfl,y,(z c C I).1,(z c C I).2,ev,k H v (Step.refl _ _) r J⟩
  ·cases e
 ·cases e
end
def Zi1 (nm:Str)(fo z:Ex):Sm:=fun ρ h=>match z ρ h with
 | .ok y h1=>(match fo ρ h1 with
  | .ok (.ref n) h2=>(match h2[n]? with
   | some (.ins c fs)=>bif decide (fs.length<1000) then .nx ρ (h2.set n (.ins c (Zjy nm y fs))) else .no
   | _=>.no)
  | .ex w h2=>.ex w h2
  | _=>.no)
 | .ex w h1=>.ex w h1
 | .no=>.no
def xLm (op:List W->List W->Option (W×List W))(f:Ex)(g:Exs):Ex:=fun ρ h=>(f ρ h).bind fun a h1=>match a with
 | .ref n=>(match h1[n]? with
  | some (.lst _)=>(match g ρ h1 with
   | .ok ws h2=>(match h2[n]? with
    | some (.lst xs)=>(match op xs ws with
     | some (w,ys)=>.ok w (h2.set n (.lst ys))
     | none=>.no)
    | _=>.no)
   | .ex w h2=>.ex w h2
   | .no=>.no)
  | _=>.no)
 | _=>.no
def LmW (T:CTb)(op:List W->List W->Option (W×List W))(r:V->List V->Hp->VK->Prop):Prop:=∀ φ h H n ws vs u xs ys w Q,RH T φ h H->RW T φ H (.ref n) u->RWs T φ H ws vs->h[n]?=some (.lst xs)->op xs ws=some (w,ys) ->
 (∀ H' x,Step φ H φ H'->RH T φ (h.set n (.lst ys)) H'->RW T φ H' w x->Q x H')->r u vs H Q
noncomputable def ZmD:List W->List W->Option (W×List W):=fun xs ws=>match ws with
 | [w]=>bif decide (xs.length<Yai) then some (.non,xs++[w]) else none
 | _=>none
section
variable {T:CTb}
def ZcR (r:RH T φ h H)(x:RW T φ H (.ref n) v)(e:h[n]?=some (.lst xs)):∃ a us,v=.ref a/\φ[n]?=some a/\H a=some (.lst us)/\RWs T φ H xs us:=by
 unfold RW at x;obtain ⟨a,z,rfl⟩:=x;obtain ⟨ho,y,us,rfl,I⟩:=r.obj n _ a e z;exact ⟨a,us,rfl,z,y,I⟩
def Zpw:LmW T ZmD ZdO:=by
 intro φ h H n ws vs u xs ys w Q r ru Y e1 z k;obtain ⟨a,us,rfl,U,y,J⟩:=ZcR r ru e1;unfold ZmD at z;split at z
 ·rename_i w0;cases hz:decide (xs.length<Yai) with
  | false=>rw[hz] at z;cases z
  | true=>
   rw[hz] at z;cases z;obtain ⟨v,rfl,I⟩:=Zas Y;have ro:RO T φ H (.lst (xs++[w0])) (.lst (us++[v])):=⟨_,rfl,Zbq J (by unfold RWs;exact ⟨_,_,rfl,I,by unfold RWs;rfl⟩)⟩;show match H a with | some (.lst xs)=>_ | _=>False
   rw[y];exact ⟨by rw[<-J.length];exact of_decide_eq_true hz,k _ _ (ZaF (Yax U) (ZeZ y)) (r.set U ro) (by unfold RW;rfl)⟩
 ·cases z
end
section
variable {X:Cx} {Z:Zc} {f g k:Ex} {fa:Exs} {o e v:YaQ} {es:List YaQ} {apos cpos pos pos':Pos} {nm:Str}
def ZvW (J:QE X Z e f)(z:Zht X.K Z.T nm)(U:Ybb e nm X.env (YbT e X.env)=YbT e X.env:=by rfl):QE X Z (.Attribute e nm pos) (xUn (Zqk nm) f):=
 ⟨(ZsK J.pe U).imp fun σ H Q ⟨φ,m,ρ,x,q⟩=>⟨φ,m,ρ,x,by
  unfold xUn at q;rw[Zba] at q;refine q.mono fun a h1 Y=>fun φ1 H1 u s1 r1 I=>?_
  obtain ⟨w,e,k⟩:=ofP Y;exact ZpH z φ1 h1 H1 a u w Q r1 I e (k.step s1).end⟩⟩
def Ztk (ho:QE X Z o f)(hv:QE X Z v g)(hK:Zht X.K Z.T nm)(hs:YbI v (some (.Attribute o nm pos')) pos.line X.env=pure false:=by rfl):QS X Z (.Assign [.Attribute o nm pos'] v pos) (Zi1 nm f g):=
 ⟨(ZqP ho.pe hv.pe hs).imp fun D σ H ⟨φ,m,ρ,x,q⟩=>⟨φ,m,ρ,x,by
  unfold Zi1 at q;cases z:g ρ m with
  | no=>rw[z] at q;exact q.elim
  | ex w h1=>rw[z] at q;exact q
  | ok y h1=>
   rw[z] at q;intro φ1 H1 vy s1 r1 ry;refine ⟨φ1,h1,ρ,x.step s1 r1,?_⟩;dsimp only at q;cases Y:f ρ h1 with
   | no=>rw[Y] at q;exact q.elim
   | ex w h2=>rw[Y] at q;exact q
   | ok a h2=>
    rw[Y] at q;intro φ2 H2 va s2 r2 ra;cases a with
    | ref n=>
     dsimp only at q;cases I:h2[n]? with
     | none=>rw[I] at q;exact q.elim
     | some ob=>
      rw[I] at q;cases ob with
      | ins c fs=>
       dsimp only at q;cases hz:decide (fs.length<1000) with
       | false=>rw[hz] at q;exact q.elim
       | true=>
        rw[hz] at q;obtain ⟨p,C,dx,U,rfl,ep,yp,J,rp⟩:=Zfv r2 ra I;have ro:RO Z.T φ2 H2 (.ins c (Zjy nm y fs)) (.ins C dx (Zdp nm vy U)):=⟨C,dx,_,rfl,J,Zmg (ry.step s2) rp⟩;have s3:=ZaF (H:=H2) (ho:=.ins C dx (Zdp nm vy U)) (Yax ep) (Zun yp);exact ⟨p,C,dx,U,rfl,yp,(hK c C J).1,(hK c C J).2,by rw[<-Zbf rp];exact of_decide_eq_true hz,
         q φ2 _ σ (s1.trans (s2.trans s3)) (r2.set ep ro) (x.rs.step (s1.trans (s2.trans s3))) x.sg⟩
      | _=>exact q.elim
    | _=>exact q.elim⟩⟩
end
section
variable {X:Cx} {Z:Zc} {f g k:Ex} {fa:Exs} {o e v:YaQ} {es:List YaQ} {apos cpos pos pos' p:Pos} {nm:Str}
def ZsN {op:List W->List W->Option (W×List W)}{r:V->List V->Hp->VK->Prop}(hw:LmW Z.T op r){K:Yab}{σ:St}{H:Hp}{Q:VK}(q:tH Z (xLm op f fa) σ H Q):tBM K "list" r (tH Z f) (tHA Z fa) σ H Q:=by
 obtain ⟨φ,m,ρ,x,q⟩:=q;refine ⟨φ,m,ρ,x,?_⟩;unfold xLm at q;rw[Zba] at q;refine q.mono fun a h1 I=>fun φ1 H1 u s1 r1 ra=>?_
 cases a with
 | ref n=>
  dsimp only at I;cases J:h1[n]? with
  | none=>rw[J] at I;exact I.elim
  | some ob=>
   rw[J] at I;cases ob with
   | lst aa=>
    dsimp only at I;obtain ⟨a,us,rfl,ea,y,rx⟩:=ZcR r1 ra J;refine ⟨.inl ⟨rfl,us,Zad (Zaz y)⟩,φ1,h1,ρ,x.step s1 r1,?_⟩;cases e2:fa ρ h1 with
    | no=>rw[e2] at I;exact I.elim
    | ex w h2=>rw[e2] at I;exact I
    | ok ws h2=>
     rw[e2] at I;intro φ2 H2 vs s2 r2 rv;dsimp only at I;cases Y:h2[n]? with
     | none=>rw[Y] at I;exact I.elim
     | some ob=>
      rw[Y] at I;cases ob with
      | lst xs=>
       dsimp only at I;cases U:op xs ws with
       | none=>rw[U] at I;exact I.elim
       | some wy=>
        rw[U] at I;obtain ⟨w,ys⟩:=wy;exact hw φ2 h2 H2 n ws vs _ xs ys w Q r2 (ra.step s2) rv Y U fun H' z s r' rz=>I φ2 H' z (s1.trans (s2.trans s)) r' rz
      | _=>exact I.elim
   | _=>exact I.elim
 | _=>exact I.elim
def Zlq (ho:QE X Z o f)(ha:QA X Z [e] fa)(J:Ybb o "append" X.env (YbT o X.env)=YbT o X.env:=by rfl)
  (U:((Ya3 cpos (Yah [e] X.env)).all (fun x=>!x.1) && (Ycc cpos (Ybm [] X.env)).all (fun x=>x.1.isSome)
   && decide (([e]:List YaQ).length+([]:List Yb8).length+(if ([]:List Yb8).isEmpty then 0 else 1)<30))=true:=by rfl)
  (I:(apos.endLine == cpos.line)=true:=by rfl) (Y:Yah [e] X.env=(false,YbT e X.env)::Yah [] X.env:=by rfl) (z:(Ya3 cpos (Yah [] X.env)).any (·.1)=false:=by rfl) :
  QE X Z (.Call (.Attribute o "append" apos) [e] [] cpos) (xLm ZmD f fa):=
 ⟨(Zg7 YbQ PySem.F.slot_list_append PySem.F.type_list_append Zhh ho.pe ha.pa J U I Y z).imp fun σ H Q q=>ZsN Zpw q⟩
noncomputable abbrev Tab:=Str->Option Fm
def ZwQ (P:YaN)(w:Ybg)(K:Yab)(mg:Str->Option Yag)(base:YbO)(T:CTb)(k:Nat)(c:Str)(F:Fm):Prop:=
 ∃ C f fd ps,T c=some C/\mg c=some (.ref C)/\Mk K C f/\FnOk P w K mg base CX0 k f fd ps (spH T F)/\Binds K fd ps []
noncomputable def ZfB (c:Str)(F:Fm)(g:Exs):Ex:=fun ρ h=>match g ρ h with
 | .ok ws h1=>(match F (.ref h1.length::ws) (h1++[.ins c []]) with
  | .ok .non h2=>.ok (.ref h1.length) h2
  | _=>.no)
 | .ex w h1=>.ex w h1
 | .no=>.no
def Zjo (hc:Z.T c=some C)(q:tH Z (ZfB c F fa) σ H Q):Zqb C (spH Z.T F) [] E (tHA Z fa) σ H Q:=by
 obtain ⟨φ,mm,ρ,x,q⟩:=q;refine ⟨φ,mm,ρ,x,?_⟩;unfold ZfB at q;cases e2:fa ρ mm with
 | no=>rw[e2] at q;exact q.elim
 | ex w h2=>rw[e2] at q;exact q
 | ok ws h1=>
  rw[e2] at q;intro φ1 H1 vs s1 r1 rv a dx ha hd Y;rw[YbK];have I:upd H1 dx (.own a) a=none:=by rw[Zab (YbW Y)];exact ha
  have s2:=ZaS (φ:=φ1) (ho:=.own a) hd;have s3:=ZaQ (φ:=φ1) (ho:=.ins C dx []) I;have r2:=r1.tmp (ho:=.own a) hd;have r3:=r2.new (o:=.ins c []) (ho:=.ins C dx []) I ⟨C,dx,[],rfl,hc,.nil⟩;have g0:(φ1++[a])[h1.length]?=some a:=by rw[<-r1.len];simp
  refine ⟨φ1++[a],h1++[.ins c []],.ref h1.length::ws,r3,by unfold RWs;exact ⟨_,_,rfl,by unfold RW;exact ⟨a,g0,rfl⟩,rv.step (s2.trans s3)⟩,?_⟩;dsimp only at q;cases J:F (.ref h1.length::ws) (h1++[.ins c []]) with
  | no=>rw[J] at q;exact q.elim
  | ex w h3=>rw[J] at q;exact q.elim
  | ok w h3=>
   rw[J] at q;cases w with
   | non=>
    intro U H4 v s4 r4 z;refine ⟨by unfold RW at z;exact z,q U H4 (.ref a) (s1.trans (s2.trans (s3.trans s4))) r4 ?_⟩;unfold RW;exact ⟨a,s4.get g0,rfl⟩
   | _=>exact q.elim
def Zt0 (Y:ZwQ X.prog X.w X.K X.mg X.base Z.T kk c F)(hr:Room j X.A)(U:kk+1<=j)(hg:Gl X c)(ha:QA X Z (e::es) fa)(I:(c == ("__debug__":Str))=false:=by decide)
  (he:Yah (e::es) X.env=(false,YbT e X.env)::Yah es X.env:=by rfl) (J:(Ya3 pos (Yah es X.env)).any (·.1)=false:=by rfl) (z:X.calm=true:=by rfl):QE X Z (.Call (.Name c p) (e::es) [] pos) (ZfB c F fa):=by
 obtain ⟨C,f,fd,ps,hc,hm,Mc,Fk,hb⟩:=Y;exact ⟨(Zp2 Mc Fk (hr.mono U) hg hm hb .nil (Zp9 z) ha.pa I he J).imp fun σ H Q q=>Zjo hc q⟩
structure ClsFn (K:Yab)(C:Yaq)(m:Str)(f:Yaq):Prop where
 ex:∃ mc,Ybl K (.ref C) "__getattribute__"=some (some (.builtin "type.__getattribute__"))/\YdH K C mc=true/\YdI K (.ref C) mc m=some (.val (.ref f))
 kp:Ybk K (.ref f)=true
def Zxz (P:YaN)(w:Ybg)(K:Yab)(mg:Str->Option Yag)(base:YbO)(T:CTb)(k:Nat)(c m:Str)(F:Fm):Prop:=
 ∃ C f fd ps,mg c=some (.ref C)/\ClsFn K C m f/\FnOk P w K mg base CX0 k f fd ps (spH T F)/\Binds K fd ps []
def Zl4 (Mx:Zxz X.prog X.w X.K X.mg X.base Z.T kk c m F)(hr:Room j X.A)(J:kk<=j)(hg:Gl X c)(ha:QA X Z (e::es) fa)(aa:(c == ("__debug__":Str))=false:=by decide)
  (U:Yah (e::es) X.env=(false,YbT e X.env)::Yah es X.env:=by rfl) (ac:(Ya3 pos (Yah es X.env)).any (·.1)=false:=by rfl)
  (Y:YbT (.Call (.Attribute (.Name c p) m apos) (e::es) [] pos) X.env=(do
   let ov <- YbT (.Name c p) X.env
   Yd7 apos.atName
   let (f,first) <- Yd8 [ov] (YdY ov m pl)
   Ye0 pos f first (Ya3 pos (Yah (e::es) X.env)) (Ycc pos (Ybm [] X.env))):=by rfl) (z:X.calm=true:=by rfl):QE X Z (.Call (.Attribute (.Name c p) m apos) (e::es) [] pos) (Zen F fa):=by
 obtain ⟨C,f,fd,ps,hm,⟨⟨mc,h1,h2,h3⟩,kp⟩,Fk,hb⟩:=Mx;refine ⟨PE.imp (t:=Zqz (spH Z.T F) [] E0 (tHA Z fa)) ?_ fun σ H Q q=>Zlu q⟩;intro pins s σ H Q I h;refine YcE (pl:=pl) (ZaY I hg hm ?_ aa) Y;refine PySem.W.method_cls I.kIn h1 (PySem.W.cls_value I.kIn h2 h3 rfl ?_);have I1:=I.tok (s.toks+1);refine Ycs (first:=[]) (h₀:=X.base) I.ok.mod.kin kp (thn (ha.pa pos pins _ σ H _ I1 h) fun us s2 ⟨vs,H2,I2,r,q2⟩=>⟨I2.kIn,?_⟩) U ac;exact Zro Fk (hr.mono J) hb .nil (Zp9 z) I2 r q2
end
section
variable {P:YaN} {w:Ybg} {K:Yab} {mg:Str->Option Yag} {base:YbO} {T:CTb}
def Zx0 {x z:Str}{st:Yce}{N ps:List Str}{k:Nat}{F:Fm}{f:Yaq}{fd:Ybc}{B:Sm}(R:Fun K x z st f fd)(S:FnScope N ps (Zaa st))
  (hB:∀ (I:Yag) (A:Ybr) (outer:List Env) (s:Yaj) (H:Hp) (E:XK) (U:List Yaq) (H0:Hp),Room k (A.deeper (Yc4 z (Zaa st) s.heap.objs.size f I))->QB (Zcm CX0 P w K mg base N z (Zaa st) f I A outer s H E).nox (Zf T U H0) (Zah st) B)
  (hx:∀ ws h w m,F ws h≠.ex w m) (Y:Zkn ps.length N.length B F):FnOk P w K mg base CX0 (k+1) f fd ps (spH T F):=by
 refine R.ok S (fun vs H Q E h=>?_) (fun I A outer s H vs Q E hr h=>?_)
 ·obtain ⟨φ,h,ws,r,J,q⟩:=h;rcases Y ws h r.wf (by rw[<-r.len];exact J.lt) with e|⟨e,_⟩
  ·rw[e] at q;exact q.elim
  ·rw[<-J.length];exact e
 ·obtain ⟨φ,h,ws,r,J,q⟩:=h;refine ⟨_,(hB I A outer s H E φ H hr).ps,φ,h,ZaK N.length ws,⟨trivial,Step.refl _ _,r,Zcf J⟩,?_⟩;rcases Y ws h r.wf (by rw[<-r.len];exact J.lt) with e|⟨e,ft⟩
  ·rw[e] at q;exact q.elim
  ·exact Zjg r.len ft q fun _ _ _ _ e _=>hx _ _ _ _ e
def ZgJ (ws:List W)(h:Mem)(w:W)(z:Mem):ZfZ n m B ws h≠.ex w z:=by
 unfold ZfZ;split
 ·split
  ·split<;>simp
  ·simp
 ·simp
def Zdv:Zkn n m B (ZfZ n m B):=fun ws h U J=>by
 unfold ZfZ;split
 ·rename_i z;cases e:ZhM m B ws h with
  | ok w h'=>
   dsimp only;split
   ·rename_i I;exact .inr ⟨z,Zi6 I⟩
   ·exact .inl rfl
  | ex w h'=>exact .inl rfl
  | no=>exact .inl rfl
 ·exact .inl rfl
end
def Zb1:List (Ex×Ex)->Sg->Mem->Option (List (W×W)×Mem)
 | [],_,h=>some ([],h)
 | (k,v)::r,ρ,h=>match k ρ h with
  | .ok a h1=>(match v ρ h1 with
   | .ok b h2=>(match Zb1 r ρ h2 with
    | some (ps,h3)=>some ((a,b)::ps,h3)
    | none=>none)
   | _=>none)
  | _=>none
noncomputable def ZbU:List (W×W)->Option (List (Key×W))
 | []=>some []
 | (k,w)::r=>match ZcO k,ZbU r with
  | some a,some l=>some ((a,w)::l)
  | _,_=>none
noncomputable def ndK (l:List Key):Bool:=decide l.Nodup
def ZiV (gs:List (Ex×Ex)):Ex:=fun ρ h=>match Zb1 gs ρ (h++[.dic []]) with
 | some (ps,h2)=>(match ZbU ps,h2[h.length]? with
  | some kvs,some (.dic [])=>bif (decide (kvs.length<=15) && ndK (kvs.map (·.1))) then .ok (.ref h.length) (h2.set h.length (.dic kvs)) else .no
  | _,_=>.no)
 | none=>.no
structure QP (X:Cx)(Z:Zc)(pos:Pos)(keys:List (Option YaQ))(values:List YaQ)(gs:List (Ex×Ex)):Prop where
 pp:PPs X pos keys values (gs.map fun p=>(tH Z p.1,tH Z p.2))
abbrev R2W (T:CTb)(φ:List Yaq)(H:Hp):List (W×W)->List (V×V)->Prop:=YcX fun p q=>RW T φ H p.1 q.1/\RW T φ H p.2 q.2
section
variable {X:Cx} {Z:Zc} {f g:Ex} {k v:YaQ} {pos:Pos} {keys:List (Option YaQ)} {values:List YaQ} {gs:List (Ex×Ex)}
def ZtB:QP X Z pos [] [] []:=⟨Zol⟩
def ZoY (J:QE X Z k f)(z:QE X Z v g)(I:QP X Z pos keys values gs):QP X Z pos (some k::keys) (v::values) ((f,g)::gs):=⟨Zlg J.pe z.pe I.pp⟩
theorem Zgj:∀ {gs:List (Ex×Ex)} {φ:List Yaq} {H:Hp} {h h':Mem} {ps:List (W×W)} {Q:List (V×V)->Hp->Prop},Here Z σ H φ h ρ->Zb1 gs ρ h=some (ps,h') ->
  (∀ φ' H' vs,Step φ H φ' H'->RH Z.T φ' h' H'->R2W Z.T φ' H' ps vs->Q vs H')->ZgM (gs.map fun p=>(tH Z p.1,tH Z p.2)) σ H Q
 | [],φ,H,h,h',ps,Q,x,e,k=>by
  cases e;exact k φ H [] (Step.refl _ _) x.rh .nil
 | (f,g)::gs,φ,H,h,h',ps,Q,x,e,k=>by
  unfold Zb1 at e;refine ⟨φ,h,ρ,x,?_⟩;show (f ρ h).post _ _;cases I:f ρ h with
  | no=>rw[I] at e;cases e
  | ex w h1=>rw[I] at e;cases e
  | ok a h1=>
   rw[I] at e;dsimp only at e;intro φ1 H1 va s1 r1 ra;refine ⟨φ1,h1,ρ,x.step s1 r1,?_⟩;show (g ρ h1).post _ _;cases U:g ρ h1 with
   | no=>rw[U] at e;cases e
   | ex w h2=>rw[U] at e;cases e
   | ok b h2=>
    rw[U] at e;dsimp only at e;intro φ2 H2 vb s2 r2 rb;cases J:Zb1 gs ρ h2 with
    | none=>rw[J] at e;cases e
    | some pr=>
     obtain ⟨aa,h3⟩:=pr;rw[J] at e;cases e;exact Zgj ((x.step s1 r1).step s2 r2) J fun Y H3 vs z r3 rr=>k Y H3 _ (s1.trans (s2.trans z)) r3 (.cons ⟨ra.step (s2.trans z),rb.step z⟩ rr)
theorem ZgT:∀ {ps:List (W×W)} {kvs:List (Key×W)} {vs:List (V×V)},ZbU ps=some kvs->R2W T φ H ps vs->∃ kv:List (Key×V),vs=kv.map (fun p=>(kV p.1,p.2))/\RP T φ H kvs kv
 | [],kvs,vs,e,r=>by
  cases e;cases r;exact ⟨[],rfl,.nil⟩
 | (a,b)::ps,kvs,vs,e,r=>by
  cases r with
  | cons p q=>
   rename_i z l;obtain ⟨u,w⟩:=z;unfold ZbU at e;cases I:ZcO a with
   | none=>rw[I] at e;cases e
   | some k=>
    cases J:ZbU ps with
    | none=>rw[I,J] at e;cases e
    | some Y=>
     rw[I,J] at e;cases e;obtain ⟨kv,rfl,U⟩:=ZgT J q;refine ⟨(k,w)::kv,?_,.cons ⟨rfl,p.2⟩ U⟩;rw[Yap];have:=ZcK p.1 I;dsimp only at this;rw[this]
theorem Zfa:∀ (more kvs:List (Key×V)),((kvs++more).map (·.1)).Nodup->Zb6 kvs more=kvs++more
 | [],kvs,h=>by simp[Zb6]
 | p::r,kvs,h=>by
  have e:Zc4 kvs p.1 p.2=kvs++[p]:=by
   unfold Zc4;rw[if_neg];intro z;rw[List.any_eq_true] at z;obtain ⟨q,m,z⟩:=z;have z:=of_decide_eq_true z;rw[Ycg,List.nodup_append] at h;exact h.2.2 q.1 (YbF.mpr ⟨q,m,rfl⟩) p.1 (by simp) z
  show Zb6 (Zc4 kvs p.1 p.2) r=_;rw[e,Zfa r (kvs++[p]) (by simpa using h)];simp
theorem ZiI:∀ {a:List (κ×W)} {b:List (κ×V)},RP T φ H a b->a.map (·.1)=b.map (·.1)
 | [],b,r=>by cases r;rfl
 | p::a,b,r=>by
  cases r with
  | cons h q=>rw[Yap,Yap,h.1,ZiI q]
def Zud (h:QP X Z pos keys values gs)(J:keys.all (·.isSome)=true:=by rfl)(hl:keys.length=values.length:=by rfl)(h0:keys≠[]:=by simp)(Y:keys.length<=15:=by decide):QE X Z (.Dict keys values pos) (ZiV gs):=
 ⟨(Zo3 h.pp J hl h0 Y).imp fun σ H Q ⟨φ,m,ρ,x,q⟩=>by
  intro p hp;unfold ZiV at q;cases e1:Zb1 gs ρ (m++[.dic []]) with
  | none=>rw[e1] at q;exact q.elim
  | some pr=>
   obtain ⟨ps,h2⟩:=pr;rw[e1] at q;dsimp only at q;have s0:=ZaQ (φ:=φ) (ho:=.dK []) hp;have r0:=x.rh.new (o:=.dic []) (ho:=.dK []) hp ⟨[],rfl,.nil⟩;have aa:(φ++[p])[m.length]?=some p:=by rw[<-x.rh.len];simp
   refine Zgj (x.step s0 r0) e1 fun φ1 H1 vs s1 r1 rr=>?_
   cases U:ZbU ps with
   | none=>rw[U] at q;exact q.elim
   | some kvs=>
    cases e3:h2[m.length]? with
    | none=>rw[U,e3] at q;exact q.elim
    | some ob=>
     rw[U,e3] at q;cases ob with
     | dic l=>
      cases l with
      | cons _ _=>exact q.elim
      | nil=>
       dsimp only at q;cases hz:(decide (kvs.length<=15) && ndK (kvs.map (·.1))) with
       | false=>rw[hz] at q;exact q.elim
       | true=>
        rw[hz] at q;rw[Yaa] at hz;obtain ⟨kv,rfl,rk⟩:=ZgT U rr;have I:=s1.get aa;obtain ⟨ho,y,ac,rfl,z⟩:=r1.obj _ _ p e3 I;cases z;have nd:((([]:List (Key×V))++kv).map (·.1)).Nodup:=by rw[YdJ,<-ZiI rk];exact of_decide_eq_true hz.2
        refine ⟨y,kv,rfl,by rw[<-Zbf rk];exact of_decide_eq_true hz.1,?_⟩;rw[Zfa kv [] nd,YdJ];have s2:=ZaF (H:=H1) (ho:=.dK kv) (Yax I) (Zjz y);have r2:=r1.set (o:=.dic kvs) (ho:=.dK kv) I ⟨kv,rfl,rk⟩;exact q φ1 _ _ (s0.trans (s1.trans s2)) r2 (by unfold RW;exact ⟨p,I,rfl⟩)
     | _=>exact q.elim⟩
end
def Zh8 (h:Mem)(a b:W):Option W:=match Zbu h a,ZcO b with
 | some kvs,some k=>ZhJ kvs k
 | _,_=>none
section
variable {X:Cx} {Z:Zc} {f g:Ex} {o i:YaQ} {pos:Pos}
def Zut (hr:Room j X.A)(ho:QE X Z o f)(hi:QE X Z i g)(hs:Zvo i):QE X Z (.Subscript o i pos) (ZbS Zh8 f g):=
 ⟨(Zp0 (Zhg hr) ho.pe hi.pe hs).imp fun σ H Q ⟨φ,m,ρ,x,q⟩=>two x q fun φ2 H2 h2 u v a b s y Y rb U=>by
  obtain ⟨w,e,k⟩:=ofP U;unfold Zh8 at e;cases I:Zbu h2 a with
  | none=>rw[I] at e;cases e
  | some kvs=>
   cases J:ZcO b with
   | none=>rw[I,J] at e;cases e
   | some kk=>
    rw[I,J] at e;dsimp only at e;obtain ⟨p,kv,rfl,hp,rp⟩:=Zcn y.rh Y I;have hk:=ZcK rb J;subst hk;have g:=ZfM rp kk;rw[e] at g;cases ev:Zck kv kk with
    | none=>rw[ev] at g;exact g.elim
    | some z=>
     rw[ev] at g;exact ⟨p,z,rfl,.inl ⟨kv,kk,hp,rfl,ev.symm⟩,k φ2 H2 z (Step.refl _ _) y.rh g⟩⟩
end
section
variable {K:Yab} {C:Yaq}
def ZrQ (I:Yco K C Str.empty=true)(U:Ybd K C=true)(J:Ydh K C=true)(sa:Yao K (.ref C) "__setattr__"=some (some (.builtin "object.__setattr__")))
  (ha:Yao K (.ref C) "__class__"=some (some (.builtin "object.__class__"))) (Y:Ybl K (.builtin "object.__class__") "__get__"=some (some (.builtin "getset_descriptor.__get__"))) (z:Ycz K (.builtin "object.__class__")=some true) (hm:YaZ K C (.type "object")=some true):InsTy K C:=⟨⟨I,U,J,sa⟩,ha,Y,z,hm⟩
def ZuO (K:Yab)(C:Yaq)(m z:Str)(st:Yce):Prop:=∃ f fd,Meth K C m f/\Fun K m z st f fd
def MkX (K:Yab)(C:Yaq)(z:Str)(st:Yce):Prop:=∃ f fd,Mk K C f/\Fun K "__init__" z st f fd
def ClX (K:Yab)(C:Yaq)(m z:Str)(st:Yce):Prop:=∃ f fd,ClsFn K C m f/\Fun K m z st f fd
def clx {m z:Str}{st:Yce}{f:Yaq}{J oc:Yag}{od an:Option Yaq}{Y:Array (Option Yag)}{kV U pm I ct:Yag}(g1:Ybl K (.ref C) "__getattribute__"=some (some (.builtin "type.__getattribute__")))(g0:YcS K (.ref C)=some J)(g2:YdH K C J=true)
  (g3:YdI K (.ref C) J m=some (.val (.ref f))) (l:K.lookup f=some ⟨oc,od,.func (Ybw m z (ZaM st) (Zah st) (Zaa st) .none kV U pm an I ct),Y⟩) (c:Yb7 K I z=true) (k:Ybk K (.ref f)=true):ClX K C m z st:=⟨f,_,⟨⟨J,g1,g2,g3⟩,k⟩,ZmU l c k⟩
end
section
variable {T:CTb}
def ZcF (h:Mem):List W->Option W
 | [.tup ws]=>some (.tup ws)
 | [w]=>(items h w).map .tup
 | _=>none
def ZnI {φ:List Yaq}{h:Mem}{H:Hp}{ws:List W}{p:Yaq}{vs:List V}{Q:VK}(r:RH T φ h H)(z:H p=none)(x:RWs T φ H ws vs)(k:∀ H' u,Step φ H φ H'->RH T φ h H'->RW T φ H' (.tup ws) u->Q u H'):Q (.ref p) (upd H p (.tup vs)):=by
 have s:=ZaS (φ:=φ) (ho:=.tup vs) z;refine k _ _ s (r.tmp z) ?_;unfold RW;exact ⟨p,vs,rfl,r.fresh z,Zae,x.step s⟩
def ZjC {K:Yab}:CbW T ZcF (fun xs H Q=>∃ p ys,xs=[.ref p]/\((SqL K H p ys/\∀ l,H l=none->Q (.ref l) (upd H l (.tup ys)))\/(SqT K H p ys/\Q (.ref p) H))):=by
 intro φ h H ws vs w Q r x e k;unfold ZcF at e;split at e
 ·cases e;obtain ⟨v,rfl,z⟩:=Zas x;have U:=z;unfold RW at z;obtain ⟨p,us,rfl,_,c,d⟩:=z;exact ⟨p,us,rfl,.inr ⟨SqT.of c,Zaj r U k⟩⟩
 ·obtain ⟨v,rfl,z⟩:=Zas x;rw[Yar] at e;obtain ⟨us,e,rfl⟩:=e;obtain ⟨p,vs,rfl,Y,J⟩:=Zay r z e;exact ⟨p,vs,rfl,.inl ⟨Zad Y,fun l I=>ZnI r I J k⟩⟩
 ·cases e
end
def Zpn (h:YbO)(e:Yaq)(cv:Yag)(da T:Option Yaq):Prop:=∃ z vs,h.get? e=some z/\z.cls=cv/\z.dict=da/\z.data=.fields vs/\vs[2]?=some Ya5/\match T with
 | none=>vs[1]?=some Ya5
 | some t=>t≠e/\vs[1]?=some (.ref t)/\∃ I J x,h.get? t=some I/\I.data=.fields J/\J[3]?=some x
structure Ch (S ch:List Yaq)(h h':YbO):Prop where
 keep:∀ b o,b ∉ S->b ∉ ch->h.get? b=some o->h'.get? b=some o
 slot:∀ b o,b ∉ ch->h.get? b=some o->∃ sl,h'.get? b=some { o with slots:=sl }
 old:∀ b o,h.get? b=some o->∃ o',h'.get? b=some o'
def Ch.refl (S ch:List Yaq)(h:YbO):Ch S ch h h:=⟨fun _ _ _ _ e=>e,fun _ o _ e=>⟨o.slots,e⟩,fun _ o e=>⟨o,e⟩⟩
def Ch.mono {S J ch I:List Yaq}(c:Ch S ch h h')(a:∀ b∈S,b∈J)(d:∀ b∈ch,b∈I):Ch J I h h':=
 ⟨fun b o h1 h2 e=>c.keep b o (fun z=>h1 (a b z)) (fun z=>h2 (d b z)) e,fun b o h2 e=>c.slot b o (fun z=>h2 (d b z)) e,c.old⟩
def Ch.trans {S ch:List Yaq}(a:Ch S ch h h1)(b:Ch S ch h1 h2):Ch S ch h h2:=
 ⟨fun x o p q e=>b.keep x o p q (a.keep x o p q e),fun x o q e=>by
  obtain ⟨sl,z⟩:=a.slot x o q e;obtain ⟨I,J⟩:=b.slot x _ q z;exact ⟨I,J⟩,fun x o e=>by
  obtain ⟨U,z⟩:=a.old x o e;exact b.old x U z⟩
def Zk0 (o:Obj)(f:Array Yag->Array Yag):(o.mapFields f).dict=o.dict:=by
 obtain ⟨c,d,z,sl⟩:=o;cases z<;>rfl
section
variable {Md:Model} {A:Ybr} {E:Yag->Yaj->Prop} {s:Yaj} {base:YbO} {env:Env} {outer:List Env} {L e:Yaq} {cv:Yag} {da:Option Yaq} {Q:Unit->Yaj->Prop}
def Zm0 (Y:h.get? t=some ot)(U:ot.data=.fields ts)(f:Array Yag->Array Yag):Ch [] [t] h (h.update t (Yb6 f)):=by
 have J:=Ya8 (Yb6 f) Y (Ydp (YdQ U _));have I:∀ b,b≠t->(h.update t (Yb6 f)).get? b=h.get? b:=fun b n=>YaW _ _ (YbW n)
 refine ⟨fun b o _ n e=>?_,fun b o n e=>⟨o.slots,?_⟩,fun b o e=>?_⟩
 ·rw[I b (by simpa using n)];exact e
 ·rw[I b (by simpa using n)];exact e
 ·by_cases z:b=t
  ·subst z;exact ⟨_,J⟩
  ·exact ⟨o,by rw[I b z];exact e⟩
def ZgK (ae:A.frames=some (env::outer))(hl:s.heap.FunFrames base (env::outer))(hf:env.frame=some L)(he:s.heap.get? e=some oe)(hd:oe.data=.fields vs)(ac:vs[2]?=some Ya5)(hsz:1<vs.size)
  (k:∀ h' T',Zpn h' e oe.cls oe.dict (some T')->Ch (frs (env::outer)) [e] s.heap h'->s.heap.objs.size<=T'->Q () { s with heap:=h' }) :
  YaF Md A (do let a <- frameOf env;let pl <- entryPlaceOf L hadNext;let b <- YeP head a .none (rawInt L) .none pl;setField (.ref e) 1 b) Q E s:=by
 have nS:e ∉ frs (env::outer):=fun m=>by
  obtain ⟨_,o,ho,aa⟩:=hl.mem m;rw[he] at ho;cases ho;exact aa vs hd
 refine Yac (wpAny_frameOf_fun ae hl hf fun g Y=>Yac (wpAny_entryPlaceOf fun pl J=>?_));unfold YeP newFields;have e1:g.get? e=some oe:=(Y.2.1 e nS).trans he;refine Yac (Yde (YcP (Yad (h:=g) _ e1) hd hsz ?_) (J.sizeOk5 _ _ _ _ _));have e2:=Yad (h:=g) { cls:=.type "traceback",dict:=none,data:=.fields ([head,.ref L,.none,rawInt L,.none]++(if pl.isEmpty then Ycq 6 Ya5 else pl)).toArray } e1;have d3:=YdQ hd fun u=>u.setIfInBounds 1 (Yay g.objs.size)
 have e3:=Ya8 (Yb6 fun u=>u.setIfInBounds 1 (Yay g.objs.size)) e2 (Ydp d3);have U:g.objs.size≠e:=Yel (Yal e1);have I:∀ b,b≠e->∀ tb:Obj,((g.push tb).update e (Yb6 fun u=>u.setIfInBounds 1 (Yay g.objs.size))).get? b=(g.push tb).get? b:=fun b n tb=>YaW _ _ (YbW n)
 refine k _ g.objs.size ⟨_,_,e3,Obj.cls_mapFields _ _,Zk0 _ _,d3,by simpa using ac,U,by simp[hsz],_,_,rawInt L,(I _ U _).trans (YaC g rfl),rfl,?_⟩ ⟨fun b o h1 h2 q=>?_,fun b o h2 q=>?_,fun b o q=>?_⟩ (Nat.le_of_eq Y.1.symm)
 ·first|(simp;done)|(rcases J with rfl|⟨_,_,_,_,_,_,_,rfl⟩<;>simp)
 ·rw[I b (by simpa using h2)];exact Yad _ ((Y.2.1 b h1).trans q)
 ·obtain ⟨sl,q1⟩:=Y.2.2 b o q;exact ⟨sl,(I b (by simpa using h2) _).trans (Yad _ q1)⟩
 ·obtain ⟨sl,q1⟩:=Y.2.2 b o q;by_cases z:b=e
  ·subst z;exact ⟨_,e3⟩
  ·exact ⟨_,(I b z _).trans (Yad _ q1)⟩
def Zj9 (ac:A.frames=some (env::outer))(hl:s.heap.FunFrames base (env::outer))(hf:env.frame=some L)(R:Zpn s.heap e cv da T)
  (k:∀ h' U,Zpn h' e cv da (some U)->Ch (frs (env::outer)) (e::T.toList) s.heap h'->(T=some U\/s.heap.objs.size<=U)->Q () { s with heap:=h' }):YaF Md A (YeX (.ref e) env) Q E s:=by
 obtain ⟨oe,vs,he,rfl,rfl,hd,J,hT⟩:=R;unfold YeX;simp only[hf];cases T with
 | none=>
  refine Yac (Ych he hd hT ?_);rw[if_neg (by decide)];exact ZgK ac hl hf he hd J (Yb3.mp hT).1 fun h' U r c n=>k h' U r c (.inr n)
 | some t=>
  obtain ⟨Y,h1,ot,ts,x,ht,I,h3⟩:=hT;refine Yac (Ych he hd h1 ?_);rw[if_pos (by simp)];refine Yac (Ych ht I h3 ?_);by_cases hx:(x == rawInt L)=true
  ·rw[if_pos hx];obtain ⟨hh,gg,dd,tk,os⟩:=s;exact Yat (k hh t ⟨oe,vs,he,rfl,rfl,hd,J,Y,h1,ot,ts,x,ht,I,h3⟩ (Ch.refl _ _ _) (.inl rfl))
  ·rw[if_neg hx];refine Yac (YcP ht I (Yb3.mp h3).1 ?_);have c1:=Zm0 ht I fun u=>u.setIfInBounds 3 Ya5
   have aa:∀ b,b≠t->(s.heap.update t (Yb6 fun u=>u.setIfInBounds 3 Ya5)).get? b=s.heap.get? b:=fun b n=>YaW _ _ (YbW n)
   have af:(s.heap.update t (Yb6 fun u=>u.setIfInBounds 3 Ya5)).FunFrames base (env::outer):=hl.of_keeps fun b o hb ae=>⟨o,(aa b fun z=>by subst z;rw[ht] at hb;cases hb;exact ae ts I).trans hb,rfl⟩
   refine ZgK (s:={ s with heap:=s.heap.update t (Yb6 fun u=>u.setIfInBounds 3 Ya5) }) ac af hf ((aa e (YbW Y)).trans he) hd J (Yb3.mp h1).1 fun h' U r c n=>?_
   refine k h' U r ((c1.mono (fun b z=>by cases z) fun b z=>by simp at z;subst z;simp).trans (c.mono (fun b z=>z) fun b z=>by simp at z;subst z;simp)) (.inr ?_);rw[<-YbO.size_after_update s.heap t (Yb6 fun u=>u.setIfInBounds 3 Ya5)];exact n
def Zcp (R:Zpn s.heap e cv da (some T))(k:∀ h',Zpn h' e cv da (some T)->Ch [] [T] s.heap h'->Q () { s with heap:=h' }):YaF Md A (setFlight (.ref e) none) Q E s:=by
 obtain ⟨oe,vs,he,rfl,rfl,hd,U,I,h1,ot,ts,x,J,z,h3⟩:=R;have hsz:=(Yb3.mp h3).1;have Y:=YdQ z fun u=>u.setIfInBounds 3 Ya5
 refine wpAny_setFlight_none he hd h1 J z hsz (k _ ⟨oe,vs,?_,rfl,rfl,hd,U,I,h1,_,_,Ya5,Ya8 _ J (Ydp Y),Y,by simp[hsz]⟩ (Zm0 J z _));exact (YaW _ _ I).trans he
end
def Zks (X:Cx)(pins:List (Yaq×Obj))(b:Yaq):Prop:=(X.s₀.heap.get? b=none\/b∈X.ex)/\b≠X.env.locals/\(∀ x c,X.env.cells.lookup x=some c->c≠b)/\∀ p∈X.pn++pins,p.1≠b
section
variable {X:Cx} {pins:List (Yaq×Obj)} {σ:St} {H:Hp} {s:Yaj} {h':YbO} {ch:List Yaq}
def ZeH (x:HOk P w H hp)(e:H a=some o):∃ ob,hp.get? a=some ob:=by
 have z:∀ (o:HO),ObjOk P w H hp a o->∃ ob,hp.get? a=some ob:=by
  intro o
  induction o with
  | lst xs=>intro x;obtain ⟨_,_,_,_,q⟩:=x;exact ⟨_,q⟩
  | tup xs=>intro x;obtain ⟨_,_,_,p⟩:=x;obtain ⟨o,q,_⟩:=p;exact ⟨_,q⟩
  | dK kvs=>intro x;obtain ⟨_,_,_,_,p⟩:=x;obtain ⟨o,es,ep,q,_⟩:=p;exact ⟨_,q⟩
  | dT kvs=>intro x;obtain ⟨_,_,_,_,o,_,_,q,_⟩:=x;exact ⟨_,q⟩
  | set S n=>intro x;obtain ⟨o,_,_,_,q,_⟩:=x;exact ⟨_,q⟩
  | ins C dx fs=>intro x;obtain ⟨_,_,_,q,_⟩:=x;exact ⟨_,q⟩
  | own y=>intro x;exact x
  | xd fs=>intro x;obtain ⟨_,⟨_,_,_,q,_⟩,_⟩:=x;exact ⟨_,q⟩
  | rng lo hi=>intro x;obtain ⟨_,_,_,q⟩:=x;exact ⟨_,q⟩
  | frz ob u _=>intro x;exact ⟨_,x.1⟩
  | tbl ps=>intro x;exact ⟨_,x⟩
  | met f y=>intro x;exact ⟨_,x⟩
  | ext φ=>intro x;exact x.2.1
 exact z o (x a o e)
def Zcr (x:HOk P w H hp)(n:hp.get? a=none):H a=none:=by
 cases q:H a with
 | none=>rfl
 | some o=>obtain ⟨ob,e⟩:=ZeH x q;rw[n] at e;cases e
def ZaU (I:Inv X pins σ H s)(n:s.heap.get? b=none):Zks X pins b:=by
 refine ⟨?_,fun z=>?_,fun x c e z=>?_,fun p U z=>?_⟩
 ·by_cases J:b∈X.ex
  ·exact .inr J
  ·cases q:X.s₀.heap.get? b with
   | none=>exact .inl rfl
   | some o=>obtain ⟨o',e⟩:=I.base.there b o q J;rw[n] at e;cases e
 ·obtain ⟨m,⟨o,_,_,ho,_⟩,_⟩:=I.loc;subst z;rw[n] at ho;cases ho
 ·obtain ⟨v,o,ho,_⟩:=I.cell x c e;subst z;rw[n] at ho;cases ho
 ·have:=(I.pin p U).1;rw[z,n] at this;cases this
def chg (I:Inv X pins σ H s)(c:Ch (frs X.stack) ch s.heap h')(hc:∀ b∈ch,H b=none/\Zks X pins b):Inv X pins σ H { s with heap:=h' }:=by
 have nS:∀ b,b≠X.env.locals->b ∉ X.fs->b ∉ frs X.stack:=fun b h1 h2 z=>(Yaz.mp (I.stkSub b z)).elim h1 h2
 have n0:∀ b o,X.s₀.heap.get? b=some o->b ∉ X.ex->b ∉ ch:=fun b o e Y z=>by
  rcases (hc b z).2.1 with q|q
  ·rw[e] at q;cases q
  ·exact Y q
 have U:∀ x J,X.env.cells.lookup x=some J->∀ v,s.heap.IsCell J v->h'.IsCell J v:=fun x J e v ⟨o,ho,hd⟩=>by
  obtain ⟨sl,q⟩:=c.slot J o (fun z=>(hc J z).2.2.2.1 x J e rfl) ho;exact ⟨_,q,hd⟩
 refine ⟨I.ok,I.os,I.bare,⟨fun b o e n hb Y=>?_,fun b o e n hb Y=>?_,I.base.free,fun b o e Y=>?_,I.base.tups,I.base.frzs,I.base.tbls⟩,?_,fun x J e=>?_,I.free,I.freeC,fun p hp=>?_,fun b u e=>?_,I.len⟩
 ·exact c.keep b o (nS b (YaK (YaI (Yal e) I.ok.above)) hb) (n0 b o e Y) (I.base.keep b o e n hb Y)
 ·obtain ⟨sl,e1⟩:=I.base.slot b o e n hb Y;obtain ⟨aa,e2⟩:=c.slot b _ (n0 b o e Y) e1;exact ⟨aa,e2⟩
 ·obtain ⟨o1,e1⟩:=I.base.there b o e Y;exact c.old b o1 e1
 ·obtain ⟨m,⟨o,es,ep,ho,r⟩,hl⟩:=I.loc;obtain ⟨sl,q⟩:=c.slot X.env.locals o (fun z=>(hc _ z).2.2.1 rfl) ho;refine ⟨m,⟨_,es,ep,q,r⟩,fun i x v e1 e2 e3=>?_⟩;obtain ⟨u,rv,l⟩:=hl i x v e1 e2 e3;refine ⟨u,rv,?_⟩;rcases l with l|⟨k,J,e,z⟩
  ·exact .inl l
  ·exact .inr ⟨k,J,e,U x J e _ z⟩
 ·obtain ⟨v,z⟩:=I.cell x J e;exact ⟨v,U x J e v z⟩
 ·obtain ⟨e,n,ne,nf,d⟩:=I.pin p hp;exact ⟨c.keep p.1 p.2 (nS _ ne nf) (fun z=>(hc _ z).2.2.2.2 p hp rfl) e,n,ne,nf,d⟩
 ·refine (I.hok b u e).stay (fun J v hb q=>?_) (fun _ q=>q) fun _ _ q=>q
  have tr:H J≠none:=by
   rcases hb with rfl|hb
   ·rw[e];simp
   ·rw[hb];simp
  exact c.keep J v (fun z=>tr (I.stkFree J z)) (fun z=>tr (hc J z).1) q
end
structure XIs (X:Cx)(pins:List (Yaq×Obj))(σ:St)(H:Hp)(s:Yaj)(e:Yaq)(cv:Yag)(da T:Option Yaq):Prop where
 inv:Inv X pins σ H s
 rc:Zpn s.heap e cv da T
 own:∀ b∈e::T.toList,H b=none/\Zks X pins b
def Zvh (X:Cx)(Z:Zc)(v:Yag)(s:Yaj):Prop:=∃ pins σ H e cv da T φ h w,v=.ref e/\XIs X pins σ H s e cv da T/\Z.sg σ/\Step Z.φ Z.H φ H/\RH Z.T φ h H/\RX Z.T φ H w cv da/\Z.xw w h
def XOk (X:Cx)(Z:Zc):Prop:=∀ v s,Zvh X Z v s->X.xe v s
def ZhW (h:∀ w m,¬Z.xw w m):XOk X Z:=by
 intro _ _ z;obtain ⟨_,_,_,_,_,_,_,_,_,_,_,_,_,_,_,_,x⟩:=z;exact absurd x (h _ _)
def CXe (q:Bool)(P:YaN)(w:Ybg):CXT:=⟨fun outer H s E v s'=>∃ e cv da T H',v=.ref e/\s'.os=s.os/\Yd6 s'.gens/\Un (frs outer) [] H H' s.heap s'.heap/\HOk P w H' s'.heap/\Zpn s'.heap e cv da (some T) /\
 (H' e=none/\s.heap.get? e=none)/\(H' T=none/\s.heap.get? T=none)/\E cv da H',q⟩
noncomputable def Zx (T:CTb)(φ:List Yaq)(H:Hp)(E:XK):Zc:=⟨T,φ,H,fun _=>True,fun w h'=>∀ φ' H' cv da,Step φ H φ' H'->RH T φ' h' H'->RX T φ' H' w cv da->E cv da H'⟩
section
variable {P:YaN} {w:Ybg} {K:Yab} {mg:Str->Option Yag} {base:YbO} {T:CTb}
def ZiE :
  XOk (Zcm (CXe q P w) P w K mg base N qual scope f cd A outer s H E) (Zx T φ H E):=by
 rintro v s' ⟨pins,σ,H',e,cv,da,T1,φ',h',w',rfl,⟨I,R,own⟩,_,st,rh,rx,xw⟩;show YaF _ _ (leaving (Yc4 qual scope s.heap.objs.size f cd) (.ref e)) _ _ s';unfold leaving;refine Yac (Zj9 (base:=base) I.ok.frames I.stack rfl R fun g T2 r c n=>?_);have I1:=chg I c own;have J:∀ b∈[e,T2],H' b=none/\Zks (Zcm (CXe q P w) P w K mg base N qual scope f cd A outer s H E) pins b:=fun b U=>by
  rcases Yaz.mp U with rfl|U
  ·exact own b YaD
  ·have U:b=T2:=by simpa using U
   subst U;rcases n with n|n
   ·exact own b (by rw[n];simp)
   ·exact ⟨I.hok.fresh n,ZaU I (YbD n)⟩
 refine Zcp r fun g2 r2 c2=>?_
 have I2:=chg I1 (c2.mono (fun b z=>by cases z) fun b z=>z) fun b U=>J b (Yau _ U)
 have Y:∀ b,Zks (Zcm (CXe q P w) P w K mg base N qual scope f cd A outer s H E) pins b->s.heap.get? b=none:=fun b o=>by
  rcases o.1 with z|z
  ·exact z
  ·cases z
 have o1:=J e (by simp);have o2:=J T2 (by simp);exact ⟨e,cv,da,T2,H',rfl,I2.os,I2.bare,I2.base,I2.hok,r2,⟨o1.1,Y _ o1.2⟩,⟨o2.1,Y _ o2.2⟩,xw φ' H' cv da st rh rx⟩
def Zgn {φ:List Yaq}{H:Hp}{h:Mem}{o:Out}{r:Res}{Q:VK}{E:XK}(Y:φ.length=h.length)(J:Zqs h.length r o.res)(q:r.post (Kv T φ H Q) (fun w h'=>∀ φ' H' cv da,Step φ H φ' H'->RH T φ' h' H'->RX T φ' H' w cv da->E cv da H')) :
  o.post (Zx T φ H E) φ H { nx:=fun _ H'=>Q .non H',rt:=Q }:=by
 cases r with
 | no=>exact q.elim
 | ex w m=>
  cases o with
  | ex w' m'=>
   intro φ' H' cv da s r x;obtain ⟨φ1,U,z,r1,I⟩:=J T φ' H' cv da r x;exact q φ1 H' cv da (Zbe s U (by rw[Y];exact z)) r1 I
  | _=>exact J.elim
 | ok w m=>
  cases o with
  | rt w' m'=>
   intro φ' H' v s r x;obtain ⟨φ1,U,z,r1,I⟩:=J T φ' H' v r x;exact q φ1 H' v (Zbe s U (by rw[Y];exact z)) r1 I
  | nx ρ' m'=>
   intro φ' H' σ' s r rs _;obtain ⟨φ1,U,z,r1,I⟩:=J T φ' H' .non r (by unfold RW;rfl);exact q φ1 H' .non (Zbe s U (by rw[Y];exact z)) r1 I
  | _=>exact J.elim
def ZxP {qc:Bool}{x z:Str}{st:Yce}{N ps:List Str}{k:Nat}{F:Fm}{f:Yaq}{fd:Ybc}{B:Sm}(R:Fun K x z st f fd)(S:FnScope N ps (Zaa st))
  (hB:∀ (I:Yag) (A:Ybr) (outer:List Env) (s:Yaj) (H:Hp) (E:XK) (J:List Yaq),Room k (A.deeper (Yc4 z (Zaa st) s.heap.objs.size f I)) ->
   XOk (Zcm (CXe qc P w) P w K mg base N z (Zaa st) f I A outer s H E) (Zx T J H E)->QB (Zcm (CXe qc P w) P w K mg base N z (Zaa st) f I A outer s H E) (Zx T J H E) (Zah st) B)
  (hF:Zkn ps.length N.length B F):FnOk P w K mg base (CXe qc P w) (k+1) f fd ps (spH T F):=by
 obtain ⟨oc,od,kV,aa,pm,an,I,ct,ac,rfl,lk,Y⟩:=R.ex;refine ZpP lk Y S (fun vs H Q E h=>?_) fun A outer s H vs Q E hr h=>?_
 ·obtain ⟨φ,h,ws,r,U,q⟩:=h;rcases hF ws h r.wf (by rw[<-r.len];exact U.lt) with e|⟨e,_⟩
  ·rw[e] at q;exact q.elim
  ·rw[<-U.length];exact e
 ·obtain ⟨φ,h,ws,r,U,q⟩:=h;refine ⟨_,(hB I A outer s H E φ hr ZiE).ps,φ,h,ZaK N.length ws,⟨trivial,Step.refl _ _,r,Zcf U⟩,?_⟩;rcases hF ws h r.wf (by rw[<-r.len];exact U.lt) with e|⟨e,ft⟩
  ·rw[e] at q;exact q.elim
  ·exact Zgn r.len ft q
def ZyZ {qc:Bool}{x:Str}{st:Yce}{N ps:List Str}{k:Nat}{F:Fm}{B:Sm}(R:Zhu K mg x st)(S:FnScope N ps (Zaa st))(Y:ZaV x x st ps)
  (hB:∀ (f:Yaq) (z:Yag) (A:Ybr) (outer:List Env) (s:Yaj) (H:Hp) (E:XK) (I:List Yaq),Room k (A.deeper (Yc4 x (Zaa st) s.heap.objs.size f z)) ->
   XOk (Zcm (CXe qc P w) P w K mg base N x (Zaa st) f z A outer s H E) (Zx T I H E)->QB (Zcm (CXe qc P w) P w K mg base N x (Zaa st) f z A outer s H E) (Zx T I H E) (Zah st) B)
  (J:Zkn ps.length N.length B F):FnAt P w K mg base (CXe qc P w) (k+1) x (spH T F):=by
 obtain ⟨f,fd,R,U⟩:=R;exact ⟨f,fd,ps,ZxP R S (hB f) J,U,R.kp,R.binds Y⟩
end
section
variable {X:Cx} {Z:Zc} {qc:Bool} {k j:Nat} {F:Fm} {fa:Exs} {fo:Ex} {x m:Str} {p pos apos:Pos} {e o:YaQ} {es:List YaQ}
def ZnZ (U:FnOk X.prog X.w X.K X.mg X.base CX k f fd ps sp)(hr:Room k X.A)(hq:CX.q=true->X.calm=true)(hb:Binds X.K fd ps [])
  (I:Inv X pins σ H s) (r:Vals vs us) (h:sp vs H Q E) (Y:∀ v s',CX X.stack H s E v s'->X.xe v s'):YaF (YaJ X.prog X.w) X.A (call (.ref f) us) (EP X pins σ Q) X.xe s:=by
 have hl:us.length=ps.length:=by rw[<-r.length];exact U.len _ _ _ _ h
 have J:=hb s us I.kIn (by rw[YbK];exact hl);rw[YbK] at J;refine YcY (YcA (U.run X.A X.stack s H ⟨us,[]⟩ us vs Q E hr (fun z=>I.ok.hd (hq z)) I.env0 J r h) fun r s' q=>?_);cases r with
 | error v=>exact Y v s' q
 | ok fl=>
  cases fl with
  | ret u=>exact I.after q
  | next=>exact Ya9 q
  | brk=>exact Ya9 q
  | cont=>exact Ya9 q
def Zgk (Fk:FnOk X.prog X.w X.K X.mg X.base (CXe qc X.prog X.w) k f fd ps (spH Z.T F))(hx:XOk X Z)(hr:Room k X.A)(hq:qc=true->X.calm=true)
  (J:Binds X.K fd ps []) (I:Inv X pins σ H s) (r:Vals vs us) (sg:Z.sg σ) (st:Step Z.φ Z.H φ H) (rh:RH Z.T φ h H) (rw:RWs Z.T φ H ws vs) (q:(F ws h).post (Kv Z.T φ H Q) Z.xw):YaF (YaJ X.prog X.w) X.A (call (.ref f) us) (EP X pins σ Q) X.xe s:=by
 refine ZnZ (E:=fun cv da H'=>∃ φ' h' w,Step φ H φ' H'/\RH Z.T φ' h' H'/\RX Z.T φ' H' w cv da/\Z.xw w h') Fk hr hq J I r ⟨φ,h,ws,rh,rw,?_⟩ ?_
 ·cases e:F ws h with
  | ok w m=>rw[e] at q;exact q
  | no=>rw[e] at q;exact q
  | ex w m=>rw[e] at q;exact fun φ' H' cv da s r x=>⟨φ',m,w,s,r,x,q⟩
 ·rintro v s' ⟨e,cv,da,T,H',rfl,os,U,un,ac,R,⟨h1,h2⟩,⟨h3,h4⟩,φ',h',w,aa,Y,rx,xw⟩;refine hx _ _ ⟨pins,σ,H',e,cv,da,some T,φ',h',w,rfl,⟨I.call' os un ac U (fun b z=>by cases z),R,fun b J=>?_⟩,sg,st.trans aa,Y,rx,xw⟩;rcases Yaz.mp J with rfl|J
  ·exact ⟨h1,ZaU I h2⟩
  ·have J:b=T:=by simpa using J
   subst J;exact ⟨h3,ZaU I h4⟩
noncomputable def ZaJ (F:Fm)(f:Exs):Ex:=fun ρ h=>match f ρ h with
 | .ok ws h1=>F ws h1
 | .ex w h1=>.ex w h1
 | .no=>.no
def Zih (J:QA X Z es fa)(I:Inv X pins σ H s)(x:Here Z σ H φ h ρ)(q:(ZaJ F fa ρ h).post (Kv Z.T φ H Q) Z.xw) :
  YaF (YaJ X.prog X.w) X.A (spliced (Ya3 pos (Yah es X.env))) (AP X pins σ fun vs H1=>∃ φ1 h1 ws,Step φ H φ1 H1/\Here Z σ H1 φ1 h1 ρ/\RWs Z.T φ1 H1 ws vs/\(F ws h1).post (Kv Z.T φ1 H1 Q) Z.xw) X.xe s:=by
 refine J.pa pos pins s σ H _ I ⟨φ,h,ρ,x,?_⟩;unfold ZaJ at q;cases e:fa ρ h with
 | no=>rw[e] at q;exact q.elim
 | ex w h'=>rw[e] at q;exact q
 | ok ws h1=>
  rw[e] at q;intro φ1 H1 vs s1 r1 z;refine ⟨φ1,h1,ws,s1,x.step s1 r1,z,?_⟩;exact q.mono fun w m k=>k.step s1
def Zwc (G:FnAt X.prog X.w X.K X.mg X.base (CXe qc X.prog X.w) k x (spH Z.T F))(hx:XOk X Z)(hr:Room j X.A)(z:k<=j)(hg:Gl X x)(ha:QA X Z (e::es) fa)(J:(x == ("__debug__":Str))=false:=by decide)
  (he:Yah (e::es) X.env=(false,YbT e X.env)::Yah es X.env:=by rfl) (Y:(Ya3 pos (Yah es X.env)).any (·.1)=false:=by rfl) (hq:qc=true->X.calm=true:=by first | exact fun _=>rfl | (intro h;cases h)):QE X Z (.Call (.Name x p) (e::es) [] pos) (ZaJ F fa):=by
 obtain ⟨f,fd,ps,Fk,hm,kp,hb⟩:=G;refine ⟨fun pins s σ H Q I zq=>?_⟩;obtain ⟨φ,h,ρ,x0,q⟩:=zq;refine Ybn (ZaY I hg hm ?_ J);refine Ycs (h₀:=X.base) I.ok.mod.kin kp (thn (Zih (F:=F) ha I x0 q) fun us s1 zz=>?_) he Y;obtain ⟨vs,H1,I1,r,φ1,h1,ws,_,x1,U,q1⟩:=zz;refine ⟨I1.kIn,?_⟩;exact Zgk Fk hx (hr.mono z) hq hb I1 r x1.sg x1.st x1.rh U q1
def MtX (P:YaN)(w:Ybg)(K:Yab)(mg:Str->Option Yag)(base:YbO)(T:CTb)(qc:Bool)(k:Nat)(c m:Str)(F:Fm):Prop:=
 ∃ C f fd ps,T c=some C/\Meth K C m f/\FnOk P w K mg base (CXe qc P w) k f fd ps (spH T F)/\Binds K fd ps []
def ZuN (P:YaN)(w:Ybg)(K:Yab)(mg:Str->Option Yag)(base:YbO)(T:CTb)(qc:Bool)(k:Nat)(m:Str)(z:Tab):Prop:=∀ c F,z c=some F->MtX P w K mg base T qc k c m F
def ZcQ (m:Str)(z:Tab)(f:Ex)(g:Exs):Ex:=fun ρ h=>(f ρ h).bind fun a h1=>match a with
 | .ref n=>(match h1[n]? with
  | some (.ins c fs)=>(match z c,fs.lookup m with
   | some F,none=>ZaJ (fun ws=>F (.ref n::ws)) g ρ h1
   | _,_=>.no)
  | _=>.no)
 | _=>.no
def ZgD (hI:ZeI X.K Z.T)(ht:ZuN X.prog X.w X.K X.mg X.base Z.T qc k m tab)(ho:QE X Z o fo)(I:Inv X pins σ H s)(x:Here Z σ H φ h ρ)(q:(ZcQ m tab fo fa ρ h).post (Kv Z.T φ H Q) Z.xw) :
  YaF (YaJ X.prog X.w) X.A (YbT o X.env) (EP X pins σ fun v H1=>∃ a C dx fs f fd ps F φ1 h1 n,v=.ref a/\H1 a=some (.ins C dx fs)/\Cls X.K C/\Meth X.K C m f/\FnOk X.prog X.w X.K X.mg X.base (CXe qc X.prog X.w) k f fd ps (spH Z.T F)/\Binds X.K fd ps []/\fs.lookup m=none /\
   Here Z σ H1 φ1 h1 ρ/\RW Z.T φ1 H1 (.ref n) v/\(ZaJ (fun ws=>F (.ref n::ws)) fa ρ h1).post (Kv Z.T φ1 H1 Q) Z.xw) X.xe s:=by
 refine ho.pe pins s σ H _ I ⟨φ,h,ρ,x,?_⟩;unfold ZcQ at q;rw[Zba] at q;refine q.mono fun a h1 z=>fun φ1 H1 u s1 r1 ra=>?_
 cases a with
 | ref n=>
  dsimp only at z;cases Y:h1[n]? with
  | none=>rw[Y] at z;exact z.elim
  | some ob=>
   rw[Y] at z;cases ob with
   | ins c fs=>
    dsimp only at z;obtain ⟨a,C,dx,fv,rfl,ea,y,hc,rp⟩:=Zfv r1 ra Y;cases U:tab c with
    | none=>rw[U] at z;exact z.elim
    | some F=>
     cases el:fs.lookup m with
     | some w=>rw[U,el] at z;exact z.elim
     | none=>
      rw[U,el] at z;obtain ⟨C',f',fd,ps,J,hm,Fk,hb⟩:=ht c F U;rw[hc] at J;cases J;exact ⟨a,C,dx,fv,f',fd,ps,F,φ1,h1,n,rfl,y,(hI c C hc).cl,hm,Fk,hb,(ZcM rp).2 el,x.step s1 r1,ra,z.mono fun w m k=>k.step s1⟩
   | _=>exact z.elim
 | _=>exact z.elim
def ZnB (hI:ZeI X.K Z.T)(ht:ZuN X.prog X.w X.K X.mg X.base Z.T qc k m tab)(hx:XOk X Z)(hr:Room j X.A)(z:k<=j)(ho:QE X Z o fo)(ha:QA X Z (e::es) fa)
  (U:Yah (e::es) X.env=(false,YbT e X.env)::Yah es X.env:=by rfl) (J:(Ya3 pos (Yah es X.env)).any (·.1)=false:=by rfl)
  (ae:YbT (.Call (.Attribute o m apos) (e::es) [] pos) X.env=(do
   let ov <- YbT o X.env
   Yd7 apos.atName
   let (f,first) <- Yd8 [ov] (YdY ov m pl)
   Ye0 pos f first (Ya3 pos (Yah (e::es) X.env)) (Ycc pos (Ybm [] X.env))):=by rfl)
  (hq:qc=true->X.calm=true:=by first | exact fun _=>rfl | (intro h;cases h)):QE X Z (.Call (.Attribute o m apos) (e::es) [] pos) (ZcQ m tab fo fa):=by
 refine ⟨fun pins s σ H Q I zq=>?_⟩;obtain ⟨φ,h,ρ,x0,q⟩:=zq;refine YcE (pl:=pl) (thn (ZgD hI ht ho I x0 q) fun u s1 zq=>?_) ae;obtain ⟨v,H1,I1,rx,a,C,dx,fs,f,fd,ps,F,φ1,h1,n,ex,ea,c,hm,Fk,hb,l,x1,ra,q1⟩:=zq;subst ex;obtain rfl:u=Yay a:=rx;refine ZdG I1 ea c hm l ?_;refine Ycs (first:=[.ref a]) (h₀:=X.base) I.ok.mod.kin hm.kp (thn (Zih (F:=fun ws=>F (.ref n::ws)) ha I1 x1 q1) fun us s2 zz=>?_) U J;obtain ⟨vs,H2,I2,r,φ2,h2,ws,ac,Y,aa,q2⟩:=zz;refine ⟨I2.kIn,?_⟩;exact Zgk (us:=.ref a::us) (vs:=.ref a::vs) Fk hx (hr.mono z) hq hb I2 (.cons rfl r) Y.sg Y.st Y.rh (by unfold RWs;exact ⟨_,_,rfl,ra.step ac,aa⟩) q2
end
noncomputable def bmV:List Yag:=[.type "ValueError",.type "Exception",.type "BaseException",.type "object"]
noncomputable def Zhm (K:Yab)(C:Yaq)(newId:String):Bool:=match K.lookup C with
 | some ⟨.type "type",_,.cls z,sl⟩=>(match z.mro,sl.toList with
  | .ref I::_,[_,_,_,_,some (.builtin n),_]=>I == C && (n == newId && !z.hasDel)
  | _,_=>false)
 | _=>false
def Zgs {K:Yab}{C:Yaq}{newId:String}(q:Zhm K C newId=true):∃ nm J N bs bm I sn sub ab col dd k0 k1 k2 k3 k5,K.lookup C=some (YcF nm J C N bs bm I sn sub ab col dd k0 k1 k2 k3 k5 newId):=by
 unfold Zhm at q;split at q
 ·rename_i dd cd sl ho;split at q
  ·rename_i C' bm k0 k1 k2 k3 n k5 Y U;simp only[Yaa,beq_iff_eq,Ya0] at q;obtain ⟨rfl,rfl,z⟩:=q;obtain ⟨nm,bs,aa,ns,J,I,sn,sub,ab,col,ac⟩:=cd;dsimp only at Y z;subst Y z;obtain ⟨l⟩:=sl;dsimp only at U;subst U;exact ⟨nm,J,ns,bs,bm,I,sn,sub,ab,col,dd,k0,k1,k2,k3,k5,ho⟩
  ·cases q
 ·cases q
def Zmm {K:Yab}{C:Yaq}{nm z:Str}{N:Yaq}{bs bm:List Yag}{I:Bool}{sn:List Str}{sub:List Yag}{ab:Bool}{col:Option Bool}{dd:Option Yaq}{k0 k1 k2 k3 k5:Option Yag}{newId:String}{v:Yag}{b:Bool}
  (ho:K.lookup C=some (YcF nm z C N bs bm I sn sub ab col dd k0 k1 k2 k3 k5 newId)) (q:YaZ K C v=some b):(Yay C::bm).contains v=b:=by
 unfold YaZ Ycn at q;rw[ho] at q;exact YaT q
section
variable {K:Yab} {h:YbO} {C:Yaq} {newId:String}
def ZuF (K:Yab)(C:Yaq):Bool:=PySem.W.excIn K C bmV "ValueError.__new__"
def ZwA (X:K.In h)(q:ZuF K C=true):∃ bm N nm Y bs U sn sub ab col dd k0 k1 k2 k3 k5 mN,h.get? C=some (YcF nm Y C N bs bm U sn sub ab col dd k0 k1 k2 k3 k5 "ValueError.__new__")/\h.Ns N mN/\mN "__init__"=none/\OwnTail h bmV bm:=by
 unfold ZuF PySem.W.excIn at q;split at q
 ·rename_i dd cd sl ho;split at q
  ·rename_i C' bm k0 k1 k2 k3 n k5 hm hs;simp only[Yaa,beq_iff_eq,Ya0] at q;obtain ⟨⟨⟨⟨⟨rfl,rfl⟩,z⟩,ht⟩,I⟩,J⟩:=q;obtain ⟨nm,bs,aa,ns,Y,U,sn,sub,ab,col,ac⟩:=cd;dsimp only at hm z I J;subst hm z;obtain ⟨l⟩:=sl;dsimp only at hs;subst hs;have i1:=PySem.W.isNs_of_in X I;exact ⟨bm,ns,nm,Y,bs,U,sn,sub,ab,col,dd,k0,k1,k2,k3,k5,h.nsMap ns,X _ _ ho,.of_isNs i1,PySem.W.nsMap_none_of_in X I J,PySem.W.tail_of_in X ht⟩
  ·cases q
 ·cases q
end
def Zxg (K:Yab)(mg:Str->Option Yag)(T:CTb)(c:Str):Prop:=∃ C,T.x c=some C/\mg c=some (.ref C)/\ZuF K C=true
noncomputable def ZeV (c:Str)(f:Exs):Sm:=fun ρ h=>match f ρ h with
 | .ok ws h1=>bif decide (ws.length<=Yai) then .ex (.exc c [] []) h1 else .no
 | .ex w h1=>.ex w h1
 | .no=>.no
section
variable {X:Cx} {Z:Zc} {fa:Exs} {c:Str} {np cpos pos:Pos} {e:YaQ} {es:List YaQ}
def Zlb (Rz:Zxg X.K X.mg Z.T c)(hx:XOk X Z)(hg:Gl X c)(ha:QA X Z (e::es) fa)(Y:(c == ("__debug__":Str))=false:=by decide)(he:Yah (e::es) X.env=(false,YbT e X.env)::Yah es X.env:=by rfl)
  (ae:(Ya3 cpos (Yah es X.env)).any (·.1)=false:=by rfl) (ac:X.calm=true:=by rfl):QS X Z (.Raise (some (.Call (.Name c np) (e::es) [] cpos)) none pos) (ZeV c fa):=by
 obtain ⟨C,hT,hm,hq⟩:=Rz;refine ⟨fun pins s σ H D I zq=>?_⟩;obtain ⟨φ,h,ρ,x,q⟩:=zq;obtain ⟨bm,N,nm,qn,bs,hd,sn,sub,ab,col,dd,k0,k1,k2,k3,k5,mN,hC,hN,af,Tl⟩:=ZwA I.ok.mod.kin hq;have U:=ha.pa cpos pins s σ H (fun vs H1=>∃ φ1 h1,Here Z σ H1 φ1 h1 ρ/\vs.length<=Yai/\Z.xw (.exc c [] []) h1) I ⟨φ,h,ρ,x,by
  unfold ZeV at q;cases e1:fa ρ h with
  | no=>rw[e1] at q;exact q.elim
  | ex w h1=>rw[e1] at q;exact q
  | ok ws h1=>
   rw[e1] at q;dsimp only at q;cases hz:decide (ws.length<=Yai) with
   | false=>rw[hz] at q;exact q.elim
   | true=>
    rw[hz] at q;intro φ1 H1 vs s1 r1 aa;exact ⟨φ1,h1,x.step s1 r1,by rw[<-aa.length];exact of_decide_eq_true hz,q⟩⟩
 refine wpAny_Raise_call_subT (nm:=nm) (q:=qn) (N:=N) (bs:=bs) (hdct:=hd) (sn:=sn) (sub:=sub) (ab:=ab) (col:=col) (dd:=dd) (k0:=k0) (k1:=k1) (k2:=k2) (k3:=k3) (k5:=k5) YbH (Tl.hasType YbH.hasBase) (I.ok.hd ac) (by rw[he];show (false || (Ya3 cpos (Yah es X.env)).any (·.1))=false;rw[ae];rfl) af (ZaY I hg hm ⟨rfl,?_⟩ Y);rw[he] at U ⊢;refine Ycd (thn U fun us s2 zz=>?_);obtain ⟨vs,H2,J,r,φ2,h2,x2,hl,xw⟩:=zz;refine ⟨rfl,by rw[<-r.length];exact hl,J.bk _ _ hC,hN.keeps J.bk,Tl.keeps J.bk,fun h' a z=>?_⟩;obtain ⟨t,ht,_,_⟩:=z.there;refine hx _ _ ⟨pins,σ,H2,a,.ref C,none,none,φ2,h2,.exc c [] [],rfl,⟨J.kept (t':=s2.toks) z.keeps,⟨_,_,ht,rfl,rfl,rfl,rfl,rfl⟩,fun b hb=>?_⟩,x2.sg,x2.st,x2.rh,⟨C,[],hT,rfl,rfl,by unfold RWs;rfl,rfl⟩,xw⟩;have hb:b=a:=by simpa using hb
 subst hb;exact ⟨Zcr J.hok z.new,ZaU J z.new⟩
end
noncomputable abbrev _root_.L2.Cx.tr (X:Cx)(E:Yag->Yaj->Prop)(pn:List (Yaq×Obj)):Cx:={ X with xe:=E,pn:=pn }
abbrev _root_.L2.Cx.loud (X:Cx)(e:Yaq)(o:Obj)(u:HO):Cx:={ X with A:=X.A.mark (some (.ref e)),calm:=false,H₀:=upd X.H₀ e (.frz o u),xe:=fun _ _=>False }
theorem _root_.L2.Room.mark (r:Room k A)(v:Option Yag):Room k (A.mark v):=⟨r.dp,r.un⟩
section
variable {X:Cx} {pins:List (Yaq×Obj)} {σ:St} {H:Hp} {s:Yaj}
def Zrg (I:Inv X pins σ H s)(E:Yag->Yaj->Prop):Inv (X.tr E (X.pn++pins)) [] σ H s:=
 ⟨⟨I.ok.mod,I.ok.kind,I.ok.glob,I.ok.blt,I.ok.above,I.ok.inj,I.ok.has,I.ok.cab,I.ok.hd,I.ok.frames,I.ok.stk,I.ok.exf,I.ok.bs,I.ok.bsz,I.ok.noex,I.ok.exfs,I.ok.funs,I.ok.frf,I.ok.lq⟩,I.os,I.bare,I.base,I.loc,I.cell,I.free,I.freeC,fun p z=>I.pin p (by simpa using z),I.hok,I.len⟩
def ZbG (ok:X.Ok)(I:Inv (X.tr E (X.pn++pins)) pins1 σ H s):Inv X pins σ H s:=
 ⟨ok,I.os,I.bare,I.base,I.loc,I.cell,I.free,I.freeC,fun p z=>I.pin p (YaL _ z),I.hok,I.len⟩
def Zpl (X:Cx)(e:Yaq):Prop:=(X.s₀.heap.get? e=none\/e∈X.ex)/\(∀ xs,X.H₀ e≠some (.tup xs))/\(∀ o u,X.H₀ e≠some (.frz o u))/\∀ ps,X.H₀ e≠some (.tbl ps)
def ZgO (I:Inv X pins σ H s)(z:H e=none)(o:Zks X pins e):Zpl X e:=
 ⟨o.1,fun xs q=>(by have:=I.base.tups e xs q;rw[z] at this;cases this),fun ob u q=>(by have:=I.base.frzs e ob u q;rw[z] at this;cases this),fun ps q=>(by obtain ⟨_,this⟩:=I.base.tbls e ps q;rw[z] at this;cases this)⟩
def Zgh (I:Inv X pins σ H s)(n:Zpl X e)(hH:H e=some (.frz ob u))(c:ZoR ob):Inv (X.loud e ob u) pins σ H s:=by
 have U:∀ b o,X.s₀.heap.get? b=some o->b ∉ X.ex->b≠e:=fun b o q hx z=>by
  subst z;rcases n.1 with y|y
  ·rw[y] at q;cases q
  ·exact hx y
 have un:∀ {b:Yaq},upd X.H₀ e (.frz ob u) b=none->b≠e/\X.H₀ b=none:=fun {b} q=>by
  have nb:b≠e:=fun z=>by rw[z,Zae] at q;cases q
  rw[Zab nb] at q;exact ⟨nb,q⟩
 refine ⟨⟨I.ok.mod,I.ok.kind,I.ok.glob,I.ok.blt,I.ok.above,I.ok.inj,I.ok.has,I.ok.cab,fun z=>(by cases z),I.ok.frames,I.ok.stk,I.ok.exf,fun b o q=>?_,I.ok.bsz,I.ok.noex,I.ok.exfs,I.ok.funs,fun b Y=>?_,.inr ⟨e,ob,u,rfl,c,Zae⟩⟩,I.os,I.bare,⟨fun b o q J=>I.base.keep b o q (un J).2,fun b o q J=>I.base.slot b o q (un J).2,fun b o q J=>I.base.free b o q (un J).2,I.base.there,fun b xs q=>?_,fun b o v q=>?_,fun b ps q=>?_⟩,I.loc,I.cell,I.free,I.freeC,I.pin,I.hok,I.len⟩
 ·obtain ⟨a1,a2⟩:=I.ok.bs b o q;exact ⟨a1,by rw[show (X.loud e ob u).H₀ b=upd X.H₀ e (.frz ob u) b from rfl,Zab (U b o a1 (I.ok.noex b o q))];exact a2⟩
 ·obtain ⟨_,o,ho,_⟩:=I.ok.funs.mem Y;rw[show (X.loud e ob u).H₀ b=upd X.H₀ e (.frz ob u) b from rfl,Zab (U b o ho fun z=>I.ok.exfs b z Y)];exact I.ok.frf b Y
 ·have q:upd X.H₀ e (.frz ob u) b=some (.tup xs):=q;by_cases z:b=e
  ·rw[z,Zae] at q;cases q
  ·rw[Zab z] at q;exact I.base.tups b xs q
 ·have q:upd X.H₀ e (.frz ob u) b=some (.frz o v):=q;by_cases z:b=e
  ·rw[z,Zae] at q;cases q;rw[z];exact hH
  ·rw[Zab z] at q;exact I.base.frzs b o v q
 ·have q:upd X.H₀ e (.frz ob u) b=some (.tbl ps):=q;by_cases z:b=e
  ·rw[z,Zae] at q;cases q
  ·rw[Zab z] at q;exact I.base.tbls b ps q
def Zbs (ok:X.Ok)(n:Zpl X e)(I:Inv (X.loud e ob u) pins σ H s):Inv X pins σ H s:=by
 have U:∀ b o,X.s₀.heap.get? b=some o->b ∉ X.ex->b≠e:=fun b o q J z=>by
  subst z;rcases n.1 with y|y
  ·rw[y] at q;cases q
  ·exact J y
 have up:∀ {b:Yaq},b≠e->(X.loud e ob u).H₀ b=X.H₀ b:=fun {b} z=>Zab z
 refine ⟨ok,I.os,I.bare,⟨fun b o q Y hb J=>I.base.keep b o q ((up (U b o q J)).trans Y) hb J,fun b o q Y hb J=>I.base.slot b o q ((up (U b o q J)).trans Y) hb J,fun b o q Y J=>I.base.free b o q ((up (U b o q J)).trans Y) J,I.base.there,fun b xs q=>?_,fun b o v q=>?_,fun b ps q=>?_⟩,I.loc,I.cell,I.free,I.freeC,I.pin,I.hok,I.len⟩
 ·exact I.base.tups b xs ((up fun z=>n.2.1 xs (z ▸ q)).trans q)
 ·exact I.base.frzs b o v ((up fun z=>n.2.2.1 o v (z ▸ q)).trans q)
 ·exact I.base.tbls b ps ((up fun z=>n.2.2.2 ps (z ▸ q)).trans q)
def ZpT (I:Inv X pins σ H s)(he:H e=none)(o:Zks X pins e)(U:ObjOk X.prog X.w (upd H e ho) s.heap e ho):Inv X pins σ (upd H e ho) s:=by
 have J:∀ b u,H b=some u->b≠e:=fun b u q=>Zag q he
 refine ⟨I.ok,I.os,I.bare,⟨I.base.keep,I.base.slot,fun b ob q n hx=>?_,I.base.there,fun b xs q=>?_,fun b ob xs q=>?_,fun b ps q=>?_⟩,I.loc,I.cell,?_,fun x c q=>?_,fun p hp=>?_,fun b u q=>?_,I.len⟩
 ·rw[Zab]
  ·exact I.base.free b ob q n hx
  ·rintro rfl;rcases o.1 with z|z
   ·rw[z] at q;cases q
   ·exact hx z
 ·have:=I.base.tups b xs q;rw[Zab (J _ _ this)];exact this
 ·have:=I.base.frzs b ob xs q;rw[Zab (J _ _ this)];exact this
 ·obtain ⟨more,this⟩:=I.base.tbls b ps q;exact ⟨more,by rw[Zab (J _ _ this)];exact this⟩
 ·rw[Zab (YbW o.2.1)];exact I.free
 ·rw[Zab (o.2.2.1 x c q)];exact I.freeC x c q
 ·obtain ⟨e1,n,Y,nf,d⟩:=I.pin p hp;exact ⟨e1,by rw[Zab (o.2.2.2 p hp)];exact n,Y,nf,d⟩
 ·by_cases z:b=e
  ·subst z;rw[Zae] at q;cases q;exact U
  ·rw[Zab z] at q;exact (I.hok b u q).stay (fun c v _ r=>r) (fun c r=>by rw[Zab (J _ _ r)];exact r) fun c xs r=>by rw[Zab (J _ _ r)];exact r
def ZdT (I:Inv X pins σ H s)(hN:X.N.Nodup)(hi:X.N[i]?=some n)(hk:X.env.scope.names.lookup n=some .local)(k:∀ s',Inv X pins (σ.set i none) H s'->Q () s') :
  YaF Md A (do bindName X.env n .none;unbindBehindTheSuite X.env n pos) Q E s:=by
 obtain ⟨m,hn,hl⟩:=id I.loc;refine wpAny_nameGoes_keeps hk hn (by rw[I.ok.kind];rfl) fun h' v aa J=>k _ ?_
 have nL:∀ b o,X.s₀.heap.get? b=some o->b≠X.env.locals:=fun b o e=>YaK (YaI (Yal e) I.ok.above)
 refine ⟨I.ok,I.os,I.bare,⟨fun b o e Y hb hx=>(J.2 b (nL b o e)).trans (I.base.keep b o e Y hb hx),fun b o e Y hb hx=>?_,I.base.free,fun b o e hx=>?_,I.base.tups,I.base.frzs,I.base.tbls⟩,⟨_,aa,fun j y v' U e2 e3=>?_⟩,fun y c e=>?_,I.free,I.freeC,fun p hp=>?_,fun b u e=>?_,by simpa using I.len⟩
 ·obtain ⟨sl,U⟩:=I.base.slot b o e Y hb hx;exact ⟨sl,(J.2 b (nL b o e)).trans U⟩
 ·obtain ⟨o',U⟩:=I.base.there b o e hx;exact ⟨o',(J.2 b (nL b o e)).trans U⟩
 ·rw[YcM] at e2;split at e2
  ·split at e2<;>cases e2
  ·rename_i ac;obtain ⟨u',r',q⟩:=hl j y v' U e2 e3;refine ⟨u',r',?_⟩;rcases q with ⟨kk,e⟩|⟨kk,c,e,z⟩
   ·have ny:y≠n:=fun e=>ac (Zee hN hi (e ▸ U))
    exact .inl ⟨kk,by simp[ny,e]⟩
   ·exact .inr ⟨kk,c,e,z.sameBut J (I.cne y c e)⟩
 ·obtain ⟨w',z⟩:=I.cell y c e;exact ⟨w',z.sameBut J (I.cne y c e)⟩
 ·obtain ⟨e,Y,ne,nf,d⟩:=I.pin p hp;exact ⟨(J.2 p.1 ne).trans e,Y,ne,nf,d⟩
 ·refine (I.hok b u e).stay (fun c v' hc q=>(J.2 c ?_).trans q) (fun _ q=>q) fun _ _ q=>q
  rintro rfl;rcases hc with rfl|hc
  ·rw[I.free] at e;cases e
  ·rw[I.free] at hc;cases hc
end
def exm (hC:s.heap.get? C=some (YcF nm qn C N bs bm hd sn sub ab col dd k0 k1 k2 k3 k5 nw))(U:s.heap.get? D=some (YcF nm' qn' D N' bs' bm' hd' sn' sub' ab' col' dd' k0' k1' k2' k3' k5' nw'))(he:s.heap.get? e=some oe)(z:oe.cls=.ref C)
  (I:(Yay D::bm').contains (.type "BaseException")=true) (J:(Yay C::bm).contains (.ref D)=true) (Y:Q true s):YaF Md A (excMatches (.ref e) (.ref D)) Q E s:=by
 obtain ⟨hp,g,d,t,os⟩:=s;have f:=tc_notTuple;unfold excMatches
 repeat (first | (with_reducible refine Ybx he ?_;rw[z]) | with_reducible refine Ybx U ?_ | (with_reducible refine YcU U ?_;rw[I]) | (with_reducible refine YcU hC ?_;rw[J]) | wp_step)
 exact Y
noncomputable def fgt:List Nat->Sg->Sg
 | [],ρ=>ρ
 | i::r,ρ=>fgt r (ρ.set i none)
theorem Zip:∀ {asg:List Nat} {ρ:Sg},(fgt asg ρ)[j]?=some (some w)->j ∉ asg/\ρ[j]?=some (some w)
 | [],ρ,e=>⟨by simp,e⟩
 | i::r,ρ,e=>by
  obtain ⟨n,q⟩:=Zip (asg:=r) e;rw[YcM] at q;split at q
  ·split at q<;>cases q
  ·rename_i I;exact ⟨by simp only[Yaz,not_or];exact ⟨fun z=>I z.symm,n⟩,q⟩
theorem Zjh:∀ {asg:List Nat} {ρ:Sg},(fgt asg ρ).length=ρ.length
 | [],_=>rfl
 | i::r,ρ=>by unfold fgt;rw[Zjh];simp
def Zd3 (r:RS T φ H ρ σ):RS T φ H (ρ.set i none) (σ.set i none):=⟨by simp[r.len],fun j w e=>by
 rw[YcM] at e;split at e
 ·split at e<;>cases e
 ·rename_i z;obtain ⟨v,a,b⟩:=r.var j w e;exact ⟨v,by rw[Yca z];exact a,b⟩⟩
noncomputable def Zwo (i:Nat):Out->Out
 | .nx ρ h=>.nx (ρ.set i none) h
 | .bk ρ h=>.bk (ρ.set i none) h
 | .ct ρ h=>.ct (ρ.set i none) h
 | .rt w h=>.rt w h
 | _=>.no
def Zry (sub:Str->Bool)(i:Nat)(asg:List Nat)(B Hn:Sm):Sm:=fun ρ h=>match B ρ h with
 | .ex w h'=>(match w with
  | .exc c fs ws=>bif sub c then Zwo i (Hn ((fgt asg ρ).set i (some (.exc c fs ws))) h') else .no
  | _=>.no)
 | o=>o
structure CatAt (K:Yab)(mg:Str->Option Yag)(T:CTb)(d:Str)(sub:Str->Bool):Prop where
 ex:∃ D,mg d=some (.ref D)/\Zhm K D "ValueError.__new__"=true/\YaZ K D (.type "BaseException")=some true/\∀ c C,sub c=true->T.x c=some C->Zhm K C "ValueError.__new__"=true/\YaZ K C (.ref D)=some true
section
variable {X:Cx} {Z:Zc} {sub:Str->Bool} {i:Nat} {asg:List Nat} {B Hn:Sm} {n d:Str} {np hpos pos:Pos} {body suite:List Yce} {b₀:Yce}
def ZqN (hK:CatAt X.K X.mg Z.T d sub)(hg:Gl X d)(hN:X.N.Nodup)(hi:X.N[i]?=some n)(hk:X.env.scope.names.lookup n=some .local)(aa:∀ σ,Z.sg σ)(am:X.stack=X.env::X.outer)(bn:X.env.frame=some X.env.locals)
  (hB:∀ E' pn φ' H' ah a6,(∀ j∈asg,∀ σ v,ah σ->ah (σ.set j (some v)))->XOk (X.tr E' pn) ⟨Z.T,φ',H',ah,a6⟩->QB (X.tr E' pn) ⟨Z.T,φ',H',ah,a6⟩ body B)
  (hH:∀ e o u φ' H',QB (X.loud e o u) (Zf Z.T φ' H') (b₀::suite) Hn) (bc:(d == ("__debug__":Str))=false:=by decide) :
  QS X Z (.Try body [.ExceptHandler (some (.Name d np)) (some n) (b₀::suite) hpos] [] [] pos) (Zry sub i asg B Hn):=by
 obtain ⟨D,hd,hD,bf,aw⟩:=hK.ex;refine ⟨fun pins s σ H Dn I ⟨φ,h,ρ,x,q⟩=>wpAny_Try_except ?_⟩;obtain ⟨bw,b1,ND,b0,bx,b5,b2,bv,b4,bu,bz,a0,a1,a2,a3,a5,au⟩:=Zgs hD;refine Ya6 ((hB (fun v a9=>YaF (YaJ X.prog X.w) X.A (YeX v X.env) (fun _ a8=>YaF (YaJ X.prog X.w) X.A (setFlight v none) (fun _ az=>YaF (YaJ X.prog X.w) X.A (handleBy v X.env [.ExceptHandler (some (.Name d np)) (some n) (b₀::suite) hpos]) (SP X pins Dn) X.xe az) X.xe a8) X.xe a9) (X.pn++pins) φ H
  (fun σ'=>∀ j,j ∉ asg->σ'[j]?=σ[j]?) (fun w h1=>∃ c fs ws,w=.exc c fs ws/\sub c=true/\(Zwo i (Hn ((fgt asg ρ).set i (some w)) h1)).post Z φ H Dn) (fun j hj σ' v z j' ax=>?_) ?_).ps [] s σ H Dn (Zrg I _) ⟨φ,h,ρ,⟨fun _ _=>rfl,Step.refl _ _,x.rh,x.rs⟩,?_⟩) (fun f s1 sp=>?_) fun v s1 z=>z
 ·rw[Yca (fun z'=>ax (by rw[<-z'];exact hj))];exact z j' ax
 ·rintro v s1 ⟨bg,bl,H1,e,cv,da,T1,φ1,h1,w,rfl,⟨I1,R,own⟩,bh,af,a4,bq,c,fs,ws,rfl,br,qp⟩;replace I1:=ZbG I.ok I1;replace own:∀ b∈e::T1.toList,H1 b=none/\Zks X pins b:=fun b hb=>⟨(own b hb).1,(own b hb).2.1,(own b hb).2.2.1,(own b hb).2.2.2.1,fun p hp=>(own b hb).2.2.2.2 p (YaL _ hp)⟩
  obtain ⟨C,vs,ay,rfl,bj,bt,ai⟩:=bq;obtain ⟨hC,bi⟩:=aw c C br ay;obtain ⟨nm,qn,N,bs,bm,b3,sn,sb,ab,col,dd,k0,k1,k2,k3,k5,a7⟩:=Zgs hC;show YaF _ _ (YeX (.ref e) X.env) _ _ s1;refine Zj9 (base:=X.base) (by rw[<-am];exact I1.ok.frames) (by rw[<-am];exact I1.stack) bn R fun g T2 r c1 nw=>?_
  have I2:=chg I1 (by rw[am];exact c1) own;have U:∀ b∈[e,T2],H1 b=none/\Zks X pins b:=fun b hb=>by
   rcases Yaz.mp hb with rfl|hb
   ·exact own b YaD
   ·have hb:b=T2:=by simpa using hb
    subst hb;rcases nw with nw|nw
    ·exact own b (by rw[nw];simp)
    ·exact ⟨I1.hok.fresh nw,ZaU I1 (YbD nw)⟩
  have al:∀ b∈[T2],H1 b=none/\Zks X pins b:=fun b hb=>U b (Yau _ hb)
  refine Zcp r fun g2 r2 c2=>?_
  have I3:=chg I2 (c2.mono (fun b z=>by cases z) fun b z=>z) al;obtain ⟨oe,vv,he,aj,bp,ar,bb,b6⟩:=id r2;have IT:=ZpT (ho:=.frz oe (.ext (Za1 e C da))) I3 (U e (by simp)).1 (U e (by simp)).2 ⟨he,⟨oe,vv,he,aj,ar,bp⟩,⟨oe,he⟩,fun h1 h2 ⟨o,us,a,b⟩ k=>⟨o,us,k o a,b⟩⟩;have ba:=ZgO I3 (U e (by simp)).1 (U e (by simp)).2;refine wpAny_handleBy_cons (codeAny_handlers_test (ZaY (X:=X.loud e oe (.ext (Za1 e C da))) (Zgh IT ba Zae ⟨vv,ar,bb⟩) hg hd ?_ bc)) (by intro z;cases z);refine exm (I3.kIn _ _ a7) (I3.kIn _ _ au) he aj (Zmm au bf) (Zmm a7 bi) ?_;refine codeAny_handlers_suite_as (Zcp r2 fun g3 r3 c3=>?_);have I4:=chg I3 (c3.mono (fun b z=>by cases z) fun b z=>z) al;obtain ⟨Y,ao,aq,ap,as,ag,ak,_⟩:=id r3;have I5:=ZpT (ho:=.frz Y (.ext (Za1 e C da))) I4 (U e (by simp)).1 (U e (by simp)).2 ⟨aq,⟨Y,ao,aq,ap,ag,as⟩,⟨Y,aq⟩,fun h1 h2 ⟨o,us,a,b⟩ k=>⟨o,us,k o a,b⟩⟩;have ac:=ZaS (φ:=φ1) (H:=H1) (ho:=.frz Y (.ext (Za1 e C da))) (U e (by simp)).1;have be:=a4.tmp (ho:=.frz Y (.ext (Za1 e C da))) (U e (by simp)).1;have bo:RW Z.T φ1 (upd H1 e (.frz Y (.ext (Za1 e C da)))) (.exc c fs ws) (.ref e):=by
   unfold RW;refine ⟨e,C,da,vs,rfl,a4.fresh (U e (by simp)).1,ay,⟨Y,⟨ao,ag,ak⟩,Zae⟩,bj,?_,bt.step ac⟩;cases da with
   | none=>exact ai
   | some d1=>exact ⟨ai.1,by rw[Zab (Zag ai.2 (U e (by simp)).1)];exact ai.2⟩
  have ae:=ZgO I4 (U e (by simp)).1 (U e (by simp)).2;refine Zce (X:=X.loud e Y (.ext (Za1 e C da))) (v:=.ref e) (Zgh I5 ae Zae ⟨ao,ag,ak⟩) hN hi (.inl hk) rfl (fun s6 I6=>?_) (.inr hk);have bd:RS Z.T φ1 (upd H1 e (.frz Y (.ext (Za1 e C da)))) ((fgt asg ρ).set i (some (.exc c fs ws))) (bl.set i (some (.ref e))):=by
   refine RS.set ⟨?_,fun j w e1=>?_⟩ bo
   ·rw[Zjh,x.rs.len,I.len,I1.len]
   ·obtain ⟨nj,e2⟩:=Zip e1;obtain ⟨v,a,b⟩:=x.rs.var j w e2;exact ⟨v,by rw[bh j nj];exact a,b.step (af.trans ac)⟩
  refine Ya6 ((hH e Y (.ext (Za1 e C da)) φ1 (upd H1 e (.frz Y (.ext (Za1 e C da))))).ps pins s6 _ _ { nx:=fun σ' H'=>Dn.nx (σ'.set i none) H',rt:=Dn.rt,bk:=fun σ' H'=>Dn.bk (σ'.set i none) H',ct:=fun σ' H'=>Dn.ct (σ'.set i none) H' } I6 ⟨φ1,h1,_,⟨trivial,Step.refl _ _,be,bd⟩,?_⟩) (fun f s7 sp=>?_) fun _ _ z=>z.elim
  ·cases e6:Hn ((fgt asg ρ).set i (some (.exc c fs ws))) h1 with
   | nx ρ' h2=>rw[e6] at qp;exact fun φ' H' σ' s r rs _=>qp φ' H' _ (af.trans (ac.trans s)) r (Zd3 rs) (aa _)
   | bk ρ' h2=>rw[e6] at qp;exact fun φ' H' σ' s r rs _=>qp φ' H' _ (af.trans (ac.trans s)) r (Zd3 rs) (aa _)
   | ct ρ' h2=>rw[e6] at qp;exact fun φ' H' σ' s r rs _=>qp φ' H' _ (af.trans (ac.trans s)) r (Zd3 rs) (aa _)
   | rt w h2=>rw[e6] at qp;exact Kv.step qp (af.trans ac)
   | ex w h2=>rw[e6] at qp;exact qp.elim
   | no=>rw[e6] at qp;exact qp.elim
  ·show YaF _ X.A (do bindName X.env n .none;unbindBehindTheSuite X.env n hpos) _ _ s7;cases f with
   | next=>obtain ⟨σ',H',J,z⟩:=sp;exact ZdT (Zbs I.ok ae J) hN hi hk fun s8 J8=>⟨_,H',J8,z⟩
   | brk=>obtain ⟨σ',H',J,z⟩:=sp;exact ZdT (Zbs I.ok ae J) hN hi hk fun s8 J8=>⟨_,H',J8,z⟩
   | cont=>obtain ⟨σ',H',J,z⟩:=sp;exact ZdT (Zbs I.ok ae J) hN hi hk fun s8 J8=>⟨_,H',J8,z⟩
   | ret u=>obtain ⟨v,σ',H',J,rv,z⟩:=sp;exact ZdT (Zbs I.ok ae J) hN hi hk fun s8 J8=>⟨v,_,H',J8,rv,z⟩
 ·unfold Zry at q;cases e1:B ρ h with
  | nx ρ' h'=>rw[e1] at q;exact fun φ' H' σ' s r rs _=>q φ' H' σ' s r rs (aa _)
  | bk ρ' h'=>rw[e1] at q;exact fun φ' H' σ' s r rs _=>q φ' H' σ' s r rs (aa _)
  | ct ρ' h'=>rw[e1] at q;exact fun φ' H' σ' s r rs _=>q φ' H' σ' s r rs (aa _)
  | rt w h'=>rw[e1] at q;exact q
  | no=>rw[e1] at q;exact q
  | ex w h'=>
   rw[e1] at q;dsimp only at q;cases w with
   | exc c fs ws=>
    dsimp only at q;cases hs:sub c with
    | false=>rw[hs] at q;exact q.elim
    | true=>rw[hs] at q;exact ⟨c,fs,ws,rfl,hs,q⟩
   | _=>exact q.elim
 ·cases f with
  | next=>obtain ⟨σ',H',J,z⟩:=sp;exact Yc2 ⟨σ',H',ZbG I.ok J,z⟩
  | brk=>obtain ⟨σ',H',J,z⟩:=sp;exact ⟨σ',H',ZbG I.ok J,z⟩
  | cont=>obtain ⟨σ',H',J,z⟩:=sp;exact ⟨σ',H',ZbG I.ok J,z⟩
  | ret u=>obtain ⟨v,σ',H',J,rv,z⟩:=sp;exact ⟨v,σ',H',ZbG I.ok J,rv,z⟩
end
structure ExcTy (K:Yab)(C:Yaq):Prop where
 ga:Yao K (.ref C) "__getattribute__"=some (some (.builtin "BaseException.__getattribute__"))
 gh:Yao K (.ref C) "__getattr__"=some none
 bx:YaZ K C (.type "BaseException")=some true
 ha:Yao K (.ref C) "__class__"=some (some (.builtin "object.__class__"))
 hn:Ybl K (.builtin "object.__class__") "__get__"=some (some (.builtin "getset_descriptor.__get__"))
 htk:Ycz K (.builtin "object.__class__")=some true
 hm:YaZ K C (.type "object")=some true
section
variable {prog:YaN} {w:Ybg} {A:Ybr} {E:Yag->Yaj->Prop} {s:Yaj} {K:Yab} {x C:Yaq} {ox:Obj} {odo:Option Obj} {name:Str}
def ZyY (prog:YaN)(w:Ybg)(A:Ybr)(x C:Yaq)(Q:Yag->Yaj->Prop)(s:Yaj):Yd2->Prop
 | .value v=>YaF (YaJ prog w) A (handedOut v) Q (fun _ _=>False) s
 | .bind g a=>YaF (YaJ prog w) A.in1 (call g [a,.ref x,.ref C]) (fun v s'=>YaF (YaJ prog w) A (handedOut v) Q (fun _ _=>False) s') (fun _ _=>False) s
 | .missing=>False
def Zmh {Y J:Bool}{tk:Tok}{Q:Yag->Yaj->Prop}{r:Yd2}(X:K.In s.heap)(I:YcR s.heap x ox C odo)(Z:ExcTy K C)(hf:Yes K C odo name=some r)(h:ZyY prog w A x C Q s r) :
  YaF (YaJ prog w) A (getAttrBy (.ref x) (.str name tk) Y J) Q E s:=by
 obtain ⟨hh,g,d,t,os⟩:=s;have L0:=I.type (M:=YaJ prog w);have L1:=Ycb (M:=YaJ prog w) X Z.ga;have L2:=Ycb (M:=YaJ prog w) X Z.gh;have L3:=YeQ (M:=YaJ prog w) X Z.bx;unfold getAttrBy;refine Ybp (Yac (L0.at (Yac (L1.at ?_))));have ac:(Ye1 "BaseException.__getattribute__" == Ye1 "object.__getattribute__")=false:=by decide +kernel
 simp only[ac,YeF,Yb5,if_false];unfold getAttrByItsOwn hookBefore;have ht:onTheHeap (Yay C)=true:=rfl;simp only[ht,if_true];refine Yac (L2.at (Yac (Ydx (Ybp ?_))));unfold callGetattribute;have aa:(J && onTheHeap (Ye1 "BaseException.__getattribute__"))=false:=by cases J<;>rfl
 simp only[aa,Yb5,if_false];unfold boundAndCalled;rw[Yd9.ga.bind];refine Yac (Yat (YcY (Ydv Yd9.ga.plain PySem.F.entry_bexc_ga ?_)));have hk:builtinKind "BaseException.__getattribute__"=some .slot:=by decide +kernel
 have U:splitId "BaseException.__getattribute__"=some ("BaseException","__getattribute__"):=by decide +kernel
 have ha:=PySem.F.args_bexc_ga (.ref x) (.str name tk);simp only[checkBuiltinCall,hk,U];refine Yac ((L0.andThen L3).at ?_);have L4:=PySem.W.looks_find (M:=YaJ prog w) X I hf;have e1:=I.at_;have e2:=I.cls;dsimp only at e1
 repeat (any_goals (first | assumption | (with_reducible refine Ybx e1 ?_;rw[e2];refine Yat ?_;refine Yac (L4.at ?_)) | wp_step))
 cases r with
 | value v=>exact Yat (Ya6 h (fun _ _ z=>z) fun _ _ z=>z.elim)
 | missing=>exact h.elim
 | bind g a=>
  show YaF _ _ (Yd8 [a] (call g [a,.ref x,.ref C]) >>= ret) _ _ _;exact Yac (Ybp (Ya6 h (fun v s' z=>Yat (Ya6 z (fun _ _ q=>q) fun _ _ q=>q.elim)) fun _ _ z=>z.elim))
def Zil {Q:Option Yag->Yaj->Prop}(X:K.In s.heap)(I:YcR s.heap x ox C odo)(Z:ExcTy K C)(h:Q (some (.ref C)) { s with toks:=s.toks+1 }):YaF (YaJ prog w) A (getAttr? (.ref x) "__class__") Q E s:=by
 obtain ⟨J,g,d,t,os⟩:=s;have z:(Ycn K C).isSome=true:=by
  cases q:Ycn K C with
  | some Y=>rfl
  | none=>have:=Z.hm;unfold YaZ at this;rw[q] at this;cases this
 obtain ⟨Y,z⟩:=Ybh.mp z;have U:Yes K C odo "__class__"=some (.bind (.builtin "getset_descriptor.__get__") (.builtin "object.__class__")):=by
  unfold Yes;rw[z,YaH,Z.ha,YaH];simp[Z.hn,Z.htk]
 unfold getAttr? getAttrBy?;refine Yac (wpAny_mkText (Yac (Ydx (Zmh (s:=⟨J,g,d,t+1,os⟩) X I Z U (YcY (PySem.W.class_get (s:=⟨J,g,d,t+1,os⟩) (od:=odo) X I Z.hm ?_))))));exact PySem.W.handed_on rfl (Yat h)
def Zx3 (e C:Yaq)(odo:Option Obj)(h:YbO):Prop:=∃ ox,YcR h e ox C odo
theorem Zk5 {odo:Option Obj}(Z:ExcTy K C):PySem.W.KitX K (.ref x) (.ref C) (Zx3 x C odo) where
 ty:=fun _ _ _ ⟨_,I⟩=>I.type
 it:=fun _ _ X _=>by
  cases q:K.lookup C with
  | none=>have:=Z.hm;unfold YaZ Ycn at this;rw[q] at this;cases this
  | some o=>
   obtain ⟨oc,od,Y,sl⟩:=o;cases Y with
   | cls cd=>
    intro A' Q' E' s' k z;unfold isType loadHead;exact Yac (wpAny_loadPart (k _ _ (X _ _ q)) (Yat z))
   | _=>have:=Z.hm;unfold YaZ Ycn at this;rw[q] at this;cases this
 ne:=fun h U dd its n sl X J=>by
  refine Bool.eq_false_iff.mpr fun z=>?_
  have e:C=U:=Yay.inj (beq_iff_eq.mp z);subst e;cases q:K.lookup C with
  | none=>have:=Z.hm;unfold YaZ Ycn at this;rw[q] at this;cases this
  | some o=>
   have e2:=(X _ _ q).symm.trans J;cases e2;have:=Z.hm;unfold YaZ Ycn at this;rw[q] at this;cases this
 ca:=fun X ⟨_,I⟩ k=>Zil X I Z k
end
inductive TyX (K:Yab) (H:Hp):V->Yag->Prop where
 | of {v:V} {t:Yag} (h:TyOf K H v t):TyX K H v t
 | exc {e C:Yaq} {d:Option Yaq} (h:Hx H e C d) (hd:∀ da,d=some da->∃ o,H da=some o) (Z:ExcTy K C):TyX K H (.ref e) (.ref C)
def Zyh (K:Yab)(H:Hp)(t:Yag)(b:Bool)(c:V):Prop:=(∃ cv,Zm4 c cv/\YeG K t cv=some b)\/∃ p vs z,c=.ref p/\H p=some (.tup vs)/\YcX Zm4 vs z/\YeH K t z=some b
def Zno (K:Yab):List V->Hp->VK->Prop:=fun xs H Q=>∃ y c t b,xs=[y,c]/\TyX K H y t/\Zyh K H t b c/\Q (.bl b) H
section
variable {X:Cx}
def ZgY (h:Zm4 c cv)(r:RelV c u):u=cv:=by
 cases c<;>simp only[Zm4] at h<;>first|(subst h;exact r)|exact h.elim
theorem ZgF:∀ {vs:List V} {z us:List Yag},YcX Zm4 vs z->Vals vs us->us=z
 | _,_,_,.nil,.nil=>rfl
 | _,_,_,.cons h t,.cons r q=>by rw[ZgY h r,ZgF t q]
def ZpX (I:Inv X pins σ H s)(h:Hx H e C d)(z:∀ da,d=some da->∃ o,H da=some o):∃ odo,Zx3 e C odo s.heap:=by
 obtain ⟨ob,_,h⟩:=h;obtain ⟨_,⟨o,vs,a,b,c,dd⟩,_⟩:=(show ObjOk X.prog X.w H s.heap e (.frz ob (.ext (Za1 e C d))) from I.hok e _ h);have no:YeI o=true:=by unfold YeI;rw[c]
 cases d with
 | none=>exact ⟨none,o,a,b,no,by rw[dd];trivial⟩
 | some da=>
  obtain ⟨ho,q⟩:=z da rfl;obtain ⟨ob,J⟩:=ZeH I.hok q;exact ⟨some ob,o,a,b,no,by rw[dd];exact J⟩
def ZhN (K:Yab)(hK:X.K=K):CallR X (.builtin "isinstance") (Zno K):=by
 subst hK;intro pins s σ H xs us Q I r h;obtain ⟨y,c,t,b,rfl,ty,ca,q⟩:=h;cases r with
 | cons r1 r2=>
  cases r2 with
  | cons r2 r3=>
   cases r3;rename_i U u2;have fin:∀ tk,EP X pins σ Q (.bool b) { s with toks:=tk }:=fun tk=>⟨.bl b,H,I.tok tk,rfl,q⟩
   have Y:∀ (T:Yag) (Hx:YbO->Prop),PySem.W.KitX X.K U T Hx->Hx s.heap->T=t->U≠.builtin "__main__.__loader__#opaque"->YaF (YaJ X.prog X.w) X.A (call (.builtin "isinstance") [U,u2]) (EP X pins σ Q) X.xe s:=by
    intro T Hx kx hx et ne;subst et;rcases ca with ⟨cv,hc,hk⟩|⟨p,vs,ac,rfl,hp,hv,hk⟩
    ·rw[ZgY hc r2];exact PySem.W.kia_one kx I.kIn hx hk ne fin
    ·obtain rfl:u2=Yay p:=r2;obtain ⟨_,its,rv,⟨o,h1,h2,n,h3⟩⟩:=(show ObjOk X.prog X.w H s.heap p (.tup vs) from I.hok p _ hp);obtain ⟨oc,od,dt,sl⟩:=o;dsimp only at h2 h3;subst h2 h3;have:=ZgF hv rv;subst this;exact PySem.W.kia_tup kx I.kIn hx h1 hk ne fin
   cases ty with
   | exc h hd Z=>
    rename_i e C d;obtain ⟨odo,hx⟩:=ZpX I h hd;cases (show U=Yay e from r1);exact Y _ _ (Zk5 Z) hx rfl (fun z=>nomatch z)
   | of h=>
    cases h with
    | non=>cases (show U=Ya5 from r1);exact Y _ _ PySem.W.kitx_none YbU rfl (fun z=>nomatch z)
    | bl y=>cases (show U=YcW y from r1);exact Y _ _ PySem.W.kitx_bool YbU rfl (fun z=>nomatch z)
    | int i=>obtain ⟨t,q⟩:=(show ∃ t,U=Yej i t from r1);cases q;exact Y _ _ PySem.W.kitx_int YbU rfl (fun z=>nomatch z)
    | str y=>obtain ⟨t,q⟩:=(show ∃ t,U=YdV y t from r1);cases q;exact Y _ _ PySem.W.kitx_str YbU rfl (fun z=>nomatch z)
    | flt y=>obtain ⟨t,q⟩:=(show ∃ t,U=Yag.float y t from r1);cases q;exact Y _ _ PySem.W.kitx_float YbU rfl (fun z=>nomatch z)
    | @lst a xs ea=>
     cases (show U=Yay a from r1);obtain ⟨_,_,n,_,h1⟩:=(show ObjOk X.prog X.w H s.heap a (.lst xs) from I.hok a _ ea);exact Y _ _ PySem.W.kitx_list ⟨_,h1,rfl⟩ rfl (fun z=>nomatch z)
    | @frz a ob xs ea=>
     cases (show U=Yay a from r1);obtain ⟨_,_,_,n,_,h1⟩:=(show ObjOk X.prog X.w H s.heap a (.frz ob (.lst xs)) from I.hok a _ ea);exact Y _ _ PySem.W.kitx_list ⟨_,h1,rfl⟩ rfl (fun z=>nomatch z)
    | @tup a xs ea=>
     cases (show U=Yay a from r1);obtain ⟨_,_,_,p⟩:=(show ObjOk X.prog X.w H s.heap a (.tup xs) from I.hok a _ ea);obtain ⟨o,h1,h2,_⟩:=p;exact Y _ _ PySem.W.kitx_tuple ⟨o,h1,h2⟩ rfl (fun z=>nomatch z)
    | @dK a kvs ea=>
     cases (show U=Yay a from r1);obtain ⟨_,_,vs,_,p⟩:=(show ObjOk X.prog X.w H s.heap a (.dK kvs) from I.hok a _ ea);obtain ⟨o,es,ep,h1,h2,_⟩:=p;exact Y _ _ PySem.W.kitx_dict ⟨o,h1,h2.1⟩ rfl (fun z=>nomatch z)
    | @dT a kvs ea=>
     cases (show U=Yay a from r1);obtain ⟨_,_,xs,_,o,es,ep,h1,h2,_⟩:=(show ObjOk X.prog X.w H s.heap a (.dT kvs) from I.hok a _ ea);exact Y _ _ PySem.W.kitx_dict ⟨o,h1,h2.1⟩ rfl (fun z=>nomatch z)
    | @ins a C dx fs ea cl ha hn aa hm=>
     cases (show U=Yay a from r1);obtain ⟨mA,O,_⟩:=Zea I.hok ea;obtain ⟨od,J,_⟩:=O.look;exact Y _ _ (PySem.W.kitx_own (cl.get _) cl.hd ha hn aa hm) J rfl (fun z=>nomatch z)
end
noncomputable def tyX (h:Mem):W->Option Ty
 | .exc c _ _=>some (.inr c)
 | w=>tyN h w
noncomputable def Zrp:W->Option Ty
 | .cls c=>some (.inr c)
 | .ty n=>some (.inl n)
 | _=>none
def Zie (z:Kit)(t:Ty):List W->Option Bool
 | []=>some false
 | w::r=>(Zrp w).bind fun I=>(z.get t I).bind fun b=>(Zie z t r).bind fun J=>some (b || J)
def ZmG (z:Kit)(h:Mem):List W->Option W
 | [w,.ty n]=>(tyX h w).bind fun t=>(z.get t (.inl n)).map .bl
 | [w,.cls c]=>(tyX h w).bind fun t=>(z.get t (.inr c)).map .bl
 | [w,.tup (c::cs)]=>(tyX h w).bind fun t=>(Zie z t (c::cs)).map .bl
 | _=>none
def ZlW (K:Yab)(T:CTb):Prop:=∀ c C,T.x c=some C->T c=none/\ExcTy K C
def Zjr (e:Zrp w=some cn)(r:RW T φ H w v)(h:TV T cn cv):Zm4 v cv:=by
 cases w with
 | cls c=>
  cases e;unfold RW at r;obtain ⟨C,a,rfl⟩:=r;obtain ⟨z,b,rfl⟩:=h;rw[a] at b;cases b;rfl
 | ty n=>
  cases e;unfold RW at r;subst r;exact h
 | _=>cases e
theorem ZhO {K:Yab}{T:CTb}{J:Kit}(Y:ZjX K T J){t:Ty}{tv:Yag}(U:∀ z,TV T t z->z=tv){φ:List Yaq}{H:Hp}:∀ {ws:List W} {vs:List V} {b:Bool},Zie J t ws=some b->RWs T φ H ws vs->∃ I,YcX Zm4 vs I/\YeH K tv I=some b
 | [],vs,b,e,r=>by
  unfold RWs at r;subst r;cases e;exact ⟨[],.nil,rfl⟩
 | w::ws,vs,b,e,r=>by
  unfold RWs at r;obtain ⟨v,vr,rfl,r1,r2⟩:=r;unfold Zie at e;rw[Yaw] at e;obtain ⟨cn,hw,e⟩:=e;rw[Yaw] at e;obtain ⟨b0,g,e⟩:=e;rw[Yaw] at e;obtain ⟨b2,g2,e⟩:=e;cases e;obtain ⟨z,cv,h1,h2,h3⟩:=Y _ (Kit.mem g);rw[U z h1] at h3;obtain ⟨I,p,q⟩:=ZhO Y U (ws:=ws) g2 r2;refine ⟨cv::I,.cons (Zjr hw r1 h2) p,?_⟩;unfold YeH;rw[h3];cases b0 with
  | true=>rfl
  | false=>simpa using q
def ZmV {K:Yab}{T:CTb}(hI:ZeI K T)(hE:ZlW K T){φ:List Yaq}{H:Hp}{h:Mem}{w:W}{v:V}{t:Ty}(r:RH T φ h H)(x:RW T φ H w v)(e:tyX h w=some t){tv:Yag}(I:TV T t tv):TyX K H v tv:=by
 cases w with
 | exc c fs ws=>
  cases e;unfold RW at x;obtain ⟨p,C,d,vs,rfl,_,J,Y,_,c3,_⟩:=x;obtain ⟨C',c4,rfl⟩:=I;obtain ⟨U,Z⟩:=hE c C J;have:T.any c=some C:=by unfold CTb.any;rw[show T.t c=none from U];dsimp only;rw[J]
  rw[this] at c4;cases c4;refine .exc Y (fun da z=>?_) Z;subst z;exact ⟨_,c3.2⟩
 | _=>exact .of (Zua hI r x e I)
def Zrb (h:TV T t a)(k:TV T t b):b=a:=by
 cases t with
 | inl n=>rw[show a=.type n from h,show b=.type n from k]
 | inr c=>
  obtain ⟨C,x,rfl⟩:=h;obtain ⟨z,y,rfl⟩:=k;rw[x] at y;cases y;rfl
def Zpx {K:Yab}{T:CTb}{aa:Kit}(hI:ZeI K T)(hE:ZlW K T)(hk:ZjX K T aa):CbW T (ZmG aa) (Zno K):=by
 intro φ h H ws vs w Q r x e k;have one:∀ (a:W) (u I:V) (cn:Ty),(tyX h a).bind (fun t=>(aa.get t cn).map W.bl)=some w->RW T φ H a u->(∀ cv,TV T cn cv->Zm4 I cv)->Zno K [u,I] H Q:=by
  intro a u I cn e ra hc;rw[Yaw] at e;obtain ⟨t,q,e⟩:=e;rw[Yar] at e;obtain ⟨b,J,rfl⟩:=e;obtain ⟨tv,cv,h1,h2,h3⟩:=hk _ (Kit.mem J);exact ⟨u,I,tv,b,rfl,ZmV hI hE r ra q h1,.inl ⟨cv,hc cv h2,h3⟩,Zaj r Zek k⟩
 unfold ZmG at e;split at e
 ·rename_i w1 n;unfold RWs at x;obtain ⟨v1,r1,rfl,x1,Y⟩:=x;unfold RWs at Y;obtain ⟨v2,r2,rfl,x3,U⟩:=Y;unfold RWs at U;subst U;exact one _ _ _ (.inl n) e x1 fun cv h=>Zjr rfl x3 h
 ·rename_i w1 n;unfold RWs at x;obtain ⟨v1,r1,rfl,x1,Y⟩:=x;unfold RWs at Y;obtain ⟨v2,r2,rfl,x3,U⟩:=Y;unfold RWs at U;subst U;exact one _ _ _ (.inr n) e x1 fun cv h=>Zjr rfl x3 h
 ·rename_i w1 c0 cs;unfold RWs at x;obtain ⟨v1,r1,rfl,x1,Y⟩:=x;unfold RWs at Y;obtain ⟨v2,r2,rfl,x3,U⟩:=Y;unfold RWs at U;subst U;rw[Yaw] at e;obtain ⟨t,q,e⟩:=e;rw[Yar] at e;obtain ⟨b,J,rfl⟩:=e;have ae:=J;unfold Zie at J;rw[Yaw] at J;obtain ⟨cn,hw,J⟩:=J;rw[Yaw] at J;obtain ⟨b0,g,_⟩:=J;obtain ⟨tv,cv,h1,_,_⟩:=hk _ (Kit.mem g);unfold RW at x3;obtain ⟨p,us,rfl,_,hp,af⟩:=x3;obtain ⟨ac,pr,ka⟩:=ZhO hk (fun ag z=>Zrb h1 z) ae af;exact ⟨v1,_,tv,b,rfl,ZmV hI hE r x1 q h1,.inr ⟨p,us,ac,rfl,hp,pr,ka⟩,Zaj r Zek k⟩
 ·cases e
def Zfh:V->List V->Hp->VK->Prop:=fun x vs H Q=>match x,vs with
 | .ref p,[.bl k]=>ZaZ (Zam H p) fun xs=>ZaZ (Za8 xs) fun bs=>Q (.int (bs.count k:Nat)) H
 | _,_=>False
theorem ZcV:∀ {bs:List Bool} {us:List Yag},Vals (bs.map V.bl) us->us=bs.map YcW
 | [],us,h=>by cases h;rfl
 | b::bs,us,h=>by
  cases h with
  | cons r h=>rw[show _=YcW b from r,ZcV h];rfl
theorem ZdK (h:YbO):∀ bs:List Bool,∃ z,ReadsAll h (bs.map YcW) (bs.map PyData.bool) z
 | []=>⟨_,.nil⟩
 | b::bs=>by
  obtain ⟨z,r⟩:=ZdK h bs;exact ⟨_,.cons (.bool b) r⟩
theorem ZdE (k:Bool):∀ bs:List Bool,Ye2 (.bool k) (bs.map PyData.bool)=(bs.count k:Nat)
 | []=>rfl
 | b::bs=>by
  show (if Yae.same (.bool b) (.bool k) then (1:Int) else 0)+Ye2 (.bool k) (bs.map PyData.bool)=_;rw[ZdE k bs,List.count_cons];cases b<;>cases k<;>simp[Yae.same]<;>omega
section
variable {X:Cx}
def ZhQ:MtM X "list.count" Zfh:=by
 intro pins s σ H x vs v us Q I rx J h;unfold Zfh at h;split at h
 ·rename_i p k;obtain ⟨xs,Y,h⟩:=Zak h;obtain ⟨bs,e2,q⟩:=Zak h;cases rx;obtain ⟨u,rfl,ru⟩:=J.one;cases ru;obtain ⟨its,r,pl,z⟩:=I.list (Zad (K:=X.K) Y);rw[ZbC e2] at r;have:=ZcV r;subst this;obtain ⟨as,U⟩:=ZdK s.heap bs;refine count_list_bools pl.isList U (by simp[Shape.has]) ?_;rw[ZdE];exact ⟨.int _,H,I.tok _,⟨_,rfl⟩,q⟩
 ·exact h.elim
end
def Zpq (op:Mem->W->List W->Option W)(f:Ex)(g:Exs):Ex:=fun ρ h=>(f ρ h).bind fun a h1=>match items h1 a with
 | some _=>(match g ρ h1 with
  | .ok ws h2=>.of (op h2 a ws) h2
  | .ex w h2=>.ex w h2
  | .no=>.no)
 | none=>.no
def Zdx (h:Mem)(a:W)(ws:List W):Option W:=match ws with
 | [.bl k]=>((items h a).bind ZdA).map fun bs=>.int (bs.count k:Nat)
 | _=>none
section
variable {X:Cx} {Z:Zc} {f:Ex} {fa:Exs} {o e:YaQ} {apos cpos:Pos} {T:CTb}
def Zm3 {op:Mem->W->List W->Option W}{r:V->List V->Hp->VK->Prop}(hw:BmW Z.T op r){K:Yab}{σ:St}{H:Hp}{Q:VK}(q:tH Z (Zpq op f fa) σ H Q):tBM K "list" r (tH Z f) (tHA Z fa) σ H Q:=by
 obtain ⟨φ,m,ρ,x,q⟩:=q;refine ⟨φ,m,ρ,x,?_⟩;unfold Zpq at q;rw[Zba] at q;refine q.mono fun a h1 z=>fun φ1 H1 u s1 r1 Y=>?_
 cases J:items h1 a with
 | none=>rw[J] at z;exact z.elim
 | some us=>
  rw[J] at z;obtain ⟨p,vs,rfl,q2,q3⟩:=Zay r1 Y J;refine ⟨.inl ⟨rfl,vs,Zad q2⟩,φ1,h1,ρ,x.step s1 r1,?_⟩;dsimp only at z;cases U:fa ρ h1 with
  | no=>rw[U] at z;exact z.elim
  | ex w h2=>rw[U] at z;exact z
  | ok ws h2=>
   rw[U] at z;intro φ2 H2 vs s2 r2 I;obtain ⟨w,e,k⟩:=ofP z;exact hw φ2 h2 H2 a _ ws vs w Q r2 (Y.step s2) I e (k.step (s1.trans s2)).end
def ZjQ:BmW T Zdx Zfh:=by
 intro φ h H a u ws vs w Q r I x e k;unfold Zdx at e;split at e
 ·rename_i b;rw[Yar] at e;obtain ⟨bs,e,rfl⟩:=e;rw[Yaw] at e;obtain ⟨us,J,Y⟩:=e;obtain ⟨v,rfl,U⟩:=Zas x;rw[Zby U];obtain ⟨p,vs,rfl,q1,z⟩:=Zay r I J;show ZaZ (Zam H p) _;rw[q1];show ZaZ (Za8 vs) _;rw[Zd8 z Y];exact Zaj r ZaD k
 ·cases e
def ZoO (ho:QE X Z o f)(ha:QA X Z [e] fa)(J:Ybb o "count" X.env (YbT o X.env)=YbT o X.env:=by rfl)
  (U:((Ya3 cpos (Yah [e] X.env)).all (fun x=>!x.1) && (Ycc cpos (Ybm [] X.env)).all (fun x=>x.1.isSome)
   && decide (([e]:List YaQ).length+([]:List Yb8).length+(if ([]:List Yb8).isEmpty then 0 else 1)<30))=true:=by rfl)
  (I:(apos.endLine == cpos.line)=true:=by rfl) (Y:Yah [e] X.env=(false,YbT e X.env)::Yah [] X.env:=by rfl) (z:(Ya3 cpos (Yah [] X.env)).any (·.1)=false:=by rfl) :
  QE X Z (.Call (.Attribute o "count" apos) [e] [] cpos) (Zpq Zdx f fa):=
 ⟨(Zg7 YbQ PySem.F.slot_list_count PySem.F.type_list_count ZhQ ho.pe ha.pa J U I Y z).imp fun σ H Q q=>Zm3 ZjQ q⟩
end
def Zcb (n m:Nat)(B:Sm):Fm:=fun ws h=>bif decide (ws.length=n) then (match ZhM m B ws h with
 | .ok w h'=>bif decide (h.length<=h'.length) then .ok w h' else .no
 | .ex w h'=>bif decide (h.length<=h'.length) then .ex w h' else .no
 | .no=>.no) else .no
def Zbp:Zkn n m B (Zcb n m B):=fun ws h J I=>by
 unfold Zcb;cases hz:decide (ws.length=n) with
 | false=>exact .inl rfl
 | true=>
  dsimp only[cond_true];cases e:ZhM m B ws h with
  | no=>exact .inl rfl
  | ok w h'=>
   dsimp only;cases z:decide (h.length<=h'.length) with
   | false=>exact .inl rfl
   | true=>exact .inr ⟨of_decide_eq_true hz,Zi6 (of_decide_eq_true z)⟩
  | ex w h'=>
   dsimp only;cases z:decide (h.length<=h'.length) with
   | false=>exact .inl rfl
   | true=>exact .inr ⟨of_decide_eq_true hz,Zps (of_decide_eq_true z)⟩
def Zd6 (z:ws.length=n)(e:ZhM m B ws h=.ok w h')(I:h.length<=h'.length):Zcb n m B ws h=.ok w h':=by
 unfold Zcb;rw[decide_eq_true z,e];simp[I]
section
variable {T:CTb}
noncomputable def Zqt:List W->List W->Option (W×List W):=fun xs ws=>match xs,ws with
 | x::r,[.int i]=>bif decide (i=0) then some (x,r) else none
 | _,_=>none
def Zpy:LmW T Zqt ZmB:=by
 intro φ h H n ws vs u xs ys w Q r ru rv e1 z k;obtain ⟨a,us,rfl,ea,y,rx⟩:=ZcR r ru e1;unfold Zqt at z;split at z
 ·rename_i x0 r0 i;cases hz:decide (i=0) with
  | false=>rw[hz] at z;cases z
  | true=>
   rw[hz] at z;obtain ⟨rfl,rfl⟩:x0=w/\r0=ys:=by simpa using z
   have hi:=of_decide_eq_true hz;subst hi;obtain ⟨v,rfl,J⟩:=Zas rv;rw[ZaO J];unfold RWs at rx;obtain ⟨Y,vr,rfl,U,I⟩:=rx;have ro:RO T φ H (.lst r0) (.lst vr):=⟨_,rfl,I⟩;have s3:=ZaF (H:=H) (ho:=.lst vr) (Yax ea) (ZeZ y);refine ⟨a,Y::vr,0,0,Y,rfl,rfl,y,by decide,by decide,?_,rfl,?_⟩
   ·simp[seqIndex?]
   ·exact k _ _ s3 (r.set ea ro) (U.step s3)
 ·cases z
end
section
variable {X:Cx} {Z:Zc} {f g:Ex} {fa:Exs} {o e a b:YaQ} {apos cpos pos:Pos}
def Zpu (ho:QE X Z o f)(ha:QA X Z [e] fa)(J:Ybb o "pop" X.env (YbT o X.env)=YbT o X.env:=by rfl)
  (U:((Ya3 cpos (Yah [e] X.env)).all (fun x=>!x.1) && (Ycc cpos (Ybm [] X.env)).all (fun x=>x.1.isSome)
   && decide (([e]:List YaQ).length+([]:List Yb8).length+(if ([]:List Yb8).isEmpty then 0 else 1)<30))=true:=by rfl)
  (I:(apos.endLine == cpos.line)=true:=by rfl) (Y:Yah [e] X.env=(false,YbT e X.env)::Yah [] X.env:=by rfl) (z:(Ya3 cpos (Yah [] X.env)).any (·.1)=false:=by rfl) :
  QE X Z (.Call (.Attribute o "pop" apos) [e] [] cpos) (xLm Zqt f fa):=
 ⟨(Zg7 YbQ PySem.F.slot_list_pop PySem.F.type_list_pop ZkF ho.pe ha.pa J U I Y z).imp fun σ H Q q=>ZsN Zpy q⟩
end
def ZmW (K:Yab)(C:Yaq):Bool:=match K.lookup C with
 | some ⟨.type "type",_,.cls z,sl⟩=>(match z.mro,sl.toList with
  | .ref I::bm,[_,_,_,_,some (.builtin n),_]=>I == C && (n == "ValueError.__new__" && (!z.hasDel && PySem.W.tailIn K bmV bm))
  | _,_=>false)
 | _=>false
def ZfF {K:Yab}{h:YbO}{C:Yaq}(X:K.In h)(q:ZmW K C=true):∃ bm N nm J bs I sn sub ab col dd k0 k1 k2 k3 k5,h.get? C=some (YcF nm J C N bs bm I sn sub ab col dd k0 k1 k2 k3 k5 "ValueError.__new__")/\OwnTail h bmV bm:=by
 unfold ZmW at q;split at q
 ·rename_i dd cd sl ho;split at q
  ·rename_i C' bm k0 k1 k2 k3 n k5 Y U;simp only[Yaa,beq_iff_eq,Ya0] at q;obtain ⟨rfl,rfl,z,ht⟩:=q;obtain ⟨nm,bs,aa,ns,J,I,sn,sub,ab,col,ac⟩:=cd;dsimp only at Y z;subst Y z;obtain ⟨l⟩:=sl;dsimp only at U;subst U;exact ⟨bm,ns,nm,J,bs,I,sn,sub,ab,col,dd,k0,k1,k2,k3,k5,X _ _ ho,PySem.W.tail_of_in X ht⟩
  ·cases q
 ·cases q
noncomputable abbrev Zb5 (us:List Yag):Obj:={ cls:=.type "tuple",data:=.seq us.toArray }
noncomputable abbrev newExc (C t:Yaq)(d:Option Yaq):Obj:={ cls:=.ref C,dict:=d,data:=.fields #[.ref t,.none,.none,.none,.bool false,.none] }
section
variable {prog:YaN} {w:Ybg} {A:Ybr} {K:Yab} {C f:Yaq} {R:Result->Yaj->Prop} {h:YbO} {g:Array GenState} {d:Drawn} {t:Nat} {os:OsState}
def ZiW {rest:List Yag}(X:K.In h)(q:ZmW K C=true)(hi:Yao K (.ref C) "__init__"=some (some (.ref f)))(hf:YcS K (.ref f)=some (.type "function"))(J:rest.length<=Yai)
  (hq:Ydi (YaJ prog w) (A.under (.builtin "type.__call__" ⟨.ref C::rest,[]⟩)) (.call (.ref f) ⟨.ref (h.objs.size+1)::rest,[]⟩) (PySem.W.InitBack (h.objs.size+1) R) ⟨(h.push (Zb5 rest)).push (newExc C h.objs.size none),g,d,t,os⟩) :
  Ydi (YaJ prog w) A (.call (.ref C) ⟨rest,[]⟩) R ⟨h,g,d,t,os⟩:=by
 obtain ⟨bm,N,nm,qn,bs,hd,sn,sub,ab,col,dd,k0,k1,k2,k3,k5,hC,T⟩:=ZfF X q;have F:=YbH;have f1:=tc_lookup;have f2:=tc_bind (.ref C);have hT:(⟨h,g,d,t,os⟩:Yaj).TypeIs (.ref C) "type":=⟨_,hC,rfl⟩;refine codeAny_of_tree ?_;show YaF _ _ (callAny (.ref C) _) _ _ _
 repeat (any_goals (first | assumption | with_reducible refine Ybx hC ?_ | wp_step))
 refine ⟨rfl,?_⟩;refine codeAny_call_builtin_at (Code.quiet_builtin _ (by decide +kernel)) entry_typeCall (wpAny_check_type_call_sub hC ?_)
 repeat (first | with_reducible refine Ybx hC ?_ | with_reducible refine wpAny_madeBy_exc hC ?_ | wp_step)
 refine codeAny_call_builtin_code (Code.quiet_builtin _ F.quiet) (wpAny_check_new_subT F T hC ?_);refine codeAny_exc_new_subT F T hC ?_ J;show YaF _ _ _ _ _ ⟨(h.push (Zb5 rest)).push (newExc C h.objs.size none),g,d,t,os⟩;have k:∀ b o,h.get? b=some o->((h.push (Zb5 rest)).push (newExc C h.objs.size none)).get? b=some o:=fun b o e=>Yad _ (Yad _ e)
 have I:=k _ _ hC;have U:((h.push (Zb5 rest)).push (newExc C h.objs.size none)).get? (h.objs.size+1)=some { cls:=.ref C,dict:=none,data:=.fields #[.ref h.objs.size,.none,.none,.none,.bool false,.none] }:=by heap_get
 have Y:(Yay C::bm).contains (.ref C)=true:=by simp
 unfold isInstance
 repeat (first | with_reducible refine Ybx U ?_ | (refine YcU I ?_;rw[Y]) | wp_step)
 show YaF _ _ (typeLookup (.ref C) _) _ _ _;refine ((Ycb X hi).keeps k).at ?_;refine Ybp (Yac (((PySem.W.bind_fn X _ hf).keeps k).at ?_));refine Yac (YcY (YcA hq fun r s' z=>?_));rcases r with e|(v|_|_|_)<;>first|exact z|exact z.elim|skip
 obtain ⟨rfl,z⟩:=z;exact Yat (Yat z)
end
section
variable {M:Model} {A:Ybr} {E:Yag->Yaj->Prop} {C:Yaq} {env:Env} {nm q:Str} {N:Yaq} {bs bm:List Yag} {hdct:Bool} {sn:List Str} {sub:List Yag} {ab:Bool} {col:Option Bool} {dd:Option Yaq} {k0 k1 k2 k3 k5:Option Yag} {newId:String}
def ZbX (I:bm.contains (.type "BaseException")=true)(Y:A.handled=none)
  (h:YaF M A x (fun v z=>∃ e t d,v=.ref e/\z.heap.get? C=some (YcF nm q C N bs bm hdct sn sub ab col dd k0 k1 k2 k3 k5 newId) /\
   z.heap.get? e=some { cls:=.ref C,dict:=d,data:=.fields #[.ref t,.none,.none,.none,.bool false,.none] }/\E (.ref e) z) E s) :
  YaF M A (raiseStmt env (some x) none) Q E s:=by
 have U:(Yay C::bm).contains (.type "BaseException")=true:=by rw[YdR,I,Bool.or_true]
 unfold raiseStmt;refine Yac (Ya6 h (fun v z J=>?_) fun _ _ x=>x);obtain ⟨e,t,d,rfl,hC,he,hE⟩:=J;obtain ⟨hp,g,dr,tk,os⟩:=z
 repeat (first | with_reducible refine Ybx he ?_ | with_reducible refine Ybx hC ?_ | (with_reducible refine YcU hC ?_;rw[U]) | wp_step)
 exact wpAny_raiseNew_none Y hE
end
section
variable {prog:YaN} {w:Ybg} {A:Ybr} {E:Yag->Yaj->Prop} {K:Yab} {C e t0:Yaq} {h:YbO} {g:Array GenState} {d:Drawn} {t:Nat} {os:OsState}
def ZiO (X:K.In h)(q:ZmW K C=true)(z:h.get? e=some (newExc C t0 none))(U:us.length<=Yai)
  (J:∀ h' t',h'.get? e=some (newExc C t' none)->(∀ b o,b≠e->h.get? b=some o->h'.get? b=some o)->Q .none ⟨h',g,d,t,os⟩) :
  YaF (YaJ prog w) A (call (.builtin "ValueError.__init__") (.ref e::us)) Q E ⟨h,g,d,t,os⟩:=by
 obtain ⟨bm,N,nm,qn,bs,hd,sn,sub,ab,col,dd,k0,k1,k2,k3,k5,hC,T⟩:=ZfF X q;have F:=YbH;have z:h.get? e=some { cls:=.ref C,dict:=none,data:=.fields #[.ref t0,.none,.none,.none,.bool false,.none] }:=z;have lt:e<h.objs.size:=Yal z;refine YcY (Ydv F.init.plain F.initEntry (wpAny_check_init_subT F T hC z rfl ?_))
 wp_walk
 refine J _ h.objs.size ?_ fun b o I Y=>?_
 ·rw[Ya8 _ (Yad _ z) rfl];rfl
 ·rw[YaW _ _ (YbW I)];exact Yad _ Y
end
open PySem PySem.Spec PyProof.Rows L2 PySem.Builtin.ObjectAttr
def Zbg:List Yag->Bool
 | .ref _::r=>Zbg r
 | l=>l == bmV
theorem Zet:∀ {l:List Yag},Zbg l=true->l=bmV\/∃ c r,l=.ref c::r/\Zbg r=true
 | [],e=>by cases (beq_iff_eq.mp (show (([]:List Yag) == bmV)=true from e))
 | v::r,e=>by
  by_cases z:∃ c,v=.ref c
  ·obtain ⟨c,rfl⟩:=z;exact .inr ⟨c,r,rfl,by unfold Zbg at e;exact e⟩
  ·have I:(v::r == bmV)=true:=by
    cases v<;>first|(unfold Zbg at e;exact e)|exact absurd ⟨_,rfl⟩ z
   exact .inl (beq_iff_eq.mp I)
theorem ZeG (z:Yag):∀ (n:Nat) {l:List Yag},l.length<=n->Zbg l=true->refuseLoop z "__setattr__" l=pure ()
 | n,l,I,e=>by
  rcases Zet e with rfl|⟨c,r,rfl,J⟩
  ·exact PySem.F.store_ValueError.passes z
  ·rw[refuseLoop_ref];cases n with
   | zero=>simp at I
   | succ n=>exact ZeG z n (by simpa using I) J
theorem ZjY:∀ {l:List Yag},Zbg l=true->l.contains (.type "object")=true
 | .ref c::r,e=>by rw[YdR,ZjY (l:=r) (by unfold Zbg at e;exact e),Bool.or_true]
 | [],e=>by cases (beq_iff_eq.mp (show (([]:List Yag) == bmV)=true from e))
 | v::r,e=>by
  by_cases z:∃ c,v=.ref c
  ·obtain ⟨c,rfl⟩:=z;rw[YdR,ZjY (l:=r) (by unfold Zbg at e;exact e),Bool.or_true]
  ·have I:(v::r == bmV)=true:=by
    cases v<;>first|(unfold Zbg at e;exact e)|exact absurd ⟨_,rfl⟩ z
   rw[beq_iff_eq.mp I];rfl
def Zjq (K:Yab)(C:Yaq):Bool:=(Ycn K C).any fun z=>Zbg z.mro
section
variable {prog:YaN} {w:Ybg} {A:Ybr} {E:Yag->Yaj->Prop} {K:Yab} {C e t0:Yaq} {s:Yaj} {name:Str} {v:Yag}
def Zqa (X:K.In s.heap)(I:s.heap.get? e=some (newExc C t0 none))(hs:Yao K (.ref C) "__setattr__"=some (some (.builtin "object.__setattr__")))(hp:Zjq K C=true)
  (ht:Ycx K C name=some none) (hh:Ybd K C=true)
  (hq:∀ h' ai,h'.get? e=some (newExc C t0 (some s.heap.objs.size))->h'.Ns1 s.heap.objs.size (fun y=>if y=name then some v else none)->(∀ b o,b≠e->s.heap.get? b=some o->h'.get? b=some o)->Q () { s with heap:=h',toks:=ai }) :
  YaF (YaJ prog w) A (setAttr (.ref e) name v) Q E s:=by
 have J:YcR s.heap e (newExc C t0 none) C none:=⟨I,rfl,rfl,trivial⟩;refine PySem.W.set_plain X J hs ?_;obtain ⟨z,g,d,t,os⟩:=s;have SF:=PySem.F.store_object;obtain ⟨cd,hc,ho⟩:=Yec hp;have ne:cd.mro.isEmpty=false:=by cases q:cd.mro with|nil=>rw[q] at ho;cases ho|cons _ _=>rfl
 have sub:Ye3 (YaJ prog w) z (isInstance (.ref e) (.type "object")) true:=J.type.andThen (YeQ X (by unfold YaZ;rw[hc,YaH,if_neg (by rw[ne];decide),ZjY ho]));refine Ydv SF.slot.plain SF.entry (@PySem.W.check_slot (YaJ prog w) _ _ ⟨z,g,d,t+1,os⟩ "object.__setattr__" "object" "__setattr__" (.ref e) [.str name t,v] [] _ SF.kind SF.split sub (SF.args (.ref e) (.str name t) v) ?_);obtain ⟨U,ha,hr⟩:=Yaw.mp ht;have hm:Ye3 (YaJ prog w) z (mroOf (.ref C)) cd.mro:=(YdD X hc).andThen .now;have L3:Ye3 (YaJ prog w) z (storeTaker? U) none:=by
  cases U with
  | none=>exact .now
  | some a=>
   obtain ⟨b,hb,hz⟩:=Yar.mp hr;refine (PySem.W.looks_takesIn X hb).andThen ?_;cases b
   ·exact .now
   ·cases hz
 rw[PySem.W.osa_eq,refuse_eq];refine Yac (Yac (J.type.at (Yac (hm.at ?_))));rw[ZeG _ _ (Yak _) ho];refine Yat (Yac (J.type.at (Yac ((Ycb X ha).at (Yac (L3.at ?_))))));obtain ⟨ap,ak,ag⟩:=Yec hh;show YaF _ _ (storeInOwnDict (.ref e) (.ref C) (.str name t) name v _) _ _ _;unfold storeInOwnDict ownDictForStores instanceDict;have I:z.get? e=some { cls:=.ref C,dict:=none,data:=.fields #[.ref t0,.none,.none,.none,.bool false,.none] }:=I;refine Yac (Yat (Yac (Yac (Ybx I (Yac ((YdD X ak).at ?_))))));rw[ag];show YaF _ _ (if (!true || !typeHasDict (.ref C))=true then pure none else do
   let d <- alloc { cls:=.type "dict",data:=.dict #[] }
   update e fun o=>{ cls:=o.cls,dict:=some d,data:=o.data,slots:=o.slots }
   dictMade (.ref C) e d) _ _ _
 rw[if_neg (by simp[typeHasDict])];have ac:(z.push { cls:=.type "dict",data:=.dict #[] }).get? e=some { cls:=.ref C,dict:=none,data:=.fields #[.ref t0,.none,.none,.none,.bool false,.none] }:=Yad _ I;have Y:e≠z.objs.size:=YaK (Yal I);refine Yac (wpAny_alloc' (Yac (wpAny_update' ac (Yat ?_))));have al:((z.push { cls:=.type "dict",data:=.dict #[] }).update e fun o=>{ cls:=o.cls,dict:=some z.objs.size,data:=o.data,slots:=o.slots }).get? z.objs.size
   = some { cls:=.type "dict",data:=.dict #[] }:=
  (Ybi _ _ _ _ Y.symm).trans (YbO.get?_push_at rfl rfl)
 have am:((z.push { cls:=.type "dict",data:=.dict #[] }).update e fun o=>{ cls:=o.cls,dict:=some z.objs.size,data:=o.data,slots:=o.slots }).Ns z.objs.size (fun _=>none):=
  ⟨_,#[],_,al,rfl,fun e I=>absurd I (by simp),fun _=>rfl⟩
 show YaF _ _ (storeInDict z.objs.size (.str name t) name v) _ _ _;unfold storeInDict newKeyGuard;refine Yac (Yat (Yac (wpAny_nsSet1 (YbO.Ns1.of_empty am) fun h' aa hs=>?_)));obtain ⟨oD,aq,ao,aj,ae,ah⟩:=aa.count (Ye6 name v Yfd.nil);refine Yac (wpAny_lookBehind aj (by rw[ae];exact pastItsLine_dict (YbE ah (by rw[Ya4,Yc6,Ybj];omega))) ?_);refine Yat ?_;refine hq h' _ ?_ aa fun b ob af hb=>?_
 ·exact (hs.2 e Y).trans (Ya8 _ ac rfl)
 ·exact (hs.2 b (YaK (Yal hb))).trans ((Ybi _ _ _ _ af).trans (Yad _ hb))
end
def ZeP (e C:Yaq)(d:Option Yaq)(h:YbO):Prop:=∃ t,h.get? e=some (newExc C t d)
def ZbB:∀ h1 h2:YbO,ZeP e C d h1->(∀ o,h1.get? e=some o->h2.get? e=some o)->ZeP e C d h2:=fun _ _ ⟨t,z⟩ k=>⟨t,k _ z⟩
def ZlP (h:H e=some o):upd H e o=H:=by
 funext b;unfold upd;split
 ·rename_i z;subst z;exact h.symm
 ·rfl
section
variable {X:Cx} {pins:List (Yaq×Obj)} {σ:St} {H:Hp} {s:Yaj} {e:Yaq}
def ZnO (I:Inv X pins σ (upd H e (.ext φ)) s)(Y:H e=none):Inv X pins σ H s:=by
 have nn:∀ b,upd H e (.ext φ) b=none->H b=none:=fun b q=>by
  by_cases z:b=e
  ·subst z;exact Y
  ·rwa [Zab z] at q
 have J:∀ b u,upd H e (.ext φ) b=some u->u≠.ext φ->H b=some u:=fun b u q n=>by
  by_cases z:b=e
  ·subst z;rw[Zae] at q;cases q;exact absurd rfl n
  ·rwa [Zab z] at q
 refine ⟨I.ok,I.os,I.bare,⟨I.base.keep,I.base.slot,fun b ob q n hx=>nn b (I.base.free b ob q n hx),I.base.there,fun b xs q=>J b _ (I.base.tups b xs q) (by simp),fun b ob xs q=>J b _ (I.base.frzs b ob xs q) (by simp),fun b ps q=>?_⟩,I.loc,I.cell,nn _ I.free,fun x c q=>nn _ (I.freeC x c q),fun p hp=>?_,fun b u q=>?_,I.len⟩
 ·obtain ⟨more,this⟩:=I.base.tbls b ps q;exact ⟨more,J b _ this (by simp)⟩
 ·obtain ⟨e1,n,U,nf,d⟩:=I.pin p hp;exact ⟨e1,nn _ n,U,nf,d⟩
 ·have q':upd H e (.ext φ) b=some u:=by rw[Zab (Zag q Y)];exact q
  exact (I.hok b u q').stay (fun c v _ r=>r) (fun c r=>J c _ r (by simp)) fun c xs r=>J c _ r (by simp)
end
structure IniOk (K:Yab)(C:Yaq)(F:Str):Prop where
 ei:ZmW K C=true
 sa:Yao K (.ref C) "__setattr__"=some (some (.builtin "object.__setattr__"))
 ov:Zjq K C=true
 tk:Ycx K C F=some none
 hd:Ybd K C=true
structure BaseOk (K:Yab)(D:Yaq):Prop where
 ex:∃ mc,Ybl K (.ref D) "__getattribute__"=some (some (.builtin "type.__getattribute__"))/\YdH K D mc=true/\YdI K (.ref D) mc "__init__"=some (.val (.builtin "ValueError.__init__"))
noncomputable def ZxB (C:Yaq)(t:TA):TE:=fun σ H Q=>t σ H fun vs H1=>∃ e v,vs=[.ref e,v]/\H1 e=some (.ext (ZeP e C none))/\Q .non H1
def Zxy (C:Yaq)(F:Str)(ta tv:TE):TS:=fun D σ H=>tv σ H fun y H1=>ta σ H1 fun x H2=>∃ e,x=.ref e/\H2 e=some (.ext (ZeP e C none)) /\
 ∀ da,H2 da=none->da≠e->D.nx σ (upd (upd H2 e (.ext (ZeP e C (some da)))) da (.xd [(F,y)]))
section
variable {X:Cx} {C D:Yaq} {F c:Str} {e0:YaQ} {es:List YaQ} {t:TA} {ta tv:TE} {o value:YaQ} {pos pos' apos p:Pos}
def ZmM (hB:BaseOk X.K D)(hq:ZmW X.K C=true)(hm:X.mg c=some (.ref D))(hg:Gl X c)(ha:PA X (e0::es) t)(Y:(c == ("__debug__":Str))=false:=by decide)
  (ac:Yah (e0::es) X.env=(false,YbT e0 X.env)::Yah es X.env:=by rfl) (aa:(Ya3 pos (Yah es X.env)).any (·.1)=false:=by rfl)
  (ae:YbT (.Call (.Attribute (.Name c p) "__init__" apos) (e0::es) [] pos) X.env=(do
   let ov <- YbT (.Name c p) X.env
   Yd7 apos.atName
   let (f,first) <- Yd8 [ov] (YdY ov "__init__" pl)
   Ye0 pos f first (Ya3 pos (Yah (e0::es) X.env)) (Ycc pos (Ybm [] X.env))):=by rfl):PE X (.Call (.Attribute (.Name c p) "__init__" apos) (e0::es) [] pos) (ZxB C t):=by
 intro pins s σ H Q I h;obtain ⟨mc,h1,h2,h3⟩:=hB.ex;refine YcE (pl:=pl) (ZaY I hg hm ?_ Y) ae;refine PySem.W.method_cls I.kIn h1 (PySem.W.cls_value I.kIn h2 h3 rfl ?_);have hA:=ha pos pins _ σ H _ (I.tok (s.toks+1)) h;rw[ac] at hA ⊢;refine Ydd (by show (false || (Ya3 pos (Yah es X.env)).any (·.1))=false;rw[aa]<;>rfl) (Ycd ?_);refine thn hA fun us s2 zq=>?_
 obtain ⟨vs,H2,I2,r,e,v,ev,ee,q2⟩:=zq;subst ev;obtain ⟨U,u2,rfl,r1⟩:∃ U u2,us=[U,u2]/\RelV (.ref e) U:=by
  cases r with
  | cons r1 r2=>
   cases r2 with
   | cons r2 r3=>cases r3;exact ⟨_,_,rfl,r1⟩
 obtain rfl:U=Yay e:=r1;obtain ⟨⟨t0,he⟩,_,_⟩:=(show ObjOk X.prog X.w H2 s2.heap e (.ext (ZeP e C none)) from I2.hok e _ ee);obtain ⟨hp,g,d,tk,os⟩:=s2;refine ZiO I2.kIn hq he (by rw[Ybj];simp) fun h' t' z k=>⟨.non,H2,?_,rfl,q2⟩
 have J:=I2.write (x:=e) (e:=e) (o:=.ext (ZeP e C none)) (h':=h') (t':=tk) (by rw[ee];trivial) (.inl rfl) (fun b u nb hb=>k b u nb hb) ⟨_,z⟩ ⟨⟨t',z⟩,⟨_,z⟩,ZbB⟩;rw[ZlP ee] at J;exact J
def ZmC (hC:IniOk X.K C F)(ha:PE X o ta)(hv:PE X value tv)(hs:YbI value (some (.Attribute o F pos')) pos.line X.env=pure false:=by rfl):PS X (.Assign [.Attribute o F pos'] value pos) (Zxy C F ta tv):=by
 intro pins s σ H D I h;refine Ydj (thn (hv pins s σ H _ I h) fun u s1 ⟨y,H1,I1,ry,q⟩=>thn (ha pins s1 σ H1 _ I1 q) fun ov s2 zq=>?_) hs;obtain ⟨x,H2,Y,rx,e,ex,ee,q2⟩:=zq;subst ex;obtain rfl:ov=Yay e:=rx;obtain ⟨⟨t0,he⟩,_,_⟩:=(show ObjOk X.prog X.w H2 s2.heap e (.ext (ZeP e C none)) from Y.hok e _ ee);refine Zqa Y.kIn he hC.sa hC.ov hC.tk hC.hd fun h' ac U aa k=>?_
 have fr:s2.heap.get? s2.heap.objs.size=none:=YbD (Yak _);have nH:H2 s2.heap.objs.size=none:=Zcr Y.hok fr;have nE:s2.heap.objs.size≠e:=YbW (YaK (Yal he));have J:=Y.write (x:=e) (e:=e) (o:=.ext (ZeP e C (some s2.heap.objs.size))) (h':=h') (t':=ac) (by rw[ee];trivial) (.inl rfl) (fun b u nb hb=>k b u nb hb) ⟨_,U⟩ ⟨⟨t0,U⟩,⟨_,U⟩,ZbB⟩;have J2:=ZpT (e:=s2.heap.objs.size) (ho:=.xd [(F,y)]) J (by rw[Zab nE];exact nH) (ZaU Y fr) ⟨_,aa,fun f=>by
  show RelO (Yba f [(F,y)]) (if f=F then some u else none);by_cases z:f=F
  ·subst z;simp only[Yba,beq_self_eq_true,if_pos];exact ry
  ·have:(f == F)=false:=beq_eq_false_iff_ne.mpr z;simp only[Yba,this,if_neg z];trivial⟩
 exact ⟨σ,_,J2,q2 _ nH nE⟩
end
def spI (C:Yaq)(F:Str):Sp:=fun vs H Q _=>∃ e v,vs=[.ref e,v]/\H e=some (.ext (ZeP e C none))/\∀ da,H da=none->da≠e->Q .non (upd (upd H e (.ext (ZeP e C (some da)))) da (.xd [(F,v)]))
section
variable {P:YaN} {w:Ybg} {K:Yab} {mg:Str->Option Yag} {base:YbO}
def ZmF {x I a F z:Str}{st:Yce}{f:Yaq}{fd:Ybc}{C:Yaq}(R:Fun K x I st f fd)(S:FnScope ["self",a] ["self",a] (Zaa st))
  (Y:∀ (J:Yag) (A:Ybr) (outer:List Env) (s:Yaj) (H:Hp) (E:XK),PSs (Zcm CX0 P w K mg base ["self",a] I (Zaa st) f J A outer s H E).nox (Zah st)
   (Zxl (Zss (ZxB C (Zng (ZtT 0) (Zng (tC (.str z)) ZvC)))) (Zxy C F (ZtT 0) (ZtT 1)))):FnOk P w K mg base CX0 1 f fd ["self",a] (spI C F):=by
 refine R.ok S (fun vs H Q E h=>?_) (fun J A outer s H vs Q E hr h=>⟨_,Y J A outer s H E,?_⟩)
 ·obtain ⟨e,v,rfl,_⟩:=h;rfl
 ·obtain ⟨e,v,rfl,U,q⟩:=h;refine ⟨.ref e,rfl,e,.str z,rfl,U,v,rfl,.ref e,rfl,e,rfl,U,q⟩
end
section
variable {prog:YaN} {w:Ybg} {A:Ybr} {E:Yag->Yaj->Prop} {s:Yaj} {env:Env} {C:Yaq} {nm q:Str} {N:Yaq} {bs bm:List Yag} {hdct:Bool} {sn:List Str} {sub:List Yag} {ab:Bool} {col:Option Bool} {dd:Option Yaq} {k0 k1 k2 k3 k5:Option Yag} {newId:String}
def Zf6 (Y:bm.contains (.type "BaseException")=true)(hh:A.handled=none)(af:(Ya3 cpos (Yah args env)).any (·.1)=false)
  (h:YaF (YaJ prog w) A (YbT (.Name x np) env) (fun f aa=>f=.ref C/\YaF (YaJ prog w) A (evalArgs (.ref C) true (Ya3 cpos (Yah args env)) [])
   (fun a ac=>a.kw=[]/\ac.heap.get? C=some (YcF nm q C N bs bm hdct sn sub ab col dd k0 k1 k2 k3 k5 newId) /\
    YaF (YaJ prog w) A (call (.ref C) a.pos) (fun v I=>∃ e t d,v=.ref e/\I.heap.get? C=some (YcF nm q C N bs bm hdct sn sub ab col dd k0 k1 k2 k3 k5 newId)/\I.heap.get? e=some (newExc C t d)/\E (.ref e) I) E ac) E aa) E s) :
  YaF (YaJ prog w) A (exec (.Raise (some (.Call (.Name x np) args [] cpos)) none pos) env) Q E s:=by
 rw[arm_exec_Raise]
 first
  | refine Yac (YbP (ZbX (C:=C) (nm:=nm) (q:=q) (N:=N) (bs:=bs) (bm:=bm) (hdct:=hdct) (sn:=sn) (sub:=sub) (ab:=ab) (col:=col) (dd:=dd) (k0:=k0) (k1:=k1) (k2:=k2) (k3:=k3) (k5:=k5) (newId:=newId) Y hh (Yac (Ya6 (Yd3 (Ya6 h (fun f aa U=>?_) fun _ _ x=>x)) (fun v I J=>Yac (YbP (Yat J))) fun _ _ x=>x))))
  | (simp only[evalOpt,Option.map];refine Yac (YbP (ZbX (C:=C) (nm:=nm) (q:=q) (N:=N) (bs:=bs) (bm:=bm) (hdct:=hdct) (sn:=sn) (sub:=sub) (ab:=ab) (col:=col) (dd:=dd) (k0:=k0) (k1:=k1) (k2:=k2) (k3:=k3) (k5:=k5) (newId:=newId) Y hh (Yac (Ya6 (Yd3 (Ya6 h (fun f aa U=>?_) fun _ _ x=>x)) (fun v I J=>Yac (YbP (Yat J))) fun _ _ x=>x)))))
  | (refine Yac (YbP (ZbX (C:=C) (nm:=nm) (q:=q) (N:=N) (bs:=bs) (bm:=bm) (hdct:=hdct) (sn:=sn) (sub:=sub) (ab:=ab) (col:=col) (dd:=dd) (k0:=k0) (k1:=k1) (k2:=k2) (k3:=k3) (k5:=k5) (newId:=newId) Y hh ?_));refine Yac (Ya6 (Yd3 (Ya6 h (fun f aa U=>?_) fun _ _ x=>x)) (fun v I J=>Yac (YbP (Yat J))) fun _ _ x=>x))
 obtain ⟨rfl,U⟩:=U;unfold Ye0;refine Yac (Ybp (Ya6 U (fun a ac ae=>Yac (YbP ?_)) fun _ _ x=>x));obtain ⟨apos,ah⟩:=a;obtain ⟨ag,hC,ae⟩:=ae;obtain rfl:ah=[]:=ag;obtain ⟨hp,g,d,tk,os⟩:=ac;simp only[af];refine Yac (wpAny_keeperOf_exc hC ?_);exact Yac (Ya6 ae (fun v I z=>Yac (Ybp (wpAny_point (Yat z)))) fun _ _ z=>z)
end
def RzI (P:YaN)(w:Ybg)(K:Yab)(mg:Str->Option Yag)(base:YbO)(T:CTb)(k:Nat)(c F:Str):Prop:=
 ∃ C f fd ps,T.x c=some C/\mg c=some (.ref C)/\ZmW K C=true/\Yao K (.ref C) "__init__"=some (some (.ref f))/\YcS K (.ref f)=some (.type "function")/\FnOk P w K mg base CX0 k f fd ps (spI C F)/\Binds K fd ps []
noncomputable def Zcy (c F:Str)(f:Exs):Sm:=fun ρ h=>match f ρ h with
 | .ok [w] h1=>.ex (.exc c [F] [w]) h1
 | .ok _ _=>.no
 | .ex w h1=>.ex w h1
 | .no=>.no
section
variable {X:Cx} {Z:Zc} {fa:Exs} {c F:Str} {np cpos pos:Pos} {e:YaQ} {es:List YaQ} {kk j:Nat}
def Zjp (Rz:RzI X.prog X.w X.K X.mg X.base Z.T kk c F)(hr:Room j X.A)(aj:kk+1<=j)(hx:XOk X Z)(hg:Gl X c)(ha:QA X Z (e::es) fa)(ak:(c == ("__debug__":Str))=false:=by decide)(he:Yah (e::es) X.env=(false,YbT e X.env)::Yah es X.env:=by rfl)
  (al:(Ya3 cpos (Yah es X.env)).any (·.1)=false:=by rfl) (af:X.calm=true:=by rfl):QS X Z (.Raise (some (.Call (.Name c np) (e::es) [] cpos)) none pos) (Zcy c F fa):=by
 obtain ⟨C,f,fd,ps,hT,hm,hq,hi,hf,Fk,hb⟩:=Rz;refine ⟨fun pins s σ H D I zq=>?_⟩;obtain ⟨φ,h,ρ,x,q⟩:=zq;obtain ⟨bm,N,nm,qn,bs,hd,sn,sub,ab,col,dd,k0,k1,k2,k3,k5,hC,Tl⟩:=ZfF I.ok.mod.kin hq;have ag:=ha.pa cpos pins s σ H (fun vs H1=>∃ φ1 h1 w1 U,vs=[U]/\Here Z σ H1 φ1 h1 ρ/\RW Z.T φ1 H1 w1 U/\Z.xw (.exc c [F] [w1]) h1) I ⟨φ,h,ρ,x,by
  unfold Zcy at q;cases e1:fa ρ h with
  | no=>rw[e1] at q;exact q.elim
  | ex w h1=>rw[e1] at q;exact q
  | ok ws h1=>
   rw[e1] at q;rcases ws with _|⟨w1,_|⟨w2,ws⟩⟩
   ·exact q.elim
   ·intro φ1 H1 vs s1 r1 ae;obtain ⟨U,rfl,y⟩:=Zas ae;exact ⟨φ1,h1,w1,U,rfl,x.step s1 r1,y,q⟩
   ·exact q.elim⟩
 refine Zf6 (C:=C) (nm:=nm) (q:=qn) (N:=N) (bs:=bs) (bm:=bm) (hdct:=hd) (sn:=sn) (sub:=sub) (ab:=ab) (col:=col) (dd:=dd) (k0:=k0) (k1:=k1) (k2:=k2) (k3:=k3) (k5:=k5) (newId:="ValueError.__new__") (Tl.hasType YbH.hasBase) (I.ok.hd af) (by rw[he];show (false || (Ya3 cpos (Yah es X.env)).any (·.1))=false;rw[al];rfl) (ZaY I hg hm ⟨rfl,?_⟩ ak);rw[he] at ag ⊢;refine Ycd (thn ag fun us s2 zz=>?_);obtain ⟨vs,H2,I2,r,φ2,h2,w1,U,ev,x2,ae,xw⟩:=zz;refine ⟨rfl,I2.bk _ _ hC,?_⟩;subst ev;obtain ⟨Y,rfl,ru⟩:=r.one;obtain ⟨J,g,d,tk,os⟩:=s2;have am:=I2;have k:∀ b o,J.get? b=some o->((J.push (Zb5 [Y])).push (newExc C J.objs.size none)).get? b=some o:=fun b o z=>Yad _ (Yad _ z)
 have ac:((J.push (Zb5 [Y])).push (newExc C J.objs.size none)).get? (J.objs.size+1)=some (newExc C J.objs.size none):=by
  have:=YaC (J.push (Zb5 [Y])) (o:=newExc C J.objs.size none) rfl
  rwa [YeE] at this
 have fr:J.get? (J.objs.size+1)=none:=YbD (YdE _);have nH:H2 (J.objs.size+1)=none:=Zcr I2.hok fr;have I3:=I2.laid (a:=J.objs.size+1) (o:=.ext (ZeP (J.objs.size+1) C none)) (h':=(J.push (Zb5 [Y])).push (newExc C J.objs.size none)) (t':=tk) k (YdE _) ⟨⟨_,ac⟩,⟨_,ac⟩,ZbB⟩;have r2:Vals [V.ref (J.objs.size+1),U] [Yay (J.objs.size+1),Y]:=.cons rfl (.cons ru .nil)
 let Q':VK:=fun v H4=>v=.non/\∃ da,H2 da=none/\da≠J.objs.size+1/\H4=upd (upd H2 (J.objs.size+1) (.ext (ZeP (J.objs.size+1) C (some da)))) da (.xd [(F,U)])
 have ah:spI C F [V.ref (J.objs.size+1),U] (upd H2 (J.objs.size+1) (.ext (ZeP (J.objs.size+1) C none))) Q' (fun _ _ _=>False):=
  ⟨J.objs.size+1,U,rfl,Zae,fun da n1 n2=>⟨rfl,da,by rwa [Zab n2] at n1,n2,by rw[ZoA]⟩⟩
 have hl:[Yay (J.objs.size+1),Y].length=ps.length:=by rw[<-r2.length];exact Fk.len _ _ _ _ ah
 refine YcY (ZiW (rest:=[Y]) I2.kIn hq hi hf (by rw[Ybj];simp) (YcA (Fk.run _ X.stack _ _ ⟨[Yay (J.objs.size+1),Y],[]⟩ [Yay (J.objs.size+1),Y] _ Q' (fun _ _ _=>False) ((hr.mono aj).make C [Y] []) (fun _=>I.ok.hd af)
  (I3.env0.make C [Y] []) (by have:=hb _ [Yay (J.objs.size+1),Y] I3.kIn (by simpa using hl);simpa using this) r2 ah) fun r s' aa=>?_))
 cases r with
 | error e2=>exact aa.elim
 | ok fl=>
  cases fl with
  | ret u=>
   obtain ⟨v,H',I4,rv,hv,da,n1,n2,rfl⟩:=I3.after aa;subst hv;have eE:upd (upd H2 (J.objs.size+1) (.ext (ZeP (J.objs.size+1) C (some da)))) da (.xd [(F,U)])=upd (upd H2 da (.xd [(F,U)])) (J.objs.size+1) (.ext (ZeP (J.objs.size+1) C (some da))):=by
    funext b;unfold upd;by_cases z1:b=da
    ·subst z1;simp[n2]
    ·by_cases z2:b=J.objs.size+1
     ·subst z2;simp[YbW n2]
     ·simp[z1,z2]
   rw[eE] at I4;obtain ⟨⟨t0,ai⟩,_,_⟩:=(show ObjOk X.prog X.w _ s'.heap (J.objs.size+1) (.ext (ZeP (J.objs.size+1) C (some da))) from I4.hok _ _ Zae);have nE:upd H2 da (.xd [(F,U)]) (J.objs.size+1)=none:=by rw[Zab (YbW n2)];exact nH
   have I5:=ZnO I4 nE;refine ⟨rv,J.objs.size+1,t0,some da,rfl,I5.bk _ _ hC,ai,?_⟩;have st:=ZaS (φ:=φ2) (H:=H2) (ho:=.xd [(F,U)]) n1;refine hx _ _ ⟨pins,σ,_,J.objs.size+1,.ref C,some da,none,φ2,h2,.exc c [F] [w1],rfl,⟨I5,⟨_,_,ai,rfl,rfl,rfl,rfl,rfl⟩,fun b hb=>?_⟩,x2.sg,x2.st.trans st,x2.rh.tmp n1,⟨C,[U],hT,rfl,rfl,?_,x2.rh.fresh n1,Zae⟩,xw⟩
   ·have hb:b=J.objs.size+1:=by simpa using hb
    subst hb;exact ⟨nE,ZaU I2 fr⟩
   ·unfold RWs;exact ⟨U,[],rfl,ae.step st,by unfold RWs;rfl⟩
  | next=>exact Ya9 aa
  | brk=>exact Ya9 aa
  | cont=>exact Ya9 aa
end
def Zwq (K:Yab)(T:CTb)(c nm:Str):Prop:=∀ C,T.x c=some C->ExcTy K C/\Ybd K C=true/\Yao K (.ref C) nm=some none
def xXf (c0 nm:Str)(f:Ex):Ex:=fun ρ h=>(f ρ h).bind fun a h1=>match a with
 | .exc c fs ws=>bif decide (c=c0) then (match (fs.zip ws).lookup nm with
  | some w=>.ok w h1
  | none=>.no) else .no
 | _=>.no
noncomputable def tXf (K:Yab)(ta:TE)(nm:Str):TE:=fun σ H Q=>ta σ H fun x H1=>∃ e C d kvs v,x=.ref e/\Hx H1 e C (some d)/\H1 d=some (.xd kvs)/\ExcTy K C/\Ybd K C=true/\Yao K (.ref C) nm=some none/\kvs.lookup nm=some v/\Q v H1
theorem Zdu:∀ {fs:List Str} {ws:List W} {vs:List V},RWs T φ H ws vs->(fs.zip ws).lookup nm=some w->∃ v,(fs.zip vs).lookup nm=some v/\RW T φ H w v
 | [],_,_,_,e=>by simp at e
 | f::fs,[],_,_,e=>by simp at e
 | f::fs,a::ws,vs,r,e=>by
  unfold RWs at r;obtain ⟨v,vr,rfl,J,I⟩:=r;rw[Yct] at e ⊢;by_cases z:nm=f
  ·subst z;simp only[Yba,beq_self_eq_true] at e ⊢;cases e;exact ⟨v,rfl,J⟩
  ·have:(nm == f)=false:=beq_eq_false_iff_ne.mpr z;simp only[Yba,this] at e ⊢;exact Zdu I e
section
variable {X:Cx} {Z:Zc} {f:Ex} {o:YaQ} {c0 nm:Str} {pos:Pos} {ta:TE}
def ZoH (he:PE X o ta)(hb:Ybb o nm X.env (YbT o X.env)=YbT o X.env):PE X (.Attribute o nm pos) (tXf X.K ta nm):=by
 intro pins s σ H Q I h;refine Zi8 hb (thn (he pins s σ H _ I h) fun u s1 zq=>?_);obtain ⟨x,H1,z,rx,e,C,d,kvs,v,ex,U,ed,hz,hh,ha,l,q⟩:=zq;subst ex;obtain rfl:u=Yay e:=rx;obtain ⟨ob,_,U⟩:=U;obtain ⟨_,⟨oe,vs,a,b,c,dd⟩,_⟩:=(show ObjOk X.prog X.w H1 s1.heap e (.frz ob (.ext (Za1 e C (some d)))) from z.hok e _ U);obtain ⟨mA,hn,hr⟩:=(show ObjOk X.prog X.w H1 s1.heap d (.xd kvs) from z.hok d _ ed);obtain ⟨od,ho,hl⟩:=Zew hn;obtain ⟨u',hu,Y⟩:=RelO.some_of (v:=v) (o:=mA nm) (by rw[<-l];exact hr nm);have J:YcR s1.heap e oe C (some od):=⟨a,b,by unfold YeI;rw[c],by rw[dd];exact ho⟩;unfold getAttr;refine Yac (wpAny_mkText (Zmh (s:={ s1 with toks:=s1.toks+1 }) z.kIn J hz (YeJ hh ha rfl (by rw[hl,hu])) ?_));exact PySem.W.handed_on (Zep Y) ⟨v,H1,z.tok _,Y,q⟩
def Zsk (ho:QE X Z o f)(hK:Zwq X.K Z.T c0 nm)(hb:Ybb o nm X.env (YbT o X.env)=YbT o X.env:=by rfl):QE X Z (.Attribute o nm pos) (xXf c0 nm f):=
 ⟨(ZoH ho.pe hb).imp fun σ H Q q=>by
  obtain ⟨φ,m,ρ,x,q⟩:=q;refine ⟨φ,m,ρ,x,?_⟩;unfold xXf at q;rw[Zba] at q;refine q.mono fun a h1 z=>fun φ1 H1 u s1 r1 ra=>?_
  cases a with
  | exc c fs ws=>
   dsimp only at z;cases J:decide (c=c0) with
   | false=>rw[J] at z;exact z.elim
   | true=>
    rw[J] at z;have J:=of_decide_eq_true J;subst J;dsimp only[cond] at z;cases I:(fs.zip ws).lookup nm with
    | none=>rw[I] at z;exact z.elim
    | some w=>
     rw[I] at z;unfold RW at ra;obtain ⟨e,C,d,vs,rfl,ne,hT,hH,hl,Y,U⟩:=ra;obtain ⟨v,lv,rv⟩:=Zdu U I;obtain ⟨z1,z2,z3⟩:=hK C hT;cases d with
     | none=>rw[show fs=[] from Y] at I;simp at I
     | some d1=>exact ⟨e,C,d1,_,v,rfl,hH,Y.2,z1,z2,z3,lv,z φ1 H1 v s1 r1 rv⟩
  | _=>exact z.elim⟩
end
noncomputable def Zi2 (K:Yab)(C:Yaq):Bool:=
 Yao K (.ref C) "__getattribute__" == some (some (.builtin "BaseException.__getattribute__")) && (Yao K (.ref C) "__getattr__" == some none && (YaZ K C (.type "BaseException") == some true &&
 (Yao K (.ref C) "__class__" == some (some (.builtin "object.__class__")) && (Ybl K (.builtin "object.__class__") "__get__" == some (some (.builtin "getset_descriptor.__get__")) && (Ycz K (.builtin "object.__class__") == some true && YaZ K C (.type "object") == some true)))))
def ZlD {K:Yab}{C:Yaq}(h:Zi2 K C=true):ExcTy K C:=by
 unfold Zi2 at h;simp only[Yaa,beq_iff_eq] at h;obtain ⟨a,b,c,d,e,f,g⟩:=h;exact ⟨a,b,c,d,e,f,g⟩
def ZmQ (K:Yab)(l:List Yaq):Bool:=l.all (Zi2 K)
def Zev {K:Yab}{l:List Yaq}(h:ZmQ K l=true){C:Yaq}(m:C∈l):ExcTy K C:=ZlD (Yaf.mp h C m)
def Zi5 (K:Yab)(D:Yaq)(l:List Yaq):Bool:=Zhm K D "ValueError.__new__" && (YaZ K D (.type "BaseException") == some true && l.all fun a=>Zhm K a "ValueError.__new__" && YaZ K a (.ref D) == some true)
def ZsD {K:Yab}{mg:Str->Option Yag}{T:CTb}{d:Str}{sub:Str->Bool}{D:Yaq}{l:List Yaq}(h:Zi5 K D l=true)(I:mg d=some (.ref D))(z:∀ c C,sub c=true->T.x c=some C->C∈l):CatAt K mg T d sub:=by
 unfold Zi5 at h;simp only[Yaa,beq_iff_eq] at h;refine ⟨D,I,h.1,h.2.1,fun c C J e=>?_⟩;have:=Yaf.mp h.2.2 C (z c C J e);simp only[Yaa,beq_iff_eq] at this;exact this
def ZuA (K:Yab)(C:Yaq)(F:Str):Bool:=ZmW K C && (Yao K (.ref C) "__setattr__" == some (some (.builtin "object.__setattr__")) && (Zjq K C && (Ycx K C F == some none && (Ybd K C && Yao K (.ref C) F == some none))))
def ZdH {K:Yab}{C:Yaq}{F:Str}(h:ZuA K C F=true):IniOk K C F/\Yao K (.ref C) F=some none:=by
 unfold ZuA at h;simp only[Yaa,beq_iff_eq] at h;obtain ⟨a,b,c,d,e,f⟩:=h;exact ⟨⟨a,b,c,d,e⟩,f⟩
def InX (K:Yab)(C:Yaq)(z:Str)(st:Yce):Prop:=∃ f fd,Yao K (.ref C) "__init__"=some (some (.ref f))/\YcS K (.ref f)=some (.type "function")/\Fun K "__init__" z st f fd
section
variable {K:Yab} {C:Yaq}
def inx {z:Str}{st:Yce}{f:Yaq}{Y:Yag}{od an:Option Yaq}{U:Array (Option Yag)}{kV J pm I ct:Yag}(a:Yao K (.ref C) "__init__"=some (some (.ref f)))(i:YdN K (.ref f)=true)
  (l:K.lookup f=some ⟨Y,od,.func (Ybw "__init__" z (ZaM st) (Zah st) (Zaa st) .none kV J pm an I ct),U⟩) (c:Yb7 K I z=true) (k:Ybk K (.ref f)=true):InX K C z st:=⟨f,_,a,beq_iff_eq.mp i,ZmU l c k⟩
def basx (g1:Ybl K (.ref C) "__getattribute__"=some (some (.builtin "type.__getattribute__")))(g0:YcS K (.ref C)=some mc)(z:YdH K C mc=true)
  (I:YdI K (.ref C) mc "__init__"=some (.val (.builtin "ValueError.__init__"))):BaseOk K C:=⟨⟨mc,g1,z,I⟩⟩
end
noncomputable def Zpc:Ex:=fun _ h=>.ok (.ref h.length) (h++[.dic []])
section
variable {X:Cx} {Z:Zc} {f g k:Ex} {o i v:YaQ} {pos pos':Pos}
def Zul:QE X Z (.Dict [] [] pos) Zpc:=⟨pe_dnewK.imp fun σ H Q ⟨φ,m,ρ,x,q⟩=>fun p z=>
 q (φ++[p]) _ (.ref p) (ZaQ z) (x.rh.new (o:=.dic []) (ho:=.dK []) z ⟨[],rfl,.nil⟩) (by unfold RW;exact ⟨p,by rw[<-x.rh.len];simp,rfl⟩)⟩
end
def Zqr (kvs:List (Key×W))(k:Key)(w:W):List (Key×W):=if (kvs.any fun kv=>decide (kv.1=k))=true then kvs.map (fun kv=>if kv.1=k then (kv.1,w) else kv) else kvs++[(k,w)]
noncomputable def ZfR (kvs:List (Key×W))(k:Key):List (Key×W):=kvs.filter fun kv=>decide (kv.1≠k)
section
variable {T:CTb} {φ:List Yaq} {H:Hp}
theorem Zmn:∀ {a:List (Key×W)} {b:List (Key×V)},RP T φ H a b->(a.any fun kv=>decide (kv.1=k))=b.any fun kv=>decide (kv.1=k)
 | [],b,r=>by cases r;rfl
 | p::a,b,r=>by cases r with | cons h q=>rw[YbJ,YbJ,h.1,Zmn q]
theorem ZiZ (x:RW T φ H w v):∀ {a:List (Key×W)} {b:List (Key×V)},RP T φ H a b->RP T φ H (a.map fun kv=>if kv.1=k then (kv.1,w) else kv) (b.map fun kv=>if kv.1=k then (kv.1,v) else kv)
 | [],b,r=>by cases r;exact .nil
 | p::a,b,r=>by
  cases r with
  | @cons _ z _ l h q=>
   rw[Yap,Yap];refine .cons ?_ (ZiZ x q);by_cases e:p.1=k
   ·have I:z.1=k:=by rw[<-h.1];exact e
    rw[if_pos e,if_pos I];exact ⟨h.1,x⟩
   ·have I:¬z.1=k:=by rw[<-h.1];exact e
    rw[if_neg e,if_neg I];exact h
theorem ZjI (h1:p.1=z.1)(x:RW T φ H p.2 z.2):∀ {a:List (Key×W)} {b:List (Key×V)},RP T φ H a b->RP T φ H (a++[p]) (b++[z])
 | [],b,r=>by cases r;exact .cons ⟨h1,x⟩ .nil
 | q::a,b,r=>by cases r with | cons h l=>exact .cons h (ZjI h1 x l)
def ZnV (x:RW T φ H w v)(r:RP T φ H a b):RP T φ H (Zqr a k w) (Zc4 b k v):=by
 unfold Zqr Zc4;rw[Zmn r];split
 ·exact ZiZ x r
 ·exact ZjI rfl x r
theorem ZjK:∀ {a:List (Key×W)} {b:List (Key×V)},RP T φ H a b->RP T φ H (ZfR a k) (ZdN b k)
 | [],b,r=>by cases r;exact .nil
 | p::a,b,r=>by
  cases r with
  | @cons _ z _ l h q=>
   have I:=ZjK (k:=k) q;unfold ZfR ZdN at I ⊢;rw[Yb4,Yb4,h.1];split
   ·exact .cons h I
   ·exact I
def ZdY (r:RH T φ h H)(x:RW T φ H (.ref n) v)(e:h[n]?=some (.dic kvs)):∃ a kv,v=.ref a/\φ[n]?=some a/\H a=some (.dK kv)/\RP T φ H kvs kv:=by
 unfold RW at x;obtain ⟨a,z,rfl⟩:=x;obtain ⟨ho,y,kv,rfl,I⟩:=r.obj n _ a e z;exact ⟨a,kv,rfl,z,y,I⟩
end
noncomputable def setD (h:Mem)(o i v:W):Option Mem:=match o with
 | .ref n=>(match h[n]?,ZcO i with
  | some (.dic kvs),some k=>if kvs.length<Yai then some (h.set n (.dic (Zqr kvs k v))) else none
  | _,_=>none)
 | _=>none
def ZjW (fo fi z:Ex):Sm:=fun ρ h=>match z ρ h with
 | .ok v h1=>(match fo ρ h1 with
  | .ok o h2=>(match fi ρ h2 with
   | .ok i h3=>(match setD h3 o i v with
    | some I=>.nx ρ I
    | none=>.no)
   | .ex w h3=>.ex w h3
   | .no=>.no)
  | .ex w h2=>.ex w h2
  | .no=>.no)
 | .ex w h1=>.ex w h1
 | .no=>.no
section
variable {X:Cx} {Z:Zc} {f g k:Ex} {o i v:YaQ} {pos pos':Pos}
def Zom (hr:Room j X.A)(ho:QE X Z o f)(hi:QE X Z i g)(hv:QE X Z v k)(hs:YbI v (some (.Subscript o i pos')) pos.line X.env=pure false:=by rfl):QS X Z (.Assign [.Subscript o i pos'] v pos) (ZjW f g k):=
 ⟨(Zn0 (Zhg hr) ho.pe hi.pe hv.pe hs).imp fun D σ H ⟨φ,m,ρ,x,q⟩=>⟨φ,m,ρ,x,by
  unfold ZjW at q;cases e1:k ρ m with
  | no=>rw[e1] at q;exact q.elim
  | ex w h1=>rw[e1] at q;exact q
  | ok y h1=>
   rw[e1] at q;intro φ1 H1 vy s1 r1 ry;refine ⟨φ1,h1,ρ,x.step s1 r1,?_⟩;dsimp only at q;cases Y:f ρ h1 with
   | no=>rw[Y] at q;exact q.elim
   | ex w h2=>rw[Y] at q;exact q
   | ok a h2=>
    rw[Y] at q;intro φ2 H2 va s2 r2 ra;refine ⟨φ2,h2,ρ,(x.step s1 r1).step s2 r2,?_⟩;dsimp only at q;cases U:g ρ h2 with
    | no=>rw[U] at q;exact q.elim
    | ex w h3=>rw[U] at q;exact q
    | ok b h3=>
     rw[U] at q;intro aa H3 vb I r3 rb;dsimp only at q;cases z:setD h3 a b y with
     | none=>rw[z] at q;exact q.elim
     | some h4=>
      rw[z] at q;unfold setD at z;split at z
      ·rename_i n;split at z
       ·rename_i kvs kk e5 e6;split at z
        ·rename_i hl;cases z;obtain ⟨p,kv,rfl,ep,yp,rx⟩:=ZdY r3 (ra.step I) e5;have hk:=ZcK rb e6;subst hk;have J:=ry.step (s2.trans I);have s4:=ZaF (H:=H3) (ho:=.dK (Zc4 kv kk vy)) (Yax ep) (Zjz yp);have r4:=r3.set (o:=.dic (Zqr kvs kk y)) (ho:=.dK (Zc4 kv kk vy)) ep ⟨_,rfl,ZnV J rx⟩;exact ⟨p,_,rfl,DPut.k yp (by rw[<-Zbf rx];exact hl),q aa _ σ (s1.trans (s2.trans (I.trans s4))) r4 (x.rs.step (s1.trans (s2.trans (I.trans s4)))) x.sg⟩
        ·cases z
       ·cases z
      ·cases z⟩⟩
end
noncomputable def Zax (kvs:List (Key×W)):List W:=kvs.map fun kv=>match kv.1 with
 | .inl i=>.int i
 | .inr x=>.str x
def ZiR (f:Ex):Ex:=fun ρ h=>match f ρ h with
 | .ok a h1=>(match Zbu h1 a with
  | some kvs=>.ok (.ref h1.length) (h1++[.lst (Zax kvs)])
  | none=>.no)
 | .ex w h1=>.ex w h1
 | .no=>.no
theorem ZgA:∀ {a:List (Key×W)} {b:List (Key×V)},RP T φ H a b->RWs T φ H' (Zax a) (b.map fun kv=>kV kv.1)
 | [],b,r=>by cases r;unfold Zax RWs;rfl
 | p::a,b,r=>by
  cases r with
  | @cons _ z _ l h q=>
   have I:=ZgA (H':=H') q;unfold Zax at I ⊢;rw[Yap,Yap,<-h.1];unfold RWs;refine ⟨_,_,rfl,?_,I⟩;cases p.1<;>(unfold RW;rfl)
def Zug:List V->Hp->VK->Prop:=fun vs H Q=>∃ p kv,vs=[.ref p]/\Rd H p (.dK kv)/\∀ l,H l=none->Q (.ref l) (upd H l (.lst (kv.map fun q=>kV q.1)))
theorem ZcX:∀ {kv:List (Key×V)} {kvs:List (Key×Yag)} {vs:List Yag},KV kv kvs->vs.length=kvs.length->(∀ (j:Nat) (v:Yag),vs[j]?=some v->∃ k x,kvs[j]?=some (k,x)/\(Zao P w).is k v=true)->Vals (kv.map fun q=>kV q.1) vs
 | [],kvs,vs,r,I,h=>by
  cases r;cases vs with
  | nil=>exact .nil
  | cons _ _=>simp at I
 | p::kv,kvs,vs,r,I,h=>by
  cases r with
  | @cons _ z _ l U q=>
   cases vs with
   | nil=>simp at I
   | cons v vs=>
    obtain ⟨k,x,e,Y⟩:=h 0 v rfl;simp only[Yc9,Yd4] at e;rw[Yap];refine .cons ?_ (ZcX (P:=P) (w:=w) q (by simpa using I) fun j u J=>by simpa using h (j+1) u (by simpa using J));have:p.1=k:=by rw[U.1,e]
    rw[this];rcases Zal Y with ⟨i,t,rfl,rfl⟩|⟨y,t,rfl,rfl⟩
    ·exact ⟨t,rfl⟩
    ·exact ⟨t,rfl⟩
section
variable {X:Cx} {Z:Zc} {f:Ex} {e:YaQ} {x:Str} {p pos:Pos}
def Zhc (hh:X.calm=true):CallR X (.type "list") Zug:=by
 intro pins s σ H xs us Q I r h;obtain ⟨d,kv,rfl,hd,q⟩:=h;obtain ⟨u,rfl,rx⟩:=Zd1 r;cases rx;obtain ⟨hz,lo,kvs,U,dd⟩:=Zd2 I.hok hd;obtain ⟨ep,Y⟩:=dd.dictAt;refine PySem.W.kdl_call (PySem.W.kdl_dict (knd:=Zao X.prog X.w) (kvs:=kvs) (ep:=ep) lo) (I.ok.hd hh) Y (by rw[<-U.length];exact hz) fun h' tk z c' kp e J=>?_
 have hv:Vals (kv.map fun q=>kV q.1) z.toList:=ZcX U (by rw[Ycj];exact J.1) fun j v ej=>J.2 j v (by rw[<-YcC];exact ej)
 refine ⟨.ref s.heap.objs.size,_,I.laid (t':=tk) kp (Yak _) (show ObjOk X.prog X.w _ h' _ (.lst (kv.map fun q=>kV q.1)) from ⟨by simpa using hz,z.toList,c',hv,by simpa using e⟩),rfl,q _ (I.hok.fresh (Yak _))⟩
def Zsu (hh:X.calm=true)(hg:Gl X x)(hm:X.mg x=none)(hv:YaR x=some (.type "list"))(ho:QE X Z e f)(hn:x≠"__name__":=by decide)(J:(x == ("__debug__":Str))=false:=by decide)
  (he:Yah [e] X.env=(false,YbT e X.env)::Yah [] X.env:=by rfl) (U:(Ya3 pos (Yah [] X.env)).any (·.1)=false:=by rfl):QE X Z (.Call (.Name x p) [e] [] pos) (ZiR f):=
 ⟨(Zem (Zhc hh) hg hm hv (Zbd ho.pe pa_nil he) hn J he U).imp fun σ H Q ⟨φ,m,ρ,y,q⟩=>⟨φ,m,ρ,y,by
  unfold ZiR at q;cases I:f ρ m with
  | no=>rw[I] at q;exact q.elim
  | ex w h1=>rw[I] at q;exact q
  | ok a h1=>
   rw[I] at q;intro φ1 H1 va s1 r1 ra;dsimp only at q;cases z:Zbu h1 a with
   | none=>rw[z] at q;exact q.elim
   | some kvs=>
    rw[z] at q;obtain ⟨d,kv,rfl,hd,rp⟩:=Zcn r1 ra z;refine ⟨d,kv,rfl,hd,fun l Y=>?_⟩;have s2:=ZaQ (φ:=φ1) (ho:=.lst (kv.map fun q=>kV q.1)) Y;exact q (φ1++[l]) _ (.ref l) (s1.trans s2) (r1.new (o:=.lst (Zax kvs)) (ho:=.lst (kv.map fun q=>kV q.1)) Y ⟨_,rfl,ZgA rp⟩) (by unfold RW;exact ⟨l,by rw[<-r1.len];simp,rfl⟩)⟩⟩
end
open Classical in
noncomputable def Zbh (G:Tg)(B:Sm)(n:Nat)(z:List W):List W->Sm
 | [],ρ,h=>if h[n]?=some (.lst z) then .nx ρ h else .no
 | w::r,ρ,h=>if h[n]?=some (.lst z) then (match G w ρ with
  | none=>.no
  | some I=>(match B I h with
   | .nx ρ' h'=>Zbh G B n z r ρ' h'
   | .ct ρ' h'=>Zbh G B n z r ρ' h'
   | .bk ρ' h'=>.nx ρ' h'
   | o=>o)) else .no
def ZhA (f:Ei)(G:Tg)(B:Sm):Sm:=fun ρ h=>match f ρ h with
 | .ok none ws h'=>ZbN G B ws ρ h'
 | .ok (some n) ws h'=>Zbh G B n ws ws ρ h'
 | .ex w h'=>.ex w h'
 | .no=>.no
section
variable {X:Cx} {Z:Zc} {B:Sm} {fi:Ei} {tg iter:YaQ} {sts:List Yce} {pos:Pos}
def Zl3 (hw:TgW Z gg Gt)(x:Here Z σ H1 φ1 h1 ρ)(it:ItOk Z.T φ1 H1 J ws (ZhK (some n) ws))(q:(Zbh Gt B n ws ws ρ h1).post Z φ1 H1 D) :
  ∃ Wd:Nat->Nat->St->Hp->Prop,(∃ m,Wd 0 m σ H1)/\∀ i m σ H,Wd i m σ H->(J.stop i H/\D.nx σ H)\/(J.go i H/\∃ N:St->Hp->Prop,(∀ σ' H',N σ' H'->∃ m',m'<m/\Wd (i+1) m' σ' H') /\
   ∀ v H',J.yld i H v H'->gg v σ H' fun aa H2=>tHS Z B { D with nx:=N,ct:=N,bk:=D.nx } aa H2):=by
 refine ⟨fun i m σ H=>m=ws.length - i/\i<=ws.length/\∃ φ h ρ,Step φ1 H1 φ H/\Here Z σ H φ h ρ/\(Zbh Gt B n ws (ws.drop i) ρ h).post Z φ H D,⟨ws.length,by simp,Ycy _,φ1,h1,ρ,Step.refl _ _,x,q⟩,?_⟩;rintro i m σ H ⟨rfl,hi,φ,h,ρ,s,y,q⟩;by_cases I:i<ws.length
 ·have ed:ws.drop i=ws[i]::ws.drop (i+1):=Yb9 I;have ei:ws[i]?=some ws[i]:=by simp[I]
  rw[ed] at q;unfold Zbh at q;by_cases U:h[n]?=some (.lst ws)
  ·rw[if_pos U] at q;refine .inr ⟨it.go φ H h i _ s y.rh U ei,fun σ' H'=>i+1<=ws.length/\∃ φ h ρ,Step φ1 H1 φ H'/\Here Z σ' H' φ h ρ/\(Zbh Gt B n ws (ws.drop (i+1)) ρ h).post Z φ H' D,fun σ' H' p=>⟨ws.length - (i+1),by omega,rfl,p⟩,fun v H' yl=>?_⟩;obtain ⟨rfl,ac⟩:=it.yld φ H h i _ v H' s y.rh U ei yl;cases e2:Gt ws[i] ρ with
   | none=>rw[e2] at q;exact q.elim
   | some ρ'=>
    rw[e2] at q;simp only at q;refine hw σ H' φ h ρ _ v ρ' _ y ac e2 fun σ' rs g=>⟨φ,h,ρ',⟨g,y.st,y.rh,rs⟩,?_⟩
    cases e3:B ρ' h with
    | nx z h2=>
     rw[e3] at q;exact fun φ2 H2 aa s2 r2 Y g2=>⟨I,φ2,h2,z,s.trans s2,⟨g2,y.st.trans s2,r2,Y⟩,Zar q s2⟩
    | ct z h2=>
     rw[e3] at q;exact fun φ2 H2 aa s2 r2 Y g2=>⟨I,φ2,h2,z,s.trans s2,⟨g2,y.st.trans s2,r2,Y⟩,Zar q s2⟩
    | bk z h2=>rw[e3] at q;exact q
    | rt w2 h2=>rw[e3] at q;exact q
    | ex w2 h2=>rw[e3] at q;exact q
    | no=>rw[e3] at q;exact q.elim
  ·rw[if_neg U] at q;exact q.elim
 ·have e:i=ws.length:=by omega
  subst e;rw[Ydt] at q;unfold Zbh at q;by_cases U:h[n]?=some (.lst ws)
  ·rw[if_pos U] at q;exact .inl ⟨it.stop φ H h s y.rh U,y.nx q⟩
  ·rw[if_neg U] at q;exact q.elim
def Zn6 (z:TgW Z gg Gt)(h:tHS Z (ZhA fi Gt B) D σ H):ZxK (tHI Z fi) gg (tHS Z B) D σ H:=by
 obtain ⟨φ,h,ρ,x,q⟩:=h;refine ⟨φ,h,ρ,x,?_⟩;unfold ZhA at q;cases e:fi ρ h with
 | no=>rw[e] at q;exact q.elim
 | ex w h'=>rw[e] at q;exact q
 | ok src ws h'=>
  rw[e] at q;cases src with
  | some n=>exact fun φ1 H1 J s1 r1 _ it=>Zl3 z (x.step s1 r1) it (Zar q s1)
  | none=>exact fun φ1 H1 J s1 r1 _ it=>Zfg z (x.step s1 r1) it (Zar q s1)
def ZnA (I:TgW Z gg Gt)(hp:Yek (YaJ X.prog X.w) X.A X.env X.xe)(U:X.calm=X.calm)(hi:QI X Z tg iter fi)(Y:QG X tg gg)(J:QB X Z sts B)(z:∀ x,Ya1 iter X.env x=pure x:=by intro _;rfl) :
  QS X Z (.For tg iter sts [] pos) (ZhA fi Gt B):=⟨(ZmO hp U hi.pi Y.pg J.ps z).imp fun D σ H q=>Zn6 I q⟩
end
open PySem.SeqAt (RcAt RcNeAt EqAt rc_eq_decline_or rc_ne_decline_or)
noncomputable def isB (k:Bool):Yag->Bool
 | .bool b=>b == k
 | _=>false
def ZfE:V->List V->Hp->VK->Prop:=fun x vs H Q=>match x,vs with
 | .ref p,[.bl k]=>ZaZ (Zam H p) fun xs=>ZaZ (Za8 xs) fun bs=>k∈bs/\bs.length<=Yai/\Q (.int (bs.idxOf k:Nat)) H
 | _,_=>False
theorem ZdF:∀ {ns:List Bool} {j:Nat},j<ns.idxOf k->∀ (h2:j<ns.length),(ns[j] == k)=false
 | n::r,0,h,_=>by
  by_cases e:n=k
  ·subst e;simp at h
  ·simpa using e
 | n::r,j+1,h,h2=>by
  by_cases e:n=k
  ·subst e;simp at h
  ·have z:(n == k)=false:=by simpa using e
   have h':j<r.idxOf k:=by
    rw[List.idxOf_cons,z] at h;exact Nat.lt_of_succ_lt_succ h
   exact ZdF h' (Nat.lt_of_succ_lt_succ h2)
def ZiF:MtM X "list.index" ZfE:=by
 intro pins s σ H x vs v us Q I rx rv h;unfold ZfE at h;split at h
 ·rename_i p k;obtain ⟨xs,e1,h⟩:=Zak h;obtain ⟨bs,e2,hk,hz,q⟩:=Zak h;cases rx;obtain ⟨u,rfl,ru⟩:=rv.one;cases ru;obtain ⟨its,r,pl,z⟩:=I.list (Zad (K:=X.K) e1);rw[ZbC e2] at r;have:=ZcV r;subst this;obtain ⟨⟨ac,dd,aa,sl⟩,ho,hc,n,hd⟩:=pl.isList;simp only at hc hd;subst hc hd;have hj:bs.idxOf k<bs.length:=List.idxOf_lt_length_iff.mpr hk;rw[Ybj] at hz;refine call_meets Yea ⟨_,ho,rfl⟩ PySem.F.entry_list_index (PySem.F.args_list_index_2 _ _)
   (PySem.SeqAt.list_indexAt p (bs.map YcW).toArray n dd sl (.bool k) (isB k) (bs.idxOf k) (by simpa using hj) (by omega) ?_ ?_) ⟨ho,fun y U=>?_,⟨.int _,H,I.tok _,⟨_,rfl⟩,q⟩⟩
  ·have:=List.getElem_idxOf hj
   simpa [isB] using this
  ·intro j Y J;have:=ZdF J (by simpa using Y)
   simpa [isB] using this
  ·have U:y∈bs.map YcW:=by simpa using U
   obtain ⟨b,_,rfl⟩:=YbF.mp U;exact YeA b k
 ·exact h.elim
def ZbR (h:Mem)(a:W)(ws:List W):Option W:=match ws with
 | [.bl k]=>((items h a).bind ZdA).bind fun bs=>if k∈bs/\bs.length<=Yai then some (.int (bs.idxOf k:Nat)) else none
 | _=>none
section
variable {X:Cx} {Z:Zc} {f:Ex} {fa:Exs} {o e:YaQ} {apos cpos:Pos} {T:CTb}
def ZhI:BmW T ZbR ZfE:=by
 intro φ h H a u ws vs w Q r U x e k;unfold ZbR at e;split at e
 ·rename_i b;rw[Yaw] at e;obtain ⟨bs,e,z⟩:=e;rw[Yaw] at e;obtain ⟨us,Y,e2⟩:=e;split at z
  ·rename_i I;cases z;obtain ⟨v,rfl,y0⟩:=Zas x;rw[Zby y0];obtain ⟨p,vs,rfl,q1,J⟩:=Zay r U Y;show ZaZ (Zam H p) _;rw[q1];show ZaZ (Za8 vs) _;rw[Zd8 J e2];exact ⟨I.1,I.2,Zaj r ZaD k⟩
  ·cases z
 ·cases e
def ZlV (ho:QE X Z o f)(ha:QA X Z [e] fa)(J:Ybb o "index" X.env (YbT o X.env)=YbT o X.env:=by rfl)
  (U:((Ya3 cpos (Yah [e] X.env)).all (fun x=>!x.1) && (Ycc cpos (Ybm [] X.env)).all (fun x=>x.1.isSome)
   && decide (([e]:List YaQ).length+([]:List Yb8).length+(if ([]:List Yb8).isEmpty then 0 else 1)<30))=true:=by rfl)
  (I:(apos.endLine == cpos.line)=true:=by rfl) (Y:Yah [e] X.env=(false,YbT e X.env)::Yah [] X.env:=by rfl) (z:(Ya3 cpos (Yah [] X.env)).any (·.1)=false:=by rfl) :
  QE X Z (.Call (.Attribute o "index" apos) [e] [] cpos) (Zpq ZbR f fa):=
 ⟨(Zg7 YbQ Yea PySem.F.type_list_index ZiF ho.pe ha.pa J U I Y z).imp fun σ H Q q=>Zm3 ZhI q⟩
end
section
variable {X:Cx} {Z:Zc} {p pos:Pos}
def Zn7 (Y:ZwQ X.prog X.w X.K X.mg X.base Z.T kk c F)(hr:Room j X.A)(J:kk+1<=j)(hg:Gl X c)(U:(c == ("__debug__":Str))=false:=by decide)(I:X.calm=true:=by rfl):QE X Z (.Call (.Name c p) [] [] pos) (ZfB c F Zfe):=by
 obtain ⟨C,f,fd,ps,hc,hm,Mc,Fk,hb⟩:=Y;exact ⟨(Zl6 Mc Fk (hr.mono J) hg hm hb .nil (Zp9 I) U).imp fun σ H Q q=>by
  obtain ⟨φ,m,ρ,x,z⟩:=Zjo hc q;exact z φ H [] (Step.refl _ _) x.rh (by unfold RWs;rfl)⟩
end
open Classical in
def Zcd (src:Option Nat)(z:List W)(G:Tg)(c Y:Ex)(I:Sg)(U:Nat):List W->Mem->Option Mem
 | [],h=>if ZhK src z h then some h else none
 | w::r,h=>if ZhK src z h then (match G w I with
  | none=>none
  | some ρ=>(match c ρ h with
   | .ok (.bl true) h1=>(match Y ρ h1 with
    | .ok x h2=>(match h2[U]? with
     | some (.lst J)=>bif decide (J.length<Yai) then Zcd src z G c Y I U r (h2.set U (.lst (J++[x]))) else none
     | _=>none)
    | _=>none)
   | .ok (.bl false) h1=>Zcd src z G c Y I U r h1
   | _=>none)) else none
def ZcA (fi:Ei)(own:Nat)(ix:List Nat)(G:Tg)(c z:Ex):Ex:=fun ρ h=>match fi ρ h with
 | .ok src ws h1=>(match Zcd src ws G c z (ρC own ix ρ) h1.length ws (h1++[.lst []]) with
  | some h2=>.ok (.ref h1.length) h2
  | none=>.no)
 | .ex w h1=>.ex w h1
 | .no=>.no
section
variable {X:Cx} {Z:Zc} {f g k:Ex} {fa:Exs} {fi:Ei} {osc:YcQ} {N own fr:List Str} {ix:List Nat} {scope:YcQ} {tg iter elt:YaQ} {ifs:List YaQ} {pos:Pos} {e c:YaQ}
def Zkc (hG:TgW (Zb T own ix σ) gg G)
  (r1:RH T φ1 h1 H1) (rs:RS T φ1 H1 ρ σ) (it:ItOk T φ1 H1 J ws (ZhK src ws)) (q:Zcd src ws G cc el (ρC own.length ix ρ) h1.length ws (h1++[.lst []])=some out) (z:Yaq) (ha:H1 z=none)
  (k:∀ φ' H',Step φ1 H1 φ' H'->RH T φ' out H'->φ'[h1.length]?=some z->Q H') :
  ZeM J (σC own ix σ) z gg (tHT (Zb T own ix σ) cc) (tH (Zb T own ix σ) el) Q (upd H1 z (.lst [])):=by
 have s0:=ZaQ (φ:=φ1) (ho:=.lst []) ha;have rb:=r1.new (o:=.lst []) ha (by unfold RO;exact ⟨[],rfl,by unfold RWs;rfl⟩);have ai:(φ1++[z])[h1.length]?=some z:=by rw[<-r1.len];simp
 refine ⟨fun i m H=>m=ws.length - i/\i<=ws.length/\∃ φ h,Step (φ1++[z]) (upd H1 z (.lst [])) φ H/\RH T φ h H/\Zcd src ws G cc el (ρC own.length ix ρ) h1.length (ws.drop i) h=some out,
  ⟨ws.length,by simp,Ycy _,_,_,Step.refl _ _,rb,q⟩,?_⟩
 rintro i m H ⟨rfl,hi,φ,h,U,rH,q⟩;have hn:=U.get ai;by_cases I:i<ws.length
 ·have ed:ws.drop i=ws[i]::ws.drop (i+1):=Yb9 I;have ei:ws[i]?=some ws[i]:=by simp[I]
  rw[ed] at q;unfold Zcd at q;by_cases Y:ZhK src ws h
  case neg=>rw[if_neg Y] at q;cases q
  rw[if_pos Y] at q;refine .inr ⟨it.go _ H _ i _ (s0.trans U) rH Y ei,fun x H' yl=>?_⟩;obtain ⟨rfl,af⟩:=it.yld _ H _ i _ x H' (s0.trans U) rH Y ei yl;cases e2:G ws[i] (ρC own.length ix ρ) with
  | none=>rw[e2] at q;cases q
  | some ρ'=>
   rw[e2] at q;simp only at q;have x0:Here (Zb T own ix σ) (σC own ix σ) H' φ h (ρC own.length ix ρ):=⟨Zch _,Zcl,rH,Zx5 (rs.step (s0.trans U))⟩;refine hG _ _ _ _ _ _ x ρ' _ x0 af e2 fun σ' ag le=>⟨le,?_⟩
   have x1:Here (Zb T own ix σ) σ' H' φ h ρ':=⟨le,Zcl,rH,ag⟩;refine ⟨_,_,ρ',x1,?_⟩;cases e3:cc ρ' h with
   | no=>rw[e3] at q;cases q
   | ex w h2=>rw[e3] at q;cases q
   | ok w h2=>
    rw[e3] at q;cases w with
    | bl b=>
     refine ⟨b,rfl,fun ac H3 s3 r3=>?_⟩;cases b with
     | false=>
      exact Zko ⟨ws.length - (i+1),by omega,rfl,I,ac,h2,U.trans s3,r3,q⟩
     | true=>
      refine Zkq ⟨_,_,ρ',x1.step s3 r3,?_⟩;simp only at q;cases e5:el ρ' h2 with
      | no=>rw[e5] at q;cases q
      | ex w h3=>rw[e5] at q;cases q
      | ok y h3=>
       rw[e5] at q;simp only at q;cases e6:h3[h1.length]? with
       | none=>rw[e6] at q;cases q
       | some ob=>
        rw[e6] at q;cases ob with
        | lst aw=>
         simp only at q;cases hz:decide (aw.length<Yai) with
         | false=>rw[hz] at q;cases q
         | true=>
          rw[hz] at q;intro ah H4 v s4 r4 ae;have aa:=s4.get (s3.get hn);obtain ⟨ho,y1,ys,rfl,y2⟩:=r4.obj h1.length (.lst aw) z e6 aa;have lw:=y2.length;have s5:=ZaF (H:=H4) (ho:=.lst (ys++[v])) (Yax aa) (ZeZ y1);have r5:=r4.set (o:=.lst (aw++[y])) (ho:=.lst (ys++[v])) aa (by unfold RO;exact ⟨_,rfl,Zcj y2 ae⟩);exact ⟨ys,y1,by rw[<-lw];exact of_decide_eq_true hz,ws.length - (i+1),by omega,rfl,I,ah,_,(U.trans s3).trans (s4.trans s5),r5,q⟩
        | _=>cases q
    | _=>cases q
 ·have e:i=ws.length:=by omega
  subst e;rw[Ydt] at q;unfold Zcd at q;by_cases Y:ZhK src ws h
  case neg=>rw[if_neg Y] at q;cases q
  rw[if_pos Y] at q;have q:=YaT q;subst q;exact .inl ⟨it.stop _ H _ (s0.trans U) rH Y,k φ H (s0.trans U) rH hn⟩
def Zkv (aa:X.N.Nodup)(af:X.N[i]?=some x)(hl:X.env.scope.names.lookup x=some .local)(ag:∀ σ v,Z.sg σ->Z.sg (σ.set i (some v)))(z:X.calm=X.calm)(ho:X.env.scope=osc)(hN:X.N=N)
  (hk:compOk osc N own fr ix scope=true) (hi:QI X Z tg iter fi) (hG:∀ σ,TgW (Zb Z.T own ix σ) gg G)
  (hg:InC X own fr scope fun Y=>QG Y tg gg) (ht:∀ σ,InC X own fr scope fun Y=>QC Y (Zb Z.T own ix σ) ifs cc) (ac:∀ σ,InC X own fr scope fun Y=>QE Y (Zb Z.T own ix σ) elt el) (hs:∀ x,Ya1 iter X.env x=pure x:=by intro _;rfl)
  (ae:YbI (.ListComp elt [⟨tg,iter,ifs,0⟩] scope pos) (some (.Name x px)) spos.line X.env=pure true:=by rfl) :
  QS X Z (.Assign [.Name x px] (.ListComp elt [⟨tg,iter,ifs,0⟩] scope pos) spos) (ZdJ (gN i) (ZcA fi own.length ix G cc el)):=⟨by
 intro pins s σ H D I q;refine Zf5 aa af hl z ho hN hk hi.pi (fun a b c d e=>(hg a b c d e).pg) (fun a b c d e=>(ht σ a b c d e).pc) (fun a b c d e=>(ac σ a b c d e).pe) hs ae pins s σ H D I ?_;obtain ⟨φ,h,ρ,x,q⟩:=q;refine ⟨φ,h,ρ,x,?_⟩;unfold ZdJ ZcA at q;cases e:fi ρ h with
 | no=>rw[e] at q;exact q.elim
 | ex w h'=>rw[e] at q;exact q
 | ok src ws h1=>
  rw[e] at q;simp only at q;cases e2:Zcd src ws G cc el (ρC own.length ix ρ) h1.length ws (h1++[.lst []]) with
  | none=>rw[e2] at q;exact q.elim
  | some out=>
   rw[e2] at q;intro φ1 H1 J s1 r1 sp it U ha;exact Zkc (hG σ) r1 (x.rs.step s1) it e2 U ha fun φ' H' s2 r2 hn=>q φ' H' _ (s1.trans s2) r2 ((x.rs.step (s1.trans s2)).set (by unfold RW;exact ⟨U,hn,rfl⟩)) (ag _ _ x.sg)⟩
end
section
variable {X:Cx} {Z:Zc} {o:YaQ} {fo:Ex} {apos pos:Pos} {qc:Bool} {k j:Nat}
def Zkz (hI:ZeI X.K Z.T)(ht:ZuN X.prog X.w X.K X.mg X.base Z.T qc k m tab)(hx:XOk X Z)(hr:Room j X.A)(Y:k<=j)(ho:QE X Z o fo)
  (U:YbT (.Call (.Attribute o m apos) [] [] pos) X.env=(do
   let ov <- YbT o X.env
   Yd7 apos.atName
   let (f,first) <- Yd8 [ov] (YdY ov m pl)
   Ye0 pos f first (Ya3 pos (Yah [] X.env)) (Ycc pos (Ybm [] X.env))):=by rfl)
  (hq:qc=true->X.calm=true:=by first | exact fun _=>rfl | (intro h;cases h)):QE X Z (.Call (.Attribute o m apos) [] [] pos) (ZcQ m tab fo Zfe):=by
 refine ⟨fun pins s σ H Q I zq=>?_⟩;obtain ⟨φ,h,ρ,x0,q⟩:=zq;refine YcE (pl:=pl) (thn (ZgD hI ht ho I x0 q) fun u s1 zq=>?_) U;obtain ⟨v,H1,z,rx,a,C,dx,fs,f,fd,ps,F,φ1,h1,n,ex,ea,c,hm,Fk,hb,l,J,ra,q1⟩:=zq;subst ex;obtain rfl:u=Yay a:=rx;refine ZdG z ea c hm l ?_;have q2:(F [.ref n] h1).post (Kv Z.T φ1 H1 Q) Z.xw:=q1;exact YdF (first:=[.ref a]) z.kIn hm.kp (Zgk (us:=[.ref a]) (vs:=[.ref a]) Fk hx (hr.mono Y) hq hb z (.cons rfl .nil) J.sg J.st J.rh (by unfold RWs;exact ⟨_,_,rfl,ra,by unfold RWs;rfl⟩) q2)
end
end M
namespace L2
open PySem PySem.Spec PyProof.Rows
noncomputable def Itd (ob:Obj)(a:Yaq)(kvs:List (Key×V)):It:=⟨fun i H=>H a=some (.frz ob (.dK kvs))/\i<kvs.length,fun i H x H'=>H'=H/\∃ kv,kvs[i]?=some kv/\x=kV kv.1,fun i H=>H a=some (.frz ob (.dK kvs))/\kvs.length<=i⟩
def TnD (ob:Obj)(a it:Yaq)(n:Nat)(i:Nat)(h:YbO):Prop:=∃ es ep,ob.data=.dict es ep/\h.IsKeyIter it a i n ep
section
variable {X:Cx} {pins:List (Yaq×Obj)} {σ:St} {H:Hp} {s:Yaj} {a:Yaq} {ob:Obj} {kvs:List (Key×V)}
def Zgl (I:Inv X pins σ H s)(e:H a=some (.frz ob (.dK kvs)))(U:ob.data=.dict es ep):∃ vs,KV kvs vs/\s.heap.DictAt (Zao X.prog X.w) a vs ep:=by
 obtain ⟨h1,_,_,vs,z,o,aa,ac,h2,h3,J,Y⟩:=(show ObjOk X.prog X.w H s.heap a (.frz ob (.dK kvs)) from I.hok a _ e);rw[h1] at h2;cases h2;rw[U] at J;cases J;exact ⟨vs,z,ob,es,h1,h3,U,Y⟩
theorem ZrV:∀ {kvs:List (Key×V)} {vs:List (Key×Yag)} {i:Nat} {kv:Key×V},KV kvs vs->kvs[i]?=some kv->∃ x,vs[i]?=some (kv.1,x)
 | [],_,_,_,_,e=>by simp at e
 | p::kvs,vs,i,kv,r,e=>by
  cases r with
  | @cons _ q _ l h t=>
   cases i with
   | zero=>
    simp only[Yc9,Yd4] at e ⊢;subst e;exact ⟨q.2,by rw[h.1]⟩
   | succ i=>
    simp only[Yda] at e ⊢;exact ZrV t e
def ZoZ (h:(Zao P w).is k v=true):RelV (kV k) v:=by
 rcases Zal h with ⟨i,t,rfl,rfl⟩|⟨y,t,rfl,rfl⟩
 ·exact ⟨t,rfl⟩
 ·exact ⟨t,rfl⟩
theorem Zkh {P:YaN}{w:Ybg}{K:Yab}{tg:YaQ}(ob:Obj)(a it:Yaq)(kvs:List (Key×V)):Turn P w K tg (Itd ob a kvs) [it] it (TnD ob a it kvs.length) true where
 mem:=by simp
 obj:=fun i h st b hb=>by
  have e:b=it:=by simpa using hb
  subst e;obtain ⟨_,_,_,o,e,c,d⟩:=st;exact ⟨o,e,fun v z=>by rw[d] at z;cases z⟩
 keep:=fun i h h' st k=>by
  obtain ⟨es,ep,hd,J⟩:=st;exact ⟨es,ep,hd,J.at fun o e=>k it (by simp) o e⟩
 item:=by
  intro X hP hw hK hc i pins s σ H E I hf st hg;subst hP hw hK;obtain ⟨es,ep,hd,J⟩:=st;obtain ⟨e,hi⟩:=hg;obtain ⟨vs,Y,hm⟩:=Zgl I e hd;obtain ⟨kv,aa⟩:∃ kv,kvs[i]?=some kv:=⟨kvs[i],by simp[hi]⟩;obtain ⟨x,hx⟩:=ZrV Y aa;obtain ⟨f0,f1,f2,f3,f4,f5⟩:=hf it (by simp);have hl:=Y.length;rw[hl] at J;refine wpAny_pyNext_dict_item J hm hx fun ac h' hk U sb=>?_
  have I1:Inv X pins σ H { s with heap:=h' }:=I.turned (t':=s.toks) (fun b o hb e=>(sb.2 b hb).trans e) f0 f1 f3 f4 f5;obtain ⟨o,e1,c,d⟩:=id U;rw[<-hl] at U;exact ⟨ac,rfl,ZkE (s:={ s with heap:=h' }) e1 c d (by decide) ⟨kV kv.1,H,I1,ZoZ hk,⟨rfl,kv,aa,rfl⟩,⟨es,ep,hd,U⟩,fun b hb=>(hf b hb).1⟩⟩
 done:=by
  intro X hP hw hK hc i pins s σ H E I hf st hg;subst hP hw hK;obtain ⟨es,ep,hd,J⟩:=st;obtain ⟨e,hi⟩:=hg;obtain ⟨vs,Y,hm⟩:=Zgl I e hd;obtain ⟨f0,f1,f2,f3,f4,f5⟩:=hf it (by simp);have hl:=Y.length;rw[hl] at J;exact wpAny_pyNext_dict_end (I.ok.hd (hc rfl)) J hm (by rw[List.getElem?_eq_none_iff];omega) fun h' eb=>⟨rfl,I.turned (t':=s.toks) (fun b o hb e=>eb b o hb e) f0 f1 f3 f4 f5⟩
 self:=fun _ _ _ _ _ st h=>by
  obtain ⟨es,ep,hd,J⟩:=st;exact wpAny_pyIter_keyiter J h
def Zs2 (I:Inv X pins σ H s)(e:H a=some (.dK kvs))(ho:s.heap.get? a=some ob):Inv X pins σ (upd H a (.frz ob (.dK kvs))) s:=
 I.write (t':=s.toks) (h':=s.heap) (o:=.frz ob (.dK kvs)) (by rw[e];trivial) (.inl rfl) (fun b u _ q=>q) ⟨ob,ho⟩ ⟨ho,(show ObjOk X.prog X.w H s.heap a (.dK kvs) from I.hok a _ e)⟩
def Zsj (I:Inv X pins σ H s)(e:H a=some (.dK kvs)):∀ o u,X.H₀ a≠some (.frz o u):=fun o u z=>by
 have:=I.base.frzs a o u z;rw[e] at this;cases this
def Zye (I:Inv X pins σ H s)(e:H a=some (.frz ob (.dK kvs)))(h0:∀ o u,X.H₀ a≠some (.frz o u)):Inv X pins σ (upd H a (.dK kvs)) s:=by
 have U:∀ b,H b=none->b≠a:=fun b q z=>by subst z;rw[e] at q;cases q
 refine ⟨I.ok,I.os,I.bare,⟨I.base.keep,I.base.slot,fun b J q n Y=>?_,I.base.there,fun b xs q=>?_,fun b J u q=>?_,fun b ps q=>?_⟩,I.loc,I.cell,?_,fun x c q=>?_,fun p hp=>?_,fun b u q=>?_,I.len⟩
 ·have:=I.base.free b J q n Y;rw[Zab (U b this)];exact this
 ·have:=I.base.tups b xs q;rw[Zab (fun z=>by subst z;rw[e] at this;cases this)];exact this
 ·have:=I.base.frzs b J u q;rw[Zab (fun z=>by subst z;exact h0 _ _ q)];exact this
 ·obtain ⟨more,this⟩:=I.base.tbls b ps q;exact ⟨more,by rw[Zab (fun z=>by subst z;rw[e] at this;cases this)];exact this⟩
 ·rw[Zab (U _ I.free)];exact I.free
 ·rw[Zab (U _ (I.freeC x c q))];exact I.freeC x c q
 ·obtain ⟨e1,n,r⟩:=I.pin p hp;exact ⟨e1,by rw[Zab (U _ n)];exact n,r⟩
 ·by_cases z:b=a
  ·subst z;rw[Zae] at q;cases q;exact (show ObjOk X.prog X.w H s.heap b (.frz ob (.dK kvs)) from I.hok b _ e).2
  ·rw[Zab z] at q;refine (I.hok b u q).stay (fun c v _ r=>r) (fun c r=>?_) fun c xs r=>?_
   ·rw[Zab (fun z=>by subst z;rw[e] at r;cases r)];exact r
   ·rw[Zab (fun z=>by subst z;rw[e] at r;cases r)];exact r
def Zu3 (X:Cx)(tl:TE):TI:=fun σ H R=>tl σ H fun x H1=>∃ a kv,x=.ref a/\((H1 a=some (.dK kv)/\∀ ob,(∀ o u,X.H₀ a≠some (.frz o u))->R (Itd ob a kv) (upd H1 a (.frz ob (.dK kv))))\/∃ ob,H1 a=some (.frz ob (.dK kv))/\R (Itd ob a kv) H1)
def ZjL {l tg:YaQ}{tl:TE}(hc:X.calm=true)(hl:PE X l tl):PI X tg l (Zu3 X tl):=by
 intro pins s σ H R I h;refine thn (hl pins s σ H _ I h) fun v s1 zq=>?_
 obtain ⟨x,H1,Y,r1,q1⟩:=zq;obtain ⟨a,kv,ex,q1⟩:=q1;subst ex;cases r1;have fin:∀ (H2:Hp) (ob:Obj),Inv X pins σ H2 s1->H2 a=some (.frz ob (.dK kv))->R (Itd ob a kv) H2->YaF (YaJ X.prog X.w) X.A (pyIter (.ref a)) (PIE X pins σ tg R) X.xe s1:=fun H2 ob U e q=>by
  obtain ⟨h1,hz,lo,vs,ac,o,es,ep,h2,h3⟩:=(show ObjOk X.prog X.w H2 s1.heap a (.frz ob (.dK kv)) from U.hok a _ e);have J:=h2;rw[h1] at J;cases J;have aa:s1.heap.DictAt (Zao X.prog X.w) a vs ep:=⟨ob,es,h1,h3⟩;refine wpAny_pyIter_dict lo aa ?_;refine ⟨s1.heap.objs.size,[s1.heap.objs.size],_,_,H2,rfl,U.kept (t':=s1.toks) fun b o e=>Yad _ e,⟨true,fun _=>hc,Zkh ob a _ kv⟩,⟨es,ep,h3.2.1,⟨_,YaC _ rfl,rfl,by rw[ac.length];rfl⟩⟩,fun b hb=>?_,q⟩;have e:b=s1.heap.objs.size:=by simpa using hb
  subst e;exact U.fpOk (Yak _) (U.hok.fresh (Yak _))
 rcases q1 with ⟨z,q⟩|⟨ob,z,q⟩
 ·obtain ⟨_,_,vs,_,o,es,ep,ho,_⟩:=(show ObjOk X.prog X.w H1 s1.heap a (.dK kv) from Y.hok a _ z);exact fin _ o (Zs2 Y z ho) Zae (q o (Zsj Y z))
 ·exact fin _ ob Y z q
end
end L2
namespace M
open PySem PySem.Spec PyProof.Rows L2
theorem RS.step0 (s:Step0 φ H φ' H')(r:RS T φ H ρ σ):RS T φ' H' ρ σ:=⟨r.len,fun i w e=>by
 obtain ⟨v,a,b⟩:=r.var i w e;exact ⟨v,a,b.step0 s⟩⟩
noncomputable def Zc6 (n:Nat)(h:Mem):Option Mem:=match h[n]? with
 | some (.fdic kvs)=>some (h.set n (.dic kvs))
 | _=>none
def Zv3 (n:Nat):Out->Out
 | .nx ρ h=>(match Zc6 n h with
  | some h'=>.nx ρ h'
  | none=>.no)
 | .rt w h=>(match Zc6 n h with
  | some h'=>.rt w h'
  | none=>.no)
 | _=>.no
noncomputable def ZtJ:Out->Out
 | .nx ρ h=>.nx ρ h
 | .rt w h=>.rt w h
 | _=>.no
def ZhS (f:Ex)(G:Tg)(B:Sm):Sm:=fun ρ h=>match f ρ h with
 | .ok (.ref n) h1=>(match h1[n]? with
  | some (.dic kvs)=>Zv3 n (ZbN G B (Zax kvs) ρ (h1.set n (.fdic kvs)))
  | some (.fdic kvs)=>ZtJ (ZbN G B (Zax kvs) ρ h1)
  | _=>.no)
 | .ex w h1=>.ex w h1
 | _=>.no
section
variable {T:CTb} {φ φ1 φ2:List Yaq} {H H1 H2:Hp} {h h1 h2:Mem} {a:Yaq} {n:Nat} {ob:Obj} {kv:List (Key×V)} {kvs:List (Key×W)}
def ZgQ (r:RH T φ h H)(x:RW T φ H (.ref n) v)(e:h[n]?=some (.fdic kvs)):∃ a ob kv,v=.ref a/\φ[n]?=some a/\H a=some (.frz ob (.dK kv))/\RP T φ H kvs kv:=by
 unfold RW at x;obtain ⟨a,z,rfl⟩:=x;obtain ⟨ho,y,ob,kv,rfl,I⟩:=r.obj n _ a e z;exact ⟨a,ob,kv,rfl,z,y,I⟩
theorem Zmy:∀ {kvs:List (Key×W)} {kv:List (Key×V)} {i:Nat} {w:W},RP T φ H kvs kv->(Zax kvs)[i]?=some w->∃ p,kv[i]?=some p/\RW T φ2 H2 w (kV p.1)
 | [],_,_,_,_,e=>by simp[Zax] at e
 | q::kvs,kv,i,w,r,e=>by
  cases r with
  | @cons _ z _ l I t=>
   unfold Zax at e;rw[Yap] at e;cases i with
   | zero=>
    simp only[Yc9,Yd4] at e ⊢;refine ⟨z,rfl,?_⟩;rw[<-e,<-I.1];cases q.1<;>(unfold RW;rfl)
   | succ i=>
    simp only[Yda] at e ⊢;exact Zmy t e
def Zgu (e:H1 a=some (.frz ob (.dK kv)))(Y:RP T φ1 H kvs kv):ItOk T φ1 H1 (Itd ob a kv) (Zax kvs) fun _=>True:=by
 have U:(Zax kvs).length=kv.length:=by rw[show (Zax kvs).length=kvs.length by simp[Zax]];exact Zbf Y
 refine ⟨fun φ2 H2 h2 i w s r _ I=>⟨s.fr _ _ _ e,?_⟩,fun φ2 H2 h2 i w x H' s r _ I yl=>?_,fun φ2 H2 h2 s r _=>⟨s.fr _ _ _ e,by rw[U];exact Yak _⟩⟩
 ·rw[<-U];exact (YaA.mp I).1
 ·obtain ⟨rfl,p,ep,rfl⟩:=yl;obtain ⟨p',z,J⟩:=Zmy (T:=T) (φ2:=φ2) (H2:=H') Y I;rw[ep] at z;cases z;exact ⟨rfl,J⟩
def ZeE (s:Step φ1 (upd H1 a (.frz ob (.dK kv))) φ2 H2)(m:a∈φ1)(e:H1 a=some (.dK kv)):Step φ1 H1 φ2 (upd H2 a (.dK kv)):=by
 have U:a∈φ2:=s.pre.subset m;refine ⟨((Za2 (ho:=.frz ob (.dK kv)) m).trans s.toStep0).trans (Za2 U),fun b o u J=>?_⟩;have I:b≠a:=fun z=>by subst z;rw[e] at J;cases J
 rw[Zab I];refine s.fr b o u ?_;rw[Zab I];exact J
def Zki (r:RH T φ2 h2 H2)(q:φ2[n]?=some a)(e:H2 a=some (.frz ob (.dK kv)))(t:Zc6 n h2=some h3):RH T φ2 h3 (upd H2 a (.dK kv)):=by
 unfold Zc6 at t;split at t
 ·rename_i kvs z;cases t;obtain ⟨ho,y,J,I,rfl,U⟩:=r.obj n _ a z q;rw[e] at y;cases y;exact r.set q ⟨kv,rfl,U⟩
 ·cases t
end
section
variable {X:Cx} {Z:Zc} {B:Sm} {f:Ex} {tg iter:YaQ} {sts:List Yce} {pos:Pos}
def ZlZ (X:Cx)(Q:Hp->Prop)(H:Hp):Prop:=Q H\/∃ a ob kv,H a=some (.frz ob (.dK kv))/\(∀ o u,X.H₀ a≠some (.frz o u))/\Q (upd H a (.dK kv))
def ZcE (I:Inv X pins σ H s)(m:ZlZ X Q H):∃ H',Inv X pins σ H' s/\Q H':=by
 rcases m with q|⟨a,ob,kv,e,n,q⟩
 ·exact ⟨H,I,q⟩
 ·exact ⟨_,Zye I e n,q⟩
def Zph (hw:TgW Z gg Gt)(hp:Yek (YaJ X.prog X.w) X.A X.env X.xe)(hc:X.calm=true)(hi:QE X Z iter f)(hg:QG X tg gg)(hb:QB X Z sts B)(hs:∀ x,Ya1 iter X.env x=pure x:=by intro _;rfl) :
  QS X Z (.For tg iter sts [] pos) (ZhS f Gt B):=⟨by
 intro pins s σ H D I q;refine Ya6 (ZmO hp rfl (ZjL hc hi.pe) hg.pg hb.ps hs pins s σ H { nx:=fun σ' H'=>ZlZ X (D.nx σ') H',rt:=fun v H'=>ZlZ X (D.rt v) H' } I ?_) (fun fl s1 sp=>?_) fun _ _ z=>z
 ·obtain ⟨φ,m,ρ,x,q⟩:=q;refine ⟨φ,m,ρ,x,?_⟩;unfold ZhS at q;cases e:f ρ m with
  | no=>rw[e] at q;exact q.elim
  | ex w h'=>rw[e] at q;exact q
  | ok w h1=>
   rw[e] at q;intro φ1 H1 v s1 r1 ra;cases w with
   | ref n=>
    dsimp only at q;cases e2:h1[n]? with
    | none=>rw[e2] at q;exact q.elim
    | some o=>
     rw[e2] at q;cases o with
     | dic kvs=>
      dsimp only at q;obtain ⟨a,kv,rfl,ea,ya,rp⟩:=ZdY r1 ra e2;refine ⟨a,kv,rfl,.inl ⟨ya,fun ob nf=>?_⟩⟩;have sf:=ZaF (H:=H1) (ho:=.frz ob (.dK kv)) (Yax ea) (Zjz ya);have rf:=r1.set (o:=.fdic kvs) (ho:=.frz ob (.dK kv)) ea ⟨ob,kv,rfl,rp⟩;refine Zfg hw (x.step (s1.trans sf) rf) (Zgu Zae rp) ?_;have ac:∀ φ2 H2 h2 h3,Step φ1 (upd H1 a (.frz ob (.dK kv))) φ2 H2->RH Z.T φ2 h2 H2->Zc6 n h2=some h3->H2 a=some (.frz ob (.dK kv))/\Step φ H φ2 (upd H2 a (.dK kv))/\RH Z.T φ2 h3 (upd H2 a (.dK kv))/\Step0 φ2 H2 φ2 (upd H2 a (.dK kv)):=fun φ2 H2 h2 h3 st r t=>by
       have e3:=st.fr a ob _ Zae;have en:=st.get ea;exact ⟨e3,s1.trans (ZeE st (Yax ea) ya),Zki r en e3 t,Za2 (Yax en)⟩
      cases U:ZbN Gt B (Zax kvs) ρ (h1.set n (.fdic kvs)) with
      | nx ρ' h'=>
       rw[U] at q;unfold Zv3 at q;dsimp only at q;cases Y:Zc6 n h' with
       | none=>rw[Y] at q;exact q.elim
       | some h3=>
        rw[Y] at q;intro φ2 H2 aa st r rs sg;obtain ⟨k1,k2,k3,k4⟩:=ac φ2 H2 h' h3 st r Y;exact .inr ⟨a,ob,kv,k1,nf,q φ2 _ aa k2 k3 (rs.step0 k4) sg⟩
      | rt w h'=>
       rw[U] at q;unfold Zv3 at q;dsimp only at q;cases Y:Zc6 n h' with
       | none=>rw[Y] at q;exact q.elim
       | some h3=>
        rw[Y] at q;intro φ2 H2 v st r rv;obtain ⟨k1,k2,k3,k4⟩:=ac φ2 H2 h' h3 st r Y;exact .inr ⟨a,ob,kv,k1,nf,q φ2 _ v k2 k3 (rv.step0 k4)⟩
      | bk ρ' h'=>rw[U] at q;exact q.elim
      | ct ρ' h'=>rw[U] at q;exact q.elim
      | ex w h'=>rw[U] at q;exact q.elim
      | no=>rw[U] at q;exact q.elim
     | fdic kvs=>
      dsimp only at q;obtain ⟨a,ob,kv,rfl,ea,ya,rp⟩:=ZgQ r1 ra e2;refine ⟨a,kv,rfl,.inr ⟨ob,ya,?_⟩⟩;refine Zfg hw (x.step s1 r1) (Zgu ya rp) ?_;cases U:ZbN Gt B (Zax kvs) ρ h1 with
      | nx ρ' h'=>rw[U] at q;exact fun φ2 H2 aa st r rs sg=>.inl (q φ2 H2 aa (s1.trans st) r rs sg)
      | rt w h'=>rw[U] at q;exact fun φ2 H2 v st r rv=>.inl (q φ2 H2 v (s1.trans st) r rv)
      | bk ρ' h'=>rw[U] at q;exact q.elim
      | ct ρ' h'=>rw[U] at q;exact q.elim
      | ex w h'=>rw[U] at q;exact q.elim
      | no=>rw[U] at q;exact q.elim
     | _=>exact q.elim
   | _=>exact q.elim
 ·cases fl with
  | next=>
   obtain ⟨σ',H',J,z⟩:=sp;obtain ⟨H2,J2,z2⟩:=ZcE J z;exact ⟨σ',H2,J2,z2⟩
  | brk=>obtain ⟨σ',H',J,z⟩:=sp;exact z.elim
  | cont=>obtain ⟨σ',H',J,z⟩:=sp;exact z.elim
  | ret u=>
   obtain ⟨v,σ',H',J,rv,z⟩:=sp;obtain ⟨H2,J2,z2⟩:=ZcE J z;exact ⟨v,σ',H2,J2,rv,z2⟩⟩
def Zds (f:Ex)(own:Nat)(ix:List Nat)(G:Tg)(c z:Ex):Ex:=fun ρ h=>match f ρ h with
 | .ok (.ref n) h1=>(match h1[n]? with
  | some (.dic kvs)=>if (Zax kvs).length<Yai then (match ZdZ G c z (ρC own ix ρ) (h1.set n (.fdic kvs)) (Zax kvs) [] with
   | some out=>.ok (.tl out) h1
   | none=>.no) else .no
  | some (.fdic kvs)=>if (Zax kvs).length<Yai then (match ZdZ G c z (ρC own ix ρ) h1 (Zax kvs) [] with
   | some out=>.ok (.tl out) h1
   | none=>.no) else .no
  | _=>.no)
 | .ex w h1=>.ex w h1
 | _=>.no
def ZlN {h:Mem}{n:Nat}{o o':O}(e:h[n]?=some o):(h.set n o').set n o=h:=by
 rw[List.set_set];obtain ⟨z,q⟩:=YaA.mp e;rw[<-q];exact List.set_getElem_self z
def Zlz {osc:YcQ}{N own fr:List Str}{ix:List Nat}{scope:YcQ}{elt:YaQ}{ifs:List YaQ}{gg:TG}{G:Tg}{cc el:Ex}{i:Nat}{x:Str}{px U:Pos}(ai:X.N.Nodup)(ah:X.N[i]?=some x)(hl:X.env.scope.names.lookup x=some .local)(ae:∀ σ v,Z.sg σ->Z.sg (σ.set i (some v)))(aa:X.calm=true)(ho:X.env.scope=osc)(hN:X.N=N)
  (hk:compOk osc N own fr ix scope=true) (hi:QE X Z iter f) (hG:∀ σ,TgW (Zb Z.T own ix σ) gg G) [hc:Pu cc] [he:Pu el]
  (hg:InC X own fr scope fun Y=>QG Y tg gg) (ht:∀ σ,InC X own fr scope fun Y=>QC Y (Zb Z.T own ix σ) ifs cc) (af:∀ σ,InC X own fr scope fun Y=>QE Y (Zb Z.T own ix σ) elt el) (hs:∀ x,Ya1 iter X.env x=pure x:=by intro _;rfl)
  (ag:YbI (.ListComp elt [⟨tg,iter,ifs,0⟩] scope pos) (some (.Name x px)) U.line X.env=pure true:=by rfl) :
  QS X Z (.Assign [.Name x px] (.ListComp elt [⟨tg,iter,ifs,0⟩] scope pos) U) (ZdJ (gN i) (Zds f own.length ix G cc el)):=⟨by
 intro pins s σ H D I q;refine Ya6 (Zf5 ai ah hl rfl ho hN hk (ZjL aa hi.pe) (fun a b c d e=>(hg a b c d e).pg) (fun a b c d e=>(ht σ a b c d e).pc) (fun a b c d e=>(af σ a b c d e).pe) hs ag pins s σ H { nx:=fun σ' H'=>ZlZ X (D.nx σ') H',rt:=fun v H'=>False } I ?_) (fun fl s1 sp=>?_) fun _ _ z=>z
 ·obtain ⟨φ,h,ρ,y,q⟩:=q;refine ⟨φ,h,ρ,y,?_⟩;unfold ZdJ Zds at q;cases e:f ρ h with
  | no=>rw[e] at q;exact q.elim
  | ex w h'=>rw[e] at q;exact q
  | ok w h1=>
   rw[e] at q;intro φ1 H1 v s1 r1 ra;cases w with
   | ref n=>
    dsimp only at q;cases e2:h1[n]? with
    | none=>rw[e2] at q;exact q.elim
    | some o=>
     rw[e2] at q;cases o with
     | dic kvs=>
      dsimp only at q;by_cases hz:(Zax kvs).length<Yai
      ·rw[if_pos hz] at q;obtain ⟨a,kv,rfl,ea,ya,rp⟩:=ZdY r1 ra e2;refine ⟨a,kv,rfl,.inl ⟨ya,fun ob nf ac ha=>?_⟩⟩;have sf:=ZaF (H:=H1) (ho:=.frz ob (.dK kv)) (Yax ea) (Zjz ya);have rf:=r1.set (o:=.fdic kvs) (ho:=.frz ob (.dK kv)) ea ⟨ob,kv,rfl,rp⟩;cases e3:ZdZ G cc el (ρC own.length ix ρ) (h1.set n (.fdic kvs)) (Zax kvs) [] with
       | none=>rw[e3] at q;exact q.elim
       | some out=>
        rw[e3] at q;refine Zgi (src:=none) (hG σ) hz rf (y.rs.step (s1.trans sf)) trivial (Zgu Zae rp) e3 ac ha fun H' s2 r2 w2=>?_
        have e4:=s2.fr a ob _ Zae;have hn:n<h1.length:=(YaA.mp e2).1;have rb:=Zki (h3:=h1) r2 ea e4 (by unfold Zc6;rw[Ycr hn];dsimp only;rw[ZlN e2]);have k2:=s1.trans (ZeE s2 (Yax ea) ya);exact .inr ⟨a,ob,kv,e4,nf,q φ1 _ _ k2 rb ((y.rs.step k2).set (w2.step0 (Za2 (Yax ea)))) (ae _ _ y.sg)⟩
      ·rw[if_neg hz] at q;exact q.elim
     | fdic kvs=>
      dsimp only at q;by_cases hz:(Zax kvs).length<Yai
      ·rw[if_pos hz] at q;obtain ⟨a,ob,kv,rfl,ea,ya,rp⟩:=ZgQ r1 ra e2;refine ⟨a,kv,rfl,.inr ⟨ob,ya,fun ac ha=>?_⟩⟩;cases e3:ZdZ G cc el (ρC own.length ix ρ) h1 (Zax kvs) [] with
       | none=>rw[e3] at q;exact q.elim
       | some out=>
        rw[e3] at q;exact Zgi (src:=none) (hG σ) hz r1 (y.rs.step s1) trivial (Zgu ya rp) e3 ac ha fun H' s2 r2 w2=>.inl (q φ1 H' _ (s1.trans s2) r2 ((y.rs.step (s1.trans s2)).set w2) (ae _ _ y.sg))
      ·rw[if_neg hz] at q;exact q.elim
     | _=>exact q.elim
   | _=>exact q.elim
 ·cases fl with
  | next=>
   obtain ⟨σ',H',J,z⟩:=sp;obtain ⟨H2,J2,z2⟩:=ZcE J z;exact ⟨σ',H2,J2,z2⟩
  | brk=>obtain ⟨σ',H',J,z⟩:=sp;exact z.elim
  | cont=>obtain ⟨σ',H',J,z⟩:=sp;exact z.elim
  | ret u=>obtain ⟨v,σ',H',J,rv,z⟩:=sp;exact z.elim⟩
end
def Ziy (f g:Ex):Ex:=fun ρ h=>match f ρ h with
 | .ok (.ref n) h1=>(match h1[n]? with
  | some (.dic _)=>(match g ρ h1 with
   | .ok b h2=>(match h2[n]?,ZcO b with
    | some (.dic kvs),some k=>(match ZhJ kvs k with
     | some w=>.ok w (h2.set n (.dic (ZfR kvs k)))
     | none=>.no)
    | _,_=>.no)
   | .ex w h2=>.ex w h2
   | .no=>.no)
  | _=>.no)
 | .ex w h1=>.ex w h1
 | _=>.no
section
variable {X:Cx} {Z:Zc} {f g:Ex} {o e:YaQ} {apos cpos:Pos}
def Zta (ho:QE X Z o f)(he:QE X Z e g)(m:M1 X o "pop" apos e cpos):QE X Z (.Call (.Attribute o "pop" apos) [e] [] cpos) (Ziy f g):=
 ⟨(ZlM ho.pe he.pe m).imp fun σ H Q ⟨φ,h,ρ,x,q⟩=>⟨φ,h,ρ,x,by
  unfold Ziy at q;cases e1:f ρ h with
  | no=>rw[e1] at q;exact q.elim
  | ex w h'=>rw[e1] at q;exact q
  | ok a h1=>
   rw[e1] at q;intro φ1 H1 v s1 r1 ra;cases a with
   | ref n=>
    dsimp only at q;cases e2:h1[n]? with
    | none=>rw[e2] at q;exact q.elim
    | some ob=>
     rw[e2] at q;cases ob with
     | dic ac=>
      dsimp only at q;obtain ⟨p,aa,rfl,ep,yp,ae⟩:=ZdY r1 ra e2;refine ⟨p,rfl,.inl ⟨aa,.inl yp⟩,φ1,h1,ρ,x.step s1 r1,?_⟩;cases Y:g ρ h1 with
      | no=>rw[Y] at q;exact q.elim
      | ex w h'=>rw[Y] at q;exact q
      | ok b h2=>
       rw[Y] at q;intro φ2 H2 vb s2 r2 rb;dsimp only at q;cases e4:h2[n]? with
       | none=>rw[e4] at q;exact q.elim
       | some U=>
        rw[e4] at q;cases U with
        | dic kvs=>
         cases J:ZcO b with
         | none=>rw[J] at q;exact q.elim
         | some k=>
          rw[J] at q;dsimp only at q;cases e6:ZhJ kvs k with
          | none=>rw[e6] at q;exact q.elim
          | some w=>
           rw[e6] at q;have I:=s2.get ep;obtain ⟨af,y,kv,rfl,rp⟩:=r2.obj n _ p e4 I;have hk:=ZcK rb J;subst hk;have gg:=ZfM rp k;rw[e6] at gg;cases ev:Zck kv k with
           | none=>rw[ev] at gg;exact gg.elim
           | some z=>
            rw[ev] at gg;have s3:=ZaF (H:=H2) (ho:=.dK (ZdN kv k)) (Yax I) (Zjz y);have r3:=r2.set (o:=.dic (ZfR kvs k)) (ho:=.dK (ZdN kv k)) I ⟨_,rfl,ZjK rp⟩;exact ⟨kv,k,z,y,rfl,ev,q φ2 _ z (s1.trans (s2.trans s3)) r3 (RW.step s3 gg)⟩
        | _=>exact q.elim
     | _=>exact q.elim
   | _=>exact q.elim⟩⟩
end
noncomputable def Zc9 (ns:List Int):List Int:=ns.mergeSort fun a b=>decide (a<=b)
def Zgz (ns:List Int):(Zc9 ns).Pairwise (· <= ·):=by
 have h:=List.pairwise_mergeSort (le:=fun a b:Int=>decide (a<=b)) (fun a b c h1 h2=>by simp at *;omega) (fun a b=>by simp;omega) ns;exact h.imp fun q=>by simpa using q
def Zbo (ns:List Int):(Zc9 ns).Perm ns:=List.mergeSort_perm ..
theorem ZcP:∀ {a b:List Int},a.Perm b->a.Pairwise (· <= ·)->b.Pairwise (· <= ·)->a=b
 | [],b,p,_,_=>by have:=p.length_eq;cases b with
  | nil=>rfl
  | cons _ _=>simp at this
 | x::a,[],p,_,_=>by have:=p.length_eq;simp at this
 | x::a,y::b,p,U,J=>by
  have Y:x∈y::b:=p.mem_iff.mp YaD;have hy:y∈x::a:=p.mem_iff.mpr YaD;have z:x<=y:=by
   rcases Yaz.mp hy with e|e
   ·rw[e];exact Int.le_refl _
   ·exact (YbB.mp U).1 y e
  have I:y<=x:=by
   rcases Yaz.mp Y with e|e
   ·rw[e];exact Int.le_refl _
   ·exact (YbB.mp J).1 x e
  have e:x=y:=by omega
  subst e;rw[ZcP (List.Perm.cons_inv p) (YbB.mp U).2 (YbB.mp J).2]
def Znv (p:a.Perm ns)(o:a.Pairwise (· <= ·)):a=Zc9 ns:=ZcP (p.trans (Zbo ns).symm) o (Zgz ns)
noncomputable def ZaN:List (Key×W)->Option (List Int)
 | []=>some []
 | (.inl i,_)::r=>(ZaN r).map (i :: ·)
 | _::_=>none
def ZcU (h:Mem)(w:W):Option (List Int):=match Zbu h w with
 | some kvs=>ZaN kvs
 | none=>(items h w).bind Zc5
def Zgc:List (Key×V)->Option (List Int)
 | []=>some []
 | (.inl i,_)::r=>(Zgc r).map (i :: ·)
 | _::_=>none
theorem ZgV:∀ {kvs:List (Key×W)} {kv:List (Key×V)} {ns:List Int},RP T φ H kvs kv->ZaN kvs=some ns->Zgc kv=some ns
 | [],kv,ns,r,e=>by cases r;exact e
 | p::kvs,kv,ns,r,e=>by
  cases r with
  | @cons _ z _ l h q=>
   obtain ⟨k,w⟩:=p;obtain ⟨I,v⟩:=z;have J:k=I:=h.1;subst J;cases k with
   | inr x=>cases e
   | inl i=>
    unfold ZaN at e;rw[Yar] at e;obtain ⟨U,e,rfl⟩:=e;unfold Zgc;rw[ZgV q e];rfl
theorem Zg3:∀ {kv:List (Key×V)} {ns:List Int},Zgc kv=some ns->kv.map (fun q=>kV q.1)=ns.map V.int
 | [],ns,e=>by cases e;rfl
 | (.inl i,v)::kv,ns,e=>by
  unfold Zgc at e;rw[Yar] at e;obtain ⟨z,e,rfl⟩:=e;rw[Yap,Yap,Zg3 e];rfl
 | (.inr x,v)::kv,ns,e=>by cases e
def ZiY:List V->Hp->VK->Prop:=fun vs H Q=>∃ p ns,vs=[.ref p]/\ns.length<64/\((Zam H p=some (ns.map V.int))\/∃ kv,Rd H p (.dK kv)/\Zgc kv=some ns)/\∀ l,H l=none->Q (.ref l) (upd H l (.lst ((Zc9 ns).map V.int)))
def _root_.L2.ObjOk.live (x:ObjOk P w H h a o):∃ u,h.get? a=some u:=by
 cases o with
 | lst xs=>obtain ⟨_,_,_,_,e⟩:=x;exact ⟨_,e⟩
 | tup xs=>obtain ⟨_,_,_,ob,e,_⟩:=x;exact ⟨_,e⟩
 | dK kvs=>obtain ⟨_,_,_,_,o,_,_,e,_⟩:=x;exact ⟨_,e⟩
 | dT kvs=>obtain ⟨_,_,_,_,o,_,_,e,_⟩:=x;exact ⟨_,e⟩
 | set S n=>obtain ⟨o,_,_,_,e,_⟩:=x;exact ⟨_,e⟩
 | ins C dx fs=>obtain ⟨_,_,_,e,_⟩:=x;exact ⟨_,e⟩
 | own y=>exact x
 | xd fs=>obtain ⟨_,⟨_,_,_,e,_⟩,_⟩:=x;exact ⟨_,e⟩
 | rng lo hi=>obtain ⟨_,_,_,e⟩:=x;exact ⟨_,e⟩
 | frz ob u=>obtain ⟨e,_⟩:=x;exact ⟨_,e⟩
 | tbl ps=>exact ⟨_,x⟩
 | met f y=>exact ⟨_,x⟩
 | ext φ=>obtain ⟨_,e,_⟩:=x;exact e
def ZtQ (I:Inv X pins σ H s)(k:∀ b u,s.heap.get? b=some u->h'.get? b=some u)(Y:s.heap.get? a=none)(U:ObjOk X.prog X.w (upd H a o) h' a o) :
  H a=none/\Inv X pins σ (upd H a o) { s with heap:=h',toks:=t' }:=by
 have J:H a=none:=by
  cases e:H a with
  | none=>rfl
  | some u=>obtain ⟨v,q⟩:=(I.hok a u e).live;rw[Y] at q;cases q
 have nb:∀ b u,s.heap.get? b=some u->b≠a:=fun b u q z=>by subst z;rw[Y] at q;cases q
 refine ⟨J,I.un ⟨fun b u q _ _ _=>k b u q,fun b u q _ _ _=>⟨u.slots,k b u q⟩,fun b u q n _=>by rw[Zab (nb b u q)];exact n,fun b u q _=>⟨u,k b u q⟩,fun b xs q=>by rw[Zab (Zag q J)];exact q,fun b u xs q=>by rw[Zab (Zag q J)];exact q,fun b ps q=>⟨#[],by rw[Zab (Zag q J),q];simp⟩⟩ fun b u q=>?_⟩;by_cases z:b=a
 ·subst z;rw[Zae] at q;cases q;exact U
 ·rw[Zab z] at q;exact (I.hok b u q).stay (fun c v _ r=>k c v r) (fun c r=>by rw[Zab (Zag r J)];exact r) fun c xs r=>by rw[Zab (Zag r J)];exact r
section
variable {X:Cx}
def Zer (hh:X.calm=true):CallR X (.builtin "sorted") ZiY:=by
 intro pins s σ H xs us Q I r h;obtain ⟨p,ns,rfl,ai,af,q⟩:=h;obtain ⟨u,rfl,rx⟩:=Zd1 r;cases rx;have fin:∀ (h':YbO) (tk:Nat) (l:Yaq) (Y:List Yag) (c:Nat) (J:List Int),(∀ b o,s.heap.get? b=some o->h'.get? b=some o)->s.heap.get? l=none->h'.get? l=some { cls:=.type "list",data:=.seq Y.toArray c }->Ye7 Y J->J.Perm ns->J.Pairwise (· <= ·) ->
   EP X pins σ Q (.ref l) { s with heap:=h',toks:=tk }:=fun h' tk l Y c J kp hl e hI hp ho=>by
  obtain rfl:=Znv hp ho;have hv:=Zcx hI;have U:(Zc9 ns).length=ns.length:=(Zbo ns).length_eq;obtain ⟨hn,I2⟩:=ZtQ (t':=tk) I kp hl (show ObjOk X.prog X.w (upd H l (.lst ((Zc9 ns).map V.int))) h' l (.lst ((Zc9 ns).map V.int)) from ⟨by rw[YaE,U,Ybj];omega,Y,c,hv,e⟩);exact ⟨.ref l,_,I2,rfl,q _ hn⟩
 rcases af with hl|⟨kv,hd,hk⟩
 ·obtain ⟨its,rv,pl,hz⟩:=I.list (Zad (K:=X.K) hl);have hI:=ZbW rv;have U:=Ye7.length hI;refine sorted_ints pl.isList hI (by omega) fun out J a1 a2 a3=>?_
  obtain ⟨e,he⟩:=sortedAll_at s.heap its out;exact fin _ s.toks _ out.toList e J (fun b o q=>sortedAll_old q) (YbD (YdE _)) (by simpa [seqObj] using he) a1 a2 a3
 ·obtain ⟨hz,lo,kvs,ag,dd⟩:=Zd2 I.hok hd;obtain ⟨ep,ah⟩:=dd.dictAt;refine Calls.call_function_entry kind_sorted plain_sorted entry_sorted (args_sorted1 _) ?_;unfold Builtin.«sorted»;refine Yac (m:=checkCount "sorted" 1 1 _) (Yat ?_);refine Yac (PySem.W.kdu_collect (A:=X.A.in1) (PySem.W.kdl_dict (knd:=Zao X.prog X.w) (kvs:=kvs) (ep:=ep) lo) (I.ok.hd hh) ah (by rw[<-ag.length];exact hz) fun h' tk ae kp aa=>?_);have hv:Vals (kv.map fun q=>kV q.1) ae.toList:=ZcX ag (by rw[Ycj];exact aa.1) fun j v ej=>aa.2 j v (by rw[<-YcC];exact ej)
  rw[Zg3 hk] at hv;have hI:=ZbW hv;have U:=Ye7.length hI;refine Yac (wpAny_newList ?_ (by rw[U,Ybj];omega));have ac:(h'.push { cls:=.type "list",data:=.seq ae.toList.toArray }).get? h'.objs.size=some (seqObj "list" ae.toList.toArray 0):=YaC _ rfl;refine Yac (Ybp (Ydq slot_list_sort ⟨_,ac,rfl⟩ entry_list_sort (list_sort_tree ac hI (by omega) fun out J a1 a2 a3=>⟨_,rfl,?_⟩) (args_list_sort _)));refine Yat ⟨_,rfl,?_⟩;obtain ⟨e,he⟩:=sortedHeap_at (out:=out) ac;have hsz:s.heap.get? h'.objs.size=none:=by
   cases z:s.heap.get? h'.objs.size with
   | none=>rfl
   | some o=>exact absurd (Yal (kp _ _ z)) (Yci _)
  exact fin _ tk _ out.toList e J (fun b o qq=>by rw[sortedHeap_old (YaK (Yal (kp b o qq))) (YaI (Yal (kp b o qq)) (by simp))];exact Yad _ (kp b o qq)) hsz (by simpa [seqObj] using he) a1 a2 a3
end
def ZbA (h:Mem):List W->Option W
 | [w]=>(ZcU h w).bind fun ns=>if ns.length<64 then some (.tl ((Zc9 ns).map W.int)) else none
 | _=>none
theorem ZgU:∀ (ns:List Int),RWs T φ H (ns.map W.int) (ns.map V.int)
 | []=>by unfold RWs;rfl
 | n::ns=>by rw[Yap,Yap];unfold RWs;exact ⟨_,_,rfl,by unfold RW;rfl,ZgU ns⟩
def ZtL (r:RH T φ h H)(x:RW T φ H w v)(e:ZcU h w=some ns):∃ p,v=.ref p/\((Zam H p=some (ns.map V.int))\/∃ kv,Rd H p (.dK kv)/\Zgc kv=some ns):=by
 unfold ZcU at e;cases z:Zbu h w with
 | some kvs=>
  rw[z] at e;obtain ⟨p,kv,rfl,hp,J⟩:=Zcn r x z;exact ⟨p,rfl,.inr ⟨kv,hp,ZgV J e⟩⟩
 | none=>
  rw[z] at e;dsimp only at e;rw[Yaw] at e;obtain ⟨us,Y,U⟩:=e;obtain ⟨p,vs,rfl,q1,I⟩:=Zay r x Y;refine ⟨p,rfl,.inl ?_⟩;rw[q1,ZcB (Zgb I U)]
def Zhp:CbW T ZbA ZiY:=by
 intro φ h H ws vs w Q r x e k;unfold ZbA at e;split at e
 ·rename_i a;rw[Yaw] at e;obtain ⟨ns,e,J⟩:=e;split at J
  ·rename_i I;cases J;obtain ⟨v,rfl,Y⟩:=Zas x;obtain ⟨p,rfl,U⟩:=ZtL r Y e;refine ⟨p,ns,rfl,I,U,fun l z=>?_⟩;have s:=ZaS (φ:=φ) (ho:=.lst ((Zc9 ns).map V.int)) z;exact k _ _ s (r.tmp z) (by unfold RW;exact ⟨l,_,rfl,r.fresh z,Zaz Zae,ZgU _⟩)
  ·cases J
 ·cases e
noncomputable def Zbw (c:Ex)(B:Sm):Nat->Sm
 | 0,_,_=>.no
 | n+1,ρ,h=>match c ρ h with
  | .ok (.bl true) h1=>(match B ρ h1 with
   | .nx ρ' h'=>Zbw c B n ρ' h'
   | .ct ρ' h'=>Zbw c B n ρ' h'
   | .bk ρ' h'=>.nx ρ' h'
   | o=>o)
  | .ok (.bl false) h1=>.nx ρ h1
  | .ex w h1=>.ex w h1
  | _=>.no
section
variable {X:Cx} {Z:Zc} {B:Sm} {c:Ex} {test:YaQ} {sts:List Yce} {pos:Pos}
def ZlU (n:Nat)(h:tHS Z (Zbw c B n) D σ H):Zma (tHT Z c) (tHS Z B) D σ H:=by
 obtain ⟨U,h0,aa,x0,q0⟩:=h;refine ⟨fun m σ' H'=>∃ φ h ρ,Here Z σ' H' φ h ρ/\(Zbw c B m ρ h).post Z φ H' D,⟨n,U,h0,aa,x0,q0⟩,?_⟩;rintro m σ H ⟨φ,h,ρ,x,q⟩;refine ⟨φ,h,ρ,x,?_⟩;cases m with
 | zero=>exact q.elim
 | succ m=>
  unfold Zbw at q;cases e:c ρ h with
  | no=>rw[e] at q;exact q.elim
  | ex w h1=>rw[e] at q;exact q
  | ok w h1=>
   rw[e] at q;cases w with
   | bl b=>
    refine ⟨b,rfl,fun φ1 H1 s1 r1=>?_⟩;cases b with
    | false=>rw[if_neg (by decide)];exact q φ1 H1 σ s1 r1 (x.rs.step s1) x.sg
    | true=>
     rw[if_pos rfl];have y:=x.step s1 r1;refine ⟨fun σ' H'=>∃ φ h ρ,Here Z σ' H' φ h ρ/\(Zbw c B m ρ h).post Z φ H' D,fun σ' H' p=>⟨m,Yed m,p⟩,φ1,h1,ρ,y,?_⟩;dsimp only at q;cases J:B ρ h1 with
     | nx z h2=>
      rw[J] at q;exact fun φ2 H2 Y s2 r2 I g2=>⟨φ2,h2,z,⟨g2,y.st.trans s2,r2,I⟩,Zar q (s1.trans s2)⟩
     | ct z h2=>
      rw[J] at q;exact fun φ2 H2 Y s2 r2 I g2=>⟨φ2,h2,z,⟨g2,y.st.trans s2,r2,I⟩,Zar q (s1.trans s2)⟩
     | bk z h2=>rw[J] at q;exact Zar (o:=.nx z h2) q s1
     | rt w2 h2=>rw[J] at q;exact Zar (o:=.rt w2 h2) q s1
     | ex w2 h2=>rw[J] at q;exact q
     | no=>rw[J] at q;exact q.elim
   | _=>exact q.elim
def Zli (n:Nat)(z:Yek (YaJ X.prog X.w) X.A X.env X.xe)(J:QT X Z test c)(I:QB X Z sts B):QS X Z (.While test sts [] pos) (Zbw c B n):=
 ⟨(Zll z J.pt I.ps).imp fun D σ H q=>ZlU n q⟩
end
noncomputable def ZqM (f g:Ex):Ex:=fun ρ h=>match f ρ h with
 | .ok (.ref n) h1=>(match h1[n]? with
  | some (.lst _)=>(match g ρ h1 with
   | .ok (.ref m) h2=>(match h2[n]?,h2[m]? with
    | some (.lst xs),some (.lst ys)=>if xs.length+ys.length<=Yai then .ok .non (h2.set n (.lst (xs++ys))) else .no
    | _,_=>.no)
   | .ex w h2=>.ex w h2
   | _=>.no)
  | _=>.no)
 | .ex w h1=>.ex w h1
 | _=>.no
section
variable {X:Cx} {Z:Zc} {f g:Ex} {o e:YaQ} {apos cpos:Pos}
def Zk7 (ho:QE X Z o f)(he:QE X Z e g)(J:Ybb o "extend" X.env (YbT o X.env)=YbT o X.env:=by rfl)
  (aa:((Ya3 cpos (Yah [e] X.env)).all (fun x=>!x.1) && (Ycc cpos (Ybm [] X.env)).all (fun x=>x.1.isSome)
   && decide (([e]:List YaQ).length+([]:List Yb8).length+(if ([]:List Yb8).isEmpty then 0 else 1)<30))=true:=by rfl)
  (I:(apos.endLine == cpos.line)=true:=by rfl) (hs:Yah [e] X.env=(false,YbT e X.env)::Yah [] X.env:=by rfl) (z:(Ya3 cpos (Yah [] X.env)).any (·.1)=false:=by rfl) :
  QE X Z (.Call (.Attribute o "extend" apos) [e] [] cpos) (ZqM f g):=
 ⟨(Zg7 YbQ PySem.F.slot_list_extend PySem.F.type_list_extend ZhR ho.pe (Zbd he.pe pa_nil hs) J aa I hs z).imp fun σ H Q ⟨φ,h,ρ,x,q⟩=>⟨φ,h,ρ,x,by
  unfold ZqM at q;cases e1:f ρ h with
  | no=>rw[e1] at q;exact q.elim
  | ex w h'=>rw[e1] at q;exact q
  | ok a h1=>
   rw[e1] at q;intro φ1 H1 v s1 r1 ra;cases a with
   | ref n=>
    dsimp only at q;cases e2:h1[n]? with
    | none=>rw[e2] at q;exact q.elim
    | some ob=>
     rw[e2] at q;cases ob with
     | lst ag=>
      dsimp only at q;obtain ⟨p,ae,rfl,ep,yp,af⟩:=ZcR r1 ra e2;refine ⟨.inl ⟨rfl,ae,Zad (Zaz yp)⟩,φ1,h1,ρ,x.step s1 r1,?_⟩;cases e3:g ρ h1 with
      | no=>rw[e3] at q;exact q.elim
      | ex w h'=>rw[e3] at q;exact q
      | ok b h2=>
       rw[e3] at q;cases b with
       | ref m=>
        intro φ2 H2 vb s2 r2 rb;dsimp only at q;cases e4:h2[n]? with
        | none=>rw[e4] at q;exact q.elim
        | some Y=>
         cases e5:h2[m]? with
         | none=>rw[e4,e5] at q;cases Y<;>exact q.elim
         | some ac=>
          rw[e4,e5] at q;cases Y with
          | lst xs=>
           cases ac with
           | lst ys=>
            dsimp only at q;by_cases hz:xs.length+ys.length<=Yai
            ·rw[if_pos hz] at q;have U:=s2.get ep;obtain ⟨hx,yx,vx,rfl,rx⟩:=r2.obj n _ p e4 U;obtain ⟨p2,vy,rfl,ah,yy,ry⟩:=ZcR r2 rb e5;have s3:=ZaF (H:=H2) (ho:=.lst (vx++vy)) (Yax U) (ZeZ yx);have r3:=r2.set (o:=.lst (xs++ys)) (ho:=.lst (vx++vy)) U ⟨_,rfl,Zbq rx ry⟩;exact ⟨p,p2,vx,vy,rfl,rfl,yx,yy,by rw[<-rx.length,<-ry.length];exact hz,q φ2 _ .non (s1.trans (s2.trans s3)) r3 (by unfold RW;rfl)⟩
            ·rw[if_neg hz] at q;exact q.elim
           | _=>exact q.elim
          | _=>cases ac<;>exact q.elim
       | _=>exact q.elim
     | _=>exact q.elim
   | _=>exact q.elim⟩⟩
end
def Zi7 {P:YaN}{w:Ybg}{K:Yab}{mg:Str->Option Yag}{base:YbO}{CX:CXT}{k:Nat}{f:Yaq}{fd:Ybc}{ps:List Str}{T:CTb}:FnOk P w K mg base CX k f fd ps (spH T fun _ _=>.no):=
 ⟨fun _ _ _ _ h=>by obtain ⟨_,_,_,_,_,q⟩:=h;exact q.elim,fun _ _ _ _ _ _ _ _ _ _ _ _ _ _ h=>by obtain ⟨_,_,_,_,_,q⟩:=h;exact q.elim⟩
section
variable {X:Cx} {Z:Zc} {f g k:Ex} {fa:Exs} {fi:Ei} {osc:YcQ} {N own fr:List Str} {ix:List Nat} {scope:YcQ} {tg iter elt:YaQ} {ifs es:List YaQ} {pos pos':Pos} {e c b:YaQ}
def Znw (z:X.calm=X.calm)(ho:X.env.scope=osc)(hN:X.N=N)(hk:compOk osc N own fr ix scope=true)(hi:QI X Z tg iter fi)(hG:∀ σ,TgW (Zb Z.T own ix σ) gg G)
  (hg:InC X own fr scope fun Y=>QG Y tg gg) (ht:∀ σ,InC X own fr scope fun Y=>QC Y (Zb Z.T own ix σ) ifs cc) (aa:∀ σ,InC X own fr scope fun Y=>QE Y (Zb Z.T own ix σ) elt el) (hs:∀ x,Ya1 iter X.env x=pure x:=by intro _;rfl) :
  QE X Z (.ListComp elt [⟨tg,iter,ifs,0⟩] scope pos) (ZcA fi own.length ix G cc el):=⟨by
 intro pins s σ H Q I q;refine ZjE z ho hN hk hi.pi (fun a b c d e=>(hg a b c d e).pg) (fun a b c d e=>(ht σ a b c d e).pc) (fun a b c d e=>(aa σ a b c d e).pe) hs pins s σ H Q I ?_;obtain ⟨φ,h,ρ,x,q⟩:=q;refine ⟨φ,h,ρ,x,?_⟩;unfold ZcA at q;cases e:fi ρ h with
 | no=>rw[e] at q;exact q.elim
 | ex w h'=>rw[e] at q;exact q
 | ok src ws h1=>
  rw[e] at q;simp only at q;cases e2:Zcd src ws G cc el (ρC own.length ix ρ) h1.length ws (h1++[.lst []]) with
  | none=>rw[e2] at q;exact q.elim
  | some out=>
   rw[e2] at q;intro φ1 H1 J s1 r1 sp it U ha;exact Zkc (hG σ) r1 (x.rs.step s1) it e2 U ha fun φ' H' s2 r2 hn=>q φ' H' _ (s1.trans s2) r2 (by unfold RW;exact ⟨U,hn,rfl⟩)⟩
end
end M
namespace PySem
open PySem.W
end PySem
namespace M
open PySem PySem.Spec PyProof.Rows L2
theorem Zc0 {α β:Type}{F:α->β->Prop}{a:α}{b:β}(h:F a b):∀ {z:List α} {I:List β},YcX F z I->YcX F (z++[a]) (I++[b])
 | _,_,.nil=>.cons h .nil
 | _,_,.cons r t=>.cons r (Zc0 h t)
theorem Zdt {α β:Type}{F:α->β->Prop}:∀ {z:List α} {I:List β},YcX F z I->YcX F z.reverse I.reverse
 | _,_,.nil=>.nil
 | _,_,.cons r t=>by
  rw[YcN,YcN];exact Zc0 r (Zdt t)
section
variable {X:Cx} {Z:Zc} {f:Ex} {e:YaQ} {x y:Str} {p p2 pos pos2:Pos} {te:TE}
theorem Zi0:∀ {ws:List W} {vs:List V},RWs T φ H ws vs->RWs T φ H ws.reverse vs.reverse
 | [],vs,r=>by unfold RWs at r;subst r;unfold RWs;rfl
 | w::ws,vs,r=>by
  unfold RWs at r;obtain ⟨v,s,rfl,a,b⟩:=r;rw[YcN,YcN];exact Zcj (Zi0 b) a
end
end M
namespace L2
open PySem PySem.Spec PyProof.Rows
end L2
namespace M
open PySem PySem.Spec PyProof.Rows L2
def Znf {P:YaN}{w:Ybg}{K:Yab}{mg:Str->Option Yag}{base:YbO}{CX:CXT}{T:CTb}{x:Str}{st:Yce}{ps:List Str}{k:Nat}(R:Zhu K mg x st)(I:ZaV x x st ps):FnAt P w K mg base CX k x (spH T fun _ _=>.no):=by
 obtain ⟨f,fd,F,z⟩:=R;exact ⟨f,fd,ps,Zi7,z,F.kp,F.binds I⟩
end M
namespace PySem
namespace F
def slot_lri_hint:Slot "list_reverseiterator" "__length_hint__" "list_reverseiterator.__length_hint__":=
 .of (owner:="list_reverseiterator") (n:="__length_hint__") (by rw[typeLookup_type,builtinLookup_eq_fast];kernel_rfl) (by decide +kernel) (by decide +kernel) (by decide +kernel)
  (by first | exact .inl (by decide +kernel) | exact .inr (by decide +kernel)) (by rw[isSubtype_type];kernel_rfl)
def len_lri:typeLookup (.type "list_reverseiterator") "__len__"=pure none:=by rw[typeLookup_type,builtinLookup_eq_fast];kernel_rfl
end F
open PySem.W
section
variable {prog:YaN} {w:Ybg} {A:Ybr} {E:Yag->Yaj->Prop} {s:Yaj}
def ZkW (I:s.heap.IsRevIter it l i)(Y:s.heap.IsList l items)(hi:i+1<=items.size)(h0:0<=i+1)(h1:i+1<=16777216)(h:∀ b tk,Q b { s with toks:=tk }) :
  YaF (YaJ prog w) A (YdK (.ref it)) Q E s:=by
 unfold YdK;refine Yac (YdA I.typeIs F.len_lri ?_);refine YcG (fun z=>absurd z (by decide)) (fun _=>?_);refine YcG (fun z=>absurd z (by decide)) (fun _=>?_);refine Yac (YdA I.typeIs F.slot_lri_hint.lookup ?_);generalize J:("list_reverseiterator.__length_hint__":String)=U
 wp_delta
 rw[show splitId U=some ("list_reverseiterator","__length_hint__") from by subst J;decide +kernel];subst J;refine Yac (Ydr (T:="list_reverseiterator") (b:=true) I.typeIs (by rw[isSubtype_type];kernel_rfl) ?_);refine YcG (fun z=>absurd z (by decide)) (fun _=>?_);refine YcG (fun _=>?_) (fun z=>absurd (by decide +kernel) z);refine YcG (fun z=>absurd z (by decide +kernel)) (fun _=>?_)
 try refine Yac (Yat ?_)
 exact Yat (h _ s.toks)
def Zhf {R:Result->Yaj->Prop}(hh:A.handled=none)(aq:l≠it)(aa:s.heap.IsRevIter it l ((items.size:Int) - 1))(hl:s.heap.IsList l items)(S:Yaq)(ah:S≠it)(al:S≠l)(Y:Yag)(ac:Nat)(hS:s.heap.get? S=some { cls:=.type "list",data:=.seq #[] ac })
  (hR:∀ h' tk z c',(∀ b o,b≠S->b≠it->s.heap.get? b=some o->h'.get? b=some o)->h'.get? S=some { cls:=.type "list",dict:=none,data:=.seq z c',slots:=#[] }->ItemsOf (fun i v=>items[items.size - 1 - i]?=some v) z items.size->R (.ok (.ret Y)) { s with heap:=h',toks:=tk }) (hn:items.size<=Yai) :
  YaF (YaJ prog w) A.in1 (Yb1 (.ref S) (.ref it) Y)
   (fun fin s'=>match fin with | .done f=>R (.ok f) s' | .again c'=>c'.quiet=true/\Ydi (YaJ prog w) A c' R s') (fun e s'=>R (.error e) s') s:=by
 have W:=Walks.listRev (prog:=prog) (w:=w) (A:=A.in1) hh it l aq items;have ag:S ∉ [it,l]:=by simp only[Yaz,YbG,or_false,not_or];exact ⟨ah,al⟩
 have st:(fun (i:Nat) (h:YbO)=>i<=items.size/\h.IsRevIter it l ((items.size:Int) - 1 - (i:Int))/\h.IsList l items) 0 s.heap:=⟨Ycy _,by simpa using aa,hl⟩;have ai:∀ (h:YbO) (U tk:Nat),(fun (i:Nat) (h:YbO)=>i<=items.size/\h.IsRevIter it l ((items.size:Int) - 1 - (i:Int))/\h.IsList l items) 0 h->(∀ b o,b≠S->s.heap.get? b=some o->h.get? b=some o) ->
   h.get? S=some { cls:=.type "list",data:=.seq #[] U }->Ydi (YaJ prog w) A (.builtin "list.extend.loop" ⟨[.ref S,.ref it,Y],[]⟩) R { s with heap:=h,toks:=tk }:=by
  intro h U tk ao hk af;refine codeAny_extend_loopS W.toS hn S ag Y items.size 0 _ #[] U rfl (Ycy _) ao af (ItemsOf.nil _) fun s' z c' hm am ak=>?_
  rw[Moved.eq_with hm];refine hR s'.heap s'.toks z c' (fun b o hb ap e=>hm.heap b o (fun J=>?_) (hk b o hb e)) am ak;rcases Yaz.mp J with e' | J
  ·exact hb e'
  ·exact ap (Ycu.mp J)
 unfold Yb1;refine Yac (wpAny_typeOf aa.typeIs ?_);have h1:Yd5 (.ref S) (.ref it)=false:=by simp[Yd5,ah]
 simp only[h1,show (YdW "list_reverseiterator" == YdW "list")=false by decide,show (YdW "list_reverseiterator" == YdW "tuple")=false by decide,Bool.or_false,Yb5,if_false];refine Yac (wpAny_pyIter_revIter aa ?_);rw[Ybj] at hn;refine Yac (Ybp (ZkW aa hl (by omega) (by omega) (by omega) fun ar tk=>?_));refine YcG (fun _=>?_) (fun _=>Yat ⟨plainId_quiet YdU _,ai _ ac _ st (fun b o _ e=>e) hS⟩);refine Yac (wpAny_rule ?_);refine Yac ?_;show YaF _ _ (updateSeq S (·.push .none) >>= fun _=>updateSeq S (·.pop)) _ _ _;refine Yac (Yet (s:={ s with toks:=tk }) hS rfl ?_);have I:=Ya8 (Yd1 (·.push Ya5)) hS rfl;refine Yet (hz:=by seq_fits) I rfl ?_;have ae:=Ya8 (Yd1 (·.pop)) I rfl;refine Yat ⟨plainId_quiet YdU _,ai _ _ _ ?_ (fun b o hb e=>?_) ae⟩
 ·refine W.frame 0 _ _ st fun b hb o e=>?_
  have aj:b≠S:=fun h=>ag (h ▸ hb)
  exact (YaW _ _ (YbW aj)).trans ((YaW _ _ (YbW aj)).trans e)
 ·exact (YaW _ _ (YbW hb)).trans ((YaW _ _ (YbW hb)).trans e)
def Zlm {R:Result->Yaj->Prop}(hh:A.handled=none)(ah:l≠it)(af:s.heap.IsRevIter it l ((items.size:Int) - 1))(hl:s.heap.IsList l items)(S:Yaq)(Y:S≠it)(aa:S≠l)(hS:s.heap.get? S=some { cls:=.type "list",data:=.seq #[] })
  (hR:∀ h' tk z U,(∀ b o,b≠S->b≠it->s.heap.get? b=some o->h'.get? b=some o)->h'.get? S=some { cls:=.type "list",dict:=none,data:=.seq z U,slots:=#[] }->ItemsOf (fun i v=>items[items.size - 1 - i]?=some v) z items.size->R (.ok (.ret .none)) { s with heap:=h',toks:=tk }) (hn:items.size<=Yai) :
  YaF (YaJ prog w) A.in1 (Builtin.«list.__init__» ⟨[.ref S,.ref it],[]⟩)
   (fun fin s'=>match fin with | .done f=>R (.ok f) s' | .again U=>U.quiet=true/\Ydi (YaJ prog w) A U R s') (fun e s'=>R (.error e) s') s:=by
 show YaF _ _ (do let old <- Yei (.ref S);Builtin.List.listUpdate (.ref S) (fun _=>#[]);letGo old.toList.reverse;Yb1 (.ref S) (.ref it) .none) _ _ s;refine Yac ?_;unfold Yei;refine Yac (YdS hS rfl (Yat ?_));show YaF _ _ (updateSeq S (fun _=>#[]) >>= fun _=>letGo (#[]:Array Yag).toList.reverse >>= fun _=>Yb1 (.ref S) (.ref it) .none) _ _ s;refine Yac (Yet hS rfl ?_);have J:=Ya8 (Yd1 (fun _=>(#[]:Array Yag))) hS rfl;have I:∀ b o,b≠S->s.heap.get? b=some o->(s.heap.update S (Yd1 (fun _=>(#[]:Array Yag)))).get? b=some o:=
  fun b o hb e=>(YaW _ _ (YbW hb)).trans e
 refine Yac (wpAny_letGo ?_);refine Zhf hh ah (af.at fun o e=>I _ o (YbW Y) e) (hl.at fun o e=>I _ o (YbW aa) e) S Y aa .none _ J (fun h' tk z U hk ae ac=>?_) hn;exact hR h' tk z U (fun b o hb ag e=>hk b o hb ag (I b o hb e)) ae ac
def Zlo (hh:A.handled=none)(ag:l≠it)(J:s.heap.IsRevIter it l ((items.size:Int) - 1))(hl:s.heap.IsList l items)(hn:items.size<=Yai)
  (hQ:∀ h' tk z c',(∀ b o,b≠it->s.heap.get? b=some o->h'.get? b=some o)->h'.get? s.heap.objs.size=some { cls:=.type "list",dict:=none,data:=.seq z c',slots:=#[] }->ItemsOf (fun i v=>items[items.size - 1 - i]?=some v) z items.size->Q (.ref s.heap.objs.size) { s with heap:=h',toks:=tk }) :
  YaF (YaJ prog w) A (call (.type "list") [.ref it]) Q E s:=by
 refine callType_codes (Q₁:=fun U I=>U=.ref s.heap.objs.size/\I = { s with heap:=s.heap.push { cls:=.type "list",data:=.seq #[] } }) PySem.F.called_list (PySem.F.typeCall_list_1 _) PySem.F.entry_list_init
  (code_list_new _ ⟨rfl,rfl⟩) fun U I aa=>?_
 obtain ⟨rfl,rfl⟩:=aa;have hS:(s.heap.push { cls:=.type "list",data:=.seq #[] }).get? s.heap.objs.size=some { cls:=.type "list",data:=.seq #[] }:=YaC _ rfl;have ae:it<s.heap.objs.size:=let ⟨_,ho,_⟩:=J;Yal ho
 have Y:l<s.heap.objs.size:=let ⟨_,ho,_⟩:=hl;Yal ho
 refine ⟨⟨_,hS,rfl⟩,PySem.F.args_list_init_2 _ _,Zlm (A:=A.in1) hh ag (J.at fun o e=>Yad _ e) (hl.at fun o e=>Yad _ e) _ (Yel ae) (Yel Y) hS (fun h' tk z c' hk af ac=>?_) hn⟩;exact ⟨rfl,hQ h' tk z c' (fun b o hb e=>hk b o (YaK (Yal e)) hb (Yad _ e)) af ac⟩
end
end PySem
namespace M
open PySem PySem.Spec PyProof.Rows L2
section
variable {X:Cx} {Z:Zc} {f:Ex} {e:YaQ} {x y:Str} {p p2 pos pos2:Pos} {te:TE}
def Zxt (te:TE):TE:=fun σ H Q=>te σ H fun v H1=>∃ d vs,v=.ref d/\Zam H1 d=some vs/\∀ l,H1 l=none->Q (.ref l) (upd H1 l (.lst vs.reverse))
def Zfo (hh:X.calm=true)(hg:Gl X x)(hm:X.mg x=none)(hv:YaR x=some (.type "list"))(am:Gl X y)(ap:X.mg y=none)(ag:YaR y=some (.type "reversed"))(he:PE X e te)
  (hn:x≠"__name__":=by decide) (ah:(x == ("__debug__":Str))=false:=by decide) (aj:y≠"__name__":=by decide) (ae:(y == ("__debug__":Str))=false:=by decide)
  (hs:Yah [.Call (.Name y p2) [e] [] pos2] X.env=(false,YbT (.Call (.Name y p2) [e] [] pos2) X.env)::Yah [] X.env:=by rfl) (Y:Yah [e] X.env=(false,YbT e X.env)::Yah [] X.env:=by rfl)
  (ak:(Ya3 pos (Yah [] X.env)).any (·.1)=false:=by rfl) (U:(Ya3 pos2 (Yah [] X.env)).any (·.1)=false:=by rfl) :
  PE X (.Call (.Name x p) [.Call (.Name y p2) [e] [] pos2] [] pos) (Zxt te):=by
 intro pins s σ H Q I h;refine Ybn (Zdr I hg hm hv ?_ hn ah);refine YbY ?_ hs ak;rw[hs];show YaF _ _ (spliced ((false,YbT (.Call (.Name y p2) [e] [] pos2) X.env)::Ya3 pos (Yah [] X.env))) _ _ s;refine Yc3 ?_;refine Ybn (Zdr I am ap ag ?_ aj ae);refine YbY ?_ Y U;rw[Y];show YaF _ _ (spliced ((false,YbT e X.env)::Ya3 pos2 (Yah [] X.env))) _ _ s;refine Yc3 (thn (he pins s σ H _ I h) fun u s1 ⟨v,H1,I1,rx,d,vs,ev,hd,q⟩=>Yat ?_);subst ev;cases rx;obtain ⟨hz,its,c0,ac,g⟩:=(show ObjOk X.prog X.w H1 s1.heap d (.lst vs) from ZnY I1.hok (ZaP hd));have aa:s1.heap.IsList d its.toArray:=⟨_,g,rfl,_,rfl⟩;refine call_reversed_list aa ?_;refine Yat ?_;have ar:d<s1.heap.objs.size:=Yal g;have J:its.toArray.size=vs.length:=by rw[YaB];exact (Ydy ac).symm
 have ao:(s1.heap.push (revObj d ((its.toArray.size:Int) - 1))).IsRevIter s1.heap.objs.size d ((its.toArray.size:Int) - 1):=⟨_,YaC _ rfl,rfl,rfl⟩;refine Zlo (I.ok.hd hh) (YaK ar) ao (aa.at fun o e=>Yad _ e) (by rw[J];exact hz) fun h' tk z c kp hl af=>?_
 have ea:z.toList=its.reverse:=by
  apply List.ext_getElem?;intro j;obtain ⟨a1,a2⟩:=af;by_cases hj:j<its.length
  ·have ai:j<z.size:=by rw[a1];simpa using hj
   rw[List.getElem?_reverse hj];have e1:z[j]?=some z[j]:=Array.getElem?_eq_getElem ai;have e2:=a2 j _ e1;rw[YcC,e1,<-e2];simp
  ·rw[YbL (l:=z.toList) (by rw[Ycj,a1];simp;omega),YbL (l:=its.reverse) (by rw[List.length_reverse];omega)]
 have hv:Vals vs.reverse z.toList:=by rw[ea];exact Zdt ac
 have al:∀ b o,s1.heap.get? b=some o->h'.get? b=some o:=fun b o e=>kp b o (YaK (Yal e)) (Yad _ e)
 have hsz:(s1.heap.push (revObj d ((its.toArray.size:Int) - 1))).objs.size=s1.heap.objs.size+1:=by simp[YbO.push]
 rw[hsz] at hl ⊢;obtain ⟨aq,I2⟩:=ZtQ (a:=s1.heap.objs.size+1) (t':=tk) (o:=.lst vs.reverse) I1 al (YbD (YdE _)) (show ObjOk X.prog X.w _ h' _ (.lst vs.reverse) from ⟨by simpa using hz,z.toList,c,hv,by simpa using hl⟩);exact ⟨.ref _,_,I2,rfl,q _ aq⟩
def Zh5 (f:Ex):Ex:=fun ρ h=>match f ρ h with
 | .ok a h1=>(match items h1 a with
  | some ws=>.ok (.ref h1.length) (h1++[.lst ws.reverse])
  | none=>.no)
 | .ex w h1=>.ex w h1
 | .no=>.no
def Zre (hh:X.calm=true)(hg:Gl X x)(hm:X.mg x=none)(hv:YaR x=some (.type "list"))(ae:Gl X y)(af:X.mg y=none)(J:YaR y=some (.type "reversed"))(ho:QE X Z e f)
  (hn:x≠"__name__":=by decide) (U:(x == ("__debug__":Str))=false:=by decide) (Y:y≠"__name__":=by decide) (I:(y == ("__debug__":Str))=false:=by decide)
  (hs:Yah [.Call (.Name y p2) [e] [] pos2] X.env=(false,YbT (.Call (.Name y p2) [e] [] pos2) X.env)::Yah [] X.env:=by rfl) (aa:Yah [e] X.env=(false,YbT e X.env)::Yah [] X.env:=by rfl)
  (ac:(Ya3 pos (Yah [] X.env)).any (·.1)=false:=by rfl) (z:(Ya3 pos2 (Yah [] X.env)).any (·.1)=false:=by rfl) :
  QE X Z (.Call (.Name x p) [.Call (.Name y p2) [e] [] pos2] [] pos) (Zh5 f):=
 ⟨(Zfo hh hg hm hv ae af J ho.pe hn U Y I hs aa ac z).imp fun σ H Q ⟨φ,m,ρ,y,q⟩=>⟨φ,m,ρ,y,by
  unfold Zh5 at q;cases e1:f ρ m with
  | no=>rw[e1] at q;exact q.elim
  | ex w h1=>rw[e1] at q;exact q
  | ok a h1=>
   rw[e1] at q;intro φ1 H1 va s1 r1 ra;dsimp only at q;cases e2:items h1 a with
   | none=>rw[e2] at q;exact q.elim
   | some ws=>
    rw[e2] at q;obtain ⟨d,vs,rfl,hd,rp⟩:=Zay r1 ra e2;refine ⟨d,vs,rfl,hd,fun l hl=>?_⟩;have s2:=ZaQ (φ:=φ1) (ho:=.lst vs.reverse) hl;exact q (φ1++[l]) _ (.ref l) (s1.trans s2) (r1.new (o:=.lst ws.reverse) (ho:=.lst vs.reverse) hl ⟨_,rfl,Zi0 rp⟩) (by unfold RW;exact ⟨l,by rw[<-r1.len];simp,rfl⟩)⟩⟩
end
section
variable {X:Cx} {Z:Zc} {qc:Bool} {k j:Nat} {F:Fm} {x:Str} {p pos:Pos}
def Zuv (G:FnAt X.prog X.w X.K X.mg X.base (CXe qc X.prog X.w) k x (spH Z.T F))(Y:XOk X Z)(hr:Room j X.A)(z:k<=j)(hg:Gl X x)(U:(x == ("__debug__":Str))=false:=by decide)(hq:qc=true->X.calm=true:=by first | exact fun _=>rfl | (intro h;cases h)):QE X Z (.Call (.Name x p) [] [] pos) (ZaJ F Zfe):=by
 obtain ⟨f,fd,ps,Fk,hm,kp,hb⟩:=G;refine ⟨fun pins s σ H Q I ⟨φ,h,ρ,J,q⟩=>Ybn (ZaY I hg hm ?_ U)⟩;have q1:(F [] h).post (Kv Z.T φ H Q) Z.xw:=q;exact YdF I.kIn kp (Zgk (us:=[]) (vs:=[]) Fk Y (hr.mono z) hq hb I .nil J.sg J.st J.rh (by unfold RWs;rfl) q1)
end
noncomputable def dfX:Option Int->V
 | none=>.non
 | some i=>.int i
noncomputable def dfW:Option Int->W
 | none=>.non
 | some i=>.int i
theorem Zkk:∀ {ws:List W} {vs:List V},RWs T φ H ws vs->RWs T φ H (ws++[dfW d]) (vs++[dfX d])
 | [],vs,r=>by
  unfold RWs at r;subst r;show RWs T φ H [dfW d] [dfX d];unfold RWs;exact ⟨dfX d,[],rfl,by cases d<;>(unfold dfX dfW RW;rfl),by unfold RWs;rfl⟩
 | w::ws,vs,r=>by
  unfold RWs at r;obtain ⟨v,l,rfl,a,b⟩:=r;show RWs T φ H (w::(ws++[dfW d])) (v::(l++[dfX d]));unfold RWs;exact ⟨v,_,rfl,a,Zkk b⟩
noncomputable def dsV (m:Nat)(dv:Yag):Array Yag:=(Ycq m Ya5++[dv]).toArray
structure FunD (m:Nat)(d:Option Int)(K:Yab)(x qual:Str)(st:Yce)(f:Yaq)(fd:Ybc):Prop where
 ex:∃ (oc:Yag) (od:Option Yaq) (kV doc pm:Yag) (an:Option Yaq) (cdv ct:Yag) (osl:Array (Option Yag)) (D:Yaq) (o:Obj) (n:Nat) (dv:Yag),RelV (dfX d) dv /\
  fd=Ybw x qual (ZaM st) (Zah st) (Zaa st) (.ref D) kV doc pm an cdv ct/\K.lookup f=some ⟨oc,od,.func fd,osl⟩/\Yb7 K cdv qual=true/\K.lookup D=some o/\o.data=.seq (dsV m dv) n
 kp:Ybk K (.ref f)=true
def ZdI (m:Nat)(d:Option Int)(K:Yab)(mg:Str->Option Yag)(x:Str)(st:Yce):Prop:=∃ f fd,FunD m d K x x st f fd/\mg x=some (.ref f)
def FnAtD (d:Option Int)(P:YaN)(w:Ybg)(K:Yab)(mg:Str->Option Yag)(base:YbO)(CX:CXT)(k:Nat)(x:Str)(sp:Sp):Prop:=
 ∃ f fd ps,FnOk P w K mg base CX k f fd ps sp/\mg x=some (.ref f)/\Ybk K (.ref f)=true/\Binds K fd ps []/\∃ dv,RelV (dfX d) dv/\Binds K fd ps [dv]
def ZbD (m:Nat)(x z:Str)(st:Yce)(ps:List Str):Prop:=∀ (kV I U:Yag) (an:Option Yaq) (J ct:Yag) (D:Yaq) (dv:Yag) (us:List Yag),
 (us.length=ps.length->∃ k,bindArgs (Ybw x z (ZaM st) (Zah st) (Zaa st) (.ref D) kV I U an J ct) ⟨us,[]⟩=YeR (.ref D) >>= k/\k (some (dsV m dv))=pure (ps.zip us)) /\
 (us.length+1=ps.length->∃ k,bindArgs (Ybw x z (ZaM st) (Zah st) (Zaa st) (.ref D) kV I U an J ct) ⟨us,[]⟩=YeR (.ref D) >>= k/\k (some (dsV m dv))=pure (ps.zip (us++[dv])))
section
variable {m:Nat} {d:Option Int} {P:YaN} {w:Ybg} {K:Yab} {mg:Str->Option Yag} {base:YbO} {T:CTb}
def FunD.binds {x z:Str}{st:Yce}{f:Yaq}{fd:Ybc}{ps:List Str}(F:FunD m d K x z st f fd)(h:ZbD m x z st ps):Binds K fd ps []/\∃ dv,RelV (dfX d) dv/\Binds K fd ps [dv]:=by
 obtain ⟨oc,od,kV,I,pm,an,U,ct,aa,D,o,n,dv,Y,rfl,lk,ac,lD,hD⟩:=F.ex;refine ⟨fun s us X J=>?_,dv,Y,fun s us X J=>?_⟩
 ·rw[YbK] at J ⊢;obtain ⟨k,h1,h2⟩:=(h kV I pm an U ct D dv us).1 J;exact .of_defaults rfl (X _ _ lD) hD h1 h2
 ·obtain ⟨k,h1,h2⟩:=(h kV I pm an U ct D dv us).2 (by rw[Ybo] at J;exact J);exact .of_defaults rfl (X _ _ lD) hD h1 h2
def Zw9 {qc:Bool}{x z:Str}{st:Yce}{N ps:List Str}{k:Nat}{F:Fm}{f:Yaq}{fd:Ybc}{B:Sm}(R:FunD m d K x z st f fd)(S:FnScope N ps (Zaa st))
  (hB:∀ (I:Yag) (A:Ybr) (outer:List Env) (s:Yaj) (H:Hp) (E:XK) (J:List Yaq),Room k (A.deeper (Yc4 z (Zaa st) s.heap.objs.size f I)) ->
   XOk (Zcm (CXe qc P w) P w K mg base N z (Zaa st) f I A outer s H E) (Zx T J H E)->QB (Zcm (CXe qc P w) P w K mg base N z (Zaa st) f I A outer s H E) (Zx T J H E) (Zah st) B)
  (hF:Zkn ps.length N.length B F):FnOk P w K mg base (CXe qc P w) (k+1) f fd ps (spH T F):=by
 obtain ⟨oc,od,kV,aa,pm,an,I,ct,ae,D,o,n,dv,ac,rfl,lk,Y,lD,hD⟩:=R.ex;refine ZpP lk Y S (fun vs H Q E h=>?_) fun A outer s H vs Q E hr h=>?_
 ·obtain ⟨φ,h,ws,r,U,q⟩:=h;rcases hF ws h r.wf (by rw[<-r.len];exact U.lt) with e|⟨e,_⟩
  ·rw[e] at q;exact q.elim
  ·rw[<-U.length];exact e
 ·obtain ⟨φ,h,ws,r,U,q⟩:=h;refine ⟨_,(hB I A outer s H E φ hr ZiE).ps,φ,h,ZaK N.length ws,⟨trivial,Step.refl _ _,r,Zcf U⟩,?_⟩;rcases hF ws h r.wf (by rw[<-r.len];exact U.lt) with e|⟨e,ft⟩
  ·rw[e] at q;exact q.elim
  ·exact Zgn r.len ft q
def Ztn {qc:Bool}{x:Str}{st:Yce}{N ps:List Str}{k:Nat}{F:Fm}{B:Sm}(R:ZdI m d K mg x st)(S:FnScope N ps (Zaa st))(Y:ZbD m x x st ps)
  (hB:∀ (f:Yaq) (z:Yag) (A:Ybr) (outer:List Env) (s:Yaj) (H:Hp) (E:XK) (I:List Yaq),Room k (A.deeper (Yc4 x (Zaa st) s.heap.objs.size f z)) ->
   XOk (Zcm (CXe qc P w) P w K mg base N x (Zaa st) f z A outer s H E) (Zx T I H E)->QB (Zcm (CXe qc P w) P w K mg base N x (Zaa st) f z A outer s H E) (Zx T I H E) (Zah st) B)
  (J:Zkn ps.length N.length B F):FnAtD d P w K mg base (CXe qc P w) (k+1) x (spH T F):=by
 obtain ⟨f,fd,R,U⟩:=R;exact ⟨f,fd,ps,Zw9 R S (hB f) J,U,R.kp,R.binds Y⟩
def FnAtD.full (G:FnAtD d P w K mg base CX k x sp):FnAt P w K mg base CX k x sp:=by
 obtain ⟨f,fd,ps,a,b,c,d,_⟩:=G;exact ⟨f,fd,ps,a,b,c,d⟩
def defD_mk {h:YbO}{x:Str}{st:Yce}{f D:Yaq}{Y:Yag}{od an:Option Yaq}{J:Array (Option Yag)}{kV I pm z ct:Yag}{o:Obj}{n:Nat}{dv:Yag}(U:RelV (dfX d) dv)(X:K.In h)(G:h.Ns YaO mg)(a:YbR K YaO x=some (some (.ref f)))
  (l:K.lookup f=some ⟨Y,od,.func (Ybw x x (ZaM st) (Zah st) (Zaa st) (.ref D) kV I pm an z ct),J⟩) (c:Yb7 K z x=true) (k:Ybk K (.ref f)=true) (dd:K.lookup D=some o) (e:o.data=.seq (dsV m dv) n):ZdI m d K mg x st:=
 ⟨f,_,⟨⟨Y,od,kV,I,pm,an,z,ct,J,D,o,n,dv,U,rfl,l,c,dd,e⟩,k⟩,Ycl X G a⟩
end
section
variable {d:Option Int} {dv:Yag} {X:Cx} {Z:Zc} {qc:Bool} {k j:Nat} {F:Fm} {x:Str} {p pos:Pos} {e:YaQ} {es:List YaQ} {fa:Exs}
def ZlH (U:FnOk X.prog X.w X.K X.mg X.base CX k f fd ps sp)(hr:Room k X.A)(hq:CX.q=true->X.calm=true)(J:RelV (dfX d) dv)(hb:Binds X.K fd ps [dv])
  (I:Inv X pins σ H s) (r:Vals vs us) (h:sp (vs++[dfX d]) H Q E) (hx:∀ v s',CX X.stack H s E v s'->X.xe v s'):YaF (YaJ X.prog X.w) X.A (call (.ref f) us) (EP X pins σ Q) X.xe s:=by
 have Y:Vals (vs++[dfX d]) (us++[dv]):=r.append (.cons J .nil);have hl:(us++[dv]).length=ps.length:=by rw[<-Y.length];exact U.len _ _ _ _ h
 refine YcY (YcA (U.run X.A X.stack s H ⟨us,[]⟩ (us++[dv]) (vs++[dfX d]) Q E hr (fun z=>I.ok.hd (hq z)) I.env0 (hb s us I.kIn hl) Y h) fun r s' q=>?_);cases r with
 | error v=>exact hx v s' q
 | ok fl=>
  cases fl with
  | ret u=>exact I.after q
  | next=>exact Ya9 q
  | brk=>exact Ya9 q
  | cont=>exact Ya9 q
def Zpj (Fk:FnOk X.prog X.w X.K X.mg X.base (CXe qc X.prog X.w) k f fd ps (spH Z.T F))(hx:XOk X Z)(hr:Room k X.A)(hq:qc=true->X.calm=true)
  (aa:RelV (dfX d) dv) (J:Binds X.K fd ps [dv]) (I:Inv X pins σ H s) (r:Vals vs us) (sg:Z.sg σ) (st:Step Z.φ Z.H φ H) (rh:RH Z.T φ h H) (rw:RWs Z.T φ H ws vs) (q:(F (ws++[dfW d]) h).post (Kv Z.T φ H Q) Z.xw):YaF (YaJ X.prog X.w) X.A (call (.ref f) us) (EP X pins σ Q) X.xe s:=by
 refine ZlH (E:=fun cv da H'=>∃ φ' h' w,Step φ H φ' H'/\RH Z.T φ' h' H'/\RX Z.T φ' H' w cv da/\Z.xw w h') Fk hr hq aa J I r ⟨φ,h,ws++[dfW d],rh,Zkk rw,?_⟩ ?_
 ·cases e:F (ws++[dfW d]) h with
  | ok w m=>rw[e] at q;exact q
  | no=>rw[e] at q;exact q
  | ex w m=>rw[e] at q;exact fun φ' H' cv da s r x=>⟨φ',m,w,s,r,x,q⟩
 ·rintro v s' ⟨e,cv,da,T,H',rfl,os,U,un,ae,R,⟨h1,h2⟩,⟨h3,h4⟩,φ',h',w,ac,Y,rx,xw⟩;refine hx _ _ ⟨pins,σ,H',e,cv,da,some T,φ',h',w,rfl,⟨I.call' os un ae U (fun b z=>by cases z),R,fun b J=>?_⟩,sg,st.trans ac,Y,rx,xw⟩;rcases Yaz.mp J with rfl|J
  ·exact ⟨h1,ZaU I h2⟩
  ·have J:b=T:=by simpa using J
   subst J;exact ⟨h3,ZaU I h4⟩
def Zs0 (G:FnAtD d X.prog X.w X.K X.mg X.base (CXe qc X.prog X.w) k x (spH Z.T F))(hx:XOk X Z)(hr:Room j X.A)(z:k<=j)(hg:Gl X x)(ha:QA X Z (e::es) fa)(J:(x == ("__debug__":Str))=false:=by decide)
  (he:Yah (e::es) X.env=(false,YbT e X.env)::Yah es X.env:=by rfl) (Y:(Ya3 pos (Yah es X.env)).any (·.1)=false:=by rfl) (hq:qc=true->X.calm=true:=by first | exact fun _=>rfl | (intro h;cases h)):QE X Z (.Call (.Name x p) (e::es) [] pos) (ZaJ (fun ws=>F (ws++[dfW d])) fa):=by
 obtain ⟨f,fd,ps,Fk,hm,kp,_,dv,aa,hb⟩:=G;refine ⟨fun pins s σ H Q I zq=>?_⟩;obtain ⟨φ,h,ρ,x0,q⟩:=zq;refine Ybn (ZaY I hg hm ?_ J);refine Ycs (h₀:=X.base) I.ok.mod.kin kp (thn (Zih (F:=fun ws=>F (ws++[dfW d])) ha I x0 q) fun us s1 zz=>?_) he Y;obtain ⟨vs,H1,I1,r,φ1,h1,ws,_,x1,U,q1⟩:=zz;refine ⟨I1.kIn,?_⟩;exact Zpj Fk hx (hr.mono z) hq aa hb I1 r x1.sg x1.st x1.rh U q1
end
noncomputable def ZxO (K:Yab)(C:Yaq):Bool:=Yco K C Str.empty && (Ybd K C && (Ydh K C && (Yao K (.ref C) "__setattr__" == some (some (.builtin "object.__setattr__")) && (Yao K (.ref C) "__class__" == some (some (.builtin "object.__class__")) && (Ybl K (.builtin "object.__class__") "__get__" == some (some (.builtin "getset_descriptor.__get__")) && (Ycz K (.builtin "object.__class__") == some true && YaZ K C (.type "object") == some true))))))
def Ziz (K:Yab)(l:List Yaq):Bool:=l.all (ZxO K)
def Ze1 {K:Yab}{l:List Yaq}(h:Ziz K l=true){C:Yaq}(m:C∈l):InsTy K C:=by
 have:=Yaf.mp h C m;unfold ZxO at this;simp only[Yaa,beq_iff_eq] at this;obtain ⟨a,b,c,d,e,f,g,i⟩:=this;exact ZrQ a b c d e f g i
noncomputable def Zm9 (K:Yab)(l:List Yaq)(fs:List Str):Bool:=l.all fun c=>fs.all fun f=>Yao K (.ref c) f == some none
def ZkA {K:Yab}{l:List Yaq}{fs:List Str}(h:Zm9 K l fs=true){C:Yaq}(m:C∈l){f:Str}(z:f∈fs):NoAttr K C f:=beq_iff_eq.mp (Yaf.mp (Yaf.mp h C m) f z)
def ZrN {K:Yab}{T:CTb}{l:List Yaq}{fs:List Str}(z:∀ c A,T c=some A->A∈l)(hi:Ziz K l=true)(h:Zm9 K l fs=true){f:Str}(I:f∈fs):Zht K T f:=fun c A e=>⟨(Ze1 hi (z c A e)).cl,ZkA h (z c A e) I⟩
def Zv4 (h:l.length=1):∃ a,l=[a]:=by
 obtain ⟨a,l,rfl⟩:=YaY h;exact ⟨a,by rw[Yc8.mp (YcH h)]⟩
def Zq6 (h:l.length=2):∃ a b,l=[a,b]:=by
 obtain ⟨a,l,rfl⟩:=YaY h;obtain ⟨b,rfl⟩:=Zv4 (YcH h);exact ⟨_,_,rfl⟩
def ZvH (h:l.length=3):∃ a b c,l=[a,b,c]:=by
 obtain ⟨a,l,rfl⟩:=YaY h;obtain ⟨b,c,rfl⟩:=Zq6 (YcH h);exact ⟨_,_,_,rfl⟩
def Zuy (h:l.length=4):∃ a b c d,l=[a,b,c,d]:=by
 obtain ⟨a,l,rfl⟩:=YaY h;obtain ⟨b,c,d,rfl⟩:=ZvH (YcH h);exact ⟨_,_,_,_,rfl⟩
def Zuf (h:l.length=5):∃ a b c d e,l=[a,b,c,d,e]:=by
 obtain ⟨a,l,rfl⟩:=YaY h;obtain ⟨b,c,d,e,rfl⟩:=Zuy (YcH h);exact ⟨_,_,_,_,_,rfl⟩
def Zw7 (h:l.length=6):∃ a b c d e f,l=[a,b,c,d,e,f]:=by
 obtain ⟨a,l,rfl⟩:=YaY h;obtain ⟨b,c,d,e,f,rfl⟩:=Zuf (YcH h);exact ⟨_,_,_,_,_,_,rfl⟩
def AllP {α:Type}(p:α->Prop):List α->Prop
 | []=>True
 | x::l=>p x/\AllP p l
theorem ZcD:∀ {l:List α},(∀ x∈l,p x)->AllP p l
 | [],_=>trivial
 | x::l,h=>⟨h x YaD,ZcD fun y z=>h y (Yau _ z)⟩
noncomputable def ZlY (K:Yab)(f:Yaq):Option Ybc:=match K.lookup f with
 | some ⟨_,_,.func fd,_⟩=>some fd
 | _=>none
def ZuE (x q:Str)(st:Yce)(dv:Yag)(fd:Ybc):Ybc:=Ybw x q (ZaM st) (Zah st) (Zaa st) dv fd.kwdefaults fd.doc fd.pyModule fd.annotations fd.code fd.closureTuple
noncomputable def Zb3:Option (Option Yag)->Yaq
 | some (some (.ref f))=>f
 | _=>0
noncomputable def ZkC:Option (Option Yag)->Bool
 | some (some (.ref _))=>true
 | _=>false
def Zgv (h:ZkC v=true):v=some (some (.ref (Zb3 v))):=by
 unfold ZkC at h;split at h
 ·rfl
 ·cases h
def fnB (K:Yab)(f:Yaq)(q:Str):Bool:=match ZlY K f with
 | some fd=>Yb7 K fd.code q && Ybk K (.ref f)
 | none=>false
def Zm2 {K:Yab}{f:Yaq}{x q:Str}{st:Yce}(h:fnB K f q=true)(e:ZlY K f=(ZlY K f).map (ZuE x q st .none)):∃ fd,Fun K x q st f fd:=by
 unfold fnB at h;cases c:ZlY K f with
 | none=>rw[c] at h;cases h
 | some fd=>
  rw[c] at h e;simp only[Yaa] at h;have e:fd=ZuE x q st .none fd:=YaT e;unfold ZlY at c;split at c
  ·rename_i J od I z l;cases c;exact ⟨fd,⟨J,od,fd.kwdefaults,fd.doc,fd.pyModule,fd.annotations,fd.code,fd.closureTuple,z,e,l,h.1⟩,h.2⟩
  ·cases c
def dfB (K:Yab)(l:List (Str×Yce)):Bool:=l.all fun e=>ZkC (YbR K YaO e.1) && fnB K (Zb3 (YbR K YaO e.1)) e.1
def dfL (K:Yab)(l:List (Str×Yce)):List (Option Ybc):=l.map fun e=>ZlY K (Zb3 (YbR K YaO e.1))
def dfR (K:Yab)(l:List (Str×Yce)):List (Option Ybc):=l.map fun e=>(ZlY K (Zb3 (YbR K YaO e.1))).map (ZuE e.1 e.1 e.2 .none)
def ZoN {K:Yab}{h:YbO}{mg:Str->Option Yag}{l:List (Str×Yce)}(X:K.In h)(G:h.Ns YaO mg)(a:dfB K l=true)(b:dfL K l=dfR K l):AllP (fun e=>Zhu K mg e.1 e.2) l:=ZcD fun e z=>by
 have h1:=Yaf.mp a e z;have h2:=List.map_inj_left.mp b e z;rw[Yaa] at h1;obtain ⟨fd,F⟩:=Zm2 h1.2 h2;exact ⟨_,fd,F,Ycl X G (Zgv h1.1)⟩
def mtB (K:Yab)(l:List (Yaq×Str×Str×Yce)):Bool:=l.all fun e=>ZkC (Yao K (.ref e.1) e.2.1) && (YdN K (.ref (Zb3 (Yao K (.ref e.1) e.2.1))) && fnB K (Zb3 (Yao K (.ref e.1) e.2.1)) e.2.2.1)
def mtL (K:Yab)(l:List (Yaq×Str×Str×Yce)):List (Option Ybc):=l.map fun e=>ZlY K (Zb3 (Yao K (.ref e.1) e.2.1))
def mtR (K:Yab)(l:List (Yaq×Str×Str×Yce)):List (Option Ybc):=l.map fun e=>(ZlY K (Zb3 (Yao K (.ref e.1) e.2.1))).map (ZuE e.2.1 e.2.2.1 e.2.2.2 .none)
def Zvt {K:Yab}{l:List (Yaq×Str×Str×Yce)}(a:mtB K l=true)(b:mtL K l=mtR K l):AllP (fun e=>ZuO K e.1 e.2.1 e.2.2.1 e.2.2.2) l:=ZcD fun e z=>by
 have h1:=Yaf.mp a e z;have h2:=List.map_inj_left.mp b e z;simp only[Yaa] at h1;obtain ⟨fd,F⟩:=Zm2 h1.2.2 h2;exact ⟨_,fd,⟨Zgv h1.1,h1.2.1,F.kp⟩,F⟩
noncomputable def mkB (K:Yab)(l:List Yaq):Bool:=l.all fun c=>Yen K c && Ybk K (.ref c)
def ZvP {K:Yab}{C:Yaq}{l:List Yaq}{q:Str}{st:Yce}(a:mkB K l=true)(m:C∈l)(h:ZuO K C "__init__" q st):MkX K C q st:=by
 have h1:=Yaf.mp a C m;rw[Yaa] at h1;obtain ⟨f,fd,⟨a1,z,I⟩,F⟩:=h;exact ⟨f,fd,⟨h1.1,a1,z,h1.2⟩,F⟩
noncomputable def noB (K:Yab)(l:List Str):Bool:=l.all fun x=>match YbR K YaO x with
 | some none=>true
 | _=>false
def ZvG {K:Yab}{h:YbO}{mg:Str->Option Yag}{l:List Str}(X:K.In h)(G:h.Ns YaO mg)(a:noB K l=true):AllP (fun x=>mg x=none) l:=ZcD fun x z=>by
 have h1:=Yaf.mp a x z;split at h1
 ·rename_i q;exact PySem.W.mg_none_of X G q
 ·cases h1
noncomputable def inB (K:Yab)(l:List (Str×Int)):Bool:=l.all fun e=>match YbR K YaO e.1 with
 | some (some (.int i _))=>i == e.2
 | _=>false
def Zxu {K:Yab}{h:YbO}{mg:Str->Option Yag}{l:List (Str×Int)}(X:K.In h)(G:h.Ns YaO mg)(a:inB K l=true):AllP (fun e=>GC mg e.1 (.int e.2)) l:=ZcD fun e z=>by
 have h1:=Yaf.mp a e z;split at h1
 ·rename_i i t q;have:=beq_iff_eq.mp h1;exact ZtO X G q ⟨t,by rw[this]⟩
 ·cases h1
def Zim:(Yam a=Yam b)=(a=b):=by
 refine propext ⟨fun h=>?_,fun h=>by rw[h]⟩;rw[Str.ofString_eq_toList,Str.ofString_eq_toList] at h;have h:a.toList.map Char.toNat=b.toList.map Char.toNat:=congrArg (fun s:Str=>s.cps.toList) h;exact String.toList_inj.mp ((List.map_inj_right fun _ _ e=>Char.toNat_inj.mp e).mp h)
def Zh6:(Yam a == Yam b)=(a == b):=by
 rw[YbZ,beq_iff_eq,beq_iff_eq,Zim]
theorem ZjM {a b:Str}{v:W}{l:List (Str×W)}:Yba a ((b,v)::l)=if (a == b)=true then some v else Yba a l:=by
 rw[YaG];cases a == b<;>rfl
example:¬Yam "abc"=Yam "abd":=by simp[Zim]
example {a b c:W}:Yba (Yam "tasks") [(Yam "tree",a),(Yam "tasks",b),(Yam "things",c)]=some b:=by simp[ZjM,Zh6]
example {a b c:W}:Yba (Yam "x") [(Yam "tree",a),(Yam "tasks",b),(Yam "things",c)]=none:=by simp[ZjM,Zh6]
structure Cl where
 f:Str->Fm
 m:Str->Tab
 i:Str->Fm
 c:Str->Str->Fm
 kit:Kit
inductive OB where
 | b0 | b1 | b2 | b3 | b4 | b6 | b7
inductive OC where
 | c0 | c1 | c2 | c3 | c4 | c5 | c6 | c7 | c10 | c11
inductive OU where
 | u1
inductive OK where
 | k1 | k2 | k3 | k6 | k7 | k8
inductive OT where
 | t0 | t2 | t3
inductive OS where
 | y0
inductive OR where
 | z0
inductive OP where
 | p0 | p2 | p3
set_option genInjectivity false
set_option genSizeOfSpec false
inductive R where
 | v (i:Nat) | kn | kb (b:Bool) | ki (i:Int) | ks (x:Str) | g (x:Str) (i:Int) | ty (n:String) | cl (c:Str) | bin (o:OB) (a b:R) | cmp (o:OC) (a b:R) | chn (o p:OC) (a b c:R) | un (o:OU) (a:R) | ix (a b:R) | dg (a b:R) | sl (a l u:R) | no | so (a:R) | an (a b:R) | or (a b:R) | one (a:R) | nt (a:R) | ife (c a b:R) | tup (a:R) | ls (a:R) | lsN (a:R) | dN | dsp (a:R) | pr (k v r:R) | cb (o:OK) (a:R) | ct (o:OT) (a:R) | s1 (o:OS) (a:R) | s2 (o:OR) (a:R) | fX (x:Str) (a:R) | fD (x:Str) (d:Option Int) (a:R) | mX (m:Str) (a b:R) | mk (c:Str) (a:R) | cc (c m:Str) (a:R) | app (a b:R) | ext (a b:R) | join (a b:R) | popD (a b:R) | cnt2 (a b:R) | idx (a b:R) | popA (a b:R) | fld (n:Str) (a:R) | xf (c n:Str) (a:R) | cpr (k:OP) (own fr:List Str) (ix:List Nat) (tg:List Nat) (i c e:R) | nil | cons (a b:R) | tv (a:R) | il (a:R) | it (a:R) | is (a:R) | r1 (a:R)
inductive S where
 | ret (a:R) | ex (a:R) | set (i:Nat) (a:R) | setC (i:Nat) (k:OP) (own fr:List Str) (ix tg:List Nat) (a b c:R) | setF (n:Str) (o v:R) | setD (o i v:R) | setK (i:Nat) (own fr:List Str) (ix tg:List Nat) (a b c:R) | ifs (c:R) (a b:S) | forS (t:List Nat) (i:R) (b:S) | forD (t:List Nat) (i:R) (b:S) | wh (n:Nat) (c:R) (b:S) | rz (c:Str) (a:R) | rzI (c f:Str) (a:R) | try1 (d:Str) (i:Nat) (asg:List Nat) (b h:S) | nvr | nil | one (a:S) | cons (a b:S)
noncomputable abbrev R.o (a:R):R:=.cons a .nil
noncomputable abbrev R.p (a b:R):R:=.cons a (.cons b .nil)
noncomputable abbrev R.v0:R:=.v 0
noncomputable abbrev R.v1:R:=.v 1
noncomputable abbrev R.v2:R:=.v 2
noncomputable abbrev R.v3:R:=.v 3
noncomputable abbrev R.v4:R:=.v 4
noncomputable abbrev R.v5:R:=.v 5
noncomputable abbrev R.v6:R:=.v 6
noncomputable abbrev R.v7:R:=.v 7
noncomputable abbrev R.v8:R:=.v 8
noncomputable abbrev S.c (a b:S):S:=.cons a b
noncomputable def nF:Fm:=fun _ _=>.no
noncomputable def nE:Ex:=fun _ _=>.no
noncomputable def nA:Exs:=fun _ _=>.no
noncomputable def opB:OB->Mem->W->W->Option W
 | .b0=>ZfK | .b1=>ZuX | .b2=>ZuR | .b3=>Zt9 | .b4=>Zig | .b6=>ZnP | .b7=>Zwt
noncomputable def ZxX:OB->Operator
 | .b0=>.Add | .b1=>.Sub | .b2=>.Mult | .b3=>.FloorDiv | .b4=>.Mod | .b6=>.BitAnd | .b7=>.BitOr
def opC:OC->Mem->W->W->Option W
 | .c0=>eqO | .c1=>neO | .c2=>ltM | .c3=>leM | .c4=>gtM | .c5=>geM | .c6=>inM false | .c7=>inM true | .c10=>Zne | .c11=>Zfp
noncomputable def ZnJ:OC->CmpOp
 | .c0=>.Eq | .c1=>.NotEq | .c2=>.Lt | .c3=>.LtE | .c4=>.Gt | .c5=>.GtE | .c6=>.In | .c7=>.NotIn | .c10=>.Is | .c11=>.IsNot
noncomputable def opU:OU->Mem->W->Option W
 | .u1=>ZuL
noncomputable def ZxJ:OU->UnaryOp
 | .u1=>.Invert
def cbO (k:Kit):OK->Mem->List W->Option W
 | .k1=>ZmG k | .k2=>Zkm | .k3=>Zso | .k6=>Zhx | .k7=>Ztq | .k8=>ZbA
noncomputable def cbN:OK->String
 | .k1=>"isinstance" | .k2=>"len" | .k3=>"sum" | .k6=>"all" | .k7=>"ord" | .k8=>"sorted"
noncomputable def ctO:OT->Mem->List W->Option W
 | .t0=>Zs8 | .t2=>Zh4 | .t3=>ZcF
noncomputable def ctN:OT->String
 | .t0=>"int" | .t2=>"list" | .t3=>"tuple"
def s1O:OS->Ex->Ex
 | .y0=>ZiR
noncomputable def s2O:OR->Ex->Ex
 | .z0=>Zh5
noncomputable def s2N:OR->String
 | .z0=>"reversed"
def gTs:List Nat->Tg
 | [i]=>gN i
 | [i,j]=>gT2 i j
 | _=>fun _ _=>none
open Classical in
noncomputable def pu (f:Ex):Ex:=fun ρ h=>match f ρ h with
 | .ok w h'=>if h'=h then .ok w h' else .no
 | r=>r
def Zfn (e:f ρ h=.ok w h):pu f ρ h=.ok w h:=by unfold pu;rw[e];simp
def ZhG (f:Ex)(ρ:Sg)(m:Mem):pu f ρ m=f ρ m\/pu f ρ m=.no:=by
 unfold pu;cases f ρ m with
 | ok w h'=>simp only;split;exact .inl rfl;exact .inr rfl
 | ex w h'=>exact .inl rfl
 | no=>exact .inl rfl
instance {f:Ex}:Pu (pu f):=⟨fun ρ h w h' e=>by
 unfold pu at e;cases q:f ρ h with
 | ok u m=>
  rw[q] at e;simp only at e;split at e
  ·rename_i z;cases e;exact z
  ·cases e
 | ex u m=>rw[q] at e;cases e
 | no=>rw[q] at e;cases e⟩
mutual
noncomputable def dE (C:Cl):R->Ex
 | .v i=>Zf9 i
 | .kn=>xC .non
 | .kb b=>xC (.bl b)
 | .ki i=>xC (.int i)
 | .ks x=>xC (.str x)
 | .g _ i=>xC (.int i)
 | .ty n=>xC (.ty n)
 | .cl c=>xC (.cls c)
 | .bin o a b=>ZbS (opB o) (dE C a) (dE C b)
 | .cmp o a b=>ZbS (opC o) (dE C a) (dE C b)
 | .chn o p a b c=>Zbk (opC o) (opC p) (dE C a) (dE C b) (dE C c)
 | .un o a=>xUn (opU o) (dE C a)
 | .ix a b=>ZbS ixM (dE C a) (dE C b)
 | .dg a b=>ZbS Zh8 (dE C a) (dE C b)
 | .sl a l u=>xSl slM (dE C a) (dO C l) (dO C u)
 | .an a b=>ZiN (dE C a) (dE C b)
 | .or a b=>xOr (dE C a) (dE C b)
 | .one a=>dE C a
 | .nt a=>Zjb (dE C a)
 | .ife c a b=>xIf (dT C c) (dE C a) (dE C b)
 | .tup a=>Zq7 (dA C a)
 | .ls a=>Zqq (dA C a)
 | .lsN a=>ZjO (dA C a)
 | .dN=>Zpc
 | .dsp a=>ZiV (dP C a)
 | .cb o a=>xCb (cbO C.kit o) (dA C a)
 | .ct o a=>xCb (ctO o) (dA C a)
 | .s1 o a=>s1O o (dE C a)
 | .s2 o a=>s2O o (dE C a)
 | .fX x a=>ZaJ (C.f x) (dA C a)
 | .fD x d a=>ZaJ (fun ws=>C.f x (ws++[dfW d])) (dA C a)
 | .mX m a b=>ZcQ m (C.m m) (dE C a) (dA C b)
 | .mk c a=>ZfB c (C.i c) (dA C a)
 | .cc c m a=>Zen (C.c c m) (dA C a)
 | .app a b=>xLm ZmD (dE C a) (dA C b)
 | .ext a b=>ZqM (dE C a) (dE C b)
 | .join a b=>Zni Zff (dE C a) (dA C b)
 | .popD a b=>Ziy (dE C a) (dE C b)
 | .cnt2 a b=>Zpq Zdx (dE C a) (dA C b)
 | .idx a b=>Zpq ZbR (dE C a) (dA C b)
 | .popA a b=>xLm Zqt (dE C a) (dA C b)
 | .fld n a=>xUn (Zqk n) (dE C a)
 | .xf c n a=>xXf c n (dE C a)
 | .cpr k own _ ix tg i c e=>match k with
  | .p0=>Za9 (dI C i) own.length ix (gTs tg) (xC (.bl true)) (pu (dE C e))
  | .p2=>ZcA (dI C i) own.length ix (gTs tg) (dQ C c) (dE C e)
  | .p3=>Za9 (dI C i) own.length ix (gTs tg) (pu (dQ C c)) (pu (dE C e))
 | _=>nE
noncomputable def dA (C:Cl):R->Exs
 | .nil=>Zfe
 | .cons a b=>Zbv (dE C a) (dA C b)
 | _=>nA
noncomputable def dO (C:Cl):R->Eo
 | .so a=>xPs (dE C a)
 | _=>xPn
noncomputable def dP (C:Cl):R->List (Ex×Ex)
 | .pr k v r=>(dE C k,dE C v)::dP C r
 | _=>[]
noncomputable def dT (C:Cl):R->Ex
 | .tv a=>dE C a
 | .cmp o a b=>ZbS (opC o) (dE C a) (dE C b)
 | .chn o p a b c=>Zbk (opC o) (opC p) (dE C a) (dE C b) (dE C c)
 | .nt a=>Zjb (dT C a)
 | .an a b=>ZiN (dT C a) (dT C b)
 | .or a b=>xOr (dT C a) (dT C b)
 | .one a=>dT C a
 | _=>nE
noncomputable def dI (C:Cl):R->Ei
 | .il a=>xIl (dE C a)
 | .it a=>xIt (dE C a)
 | .is a=>xIs (dE C a)
 | .r1 a=>ZhL (dE C a)
 | _=>fun _ _=>.no
noncomputable def dQ (C:Cl):R->Ex
 | .so a=>dT C a
 | _=>xC (.bl true)
end
variable (sub:Str->Str->Bool)
mutual
noncomputable def dS (C:Cl):S->Sm
 | .ret a=>Zqp (dE C a)
 | .ex a=>ZiD (dE C a)
 | .set i a=>ZdJ (gN i) (dE C a)
 | .setC i k own fr ix tg a b c=>ZdJ (gN i) (dE C (.cpr k own fr ix tg a b c))
 | .setF n o v=>Zi1 n (dE C o) (dE C v)
 | .setD o i v=>ZjW (dE C o) (dE C i) (dE C v)
 | .setK i own _ ix tg a b c=>ZdJ (gN i) (Zds (dE C a) own.length ix (gTs tg) (pu (dQ C b)) (pu (dE C c)))
 | .ifs c a b=>Zp5 (dT C c) (dB C a) (dB C b)
 | .forS t i b=>ZhA (dI C i) (gTs t) (dB C b)
 | .forD t i b=>ZhS (dE C i) (gTs t) (dB C b)
 | .wh n c b=>Zbw (dT C c) (dB C b) n
 | .rz c a=>ZeV c (dA C a)
 | .rzI c f a=>Zcy c f (dA C a)
 | .try1 d i asg b h=>Zry (sub d) i asg (dB C b) (dB C h)
 | _=>xNo
noncomputable def dB (C:Cl):S->Sm
 | .nil=>Zjw
 | .one a=>dS C a
 | .cons a b=>Zf2 (dS C a) (dB C b)
 | _=>xNo
end
def ff {p:Prop}(h:false=true):p:=nomatch h
noncomputable def pl:YaQ->Bool
 | .Starred ..=>false | .Set ..=>false | .Slice ..=>false | _=>true
noncomputable def pls (es:List YaQ):Bool:=es.all pl && decide (es.length<30)
noncomputable def plo:YaQ->Bool
 | .Call (.Name _ _) [] [] _=>false | _=>true
noncomputable def vt:YaQ->Bool
 | .UnaryOp .Not ..=>false | .BoolOp ..=>false | .IfExp ..=>false | .Compare ..=>false | _=>true
noncomputable def nc:YaQ->Bool
 | .ListComp ..=>false | .SetComp ..=>false | .DictComp ..=>false | _=>true
section
variable {e o:YaQ} {es:List YaQ} {env:Env}
def Zap (h:pl e=true):Yah (e::es) env=(false,YbT e env)::Yah es env:=by
 cases e<;>first|rfl|cases h
theorem Zgm:∀ {es:List YaQ},es.all pl=true->∀ p∈Yah es env,p.1=false
 | [],_,p,z=>by cases z
 | e::es,h,p,z=>by
  rw[Ybf,Yaa] at h;rw[Zap h.1] at z;rcases Yaz.mp z with rfl|z
  ·rfl
  ·exact Zgm h.2 p z
def Zgy (h:es.all pl=true):∀ p∈Ya3 pos (Yah es env),p.1=false:=fun p z=>by
 unfold Ya3 at z;obtain ⟨q,I,rfl⟩:=YbF.mp z;exact Zgm h q I
def ZaT (h:es.all pl=true):(Ya3 pos (Yah es env)).any (·.1)=false:=by
 rw[List.any_eq_false];intro p z;rw[Zgy h p z];decide
def Zb2 (h:es.all pl=true)(I:n<30):((Ya3 pos (Yah es env)).all (fun x=>!x.1) && (Ycc pos (Ybm [] env)).all (fun x=>x.1.isSome)
   && decide (n+([]:List Yb8).length+(if ([]:List Yb8).isEmpty then 0 else 1)<30))=true:=by
 have h1:(Ya3 pos (Yah es env)).all (fun x=>!x.1)=true:=Yaf.mpr fun p z=>by rw[Zgy h p z];rfl
 rw[h1];show decide (n+0+0<30)=true;exact decide_eq_true (by omega)
def ZaI (h:plo o=true):Ybb o m env (YbT o env)=YbT o env:=by
 cases o with
 | Call f es ks p=>
  cases f with
  | Name x q=>
   cases es with
   | nil=>cases ks with
    | nil=>cases h
    | cons _ _=>rfl
   | cons _ _=>rfl
  | _=>rfl
 | _=>rfl
def Zw0 (h:vt e=true)(z:Sem Yag):Yfe e env z=(do let v <- z;Yd7 e.pos;Yd8 [v] (truthy v)):=by
 cases e with
 | UnaryOp op x p=>cases op<;>first | rfl | cases h
 | _=>first | rfl | cases h
def Zej (h:pl e=true):YcK op e=false:=by
 cases e<;>first|rfl|cases h
def Za5 (h:pl e=true)(x:Yag):Ya1 e env x=pure x:=by
 cases e<;>first|rfl|cases h
def Zse (h:pl e=true):Zeg e:=fun o i=>by
 cases e<;>first|rfl|cases h
def Zcz (h:nc e=true):YbI e t n env=pure false:=by
 cases e<;>first|rfl|cases h
def Zj0 (ho:plo o=true)(z:(ap.endLine == pos.line)=true)(Y:es.all pl=true)(I:es.length<30) :
  YbT (.Call (.Attribute o m ap) es [] pos) env=(do
   let ov <- YbT o env
   Yd7 ap.atName
   let (f,first) <- Yd8 [ov] (YdY ov m (do return (<- importBound o env).getD true))
   Ye0 pos f first (Ya3 pos (Yah es env)) (Ycc pos (Ybm [] env))):=by
 have J:methodCallForm (es.length+([]:List Yb8).length) (Ya3 pos (Yah es env)) (Ycc pos (Ybm [] env))=true:=Zb2 Y I;have U:YbT (.Call (.Attribute o m ap) es [] pos) env=(do
  let ov <- Ybb o m env (YbT o env)
  Yd7 ap.atName
  methodCall o m ap pos env ov (es.length+([]:List Yb8).length) (Ya3 pos (Yah es env)) (Ycc pos (Ybm [] env))):=by
  rfl
 rw[U,ZaI ho];unfold methodCall calleeOf methodCallPos;rw[J,z];rfl
end
structure Tb where
 D:Str->Option Bool
 Dd:Str->Option (Option Int)
 M:Str->Option Bool
 I:List Str
 Cm:List (Str×Str)
 Kc:List (Str×Int)
 Ty:List String
 Bu:List String
 Cn:List Str
 Fl:List Str
 Rz:List Str
 Ri:List (Str×Str)
 Ct:List Str
 Xf:List (Str×Str)
 sub:Str->Str->Bool
structure Fx (tb:Tb)(C:Cl)(P:YaN)(w:Ybg)(K:Yab)(mg:Str->Option Yag)(base:YbO)(T:CTb)(k:Nat):Prop where
 f:∀ x q,tb.D x=some q->∀ c,(c || q)=true->FnAt P w K mg base (CXe c P w) k x (spH T (C.f x))
 fd:∀ x d,tb.Dd x=some d->FnAtD d P w K mg base (CXe true P w) k x (spH T (C.f x))
 m:∀ m q,tb.M m=some q->∀ c,(c || q)=true->ZuN P w K mg base T c k m (C.m m)
 i:∀ c,c∈tb.I->∃ kk,kk+1<=k/\ZwQ P w K mg base T kk c (C.i c)
 c:∀ c m,(c,m)∈tb.Cm->Zxz P w K mg base T k c m (C.c c m)
 gc:∀ x i,(x,i)∈tb.Kc->GC mg x (.int i)
 ty:∀ n,n∈tb.Ty->mg (Yam n)=none/\YaR (Yam n)=some (.type n)/\Yam n≠"__name__"
 bu:∀ n,n∈tb.Bu->mg (Yam n)=none/\YaR (Yam n)=some (.builtin n)/\Yam n≠"__name__"
 cn:∀ x,x∈tb.Cn->∃ A,GC mg x (.ref A)/\T.any x=some A
 ins:ZeI K T
 exo:ZlW K T
 kit:ZjX K T C.kit
 fl:∀ x,x∈tb.Fl->Zht K T x
 rz:∀ c,c∈tb.Rz->Zxg K mg T c
 ri:∀ c f,(c,f)∈tb.Ri->∃ kk,kk+1<=k/\RzI P w K mg base T kk c f
 ct:∀ d,d∈tb.Ct->CatAt K mg T d (tb.sub d)
 xf:∀ c n,(c,n)∈tb.Xf->Zwq K T c n
structure Gm where
 N:List Str
 sc:YcQ
 calm:Bool
 wr:Nat->Bool
 fn:Bool
structure Mt (tb:Tb)(C:Cl)(G:Gm)(X:Cx)(Z:Zc):Prop where
 N:X.N=G.N
 sc:X.env.scope=G.sc
 nd:X.N.Nodup
 calm:G.calm=true->X.calm=true
 room:∃ k,Room k X.A/\Fx tb C X.prog X.w X.K X.mg X.base Z.T k
 xok:XOk X Z
 wr:∀ i,G.wr i=true->∀ σ v,Z.sg σ->Z.sg (σ.set i (some v))
 fn:G.fn=true->∀ x,X.fn x=true
@[irreducible] def aN (e:YaQ) (k:Str->Bool):Bool:=match e with
 | .Name x _=>k x
 | _=>false
@[irreducible] def aC (e:YaQ) (k:Const->Bool):Bool:=match e with
 | .Constant c _ _=>k c
 | _=>false
@[irreducible] def aB (e:YaQ) (k:YaQ->Operator->YaQ->Bool):Bool:=match e with
 | .BinOp x o y _=>k x o y
 | _=>false
@[irreducible] def is1 {α:Type} (l:List α) (k:α->Bool):Bool:=match l with
 | x::r=>r.isEmpty && k x
 | []=>false
@[irreducible] def is2 {α:Type} (l:List α) (k:α->α->Bool):Bool:=match l with
 | x::r=>is1 r (k x)
 | []=>false
@[irreducible] def aM (e:YaQ) (k:YaQ->List CmpOp->List YaQ->Bool):Bool:=match e with
 | .Compare x o y _=>k x o y
 | _=>false
@[irreducible] def aM1 (e:YaQ) (k:YaQ->CmpOp->YaQ->Bool):Bool:=aM e fun x o y=>is1 o fun o=>is1 y fun y=>k x o y
@[irreducible] def aM2 (e:YaQ) (k:YaQ->CmpOp->CmpOp->YaQ->YaQ->Bool):Bool:=aM e fun x o y=>is2 o fun o p=>is2 y fun y z=>k x o p y z
@[irreducible] def aU (e:YaQ) (k:UnaryOp->YaQ->Bool):Bool:=match e with
 | .UnaryOp o x _=>k o x
 | _=>false
@[irreducible] def aS (e:YaQ) (k:YaQ->YaQ->Bool):Bool:=match e with
 | .Subscript x y _=>k x y
 | _=>false
@[irreducible] def aSl (e:YaQ) (k:Option YaQ->Option YaQ->Bool):Bool:=match e with
 | .Slice l u s _=>s.isNone && k l u
 | _=>false
@[irreducible] def aO (e:YaQ) (k:BoolOp->List YaQ->Pos->Bool):Bool:=match e with
 | .BoolOp o es p=>k o es p
 | _=>false
@[irreducible] def aO2 (e:YaQ) (k:BoolOp->YaQ->YaQ->Bool):Bool:=aO e fun o es p=>match es with
 | x::r=>!r.isEmpty && k o x (.BoolOp o r p)
 | []=>false
@[irreducible] def aO1 (e:YaQ) (k:BoolOp->YaQ->Bool):Bool:=aO e fun o es _=>is1 es (k o)
@[irreducible] def aI (e:YaQ) (k:YaQ->YaQ->YaQ->Bool):Bool:=match e with
 | .IfExp t x y _=>k t x y
 | _=>false
@[irreducible] def aT (e:YaQ) (k:List YaQ->Bool):Bool:=match e with
 | .Tuple es _ _=>k es
 | _=>false
@[irreducible] def aL (e:YaQ) (k:List YaQ->Bool):Bool:=match e with
 | .List es _=>k es
 | _=>false
@[irreducible] def aD (e:YaQ) (k:List (Option YaQ)->List YaQ->Bool):Bool:=match e with
 | .Dict ks vs _=>k ks vs
 | _=>false
@[irreducible] def aCl (e:YaQ) (k:YaQ->List YaQ->Pos->Bool):Bool:=match e with
 | .Call f es ks p=>ks.isEmpty && k f es p
 | _=>false
@[irreducible] def aAt (e:YaQ) (k:YaQ->Str->Pos->Bool):Bool:=match e with
 | .Attribute o m p=>k o m p
 | _=>false
@[irreducible] def aF (e:YaQ) (k:Str->List YaQ->Bool):Bool:=aCl e fun f es _=>aN f fun x=>k x es
@[irreducible] def aK (e:YaQ) (k:YaQ->Str->List YaQ->Bool->Bool):Bool:=aCl e fun f es p=>aAt f fun o m ap=>k o m es (ap.endLine == p.line)
@[irreducible] def aA (e:YaQ) (k:YaQ->Str->Bool):Bool:=aAt e fun o m _=>k o m
@[irreducible] def aGp (e:YaQ) (k:YaQ->YaQ->YaQ->List YaQ->YcQ->Pos->Bool):Bool:=match e with
 | .ListComp x gs sc p=>is1 gs fun c=>decide (c.is_async=0) && k x c.target c.iter c.ifs sc p
 | _=>false
@[irreducible] def aG (e:YaQ) (k:YaQ->YaQ->YaQ->List YaQ->YcQ->Bool):Bool:=aGp e fun x t i cs sc _=>k x t i cs sc
section
variable {e:YaQ}
def Zde (h:aN e k=true):∃ x p,e=.Name x p/\k x=true:=by
 unfold aN at h;cases e<;>first|exact ⟨_,_,rfl,h⟩|exact ff h
def ZkO (h:aC e k=true):∃ c j p,e=.Constant c j p/\k c=true:=by
 unfold aC at h;cases e<;>first|exact ⟨_,_,_,rfl,h⟩|exact ff h
def ZwR (h:aB e k=true):∃ x o y p,e=.BinOp x o y p/\k x o y=true:=by
 unfold aB at h;cases e<;>first|exact ⟨_,_,_,_,rfl,h⟩|exact ff h
def Zk9 (h:aU e k=true):∃ o x p,e=.UnaryOp o x p/\k o x=true:=by
 unfold aU at h;cases e<;>first|exact ⟨_,_,_,rfl,h⟩|exact ff h
def Zlh (h:aS e k=true):∃ x y p,e=.Subscript x y p/\k x y=true:=by
 unfold aS at h;cases e<;>first|exact ⟨_,_,_,rfl,h⟩|exact ff h
noncomputable def Zva (h:aI e k=true):∃ t x y p,e=.IfExp t x y p/\k t x y=true:=by
 unfold aI at h;cases e<;>first|exact ⟨_,_,_,_,rfl,h⟩|exact ff h
def Ztw (h:aT e k=true):∃ es j p,e=.Tuple es j p/\k es=true:=by
 unfold aT at h;cases e<;>first|exact ⟨_,_,_,rfl,h⟩|exact ff h
def ZsO (h:aL e k=true):∃ es p,e=.List es p/\k es=true:=by
 unfold aL at h;cases e<;>first|exact ⟨_,_,rfl,h⟩|exact ff h
def Zrw (h:aD e k=true):∃ ks vs p,e=.Dict ks vs p/\k ks vs=true:=by
 unfold aD at h;cases e<;>first|exact ⟨_,_,_,rfl,h⟩|exact ff h
def ZaC (h:is1 l k=true):∃ x,l=[x]/\k x=true:=by
 unfold is1 at h;cases l with
 | nil=>exact ff h
 | cons x r=>
  cases r with
  | nil=>exact ⟨x,rfl,h⟩
  | cons _ _=>exact ff h
def ZmX (h:is2 l k=true):∃ x y,l=[x,y]/\k x y=true:=by
 unfold is2 at h;cases l with
 | nil=>exact ff h
 | cons x r=>
  obtain ⟨y,e,h⟩:=ZaC h;exact ⟨x,y,by rw[e],h⟩
def Zup (h:aM e k=true):∃ x o y p,e=.Compare x o y p/\k x o y=true:=by
 unfold aM at h;cases e<;>first|exact ⟨_,_,_,_,rfl,h⟩|exact ff h
def Zje (h:aM1 e k=true):∃ x o y p,e=.Compare x [o] [y] p/\k x o y=true:=by
 unfold aM1 at h;obtain ⟨x,os,ys,p,z,h⟩:=Zup h;obtain ⟨o,I,h⟩:=ZaC h;obtain ⟨y,J,h⟩:=ZaC h;exact ⟨x,o,y,p,by rw[z,I,J],h⟩
def Zia (h:aM2 e k=true):∃ x o q y z p,e=.Compare x [o,q] [y,z] p/\k x o q y z=true:=by
 unfold aM2 at h;obtain ⟨x,os,ys,p,I,h⟩:=Zup h;obtain ⟨o,q,J,h⟩:=ZmX h;obtain ⟨y,z,U,h⟩:=ZmX h;exact ⟨x,o,q,y,z,p,by rw[I,J,U],h⟩
def Zrs (h:aSl e k=true):∃ l u p,e=.Slice l u none p/\k l u=true:=by
 unfold aSl at h;cases e
 case Slice l u s p=>
  cases s with
  | none=>exact ⟨l,u,p,rfl,h⟩
  | some _=>exact ff h
 all_goals exact ff h
def ZsM (h:aO e k=true):∃ o es p,e=.BoolOp o es p/\k o es p=true:=by
 unfold aO at h;cases e<;>first|exact ⟨_,_,_,rfl,h⟩|exact ff h
def ZdB (h:aO2 e k=true):∃ o x y r p,e=.BoolOp o (x::y::r) p/\k o x (.BoolOp o (y::r) p)=true:=by
 unfold aO2 at h;obtain ⟨o,es,p,z,h⟩:=ZsM h;cases es with
 | nil=>exact ff h
 | cons x r=>
  cases r with
  | nil=>exact ff h
  | cons y r=>exact ⟨o,x,y,r,p,z,h⟩
def Zik (h:aO1 e k=true):∃ o x p,e=.BoolOp o [x] p/\k o x=true:=by
 unfold aO1 at h;obtain ⟨o,es,p,z,h⟩:=ZsM h;obtain ⟨x,I,h⟩:=ZaC h;exact ⟨o,x,p,by rw[z,I],h⟩
def Zmd (h:aCl e k=true):∃ f es p,e=.Call f es [] p/\k f es p=true:=by
 unfold aCl at h;cases e
 case Call f es ks p=>
  cases ks with
  | nil=>exact ⟨f,es,p,rfl,h⟩
  | cons _ _=>exact ff h
 all_goals exact ff h
def Zmw (h:aAt e k=true):∃ o m p,e=.Attribute o m p/\k o m p=true:=by
 unfold aAt at h;cases e<;>first|exact ⟨_,_,_,rfl,h⟩|exact ff h
def ZcW (h:aF e k=true):∃ x q es p,e=.Call (.Name x q) es [] p/\k x es=true:=by
 unfold aF at h;obtain ⟨f,es,p,z,h⟩:=Zmd h;obtain ⟨x,q,I,h⟩:=Zde h;exact ⟨x,q,es,p,by rw[z,I],h⟩
def ZdW (h:aK e k=true):∃ o m z es p,e=.Call (.Attribute o m z) es [] p/\k o m es (z.endLine == p.line)=true:=by
 unfold aK at h;obtain ⟨f,es,p,I,h⟩:=Zmd h;obtain ⟨o,m,z,J,h⟩:=Zmw h;exact ⟨o,m,z,es,p,by rw[I,J],h⟩
def Znn (h:aA e k=true):∃ o m p,e=.Attribute o m p/\k o m=true:=by
 unfold aA at h;exact Zmw h
def Zjk (h:aGp e k=true):∃ x t i cs z p,e=.ListComp x [⟨t,i,cs,0⟩] z p/\k x t i cs z p=true:=by
 unfold aGp at h;cases e
 case ListComp x gs z p=>
  obtain ⟨⟨t,i,cs,n⟩,I,h⟩:=ZaC h;rw[Yaa] at h;have:n=0:=of_decide_eq_true h.1;subst this;exact ⟨x,t,i,cs,z,p,by rw[I],h.2⟩
 all_goals exact ff h
def ZnL (h:aG e k=true):∃ x t i cs z p,e=.ListComp x [⟨t,i,cs,0⟩] z p/\k x t i cs z=true:=by
 unfold aG at h;exact Zjk h
end
noncomputable def Zqd (z o:YcQ):YcQ:={ z with names:=z.names.map fun (n,k)=>if (k == .free && o.kind == .function && o.names.lookup n == some .cell) then (n,.cell) else (n,k) }
section
variable (tb:Tb)
noncomputable def quiet:OK->Bool
 | .k1=>true | .k2=>true | .k7=>true | _=>false
noncomputable def gl (G:Gm)(x:Str):Bool:=decide (G.sc.names.lookup x=some .globalImplicit) && !(x == ("__debug__":Str))
noncomputable def has (l:Option Bool)(c:Bool):Bool:=match l with
 | some q=>c || q
 | none=>false
noncomputable def wOk (G:Gm)(i:Nat)(x:Str):Bool:=decide (G.N[i]?=some x) && G.wr i && (decide (G.sc.names.lookup x=some .local) || (G.fn && decide (G.sc.names.lookup x=some .cell)))
def oTs (G:Gm):List Nat->List YaQ->Bool
 | [],[]=>true
 | i::t,e::es=>aN e (wOk G i) && oTs G t es
 | _,_=>false
def oTg (G:Gm)(t:List Nat)(e:YaQ):Bool:=match t with
 | [i]=>aN e (wOk G i)
 | t=>decide (2<=t.length) && decide (t.length<=2) && aT e fun es=>oTs G t es
noncomputable def ZmJ (G:Gm)(n:String)(x:Str):Bool:=decide (x=Yam n) && gl G x && decide (n∈tb.Ty)
noncomputable def ZwF (G:Gm)(n:String)(x:Str):Bool:=decide (x=Yam n) && gl G x && decide (n∈tb.Bu)
mutual
noncomputable def oE (G:Gm):R->YaQ->Bool
 | .v i=>fun e=>aN e fun x=>decide (G.N[i]?=some x) && (decide (G.sc.names.lookup x=some .local) || decide (G.sc.names.lookup x=some .cell) || decide (G.sc.names.lookup x=some .free)) && !(x == ("__debug__":Str)) && !(x == ("__classdict__":Str))
 | .kn=>fun e=>aC e fun c=>decide (c=.none)
 | .kb b=>fun e=>aC e fun c=>decide (c=.bool b)
 | .ki i=>fun e=>aC e fun c=>decide (c=.int i)
 | .ks x=>fun e=>aC e fun c=>decide (c=.str x)
 | .g y i=>fun e=>aN e fun x=>decide (x=y) && gl G x && decide ((y,i)∈tb.Kc)
 | .ty n=>fun e=>aN e (ZmJ tb G n)
 | .cl c=>fun e=>aN e fun x=>decide (x=c) && gl G x && decide (c∈tb.Cn)
 | .bin o a b=>fun e=>aB e fun x p y=>decide (p=ZxX o) && oE G a x && oE G b y
 | .cmp o a b=>fun e=>aM1 e fun x p y=>decide (p=ZnJ o) && pl y && oE G a x && oE G b y
 | .chn o o' a b c=>fun e=>aM2 e fun x p Y y z=>decide (p=ZnJ o) && decide (Y=ZnJ o') && pl z && oE G a x && oE G b y && oE G c z
 | .un o a=>fun e=>aU e fun p x=>decide (p=ZxJ o) && oE G a x
 | .ix a b=>fun e=>aS e fun x y=>pl y && oE G a x && oE G b y
 | .dg a b=>fun e=>aS e fun x y=>pl y && oE G a x && oE G b y
 | .sl a l u=>fun e=>aS e fun x y=>aSl y fun lo hi=>oE G a x && oO G l lo && oO G u hi
 | .an a b=>fun e=>aO2 e fun o x y=>decide (o=.And) && oE G a x && oE G b y
 | .or a b=>fun e=>aO2 e fun o x y=>decide (o=.Or) && oE G a x && oE G b y
 | .one a=>fun e=>aO1 e fun _ x=>oE G a x
 | .nt a=>fun e=>aU e fun p x=>decide (p=.Not) && oE G a x
 | .ife c a b=>fun e=>aI e fun t x y=>oT G c t && oE G a x && oE G b y
 | .tup a=>fun e=>aT e fun es=>oA G a es
 | .ls a=>fun e=>aL e fun es=>oA G a es
 | .lsN a=>fun e=>aL e fun es=>oA G a es
 | .dN=>fun e=>aD e fun ks vs=>ks.isEmpty && vs.isEmpty
 | .dsp a=>fun e=>aD e fun ks vs=>decide (ks.length=vs.length) && !ks.isEmpty && decide (ks.length<=15) && oP G a ks vs
 | .cb o a=>fun e=>aF e fun x es=>ZwF tb G (cbN o) x && (G.calm || quiet o) && pls es && !es.isEmpty && oA G a es
 | .ct o a=>fun e=>aF e fun x es=>ZmJ tb G (ctN o) x && pls es && !es.isEmpty && oA G a es
 | .s1 o a=>fun e=>aF e fun x es=>is1 es fun y=>ZmJ tb G "list" x && G.calm && pl y && oE G a y
 | .s2 o a=>fun e=>aF e fun x es=>is1 es fun y=>ZmJ tb G "list" x && G.calm && aF y fun x' I=>is1 I fun z=>ZmJ tb G (s2N o) x' && pl z && oE G a z
 | .fX f a=>fun e=>aF e fun x es=>decide (x=f) && gl G x && has (tb.D f) G.calm && pls es && oA G a es
 | .fD f d a=>fun e=>aF e fun x es=>decide (x=f) && gl G x && G.calm && decide (tb.Dd f=some d) && pls es && !es.isEmpty && oA G a es
 | .mX m a b=>fun e=>aK e fun o n es l=>decide (n=m) && l && plo o && has (tb.M m) G.calm && pls es && oE G a o && oA G b es
 | .mk c a=>fun e=>aF e fun x es=>decide (x=c) && gl G x && G.calm && decide (c∈tb.I) && pls es && oA G a es
 | .cc c m a=>fun e=>aK e fun o n es l=>decide (n=m) && l && G.calm && decide ((c,m)∈tb.Cm) && pls es && !es.isEmpty && oA G a es && aN o fun x=>decide (x=c) && gl G x
 | .app a b=>fun e=>aK e fun o n es l=>decide (n="append") && l && plo o && oE G a o && oA G b es && is1 es pl
 | .cnt2 a b=>fun e=>aK e fun o n es l=>decide (n="count") && l && plo o && oE G a o && oA G b es && is1 es pl
 | .idx a b=>fun e=>aK e fun o n es l=>decide (n="index") && l && plo o && oE G a o && oA G b es && is1 es pl
 | .popA a b=>fun e=>aK e fun o n es l=>decide (n="pop") && l && plo o && oE G a o && oA G b es && is1 es pl
 | .ext a b=>fun e=>aK e fun o n es l=>decide (n="extend") && l && plo o && oE G a o && is1 es fun x=>pl x && oE G b x
 | .join a b=>fun e=>aK e fun o n es l=>decide (n="join") && l && plo o && oE G a o && oA G b es && is1 es pl
 | .popD a b=>fun e=>aK e fun o n es l=>decide (n="pop") && l && plo o && oE G a o && is1 es fun x=>pl x && oE G b x
 | .fld n a=>fun e=>aA e fun o m=>decide (m=n) && plo o && decide (n∈tb.Fl) && oE G a o
 | .xf c n a=>fun e=>aA e fun o m=>decide (m=n) && plo o && decide ((c,n)∈tb.Xf) && oE G a o
 | .cpr k own fr ix tg i c x=>fun e=>aG e fun y t j cs U=>compOk G.sc G.N own fr ix U && pl j && oI G i j && (fun J=>oTg J tg t && (match k with
  | .p0=>cs.isEmpty
  | _=>oQ J c cs) && oE J x y) ⟨own++fr,Zqd U G.sc,G.calm,fun i=>decide (i<own.length),false⟩
 | _=>fun _=>false
noncomputable def oA (G:Gm):R->List YaQ->Bool
 | .nil=>fun es=>es.isEmpty
 | .cons a b=>fun es=>match es with
  | x::r=>pl x && oE G a x && oA G b r
  | []=>false
 | _=>fun _=>false
noncomputable def oO (G:Gm):R->Option YaQ->Bool
 | .no=>fun e=>e.isNone
 | .so a=>fun e=>match e with
  | some x=>oE G a x
  | none=>false
 | _=>fun _=>false
noncomputable def oP (G:Gm):R->List (Option YaQ)->List YaQ->Bool
 | .nil=>fun ks vs=>ks.isEmpty && vs.isEmpty
 | .pr k v r=>fun ks vs=>match ks,vs with
  | some a::ks,b::vs=>oE G k a && oE G v b && oP G r ks vs
  | _,_=>false
 | _=>fun _ _=>false
noncomputable def oT (G:Gm):R->YaQ->Bool
 | .tv a=>fun e=>vt e && oE G a e
 | .cmp o a b=>fun e=>aM1 e fun x p y=>decide (p=ZnJ o) && pl y && oE G a x && oE G b y
 | .chn o o' a b c=>fun e=>aM2 e fun x p I y z=>decide (p=ZnJ o) && decide (I=ZnJ o') && pl z && oE G a x && oE G b y && oE G c z
 | .nt a=>fun e=>aU e fun p x=>decide (p=.Not) && oT G a x
 | .an a b=>fun e=>aO2 e fun o x y=>decide (o=.And) && oT G a x && oT G b y
 | .or a b=>fun e=>aO2 e fun o x y=>decide (o=.Or) && oT G a x && oT G b y
 | .one a=>fun e=>aO1 e fun _ x=>oT G a x
 | _=>fun _=>false
noncomputable def oI (G:Gm):R->YaQ->Bool
 | .il a=>fun e=>oE G a e
 | .it a=>fun e=>oE G a e
 | .is a=>fun e=>G.calm && oE G a e
 | .r1 a=>fun e=>aF e fun x es=>ZmJ tb G "range" x && G.calm && is1 es fun y=>pl y && oE G a y
 | _=>fun _=>false
noncomputable def oQ (G:Gm):R->List YaQ->Bool
 | .no=>fun cs=>cs.isEmpty
 | .so a=>fun cs=>is1 cs fun c=>oT G a c
 | _=>fun _=>false
end
end
def QE.le (h:QE X Z e f)(i:∀ ρ m,g ρ m=f ρ m\/g ρ m=.no):QE X Z e g:=⟨h.pe.imp fun σ H Q ⟨φ,m,ρ,x,q⟩=>⟨φ,m,ρ,x,by
 rcases i ρ m with z|z<;>rw[z] at q
 ·exact q
 ·exact q.elim⟩⟩
def QC.le (h:QC X Z e f)(i:∀ ρ m,g ρ m=f ρ m\/g ρ m=.no):QC X Z e g:=⟨fun pins s σ H Q I q=>h.pc pins s σ H Q I (by
 obtain ⟨φ,m,ρ,x,q⟩:=q;refine ⟨φ,m,ρ,x,?_⟩;rcases i ρ m with z|z<;>rw[z] at q
 ·exact q
 ·exact q.elim)⟩
def ZdM (M:Mt tb C G X Z)(h:gl G x=true):Gl X x/\(x == ("__debug__":Str))=false:=by
 unfold gl at h;rw[Yaa,Ya0] at h;refine ⟨?_,h.2⟩;unfold Gl Env.kindOf;rw[M.sc];exact of_decide_eq_true h.1
def Zmx (h:has l c=true):∃ q,l=some q/\(c || q)=true:=by
 cases l with
 | none=>cases h
 | some q=>exact ⟨q,rfl,h⟩
def ZiP (h:pls es=true):es.all pl=true/\es.length<30:=by
 unfold pls at h;rw[Yaa] at h;exact ⟨h.1,of_decide_eq_true h.2⟩
def ZaR (h:pls (e::es)=true):pl e=true/\es.all pl=true:=by
 have:=(ZiP h).1
 rwa [Ybf,Yaa] at this
section
variable {tb:Tb} {C:Cl} {G:Gm} {X:Cx} {Z:Zc}
def Zrn (M:Mt tb C G X Z)(o:OB):∃ r,OpR X (YcJ (ZxX o)) r/\OpW Z.T (opB o) r:=by
 cases o
 case b0=>exact ⟨_,Znk,Zp3⟩
 case b1=>exact ⟨_,ZtA,Zny⟩
 case b2=>exact ⟨_,Zrh,ZnG⟩
 case b3=>exact ⟨_,ZpS,Zn3⟩
 case b4=>exact ⟨_,Zsf,ZpF⟩
 case b6=>exact ⟨_,Ztj,Zl5⟩
 case b7=>exact ⟨_,Zxs,Znc⟩
def Zdl (M:Mt tb C G X Z)(o:OC):∃ r,OpR X (YaV (ZnJ o)) r/\OpW Z.T (opC o) r:=by
 obtain ⟨k,z,_⟩:=M.room;cases o
 case c0=>exact ⟨_,Zrf z,ZqY⟩
 case c1=>exact ⟨_,ZrI z,ZsA⟩
 case c2=>exact ⟨_,Zwm,ZtW⟩
 case c3=>exact ⟨_,Zsv,ZrT⟩
 case c4=>exact ⟨_,Zws,ZtH⟩
 case c5=>exact ⟨_,ZvD,Zr2⟩
 case c6=>exact ⟨_,Ztx z,Zl8⟩
 case c7=>exact ⟨_,ZhY z,Zl8⟩
 case c10=>exact ⟨_,ZsU,Zpg⟩
 case c11=>exact ⟨_,ZoF,Zk4⟩
def Zty (o:OU):∃ r,UnR X (unaryOp (ZxJ o)) r/\UnW Z.T (opU o) r:=by
 cases o
 case u1=>exact ⟨_,ZrK,Znh⟩
def Zrl (M:Mt tb C G X Z)(z:(G.calm || quiet o)=true):∃ r,CallR X (.builtin (cbN o)) r/\CbW Z.T (cbO C.kit o) r:=by
 obtain ⟨k,I,F⟩:=M.room;rw[YaP] at z;have q:quiet o=false->X.calm=true:=fun n=>M.calm (z.resolve_right (by rw[n];decide))
 cases o
 case k1=>exact ⟨_,ZhN X.K rfl,Zpx F.ins F.exo F.kit⟩
 case k2=>exact ⟨_,Zij,ZpU⟩
 case k3=>exact ⟨_,Zl1 (q rfl),Zp6⟩
 case k6=>exact ⟨_,Zkf (q rfl),ZkB⟩
 case k7=>exact ⟨_,ZkN,Zod⟩
 case k8=>exact ⟨_,Zer (q rfl),Zhp⟩
def ZqT (o:OT):∃ r,CallR X (.type (ctN o)) r/\CbW Z.T (ctO o) r:=by
 cases o
 case t0=>exact ⟨_,Zjn,Zpo⟩
 case t2=>exact ⟨_,ZhF,ZlK⟩
 case t3=>exact ⟨_,Zed,ZjC⟩
def Zhq (M:Mt tb C G X Z)(h:ZmJ tb G n x=true):x=Yam n/\Gl X x/\X.mg x=none/\YaR x=some (.type n)/\x≠"__name__"/\(x == ("__debug__":Str))=false:=by
 unfold ZmJ at h;rw[Yaa,Yaa] at h;have e:=of_decide_eq_true h.1.1;obtain ⟨g1,z⟩:=ZdM M h.1.2;obtain ⟨k,I,F⟩:=M.room;obtain ⟨a,b,c⟩:=F.ty n (of_decide_eq_true h.2);subst e;exact ⟨rfl,g1,a,b,c,z⟩
def ZwZ (M:Mt tb C G X Z)(h:ZwF tb G n x=true):Gl X x/\X.mg x=none/\YaR x=some (.builtin n)/\x≠"__name__"/\(x == ("__debug__":Str))=false:=by
 unfold ZwF at h;rw[Yaa,Yaa] at h;have e:=of_decide_eq_true h.1.1;obtain ⟨g1,z⟩:=ZdM M h.1.2;obtain ⟨k,I,F⟩:=M.room;obtain ⟨a,b,c⟩:=F.bu n (of_decide_eq_true h.2);subst e;exact ⟨g1,a,b,c,z⟩
def ggs:List Nat->TG
 | [i]=>ZcL i
 | [i,j]=>ZiJ 2 (ZfC (ZcL i) (ZfC (ZcL j) Zq9))
 | _=>fun _ _ _ _=>False
theorem tgw:∀ {t:List Nat},(∀ i∈t,∀ σ v,Z.sg σ->Z.sg (σ.set i (some v)))->TgW Z (ggs t) (gTs t)
 | [i],h=>Zi9 (h i (by simp))
 | [i,j],h=>ZnD (h i (by simp)) (h j (by simp))
 | [],_=>fun _ _ _ _ _ _ _ _ _ _ _ e _=>by cases e
 | _::_::_::_,_=>fun _ _ _ _ _ _ _ _ _ _ _ e _=>by cases e
def Zme (M:Mt tb C G X Z)(h:wOk G i x=true):QG X (.Name x p) (ZcL i)/\G.wr i=true:=by
 unfold wOk at h;rw[Yaa,Yaa,YaP,Yaa] at h;obtain ⟨⟨a,b⟩,c⟩:=h;refine ⟨ZnQ M.nd (by rw[M.N];exact of_decide_eq_true a) ?_ ?_,b⟩
 ·unfold L2.Loc;rw[M.sc];exact c.imp (fun h=>of_decide_eq_true h) (fun h=>of_decide_eq_true h.2)
 ·rw[M.sc];exact (c.imp (fun h=>of_decide_eq_true h) (fun h=>M.fn h.1 x)).symm
theorem Zml (M:Mt tb C G X Z):∀ {t:List Nat} {es:List YaQ},oTs G t es=true->(∀ i∈t,G.wr i=true)/\t.length=es.length/\(Ybt es X.env).length=t.length/\(Ybt es X.env).findIdx? (·.1)=none /\
  QGs X es (t.foldr (fun i g=>ZfC (ZcL i) g) Zq9)
 | [],[],_=>⟨by simp,rfl,rfl,rfl,ZpG⟩
 | i::t,e::es,h=>by
  unfold oTs at h;rw[Yaa] at h;obtain ⟨x,p,rfl,I⟩:=Zde h.1;obtain ⟨a,b⟩:=Zme (p:=p) M I;obtain ⟨q1,U,q3,Y,J⟩:=Zml M h.2;refine ⟨fun j z=>?_,by rw[Ya4,Ya4,U],?_,?_,ZkR a J rfl⟩
  ·rcases Yaz.mp z with rfl|z
   ·exact b
   ·exact q1 j z
  ·show (Ybt es X.env).length+1=t.length+1;rw[q3]
  ·show List.findIdx? (·.1) ((false,YeS (.Name x p) X.env)::Ybt es X.env)=none;rw[List.findIdx?_cons,Y];rfl
 | [],_::_,h=>by cases h
 | _::_,[],h=>by cases h
def Zb0 (M:Mt tb C G X Z)(h:oTg G t e=true):QG X e (ggs t)/\∀ i∈t,G.wr i=true:=by
 have big:∀ (t:List Nat),t.length=2->(decide (2<=t.length) && decide (t.length<=2) && aT e fun es=>oTs G t es)=true->QG X e (ggs t)/\∀ i∈t,G.wr i=true:=fun t J h=>by
  rw[Yaa] at h;obtain ⟨es,j,p,rfl,z⟩:=Ztw h.2;obtain ⟨q1,q2,q3,Y,U⟩:=Zml M z;refine ⟨?_,q1⟩;have:=Zos (k:=j) (pos:=p) rfl U q3 Y
  match t,J with
  | [a,b],_=>exact this
 match t,h with
 | [i],h=>
  obtain ⟨x,p,rfl,z⟩:=Zde h;obtain ⟨a,b⟩:=Zme (p:=p) M z;exact ⟨a,fun j I=>by rw[Ycu.mp I];exact b⟩
 | [a,b],h=>exact big _ rfl h
 | [],h=>cases h
 | a::b::c::r,h=>
  exfalso;have h:(decide (2<=(a::b::c::r).length) && decide ((a::b::c::r).length<=2) && aT e fun es=>oTs G (a::b::c::r) es)=true:=h;rw[Yaa,Yaa] at h;have:=of_decide_eq_true h.1.2;simp at this
end
def ZoP (h:pl x=true):([x]:List YaQ).all pl=true:=by rw[Ybf,h];rfl
structure Snd (tb:Tb)(C:Cl)(r:R):Prop where
 e:∀ G X Z e,oE tb G r e=true->Mt tb C G X Z->QE X Z e (dE C r):=by exact fun _ _ _ _ h=>ff h
 a:∀ G X Z e,oA tb G r e=true->Mt tb C G X Z->QA X Z e (dA C r):=by exact fun _ _ _ _ h=>ff h
 o:∀ G X Z e,oO tb G r e=true->Mt tb C G X Z->QO X Z e (dO C r):=by exact fun _ _ _ _ h=>ff h
 p:∀ G X Z pos ks vs,oP tb G r ks vs=true->Mt tb C G X Z->QP X Z pos ks vs (dP C r)/\ks.all (·.isSome)=true:=by exact fun _ _ _ _ _ _ h=>ff h
 t:∀ G X Z e,oT tb G r e=true->Mt tb C G X Z->QT X Z e (dT C r):=by exact fun _ _ _ _ h=>ff h
 w:∀ G X Z o es p,oT tb G r (.BoolOp o es p)=true->Mt tb C G X Z->QW X Z (.BoolOp o es p) (dT C r):=by exact fun _ _ _ _ _ _ h=>ff h
 i:∀ G X Z tg e,oI tb G r e=true->Mt tb C G X Z->QI X Z tg e (dI C r):=by exact fun _ _ _ _ _ h=>ff h
 q:∀ G X Z e,oQ tb G r e=true->Mt tb C G X Z->QC X Z e (dQ C r):=by exact fun _ _ _ _ h=>ff h
section
variable {tb:Tb} {C:Cl}
theorem Zwl (i:Nat):Snd tb C (.v i) where
 e:=fun G X Z e h M=>by
  obtain ⟨x,p,rfl,h'⟩:=Zde h;replace h:=h';simp only[Yaa,YaP,decide_eq_true_eq,Ya0] at h;refine ZvF i (by rw[M.N];exact h.1.1.1) ?_ h.1.2 h.2;unfold Vis;rw[M.sc];exact h.1.1.2.elim (fun q=>q.elim .inl (fun q=>.inr (.inl q))) (fun q=>.inr (.inr q))
theorem Zrc:Snd tb C .kn where
 e:=fun G X Z e h M=>by
  obtain ⟨c,j,p,rfl,h'⟩:=ZkO h;replace h:=h';cases of_decide_eq_true h;exact ZwI
theorem ZsX (b:Bool):Snd tb C (.kb b) where
 e:=fun G X Z e h M=>by
  obtain ⟨c,j,p,rfl,h'⟩:=ZkO h;replace h:=h';cases of_decide_eq_true h;exact ZyF
theorem ZqO (i:Int):Snd tb C (.ki i) where
 e:=fun G X Z e h M=>by
  obtain ⟨c,j,p,rfl,h'⟩:=ZkO h;replace h:=h';cases of_decide_eq_true h;exact ZvU
theorem Zr8 (x:Str):Snd tb C (.ks x) where
 e:=fun G X Z e h M=>by
  obtain ⟨c,j,p,rfl,h'⟩:=ZkO h;replace h:=h';cases of_decide_eq_true h;exact Zw1
theorem Zwx (y:Str)(i:Int):Snd tb C (.g y i) where
 e:=fun G X Z e h M=>by
  obtain ⟨x,p,rfl,h'⟩:=Zde h;replace h:=h';simp only[Yaa,decide_eq_true_eq] at h;obtain ⟨⟨rfl,h2⟩,h3⟩:=h;obtain ⟨g1,z⟩:=ZdM M h2;obtain ⟨k,I,F⟩:=M.room;exact Zwj g1 (F.gc _ _ h3) z
theorem ZqS (n:String):Snd tb C (.ty n) where
 e:=fun G X Z e h M=>by
  obtain ⟨x,p,rfl,h'⟩:=Zde h;replace h:=h';obtain ⟨_,g1,m,b,d,z⟩:=Zhq M h;exact Zyb n g1 m b d z
theorem Zsn (c:Str):Snd tb C (.cl c) where
 e:=fun G X Z e h M=>by
  obtain ⟨x,p,rfl,h'⟩:=Zde h;replace h:=h';simp only[Yaa,decide_eq_true_eq] at h;obtain ⟨⟨rfl,h2⟩,h3⟩:=h;obtain ⟨g1,z⟩:=ZdM M h2;obtain ⟨k,I,F⟩:=M.room;obtain ⟨A,a,b⟩:=F.cn _ h3;exact Zwn g1 a b z
section
variable {a b c:R} (A:Snd tb C a) (B:Snd tb C b) (D:Snd tb C c)
include A B
theorem Zo5 (o:OB):Snd tb C (.bin o a b) where
 e:=fun G X Z e h M=>by
  obtain ⟨x,p,y,ps,rfl,h'⟩:=ZwR h;replace h:=h';simp only[Yaa,decide_eq_true_eq] at h;obtain ⟨⟨rfl,h2⟩,h3⟩:=h;obtain ⟨r,I,z⟩:=Zrn M o;exact ZuW I z (A.e _ _ _ _ h2 M) (B.e _ _ _ _ h3 M)
theorem Zoi (o:OC):Snd tb C (.cmp o a b) where
 w:=fun _ _ _ _ _ _ h=>by obtain ⟨_,_,_,_,e,_⟩:=Zje h;cases e
 e:=fun G X Z e h M=>by
  obtain ⟨x,p,y,ps,rfl,h'⟩:=Zje h;replace h:=h';simp only[Yaa,decide_eq_true_eq] at h;obtain ⟨⟨⟨rfl,h1⟩,h2⟩,h3⟩:=h;obtain ⟨r,I,z⟩:=Zdl M o;exact ZvY I z (A.e _ _ _ _ h2 M) (B.e _ _ _ _ h3 M) (Zej h1)
 t:=fun G X Z e h M=>by
  obtain ⟨x,p,y,ps,rfl,h'⟩:=Zje h;replace h:=h';simp only[Yaa,decide_eq_true_eq] at h;obtain ⟨⟨⟨rfl,h1⟩,h2⟩,h3⟩:=h;obtain ⟨r,I,z⟩:=Zdl M o;exact ZsJ I z (A.e _ _ _ _ h2 M) (B.e _ _ _ _ h3 M) (Zej h1)
theorem ZqA:Snd tb C (.ix a b) where
 e:=fun G X Z e h M=>by
  obtain ⟨x,y,ps,rfl,h'⟩:=Zlh h;replace h:=h';simp only[Yaa] at h;exact Zy1 ZsY Zqw (A.e _ _ _ _ h.1.2 M) (B.e _ _ _ _ h.2 M) (Zse h.1.1)
theorem Zus:Snd tb C (.dg a b) where
 e:=fun G X Z e h M=>by
  obtain ⟨x,y,ps,rfl,h'⟩:=Zlh h;replace h:=h';simp only[Yaa] at h;obtain ⟨k,z,F⟩:=M.room;exact Zut z (A.e _ _ _ _ h.1.2 M) (B.e _ _ _ _ h.2 M) (Zse h.1.1)
def Zr7:Snd tb C (.an a b):=
 have w:∀ G X Z o es p,oT tb G (.an a b) (.BoolOp o es p)=true->Mt tb C G X Z->QW X Z (.BoolOp o es p) (dT C (.an a b)):=fun G X Z o es p h M=>by
  obtain ⟨o',x,y,r,z,e,h'⟩:=ZdB h;cases e;replace h:=h';simp only[Yaa,decide_eq_true_eq] at h;obtain ⟨⟨rfl,h2⟩,h3⟩:=h;exact Zuh (A.t _ _ _ _ h2 M) (B.w _ _ _ _ _ _ h3 M)
 {
  w:=w
  t:=fun G X Z e h M=>by
   obtain ⟨o',x,y,r,z,rfl,_⟩:=ZdB h;exact ZuH (w _ _ _ _ _ _ h M)
  e:=fun G X Z e h M=>by
   obtain ⟨o,x,y,r,ps,rfl,h'⟩:=ZdB h;replace h:=h';simp only[Yaa,decide_eq_true_eq] at h;obtain ⟨⟨rfl,h2⟩,h3⟩:=h;exact Zvl (A.e _ _ _ _ h2 M) (B.e _ _ _ _ h3 M) }
def ZtX:Snd tb C (.or a b):=
 have w:∀ G X Z o es p,oT tb G (.or a b) (.BoolOp o es p)=true->Mt tb C G X Z->QW X Z (.BoolOp o es p) (dT C (.or a b)):=fun G X Z o es p h M=>by
  obtain ⟨o',x,y,r,z,e,h'⟩:=ZdB h;cases e;replace h:=h';simp only[Yaa,decide_eq_true_eq] at h;obtain ⟨⟨rfl,h2⟩,h3⟩:=h;exact Zw4 (A.t _ _ _ _ h2 M) (B.w _ _ _ _ _ _ h3 M)
 {
  w:=w
  t:=fun G X Z e h M=>by
   obtain ⟨o',x,y,r,z,rfl,_⟩:=ZdB h;exact ZuH (w _ _ _ _ _ _ h M)
  e:=fun G X Z e h M=>by
   obtain ⟨o,x,y,r,ps,rfl,h'⟩:=ZdB h;replace h:=h';simp only[Yaa,decide_eq_true_eq] at h;obtain ⟨⟨rfl,h2⟩,h3⟩:=h;exact Zyo (A.e _ _ _ _ h2 M) (B.e _ _ _ _ h3 M) }
def Zrx (m:Str):Snd tb C (.mX m a b):=by
 have z:∀ G X Z e,oE tb G (.mX m a b) e=true->Mt tb C G X Z->QE X Z e (dE C (.mX m a b)):=fun G X Z e h M=>by
  obtain ⟨o,n,ap,es,p,rfl,h'⟩:=ZdW h;replace h:=h';simp only[Yaa,decide_eq_true_eq] at h;obtain ⟨⟨⟨⟨⟨⟨rfl,J⟩,ho⟩,hm⟩,hp⟩,h1⟩,h2⟩:=h;obtain ⟨k,U,F⟩:=M.room;obtain ⟨q,Y,I⟩:=Zmx hm;obtain ⟨p1,p2⟩:=ZiP hp;have QA:=B.a _ _ _ _ h2 M;cases es with
  | nil=>
   have:dA C b=Zfe:=by
    cases b<;>first|rfl|exact ff h2
   show QE X Z _ (ZcQ n (C.m n) (dE C a) (dA C b));rw[this];exact Zkz F.ins (F.m n q Y G.calm I) M.xok U (Yak k) (A.e _ _ _ _ h1 M) (Zj0 ho J p1 p2) M.calm
  | cons y ys=>
   obtain ⟨c1,c2⟩:=ZaR hp;exact ZnB F.ins (F.m n q Y G.calm I) M.xok U (Yak k) (A.e _ _ _ _ h1 M) QA (Zap c1) (ZaT c2) (Zj0 ho J p1 p2) M.calm
 exact { e:=z }
theorem ZoC:Snd tb C (.app a b) where
 e:=fun G X Z e h M=>by
  obtain ⟨o,n,J,es,p,rfl,h'⟩:=ZdW h;replace h:=h';simp only[Yaa,decide_eq_true_eq] at h;obtain ⟨⟨⟨⟨⟨rfl,I⟩,ho⟩,h1⟩,h2⟩,h3⟩:=h;obtain ⟨x,rfl,z⟩:=ZaC h3;replace h3:=z;exact Zlq (A.e _ _ _ _ h1 M) (B.a _ _ _ _ h2 M) (ZaI ho) (Zb2 (ZoP h3) (Ya2 rfl)) I (Zap h3) rfl
theorem Zk2:Snd tb C (.cnt2 a b) where
 e:=fun G X Z e h M=>by
  obtain ⟨o,n,J,es,p,rfl,h'⟩:=ZdW h;replace h:=h';simp only[Yaa,decide_eq_true_eq] at h;obtain ⟨⟨⟨⟨⟨rfl,I⟩,ho⟩,h1⟩,h2⟩,h3⟩:=h;obtain ⟨x,rfl,z⟩:=ZaC h3;replace h3:=z;exact ZoO (A.e _ _ _ _ h1 M) (B.a _ _ _ _ h2 M) (ZaI ho) (Zb2 (ZoP h3) (Ya2 rfl)) I (Zap h3) rfl
theorem Zo8:Snd tb C (.idx a b) where
 e:=fun G X Z e h M=>by
  obtain ⟨o,n,J,es,p,rfl,h'⟩:=ZdW h;replace h:=h';simp only[Yaa,decide_eq_true_eq] at h;obtain ⟨⟨⟨⟨⟨rfl,I⟩,ho⟩,h1⟩,h2⟩,h3⟩:=h;obtain ⟨x,rfl,z⟩:=ZaC h3;replace h3:=z;exact ZlV (A.e _ _ _ _ h1 M) (B.a _ _ _ _ h2 M) (ZaI ho) (Zb2 (ZoP h3) (Ya2 rfl)) I (Zap h3) rfl
theorem Zku:Snd tb C (.popA a b) where
 e:=fun G X Z e h M=>by
  obtain ⟨o,n,J,es,p,rfl,h'⟩:=ZdW h;replace h:=h';simp only[Yaa,decide_eq_true_eq] at h;obtain ⟨⟨⟨⟨⟨rfl,I⟩,ho⟩,h1⟩,h2⟩,h3⟩:=h;obtain ⟨x,rfl,z⟩:=ZaC h3;replace h3:=z;exact Zpu (A.e _ _ _ _ h1 M) (B.a _ _ _ _ h2 M) (ZaI ho) (Zb2 (ZoP h3) (Ya2 rfl)) I (Zap h3) rfl
theorem ZkJ:Snd tb C (.join a b) where
 e:=fun G X Z e h M=>by
  obtain ⟨o,n,J,es,p,rfl,h'⟩:=ZdW h;replace h:=h';simp only[Yaa,decide_eq_true_eq] at h;obtain ⟨⟨⟨⟨⟨rfl,I⟩,ho⟩,h1⟩,h2⟩,h3⟩:=h;obtain ⟨x,rfl,z⟩:=ZaC h3;replace h3:=z;exact ZrH (A.e _ _ _ _ h1 M) (B.a _ _ _ _ h2 M) (ZaI ho) (Zb2 (ZoP h3) (Ya2 rfl)) I (Zap h3) rfl
theorem ZoL:Snd tb C (.ext a b) where
 e:=fun G X Z e h M=>by
  obtain ⟨o,n,J,es,p,rfl,h'⟩:=ZdW h;replace h:=h';simp only[Yaa,decide_eq_true_eq] at h;obtain ⟨⟨⟨⟨rfl,I⟩,ho⟩,h1⟩,h3⟩:=h;obtain ⟨x,rfl,z⟩:=ZaC h3;replace h3:=z;rw[Yaa] at h3;exact Zk7 (A.e _ _ _ _ h1 M) (B.e _ _ _ _ h3.2 M) (ZaI ho) (Zb2 (ZoP h3.1) (Ya2 rfl)) I (Zap h3.1) rfl
theorem Zlp:Snd tb C (.popD a b) where
 e:=fun G X Z e h M=>by
  obtain ⟨o,n,J,es,p,rfl,h'⟩:=ZdW h;replace h:=h';simp only[Yaa,decide_eq_true_eq] at h;obtain ⟨⟨⟨⟨rfl,I⟩,ho⟩,h1⟩,h3⟩:=h;obtain ⟨x,rfl,z⟩:=ZaC h3;replace h3:=z;rw[Yaa] at h3;exact Zta (A.e _ _ _ _ h1 M) (B.e _ _ _ _ h3.2 M) ⟨ZaI ho,Zb2 (ZoP h3.1) (Ya2 rfl),I,by rw[Zap h3.1];rfl⟩
theorem ZlR:Snd tb C (.cons a b) where
 a:=fun G X Z e h M=>by
  match e,h with
  | [],h=>exact ff h
  | x::r,h=>
   have h:(pl x && oE tb G a x && oA tb G b r)=true:=h;simp only[Yaa] at h;exact Zo2 (A.e _ _ _ _ h.1.2 M) (B.a _ _ _ _ h.2 M) (Zap h.1.1)
include D
theorem Zpv (o o':OC):Snd tb C (.chn o o' a b c) where
 w:=fun _ _ _ _ _ _ h=>by obtain ⟨_,_,_,_,_,_,e,_⟩:=Zia h;cases e
 e:=fun G X Z e h M=>by
  obtain ⟨x,p,p',y,z,ps,rfl,h'⟩:=Zia h;replace h:=h';simp only[Yaa,decide_eq_true_eq] at h;have Y:=h.1.1.1.1.1;have e2:=h.1.1.1.1.2;have U:=h.1.1.1.2;have h1:=h.1.1.2;have h2:=h.1.2;have h3:=h.2;clear h;subst Y e2;obtain ⟨r,q1,I⟩:=Zdl M o;obtain ⟨r',q3,J⟩:=Zdl M o';exact Zp7 q1 q3 I J (A.e _ _ _ _ h1 M) (B.e _ _ _ _ h2 M) (D.e _ _ _ _ h3 M) (Zej U)
 t:=fun G X Z e h M=>by
  obtain ⟨x,p,p',y,z,ps,rfl,h'⟩:=Zia h;replace h:=h';simp only[Yaa,decide_eq_true_eq] at h;have Y:=h.1.1.1.1.1;have e2:=h.1.1.1.1.2;have U:=h.1.1.1.2;have h1:=h.1.1.2;have h2:=h.1.2;have h3:=h.2;clear h;subst Y e2;obtain ⟨r,q1,I⟩:=Zdl M o;obtain ⟨r',q3,J⟩:=Zdl M o';exact ZlL q1 q3 I J (A.e _ _ _ _ h1 M) (B.e _ _ _ _ h2 M) (D.e _ _ _ _ h3 M) (Zej U)
theorem ZrF:Snd tb C (.sl a b c) where
 e:=fun G X Z e h M=>by
  obtain ⟨x,y,ps,rfl,h'⟩:=Zlh h;obtain ⟨l,u,p,rfl,h2⟩:=Zrs h';replace h:=h2;simp only[Yaa] at h;exact ZyT Zsw Zur (A.e _ _ _ _ h.1.1 M) (B.o _ _ _ _ h.1.2 M) (D.o _ _ _ _ h.2 M)
theorem ZnW:Snd tb C (.ife c a b) where
 e:=fun G X Z e h M=>by
  obtain ⟨t,x,y,p,rfl,h'⟩:=Zva h;replace h:=h';simp only[Yaa] at h;exact ZyK (D.t _ _ _ _ h.1.1 M) (A.e _ _ _ _ h.1.2 M) (B.e _ _ _ _ h.2 M)
theorem Zsh:Snd tb C (.pr a b c) where
 p:=fun G X Z pos ks vs h M=>by
  match ks,vs,h with
  | some k::ks,v::vs,h=>
   have h:(oE tb G a k && oE tb G b v && oP tb G c ks vs)=true:=h;simp only[Yaa] at h;obtain ⟨I,z⟩:=D.p G X Z pos ks vs h.2 M;exact ⟨ZoY (A.e _ _ _ _ h.1.1 M) (B.e _ _ _ _ h.1.2 M) I,by rw[Ybf,z];rfl⟩
  | [],_,h=>exact ff h
  | none::_,_,h=>exact ff h
  | some _::_,[],h=>exact ff h
end
section
variable {a b c:R} (A:Snd tb C a) (B:Snd tb C b) (D:Snd tb C c)
include A
theorem Zst (o:OU):Snd tb C (.un o a) where
 e:=fun G X Z e h M=>by
  obtain ⟨p,x,ps,rfl,h'⟩:=Zk9 h;replace h:=h';simp only[Yaa,decide_eq_true_eq] at h;obtain ⟨rfl,h2⟩:=h;obtain ⟨r,I,z⟩:=Zty (X:=X) (Z:=Z) o;exact Zzc I z (A.e _ _ _ _ h2 M)
theorem ZsV:Snd tb C (.nt a) where
 w:=fun _ _ _ _ _ _ h=>by obtain ⟨_,_,_,e,_⟩:=Zk9 h;cases e
 e:=fun G X Z e h M=>by
  obtain ⟨p,x,ps,rfl,h'⟩:=Zk9 h;replace h:=h';simp only[Yaa,decide_eq_true_eq] at h;obtain ⟨rfl,h2⟩:=h;exact Zxf (A.e _ _ _ _ h2 M)
 t:=fun G X Z e h M=>by
  obtain ⟨p,x,ps,rfl,h'⟩:=Zk9 h;replace h:=h';simp only[Yaa,decide_eq_true_eq] at h;obtain ⟨rfl,h2⟩:=h;exact ZrZ (A.t _ _ _ _ h2 M)
theorem ZoW:Snd tb C (.one a) where
 e:=fun G X Z e h M=>by
  obtain ⟨o,x,ps,rfl,h'⟩:=Zik h;exact Zv2 (A.e _ _ _ _ h' M)
 t:=fun G X Z e h M=>by
  obtain ⟨o,x,ps,rfl,h'⟩:=Zik h;cases o
  ·exact ZuH (ZjU (A.t _ _ _ _ h' M))
  ·exact ZuH (Zmp (A.t _ _ _ _ h' M))
 w:=fun G X Z o es p h M=>by
  obtain ⟨o',x,ps,e,h'⟩:=Zik h;cases e;cases o
  ·exact ZjU (A.t _ _ _ _ h' M)
  ·exact Zmp (A.t _ _ _ _ h' M)
theorem ZrG:Snd tb C (.so a) where
 o:=fun G X Z e h M=>by
  match e,h with
  | some x,h=>exact ZoS (A.e _ _ _ _ h M)
  | none,h=>exact ff h
 q:=fun G X Z e h M=>by
  obtain ⟨c,rfl,h'⟩:=ZaC h;replace h:=h';exact Zsc (A.t _ _ _ _ h M)
theorem Zpi:Snd tb C (.tup a) where
 e:=fun G X Z e h M=>by
  obtain ⟨es,j,p,rfl,h'⟩:=Ztw h;exact Zxn (A.a _ _ _ _ h' M)
theorem Zuk:Snd tb C (.ls a) where
 e:=fun G X Z e h M=>by
  obtain ⟨es,p,rfl,h'⟩:=ZsO h;exact Zvv (A.a _ _ _ _ h' M)
theorem ZpO:Snd tb C (.lsN a) where
 e:=fun G X Z e h M=>by
  obtain ⟨es,p,rfl,h'⟩:=ZsO h;exact Ztt (A.a _ _ _ _ h' M)
theorem ZpL:Snd tb C (.dsp a) where
 e:=fun G X Z e h M=>by
  obtain ⟨ks,vs,p,rfl,h'⟩:=Zrw h;replace h:=h';simp only[Yaa,decide_eq_true_eq,Ya0] at h;obtain ⟨⟨⟨h1,h2⟩,h3⟩,U⟩:=h;obtain ⟨J,I⟩:=A.p G X Z p ks vs U M;exact Zud J I h1 (by intro z;subst z;cases h2) h3
theorem Zs4 (o:OK):Snd tb C (.cb o a) where
 e:=fun G X Z e h M=>by
  obtain ⟨x,q,es,p,rfl,h'⟩:=ZcW h;replace h:=h';simp only[Yaa,Ya0] at h;obtain ⟨⟨⟨⟨h1,h2⟩,h3⟩,z⟩,I⟩:=h;obtain ⟨g1,m,b,d,g2⟩:=ZwZ M h1;obtain ⟨r,q1,U⟩:=Zrl M h2;cases es with
  | nil=>cases z
  | cons y ys=>
   obtain ⟨Y,J⟩:=ZaR h3;exact Zyz U q1 g1 m b (A.a _ _ _ _ I M) d g2 (Zap Y) (ZaT J)
theorem Zri (o:OT):Snd tb C (.ct o a) where
 e:=fun G X Z e h M=>by
  obtain ⟨x,q,es,p,rfl,h'⟩:=ZcW h;replace h:=h';simp only[Yaa,Ya0] at h;obtain ⟨⟨⟨h1,h3⟩,z⟩,I⟩:=h;obtain ⟨_,g1,m,b,d,g2⟩:=Zhq M h1;obtain ⟨r,q1,U⟩:=ZqT (X:=X) (Z:=Z) o;cases es with
  | nil=>cases z
  | cons y ys=>
   obtain ⟨Y,J⟩:=ZaR h3;exact Zvy U q1 g1 m b (A.a _ _ _ _ I M) d g2 (Zap Y) (ZaT J)
theorem ZqL (o:OS):Snd tb C (.s1 o a) where
 e:=fun G X Z e h M=>by
  obtain ⟨x,q,es,p,rfl,h'⟩:=ZcW h;obtain ⟨y,rfl,h1⟩:=ZaC h';clear h h';simp only[Yaa] at h1;obtain ⟨⟨⟨h1,h2⟩,h3⟩,J⟩:=h1;have U:=M.calm h2;have I:=A.e _ _ _ _ J M;cases o
  case y0=>
   obtain ⟨_,g1,m,b,d,z⟩:=Zhq M h1;exact Zsu U g1 m b I d z (Zap h3) rfl
theorem ZqI (o:OR):Snd tb C (.s2 o a) where
 e:=fun G X Z e h M=>by
  obtain ⟨x,q,es,p,rfl,h'⟩:=ZcW h;obtain ⟨y,rfl,h1⟩:=ZaC h';clear h h';simp only[Yaa] at h1;obtain ⟨⟨h1,h2⟩,h3⟩:=h1;obtain ⟨x',q',aa,p',rfl,I⟩:=ZcW h3;obtain ⟨z,rfl,J⟩:=ZaC I;replace I:=J;simp only[Yaa] at I;obtain ⟨⟨h5,h6⟩,h7⟩:=I;have hc:=M.calm h2;have ha:=A.e _ _ _ _ h7 M;obtain ⟨_,g1,m,b,d,g2⟩:=Zhq M h1;obtain ⟨_,Y,m',b',d',U⟩:=Zhq M h5;cases o
  case z0=>exact Zre hc g1 m b Y m' b' ha d g2 d' U rfl (Zap h6) rfl rfl
theorem ZrB (f:Str):Snd tb C (.fX f a) where
 e:=fun G X Z e h M=>by
  obtain ⟨x,q,es,p,rfl,h'⟩:=ZcW h;replace h:=h';simp only[Yaa,decide_eq_true_eq] at h;obtain ⟨⟨⟨⟨rfl,h1⟩,h2⟩,h3⟩,z⟩:=h;obtain ⟨g1,Y⟩:=ZdM M h1;obtain ⟨k,J,F⟩:=M.room;obtain ⟨q,U,I⟩:=Zmx h2;have QA:=A.a _ _ _ _ z M;cases es with
  | nil=>
   have:dA C a=Zfe:=by
    cases a<;>first|rfl|exact ff z
   show QE X Z _ (ZaJ (C.f x) (dA C a));rw[this];exact Zuv (F.f x q U G.calm I) M.xok J (Yak k) g1 Y M.calm
  | cons y ys=>
   obtain ⟨c1,c2⟩:=ZaR h3;exact Zwc (F.f x q U G.calm I) M.xok J (Yak k) g1 QA Y (Zap c1) (ZaT c2) M.calm
theorem Zub (f:Str)(d:Option Int):Snd tb C (.fD f d a) where
 e:=fun G X Z e h M=>by
  obtain ⟨x,q,es,p,rfl,h'⟩:=ZcW h;replace h:=h';simp only[Yaa,decide_eq_true_eq,Ya0] at h;obtain ⟨⟨⟨⟨⟨⟨rfl,h1⟩,hc⟩,h2⟩,h3⟩,I⟩,z⟩:=h;obtain ⟨g1,g2⟩:=ZdM M h1;obtain ⟨k,Y,F⟩:=M.room;cases es with
  | nil=>cases I
  | cons y ys=>
   obtain ⟨U,J⟩:=ZaR h3;exact Zs0 (F.fd x d h2) M.xok Y (Yak k) g1 (A.a _ _ _ _ z M) g2 (Zap U) (ZaT J) (fun _=>M.calm hc)
theorem Zra (c:Str):Snd tb C (.mk c a) where
 e:=fun G X Z e h M=>by
  obtain ⟨x,q,es,p,rfl,h'⟩:=ZcW h;replace h:=h';simp only[Yaa,decide_eq_true_eq] at h;obtain ⟨⟨⟨⟨⟨rfl,h1⟩,Y⟩,h2⟩,h3⟩,I⟩:=h;obtain ⟨g1,g2⟩:=ZdM M h1;obtain ⟨k,J,F⟩:=M.room;obtain ⟨kk,U,z⟩:=F.i x h2;cases es with
  | nil=>
   have:dA C a=Zfe:=by
    cases a<;>first|rfl|exact ff I
   show QE X Z _ (ZfB x (C.i x) (dA C a));rw[this];exact Zn7 z J U g1 g2 (M.calm Y)
  | cons y ys=>
   obtain ⟨c1,c2⟩:=ZaR h3;exact Zt0 z J U g1 (A.a _ _ _ _ I M) g2 (Zap c1) (ZaT c2) (M.calm Y)
theorem Ztc (c m:Str):Snd tb C (.cc c m a) where
 e:=fun G X Z e h M=>by
  obtain ⟨o,n,ap,es,p,rfl,h'⟩:=ZdW h;replace h:=h';simp only[Yaa,decide_eq_true_eq,Ya0] at h;obtain ⟨⟨⟨⟨⟨⟨⟨rfl,Y⟩,hc⟩,h1⟩,h3⟩,I⟩,J⟩,h6⟩:=h;obtain ⟨x,q,rfl,z⟩:=Zde h6;simp only[Yaa,decide_eq_true_eq] at z;obtain ⟨rfl,h8⟩:=z;obtain ⟨g1,g2⟩:=ZdM M h8;obtain ⟨k,hr,F⟩:=M.room;obtain ⟨p1,p2⟩:=ZiP h3;cases es with
  | nil=>cases I
  | cons y ys=>
   obtain ⟨c1,U⟩:=ZaR h3;exact Zl4 (F.c x n h1) hr (Yak k) g1 (A.a _ _ _ _ J M) g2 (Zap c1) (ZaT U) (Zj0 rfl Y p1 p2) (M.calm hc)
theorem Zog (n:Str):Snd tb C (.fld n a) where
 e:=fun G X Z e h M=>by
  obtain ⟨o,m,p,rfl,h'⟩:=Znn h;replace h:=h';simp only[Yaa,decide_eq_true_eq] at h;obtain ⟨⟨⟨rfl,h1⟩,h2⟩,h3⟩:=h;obtain ⟨k,z,F⟩:=M.room;exact ZvW (A.e _ _ _ _ h3 M) (F.fl m h2) (ZaI h1)
theorem ZrU (c n:Str):Snd tb C (.xf c n a) where
 e:=fun G X Z e h M=>by
  obtain ⟨o,m,p,rfl,h'⟩:=Znn h;replace h:=h';simp only[Yaa,decide_eq_true_eq] at h;obtain ⟨⟨⟨rfl,h1⟩,h2⟩,h3⟩:=h;obtain ⟨k,z,F⟩:=M.room;exact Zsk (A.e _ _ _ _ h3 M) (F.xf c m h2) (ZaI h1)
theorem Zrd:Snd tb C (.tv a) where
 t:=fun G X Z e h M=>by
  have h:(vt e && oE tb G a e)=true:=h;rw[Yaa] at h;exact ZsQ (A.e _ _ _ _ h.2 M) (Zw0 h.1)
theorem ZsZ:Snd tb C (.il a) where
 i:=fun G X Z tg e h M=>ZpE (A.e _ _ _ _ h M)
theorem Ztz:Snd tb C (.it a) where
 i:=fun G X Z tg e h M=>Zue (A.e _ _ _ _ h M)
theorem ZrS:Snd tb C (.is a) where
 i:=fun G X Z tg e h M=>by
  have h:(G.calm && oE tb G a e)=true:=h;rw[Yaa] at h;exact ZrP (A.e _ _ _ _ h.2 M) (M.calm h.1)
theorem Zum:Snd tb C (.r1 a) where
 i:=fun G X Z tg e h M=>by
  obtain ⟨x,q,es,p,rfl,h'⟩:=ZcW h;replace h:=h';simp only[Yaa] at h;obtain ⟨⟨h1,I⟩,h3⟩:=h;obtain ⟨rfl,g1,m,U,d,J⟩:=Zhq M h1;obtain ⟨y,rfl,z⟩:=ZaC h3;replace h3:=z;rw[Yaa] at h3;exact Zh0 g1 m (A.e _ _ _ _ h3.2 M) (by rw[Zap h3.1];rfl) (M.calm I)
include B D
theorem Zfy (M:Mt tb C G X Z)(z:compOk G.sc G.N own fr ix sk=true)(σ:St)(I:Yaq)(s:Yaj)(H:Hp)(pins:List (Yaq×Obj))(fp:List Yaq) :
  Mt tb C ⟨own++fr,Zqd sk G.sc,G.calm,fun i=>decide (i<own.length),false⟩ (ZbZ X own fr sk I s H pins fp) (Zb Z.T own ix σ) where
 N:=rfl
 sc:=by rw[<-M.sc];rfl
 nd:=by
  unfold compOk at z;simp only[Yaa,decide_eq_true_eq] at z;exact z.1.2
 calm:=M.calm
 room:=M.room
 xok:=ZhW fun _ _ h=>h
 wr:=fun i h=>Zgp (of_decide_eq_true h)
 fn:=fun h=>ff h
theorem Zoc (k:OP)(own fr:List Str)(ix tg:List Nat):Snd tb C (.cpr k own fr ix tg a b c) where
 e:=fun G X Z e h M=>by
  obtain ⟨y,t,j,cs,U,p,rfl,h'⟩:=ZnL h;replace h:=h';simp only[Yaa] at h;obtain ⟨⟨⟨hk,h1⟩,h2⟩,⟨h3,J⟩,h5⟩:=h;have m:=Zfy A B D M hk;have z:compOk X.env.scope X.N own fr ix U=true:=by rw[M.sc,M.N];exact hk
  have w:∀ σ,TgW (Zb Z.T own ix σ) (ggs tg) (gTs tg):=fun σ=>tgw fun i hi=>Zgp (of_decide_eq_true ((Zb0 (m σ 0 X.s₀ X.H₀ [] []) h3).2 i hi))
  have q1:InC X own fr U fun Y=>QG Y t (ggs tg):=fun I s H pins fp=>(Zb0 (m [] I s H pins fp) h3).1
  have q2:oQ tb ⟨own++fr,Zqd U G.sc,G.calm,fun i=>decide (i<own.length),false⟩ b cs=true->∀ σ,InC X own fr U fun Y=>QC Y (Zb Z.T own ix σ) cs (dQ C b):=fun J σ I s H pins fp=>B.q _ _ _ _ J (m σ I s H pins fp)
  have q3:∀ σ,InC X own fr U fun Y=>QE Y (Zb Z.T own ix σ) y (dE C c):=fun σ I s H pins fp=>D.e _ _ _ _ h5 (m σ I s H pins fp)
  have q0:=A.i G X Z t j h2 M;have q4:=fun σ a b c d e=>(q3 σ a b c d e).le (ZhG _)
  cases k
  case p0=>
   cases cs with
   | nil=>exact ZmT rfl rfl rfl z q0 w q1 (fun σ a b c d e=>Zjs) q4 (Za5 h1)
   | cons _ _=>exact ff J
  case p2=>exact Znw rfl rfl rfl z q0 w q1 (q2 J) q3 (Za5 h1)
  case p3=>exact ZmT rfl rfl rfl z q0 w q1 (fun σ a b c d e=>(q2 J σ a b c d e).le (ZhG _)) q4 (Za5 h1)
end
def snd (r:R):Snd tb C r:=by
 induction r with
 | v i=>exact Zwl i
 | kn=>exact Zrc
 | kb b=>exact ZsX b
 | ki i=>exact ZqO i
 | ks x=>exact Zr8 x
 | g x i=>exact Zwx x i
 | ty n=>exact ZqS n
 | cl c=>exact Zsn c
 | bin o a b A B=>exact Zo5 A B o
 | cmp o a b A B=>exact Zoi A B o
 | chn o p a b c A B D=>exact Zpv A B D o p
 | un o a A=>exact Zst A o
 | ix a b A B=>exact ZqA A B
 | dg a b A B=>exact Zus A B
 | sl a b c A B D=>exact ZrF A B D
 | no=>exact { o:=fun G X Z e h M=>(by cases e;exact Zpt;exact ff h),q:=fun G X Z e h M=>(by cases e;exact Zjs;exact ff h) }
 | so a A=>exact ZrG A
 | an a b A B=>exact Zr7 A B
 | or a b A B=>exact ZtX A B
 | one a A=>exact ZoW A
 | nt a A=>exact ZsV A
 | ife c a b D A B=>exact ZnW A B D
 | tup a A=>exact Zpi A
 | ls a A=>exact Zuk A
 | lsN a A=>exact ZpO A
 | dN=>exact {
         e:=fun G X Z e h M=>by
          obtain ⟨ks,vs,p,rfl,h'⟩:=Zrw h;cases ks with
          | nil=>cases vs with
           | nil=>exact Zul
           | cons _ _=>exact ff h'
          | cons _ _=>exact ff h' }
 | dsp a A=>exact ZpL A
 | pr a b c A B D=>exact Zsh A B D
 | cb o a A=>exact Zs4 A o
 | ct o a A=>exact Zri A o
 | s1 o a A=>exact ZqL A o
 | s2 o a A=>exact ZqI A o
 | fX x a A=>exact ZrB A x
 | fD x d a A=>exact Zub A x d
 | mX m a b A B=>exact Zrx A B m
 | mk c a A=>exact Zra A c
 | cc c m a A=>exact Ztc A c m
 | app a b A B=>exact ZoC A B
 | cnt2 a b A B=>exact Zk2 A B
 | idx a b A B=>exact Zo8 A B
 | popA a b A B=>exact Zku A B
 | ext a b A B=>exact ZoL A B
 | join a b A B=>exact ZkJ A B
 | popD a b A B=>exact Zlp A B
 | fld n a A=>exact Zog A n
 | xf c n a A=>exact ZrU A c n
 | cpr k own fr ix tg i c e A B D=>exact Zoc A B D k own fr ix tg
 | nil=>exact { a:=fun G X Z e h M=>(by cases e;exact ZtY;exact ff h),p:=fun G X Z pos ks vs h M=>(by cases ks;cases vs;exact ⟨ZtB,rfl⟩;exact ff h;exact ff h) }
 | cons a b A B=>exact ZlR A B
 | tv a A=>exact Zrd A
 | il a A=>exact ZsZ A
 | it a A=>exact Ztz A
 | is a A=>exact ZrS A
 | r1 a A=>exact Zum A
end
structure Ms (tb:Tb)(C:Cl)(G:Gm)(lp tr:Bool)(X:Cx)(Z:Zc):Prop extends Mt tb C G X Z where
 fnn:G.fn=true
 blk:X.env.blockKind=.function
 pass:lp=true->Yek (YaJ X.prog X.w) X.A X.env X.xe
 try_:tr=true->X.stack=X.env::X.outer/\X.env.frame=some X.env.locals/\∀ σ,Z.sg σ
@[irreducible] def bA (s:Yce) (k:YaQ->YaQ->Bool):Bool:=match s with
 | .Assign ts v _=>is1 ts fun t=>k t v
 | _=>false
@[irreducible] def bR (s:Yce) (k:Option YaQ->Bool):Bool:=match s with
 | .Return e _=>k e
 | _=>false
@[irreducible] def bX (s:Yce) (k:YaQ->Bool):Bool:=match s with
 | .Expr e _=>k e
 | _=>false
@[irreducible] def bI (s:Yce) (k:YaQ->List Yce->List Yce->Bool):Bool:=match s with
 | .If c a b _=>k c a b
 | _=>false
@[irreducible] def bF (s:Yce) (k:YaQ->YaQ->List Yce->Bool):Bool:=match s with
 | .For t i b o _=>o.isEmpty && k t i b
 | _=>false
@[irreducible] def bW (s:Yce) (k:YaQ->List Yce->Bool):Bool:=match s with
 | .While c b o _=>o.isEmpty && k c b
 | _=>false
@[irreducible] def bZ (s:Yce) (k:YaQ->Bool):Bool:=match s with
 | .Raise e c _=>c.isNone && (match e with
  | some e=>k e
  | none=>false)
 | _=>false
@[irreducible] def bT (s:Yce) (k:List Yce->Str->Option Str->Yce->List Yce->Bool):Bool:=match s with
 | .Try b hs o f _=>o.isEmpty && f.isEmpty && is1 hs fun h=>match h with
  | .ExceptHandler t n b' _=>(match t,b' with
   | some e,s::r=>aN e fun d=>k b d n s r
   | _,_=>false)
 | _=>false
section
variable {s:Yce}
def Zwa (h:bR s k=true):∃ e p,s=.Return e p/\k e=true:=by
 unfold bR at h;cases s<;>first|exact ⟨_,_,rfl,h⟩|exact ff h
def Zvr (h:bX s k=true):∃ e p,s=.Expr e p/\k e=true:=by
 unfold bX at h;cases s<;>first|exact ⟨_,_,rfl,h⟩|exact ff h
def Zu8 (h:bI s k=true):∃ c a b p,s=.If c a b p/\k c a b=true:=by
 unfold bI at h;cases s<;>first|exact ⟨_,_,_,_,rfl,h⟩|exact ff h
def Zjf (h:bA s k=true):∃ t v p,s=.Assign [t] v p/\k t v=true:=by
 unfold bA at h;cases s
 case Assign z v p=>
  obtain ⟨t,e,h⟩:=ZaC h;exact ⟨t,v,p,by rw[e],h⟩
 all_goals exact ff h
def ZtI (h:bF s k=true):∃ t i b p,s=.For t i b [] p/\k t i b=true:=by
 unfold bF at h;cases s
 case For t i b o p=>
  cases o with
  | nil=>exact ⟨t,i,b,p,rfl,h⟩
  | cons _ _=>exact ff h
 all_goals exact ff h
def Zv6 (h:bW s k=true):∃ c b p,s=.While c b [] p/\k c b=true:=by
 unfold bW at h;cases s
 case While c b o p=>
  cases o with
  | nil=>exact ⟨c,b,p,rfl,h⟩
  | cons _ _=>exact ff h
 all_goals exact ff h
def Zrv (h:bZ s k=true):∃ e p,s=.Raise (some e) none p/\k e=true:=by
 unfold bZ at h;cases s
 case Raise e c p=>
  cases c with
  | some _=>exact ff h
  | none=>
   cases e with
   | some e=>exact ⟨e,p,rfl,h⟩
   | none=>exact ff h
 all_goals exact ff h
def Zvz (h:bT s k=true):∃ b d q n z r p I,s=.Try b [.ExceptHandler (some (.Name d q)) n (z::r) p] [] [] I/\k b d n z r=true:=by
 unfold bT at h;cases s
 case Try b hs o f I=>
  rw[Yaa,Yaa,Yee,Yee] at h;obtain ⟨⟨U,e2⟩,h⟩:=h;obtain ⟨⟨t,n,J,p⟩,e3,h⟩:=ZaC h;cases t with
  | none=>exact ff h
  | some e=>
   cases J with
   | nil=>exact ff h
   | cons z r=>
    obtain ⟨d,q,Y,h⟩:=Zde h;exact ⟨b,d,q,n,z,r,p,I,by rw[U,e2,e3,Y],h⟩
 all_goals exact ff h
end
noncomputable def swB (z p:Pos)(x:Str)(osc I:YcQ):Bool:=decide (osc.names.lookup x=some .local) && (z.line == p.line) && !(I.names.any fun (n,k)=>n == x && (k == .local || k == .cell))
@[irreducible] def aNp (e:YaQ) (k:Str->Pos->Bool):Bool:=match e with
 | .Name x p=>k x p
 | _=>false
def Zmo (h:aNp e k=true):∃ x p,e=.Name x p/\k x p=true:=by
 unfold aNp at h;cases e<;>first|exact ⟨_,_,rfl,h⟩|exact ff h
@[irreducible] def isS {α:Type} (o:Option α) (k:α->Bool):Bool:=match o with
 | some x=>k x
 | none=>false
def ZmK (h:isS o k=true):∃ x,o=some x/\k x=true:=by
 unfold isS at h;cases o with
 | none=>exact ff h
 | some x=>exact ⟨x,rfl,h⟩
variable (tb:Tb)
mutual
noncomputable def oS (G:Gm)(lp tr:Bool):S->Yce->Bool
 | .ret a=>fun s=>bR s fun e=>isS e fun x=>oE tb G a x
 | .ex a=>fun s=>bX s fun e=>nc e && oE tb G a e
 | .set i a=>fun s=>bA s fun t v=>aN t fun x=>wOk G i x && (nc v || decide (G.sc.names.lookup x=some .cell)) && oE tb G a v
 | .setC i k own fr ix tg a b c=>fun s=>bA s fun t v=>oE tb G (.cpr k own fr ix tg a b c) v && aNp t fun x J=>wOk G i x && aGp v fun _ _ _ _ I p=>swB J p x G.sc I
 | .setK i own fr ix tg a b c=>fun s=>bA s fun t v=>(aG v fun y t j cs I=>compOk G.sc G.N own fr ix I && G.calm && pl j && oE tb G a j && (fun U=>oTg U tg t && oQ tb U b cs && oE tb U c y) ⟨own++fr,Zqd I G.sc,G.calm,fun i=>decide (i<own.length),false⟩) && aNp t fun x J=>wOk G i x && aGp v fun _ _ _ _ I p=>swB J p x G.sc I
 | .setF n o v=>fun s=>bA s fun t x=>aA t fun y m=>decide (m=n) && decide (n∈tb.Fl) && nc x && oE tb G o y && oE tb G v x
 | .setD o i v=>fun s=>bA s fun t x=>aS t fun y z=>pl z && nc x && oE tb G o y && oE tb G i z && oE tb G v x
 | .ifs c a b=>fun s=>bI s fun t x y=>oT tb G c t && oB G lp tr a x && oB G lp tr b y
 | .forS t i b=>fun s=>bF s fun tg it x=>lp && oTg G t tg && pl it && oI tb G i it && oB G lp tr b x
 | .forD t i b=>fun s=>bF s fun tg it x=>lp && G.calm && oTg G t tg && pl it && oE tb G i it && oB G lp tr b x
 | .wh _ c b=>fun s=>bW s fun t x=>lp && oT tb G c t && oB G lp tr b x
 | .rz c a=>fun s=>bZ s fun e=>aF e fun x es=>decide (x=c) && gl G x && G.calm && decide (c∈tb.Rz) && pls es && !es.isEmpty && oA tb G a es
 | .rzI c f a=>fun s=>bZ s fun e=>aF e fun x es=>decide (x=c) && gl G x && G.calm && decide ((c,f)∈tb.Ri) && pls es && !es.isEmpty && oA tb G a es
 | .try1 d i asg b h=>fun s=>bT s fun x d' n Y r=>tr && decide (d'=d) && gl G d && decide (d∈tb.Ct) && (isS n fun n=>decide (G.N[i]?=some n) && decide (G.sc.names.lookup n=some .local)) && oB { G with wr:=fun j=>decide (j∈asg) } false false b x && oB { G with calm:=false,wr:=fun _=>true } true false h (Y::r)
 | .nvr=>fun _=>true
 | _=>fun _=>false
noncomputable def oB (G:Gm)(lp tr:Bool):S->List Yce->Bool
 | .nil=>fun z=>z.isEmpty
 | .one a=>fun z=>is1 z fun s=>oS G lp tr a s
 | .cons a b=>fun z=>match z with
  | s::r=>oS G lp tr a s && oB G lp tr b r
  | []=>false
 | _=>fun _=>false
end
structure SnS (tb:Tb)(C:Cl)(r:S):Prop where
 s:∀ G lp tr X Z st,oS tb G lp tr r st=true->Ms tb C G lp tr X Z->QS X Z st (dS tb.sub C r):=by exact fun _ _ _ _ _ _ h=>ff h
 b:∀ G lp tr X Z st,oB tb G lp tr r st=true->Ms tb C G lp tr X Z->QB X Z st (dB tb.sub C r):=by exact fun _ _ _ _ _ _ h=>ff h
def Zsl (h:env.kindOf x=some .cell):YbI e (some (.Name x p)) n env=pure false:=by
 cases z:nc e with
 | true=>exact Zcz z
 | false=>
  have k:∀ b c:Bool,(pure (env.blockKind == .function && env.kindOf x == some .local && b && c):Sem Bool)=pure false:=fun b c=>by
   rw[h,show ((some Ycm == some YcL.local)=false) from rfl,YeF,YeB,YeB]
  cases e<;>first|exact k _ _|cases z
def ZmI (z:env.blockKind=.function)(h:swB px p x env.scope sc=true):YbI (.ListComp y [⟨t,j,cs,0⟩] sc p) (some (.Name x px)) n env=pure true:=by
 unfold swB at h;rw[Yaa,Yaa] at h;obtain ⟨⟨h1,h2⟩,h3⟩:=h;have h1:env.kindOf x=some .local:=of_decide_eq_true h1;show (pure (env.blockKind == .function && env.kindOf x == some .local && px.line == p.line && !(sc.names.any fun (n,k)=>n == x && (k == .local || k == .cell))):Sem Bool)=pure true;rw[z,h1,h2,h3];rfl
section
variable {tb:Tb} {C:Cl} {G:Gm} {lp tr:Bool} {X:Cx} {Z:Zc}
def Ms.trb (M:Ms tb C G lp tr X Z){U:Yag->Yaj->Prop}{J:List (Yaq×Obj)}{φ':List Yaq}{H':Hp}{z:St->Prop}{I:W->Mem->Prop}{asg:List Nat}(h1:∀ j∈asg,∀ σ v,z σ->z (σ.set j (some v)))(h2:XOk (X.tr U J) ⟨Z.T,φ',H',z,I⟩) :
  Ms tb C { G with wr:=fun j=>decide (j∈asg) } false false (X.tr U J) ⟨Z.T,φ',H',z,I⟩:=
 ⟨⟨M.N,M.sc,M.nd,M.calm,M.room,h2,fun i hi=>h1 i (of_decide_eq_true hi),M.fn⟩,M.fnn,M.blk,fun h=>ff h,fun h=>ff h⟩
def Ms.hnd (M:Ms tb C G lp tr X Z)(e:Yaq)(o:Obj)(u:HO)(φ':List Yaq)(H':Hp):Ms tb C { G with calm:=false,wr:=fun _=>true } true false (X.loud e o u) (Zf Z.T φ' H'):=
 ⟨⟨M.N,M.sc,M.nd,fun h=>ff h,(by obtain ⟨k,z,F⟩:=M.room;exact ⟨k,z.mark _,F⟩),ZhW fun _ _ h=>h,fun _ _ _ _ _=>trivial,M.fn⟩,M.fnn,M.blk,fun _=>Yek.never,fun h=>ff h⟩
theorem Ms.gl (M:Ms tb C G lp tr X Z)(h:gl G x=true):Gl X x/\(x == ("__debug__":Str))=false:=ZdM M.toMt h
def Zf3 (M:Ms tb C G lp tr X Z)(h:wOk G i x=true):X.N[i]?=some x/\L2.Loc X.env.scope x/\∀ σ v,Z.sg σ->Z.sg (σ.set i (some v)):=by
 unfold wOk at h;rw[Yaa,Yaa,YaP,Yaa] at h;obtain ⟨⟨a,b⟩,c⟩:=h;refine ⟨by rw[M.N];exact of_decide_eq_true a,?_,M.wr i b⟩;unfold L2.Loc;rw[M.sc];exact c.imp (fun h=>of_decide_eq_true h) (fun h=>of_decide_eq_true h.2)
end
section
variable {tb:Tb} {C:Cl}
def sns (r:S):SnS tb C r:=by
 induction r with
 | ret a=>
   refine { s:=fun G lp tr X Z st h M=>?_ };obtain ⟨e,p,rfl,h'⟩:=Zwa h;obtain ⟨x,rfl,h2⟩:=ZmK h';exact ZtC ((snd a).e _ _ _ _ h2 M.toMt)
 | ex a=>
   refine { s:=fun G lp tr X Z st h M=>?_ };obtain ⟨e,p,rfl,h'⟩:=Zvr h;rw[Yaa] at h';exact Zop ((snd a).e _ _ _ _ h'.2 M.toMt) (Zcz h'.1)
 | set i a=>
   refine { s:=fun G lp tr X Z st h M=>?_ };obtain ⟨t,v,p,rfl,h'⟩:=Zjf h;obtain ⟨x,q,rfl,h2⟩:=Zde h';rw[Yaa,Yaa,YaP] at h2;obtain ⟨⟨h3,h4⟩,h5⟩:=h2;obtain ⟨w1,w2,w3⟩:=Zf3 M h3;refine Zr3 M.nd w1 w2 w3 ((snd a).e _ _ _ _ h5 M.toMt) ?_ (.inl (M.fn M.fnn x));rcases h4 with h4|h4
   ·exact Zcz h4
   ·exact Zsl (by unfold Env.kindOf;rw[M.sc];exact of_decide_eq_true h4)
 | setC i k own fr ix tg a b c=>
   refine { s:=fun G lp tr X Z st h M=>?_ };obtain ⟨t,v,p,rfl,h'⟩:=Zjf h;rw[Yaa] at h';obtain ⟨x,px,rfl,h2⟩:=Zmo h'.2;rw[Yaa] at h2;obtain ⟨w1,w2,w3⟩:=Zf3 M h2.1;obtain ⟨y,tg',j,cs,sc,p2,rfl,h3⟩:=Zjk h2.2;obtain ⟨y',t',j',cs',sc',p2',e,h4⟩:=ZnL h'.1;cases e;have hl:X.env.scope.names.lookup x=some .local:=by
    rw[M.sc];unfold swB at h3;rw[Yaa,Yaa] at h3;exact of_decide_eq_true h3.1.1
   have hsw:=ZmI (n:=p.line) (y:=y) (t:=tg') (j:=j) (cs:=cs) M.blk (by rw[M.sc];exact h3);simp only[Yaa] at h4;obtain ⟨⟨⟨hk,h1⟩,h2⟩,⟨h3,h4⟩,h5⟩:=h4;have m:=Zfy (snd a) (snd b) (snd c) M.toMt hk;have hk':compOk X.env.scope X.N own fr ix sc=true:=by rw[M.sc,M.N];exact hk
   have w:∀ σ,TgW (Zb Z.T own ix σ) (ggs tg) (gTs tg):=fun σ=>tgw fun i hi=>Zgp (of_decide_eq_true ((Zb0 (m σ 0 X.s₀ X.H₀ [] []) h3).2 i hi))
   have q1:InC X own fr sc fun Y=>QG Y tg' (ggs tg):=fun Ca s H pins fp=>(Zb0 (m [] Ca s H pins fp) h3).1
   have q2:oQ tb ⟨own++fr,Zqd sc G.sc,G.calm,fun i=>decide (i<own.length),false⟩ b cs=true->∀ σ,InC X own fr sc fun Y=>QC Y (Zb Z.T own ix σ) cs (dQ C b):=fun h4 σ Ca s H pins fp=>(snd b).q _ _ _ _ h4 (m σ Ca s H pins fp)
   have q3:∀ σ,InC X own fr sc fun Y=>QE Y (Zb Z.T own ix σ) y (dE C c):=fun σ Ca s H pins fp=>(snd c).e _ _ _ _ h5 (m σ Ca s H pins fp)
   have q0:=(snd a).i G X Z tg' j h2 M.toMt;have q4:=fun σ a b c d e=>(q3 σ a b c d e).le (ZhG _)
   cases k
   case p0=>
    cases cs with
    | nil=>exact Zkd M.nd w1 hl w3 rfl rfl rfl hk' q0 w q1 (fun σ a b c d e=>Zjs) q4 (Za5 h1) hsw
    | cons _ _=>exact ff h4
   case p2=>exact Zkv M.nd w1 hl w3 rfl rfl rfl hk' q0 w q1 (q2 h4) q3 (Za5 h1) hsw
   case p3=>exact Zkd M.nd w1 hl w3 rfl rfl rfl hk' q0 w q1 (fun σ a b c d e=>(q2 h4 σ a b c d e).le (ZhG _)) q4 (Za5 h1) hsw
 | setK i own fr ix tg a b c=>
   refine { s:=fun G lp tr X Z st h M=>?_ };obtain ⟨t,v,p,rfl,h'⟩:=Zjf h;rw[Yaa] at h';obtain ⟨x,px,rfl,h2⟩:=Zmo h'.2;rw[Yaa] at h2;obtain ⟨w1,w2,w3⟩:=Zf3 M h2.1;obtain ⟨y,tg',j,cs,sc,p2,rfl,h3⟩:=Zjk h2.2;obtain ⟨y',t',j',cs',sc',p2',e,h4⟩:=ZnL h'.1;cases e;have hl:X.env.scope.names.lookup x=some .local:=by
    rw[M.sc];unfold swB at h3;rw[Yaa,Yaa] at h3;exact of_decide_eq_true h3.1.1
   have hsw:=ZmI (n:=p.line) (y:=y) (t:=tg') (j:=j) (cs:=cs) M.blk (by rw[M.sc];exact h3);simp only[Yaa] at h4;obtain ⟨⟨⟨⟨hk,hcm⟩,h1⟩,h2⟩,⟨h3,h4⟩,h5⟩:=h4;have m:=Zfy (snd a) (snd b) (snd c) M.toMt hk;have hk':compOk X.env.scope X.N own fr ix sc=true:=by rw[M.sc,M.N];exact hk
   have w:∀ σ,TgW (Zb Z.T own ix σ) (ggs tg) (gTs tg):=fun σ=>tgw fun i hi=>Zgp (of_decide_eq_true ((Zb0 (m σ 0 X.s₀ X.H₀ [] []) h3).2 i hi))
   have q1:InC X own fr sc fun Y=>QG Y tg' (ggs tg):=fun Ca s H pins fp=>(Zb0 (m [] Ca s H pins fp) h3).1
   have q2:oQ tb ⟨own++fr,Zqd sc G.sc,G.calm,fun i=>decide (i<own.length),false⟩ b cs=true->∀ σ,InC X own fr sc fun Y=>QC Y (Zb Z.T own ix σ) cs (dQ C b):=fun h4 σ Ca s H pins fp=>(snd b).q _ _ _ _ h4 (m σ Ca s H pins fp)
   have q3:∀ σ,InC X own fr sc fun Y=>QE Y (Zb Z.T own ix σ) y (dE C c):=fun σ Ca s H pins fp=>(snd c).e _ _ _ _ h5 (m σ Ca s H pins fp)
   have q0:=(snd a).e G X Z j h2 M.toMt;have q4:=fun σ a b c d e=>(q3 σ a b c d e).le (ZhG _)
   exact Zlz M.nd w1 hl w3 (M.calm hcm) rfl rfl hk' q0 w q1 (fun σ a b c d e=>(q2 h4 σ a b c d e).le (ZhG _)) q4 (Za5 h1) hsw
 | setF n o v=>
   refine { s:=fun G lp tr X Z st h M=>?_ };obtain ⟨t,x,p,rfl,h'⟩:=Zjf h;obtain ⟨y,m,p',rfl,h2⟩:=Znn h';simp only[Yaa,decide_eq_true_eq] at h2;obtain ⟨⟨⟨⟨rfl,h3⟩,h4⟩,h5⟩,h6⟩:=h2;obtain ⟨k,hr,F⟩:=M.room;exact Ztk ((snd o).e _ _ _ _ h5 M.toMt) ((snd v).e _ _ _ _ h6 M.toMt) (F.fl m h3) (Zcz h4)
 | setD o i v=>
   refine { s:=fun G lp tr X Z st h M=>?_ };obtain ⟨t,x,p,rfl,h'⟩:=Zjf h;obtain ⟨y,z,p',rfl,h2⟩:=Zlh h';simp only[Yaa] at h2;obtain ⟨⟨⟨⟨h1,h3⟩,h4⟩,h5⟩,h6⟩:=h2;obtain ⟨k,hr,F⟩:=M.room;exact Zom hr ((snd o).e _ _ _ _ h4 M.toMt) ((snd i).e _ _ _ _ h5 M.toMt) ((snd v).e _ _ _ _ h6 M.toMt) (Zcz h3)
 | ifs c a b A B=>
   refine { s:=fun G lp tr X Z st h M=>?_ };obtain ⟨t,x,y,p,rfl,h'⟩:=Zu8 h;rw[Yaa,Yaa] at h';exact ZvT ((snd c).t _ _ _ _ h'.1.1 M.toMt) (A.b _ _ _ _ _ _ h'.1.2 M) (B.b _ _ _ _ _ _ h'.2 M)
 | forS t i b B=>
   refine { s:=fun G lp tr X Z st h M=>?_ };obtain ⟨tg,it,x,p,rfl,h'⟩:=ZtI h;simp only[Yaa] at h';obtain ⟨⟨⟨⟨h1,h2⟩,h3⟩,h4⟩,h5⟩:=h';obtain ⟨q1,q2⟩:=Zb0 M.toMt h2;exact ZnA (tgw fun i hi=>M.wr i (q2 i hi)) (M.pass h1) rfl ((snd i).i _ _ _ _ _ h4 M.toMt) q1 (B.b _ _ _ _ _ _ h5 M) (Za5 h3)
 | forD t i b B=>
   refine { s:=fun G lp tr X Z st h M=>?_ };obtain ⟨tg,it,x,p,rfl,h'⟩:=ZtI h;simp only[Yaa] at h';obtain ⟨⟨⟨⟨⟨h1,hc⟩,h2⟩,h3⟩,h4⟩,h5⟩:=h';obtain ⟨q1,q2⟩:=Zb0 M.toMt h2;exact Zph (tgw fun i hi=>M.wr i (q2 i hi)) (M.pass h1) (M.calm hc) ((snd i).e _ _ _ _ h4 M.toMt) q1 (B.b _ _ _ _ _ _ h5 M) (Za5 h3)
 | wh n c b B=>
   refine { s:=fun G lp tr X Z st h M=>?_ };obtain ⟨t,x,p,rfl,h'⟩:=Zv6 h;simp only[Yaa] at h';exact Zli n (M.pass h'.1.1) ((snd c).t _ _ _ _ h'.1.2 M.toMt) (B.b _ _ _ _ _ _ h'.2 M)
 | rz c a=>
   refine { s:=fun G lp tr X Z st h M=>?_ };obtain ⟨e,p,rfl,h'⟩:=Zrv h;obtain ⟨x,q,es,cp,rfl,h2⟩:=ZcW h';simp only[Yaa,decide_eq_true_eq,Ya0] at h2;obtain ⟨⟨⟨⟨⟨⟨rfl,h1⟩,hc⟩,h3⟩,h4⟩,h5⟩,h6⟩:=h2;obtain ⟨g1,g2⟩:=M.gl h1;obtain ⟨k,hr,F⟩:=M.room;cases es with
   | nil=>cases h5
   | cons y ys=>
    obtain ⟨c1,c2⟩:=ZaR h4;exact Zlb (F.rz x h3) M.xok g1 ((snd a).a _ _ _ _ h6 M.toMt) g2 (Zap c1) (ZaT c2) (M.calm hc)
 | rzI c f a=>
   refine { s:=fun G lp tr X Z st h M=>?_ };obtain ⟨e,p,rfl,h'⟩:=Zrv h;obtain ⟨x,q,es,cp,rfl,h2⟩:=ZcW h';simp only[Yaa,decide_eq_true_eq,Ya0] at h2;obtain ⟨⟨⟨⟨⟨⟨rfl,h1⟩,hc⟩,h3⟩,h4⟩,h5⟩,h6⟩:=h2;obtain ⟨g1,g2⟩:=M.gl h1;obtain ⟨k,hr,F⟩:=M.room;obtain ⟨kk,hk,Z⟩:=F.ri x f h3;cases es with
   | nil=>cases h5
   | cons y ys=>
    obtain ⟨c1,c2⟩:=ZaR h4;exact Zjp Z hr hk M.xok g1 ((snd a).a _ _ _ _ h6 M.toMt) g2 (Zap c1) (ZaT c2) (M.calm hc)
 | try1 d i asg b h B H=>
   refine { s:=fun G lp tr X Z st hh M=>?_ };obtain ⟨x,d',q,n,h0,r,p,p',rfl,h'⟩:=Zvz hh;simp only[Yaa,decide_eq_true_eq] at h';obtain ⟨⟨⟨⟨⟨⟨h1,rfl⟩,h2⟩,h3⟩,h4⟩,h5⟩,h6⟩:=h';obtain ⟨g1,g2⟩:=M.gl h2;obtain ⟨k,hr,F⟩:=M.room;obtain ⟨t1,t2,t3⟩:=M.try_ h1;obtain ⟨n,rfl,h4'⟩:=ZmK h4;replace h4:=h4';simp only[Yaa,decide_eq_true_eq] at h4;exact ZqN (asg:=asg) (F.ct d' h3) g1 M.nd (by rw[M.N];exact h4.1) (by rw[M.sc];exact h4.2) t3 t1 t2 (fun E' pn φ' H' sg' xw' a1 a2=>B.b _ _ _ _ _ _ h5 (M.trb a1 a2)) (fun e o u φ' H'=>H.b _ _ _ _ _ _ h6 (M.hnd e o u φ' H')) g2
 | nvr=>exact { s:=fun G lp tr X Z st h M=>ZlE }
 | nil=>exact { b:=fun G lp tr X Z st h M=>(by cases st;exact Zt3;exact ff h) }
 | one a A=>
   refine { b:=fun G lp tr X Z st h M=>?_ };obtain ⟨s,rfl,h'⟩:=ZaC h;exact Ztb (A.s _ _ _ _ _ _ h' M)
 | cons a b A B=>
   refine { b:=fun G lp tr X Z st h M=>?_ }
   match st,h with
   | s::r,h=>
    have h:(oS tb G lp tr a s && oB tb G lp tr b r)=true:=h;rw[Yaa] at h;exact ZpY (A.s _ _ _ _ _ _ h.1 M) (B.b _ _ _ _ _ _ h.2 M)
   | [],h=>exact ff h
end
structure Fe where
 x:Str
 c:Str
 q:Str
 st:Yce
 n:Nat
 N:List Str
 b:S
 loud:Bool:=false
 dfl:Bool:=false
 dm:Nat:=0
 dd:Option Int:=none
noncomputable abbrev Fe.ps (e:Fe):List Str:=e.N.take e.n
structure Pg where
 D:List Fe
 M:List Fe
 I:List Str
 Cm:List (Str×Str)
 Kc:List (Str×Int)
 Ty:List String
 Bu:List String
 Cn:List Str
 Fl:List Str
 Rz:List Str
 Ri:List (Str×Str)
 Ct:List Str
 Xf:List (Str×Str)
 sub:Str->Str->Bool
 kit:Kit
noncomputable def Pg.d (g:Pg)(x:Str):Option Fe:=g.D.find? fun e=>decide (e.x=x)
noncomputable def Pg.m (g:Pg)(c m:Str):Option Fe:=g.M.find? fun e=>decide (e.x=m) && decide (e.c=c)
noncomputable def Pg.ms (g:Pg)(m:Str):List Fe:=g.M.filter fun e=>decide (e.x=m)
def Pg.tq (g:Pg):Tb where
 D:=fun x=>(g.d x).map Fe.loud
 Dd:=fun x=>(g.d x).bind fun e=>bif e.dfl then some e.dd else none
 M:=fun m=>if (g.ms m).isEmpty then none else some ((g.ms m).all Fe.loud)
 I:=g.I
 Cm:=g.Cm
 Kc:=g.Kc
 Ty:=g.Ty
 Bu:=g.Bu
 Cn:=g.Cn
 Fl:=g.Fl
 Rz:=g.Rz
 Ri:=g.Ri
 Ct:=g.Ct
 Xf:=g.Xf
 sub:=g.sub
def Fe.X (g:Pg)(C:Cl)(e:Fe):Fm:=Zcb e.ps.length e.N.length (dB g.sub C e.b)
def Fe.F (g:Pg)(C:Cl)(e:Fe):Fm:=ZfZ e.ps.length e.N.length (dB g.sub C e.b)
noncomputable def up (g:Pg)(C:Cl):Cl:=⟨fun x=>((g.d x).map (Fe.X g C)).getD nF,fun m c=>((g.ms m).map fun e=>(e.c,e.X g C)).lookup c,fun c=>((g.m c "__init__").map (Fe.F g C)).getD nF,fun c m=>((g.m c m).map (Fe.F g C)).getD nF,g.kit⟩
noncomputable def lev (g:Pg):Nat->Cl
 | 0=>⟨fun _=>nF,fun _ _=>none,fun _=>nF,fun _ _=>nF,g.kit⟩
 | k+1=>up g (lev g k)
noncomputable def fsB (N ps:List Str)(z:YcQ):Bool:=decide (z.kind=.function) && !z.isCoroutine && !z.isGenerator && decide N.Nodup && ps.all (fun x=>decide (z.names.lookup x=some .local) || decide (z.names.lookup x=some .cell)) && z.names.all (fun y=>decide (y.2≠.free))
def Fe.G (e:Fe)(c:Bool):Gm:=⟨e.N,Zaa e.st,c,fun _=>true,true⟩
def Fe.ok (g:Pg)(e:Fe):Bool:=fsB e.N e.ps (Zaa e.st) && oB g.tq (e.G true) true true e.b (Zah e.st) && (!e.loud || oB g.tq (e.G false) true true e.b (Zah e.st))
def Zwp (h:fsB N (N.take n) sc=true):FnScope N (N.take n) sc:=by
 unfold fsB at h;simp only[Yaa,decide_eq_true_eq,Ya0,Yaf,YaP] at h;obtain ⟨⟨⟨⟨⟨h1,h2⟩,h3⟩,I⟩,J⟩,z⟩:=h;exact ⟨h1,h2,h3,I,by
  rw[Yds];rcases Nat.le_total n N.length with h|h
  ·rw[Yeu h]
  ·rw[Nat.min_eq_right h,Ydc h,List.take_length],J,z⟩
section
variable {g:Pg} {P:YaN} {w:Ybg} {K:Yab} {mg:Str->Option Yag} {base:YbO} {T:CTb} {k:Nat}
def ZmP (S:FnScope N ps sc):(Yc4 q sc L f cd).blockKind=.function:=by
 unfold Env.blockKind;show (if sc.kind.isAnnotationScope=true then ScopeKind.function else sc.kind)=_;rw[S.kind];rfl
def Fe.bodyX {C:Cl}{e:Fe}{c:Bool}(F:Fx g.tq C P w K mg base T k)(S:FnScope e.N e.ps (Zaa e.st))(h:oB g.tq (e.G c) true true e.b (Zah e.st)=true){q:Str}
  (f:Yaq) (z:Yag) (A:Ybr) (outer:List Env) (s:Yaj) (H:Hp) (E:XK) (I:List Yaq) (U:Room k (A.deeper (Yc4 q (Zaa e.st) s.heap.objs.size f z)))
  (J:XOk (Zcm (CXe c P w) P w K mg base e.N q (Zaa e.st) f z A outer s H E) (Zx T I H E)) :
  QB (Zcm (CXe c P w) P w K mg base e.N q (Zaa e.st) f z A outer s H E) (Zx T I H E) (Zah e.st) (dB g.sub C e.b):=
 (sns (tb:=g.tq) e.b).b _ _ _ _ _ _ h ⟨⟨rfl,rfl,S.nd,id,⟨k,U,F⟩,J,fun _ _ _ _ _=>trivial,fun _ _=>rfl⟩,rfl,ZmP S,fun _=>Yek.leaving,fun _=>⟨rfl,rfl,fun _=>trivial⟩⟩
def Fe.body0 {C:Cl}{e:Fe}(F:Fx g.tq C P w K mg base T k)(S:FnScope e.N e.ps (Zaa e.st))(h:oB g.tq (e.G true) true true e.b (Zah e.st)=true){q:Str}
  (f:Yaq) (z:Yag) (A:Ybr) (outer:List Env) (s:Yaj) (H:Hp) (E:XK) (I:List Yaq) (U:Hp) (J:Room k (A.deeper (Yc4 q (Zaa e.st) s.heap.objs.size f z))) :
  QB (Zcm CX0 P w K mg base e.N q (Zaa e.st) f z A outer s H E).nox (Zf T I U) (Zah e.st) (dB g.sub C e.b):=
 (sns (tb:=g.tq) e.b).b _ _ _ _ _ _ h ⟨⟨rfl,rfl,S.nd,fun _=>rfl,⟨k,J,F⟩,ZhW fun _ _ h=>h,fun _ _ _ _ _=>trivial,fun _ _=>rfl⟩,rfl,ZmP S,fun _=>Yek.never,fun _=>⟨rfl,rfl,fun _=>trivial⟩⟩
structure Pf (g:Pg)(K:Yab)(mg:Str->Option Yag)(T:CTb):Prop where
 ok:∀ e∈g.D++g.M,e.ok g=true
 D:∀ e∈g.D,(e.dfl=false/\Zhu K mg e.x e.st/\ZaV e.x e.x e.st e.ps)\/(ZdI e.dm e.dd K mg e.x e.st/\ZbD e.dm e.x e.x e.st e.ps)
 M:∀ e∈g.M,∃ A,T e.c=some A/\ZuO K A e.x e.q e.st/\ZaV e.x e.q e.st e.ps
 I:∀ c∈g.I,∃ e A,g.m c "__init__"=some e/\T c=some A/\mg c=some (.ref A)/\MkX K A e.q e.st
 C:∀ c m,(c,m)∈g.Cm->∃ e A f fd,g.m c m=some e/\mg c=some (.ref A)/\ClsFn K A m f/\Fun K e.x e.q e.st f fd
def Pg.m_of {c m:Str}{e:Fe}(h:g.m c m=some e):e∈g.M/\e.x=m/\e.c=c:=by
 have h2:=Yer h;rw[Yaa,decide_eq_true_eq,decide_eq_true_eq] at h2;exact ⟨YcT h,h2.1,h2.2⟩
def Pg.d_of (h:g.d x=some e):e∈g.D/\e.x=x:=by
 have h2:=Yer h;exact ⟨YcT h,of_decide_eq_true h2⟩
def Fe.okk (p:Pf g K mg T)(h:e∈g.D++g.M):FnScope e.N e.ps (Zaa e.st)/\oB g.tq (e.G true) true true e.b (Zah e.st)=true/\(e.loud=true->oB g.tq (e.G false) true true e.b (Zah e.st)=true):=by
 have h:=p.ok e h;unfold Fe.ok at h;rw[Yaa,Yaa,YaP,Ya0] at h;exact ⟨Zwp h.1.1,h.1.2,fun z=>h.2.resolve_left (by rw[z];decide)⟩
def Fe.okc (p:Pf g K mg T){e:Fe}(h:e∈g.D++g.M){c:Bool}(z:(c || e.loud)=true):oB g.tq (e.G c) true true e.b (Zah e.st)=true:=by
 cases c with
 | true=>exact (Fe.okk p h).2.1
 | false=>exact (Fe.okk p h).2.2 z
structure Fb (g:Pg)(P:YaN)(w:Ybg)(K:Yab)(mg:Str->Option Yag)(base:YbO)(T:CTb):Prop where
 gc:∀ x i,(x,i)∈g.Kc->GC mg x (.int i)
 ty:∀ n,n∈g.Ty->mg (Yam n)=none/\YaR (Yam n)=some (.type n)/\Yam n≠"__name__"
 bu:∀ n,n∈g.Bu->mg (Yam n)=none/\YaR (Yam n)=some (.builtin n)/\Yam n≠"__name__"
 cn:∀ x,x∈g.Cn->∃ A,GC mg x (.ref A)/\T.any x=some A
 ins:ZeI K T
 exo:ZlW K T
 kit:ZjX K T g.kit
 fl:∀ x,x∈g.Fl->Zht K T x
 rz:∀ c,c∈g.Rz->Zxg K mg T c
 ri:∀ c f,(c,f)∈g.Ri->RzI P w K mg base T 1 c f
 ct:∀ d,d∈g.Ct->CatAt K mg T d (g.sub d)
 xf:∀ c n,(c,n)∈g.Xf->Zwq K T c n
def ZmZ (h:((some e:Option Fe).bind fun e=>bif e.dfl then some e.dd else none)=some d):e.dfl=true/\e.dd=d:=by
 cases q:e.dfl with
 | false=>simp only[YaH,q] at h;cases h
 | true=>simp only[YaH,q,cond_true] at h;exact ⟨rfl,YaT h⟩
def Zj2 (k:Nat):(lev g k).kit=g.kit:=by cases k<;>rfl
theorem fx (p:Pf g K mg T)(b:Fb g P w K mg base T):∀ k,Fx g.tq (lev g k) P w K mg base T (2 * k+2)
 | 0=>{
  f:=fun x q U c hc=>by
   cases hd:g.d x with
   | none=>have U:(g.d x).map Fe.loud=some q:=U;rw[hd] at U;cases U
   | some e=>
    obtain ⟨J,rfl⟩:=Pg.d_of hd;rcases p.D e J with ⟨_,r,Y⟩|⟨⟨f,fd,r,hm⟩,Y⟩
    ·exact Znf r Y
    ·exact ⟨f,fd,e.ps,Zi7,hm,r.kp,(r.binds Y).1⟩
  fd:=fun x d I=>by
   have I:((g.d x).bind fun e=>bif e.dfl then some e.dd else none)=some d:=I;cases hd:g.d x with
   | none=>rw[hd] at I;cases I
   | some e=>
    rw[hd] at I;obtain ⟨h2,rfl⟩:=ZmZ I;obtain ⟨J,rfl⟩:=Pg.d_of hd;rcases p.D e J with ⟨z,r,Y⟩|⟨⟨f,fd,r,hm⟩,Y⟩
    ·rw[z] at h2;cases h2
    ·exact ⟨f,fd,e.ps,Zi7,hm,r.kp,(r.binds Y).1,(r.binds Y).2⟩
  m:=fun m q U c hc=>fun _ _ h=>by cases h
  i:=fun c hc=>by
   obtain ⟨e,A,h1,h2,h3,f,fd,h4,h5⟩:=p.I c hc;obtain ⟨J,_,_⟩:=Pg.m_of h1;obtain ⟨_,_,_,hb⟩:=p.M e J;obtain ⟨_,I,_⟩:=Pg.m_of h1;rw[I] at hb;exact ⟨0,by omega,A,f,fd,e.ps,h2,h3,h4,Zi7,h5.binds hb⟩
  c:=fun c m hc=>by
   obtain ⟨e,A,f,fd,h1,h3,h4,h5⟩:=p.C c m hc;obtain ⟨J,I,_⟩:=Pg.m_of h1;obtain ⟨_,_,_,hb⟩:=p.M e J;exact ⟨A,f,fd,e.ps,h3,h4,Zi7,h5.binds hb⟩
  gc:=b.gc,ty:=b.ty,bu:=b.bu,cn:=b.cn,ins:=b.ins,exo:=b.exo,kit:=b.kit,fl:=b.fl,rz:=b.rz,ri:=fun c f h=>⟨1,by omega,b.ri c f h⟩,ct:=b.ct,xf:=b.xf }
 | k+1=>
  have F:=fx p b k
  {
   f:=fun x q U c hc=>by
    have U:(g.d x).map Fe.loud=some q:=U;show FnAt P w K mg base (CXe c P w) (2 * (k+1)+2) x (spH T (((g.d x).map (Fe.X g (lev g k))).getD nF));cases hd:g.d x with
    | none=>rw[hd] at U;cases U
    | some e=>
     rw[hd] at U;cases U;obtain ⟨J,rfl⟩:=Pg.d_of hd;have o:=Fe.okk p (YaL _ J);have oc:=Fe.okc p (YaL _ J) hc;rcases p.D e J with ⟨_,r,Y⟩|⟨r,Y⟩
     ·exact (ZyZ r o.1 Y (hB:=Fe.bodyX F o.1 oc) Zbp).mono (by omega)
     ·exact (Ztn r o.1 Y (hB:=Fe.bodyX F o.1 oc) Zbp).full.mono (by omega)
   fd:=fun x d I=>by
    have I:((g.d x).bind fun e=>bif e.dfl then some e.dd else none)=some d:=I;show FnAtD d P w K mg base (CXe true P w) (2 * (k+1)+2) x (spH T (((g.d x).map (Fe.X g (lev g k))).getD nF));cases hd:g.d x with
    | none=>rw[hd] at I;cases I
    | some e=>
     rw[hd] at I;obtain ⟨h2,rfl⟩:=ZmZ I;obtain ⟨J,rfl⟩:=Pg.d_of hd;have o:=Fe.okk p (YaL _ J);rcases p.D e J with ⟨z,r,Y⟩|⟨r,Y⟩
     ·rw[z] at h2;cases h2
     ·obtain ⟨f,fd,ps,a1,a2⟩:=Ztn r o.1 Y (hB:=Fe.bodyX F o.1 o.2.1) Zbp;exact ⟨f,fd,ps,a1.mono (by omega),a2⟩
   m:=fun m q U c hc=>fun cl aa h=>by
    have h:((g.ms m).map fun e=>(e.c,e.X g (lev g k))).lookup cl=some aa:=h;have U:(if (g.ms m).isEmpty then none else some ((g.ms m).all Fe.loud))=some q:=U;have ae:∀ (l:List Fe),(l.map fun e=>(e.c,e.X g (lev g k))).lookup cl=some aa->∃ e∈l,e.c=cl/\aa=e.X g (lev g k):=fun l=>by
     induction l with
     | nil=>intro h;cases h
     | cons e l ih=>
      intro h;rw[Yap,YaG] at h;cases z:cl == e.c with
      | true=>rw[z] at h;cases h;exact ⟨e,YaD,(beq_iff_eq.mp z).symm,rfl⟩
      | false=>
       rw[z] at h;obtain ⟨e',h1,h2⟩:=ih h;exact ⟨e',Yau _ h1,h2⟩
    obtain ⟨e,J,rfl,rfl⟩:=ae _ h;have hl:q=true->e.loud=true:=fun z=>by
     split at U
     ·cases U
     ·cases U;exact Yaf.mp z e J
    obtain ⟨ac,I⟩:=Ycv.mp J;have I:=of_decide_eq_true I;subst I;obtain ⟨A,h1,⟨f,fd,h2,h3⟩,hb⟩:=p.M e ac;have o:=Fe.okk p (Yas _ ac);have oc:=Fe.okc (c:=c) p (Yas _ ac) (by
     rw[YaP] at hc ⊢;exact hc.imp id hl)
    exact ⟨A,f,fd,e.ps,h1,h2,(ZxP h3 o.1 (hB:=Fe.bodyX F o.1 oc f) Zbp).mono (by omega),h3.binds hb⟩
   i:=fun c hc=>by
    obtain ⟨e,A,h1,h2,h3,f,fd,h4,h5⟩:=p.I c hc;obtain ⟨J,I,_⟩:=Pg.m_of h1;obtain ⟨_,_,_,hb⟩:=p.M e J;have o:=Fe.okk p (Yas _ J);rw[I] at hb;refine ⟨2 * k+3,by omega,A,f,fd,e.ps,h2,h3,h4,?_,h5.binds hb⟩;show FnOk P w K mg base CX0 (2 * k+2+1) f fd e.ps (spH T (((g.m c "__init__").map (Fe.F g (lev g k))).getD nF));rw[h1];exact Zx0 h5 o.1 (hB:=Fe.body0 F o.1 o.2.1 f) ZgJ Zdv
   c:=fun c m hc=>by
    obtain ⟨e,A,f,fd,h1,h3,h4,h5⟩:=p.C c m hc;obtain ⟨J,I,_⟩:=Pg.m_of h1;obtain ⟨_,_,_,hb⟩:=p.M e J;have o:=Fe.okk p (Yas _ J);refine ⟨A,f,fd,e.ps,h3,h4,?_,h5.binds hb⟩;show FnOk P w K mg base CX0 (2 * k+2+1+1) f fd e.ps (spH T (((g.m c m).map (Fe.F g (lev g k))).getD nF));rw[h1];exact (Zx0 h5 o.1 (hB:=Fe.body0 F o.1 o.2.1 f) ZgJ Zdv).mono (by omega)
   gc:=b.gc,ty:=b.ty,bu:=b.bu,cn:=b.cn,ins:=b.ins,exo:=b.exo,kit:=b.kit,fl:=b.fl,rz:=b.rz,ri:=fun c f h=>⟨1,by omega,b.ri c f h⟩,ct:=b.ct,xf:=b.xf }
end
structure Ad where
 xs:List (Str×Yaq)
 cs:List (Str×Yaq)
 os:List (Str×Yaq)
noncomputable def Ad.all (a:Ad):List (Str×Yaq):=a.xs++a.cs++a.os
noncomputable def Ad.T (a:Ad):CTb:=⟨fun c=>a.cs.lookup c,fun c=>a.xs.lookup c,fun c=>a.os.lookup c⟩
noncomputable def Pg.dl (g:Pg):List (Str×Yce):=(g.D.filter fun e=>!e.dfl).map fun e=>(e.x,e.st)
noncomputable def Pg.ml (g:Pg)(a:Ad):List (Yaq×Str×Str×Yce):=g.M.map fun e=>((a.cs.lookup e.c).getD 0,e.x,e.q,e.st)
def tvO (T:CTb):Ty->Option Yag
 | .inl n=>some (.type n)
 | .inr c=>(T.any c).map Yay
def ZxM (K:Yab)(T:CTb)(z:Kit):Bool:=z.all fun e=>match tvO T e.1.1,tvO T e.1.2 with
 | some x,some y=>YeG K x y == some e.2
 | _,_=>false
noncomputable def onB (o:Option Yaq)(p:Yaq->Bool):Bool:=match o with
 | some A=>p A
 | none=>false
noncomputable def ZoU (n:String):Bool:=match YaR (Yam n) with
 | some (.type m)=>m == n
 | _=>false
noncomputable def ZoQ (n:String):Bool:=match YaR (Yam n) with
 | some (.builtin m)=>m == n
 | _=>false
def Zww (g:Pg)(a:Ad):Bool:=(g.D++g.M).all (Fe.ok g) && g.Ty.all ZoU && g.Bu.all ZoQ && (g.Ty++g.Bu).all (fun n=>decide (Yam n≠"__name__")) && g.M.all (fun e=>(a.cs.lookup e.c).isSome) && a.xs.all (fun e=>(a.cs.lookup e.1).isNone) &&
 g.Cn.all (fun x=>(a.T.any x).isSome) && g.I.all (fun c=>(g.m c "__init__").isSome)
def chk (g:Pg)(a:Ad)(K:Yab):Bool:=dfB K g.dl && mtB K (g.ml a) && mkB K (g.I.map fun c=>(a.cs.lookup c).getD 0) && noB K ((g.Ty++g.Bu).map Yam) && inB K g.Kc && Ziz K (a.cs.map Yez) && Zm9 K (a.cs.map Yez) g.Fl &&
 ZmQ K (a.xs.map Yez) && g.Ct.all (fun d=>onB (a.T.any d) fun D=>Zi5 K D ((a.xs.filter fun e=>g.sub d e.1).map Yez)) && g.Rz.all (fun c=>onB (a.xs.lookup c) (ZuF K)) && ZxM K a.T g.kit &&
 g.Xf.all (fun p=>onB (a.xs.lookup p.1) fun C=>Ybd K C && Yao K (.ref C) p.2 == some none)
theorem ZdQ:∀ {l:List (Str×Yaq)},l.lookup c=some A->(c,A)∈l
 | [],h=>by cases h
 | (k,B)::l,h=>by
  rw[YaG] at h;cases z:c == k with
  | true=>rw[z] at h;cases h;rw[beq_iff_eq.mp z];exact YaD
  | false=>rw[z] at h;exact Yau _ (ZdQ h)
def ZgZ {c:Str}{A:Yaq}{l:List (Str×Yaq)}(h:l.lookup c=some A):A∈l.map Yez:=YbF.mpr ⟨_,ZdQ h,rfl⟩
def Zmv {a:Ad}{c:Str}{A:Yaq}(h:a.T.any c=some A):(c,A)∈a.all:=by
 unfold CTb.any Ad.T at h;unfold Ad.all;simp only at h;split at h
 ·rename_i C e;cases h;exact YaL _ (Yas _ (ZdQ e))
 ·split at h
  ·rename_i C e;cases h;exact YaL _ (YaL _ (ZdQ e))
  ·exact Yas _ (ZdQ h)
def Zoa (h:onB o p=true):∃ A,o=some A/\p A=true:=by
 cases o with
 | none=>cases h
 | some A=>exact ⟨A,rfl,h⟩
theorem ZaA:∀ {l:List α},AllP p l->∀ x∈l,p x
 | [],_,_,h=>by cases h
 | y::l,a,x,h=>by
  rcases Yaz.mp h with rfl|h
  ·exact a.1
  ·exact ZaA a.2 x h
def ZpA (h:ZoU n=true):YaR (Yam n)=some (.type n):=by
 unfold ZoU at h;split at h
 ·rename_i m e;rw[e,beq_iff_eq.mp h]
 ·cases h
def ZnH (h:ZoQ n=true):YaR (Yam n)=some (.builtin n):=by
 unfold ZoQ at h;split at h
 ·rename_i m e;rw[e,beq_iff_eq.mp h]
 ·cases h
def ZpN {K:Yab}{T:CTb}{z:Kit}(h:ZxM K T z=true):ZjX K T z:=fun e J=>by
 have tv:∀ {t:Ty} {v:Yag},tvO T t=some v->TV T t v:=fun {t v} h=>by
  cases t with
  | inl n=>cases h;rfl
  | inr c=>
   have h:(T.any c).map Yay=some v:=h;obtain ⟨C,e,rfl⟩:=Yar.mp h;exact ⟨C,e,rfl⟩
 have h:=Yaf.mp h e J;split at h
 ·rename_i x y I U;exact ⟨x,y,tv I,tv U,beq_iff_eq.mp h⟩
 ·cases h
section
variable {g:Pg} {a:Ad} {P:YaN} {w:Ybg} {K:Yab} {mg:Str->Option Yag} {h:YbO} {k:Nat}
def fin (KX:K.In h)(G:h.Ns YaO mg){fa:Yaq}(ah:mg "law"=some (.ref fa))(ai:noList K=true)
  (o:AllP (fun e=>YbR K YaO e.1=some (some (.ref e.2))) a.all) (c0:Zww g a=true) (c:chk g a K=true) (db:dfL K g.dl=dfR K g.dl) (mb:mtL K (g.ml a)=mtR K (g.ml a))
  (bd:AllP (fun e=>e.dfl=false->ZaV e.x e.x e.st e.ps) g.D) (bm:AllP (fun e=>ZaV e.x e.q e.st e.ps) g.M)
  (dD:∀ e∈g.D,e.dfl=true->ZdI e.dm e.dd K mg e.x e.st/\ZbD e.dm e.x e.x e.st e.ps)
  (cl:∀ p∈g.Cm,∃ e A,g.m p.1 p.2=some e/\a.T p.1=some A/\ClX K A e.x e.q e.st)
  (ri:∀ base p,p∈g.Ri->RzI P w K mg base a.T 1 p.1 p.2)
  {eL:Fe} (hL:g.d "law"=some eL) (hq:eL.dfl=false) {x:Str} (hN:eL.ps=[x]) (run:∀ ns:List Int,ns.length<=63->∃ m,ZhM eL.N.length (dB g.sub (lev g k) eL.b) [.tl (ns.map W.int)] []=.ok (.bl true) m) :
  ∃ fd:Ybc,(∀ (s:Yaj) (u:Yag),YeL s fd ⟨[u],[]⟩ [(x,u)])/\∀ base:YbO,K.In base->base.Ns YaO mg->FnOk P w K mg base CX0 (2 * k+2+1) fa fd [x] (Zdn K):=by
 unfold Zww at c0;unfold chk at c;simp only[Yaa] at c0 c;obtain ⟨⟨⟨⟨⟨⟨⟨q1,q2⟩,q3⟩,q4⟩,q5⟩,q6⟩,q7⟩,q8⟩:=c0;obtain ⟨⟨⟨⟨⟨⟨⟨⟨⟨⟨⟨k1,k2⟩,k3⟩,k4⟩,k5⟩,k6⟩,k7⟩,k8⟩,k9⟩,ka⟩,kb⟩,kc⟩:=c;have ow:∀ {x:Str} {A:Yaq},(x,A)∈a.all->YbR K YaO x=some (some (.ref A)):=fun m=>ZaA o _ m
 have aa:∀ {x:Str} {A:Yaq},(x,A)∈a.all->mg x=some (.ref A):=fun m=>Ycl KX G (ow m)
 have af:∀ {x:Str} {A:Yaq},a.cs.lookup x=some A->(x,A)∈a.all:=fun e=>YaL _ (Yas _ (ZdQ e))
 have inx:∀ {x:Str} {A:Yaq},a.xs.lookup x=some A->(x,A)∈a.all:=fun e=>YaL _ (YaL _ (ZdQ e))
 have dd:=ZaA (ZoN KX G k1 db);have mm:=ZaA (Zvt k2 mb);have nn:=ZaA (ZvG KX G k4);have ae:∀ e∈g.D,e.dfl=false->Zhu K mg e.x e.st:=fun e J hd=>dd (e.x,e.st) (YbF.mpr ⟨e,Ycv.mpr ⟨J,by rw[hd];rfl⟩,rfl⟩)
 have ac:∀ e∈g.M,∀ A,a.cs.lookup e.c=some A->ZuO K A e.x e.q e.st:=fun e J A hA=>by
  have:=mm ((a.cs.lookup e.c).getD 0,e.x,e.q,e.st) (YbF.mpr ⟨e,J,rfl⟩);rw[hA] at this;exact this
 have z:∀ {α:Type} {o:Option α},o.isSome=true->∃ x,o=some x:=fun {α o} h=>Ybh.mp h
 have p:Pf g K mg a.T:={
  ok:=fun e J=>Yaf.mp q1 e J
  D:=fun e J=>by
   cases hd:e.dfl with
   | false=>exact .inl ⟨rfl,ae e J hd,ZaA bd e J hd⟩
   | true=>exact .inr (dD e J hd)
  M:=fun e J=>by
   obtain ⟨A,hA⟩:=z (Yaf.mp q5 e J);exact ⟨A,hA,ac e J A hA,ZaA bm e J⟩
  I:=fun c Y=>by
   obtain ⟨e,J⟩:=z (Yaf.mp q8 c Y);obtain ⟨m1,m2,m3⟩:=Pg.m_of J;obtain ⟨A,hA⟩:=z (Yaf.mp q5 e m1);have m:=ac e m1 A hA;rw[m3] at hA;rw[m2] at m;have:=ZvP k3 (C:=A) (YbF.mpr ⟨c,Y,by rw[hA];rfl⟩) m;exact ⟨e,A,J,hA,aa (af hA),this⟩
  C:=fun c m Y=>by
   obtain ⟨e,A,h1,h2,f,fd,h3,h4⟩:=cl (c,m) Y;obtain ⟨_,U,_⟩:=Pg.m_of h1;rw[U] at h3;exact ⟨e,A,f,fd,h1,aa (af h2),h3,h4⟩ }
 have b:∀ base,Fb g P w K mg base a.T:=fun base=>{
  gc:=fun x i U=>ZaA (Zxu KX G k5) (x,i) U
  ty:=fun n hn=>⟨nn _ (YbF.mpr ⟨n,YaL _ hn,rfl⟩),ZpA (Yaf.mp q2 n hn),of_decide_eq_true (Yaf.mp q4 n (YaL _ hn))⟩
  bu:=fun n hn=>⟨nn _ (YbF.mpr ⟨n,Yas _ hn,rfl⟩),ZnH (Yaf.mp q3 n hn),of_decide_eq_true (Yaf.mp q4 n (Yas _ hn))⟩
  cn:=fun x U=>by
   obtain ⟨A,hA⟩:=z (Yaf.mp q7 x U);exact ⟨A,ZtO KX G (ow (Zmv hA)) rfl,hA⟩
  ins:=fun c A e=>Ze1 k6 (ZgZ e)
  exo:=fun c A e=>⟨Option.isNone_iff_eq_none.mp (Yaf.mp q6 (c,A) (ZdQ e)),Zev k8 (ZgZ e)⟩
  kit:=ZpN kb
  fl:=fun x U=>ZrN (fun c A e=>ZgZ e) k6 k7 U
  rz:=fun c Y=>by
   obtain ⟨A,e,hA⟩:=Zoa (Yaf.mp ka c Y);exact ⟨A,e,aa (inx e),hA⟩
  ri:=fun c f Y=>ri base (c,f) Y
  ct:=fun d hd=>by
   obtain ⟨A,e,hA⟩:=Zoa (Yaf.mp k9 d hd);exact ZsD hA (aa (Zmv e)) fun c C hs e=>YbF.mpr ⟨(c,C),Ycv.mpr ⟨ZdQ e,hs⟩,rfl⟩
  xf:=fun c n Y A e=>by
   obtain ⟨B,e',hB⟩:=Zoa (Yaf.mp kc (c,n) Y);have e:a.xs.lookup c=some A:=e;have e':a.xs.lookup c=some B:=e';rw[e] at e';cases e';rw[Yaa,beq_iff_eq] at hB;exact ⟨Zev k8 (ZgZ e),hB.1,hB.2⟩ }
 obtain ⟨J,U⟩:=Pg.d_of hL;have ok:=Fe.okk p (YaL _ J);have hb:=ZaA bd eL J hq;rw[U,hN] at hb;have R:=ae eL J hq;rw[U] at R;have S:=ok.1;refine Zuq R ah hb fun f fd F base=>?_
 have:=Zwz (T:=a.T) F S (hB:=fun ag A outer s H E aj H0 hr=>Fe.body0 (fx p (b base) k) S ok.2.1 f ag A outer s H E aj H0 hr) Zoo (by rw[hN];exact Zjj run);rw[hN] at this;exact this.imp (ZpD ai)
end
noncomputable def ZeW:Nat->List Nat->Nat
 | a,[]=>a
 | a,k::r=>ZeW (a * 2097152+(k+1)) r
noncomputable def smL:List Nat->Bool
 | []=>true
 | k::r=>Yev (k+2) 2097152 && smL r
def enc (x:Str):Nat:=ZeW 0 x.cps.toList
def sml (x:Str):Bool:=smL x.cps.toList
def Zcg (a:Nat)(l:List Nat)(k:Nat):ZeW a (l++[k])=ZeW a l * 2097152+(k+1):=by
 induction l generalizing a with
 | nil=>rfl
 | cons x l z=>rw[YbN];unfold ZeW;exact z _
def Zqc (l:List Nat)(k:Nat):smL (l++[k])=(smL l && Yev (k+2) 2097152):=by
 induction l with
 | nil=>unfold smL;simp[smL]
 | cons x l z=>rw[YbN];unfold smL;rw[z,Bool.and_assoc]
def ZfA {P:List Nat->Prop}(I:P [])(h1:∀ l k,P l->P (l++[k]))(l:List Nat):P l:=by
 have:∀ l:List Nat,P l.reverse:=fun l=>by
  induction l with
  | nil=>exact I
  | cons x l z=>rw[YcN];exact h1 _ _ z
 have q:=this l.reverse
 rwa [List.reverse_reverse] at q
def ZoI:∀ l r:List Nat,smL l=true->smL r=true->ZeW 0 l=ZeW 0 r->l=r:=by
 intro l;refine ZfA (P:=fun l=>∀ r:List Nat,smL l=true->smL r=true->ZeW 0 l=ZeW 0 r->l=r) ?_ ?_ l
 ·intro r;refine ZfA (P:=fun r=>smL []=true->smL r=true->ZeW 0 []=ZeW 0 r->[]=r) (fun _ _ _=>rfl) (fun r k _ _ _ e=>?_) r;rw[Zcg] at e;have e:0=ZeW 0 r * 2097152+(k+1):=e;omega
 ·intro l k z r;refine ZfA (P:=fun r=>smL (l++[k])=true->smL r=true->ZeW 0 (l++[k])=ZeW 0 r->l++[k]=r) (fun _ _ e=>?_) (fun r j _ a b e=>?_) r
  ·rw[Zcg] at e;have e:ZeW 0 l * 2097152+(k+1)=0:=e;omega
  ·rw[Zqc,Yaa] at a b;rw[Zcg,Zcg] at e;have k1:=Ya2 a.2;have I:=Ya2 b.2;have h1:k=j:=by omega
   have h2:ZeW 0 l=ZeW 0 r:=by omega
   rw[h1,z r a.1 b.1 h2]
def eqN (x y:Str):Bool:=bif sml x && sml y then Ydu (enc x) (enc y) else decide (x=y)
def Za0 (x y:Str):eqN x y=decide (x=y):=by
 unfold eqN;cases q:sml x && sml y with
 | false=>rfl
 | true=>
  rw[Yaa] at q;simp only[cond_true];rw[YbZ,decide_eq_true_eq,Yfb];refine ⟨fun e=>?_,fun e=>by rw[e]⟩;have:=ZoI _ _ q.1 q.2 e;cases x with
  | mk a=>cases y with
   | mk b=>exact congrArg Str.mk (Array.toList_inj.mp this)
def lkN {α:Type}(x:Str):List (Str×α)->Option α
 | []=>none
 | (y,w)::r=>bif eqN x y then some w else lkN x r
theorem Zfd (x:Str):∀ l:List (Str×α),lkN x l=l.lookup x
 | []=>rfl
 | (y,w)::r=>by
  unfold lkN;rw[YaG,Za0,Zfd x r];have:(x == y)=decide (x=y):=rfl;rw[this];cases decide (x=y)<;>rfl
section
variable (v:Str->Str) (n:Int->Int)
noncomputable def vK:Key->Key
 | .inl i=>.inl (n i)
 | .inr x=>.inr (v x)
noncomputable def scr:Str:=⟨#[2000000]⟩
noncomputable def unI (k:Nat):Int:=if k % 2=0 then ((k / 2:Nat):Int) else -((k / 2:Nat):Int) - 1
noncomputable def toI:Int->Nat
 | .ofNat m=>2 * m
 | .negSucc m=>2 * m+1
def Zox (i:Int):unI (toI i)=i:=by
 cases i with
 | ofNat m=>show (if 2 * m % 2=0 then ((2 * m / 2:Nat):Int) else -((2 * m / 2:Nat):Int) - 1)=_;rw[if_pos (by omega)];show ((2 * m / 2:Nat):Int)=(m:Int);congr 1;omega
 | negSucc m=>show (if (2 * m+1) % 2=0 then (((2 * m+1) / 2:Nat):Int) else -(((2 * m+1) / 2:Nat):Int) - 1)=_;rw[if_neg (by omega)];rw[show (2 * m+1) / 2=m by omega];omega
def scW:W:=.tl ((v scr).cps.toList.map fun k=>.int (unI k))
mutual
noncomputable def vW:W->W
 | .non=>.non
 | .bl b=>.bl b
 | .int i=>.int (n i)
 | .str x=>.str (v x)
 | .ty t=>.ty t
 | .cls c=>.cls c
 | .ref a=>.ref a
 | .tup ws=>.tup (vWs ws)
 | .tl ws=>.tl (vWs ws)
 | .td ks ws=>.td (ks.map (vK v n)) (vWs ws)
 | .ti c fs ws=>bif eqN c "$" then scW v else .ti c fs (vWs ws)
 | .exc c fs ws=>.exc c fs (vWs ws)
noncomputable def vWs:List W->List W
 | []=>[]
 | w::ws=>vW w::vWs ws
end
theorem ZbI:∀ ws,vWs v n ws=ws.map (vW v n)
 | []=>by unfold vWs;rfl
 | w::ws=>by unfold vWs;rw[ZbI ws];rfl
noncomputable def vD (kvs:List (Key×W)):List (Key×W):=kvs.map fun p=>(vK v n p.1,vW v n p.2)
noncomputable def vF (fs:List (Str×W)):List (Str×W):=fs.map fun p=>(p.1,vW v n p.2)
def vO:O->O
 | .lst ws=>.lst (vWs v n ws)
 | .dic kvs=>.dic (vD v n kvs)
 | .ins c fs=>.ins c (vF v n fs)
 | .fdic kvs=>.fdic (vD v n kvs)
noncomputable def vH (h:Mem):Mem:=h.map (vO v n)
noncomputable def vR (ρ:Sg):Sg:=ρ.map (Option.map (vW v n))
end
structure Gd where
 s:Str->Bool
 i:Int->Bool
 ne:Str->Str->Bool
 md:Int->Int->Option Int
structure Vp (v:Str->Str)(n:Int->Int)(c:Gd):Prop where
 s:∀ x,c.s x=true->v x=x
 i:∀ j,c.i j=true->n j=j
 ne:∀ x y,c.ne x y=true->v x≠v y
 md:∀ j m r,c.md j m=some r->n j % m=r
section
variable (c:Gd)
noncomputable def Gd.S (x y:Str):Bool:=decide (x=y) || (c.s x && c.s y) || c.ne x y
noncomputable def Gd.I (x y:Int):Bool:=decide (x=y) || (c.i x && c.i y)
end
section
variable {v:Str->Str} {n:Int->Int} {c:Gd} (V:Vp v n c)
include V
theorem Vp.S (h:c.S x y=true):v x=v y↔x=y:=by
 unfold Gd.S at h;rw[YaP,YaP,Yaa,decide_eq_true_eq] at h;rcases h with (h|⟨a,b⟩)|h
 ·rw[h];exact ⟨fun _=>rfl,fun _=>rfl⟩
 ·rw[V.s x a,V.s y b]
 ·exact ⟨fun e=>absurd e (V.ne x y h),fun e=>by rw[e]⟩
theorem Vp.I (h:c.I x y=true):n x=n y↔x=y:=by
 unfold Gd.I at h;rw[YaP,Yaa,decide_eq_true_eq] at h;rcases h with h|⟨a,b⟩
 ·rw[h];exact ⟨fun _=>rfl,fun _=>rfl⟩
 ·rw[V.i x a,V.i y b]
end
section
variable (c:Gd)
noncomputable def Gd.pl:W->Bool
 | .non=>true
 | .bl _=>true
 | .int i=>c.i i
 | .str x=>c.s x
 | .ty _=>true
 | .cls _=>true
 | _=>false
noncomputable def Gd.out (o:Option W):Option W:=match o with
 | some w=>bif c.pl w then some w else none
 | none=>none
def Gd.g2 (op:Mem->W->W->Option W)(h:Mem)(a b:W):Option W:=bif c.pl a && c.pl b then c.out (op h a b) else none
def Gd.g1 (op:Mem->W->Option W)(h:Mem)(a:W):Option W:=bif c.pl a then c.out (op h a) else none
def Gd.gb (op:Mem->List W->Option W)(h:Mem)(ws:List W):Option W:=bif ws.all c.pl then c.out (op h ws) else none
noncomputable def Gd.f:W->W->Bool
 | .str x,.str y=>c.S x y
 | .int i,.int j=>c.I i j
 | .bl _,.int j=>c.i j
 | .int i,.bl _=>c.i i
 | _,_=>true
end
section
variable {v:Str->Str} {n:Int->Int} {c:Gd} (V:Vp v n c)
include V
theorem Vp.pl (h:c.pl w=true):vW v n w=w:=by
 cases w<;>simp only[Gd.pl] at h<;>simp only[vW]
 ·rw[V.i _ h]
 ·rw[V.s _ h]
 all_goals cases h
theorem Vp.pls:∀ {ws:List W},ws.all c.pl=true->vWs v n ws=ws
 | [],_=>by unfold vWs;rfl
 | w::ws,h=>by
  rw[Ybf,Yaa] at h;unfold vWs;rw[V.pl h.1,Vp.pls h.2]
theorem Vp.out (e:c.out o=some w):o=some w/\vW v n w=w:=by
 unfold Gd.out at e;split at e
 ·rename_i u;cases q:c.pl u with
  | true=>rw[q] at e;cases e;exact ⟨rfl,V.pl q⟩
  | false=>rw[q] at e;cases e
 ·cases e
theorem Vp.g2 (hi:∀ h h' a b,c.pl a=true->c.pl b=true->op h a b=op h' a b)(e:c.g2 op h a b=some w):op h' (vW v n a) (vW v n b)=some (vW v n w):=by
 unfold Gd.g2 at e;cases q:c.pl a && c.pl b with
 | false=>rw[q] at e;cases e
 | true=>
  rw[q] at e;obtain ⟨z,I⟩:=V.out e;rw[Yaa] at q;rw[V.pl q.1,V.pl q.2,I,<-z];exact hi _ _ _ _ q.1 q.2
theorem Vp.g1 (hi:∀ h h' a,c.pl a=true->op h a=op h' a)(e:c.g1 op h a=some w):op h' (vW v n a)=some (vW v n w):=by
 unfold Gd.g1 at e;cases q:c.pl a with
 | false=>rw[q] at e;cases e
 | true=>
  rw[q] at e;obtain ⟨z,I⟩:=V.out e;rw[V.pl q,I,<-z];exact hi _ _ _ q
theorem Vp.gb (hi:∀ h h' ws,ws.all c.pl=true->op h ws=op h' ws)(e:c.gb op h ws=some w):op h' (vWs v n ws)=some (vW v n w):=by
 unfold Gd.gb at e;cases q:ws.all c.pl with
 | false=>rw[q] at e;cases e
 | true=>
  rw[q] at e;obtain ⟨z,I⟩:=V.out e;rw[V.pls q,I,<-z];exact hi _ _ _ q
theorem Vp.f (fa:Zaq a=true)(z:Zaq b=true)(h:c.f a b=true):Zdd (vW v n a) (vW v n b)=Zdd a b:=by
 cases a<;>first|cases fa|skip
 all_goals cases b<;>first|cases z|skip
 all_goals simp only[vW,Zdd]
 all_goals simp only[Gd.f] at h
 ·rename_i x j;rw[V.i _ h]
 ·rename_i i x;rw[V.i _ h]
 ·rename_i i j;rw[YbZ,decide_eq_true_eq,decide_eq_true_eq];exact V.I h
 ·rename_i x y;rw[YbZ,decide_eq_true_eq,decide_eq_true_eq];exact V.S h
end
section
variable {v:Str->Str} {n:Int->Int} {c:Gd}
def ZqH (k:Str)(fs:List Str)(ws:List W):(∃ l,vW v n (.ti k fs ws)=.tl l/\∀ m,Za7 m l=true)\/∃ l,vW v n (.ti k fs ws)=.ti k fs l:=by
 simp only[vW];cases eqN k "$" with
 | true=>
  refine .inl ⟨_,rfl,fun m=>?_⟩
  induction (v scr).cps.toList with
  | nil=>simp only[YcZ,Za7]
  | cons x l z=>simp only[Yap,Za7,ltW,z,Ydz]
 | false=>exact .inr ⟨_,rfl⟩
def Zdo (a:W):Zaq (vW v n a)=Zaq a:=by
 cases a with
 | ti k fs ws=>rcases ZqH (v:=v) (n:=n) k fs ws with ⟨l,e,_⟩ | ⟨l,e⟩<;>rw[e]<;>rfl
 | _=>simp only[vW,Zaq]
def Ztl (a:W):ZcY (vW v n a)=ZcY a:=by
 cases a with
 | ti k fs ws=>rcases ZqH (v:=v) (n:=n) k fs ws with ⟨l,e,_⟩ | ⟨l,e⟩<;>rw[e]<;>rfl
 | _=>simp only[vW]<;>rfl
def Zke (a:W):ZcO (vW v n a)=(ZcO a).map (vK v n):=by
 cases a with
 | ti k fs ws=>rcases ZqH (v:=v) (n:=n) k fs ws with ⟨l,e,_⟩ | ⟨l,e⟩<;>rw[e]<;>rfl
 | _=>simp only[vW,ZcO]<;>rfl
theorem Zpk (z:∀ a b r,f1 a b=some r->f0 (vW v n a) (vW v n b)=some r):∀ xs ys r,Zel f1 xs ys=some r->Zel f0 (vWs v n xs) (vWs v n ys)=some r
 | [],ys,r,e=>by unfold vWs;unfold Zel at e ⊢;exact e
 | x::xs,[],r,e=>by unfold vWs;unfold Zel at e ⊢;exact e
 | x::xs,y::ys,r,e=>by
  unfold vWs;unfold Zel at e ⊢;cases p:f1 x y with
  | none=>rw[p] at e;cases e
  | some a=>cases q:Zel f1 xs ys with
   | none=>rw[p,q] at e;cases e
   | some b=>rw[p,q] at e;rw[z x y a p,Zpk z xs ys b q];exact e
end
noncomputable def Zqf (a:Int):List Int->List Int
 | []=>[a]
 | b::r=>bif decide (a<=b) then a::b::r else b::Zqf a r
def isI:List Int->List Int
 | []=>[]
 | a::r=>Zqf a (isI r)
def Gd.kp (c:Gd):Key->Bool
 | .inl i=>c.i i
 | .inr x=>c.s x
noncomputable def Zw8 (c:Gd)(xs ws:List W):Option (W×List W):=match xs,ws with
 | x::r,[.int i]=>bif c.i i && decide (i=0) then some (x,r) else none
 | _,_=>none
structure V8 (α:Type) where
 a0:α
 a1:α
 a2:α
 a3:α
 a4:α
 a5:α
 a6:α
 a7:α
section
variable {α β:Type}
noncomputable def nz (n:Nat)(x:β)(k:Nat->β):β:=Nat.rec (motive:=fun _=>β) x (fun m _=>k m) n
noncomputable def V8.g (v:V8 α)(i:Nat):α:=V8.rec (motive:=fun _=>α) (fun a b c d e f g h=>nz i a fun i=>nz i b fun i=>nz i c fun i=>nz i d fun i=>nz i e fun i=>nz i f fun i=>nz i g fun _=>h) v
noncomputable def V8.u (v:V8 α)(i:Nat)(x:α):V8 α:=V8.rec (motive:=fun _=>V8 α) (fun a b c d e f g h=>nz i ⟨x,b,c,d,e,f,g,h⟩ fun i=>nz i ⟨a,x,c,d,e,f,g,h⟩ fun i=>nz i ⟨a,b,x,d,e,f,g,h⟩ fun i=>nz i ⟨a,b,c,x,e,f,g,h⟩ fun i=>nz i ⟨a,b,c,d,x,f,g,h⟩ fun i=>nz i ⟨a,b,c,d,e,x,g,h⟩ fun i=>nz i ⟨a,b,c,d,e,f,x,h⟩ fun _=>⟨a,b,c,d,e,f,g,x⟩) v
noncomputable def V8.c (x:α):V8 α:=⟨x,x,x,x,x,x,x,x⟩
noncomputable def lg (l:List α):Nat->Option α:=YcO (motive:=fun _=>Nat->Option α) (fun _=>none) (fun a _ z k=>nz k (some a) z) l
noncomputable def lu (l:List α):Nat->α->List α:=YcO (motive:=fun _=>Nat->α->List α) (fun _ _=>[]) (fun a t z k x=>nz k (x::t) fun k=>a::z k x) l
end
noncomputable abbrev T8:=V8 (V8 (V8 O))
structure SY where
 n:Nat
 t:T8
noncomputable def SY.g (s:SY)(k:Nat):Option O:=SY.rec (motive:=fun _=>Option O) (fun n t=>bif Ya7 k n && Ya7 k 512 then some (((t.g (k / 64)).g (k / 8 % 8)).g (k % 8)) else none) s
noncomputable def tU (t:T8)(k:Nat)(o:O):T8:=t.u (k / 64) ((t.g (k / 64)).u (k / 8 % 8) (((t.g (k / 64)).g (k / 8 % 8)).u (k % 8) o))
noncomputable def SY.u (s:SY)(k:Nat)(o:O):SY:=SY.rec (motive:=fun _=>SY) (fun n t=>⟨n,tU t k o⟩) s
noncomputable def SY.p (s:SY)(o:O):SY:=SY.rec (motive:=fun _=>SY) (fun n t=>⟨n+1,tU t n o⟩) s
noncomputable def SY.e:SY:=⟨0,V8.c (V8.c (V8.c (.lst [])))⟩
inductive RY where
 | ok (w:W) (s:SY) | ex (w:W) (s:SY) | no
inductive LY where
 | ok (ws:List W) (s:SY) | ex (w:W) (s:SY) | no
inductive IY where
 | ok (q:Option Nat) (ws:List W) (s:SY) | ex (w:W) (s:SY) | no
inductive OY where
 | nx (ρ:Sg) (s:SY) | rt (w:W) (s:SY) | bk (ρ:Sg) (s:SY) | ct (ρ:Sg) (s:SY) | ex (w:W) (s:SY) | no
noncomputable abbrev Ey:=Sg->SY->RY
noncomputable abbrev Ay:=Sg->SY->LY
noncomputable abbrev Iy:=Sg->SY->IY
noncomputable abbrev My:=Sg->SY->OY
noncomputable abbrev Fy:=List W->SY->RY
noncomputable abbrev Rd:=Nat->Option O
noncomputable def RY.b (r:RY)(k:W->SY->RY):RY:=RY.rec (motive:=fun _=>RY) k .ex .no r
noncomputable def LY.b (r:LY)(k:List W->SY->RY):RY:=LY.rec (motive:=fun _=>RY) k .ex .no r
noncomputable def RY.o (r:RY)(k:W->SY->OY):OY:=RY.rec (motive:=fun _=>OY) k .ex .no r
noncomputable def ofY (o:Option W)(s:SY):RY:=YaS (motive:=fun _=>RY) .no (fun w=>.ok w s) o
def Zq3 (i:Nat):Ey:=fun ρ s=>YaS (motive:=fun _=>RY) .no (fun o=>ofY o s) (lg ρ i)
noncomputable def yC (w:W):Ey:=fun _ s=>.ok w s
noncomputable def yE:Ey:=fun _ _=>.no
noncomputable def yA:Ay:=fun _ _=>.no
noncomputable def yI:Iy:=fun _ _=>.no
noncomputable def yM:My:=fun _ _=>.no
noncomputable def ZxA:Ay:=fun _ s=>.ok [] s
noncomputable def ZhU (f:Ey)(g:Ay):Ay:=fun ρ s=>RY.rec (motive:=fun _=>LY) (fun w s1=>LY.rec (motive:=fun _=>LY) (fun ws s2=>.ok (w::ws) s2) .ex .no (g ρ s1)) .ex .no (f ρ s)
def Zm7 (op:Rd->W->W->Option W)(f g:Ey):Ey:=fun ρ s=>(f ρ s).b fun a s1=>(g ρ s1).b fun b s2=>ofY (op s2.g a b) s2
def yUn (op:Rd->W->Option W)(f:Ey):Ey:=fun ρ s=>(f ρ s).b fun a s1=>ofY (op s1.g a) s1
def yCb (op:Rd->List W->Option W)(f:Ay):Ey:=fun ρ s=>(f ρ s).b fun ws s1=>ofY (op s1.g ws) s1
noncomputable def wB {β:Type}(w:W)(d:β)(k:Bool->β):β:=match w with
 | .bl b=>k b
 | _=>d
noncomputable def ZuB (f g:Ey):Ey:=fun ρ s=>(f ρ s).b fun w s1=>wB w .no fun b=>bif b then g ρ s1 else .ok (.bl false) s1
noncomputable def yOr (f g:Ey):Ey:=fun ρ s=>(f ρ s).b fun w s1=>wB w .no fun b=>bif b then .ok (.bl true) s1 else g ρ s1
noncomputable def ZuJ (f:Ey):Ey:=fun ρ s=>(f ρ s).b fun w s1=>wB w .no fun b=>.ok (.bl (!b)) s1
noncomputable def yIf (c f g:Ey):Ey:=fun ρ s=>(c ρ s).b fun w s1=>wB w .no fun b=>bif b then f ρ s1 else g ρ s1
noncomputable def Zh2 (p q:Rd->W->W->Option W)(f g k:Ey):Ey:=fun ρ s=>(f ρ s).b fun a s1=>(g ρ s1).b fun b s2=>YaS (motive:=fun _=>RY) .no (fun w=>wB w .no fun t=>bif t then ((k ρ s2).b fun d z=>YaS (motive:=fun _=>RY) .no (fun w=>wB w .no fun t=>.ok (.bl t) z) (q z.g b d)) else .ok (.bl false) s2) (p s2.g a b)
noncomputable def Zkr (ws:List W):Bool:=decide (ws.length<=Yai)
def ZuQ (f:Ay):Ey:=fun ρ s=>(f ρ s).b fun ws s1=>bif Zkr ws then .ok (.tup ws) s1 else .no
def ZxZ (f:Ay):Ey:=fun ρ s=>(f ρ s).b fun ws s1=>bif Zkr ws then .ok (.tl ws) s1 else .no
noncomputable def Zo0 (o:O)(s:SY):RY:=bif Ya7 s.n 512 then .ok (.ref s.n) (s.p o) else .no
def ZqF (f:Ay):Ey:=fun ρ s=>(f ρ s).b fun ws s1=>bif Zkr ws then Zo0 (.lst ws) s1 else .no
def Ztm:Ey:=fun _ s=>Zo0 (.dic []) s
noncomputable def ZeD (F:Fy)(f:Ay):Ey:=fun ρ s=>(f ρ s).b F
noncomputable def Zmq (F:Fy)(f:Ay):Ey:=fun ρ s=>(f ρ s).b fun ws s1=>RY.rec (motive:=fun _=>RY) .ok (fun _ _=>.no) .no (F ws s1)
noncomputable def onR {β:Type}(w:W)(d:β)(k:Nat->β):β:=match w with
 | .ref n=>k n
 | _=>d
noncomputable def onL {β:Type}(o:Option O)(d:β)(k:List W->β):β:=match o with
 | some (.lst ws)=>k ws
 | _=>d
noncomputable def onD {β:Type}(o:Option O)(d:β)(k:List (Key×W)->β):β:=match o with
 | some (.dic ws)=>k ws
 | _=>d
noncomputable def onI {β:Type}(o:Option O)(d:β)(k:Str->List (Str×W)->β):β:=match o with
 | some (.ins c fs)=>k c fs
 | _=>d
def ZqW (s:SY)(w:W)(k:Nat->Str->List (Str×W)->RY):RY:=onR w .no fun a=>onI (s.g a) .no (k a)
def ZmA (m:Str)(z:Str->Option Fy)(f:Ey)(g:Ay):Ey:=fun ρ s=>(f ρ s).b fun w s1=>ZqW s1 w fun a c fs=>YaS (motive:=fun _=>RY) .no (fun F=>YaS (motive:=fun _=>RY) (ZeD (fun ws=>F (.ref a::ws)) g ρ s1) (fun _=>.no) (lkN m fs)) (z c)
def ZtF (c:Str)(F:Fy)(g:Ay):Ey:=fun ρ s=>(g ρ s).b fun ws s1=>bif Ya7 s1.n 512 then RY.rec (motive:=fun _=>RY) (fun w s2=>bif ZcY w then .ok (.ref s1.n) s2 else .no) (fun _ _=>.no) .no (F (.ref s1.n::ws) (s1.p (.ins c []))) else .no
section
variable (c:Gd) (rd:Rd)
noncomputable def itY (w:W):Option (List W):=match w with
 | .tl ws=>some ws
 | .ref n=>(match rd n with
  | some (.lst ws)=>some ws
  | _=>none)
 | _=>none
def ZhC (w:W):Option (List W):=match w with
 | .tup ws=>some ws
 | w=>itY rd w
noncomputable def diY (w:W):Option (List (Key×W)):=match w with
 | .td ks ws=>some (ks.zip ws)
 | .ref n=>(match rd n with
  | some (.dic kvs)=>some kvs
  | some (.fdic kvs)=>some kvs
  | _=>none)
 | _=>none
noncomputable def eqI (x y:Int):Bool:=match x,y with
 | .ofNat a,.ofNat b=>Ydu a b
 | .negSucc a,.negSucc b=>Ydu a b
 | _,_=>false
def kq (k l:Key):Option Bool:=match k,l with
 | .inl i,.inl j=>bif eqI i j then some true else bif c.i i && c.i j then some false else none
 | .inr x,.inr y=>bif eqN x y then some true else bif (c.s x && c.s y) || c.ne x y then some false else none
 | _,_=>some false
noncomputable def gkY (k:Key)(kvs:List (Key×W)):Option (Option W):=YcO (motive:=fun _=>Option (Option W)) (some none)
 (fun p _ z=>YaS (motive:=fun _=>Option (Option W)) none (fun b=>bif b then some (some p.2) else z) (kq c p.1 k)) kvs
def mkY (k:Key)(w:W)(kvs:List (Key×W)):Option (Bool×List (Key×W)):=YcO (motive:=fun _=>Option (Bool×List (Key×W))) (some (false,[]))
 (fun p _ z=>YaS (motive:=fun _=>Option (Bool×List (Key×W))) none (fun b=>YaS (motive:=fun _=>Option (Bool×List (Key×W))) none (fun q=>some (b || q.1,(bif b then (p.1,w) else p)::q.2)) z) (kq c p.1 k)) kvs
def pkY (k:Key)(w:W)(kvs:List (Key×W)):Option (List (Key×W)):=(mkY c k w kvs).map fun q=>bif q.1 then q.2 else q.2++[(k,w)]
def dkY (k:Key)(kvs:List (Key×W)):Option (List (Key×W)):=YcO (motive:=fun _=>Option (List (Key×W))) (some [])
 (fun p r z=>YaS (motive:=fun _=>Option (List (Key×W))) none (fun b=>bif b then z else YaS (motive:=fun _=>Option (List (Key×W))) none (fun l=>some (p::l)) z) (kq c p.1 k)) kvs
def dgY (a b:W):Option W:=YaS (motive:=fun _=>Option W) none (fun kvs=>YaS (motive:=fun _=>Option W) none (fun k=>YaS (motive:=fun _=>Option W) none id (gkY c k kvs)) (ZcO b)) (diY rd a)
def ZuS (x:Str)(w:W):Option W:=match w with
 | .ref k=>(match rd k with
  | some (.ins _ fs)=>lkN x fs
  | _=>none)
 | _=>none
def inY (z:Bool)(a b:W):Option W:=match b with
 | .str j=>none
 | b=>(match diY rd b with
  | some kvs=>(ZcO a).bind fun k=>(gkY c k kvs).map fun o=>.bl (z ^^ o.isSome)
  | none=>(ZhC rd b).bind fun xs=>if (Zaq a && xs.all Zaq && xs.all fun y=>c.f y a)=true then some (.bl (z ^^ xs.any fun y=>Zdd y a)) else none)
def ixY (a b:W):Option W:=match b with
 | .int i=>bif c.i i then (ZhC rd a).bind fun xs=>atI xs i else none
 | _=>none
def ZxN (ws:List W):Option W:=match ws with
 | [.ref n]=>(match rd n with
  | some (.dic kvs)=>c.out (some (.int kvs.length))
  | some (.lst ws)=>c.out (some (.int ws.length))
  | _=>none)
 | [.str z]=>c.gb Zkm [] [.str z]
 | [w]=>c.out ((ZhC rd w).map fun ws=>.int ws.length)
 | _=>none
def ZxL (ws:List W):Option W:=match ws with
 | [w]=>((itY rd w).bind Zc5).bind fun ns=>bif ns.all c.i && c.i ns.sum then some (.int ns.sum) else none
 | _=>none
def ZvO (ws:List W):Option W:=match ws with
 | [w]=>(match diY rd w with
  | some kvs=>ZaN kvs
  | none=>(itY rd w).bind Zc5).bind fun ns=>bif ns.all c.i && ((isI ns).map W.int).all c.pl then (if ns.length<64 then some (.tl ((isI ns).map W.int)) else none) else none
 | _=>none
def Zv7 (a b:W):Option W:=match itY rd a,itY rd b with
 | some xs,some ys=>if xs.length+ys.length<=Yai then some (.tl (xs++ys)) else none
 | _,_=>c.g2 ZfK [] a b
def slY (a:W)(lo hi:Option Int):Option W:=(itY rd a).map fun ws=>.tl (Zoe ws lo hi)
noncomputable def tyY (w:W):Option Ty:=match w with
 | .ref n=>(match rd n with
  | some (.lst _)=>some (.inl "list")
  | some (.dic _)=>some (.inl "dict")
  | some (.ins c _)=>some (.inr c)
  | _=>none)
 | .ti _ _ _=>none
 | w=>tyX [] w
def Zwh (z:Kit)(ws:List W):Option W:=match ws with
 | [w,.ty n]=>(tyY rd w).bind fun t=>(z.get t (.inl n)).map .bl
 | [w,.cls c]=>(tyY rd w).bind fun t=>(z.get t (.inr c)).map .bl
 | [w,.tup (c::cs)]=>(tyY rd w).bind fun t=>(Zie z t (c::cs)).map .bl
 | _=>none
noncomputable def Zqg (op:Bool->List Bool->Option W)(a:W)(ws:List W):Option W:=match ws with
 | [.bl k]=>((itY rd a).bind ZdA).bind fun bs=>c.out (op k bs)
 | _=>none
def sqY (w:W):Option (Bool×List W):=match w with
 | .tup ws=>some (false,ws)
 | w=>(itY rd w).map fun ws=>(true,ws)
def eqY (m:Nat):W->W->Option Bool:=Nat.rec (motive:=fun _=>W->W->Option Bool)
 (fun a b=>if (Zaq a && Zaq b && c.f a b)=true then some (Zdd a b) else none)
 (fun _ z a b=>if (Zaq a && Zaq b)=true then (if c.f a b=true then some (Zdd a b) else none) else match sqY rd a,sqY rd b with
  | some (true,xs),some (true,ys)=>if xs.length=ys.length then Zel z xs ys else some false
  | some (false,xs),some (false,ys)=>(Zel z xs ys).map (· && decide (xs.length=ys.length))
  | some (true,_),some (false,_)=>some false
  | some (false,_),some (true,_)=>some false
  | some _,none=>if Zaq b=true then some false else none
  | none,some _=>if Zaq a=true then some false else none
  | none,none=>none) m
end
section
variable (c:Gd)
def yLm (op:List W->List W->Option (W×List W))(f:Ey)(g:Ay):Ey:=fun ρ s=>(f ρ s).b fun a s1=>onR a .no fun n=>onL (s1.g n) .no fun _=>(g ρ s1).b fun ws s2=>onL (s2.g n) .no fun xs=>YaS (motive:=fun _=>RY) .no (fun p=>.ok p.1 (s2.u n (.lst p.2))) (op xs ws)
def Zwr (op:Rd->W->List W->Option W)(f:Ey)(g:Ay):Ey:=fun ρ s=>(f ρ s).b fun a s1=>match itY s1.g a with
 | some _=>(g ρ s1).b fun ws s2=>ofY (op s2.g a ws) s2
 | none=>.no
def ZwU (f g:Ey):Ey:=fun ρ s=>(f ρ s).b fun a s1=>onR a .no fun n=>onL (s1.g n) .no fun _=>(g ρ s1).b fun b s2=>onR b .no fun m=>onL (s2.g n) .no fun xs=>onL (s2.g m) .no fun ys=>if xs.length+ys.length<=Yai then .ok .non (s2.u n (.lst (xs++ys))) else .no
def Zp4 (f g:Ey):Ey:=fun ρ s=>(f ρ s).b fun a s1=>onR a .no fun n=>onD (s1.g n) .no fun _=>(g ρ s1).b fun b s2=>onD (s2.g n) .no fun kvs=>YaS (motive:=fun _=>RY) .no (fun k=>YaS (motive:=fun _=>RY) .no (fun o=>YaS (motive:=fun _=>RY) .no (fun w=>YaS (motive:=fun _=>RY) .no (fun l=>.ok w (s2.u n (.dic l))) (dkY c k kvs)) o) (gkY c k kvs)) (ZcO b)
def yXf (c0 nm:Str)(f:Ey):Ey:=fun ρ s=>(f ρ s).b fun a s1=>match a with
 | .exc k fs ws=>bif eqN k c0 then ofY (lkN nm (fs.zip ws)) s1 else .no
 | _=>.no
def Znm (f:Ey):Ey:=fun ρ s=>(f ρ s).b fun a s1=>match diY s1.g a with
 | some kvs=>Zo0 (.lst (Zax kvs)) s1
 | none=>.no
def Zpr (f:Ey):Ey:=fun ρ s=>(f ρ s).b fun a s1=>match itY s1.g a with
 | some ws=>Zo0 (.lst ws.reverse) s1
 | none=>.no
noncomputable def ZeY (gs:List (Ey×Ey)):Sg->SY->Option (List (W×W)×SY):=YcO (motive:=fun _=>Sg->SY->Option (List (W×W)×SY)) (fun _ s=>some ([],s))
 (fun p _ z ρ s=>RY.rec (motive:=fun _=>Option (List (W×W)×SY)) (fun k s1=>RY.rec (motive:=fun _=>Option (List (W×W)×SY)) (fun v s2=>(z ρ s2).map fun q=>((k,v)::q.1,q.2)) (fun _ _=>none) none (p.2 ρ s1)) (fun _ _=>none) none (p.1 ρ s)) gs
def Znx (gs:List (Ey×Ey)):Ey:=fun ρ s=>bif Ya7 s.n 512 then (match ZeY gs ρ (s.p (.dic [])) with
 | some (ps,s2)=>(match ZbU ps,s2.g s.n with
  | some kvs,some (.dic [])=>bif (kvs.all fun p=>c.kp p.1) && (decide (kvs.length<=15) && ndK (kvs.map (·.1))) then .ok (.ref s.n) (s2.u s.n (.dic kvs)) else .no
  | _,_=>.no)
 | none=>.no) else .no
noncomputable def yIl (f:Ey):Iy:=fun ρ s=>RY.rec (motive:=fun _=>IY) (fun w s1=>match w with
 | .tl ws=>.ok none ws s1
 | .ref n=>(match s1.g n with
  | some (.lst ws)=>.ok (some n) ws s1
  | _=>.no)
 | _=>.no) .ex .no (f ρ s)
noncomputable def yIt (f:Ey):Iy:=fun ρ s=>RY.rec (motive:=fun _=>IY) (fun w s1=>match w with
 | .tup ws=>.ok none ws s1
 | _=>.no) .ex .no (f ρ s)
def yIs (f:Ey):Iy:=fun ρ s=>RY.rec (motive:=fun _=>IY) (fun w s1=>match w with
 | .str x=>bif c.s x && (signs x).all c.pl then .ok none (signs x) s1 else .no
 | _=>.no) .ex .no (f ρ s)
def yIr (f:Ey):Iy:=fun ρ s=>RY.rec (motive:=fun _=>IY) (fun w s1=>match w with
 | .int j=>bif c.i j && ((ZiC 0 j.toNat).all c.pl && (decide (-(2 ^ 62)<=j) && decide (j<2 ^ 62))) then .ok none (ZiC 0 j.toNat) s1 else .no
 | _=>.no) .ex .no (f ρ s)
noncomputable def yPs (f:Ey):Sg->SY->RY:=fun ρ s=>(f ρ s).b fun w s1=>bif c.pl w then .ok w s1 else .no
def ySl (f:Ey)(l u:Option Ey):Ey:=fun ρ s=>(f ρ s).b fun a s1=>
 YaS (motive:=fun _=>RY) (YaS (motive:=fun _=>RY) (ofY (slY s1.g a none none) s1) (fun u=>(yPs c u ρ s1).b fun j s2=>match j with
  | .int j=>ofY (slY s2.g a none (some j)) s2
  | _=>.no) u) (fun l=>(yPs c l ρ s1).b fun i s2=>match i with
  | .int i=>YaS (motive:=fun _=>RY) (ofY (slY s2.g a (some i) none) s2) (fun u=>(yPs c u ρ s2).b fun j z=>match j with
   | .int j=>ofY (slY z.g a (some i) (some j)) z
   | _=>.no) u
  | _=>.no) l
def sW_ (a b:W):Bool:=match a with
 | .int i=>(match b with
  | .int j=>eqI i j
  | _=>false)
 | .str x=>(match b with
  | .str y=>eqN x y
  | _=>false)
 | .ref k=>(match b with
  | .ref l=>Ydu k l
  | _=>false)
 | _=>false
def sWs:List W->List W->Bool
 | [],[]=>true
 | a::r,b::s=>sW_ a b && sWs r s
 | _,_=>false
def Zor (rd:Rd)(k:Nat)(xs:List W):Bool:=match rd k with
 | some (.lst ws)=>sWs ws xs
 | _=>false
def ZhB (src:Option Nat)(z:List W)(rd:Rd):Bool:=match src with
 | none=>true
 | some k=>Zor rd k z
def Zqh (src:Option Nat)(I:List W)(G:Tg)(cc el:Ey)(J:Sg)(U:Nat)(l:List W):SY->Option SY:=YcO (motive:=fun _=>SY->Option SY)
 (fun s=>bif ZhB src I s.g then some s else none)
 (fun w _ Y s=>bif ZhB src I s.g then (match G w J with
  | none=>none
  | some ρ=>RY.rec (motive:=fun _=>Option SY) (fun b s1=>wB b none fun b=>bif b then RY.rec (motive:=fun _=>Option SY) (fun x s2=>match s2.g U with
    | some (.lst z)=>bif decide (z.length<Yai) then Y (s2.u U (.lst (z++[x]))) else none
    | _=>none) (fun _ _=>none) none (el ρ s1) else Y s1) (fun _ _=>none) none (cc ρ s)) else none) l
def Zna (fi:Iy)(own:Nat)(ix:List Nat)(G:Tg)(cc z:Ey):Ey:=fun ρ s=>IY.rec (motive:=fun _=>RY) (fun src ws s1=>bif Ya7 s1.n 512 then (match Zqh src ws G cc z (ρC own ix ρ) s1.n ws (s1.p (.lst [])) with
  | some s2=>.ok (.ref s1.n) s2
  | none=>.no) else .no) .ex .no (fi ρ s)
def Zmu (G:Tg)(cc U:Ey)(I:Sg)(s:SY)(l:List W):List W->Option (List W):=YcO (motive:=fun _=>List W->Option (List W)) (fun z=>some z)
 (fun w _ J z=>match G w I with
  | none=>none
  | some ρ=>RY.rec (motive:=fun _=>Option (List W)) (fun b _=>wB b none fun b=>bif b then RY.rec (motive:=fun _=>Option (List W)) (fun x _=>bif ltW s.n x then J (z++[x]) else none) (fun _ _=>none) none (U ρ (s.p (.lst z))) else J z) (fun _ _=>none) none (cc ρ (s.p (.lst z)))) l
def Zhl (fi:Iy)(own:Nat)(ix:List Nat)(G:Tg)(cc z:Ey):Ey:=fun ρ s=>IY.rec (motive:=fun _=>RY) (fun _ ws s1=>bif Ya7 s1.n 512 && decide (ws.length<Yai) then (match Zmu G cc z (ρC own ix ρ) s1 ws [] with
  | some out=>.ok (.tl out) s1
  | none=>.no) else .no) .ex .no (fi ρ s)
def ZlA (f:Ey)(own:Nat)(ix:List Nat)(G:Tg)(cc z:Ey):Ey:=fun ρ s=>(f ρ s).b fun w s1=>match w with
 | .ref n=>(match s1.g n with
  | some (.dic kvs)=>bif Ya7 s1.n 512 && decide ((Zax kvs).length<Yai) then (match Zmu G cc z (ρC own ix ρ) (s1.u n (.fdic kvs)) (Zax kvs) [] with
   | some out=>.ok (.tl out) s1
   | none=>.no) else .no
  | _=>.no)
 | _=>.no
noncomputable def Zq1:My:=fun ρ s=>.nx ρ s
noncomputable def Zwf (F G:My):My:=fun ρ s=>OY.rec (motive:=fun _=>OY) G .rt .bk .ct .ex .no (F ρ s)
noncomputable def ZxV (f:Ey):My:=fun ρ s=>(f ρ s).o fun w s1=>.rt w s1
noncomputable def Zsr (f:Ey):My:=fun ρ s=>(f ρ s).o fun _ s1=>.nx ρ s1
noncomputable def Zt6 (i:Nat)(f:Ey):My:=fun ρ s=>(f ρ s).o fun w s1=>.nx (lu ρ i (some w)) s1
def ZnK (nm:Str)(fo z:Ey):My:=fun ρ s=>(z ρ s).o fun v s1=>(fo ρ s1).o fun w s2=>onR w .no fun k=>onI (s2.g k) .no fun c fs=>bif decide (fs.length<1000) then .nx ρ (s2.u k (.ins c (Zjy nm v fs))) else .no
def Zpd (fo fi I:Ey):My:=fun ρ s=>(I ρ s).o fun v s1=>(fo ρ s1).o fun o s2=>(fi ρ s2).o fun i z=>onR o .no fun k=>onD (z.g k) .no fun kvs=>YaS (motive:=fun _=>OY) .no (fun q=>bif decide (kvs.length<Yai) then YaS (motive:=fun _=>OY) .no (fun l=>.nx ρ (z.u k (.dic l))) (pkY c q v kvs) else .no) (ZcO i)
noncomputable def Zvi (t:Ey)(F G:My):My:=fun ρ s=>(t ρ s).o fun w s1=>wB w .no fun b=>bif b then F ρ s1 else G ρ s1
def ZbO (src:Option Nat)(z:List W)(G:Tg)(B:My)(l:List W):Sg->SY->OY:=YcO (motive:=fun _=>Sg->SY->OY)
 (fun ρ s=>bif ZhB src z s.g then .nx ρ s else .no)
 (fun w _ J ρ s=>bif ZhB src z s.g then YaS (motive:=fun _=>OY) .no (fun I=>OY.rec (motive:=fun _=>OY) J .rt .nx J .ex .no (B I s)) (G w ρ) else .no) l
def Zvk (f:Iy)(G:Tg)(B:My):My:=fun ρ s=>IY.rec (motive:=fun _=>OY) (fun src ws s1=>ZbO src ws G B ws ρ s1) .ex .no (f ρ s)
noncomputable def Zka (n:Nat)(s:SY)(k:SY->OY):OY:=match s.g n with
 | some (.fdic kvs)=>k (s.u n (.dic kvs))
 | _=>.no
def Zpf (f:Ey)(G:Tg)(B:My):My:=fun ρ s=>(f ρ s).o fun w s1=>match w with
 | .ref n=>(match s1.g n with
  | some (.dic kvs)=>OY.rec (motive:=fun _=>OY) (fun z s2=>Zka n s2 fun I=>.nx z I) (fun w s2=>Zka n s2 fun I=>.rt w I) (fun _ _=>.no) (fun _ _=>.no) (fun _ _=>.no) .no (ZbO none [] G B (Zax kvs) ρ (s1.u n (.fdic kvs)))
  | _=>.no)
 | _=>.no
noncomputable def ZeC (t:Ey)(B:My)(n:Nat):My:=Nat.rec (motive:=fun _=>My) (fun _ _=>.no) (fun _ z ρ s=>(t ρ s).o fun w s1=>wB w .no fun b=>bif b then OY.rec (motive:=fun _=>OY) z .rt .nx z .ex .no (B ρ s1) else .nx ρ s1) n
def yRz (k:Str)(f:Ay):My:=fun ρ s=>LY.rec (motive:=fun _=>OY) (fun ws s1=>bif Zkr ws then .ex (.exc k [] []) s1 else .no) .ex .no (f ρ s)
noncomputable def Zvn (k x:Str)(f:Ay):My:=fun ρ s=>LY.rec (motive:=fun _=>OY) (fun ws s1=>match ws with
 | [w]=>.ex (.exc k [x] [w]) s1
 | _=>.no) .ex .no (f ρ s)
def Zxh (sub:Str->Bool)(i:Nat)(asg:List Nat)(A B:My):My:=fun ρ s=>OY.rec (motive:=fun _=>OY) .nx .rt .bk .ct (fun w s1=>match w with
 | .exc k fs ws=>bif sub k then OY.rec (motive:=fun _=>OY) (fun z s2=>.nx (lu z i none) s2) .rt (fun z s2=>.bk (lu z i none) s2) (fun z s2=>.ct (lu z i none) s2) (fun _ _=>.no) .no (B (lu (fgt asg ρ) i (some (.exc k fs ws))) s1) else .no
 | _=>.no) .no (A ρ s)
end
section
variable {α:Type}
def ZwV (l:List α):∀ k,lg l k=l[k]?:=by
 induction l with
 | nil=>intro k;rfl
 | cons a l z=>intro k;cases k with
  | zero=>rfl
  | succ k=>rw[Yda];exact z k
def ZsI (l:List α):∀ k x,lu l k x=l.set k x:=by
 induction l with
 | nil=>intro k x;rfl
 | cons a l z=>intro k x;cases k with
  | zero=>rfl
  | succ k=>rw[List.set_cons_succ,<-z];rfl
theorem lt8 {P:Nat->Prop}(U:P 0)(h1:P 1)(h2:P 2)(h3:P 3)(z:P 4)(I:P 5)(Y:P 6)(J:P 7):∀ {i:Nat},i<8->P i
 | 0,_=>U
 | 1,_=>h1
 | 2,_=>h2
 | 3,_=>h3
 | 4,_=>z
 | 5,_=>I
 | 6,_=>Y
 | 7,_=>J
 | n+8,h=>absurd h (Nat.not_lt.mpr (Nat.le_add_left 8 n))
def V8.gu (v:V8 α){i j:Nat}(hi:i<8)(z:j<8)(x:α):(v.u i x).g j=if j=i then x else v.g j:=by
 revert j
 refine lt8 (P:=fun i=>∀ {j:Nat},j<8->(v.u i x).g j=if j=i then x else v.g j) ?_ ?_ ?_ ?_ ?_ ?_ ?_ ?_ hi<;>intro j z<;>exact lt8 (P:=fun j=>(v.u _ x).g j=if j=_ then x else v.g j) rfl rfl rfl rfl rfl rfl rfl rfl z
end
noncomputable def tG (t:T8)(k:Nat):O:=((t.g (k / 64)).g (k / 8 % 8)).g (k % 8)
def d8 (h:k<512):k / 64<8/\k / 8 % 8<8/\k % 8<8:=by omega
def Zu0 (t:T8)(hi:i<512)(z:j<512)(x:O):tG (tU t i x) j=if j=i then x else tG t j:=by
 unfold tG tU;have a:=d8 hi;have b:=d8 z;rw[V8.gu t a.1 b.1];by_cases h1:j / 64=i / 64
 ·rw[if_pos h1,V8.gu _ a.2.1 b.2.1];by_cases h2:j / 8 % 8=i / 8 % 8
  ·rw[if_pos h2,V8.gu _ a.2.2 b.2.2];by_cases h3:j % 8=i % 8
   ·rw[if_pos h3,if_pos (by omega)]
   ·rw[if_neg h3,if_neg (fun e=>h3 (by rw[e])),h1,h2]
  ·rw[if_neg h2,if_neg (by intro e;subst e;exact h2 rfl),h1]
 ·rw[if_neg h1,if_neg (by intro e;subst e;exact h1 rfl)]
noncomputable def SY.abs (s:SY):Mem:=(YbM (min s.n 512)).map (tG s.t)
def blt_of:Ya7 a b=true↔a<b:=by rw[Nat.blt_eq]
def Zk1 (s:SY)(k:Nat):s.abs[k]?=s.g k:=by
 obtain ⟨n,t⟩:=s;show ((YbM (min n 512)).map (tG t))[k]?=bif Ya7 k n && Ya7 k 512 then some (tG t k) else none
 rw[YaU];cases q:Ya7 k n && Ya7 k 512 with
 | true=>
  rw[Yaa,blt_of,blt_of] at q;rw[List.getElem?_range (by omega)];rfl
 | false=>
  have:¬k<min n 512:=fun h=>by
   have:(Ya7 k n && Ya7 k 512)=true:=by rw[Yaa,blt_of,blt_of];omega
   rw[q] at this;cases this
  rw[YbL (by rw[Yby];omega)];rfl
def Zu7 {s:SY}{k:Nat}{o':O}(h:s.g k=some o')(o:O):(s.u k o).abs=s.abs.set k o:=by
 have U:k<s.abs.length:=by
  rw[<-Zk1] at h;exact (YaA.mp h).1
 refine List.ext_getElem? fun j=>?_
 rw[Zk1];obtain ⟨n,t⟩:=s;have I:(SY.abs ⟨n,t⟩).length=min n 512:=by unfold SY.abs;rw[YaE,Yby]
 rw[I] at U;show (bif Ya7 j n && Ya7 j 512 then some (tG (tU t k o) j) else none)=_;cases q:Ya7 j n && Ya7 j 512 with
 | true=>
  have J:=q;rw[Yaa,blt_of,blt_of] at J;rw[cond_true,Zu0 t (by omega) J.2];by_cases e:j=k
  ·subst e;rw[if_pos rfl,Ycr (by rw[I];omega)]
  ·rw[if_neg e,Yca (fun z=>e z.symm),Zk1];show _=bif Ya7 j n && Ya7 j 512 then some (tG t j) else none
   rw[q];rfl
 | false=>
  have:¬j<min n 512:=fun h=>by
   have:(Ya7 j n && Ya7 j 512)=true:=by rw[Yaa,blt_of,blt_of];omega
   rw[q] at this;cases this
  rw[cond_false,YbL (by rw[List.length_set,I];omega)]
def ZpM {s:SY}(h:Ya7 s.n 512=true):s.abs.length=s.n:=by
 unfold SY.abs;rw[YaE,Yby];have:=blt_of.mp h;omega
def Zvm {s:SY}(h:Ya7 s.n 512=true)(o:O):(s.p o).abs=s.abs++[o]:=by
 obtain ⟨n,t⟩:=s;have h:n<512:=blt_of.mp h;show (YbM (min (n+1) 512)).map (tG (tU t n o))=(YbM (min n 512)).map (tG t)++[o];rw[Yeu (by omega),Yeu (by omega),List.range_succ,Ycg];congr 1
 ·refine YcV fun j z=>?_
  have:=Ydn.mp z;rw[Zu0 t h (by omega),if_neg (by omega)]
 ·show [tG (tU t n o) n]=[o];rw[Zu0 t h h,if_pos rfl]
def ZvS:SY.e.abs=[]:=rfl
def ZjF {s s':SY}(h:Yev s.n s'.n=true):s.abs.length<=s'.abs.length:=by
 unfold SY.abs;rw[YaE,Yby,YaE,Yby];have:=Ya2 h;omega
def Zcw (h:onR w d k≠d):∃ n,w=.ref n:=by
 cases w<;>first|exact ⟨_,rfl⟩|exact absurd rfl h
def Zeo (h:onL o d k≠d):∃ ws,o=some (.lst ws):=by
 cases o with
 | none=>exact absurd rfl h
 | some o=>cases o<;>first | exact ⟨_,rfl⟩ | exact absurd rfl h
def ZjB (h:onD o d k≠d):∃ ws,o=some (.dic ws):=by
 cases o with
 | none=>exact absurd rfl h
 | some o=>cases o<;>first | exact ⟨_,rfl⟩ | exact absurd rfl h
def ZmY (h:onI o d k≠d):∃ c fs,o=some (.ins c fs):=by
 cases o with
 | none=>exact absurd rfl h
 | some o=>cases o<;>first | exact ⟨_,_,rfl⟩ | exact absurd rfl h
section
variable (v:Str->Str) (n:Int->Int)
def av (s:SY):Mem:=vH v n s.abs
noncomputable def vr:RY->Res
 | .ok w s=>.ok (vW v n w) (av v n s)
 | .ex w s=>.ex (vW v n w) (av v n s)
 | .no=>.no
def vl:LY->RsL
 | .ok ws s=>.ok (vWs v n ws) (av v n s)
 | .ex w s=>.ex (vW v n w) (av v n s)
 | .no=>.no
def vi:IY->RsI
 | .ok q ws s=>.ok q (vWs v n ws) (av v n s)
 | .ex w s=>.ex (vW v n w) (av v n s)
 | .no=>.no
noncomputable def vo:OY->Out
 | .nx ρ s=>.nx (vR v n ρ) (av v n s)
 | .rt w s=>.rt (vW v n w) (av v n s)
 | .bk ρ s=>.bk (vR v n ρ) (av v n s)
 | .ct ρ s=>.ct (vR v n ρ) (av v n s)
 | .ex w s=>.ex (vW v n w) (av v n s)
 | .no=>.no
def SE (f1:Ey)(f0:Ex):Prop:=∀ ρ s,f1 ρ s≠.no->f0 (vR v n ρ) (av v n s)=vr v n (f1 ρ s)
def SX (f1:Ay)(f0:Exs):Prop:=∀ ρ s,f1 ρ s≠.no->f0 (vR v n ρ) (av v n s)=vl v n (f1 ρ s)
def SI (f1:Iy)(f0:Ei):Prop:=∀ ρ s,f1 ρ s≠.no->f0 (vR v n ρ) (av v n s)=vi v n (f1 ρ s)
def SS (f1:My)(f0:Sm):Prop:=∀ ρ s,f1 ρ s≠.no->f0 (vR v n ρ) (av v n s)=vo v n (f1 ρ s)
def SF (f1:Fy)(f0:Fm):Prop:=∀ ws s,f1 ws s≠.no->f0 (vWs v n ws) (av v n s)=vr v n (f1 ws s)
def ST (G1 G0:Tg):Prop:=∀ w ρ z,G1 w ρ=some z->G0 (vW v n w) (vR v n ρ)=some (vR v n z)
def S2 (z:Rd->W->W->Option W)(I:Mem->W->W->Option W):Prop:=∀ s a b w,z (SY.g s) a b=some w->I (av v n s) (vW v n a) (vW v n b)=some (vW v n w)
def S1 (z:Rd->W->Option W)(I:Mem->W->Option W):Prop:=∀ s a w,z (SY.g s) a=some w->I (av v n s) (vW v n a)=some (vW v n w)
def SB (z:Rd->List W->Option W)(I:Mem->List W->Option W):Prop:=∀ s ws w,z (SY.g s) ws=some w->I (av v n s) (vWs v n ws)=some (vW v n w)
end
section
variable {v:Str->Str} {n:Int->Int} {f1 g1 k1:Ey} {f0 g0 k0:Ex} {a1:Ay} {a0:Exs} {F1:Fy} {F0:Fm}
def Zdh (s:SY)(k:Nat):(av v n s)[k]?=(s.g k).map (vO v n):=by unfold av vH;rw[YaU,Zk1]
def Zkp (h:s.g k=some o')(o:O):av v n (s.u k o)=(av v n s).set k (vO v n o):=by unfold av vH;rw[Zu7 h,Yew]
def Zez (h:Ya7 s.n 512=true):(av v n s).length=s.n:=by unfold av vH;rw[YaE,ZpM h]
def Zth (h:Ya7 s.n 512=true)(o:O):av v n (s.p o)=av v n s++[vO v n o]:=by unfold av vH;rw[Zvm h,Ycg];rfl
def ZyG:av v n SY.e=[]:=by unfold av vH;rw[ZvS];rfl
def Zaw (ws:List W):(vWs v n ws).length=ws.length:=by rw[ZbI,YaE]
def Zai:vWs v n []=[]:=by unfold vWs;rfl
def Zaf (w:W)(ws:List W):vWs v n (w::ws)=vW v n w::vWs v n ws:=by rw[vWs]
def ZbQ (a b:List W):vWs v n (a++b)=vWs v n a++vWs v n b:=by simp only[ZbI,Ycg]
def ZlC (e:Zo0 o s≠.no):(Res.ok (.ref (av v n s).length) (av v n s++[vO v n o]):Res)=vr v n (Zo0 o s):=by
 unfold Zo0 at e ⊢;cases q:Ya7 s.n 512 with
 | false=>rw[q] at e;exact absurd rfl e
 | true=>simp only[cond_true,vr,vW,Zez q,Zth q]
def ZvK (i:Nat):SE v n (Zq3 i) (Zf9 i):=fun ρ s e=>by
 unfold Zq3 at e ⊢;unfold Zf9 vR;rw[ZwV] at e ⊢;rw[YaU];cases q:ρ[i]? with
 | none=>rw[q] at e;exact absurd rfl e
 | some o=>cases o with
  | none=>rw[q] at e;exact absurd rfl e
  | some w=>rfl
def s_c (e:vW v n w=w0):SE v n (yC w) (xC w0):=fun ρ s _=>by subst e;rfl
def Zqo:SE v n yE f:=fun _ _ e=>absurd rfl e
def ZyL:SX v n yA f:=fun _ _ e=>absurd rfl e
def Zyr:SI v n yI f:=fun _ _ e=>absurd rfl e
def ZvB:SX v n ZxA Zfe:=fun ρ s _=>by show RsL.ok [] _=.ok (vWs v n []) _;rw[Zai]
def Zt8 (J:SE v n f1 f0)(U:SX v n a1 a0):SX v n (ZhU f1 a1) (Zbv f0 a0):=fun ρ s e=>by
 unfold ZhU at e ⊢;unfold Zbv;have q:=J ρ s;cases r:f1 ρ s with
 | no=>rw[r] at e;exact absurd rfl e
 | ex w s1=>rw[r] at q;rw[q (by simp)];rfl
 | ok w s1=>
  rw[r] at q e;rw[q (by simp)];have I:=U ρ s1;cases z:a1 ρ s1 with
  | no=>simp only[z] at e;exact absurd rfl e
  | ex w h2=>rw[z] at I;simp only[vr,I (by simp),z];rfl
  | ok ws h2=>rw[z] at I;simp only[vr,I (by simp),z];simp only[vl,vWs]
def bnd {k1:W->SY->RY}{k0:W->Mem->Res}(z:SE v n f1 f0)(I:∀ w s,k1 w s≠.no->k0 (vW v n w) (av v n s)=vr v n (k1 w s)){ρ:Sg}{s:SY}(e:(f1 ρ s).b k1≠.no):(f0 (vR v n ρ) (av v n s)).bind k0=vr v n ((f1 ρ s).b k1):=by
 have q:=z ρ s;cases r:f1 ρ s with
 | no=>rw[r] at e;exact absurd rfl e
 | ex w h1=>rw[r] at q;rw[q (by simp)];rfl
 | ok w h1=>rw[r] at q e;rw[q (by simp)];exact I w h1 e
def bns {k1:List W->SY->RY}{k0:List W->Mem->Res}(z:SX v n a1 a0)(I:∀ w s,k1 w s≠.no->k0 (vWs v n w) (av v n s)=vr v n (k1 w s)){ρ:Sg}{s:SY}(e:(a1 ρ s).b k1≠.no) :
  (match a0 (vR v n ρ) (av v n s) with | .ok ws h1=>k0 ws h1 | .ex w h1=>.ex w h1 | .no=>.no:Res)=vr v n ((a1 ρ s).b k1):=by
 have q:=z ρ s;cases r:a1 ρ s with
 | no=>rw[r] at e;exact absurd rfl e
 | ex w h1=>rw[r] at q;rw[q (by simp)];rfl
 | ok w h1=>rw[r] at q e;rw[q (by simp)];exact I w h1 e
def ofs (q:∀ w,o=some w->o0=some (vW v n w))(e:ofY o s≠.no):Res.of o0 (av v n s)=vr v n (ofY o s):=by
 cases o with
 | none=>exact absurd rfl e
 | some w=>rw[q w rfl];rfl
def ZhX {I:Rd->W->W->Option W}{z:Mem->W->W->Option W}(Y:S2 v n I z)(J:SE v n f1 f0)(U:SE v n g1 g0):SE v n (Zm7 I f1 g1) (ZbS z f0 g0):=fun ρ h e=>
 bnd J (fun a h1 e=>bnd U (fun b h2 e=>ofs (Y h2 a b) e) e) e
def ZxT {I:Rd->W->Option W}{z:Mem->W->Option W}(U:S1 v n I z)(J:SE v n f1 f0):SE v n (yUn I f1) (xUn z f0):=fun ρ h e=>
 bnd J (fun a h1 e=>ofs (U h1 a) e) e
def ZxG {I:Rd->List W->Option W}{z:Mem->List W->Option W}(U:SB v n I z)(J:SX v n a1 a0):SE v n (yCb I a1) (xCb z a0):=fun ρ h e=>
 bns (k0:=fun ws h1=>.of (z h1 ws) h1) J (fun ws h1 e=>ofs (U h1 ws) e) e
def Zr0 (z:SE v n f1 f0)(I:SE v n g1 g0):SE v n (ZuB f1 g1) (ZiN f0 g0):=fun ρ h e=>bnd z (fun w h1 e=>by
 cases w with
 | bl b=>cases b with
  | true=>exact I ρ h1 e
  | false=>rfl
 | _=>exact absurd rfl e) e
def ZxU (z:SE v n f1 f0)(I:SE v n g1 g0):SE v n (yOr f1 g1) (xOr f0 g0):=fun ρ h e=>bnd z (fun w h1 e=>by
 cases w with
 | bl b=>cases b with
  | true=>rfl
  | false=>exact I ρ h1 e
 | _=>exact absurd rfl e) e
def Zrt (z:SE v n f1 f0):SE v n (ZuJ f1) (Zjb f0):=fun ρ h e=>bnd z (fun w h1 e=>by
 cases w with
 | bl b=>rfl
 | _=>exact absurd rfl e) e
def ZyE (z:SE v n f1 f0)(I:SE v n g1 g0)(J:SE v n k1 k0):SE v n (yIf f1 g1 k1) (xIf f0 g0 k0):=fun ρ h e=>bnd z (fun w h1 e=>by
 cases w with
 | bl b=>cases b with
  | true=>exact I ρ h1 e
  | false=>exact J ρ h1 e
 | _=>exact absurd rfl e) e
def Zit {z I:Rd->W->W->Option W}{U J:Mem->W->W->Option W}(hp:S2 v n z U)(Y:S2 v n I J)(hf:SE v n f1 f0)(hg:SE v n g1 g0)(hk:SE v n k1 k0):SE v n (Zh2 z I f1 g1 k1) (Zbk U J f0 g0 k0):=fun ρ h e=>
 bnd hf (fun a h1 e=>bnd hg (fun b h2 e=>by
  cases r:z h2.g a b with
  | none=>simp only[r] at e;exact absurd rfl e
  | some w=>
   have:=hp h2 a b w r;simp only[r] at e ⊢;simp only[this];cases w with
   | bl t=>cases t with
    | false=>rfl
    | true=>
     simp only[vW] at e ⊢;exact bnd hk (fun d h3 e=>by
      cases r:I h3.g b d with
      | none=>simp only[r] at e;exact absurd rfl e
      | some w=>
       have:=Y h3 b d w r;simp only[r] at e ⊢;simp only[this];cases w with
       | bl t=>rfl
       | _=>exact absurd rfl e) e
   | _=>exact absurd rfl e) e) e
def Zfr (z:SF v n F1 F0)(I:SX v n a1 a0):SE v n (ZeD F1 a1) (ZaJ F0 a0):=fun ρ h e=>bns I z e
def Zon (h:r1≠.no->r0=vr v n r1)(e:(bif Zkr ws then r1 else .no)≠.no):(if (vWs v n ws).length<=Yai then r0 else .no)=vr v n (bif Zkr ws then r1 else .no):=by
 rw[Zaw];unfold Zkr at e ⊢;by_cases q:ws.length<=Yai
 ·rw[decide_eq_true q] at e ⊢;rw[if_pos q];exact h e
 ·rw[decide_eq_false q] at e;exact absurd rfl e
def Zw5 (z:SX v n a1 a0):SE v n (ZuQ a1) (Zq7 a0):=fun ρ h e=>
 bns (k0:=fun ws h1=>if ws.length<=Yai then .ok (.tup ws) h1 else .no) z (fun ws h1 e=>Zon (fun _=>by simp only[vr,vW]) e) e
def Zve (z:SX v n a1 a0):SE v n (ZxZ a1) (Zqq a0):=fun ρ h e=>
 bns (k0:=fun ws h1=>if ws.length<=Yai then .ok (.tl ws) h1 else .no) z (fun ws h1 e=>Zon (fun _=>by simp only[vr,vW]) e) e
def Zuo (z:SX v n a1 a0):SE v n (ZqF a1) (ZjO a0):=fun ρ h e=>
 bns (k0:=fun ws h1=>if ws.length<=Yai then .ok (.ref h1.length) (h1++[O.lst ws]) else .no) z (fun ws h1 e=>Zon (fun e=>ZlC (o:=.lst ws) e) e) e
def Zs6:SE v n Ztm Zpc:=fun ρ h e=>ZlC (o:=.dic []) e
def ZnX (z:SF v n F1 F0)(I:SX v n a1 a0):SE v n (Zmq F1 a1) (Zen F0 a0):=fun ρ h e=>
 bns (k0:=fun ws h1=>match F0 ws h1 with | .ok w h2=>.ok w h2 | _=>.no) I (fun ws h1 e=>by
  have q:=z ws h1;cases r:F1 ws h1 with
  | ok w h2=>rw[r] at q;simp only[q (by simp),vr]
  | _=>simp only[r] at e;exact absurd rfl e) e
theorem ZlJ (x:Str):∀ fs:List (Str×W),(vF v n fs).lookup x=(fs.lookup x).map (vW v n)
 | []=>rfl
 | (y,w)::fs=>by
  show Yba x ((y,vW v n w)::vF v n fs)=_;rw[YaG,YaG];cases x == y with
  | true=>rfl
  | false=>exact ZlJ x fs
theorem ZmR (x:Str)(w:W):∀ fs:List (Str×W),vF v n (Zjy x w fs)=Zjy x (vW v n w) (vF v n fs)
 | []=>rfl
 | (y,z)::fs=>by
  show vF v n (bif y == x then (y,w)::fs else (y,z)::Zjy x w fs)=(bif y == x then (y,vW v n w)::vF v n fs else (y,vW v n z)::Zjy x (vW v n w) (vF v n fs));cases y == x with
  | true=>rfl
  | false=>show (y,vW v n z)::vF v n (Zjy x w fs)=_;rw[ZmR x w fs];rfl
def SG (v:Str->Str)(n:Int->Int)(z:Str->Option Fy)(t0:Tab):Prop:=∀ c F1,z c=some F1->∃ F0,t0 c=some F0/\SF v n F1 F0
def ZpK {I:Str->Option Fy}{t0:Tab}(m:Str)(U:SG v n I t0)(J:SE v n f1 f0)(Y:SX v n a1 a0):SE v n (ZmA m I f1 a1) (ZcQ m t0 f0 a0):=fun ρ h e=>bnd J (fun w h1 e=>by
 unfold ZqW at e ⊢;obtain ⟨k,rfl⟩:=Zcw e;obtain ⟨c,fs,z⟩:=ZmY e;simp only[onR,z,onI,vW,Zdh,Yan,vO,ZlJ,Zfd] at e ⊢;cases q:I c with
 | none=>rw[q] at e;exact absurd rfl e
 | some F1=>
  obtain ⟨F0,e0,s⟩:=U c F1 q;rw[q] at e;cases l:fs.lookup m with
  | some _=>simp only[l] at e;exact absurd rfl e
  | none=>
   simp only[l] at e ⊢;simp only[e0,Yex];exact Zfr (F1:=fun ws=>F1 (.ref k::ws)) (F0:=fun ws=>F0 (.ref k::ws)) (fun ws h e=>by have:=s (.ref k::ws) h e;simpa only[vWs,vW] using this) Y ρ h1 e) e
def Ztv (c:Str)(z:SF v n F1 F0)(I:SX v n a1 a0):SE v n (ZtF c F1 a1) (ZfB c F0 a0):=fun ρ h e=>
 bns (k0:=fun ws h1=>match F0 (.ref h1.length::ws) (h1++[O.ins c []]) with | .ok .non h2=>.ok (.ref h1.length) h2 | _=>.no) I (fun ws h1 e=>by
  cases l:Ya7 h1.n 512 with
  | false=>rw[l] at e;exact absurd rfl e
  | true=>
   rw[l] at e;simp only[cond_true] at e ⊢;have q:=z (.ref h1.n::ws) (h1.p (O.ins c []));cases r:F1 (.ref h1.n::ws) (h1.p (O.ins c [])) with
   | ok w h2=>
    rw[r] at q;have q:=q (by simp);simp only[vWs,vW,Zth l] at q;have y:vO v n (O.ins c [])=O.ins c []:=rfl;rw[y] at q;simp only[r] at e ⊢;simp only[Zez l,q,vr];cases w with
    | non=>simp only[vW,ZcY,cond_true]
    | _=>exact absurd rfl e
   | _=>simp only[r] at e;exact absurd rfl e) e
end
section
variable {v:Str->Str} {n:Int->Int} {c:Gd} {s:SY}
def ZaE (e:itY s.g a=some ws):items (av v n s) (vW v n a)=some (vWs v n ws):=by
 unfold itY at e;cases a<;>simp only[vW]<;>first|cases e|skip
 ·rename_i k;simp only[items,Zdh];cases q:s.g k with
  | none=>simp only[q] at e;cases e
  | some o=>cases o<;>simp only[q] at e<;>cases e;rfl
 ·rfl
def Zkg (e:ZhC s.g a=some ws):ZgC (av v n s) (vW v n a)=some (vWs v n ws):=by
 unfold ZhC at e;cases a with
 | tup xs=>cases e;simp only[vW,ZgC]
 | ref k=>exact ZaE (a:=.ref k) e
 | tl l=>exact ZaE (a:=.tl l) e
 | _=>cases e
theorem ZrA:∀ (ks:List Key) (ws:List W),(ks.map (vK v n)).zip (vWs v n ws)=vD v n (ks.zip ws)
 | [],ws=>by cases ws<;>simp[vD]
 | k::ks,[]=>by simp[vD,vWs]
 | k::ks,w::ws=>by simp only[vWs,Yap,Yct,ZrA ks ws];rfl
def Zjc (a:W):Zbu (av v n s) (vW v n a)=(diY s.g a).map (vD v n):=by
 unfold diY;cases a with
 | td ks ws=>simp only[vW,Zbu,ZrA];rfl
 | ref k=>
  simp only[vW,Zbu,Zdh];cases s.g k with
  | none=>rfl
  | some o=>cases o<;>rfl
 | ti k fs ws=>rcases ZqH (v:=v) (n:=n) k fs ws with ⟨l,e,_⟩ | ⟨l,e⟩<;>rw[e]<;>rfl
 | _=>simp only[vW,Zbu];rfl
def Zg4 (x y:Int):eqI x y=decide (x=y):=by
 unfold eqI;have k:∀ a b:Nat,Ydu a b=decide (a=b):=fun a b=>by
  by_cases h:a=b
  ·rw[decide_eq_true h];exact Yfb.mpr h
  ·rw[decide_eq_false h];cases q:Ydu a b with
   | true=>exact absurd (Yfb.mp q) h
   | false=>rfl
 cases x<;>cases y
 ·rename_i a b;show Ydu a b=_;rw[k];exact decide_eq_decide.mpr ⟨fun q=>by rw[q],Int.ofNat.inj⟩
 ·rfl
 ·rfl
 ·rename_i a b;show Ydu a b=_;rw[k];exact decide_eq_decide.mpr ⟨fun q=>by rw[q],Int.negSucc.inj⟩
noncomputable def Zo1 (V:Vp v n c)(e:kq c k l=some b):b=decide (k=l)/\(vK v n k=vK v n l↔k=l):=by
 unfold kq at e;cases k with
 | inl i=>cases l with
  | inl j=>
   simp only[Zg4] at e;by_cases h:i=j
   ·subst h;simp only[decide_true,cond_true] at e;cases e;exact ⟨by simp,by simp⟩
   ·simp only[decide_eq_false h,cond_false] at e;cases q:c.i i && c.i j with
    | false=>rw[q] at e;cases e
    | true=>
     rw[q] at e;cases e;rw[Yaa] at q;exact ⟨(decide_eq_false fun z=>h (Ye4.inj z)).symm,by simp only[vK,V.i i q.1,V.i j q.2]⟩
  | inr y=>cases e;exact ⟨by simp,by simp[vK]⟩
 | inr x=>cases l with
  | inl j=>cases e;exact ⟨by simp,by simp[vK]⟩
  | inr y=>
   simp only[Za0] at e;by_cases h:x=y
   ·subst h;simp only[decide_true,cond_true] at e;cases e;exact ⟨by simp,by simp⟩
   ·simp only[decide_eq_false h,cond_false] at e;cases q:(c.s x && c.s y) || c.ne x y with
    | false=>rw[q] at e;cases e
    | true=>
     rw[q] at e;cases e;refine ⟨(decide_eq_false fun z=>h (Ye5.inj z)).symm,?_⟩;rw[YaP,Yaa] at q;simp only[vK,Ye5.injEq];rcases q with ⟨a,b⟩|q
     ·rw[V.s x a,V.s y b]
     ·exact ⟨fun e=>absurd e (V.ne x y q),fun e=>by rw[e]⟩
theorem Zla (V:Vp v n c):∀ {kvs:List (Key×W)} {o:Option W},gkY c k kvs=some o->ZhJ (vD v n kvs) (vK v n k)=o.map (vW v n)/\ZhJ kvs k=o
 | [],o,e=>by cases e;exact ⟨rfl,rfl⟩
 | (l,w)::kvs,o,e=>by
  have e:(YaS (motive:=fun _=>Option (Option W)) none (fun b=>bif b then some (some w) else gkY c k kvs) (kq c l k))=some o:=e;cases q:kq c l k with
  | none=>rw[q] at e;cases e
  | some b=>
   rw[q] at e;obtain ⟨rfl,h⟩:=Zo1 V q;unfold ZhJ vD;rw[Yap,Ybz,Ybz];have d:decide (vK v n l=vK v n k)=decide (l=k):=by rw[YbZ,decide_eq_true_eq,decide_eq_true_eq];exact h
   simp only[d];cases z:decide (l=k) with
   | true=>rw[z] at e;cases e;exact ⟨rfl,rfl⟩
   | false=>rw[z] at e;exact Zla V e
theorem Zmk (V:Vp v n c):∀ {kvs l:List (Key×W)} {f:Bool},mkY c k w kvs=some (f,l)->((vD v n kvs).any fun kv=>decide (kv.1=vK v n k))=f/\vD v n l=(vD v n kvs).map (fun kv=>if kv.1=vK v n k then (kv.1,vW v n w) else kv)/\(f=false->l=kvs)
 | [],l,f,e=>by cases e;exact ⟨rfl,rfl,fun _=>rfl⟩
 | (j,x)::kvs,l,f,e=>by
  have e:(YaS (motive:=fun _=>Option (Bool×List (Key×W))) none (fun b=>YaS (motive:=fun _=>Option (Bool×List (Key×W))) none (fun q=>some (b || q.1,(bif b then (j,w) else (j,x))::q.2)) (mkY c k w kvs)) (kq c j k))=some (f,l):=e;cases q:kq c j k with
  | none=>rw[q] at e;cases e
  | some b=>
   rw[q] at e;obtain ⟨rfl,h⟩:=Zo1 V q;cases r:mkY c k w kvs with
   | none=>rw[r] at e;cases e
   | some p=>
    obtain ⟨f1,U⟩:=p;rw[r] at e;obtain ⟨i1,J,Y⟩:=Zmk V r;cases e;show (decide (vK v n j=vK v n k) || (vD v n kvs).any _)=(decide (j=k) || f1)/\_::vD v n U=(if vK v n j=vK v n k then (vK v n j,vW v n w) else (vK v n j,vW v n x))::(vD v n kvs).map _/\_;rw[i1,J];by_cases z:j=k
    ·subst z;refine ⟨by simp,?_,fun q=>by simp at q⟩;rw[if_pos rfl];simp
    ·have I:¬vK v n j=vK v n k:=fun q=>z (h.mp q)
     refine ⟨by simp[z,I],?_,fun q=>?_⟩
     ·rw[if_neg I];simp[z]
     ·simp only[z,decide_false,Bool.false_or] at q;rw[Y q];simp[z]
def ZuZ (V:Vp v n c)(e:pkY c k w kvs=some l):vD v n l=Zqr (vD v n kvs) (vK v n k) (vW v n w):=by
 unfold pkY at e;cases r:mkY c k w kvs with
 | none=>rw[r] at e;cases e
 | some p=>
  obtain ⟨f,J⟩:=p;rw[r] at e;obtain ⟨i1,z,I⟩:=Zmk V r;cases e;unfold Zqr;rw[i1];cases f with
  | true=>rw[if_pos rfl];exact z
  | false=>
   rw[if_neg (by decide)];simp only[cond_false];rw[I rfl];unfold vD;rw[Ycg];rfl
theorem Zg5 (V:Vp v n c):∀ {kvs l:List (Key×W)},dkY c k kvs=some l->vD v n l=ZfR (vD v n kvs) (vK v n k)
 | [],l,e=>by cases e;rfl
 | (j,x)::kvs,l,e=>by
  have e:(YaS (motive:=fun _=>Option (List (Key×W))) none (fun b=>bif b then dkY c k kvs else YaS (motive:=fun _=>Option (List (Key×W))) none (fun l=>some ((j,x)::l)) (dkY c k kvs)) (kq c j k))=some l:=e;cases q:kq c j k with
  | none=>rw[q] at e;cases e
  | some b=>
   rw[q] at e;obtain ⟨rfl,h⟩:=Zo1 V q;cases r:dkY c k kvs with
   | none=>rw[r] at e;revert e;cases decide (j=k)<;>intro e<;>cases e
   | some U=>
    rw[r] at e;have I:=Zg5 V r;show _=ZfR ((vK v n j,vW v n x)::vD v n kvs) (vK v n k);unfold ZfR at I ⊢;rw[Yb4];by_cases z:j=k
    ·subst z;simp only[decide_true,cond_true] at e;cases e;rw[if_neg (by simp)];exact I
    ·have J:¬vK v n j=vK v n k:=fun q=>z (h.mp q)
     simp only[decide_eq_false z,cond_false] at e;cases e;rw[if_pos (by simp[J]),<-I];rfl
def ZyW (V:Vp v n c):S2 v n (dgY c) Zh8:=fun s a b w e=>by
 unfold dgY at e;unfold Zh8;rw[Zjc,Zke];cases d:diY s.g a with
 | none=>rw[d] at e;cases e
 | some kvs=>
  rw[d] at e;cases k:ZcO b with
  | none=>rw[k] at e;cases e
  | some z=>
   rw[k] at e;simp only at e;cases q:gkY c z kvs with
   | none=>rw[q] at e;cases e
   | some o=>
    rw[q] at e;have e:o=some w:=e;subst e;simp only[Yan];exact (Zla V q).1
def ZwP (x:Str):S1 v n (fun rd=>ZuS rd x) (Zqk x):=fun s a w e=>by
 simp only[ZuS] at e;unfold Zqk;cases a<;>first|cases e|skip
 rename_i k;simp only[vW,Zdh];cases q:s.g k with
 | none=>simp only[q] at e;cases e
 | some o=>cases o with
  | ins c fs=>simp only[q,Zfd] at e;simp only[Yan,vO,ZlJ,e]
  | _=>simp only[q] at e;cases e
def ZxS (I:∀ z,a≠.str z):∀ z,vW v n a≠.str z:=fun z e=>by
 cases a with
 | ti k fs ws=>rcases ZqH (v:=v) (n:=n) k fs ws with ⟨l,q,_⟩ | ⟨l,q⟩<;>rw[q] at e<;>cases e
 | str x=>exact absurd rfl (I _)
 | _=>simp only[vW] at e;cases e
def Zqx (I:∀ z,b≠.str z):inM neg h a b=(match Zbu h b with
  | some kvs=>(ZcO a).map fun k=>W.bl (neg ^^ (ZhJ kvs k).isSome)
  | none=>(ZgC h b).bind fun xs=>if (Zaq a && xs.all Zaq)=true then some (W.bl (neg ^^ xs.any fun y=>Zdd y a)) else none):=by
 cases b<;>first|rfl|exact absurd rfl (I _)
theorem Zuw (V:Vp v n c)(fa:Zaq a=true):∀ xs:List W,(∀ y∈xs,Zaq y=true)->(∀ y∈xs,c.f y a=true)->((vWs v n xs).any fun y=>Zdd y (vW v n a))=xs.any fun y=>Zdd y a
 | [],_,_=>by rw[Zai];rfl
 | x::xs,h2,h1=>by rw[Zaf,YbJ,YbJ,Zuw V fa xs (fun y m=>h2 y (Yau _ m)) (fun y m=>h1 y (Yau _ m))];congr 1;exact V.f (h2 x YaD) fa (h1 x YaD)
def ZxC (V:Vp v n c)(I:Bool):S2 v n (fun rd=>inY c rd I) (inM I):=fun s a b w e=>by
 have U:∀ z,b≠.str z:=fun z q=>by subst q;cases e
 have e:(match diY s.g b with
  | some kvs=>(ZcO a).bind fun k=>(gkY c k kvs).map fun o=>W.bl (I ^^ o.isSome)
  | none=>(ZhC s.g b).bind fun xs=>if (Zaq a && xs.all Zaq && xs.all fun y=>c.f y a)=true then some (W.bl (I ^^ xs.any fun y=>Zdd y a)) else none)=some w:=by
  cases b<;>first|exact absurd rfl (U _)|exact e
 rw[Zqx (ZxS U),Zjc];cases d:diY s.g b with
 | some kvs=>
  rw[d] at e;simp only[Yan] at e ⊢;rw[Zke];cases q:ZcO a with
  | none=>rw[q] at e;cases e
  | some k=>
   rw[q] at e;simp only[YaH] at e;cases z:gkY c k kvs with
   | none=>rw[z] at e;cases e
   | some o=>rw[z] at e;cases e;simp only[Yan,(Zla V z).1,Ydl,vW]
 | none=>
  rw[d] at e;simp only[Yex] at e ⊢;cases y:ZhC s.g b with
  | none=>rw[y] at e;cases e
  | some xs=>
   rw[y] at e;rw[Zkg y];simp only[YaH] at e ⊢;split at e
   ·rename_i q;rw[Yaa] at q;have J:=q.1;rw[Yaa] at J;have l:(vWs v n xs).all Zaq=xs.all Zaq:=by rw[ZbI,YdO];congr 1;funext y;exact Zdo y
    rw[Zdo,l,if_pos q.1];cases e;have m:=Zuw V J.1 xs (Yaf.mp J.2) (Yaf.mp q.2);rw[m];simp only[vW]
   ·cases e
end
section
variable {v:Str->Str} {n:Int->Int} {c:Gd}
def Zzh (xs:List W)(i:Int):atI (vWs v n xs) i=(atI xs i).map (vW v n):=by
 rw[ZbI];unfold atI;rw[YaE];cases ixN xs.length i with
 | none=>rfl
 | some k=>exact YaU ..
def ZsW (I:∀ z,a≠.str z):ixM h a (.int i)=(ZgC h a).bind fun xs=>atI xs i:=by
 cases a<;>first|rfl|exact absurd rfl (I _)
def Zy7 (V:Vp v n c):S2 v n (ixY c) ixM:=fun s a b w e=>by
 cases b with
 | int i=>
  have e:(bif c.i i then (ZhC s.g a).bind fun xs=>atI xs i else none)=some w:=e;cases q:c.i i with
  | false=>rw[q] at e;cases e
  | true=>
   rw[q] at e;have z:vW v n (.int i)=.int i:=by simp only[vW,V.i i q]
   have e:(ZhC s.g a).bind (fun xs=>atI xs i)=some w:=e;cases y:ZhC s.g a with
   | none=>rw[y] at e;cases e
   | some xs=>
    have I:∀ z,a≠.str z:=fun z q=>by subst q;cases y
    rw[z,ZsW (ZxS I)];rw[y] at e;rw[Zkg y];simp only[YaH,Zzh];rw[show atI xs i=some w from e];rfl
 | _=>cases e
def ZvQ (V:Vp v n c):SB v n (ZxN c) Zkm:=fun s ws w e=>by
 match ws,e with
 | [],e=>cases e
 | [a],e=>
  rw[Zaf,Zai];cases a with
  | str z=>exact Zai (v:=v) (n:=n) ▸ Zaf (v:=v) (n:=n) (.str z) [] ▸ V.gb (op:=Zkm) (h':=av v n s) (fun h h' ws q=>by
    match ws,q with
    | [],_=>rfl
    | [w],q=>cases w<;>first | rfl | (simp[Gd.pl] at q)
    | x::_::_,_=>cases x<;>rfl) e
  | ref k=>
   have e:(match s.g k with
    | some (.dic kvs)=>c.out (some (.int kvs.length))
    | some (.lst ws)=>c.out (some (.int ws.length))
    | _=>none)=some w:=e
   simp only[vW,Zkm,Zdh];cases q:s.g k with
   | none=>rw[q] at e;cases e
   | some o=>cases o with
    | dic kvs=>rw[q] at e;obtain ⟨I,J⟩:=V.out e;cases I;rw[J];simp only[Yan,vO,vD,YaE]
    | lst xs=>rw[q] at e;obtain ⟨I,J⟩:=V.out e;cases I;rw[J];simp only[Yan,vO,Zaw]
    | _=>rw[q] at e;cases e
  | tl xs=>obtain ⟨I,J⟩:=V.out (o:=some (.int xs.length)) e;cases I;rw[J];simp only[vW,Zkm,ZgC,items,Yan,Zaw]
  | tup xs=>obtain ⟨I,J⟩:=V.out (o:=some (.int xs.length)) e;cases I;rw[J];simp only[vW,Zkm,ZgC,Yan,Zaw]
  | _=>exact absurd (V.out (o:=none) e).1 (by simp)
 | x::_::_,e=>cases x<;>cases e
theorem Zjd (V:Vp v n c):∀ {ws ns},Zc5 ws=some ns->ns.all c.i=true->Zc5 (vWs v n ws)=some ns
 | [],ns,e,q=>by simp only[vWs];exact e
 | w::ws,ns,e,q=>by
  simp only[vWs];cases w<;>simp only[Zc5] at e<;>first|cases e|skip
  rename_i i;cases r:Zc5 ws with
  | none=>rw[r] at e;cases e
  | some z=>
   rw[r] at e;cases e;rw[Ybf,Yaa] at q;simp only[vW,Zc5,V.i i q.1,Zjd V r q.2];rfl
def ZvJ (V:Vp v n c):SB v n (ZxL c) Zso:=fun s ws w e=>by
 match ws,e with
 | [],e=>cases e
 | _::_::_,e=>cases e
 | [a],e=>
  rw[Zaf,Zai];have e:(((itY s.g a).bind Zc5).bind fun ns=>bif ns.all c.i && c.i ns.sum then some (.int ns.sum) else none)=some w:=e;unfold Zso;cases q:itY s.g a with
  | none=>rw[q] at e;cases e
  | some xs=>
   rw[q] at e;simp only[YaH] at e;show ((items (av v n s) (vW v n a)).bind Zc5).map _=_;rw[ZaE q];simp only[YaH];cases r:Zc5 xs with
   | none=>rw[r] at e;cases e
   | some ns=>
    rw[r] at e;simp only[YaH] at e;cases z:ns.all c.i && c.i ns.sum with
    | false=>rw[z] at e;cases e
    | true=>
     rw[z] at e;cases e;rw[Yaa] at z;rw[Zjd V r z.1];simp only[Yan,vW,V.i _ z.2]
theorem Zd9 (a:Int):∀ l,(Zqf a l).Perm (a::l)
 | []=>.refl _
 | b::r=>by
  unfold Zqf;cases decide (a<=b) with
  | true=>exact .refl _
  | false=>exact ((Zd9 a r).cons b).trans (.swap a b r)
theorem Zmt (a:Int):∀ l:List Int,l.Pairwise (· <= ·)->(Zqf a l).Pairwise (· <= ·)
 | [],_=>List.pairwise_singleton _ _
 | b::r,h=>by
  unfold Zqf;rw[YbB] at h;cases z:decide (a<=b) with
  | true=>
   have z:=of_decide_eq_true z;exact YbB.mpr ⟨fun x m=>by
    rcases Yaz.mp m with rfl|m
    ·exact z
    ·exact Int.le_trans z (h.1 x m),YbB.mpr h⟩
  | false=>
   have z:=of_decide_eq_false z;refine YbB.mpr ⟨fun x m=>?_,Zmt a r h.2⟩;rcases Yaz.mp ((Zd9 a r).mem_iff.mp m) with rfl|m
   ·omega
   ·exact h.1 x m
def Zkj (ns:List Int):isI ns=Zc9 ns:=by
 have p:∀ l:List Int,(isI l).Perm l/\(isI l).Pairwise (· <= ·):=fun l=>by
  induction l with
  | nil=>exact ⟨.refl _,Yfa⟩
  | cons a l z=>exact ⟨(Zd9 a _).trans (z.1.cons a),Zmt a _ z.2⟩
 exact ZcP ((p ns).1.trans (Zbo ns).symm) (p ns).2 (Zgz ns)
theorem Zir (V:Vp v n c):∀ {kvs:List (Key×W)} {ns},ZaN kvs=some ns->ns.all c.i=true->ZaN (vD v n kvs)=some ns
 | [],ns,e,q=>e
 | (k,w)::kvs,ns,e,q=>by
  cases k with
  | inr x=>cases e
  | inl i=>
   unfold ZaN at e;cases r:ZaN kvs with
   | none=>rw[r] at e;cases e
   | some z=>
    rw[r] at e;cases e;rw[Ybf,Yaa] at q;show ZaN ((vK v n (.inl i),vW v n w)::vD v n kvs)=_;simp only[vK];unfold ZaN;rw[Zir V r q.2,V.i i q.1];rfl
def ZkM (V:Vp v n c):SB v n (ZvO c) ZbA:=fun s ws w e=>by
 match ws,e with
 | [],e=>cases e
 | _::_::_,e=>cases e
 | [a],e=>
  rw[Zaf,Zai];unfold ZvO at e;simp only at e;have k:∀ ns:List Int,ZcU (av v n s) (vW v n a)=some ns->(bif ns.all c.i && ((isI ns).map W.int).all c.pl then (if ns.length<64 then some (W.tl ((isI ns).map W.int)) else none) else none)=some w->ZbA (av v n s) [vW v n a]=some (vW v n w):=fun ns h e=>by
   unfold ZbA;simp only[h,YaH];cases y:ns.all c.i && ((isI ns).map W.int).all c.pl with
   | false=>rw[y] at e;cases e
   | true=>
    rw[y] at e;rw[Yaa] at y;simp only[cond_true] at e;split at e
    ·rename_i l;cases e;rw[if_pos l,<-Zkj];simp only[vW,V.pls y.2]
    ·cases e
  have g:∀ ns:List Int,(bif ns.all c.i && ((isI ns).map W.int).all c.pl then (if ns.length<64 then some (W.tl ((isI ns).map W.int)) else none) else none)=some w->ns.all c.i=true:=fun ns e=>by
   cases y:ns.all c.i && ((isI ns).map W.int).all c.pl with
   | false=>rw[y] at e;cases e
   | true=>rw[Yaa] at y;exact y.1
  cases d:diY s.g a with
  | some kvs=>
   rw[d] at e;simp only at e;cases r:ZaN kvs with
   | none=>rw[r] at e;cases e
   | some ns=>
    rw[r] at e;refine k ns ?_ e;unfold ZcU;rw[Zjc,d];exact Zir V r (g ns e)
  | none=>
   rw[d] at e;simp only at e;cases q:itY s.g a with
   | none=>rw[q] at e;cases e
   | some xs=>
    rw[q] at e;simp only[YaH] at e;cases r:Zc5 xs with
    | none=>rw[r] at e;cases e
    | some ns=>
     rw[r] at e;refine k ns ?_ e;unfold ZcU;rw[Zjc,d];simp only[Yex,ZaE q,YaH];exact Zjd V r (g ns e)
def ZpI (z:items h a=some xs)(I:items h b=some ys):ZfK h a b=if xs.length+ys.length<=Yai then some (.tl (xs++ys)) else none:=by
 unfold ZfK;cases a<;>first|(cases z;done)|skip
 all_goals simp only[z,I]
def Zu5 (V:Vp v n c):S2 v n (Zv7 c) ZfK:=fun s a b w e=>by
 unfold Zv7 at e;have g:c.g2 ZfK [] a b=some w->ZfK (av v n s) (vW v n a) (vW v n b)=some (vW v n w):=fun e=>V.g2 (op:=ZfK) (h':=av v n s) (fun h h' a b p q=>by cases a<;>first|(cases p;done)|(cases b<;>first|rfl|cases q)) e
 cases q:itY s.g a with
 | none=>rw[q] at e;exact g e
 | some xs=>cases r:itY s.g b with
  | none=>rw[q,r] at e;exact g e
  | some ys=>
   rw[q,r] at e;simp only at e;rw[ZpI (ZaE q) (ZaE r),Zaw,Zaw];split at e
   ·rename_i l;cases e;rw[if_pos l];simp only[vW,ZbQ]
   ·cases e
end
structure Ev where
 e:Ey
 a:Ay
 t:Ey
 i:Iy
 p:List (Ey×Ey)
 q:Ey
 o:Option Ey
noncomputable def ev (e:Ey)(t:Ey):Ev:=⟨e,yA,t,yI,[],yC (.bl true),none⟩
noncomputable def ev1 (e:Ey):Ev:=ev e yE
noncomputable def evA (a:Ay):Ev:=⟨yE,a,yE,yI,[],yC (.bl true),none⟩
noncomputable def evI (i:Iy):Ev:=⟨yE,yA,yE,i,[],yC (.bl true),none⟩
structure Cy where
 f:Str->Fy
 m:Str->Str->Option Fy
 i:Str->Fy
 c:Str->Str->Fy
 kit:Kit
noncomputable def nh:R->Bool
 | .v _=>true | .kn=>true | .kb _=>true | .ki _=>true | .ks _=>true | .g _ _=>true
 | .bin _ a b=>nh a && nh b | .cmp _ a b=>nh a && nh b | .un _ a=>nh a | .ix a b=>nh a && nh b | .dg a b=>nh a && nh b | .fld _ a=>nh a | .so a=>nh a | .no=>true | .one a=>nh a
 | .tup a=>nh a | .nil=>true | .cons a b=>nh a && nh b
 | .nt a=>nh a | .an a b=>nh a && nh b | .or a b=>nh a && nh b | .tv a=>nh a
 | _=>false
section
variable (c:Gd)
noncomputable def g2Y (op:Mem->W->W->Option W):Rd->W->W->Option W:=fun _=>c.g2 op []
def ZwX:Rd->W->W->Option W:=fun _ a b=>match a,b with
 | .int j,.int m=>(match c.md j m with
  | some r=>bif c.i m && c.i r && decide (0<m) then some (.int r) else none
  | none=>c.g2 Zig [] (.int j) (.int m))
 | _,_=>none
def oB':OB->Rd->W->W->Option W
 | .b0=>Zv7 c | .b1=>g2Y c ZuX | .b2=>g2Y c ZuR | .b3=>g2Y c Zt9 | .b4=>ZwX c | .b6=>g2Y c ZnP | .b7=>g2Y c Zwt
def oC':OC->Rd->W->W->Option W
 | .c0=>fun rd a b=>(eqY c rd 4 a b).map .bl | .c1=>fun rd a b=>(eqY c rd 4 a b).map fun r=>.bl (!r) | .c2=>g2Y c ltM | .c3=>g2Y c leM | .c4=>g2Y c gtM | .c5=>g2Y c geM | .c6=>fun rd=>inY c rd false | .c7=>fun rd=>inY c rd true | .c10=>fun _ a b=>Zne [] a b | .c11=>fun _ a b=>Zfp [] a b
def oU':OU->Rd->W->Option W
 | .u1=>fun _=>c.g1 ZuL []
def oK' (k:Kit):OK->Rd->List W->Option W
 | .k1=>fun rd=>Zwh rd k | .k2=>ZxN c | .k3=>ZxL c | .k6=>fun rd ws=>(match ws with
  | [a]=>((itY rd a).bind ZdA).map fun bs=>.bl (bs.all id)
  | _=>none) | .k7=>fun _=>c.gb Ztq [] | .k8=>ZvO c
def oT':OT->Rd->List W->Option W
 | .t0=>fun _=>c.gb Zs8 [] | .t2=>fun rd ws=>(match ws with
  | [w]=>(ZhC rd w).map .tl
  | _=>none) | .t3=>fun rd ws=>(match ws with
  | [.tup ws]=>some (.tup ws)
  | [w]=>(itY rd w).map .tup
  | _=>none)
def eF (C:Cy)(r:R):Ev:=R.rec (motive:=fun _=>Ev)
 (v:=fun i=>ev1 (Zq3 i)) (kn:=ev1 (yC .non)) (kb:=fun b=>ev1 (yC (.bl b))) (ki:=fun i=>ev1 (bif c.i i then yC (.int i) else yE)) (ks:=fun x=>ev1 (bif c.s x then yC (.str x) else yE)) (g:=fun _ i=>ev1 (bif c.i i then yC (.int i) else yE)) (ty:=fun n=>ev1 (yC (.ty n))) (cl:=fun k=>ev1 (yC (.cls k)))
 (bin:=fun o _ _ A B=>ev1 (Zm7 (oB' c o) A.e B.e)) (cmp:=fun o _ _ A B=>ev (Zm7 (oC' c o) A.e B.e) (Zm7 (oC' c o) A.e B.e)) (chn:=fun o p _ _ _ A B D=>ev (Zh2 (oC' c o) (oC' c p) A.e B.e D.e) (Zh2 (oC' c o) (oC' c p) A.e B.e D.e)) (un:=fun o _ A=>ev1 (yUn (oU' c o) A.e))
 (ix:=fun _ _ A B=>ev1 (Zm7 (ixY c) A.e B.e)) (dg:=fun _ _ A B=>ev1 (Zm7 (dgY c) A.e B.e)) (sl:=fun _ _ _ A L U=>ev1 (ySl c A.e L.o U.o)) (no:=ev1 yE) (so:=fun _ A=>⟨yE,yA,yE,yI,[],A.t,some A.e⟩)
 (an:=fun _ _ A B=>ev (ZuB A.e B.e) (ZuB A.t B.t)) (or:=fun _ _ A B=>ev (yOr A.e B.e) (yOr A.t B.t)) (one:=fun _ A=>ev A.e A.t) (nt:=fun _ A=>ev (ZuJ A.e) (ZuJ A.t)) (ife:=fun _ _ _ D A B=>ev1 (yIf D.t A.e B.e))
 (tup:=fun _ A=>ev1 (ZuQ A.a)) (ls:=fun _ A=>ev1 (ZxZ A.a)) (lsN:=fun _ A=>ev1 (ZqF A.a)) (dN:=ev1 Ztm) (dsp:=fun _ A=>ev1 (Znx c A.p)) (pr:=fun _ _ _ K V R=>⟨yE,yA,yE,yI,(K.e,V.e)::R.p,yC (.bl true),none⟩)
 (cb:=fun o _ A=>ev1 (yCb (oK' c C.kit o) A.a)) (ct:=fun o _ A=>ev1 (yCb (oT' c o) A.a)) (s1:=fun _ _ A=>ev1 (Znm A.e)) (s2:=fun _ _ A=>ev1 (Zpr A.e))
 (fX:=fun x _ A=>ev1 (ZeD (C.f x) A.a)) (fD:=fun x d _ A=>ev1 (bif c.pl (dfW d) then ZeD (fun ws=>C.f x (ws++[dfW d])) A.a else yE)) (mX:=fun m _ _ A B=>ev1 (ZmA m (C.m m) A.e B.a))
 (mk:=fun k _ A=>ev1 (ZtF k (C.i k) A.a)) (cc:=fun k m _ A=>ev1 (Zmq (C.c k m) A.a))
 (app:=fun _ _ A B=>ev1 (yLm ZmD A.e B.a)) (ext:=fun _ _ A B=>ev1 (ZwU A.e B.e)) (join:=fun _ _ _ _=>ev1 yE) (popD:=fun _ _ A B=>ev1 (Zp4 c A.e B.e))
 (cnt2:=fun _ _ A B=>ev1 (Zwr (fun rd=>Zqg c rd fun k bs=>some (.int (bs.count k:Nat))) A.e B.a)) (idx:=fun _ _ A B=>ev1 (Zwr (fun rd=>Zqg c rd fun k bs=>if k∈bs/\bs.length<=Yai then some (.int (bs.idxOf k:Nat)) else none) A.e B.a)) (popA:=fun _ _ A B=>ev1 (yLm (Zw8 c) A.e B.a))
 (fld:=fun x _ A=>ev1 (yUn (fun rd=>ZuS rd x) A.e)) (xf:=fun k x _ A=>ev1 (yXf k x A.e))
 (cpr:=fun k own _ ix tg _ d e I D E=>ev1 (match k with
  | .p0=>bif nh e then Zhl I.i own.length ix (gTs tg) (yC (.bl true)) E.e else yE
  | .p2=>Zna I.i own.length ix (gTs tg) D.q E.e
  | .p3=>bif nh d && nh e then Zhl I.i own.length ix (gTs tg) D.q E.e else yE))
 (nil:=evA ZxA) (cons:=fun _ _ A B=>evA (ZhU A.e B.a))
 (tv:=fun _ A=>ev yE A.e)
 (il:=fun _ A=>evI (yIl A.e)) (it:=fun _ A=>evI (yIt A.e)) (is:=fun _ A=>evI (yIs c A.e)) (r1:=fun _ A=>evI (yIr c A.e)) r
structure Es where
 s:My
 b:My
noncomputable def es (s:My):Es:=⟨s,yM⟩
variable (sub:Str->Str->Bool)
def eG (C:Cy)(r:S):Es:=S.rec (motive:=fun _=>Es)
 (ret:=fun a=>es (ZxV (eF c C a).e)) (ex:=fun a=>es (Zsr (eF c C a).e)) (set:=fun i a=>es (Zt6 i (eF c C a).e)) (setC:=fun i k own fr ix tg a b d=>es (Zt6 i (eF c C (.cpr k own fr ix tg a b d)).e))
 (setF:=fun x o w=>es (ZnK x (eF c C o).e (eF c C w).e)) (setD:=fun o i w=>es (Zpd c (eF c C o).e (eF c C i).e (eF c C w).e)) (setK:=fun i own _ ix tg a b d=>es (bif nh b && nh d then Zt6 i (ZlA (eF c C a).e own.length ix (gTs tg) (eF c C b).q (eF c C d).e) else yM))
 (ifs:=fun d _ _ A B=>es (Zvi (eF c C d).t A.b B.b)) (forS:=fun t i _ B=>es (Zvk (eF c C i).i (gTs t) B.b)) (forD:=fun t i _ B=>es (Zpf (eF c C i).e (gTs t) B.b)) (wh:=fun m d _ B=>es (ZeC (eF c C d).t B.b m))
 (rz:=fun k a=>es (yRz k (eF c C a).a)) (rzI:=fun k f a=>es (Zvn k f (eF c C a).a)) (try1:=fun d i asg _ _ B H=>es (Zxh (sub d) i asg B.b H.b)) (nvr:=es yM)
 (nil:=⟨yM,Zq1⟩) (one:=fun _ A=>⟨yM,A.s⟩) (cons:=fun _ _ A B=>⟨yM,Zwf A.s B.b⟩) r
end
noncomputable def swY (ws:List W):Nat->Sg:=YcO (motive:=fun _=>Nat->Sg) (fun m=>Ycq m none) (fun w _ z m=>some w::z (m - 1)) ws
noncomputable def ZuC (ws:List W):Nat:=YcO (motive:=fun _=>Nat) 0 (fun _ _ z=>z+1) ws
def ZpB (m:Nat)(B:My)(ws:List W)(s:SY):RY:=OY.rec (motive:=fun _=>RY) (fun _ s=>.ok .non s) .ok (fun _ _=>.no) (fun _ _=>.no) .ex .no (B (swY ws m) s)
def ZnT (n m:Nat)(B:My):Fy:=fun ws s=>bif Ydu (ZuC ws) n then RY.rec (motive:=fun _=>RY) (fun w s1=>bif Yev s.n s1.n then .ok w s1 else .no) (fun w s1=>bif Yev s.n s1.n then .ex w s1 else .no) .no (ZpB m B ws s) else .no
def Zqj (n m:Nat)(B:My):Fy:=fun ws s=>bif Ydu (ZuC ws) n then RY.rec (motive:=fun _=>RY) (fun w s1=>bif Yev s.n s1.n then .ok w s1 else .no) (fun _ _=>.no) .no (ZpB m B ws s) else .no
def dN (g:Pg)(x:Str):Option Fe:=g.D.find? fun e=>eqN e.x x
def msN (g:Pg)(m:Str):List Fe:=g.M.filter fun e=>eqN e.x m
def mN (g:Pg)(c m:Str):Option Fe:=g.M.find? fun e=>eqN e.x m && eqN e.c c
noncomputable def nFy:Fy:=fun _ _=>.no
section
variable {α β:Type}
noncomputable def V8.gk (v:V8 α)(i:Nat)(k:α->β):β:=V8.rec (motive:=fun _=>β) (fun a b c d e f g h=>nz i (k a) fun i=>nz i (k b) fun i=>nz i (k c) fun i=>nz i (k d) fun i=>nz i (k e) fun i=>nz i (k f) fun i=>nz i (k g) fun _=>k h) v
noncomputable def T64:V8 (V8 Nat):=⟨⟨0,1,2,3,4,5,6,7⟩,⟨8,9,10,11,12,13,14,15⟩,⟨16,17,18,19,20,21,22,23⟩,⟨24,25,26,27,28,29,30,31⟩,⟨32,33,34,35,36,37,38,39⟩,⟨40,41,42,43,44,45,46,47⟩,⟨48,49,50,51,52,53,54,55⟩,⟨56,57,58,59,60,61,62,63⟩⟩
def fN (n:Nat)(k:Nat->β):β:=bif Ya7 n 64 then T64.gk (n / 8) fun u=>u.gk (n % 8) k else k n
noncomputable def fI (i:Int)(k:Int->β):β:=Int.rec (motive:=fun _=>β) (fun n=>fN n fun n=>k (.ofNat n)) (fun n=>fN n fun n=>k (.negSucc n)) i
def fS (l:List Str)(x:Str)(k:Str->β):β:=YcO (motive:=fun _=>β) (k x) (fun a _ z=>bif eqN x a then k a else z) l
noncomputable def fW0 (l:List Str)(w:W)(k:W->β):β:=match w with
 | .bl b=>bif b then k (.bl true) else k (.bl false)
 | .int i=>fI i fun i=>k (.int i)
 | .str x=>fS l x fun x=>k (.str x)
 | .ref n=>fN n fun n=>k (.ref n)
 | w=>k w
noncomputable def fL (h:W->(W->β)->β)(ws:List W):(List W->β)->β:=YcO (motive:=fun _=>(List W->β)->β) (fun k=>k []) (fun w _ z k=>h w fun w=>z fun r=>k (w::r)) ws
def fW (l:List Str)(w:W)(k:W->β):β:=match w with
 | .tl ws=>fL (fW0 l) ws fun ws=>k (.tl ws)
 | .tup ws=>fL (fW0 l) ws fun ws=>k (.tup ws)
 | w=>fW0 l w k
end
noncomputable def fzY (l:List Str)(b:Bool)(F:Fy):Fy:=bif b then fun ws s=>fL (fW l) ws fun ws=>F ws s else F
section
variable (c:Gd) (ov:Str->Option Fy) (sy:List Str) (fz:Str->Bool) (g:Pg)
def upY (C:Cy):Cy:=⟨fun x=>fzY sy (fz x) (match ov x with | some F=>F | none=>((dN g x).map fun e=>ZnT e.ps.length e.N.length (eG c g.sub C e.b).b).getD nFy),
 fun m k=>lkN k ((msN g m).map fun e=>(e.c,ZnT e.ps.length e.N.length (eG c g.sub C e.b).b)),
 fun k=>((mN g k "__init__").map fun e=>Zqj e.ps.length e.N.length (eG c g.sub C e.b).b).getD nFy,fun k m=>((mN g k m).map fun e=>Zqj e.ps.length e.N.length (eG c g.sub C e.b).b).getD nFy,g.kit⟩
def Zk6:Nat->Cy
 | 0=>⟨fun _=>nFy,fun _ _=>none,fun _=>nFy,fun _ _=>nFy,g.kit⟩
 | k+1=>upY c ov sy fz g (Zk6 k)
end
section
variable {v:Str->Str} {n:Int->Int} {c:Gd}
def ZxQ (V:Vp v n c)(hi:∀ h h' a b,c.pl a=true->c.pl b=true->op h a b=op h' a b):S2 v n (g2Y c op) op:=fun s a b w e=>V.g2 hi e
def ZwJ (V:Vp v n c):S2 v n (ZwX c) Zig:=fun s a b w e=>by
 unfold ZwX at e;cases a<;>try cases e
 rename_i j;cases b<;>try cases e
 rename_i m;simp only at e;cases q:c.md j m with
 | none=>rw[q] at e;exact V.g2 (op:=Zig) (h':=av v n s) (fun _ _ _ _ _ _=>rfl) e
 | some r=>
  rw[q] at e;simp only at e;cases z:c.i m && c.i r && decide (0<m) with
  | false=>rw[z] at e;cases e
  | true=>
   rw[z] at e;cases e;rw[Yaa,Yaa] at z;simp only[vW,Zig,Zo9,V.i m z.1.1,V.i r z.1.2,z.2,cond_true,V.md j m r q]
def ZuG (e:sqY s.g a=some p):sq (av v n s) (vW v n a)=some (p.1,vWs v n p.2):=by
 unfold sqY at e;have k:(itY s.g a).map (fun ws=>(true,ws))=some p->(∀ ws,vW v n a≠.tup ws)->sq (av v n s) (vW v n a)=some (p.1,vWs v n p.2):=fun e I=>by
  cases q:itY s.g a with
  | none=>rw[q] at e;cases e
  | some ws=>
   rw[q] at e;cases e;have:=ZaE (v:=v) (n:=n) q;cases z:vW v n a<;>rw[z] at this I<;>first|exact absurd rfl (I _)|(simp only[sq,this];rfl)
 cases a with
 | tup ws=>cases e;simp only[vW,sq]
 | ref m=>exact k e (fun ws q=>by simp only[vW] at q;cases q)
 | tl m=>exact k e (fun ws q=>by simp only[vW] at q;cases q)
 | _=>cases e
noncomputable def ZtG (f:Zaq a=true):sq (av v n s) (vW v n a)=none:=by
 cases a<;>first|(cases f;done)|(simp only[vW];rfl)
theorem ZuD (V:Vp v n c)(s:SY):∀ m a b r,eqY c s.g m a b=some r->eqM (av v n s) m (vW v n a) (vW v n b)=some r
 | 0,a,b,r,e=>by
  have e:(if (Zaq a && Zaq b && c.f a b)=true then some (Zdd a b) else none)=some r:=e;unfold eqM;split at e
  ·rename_i q;rw[Yaa] at q;have I:=q.1;rw[Yaa] at I;rw[Zdo,Zdo,if_pos q.1,V.f I.1 I.2 q.2];exact e
  ·cases e
 | m+1,a,b,r,e=>by
  have e:(if (Zaq a && Zaq b)=true then (if c.f a b=true then some (Zdd a b) else none) else match sqY s.g a,sqY s.g b with
   | some (true,xs),some (true,ys)=>if xs.length=ys.length then Zel (eqY c s.g m) xs ys else some false
   | some (false,xs),some (false,ys)=>(Zel (eqY c s.g m) xs ys).map (· && decide (xs.length=ys.length))
   | some (true,_),some (false,_)=>some false
   | some (false,_),some (true,_)=>some false
   | some _,none=>if Zaq b=true then some false else none
   | none,some _=>if Zaq a=true then some false else none
   | none,none=>none)=some r:=e
  unfold eqM;rw[Zdo,Zdo];split at e
  ·rename_i q;have I:=q;rw[Yaa] at I;split at e
   ·rename_i U;rw[if_pos q,V.f I.1 I.2 U];exact e
   ·cases e
  ·rename_i q;rw[if_neg q];cases x:sqY s.g a with
   | none=>cases y:sqY s.g b with
    | none=>rw[x,y] at e;cases e
    | some ys=>
     obtain ⟨t,ys⟩:=ys;rw[x,y] at e;cases fa:Zaq a with
     | false=>rw[fa] at e;cases t<;>cases e
     | true=>rw[fa] at e;rw[ZtG fa,ZuG y];cases t<;>exact e
   | some xs=>cases y:sqY s.g b with
    | none=>
     obtain ⟨t,xs⟩:=xs;rw[x,y] at e;cases J:Zaq b with
     | false=>rw[J] at e;cases t<;>cases e
     | true=>rw[J] at e;rw[ZtG J,ZuG x];cases t<;>exact e
    | some ys=>
     obtain ⟨t,xs⟩:=xs;obtain ⟨u,ys⟩:=ys;rw[ZuG x,ZuG y];simp only[x,y] at e ⊢;cases t<;>cases u<;>simp only at e ⊢
     ·cases z:Zel (eqY c s.g m) xs ys with
      | none=>rw[z] at e;cases e
      | some b=>rw[z] at e;rw[Zpk (ZuD V s m) xs ys b z,Zaw,Zaw];exact e
     ·exact e
     ·exact e
     ·rw[Zaw,Zaw];split at e
      ·rename_i q;rw[if_pos q];exact Zpk (ZuD V s m) xs ys r e
      ·rename_i q;rw[if_neg q];exact e
def Zyc (V:Vp v n c):S2 v n (fun rd a b=>(eqY c rd 4 a b).map .bl) eqO:=fun s a b w e=>by
 unfold eqO;simp only at e;cases q:eqY c s.g 4 a b with
 | none=>rw[q] at e;cases e
 | some r=>rw[q] at e;cases e;rw[ZuD V s 4 a b r q];simp only[Yan,vW]
def Zyf (V:Vp v n c):S2 v n (fun rd a b=>(eqY c rd 4 a b).map fun r=>.bl (!r)) neO:=fun s a b w e=>by
 unfold neO;simp only at e;cases q:eqY c s.g 4 a b with
 | none=>rw[q] at e;cases e
 | some r=>rw[q] at e;cases e;rw[ZuD V s 4 a b r q];simp only[Yan,vW]
def ZvL:S2 v n (fun _ a b=>Zne [] a b) Zne:=fun s a b w e=>by
 unfold Zne at e ⊢;cases b with
 | non=>cases e;simp only[vW,Ztl]
 | _=>cases e
def ZtD:S2 v n (fun _ a b=>Zfp [] a b) Zfp:=fun s a b w e=>by
 unfold Zfp at e ⊢;cases b with
 | non=>cases e;simp only[vW,Ztl]
 | _=>cases e
def ZvN (e:tyY s.g a=some t):tyX (av v n s) (vW v n a)=some t:=by
 unfold tyY at e;cases a with
 | ref k=>
  simp only[vW,tyX,tyN,Zdh];cases q:s.g k with
  | none=>simp only[q] at e;cases e
  | some o=>cases o<;>simp only[q] at e<;>first | exact e | cases e
 | ti k fs ws=>cases e
 | _=>simp only[vW];exact e
def Zyu (a:W)(t:Ty)(e:Zrp a=some t):Zrp (vW v n a)=some t:=by cases a<;>first|(cases e;done)|(simp only[vW];exact e)
theorem ZmL (I:Kit)(t:Ty):∀ ws b,Zie I t ws=some b->Zie I t (vWs v n ws)=some b
 | [],b,e=>by rw[Zai];exact e
 | w::ws,b,e=>by
  rw[Zaf];unfold Zie at e ⊢;cases q:Zrp w with
  | none=>rw[q] at e;cases e
  | some u=>
   rw[q] at e;rw[Zyu w u q];simp only[YaH] at e ⊢;cases r:I.get t u with
   | none=>rw[r] at e;cases e
   | some U=>
    rw[r] at e;simp only[YaH] at e ⊢;cases z:Zie I t ws with
    | none=>rw[z] at e;cases e
    | some J=>rw[z] at e;rw[ZmL I t ws J z];exact e
def ZwK (I:Kit):SB v n (fun rd=>Zwh rd I) (ZmG I):=fun s ws w e=>by
 have b:∀ o:Option Bool,(o.map W.bl)=some w->o.map W.bl=some (vW v n w):=fun o e=>by
  cases o with
  | none=>cases e
  | some b=>cases e;rfl
 simp only[Zwh] at e;split at e
 ·simp only[vWs,vW,ZmG];cases q:tyY s.g _ with
  | none=>rw[q] at e;cases e
  | some t=>rw[q] at e;rw[ZvN q];exact b _ e
 ·simp only[vWs,vW,ZmG];cases q:tyY s.g _ with
  | none=>rw[q] at e;cases e
  | some t=>rw[q] at e;rw[ZvN q];exact b _ e
 ·rename_i J k ks;have z:=ZmL (v:=v) (n:=n) I;simp only[vWs,vW,ZmG];cases q:tyY s.g J with
  | none=>rw[q] at e;cases e
  | some t=>
   rw[q] at e;rw[ZvN q];simp only[YaH] at e ⊢;cases r:Zie I t (k::ks) with
   | none=>rw[r] at e;cases e
   | some U=>rw[r] at e;have z:=z t (k::ks) U r;rw[Zaf] at z;rw[z];exact b _ e
 ·cases e
theorem Zpa:∀ ws bs,ZdA ws=some bs->ZdA (vWs v n ws)=some bs
 | [],bs,e=>by rw[Zai];exact e
 | w::ws,bs,e=>by
  rw[Zaf];cases w<;>simp only[ZdA] at e<;>first|(cases e;done)|skip
  rename_i b;simp only[vW,ZdA];cases r:ZdA ws with
  | none=>rw[r] at e;cases e
  | some cs=>rw[r] at e;rw[Zpa ws cs r];exact e
def ZqV:SB v n (fun rd ws=>(match ws with
  | [a]=>((itY rd a).bind ZdA).map fun bs=>W.bl (bs.all id)
  | _=>none)) Zhx:=fun s ws w e=>by
 match ws,e with
 | [],e=>cases e
 | _::_::_,e=>cases e
 | [a],e=>
  rw[Zaf,Zai];simp only at e;cases q:itY s.g a with
  | none=>rw[q] at e;cases e
  | some xs=>
   rw[q] at e;simp only[YaH] at e;cases r:ZdA xs with
   | none=>rw[r] at e;cases e
   | some bs=>rw[r] at e;cases e;unfold Zhx;simp only[ZaE q,YaH,Zpa xs bs r,Yan,vW]
def ZrR:SB v n (fun rd ws=>(match ws with
  | [w]=>(ZhC rd w).map W.tl
  | _=>none)) Zh4:=fun s ws w e=>by
 match ws,e with
 | [],e=>cases e
 | _::_::_,e=>cases e
 | [a],e=>
  rw[Zaf,Zai];simp only at e;cases q:ZhC s.g a with
  | none=>rw[q] at e;cases e
  | some xs=>rw[q] at e;cases e;unfold Zh4;simp only[Zkg q,Yan,vW]
def ZnE:SB v n (fun rd ws=>(match ws with
  | [.tup ws]=>some (W.tup ws)
  | [w]=>(itY rd w).map W.tup
  | _=>none)) ZcF:=fun s ws w e=>by
 match ws,e with
 | [],e=>cases e
 | x::_::_,e=>cases x<;>cases e
 | [a],e=>
  rw[Zaf,Zai];cases a with
  | tup xs=>cases e;simp only[vW,ZcF]
  | ref k=>
   have e:(itY s.g (.ref k)).map W.tup=some w:=e;cases q:itY s.g (.ref k) with
   | none=>rw[q] at e;cases e
   | some xs=>rw[q] at e;cases e;have:=ZaE (v:=v) (n:=n) q;simp only[vW] at this ⊢;simp only[ZcF,this,Yan]
  | tl k=>cases e;simp only[vW,ZcF,items,Yan]
  | _=>cases e
def S3 (v:Str->Str)(n:Int->Int)(z:Rd->W->List W->Option W)(I:Mem->W->List W->Option W):Prop:=∀ s a ws w,z (SY.g s) a ws=some w->I (av v n s) (vW v n a) (vWs v n ws)=some (vW v n w)
def ZmS {s:SY}{op:Bool->List Bool->Option W}{a w:W}{ws:List W}(V:Vp v n c)(e:Zqg c s.g op a ws=some w):∃ k bs xs,ws=[.bl k]/\itY s.g a=some xs/\ZdA (vWs v n xs)=some bs/\op k bs=some w/\vW v n w=w:=by
 unfold Zqg at e;split at e
 ·rename_i k;cases q:itY s.g a with
  | none=>rw[q] at e;cases e
  | some xs=>
   rw[q] at e;simp only[YaH] at e;cases r:ZdA xs with
   | none=>rw[r] at e;cases e
   | some bs=>
    rw[r] at e;obtain ⟨z,I⟩:=V.out e;exact ⟨k,bs,xs,rfl,rfl,Zpa xs bs r,z,I⟩
 ·cases e
def ZvM (V:Vp v n c):S3 v n (fun rd=>Zqg c rd fun k bs=>some (.int (bs.count k:Nat))) Zdx:=fun s a ws w e=>by
 obtain ⟨k,bs,xs,rfl,q,r,z,I⟩:=ZmS V e;rw[Zaf,Zai,I,<-z];simp only[vW,Zdx,ZaE q,YaH,r,Yan]
def Zxa (V:Vp v n c):S3 v n (fun rd=>Zqg c rd fun k bs=>if k∈bs/\bs.length<=Yai then some (.int (bs.idxOf k:Nat)) else none) ZbR:=fun s a ws w e=>by
 obtain ⟨k,bs,xs,rfl,q,r,z,I⟩:=ZmS V e;rw[Zaf,Zai,I,<-z];simp only[vW,ZbR,ZaE q,YaH,r]
def sB (V:Vp v n c)(o:OB):S2 v n (oB' c o) (opB o):=by
 have z:∀ p,S2 v n (fun _ _ _=>none) p:=fun p s a b w e=>by cases e
 cases o
 case b0=>exact Zu5 V
 case b4=>exact ZwJ V
 all_goals exact ZxQ V fun _ _ _ _ _ _=>rfl
def sC (V:Vp v n c)(o:OC):S2 v n (oC' c o) (opC o):=by
 have z:∀ p,S2 v n (fun _ _ _=>none) p:=fun p s a b w e=>by cases e
 cases o
 case c0=>exact Zyc V
 case c1=>exact Zyf V
 case c6=>exact ZxC V false
 case c7=>exact ZxC V true
 case c10=>exact ZvL
 case c11=>exact ZtD
 all_goals exact ZxQ V fun _ _ _ _ _ _=>rfl
def sU (V:Vp v n c)(o:OU):S1 v n (oU' c o) (opU o):=by
 cases o<;>exact fun s a w e=>V.g1 (h:=[]) (h':=av v n s) (fun _ _ _ _=>rfl) e
def sK (V:Vp v n c)(k:Kit)(o:OK):SB v n (oK' c k o) (cbO k o):=by
 have z:∀ p,SB v n (fun _ _=>none) p:=fun p s a w e=>by cases e
 cases o
 case k1=>exact ZwK k
 case k2=>exact ZvQ V
 case k3=>exact ZvJ V
 case k6=>exact ZqV
 case k7=>exact fun s ws w e=>V.gb (op:=Ztq) (h':=av v n s) (fun h h' ws q=>rfl) e
 case k8=>exact ZkM V
 all_goals exact z _
def sT (V:Vp v n c)(o:OT):SB v n (oT' c o) (ctO o):=by
 cases o
 case t2=>exact ZrR
 case t3=>exact ZnE
 case t0=>exact fun s ws w e=>V.gb (op:=Zs8) (h':=av v n s) (fun h h' ws q=>rfl) e
end
section
variable {v:Str->Str} {n:Int->Int} {c:Gd} {f1 g1 k1:Ey} {f0 g0 k0:Ex} {a1:Ay} {a0:Exs} {F1:Fy} {F0:Fm} {A1 B1:My} {A0 B0:Sm} {G1 G0:Tg} {i1:Iy} {i0:Ei}
def ZxR (U:∀ xs ws w ys,p1 xs ws=some (w,ys)->p0 (vWs v n xs) (vWs v n ws)=some (vW v n w,vWs v n ys))(I:SE v n f1 f0)(J:SX v n a1 a0):SE v n (yLm p1 f1 a1) (xLm p0 f0 a0):=fun ρ h e=>bnd I (fun w h1 e=>by
 obtain ⟨k,rfl⟩:=Zcw e;obtain ⟨_,z⟩:=Zeo e;simp only[onR,z,onL,vW,Zdh,Yan,vO] at e ⊢;exact bns (k0:=fun ws h2=>match h2[k]? with
  | some (.lst xs)=>(match p0 xs ws with
   | some (w,ys)=>Res.ok w (h2.set k (.lst ys))
   | none=>.no)
  | _=>.no) J (fun ws h2 e=>by
  obtain ⟨xs,y⟩:=Zeo e;simp only[y,onL,Zdh,Yan,vO] at e ⊢;cases x:p1 xs ws with
  | none=>rw[x] at e;exact absurd rfl e
  | some p=>simp only[U xs ws p.1 p.2 x,vr,Zkp y,vO]) e) e
def Zxe (xs ws:List W)(w:W)(ys:List W)(e:ZmD xs ws=some (w,ys)):ZmD (vWs v n xs) (vWs v n ws)=some (vW v n w,vWs v n ys):=by
 match ws,e with
 | [],e=>cases e
 | _::_::_,e=>cases e
 | [x],e=>
  simp only[ZmD,vWs,Zaw] at e ⊢;cases d:decide (xs.length<Yai) with
  | false=>rw[d] at e;cases e
  | true=>rw[d] at e;cases e;simp only[cond_true,vW,ZbQ,Zaf,Zai]
def Zvg (V:Vp v n c)(xs ws:List W)(w:W)(ys:List W)(e:Zw8 c xs ws=some (w,ys)):Zqt (vWs v n xs) (vWs v n ws)=some (vW v n w,vWs v n ys):=by
 unfold Zw8 at e;split at e
 ·rename_i x r i;cases q:c.i i && decide (i=0) with
  | false=>rw[q] at e;cases e
  | true=>
   rw[q] at e;cases e;rw[Yaa] at q;simp only[vWs,vW,Zqt,V.i i q.1,q.2,cond_true]
 ·cases e
def ZsL (J:S3 v n p1 p0)(z:SE v n f1 f0)(I:SX v n a1 a0):SE v n (Zwr p1 f1 a1) (Zpq p0 f0 a0):=fun ρ h e=>bnd z (fun a h1 e=>by
 cases q:itY h1.g a with
 | none=>simp only[q] at e;exact absurd rfl e
 | some xs=>
  simp only[q] at e ⊢;rw[ZaE q];exact bns (k0:=fun ws h2=>.of (p0 h2 (vW v n a) ws) h2) I (fun ws h2 e=>ofs (J h2 a ws) e) e) e
def Zu2 (I:SE v n f1 f0)(J:SE v n g1 g0):SE v n (ZwU f1 g1) (ZqM f0 g0):=fun ρ h e=>by
 unfold ZqM;have q:=I ρ h;unfold ZwU at e ⊢;cases r:f1 ρ h with
 | no=>rw[r] at e;exact absurd rfl e
 | ex w h1=>rw[r] at q;rw[q (by simp)];rfl
 | ok w h1=>
  rw[r] at q e;rw[q (by simp)];obtain ⟨k,rfl⟩:=Zcw e;obtain ⟨_,z⟩:=Zeo e;simp only[RY.b,onR,z,onL,vr,vW,Zdh,Yan,vO] at e ⊢;have q:=J ρ h1;cases r:g1 ρ h1 with
  | no=>rw[r] at e;exact absurd rfl e
  | ex w h2=>rw[r] at q;rw[q (by simp)];rfl
  | ok w h2=>
   rw[r] at q e;rw[q (by simp)];obtain ⟨m,rfl⟩:=Zcw e;obtain ⟨xs,y⟩:=Zeo e;simp only[onR,y,onL,vr,vW,Zdh,Yan,vO] at e ⊢;obtain ⟨ys,x⟩:=Zeo e;simp only[x,Yan,vO,Zaw] at e ⊢;split at e
   ·rename_i l;rw[if_pos l,if_pos l];simp only[vr,vW,Zkp y,vO,ZbQ]
   ·exact absurd rfl e
def ZsR (V:Vp v n c)(J:SE v n f1 f0)(U:SE v n g1 g0):SE v n (Zp4 c f1 g1) (Ziy f0 g0):=fun ρ h e=>by
 unfold Ziy;have q:=J ρ h;unfold Zp4 at e ⊢;cases r:f1 ρ h with
 | no=>rw[r] at e;exact absurd rfl e
 | ex w h1=>rw[r] at q;rw[q (by simp)];rfl
 | ok w h1=>
  rw[r] at q e;rw[q (by simp)];obtain ⟨k,rfl⟩:=Zcw e;obtain ⟨_,z⟩:=ZjB e;simp only[RY.b,onR,z,onD,vr,vW,Zdh,Yan,vO] at e ⊢;have q:=U ρ h1;cases r:g1 ρ h1 with
  | no=>rw[r] at e;exact absurd rfl e
  | ex w h2=>rw[r] at q;rw[q (by simp)];rfl
  | ok b h2=>
   rw[r] at q e;rw[q (by simp)];obtain ⟨kvs,y⟩:=ZjB e;simp only[y,onD,vr,Zdh,Zke,Yan,vO] at e ⊢;cases x:ZcO b with
   | none=>rw[x] at e;exact absurd rfl e
   | some I=>
    rw[x] at e;cases p:gkY c I kvs with
    | none=>simp only[p] at e;exact absurd rfl e
    | some o=>cases o with
     | none=>simp only[p] at e;exact absurd rfl e
     | some u=>cases t:dkY c I kvs with
      | none=>simp only[p,t] at e;exact absurd rfl e
      | some l=>simp only[p,t,(Zla V p).1,Yan,vr,Zkp y,vO,Zg5 V t]
theorem Zmr:∀ (fs:List Str) (ws:List W),fs.zip (vWs v n ws)=vF v n (fs.zip ws)
 | [],ws=>by cases ws<;>simp[vF]
 | f::fs,[]=>by simp[vF,vWs]
 | f::fs,w::ws=>by simp only[vWs,Yct,Zmr fs ws];rfl
def ZyB (c0 x:Str)(z:SE v n f1 f0):SE v n (yXf c0 x f1) (xXf c0 x f0):=fun ρ h e=>bnd z (fun w h1 e=>by
 cases w with
 | exc k fs ws=>
  simp only[vW,Zmr,ZlJ,Za0,Zfd] at e ⊢;cases d:decide (k=c0) with
  | false=>simp only[d] at e;exact absurd rfl e
  | true=>
   simp only[d,cond_true] at e ⊢;cases l:(fs.zip ws).lookup x with
   | none=>rw[l] at e;exact absurd rfl e
   | some w=>rfl
 | _=>exact absurd rfl e) e
def Zfm (kvs:List (Key×W)):Zax (vD v n kvs)=vWs v n (Zax kvs):=by
 rw[ZbI];unfold Zax vD;rw[YbS,YbS];refine YcV fun p _=>?_
 obtain ⟨k,w⟩:=p;cases k<;>simp only[Function.comp,vK,vW]
def Ztp (I:SE v n f1 f0):SE v n (Znm f1) (ZiR f0):=fun ρ h e=>by
 unfold ZiR;have q:=I ρ h;unfold Znm at e ⊢;cases r:f1 ρ h with
 | no=>rw[r] at e;exact absurd rfl e
 | ex w h1=>rw[r] at q;rw[q (by simp)];rfl
 | ok a h1=>
  rw[r] at q e;rw[q (by simp)];simp only[RY.b,vr,Zjc] at e ⊢;cases z:diY h1.g a with
  | none=>simp only[z] at e;exact absurd rfl e
  | some kvs=>simp only[z,Yan,Zfm] at e ⊢;exact ZlC (o:=.lst (Zax kvs)) e
def Zsi (I:SE v n f1 f0):SE v n (Zpr f1) (Zh5 f0):=fun ρ h e=>by
 unfold Zh5;have q:=I ρ h;unfold Zpr at e ⊢;cases r:f1 ρ h with
 | no=>rw[r] at e;exact absurd rfl e
 | ex w h1=>rw[r] at q;rw[q (by simp)];rfl
 | ok a h1=>
  rw[r] at q e;rw[q (by simp)];simp only[RY.b,vr] at e ⊢;cases z:itY h1.g a with
  | none=>simp only[z] at e;exact absurd rfl e
  | some ws=>
   simp only[z] at e ⊢;rw[ZaE z];have:=ZlC (v:=v) (n:=n) (o:=.lst ws.reverse) e;refine Eq.trans ?_ this;simp only[vO,ZbI,List.map_reverse]
inductive SPs (v:Str->Str) (n:Int->Int):List (Ey×Ey)->List (Ex×Ex)->Prop where
 | nil:SPs v n [] []
 | cons {k1 w1:Ey} {k0 w0:Ex} {r1:List (Ey×Ey)} {r0:List (Ex×Ex)}:SE v n k1 k0->SE v n w1 w0->SPs v n r1 r0->SPs v n ((k1,w1)::r1) ((k0,w0)::r0)
noncomputable def vP (v:Str->Str)(n:Int->Int)(ps:List (W×W)):List (W×W):=ps.map fun p=>(vW v n p.1,vW v n p.2)
def Zp1 {g1:List (Ey×Ey)}{g0:List (Ex×Ex)}(s:SPs v n g1 g0)(ρ:Sg):∀ h ps h',ZeY g1 ρ h=some (ps,h')->Zb1 g0 (vR v n ρ) (av v n h)=some (vP v n ps,av v n h'):=by
 induction s with
 | nil=>intro h ps h' e;cases e;rfl
 | @cons k1 I k0 w0 r1 r0 J U _ Y=>
  intro h ps h' e;have e:(RY.rec (motive:=fun _=>Option (List (W×W)×SY)) (fun k s1=>RY.rec (motive:=fun _=>Option (List (W×W)×SY)) (fun v s2=>(ZeY r1 ρ s2).map fun q=>((k,v)::q.1,q.2)) (fun _ _=>none) none (I ρ s1)) (fun _ _=>none) none (k1 ρ h))=some (ps,h'):=e;unfold Zb1;have q:=J ρ h;cases a:k1 ρ h with
  | ok x h1=>
   rw[a] at q e;simp only at e;simp only[q (by simp),vr];have q:=U ρ h1;cases b:I ρ h1 with
   | ok y h2=>
    rw[b] at q e;simp only at e;simp only[q (by simp),vr];cases d:ZeY r1 ρ h2 with
    | none=>rw[d] at e;cases e
    | some p=>
     obtain ⟨z,h3⟩:=p;rw[d] at e;cases e;simp only[Y h2 z _ d];rfl
   | _=>rw[b] at e;cases e
  | _=>rw[a] at e;cases e
theorem Ziw:∀ ps,ZbU (vP v n ps)=(ZbU ps).map (vD v n)
 | []=>rfl
 | (k,w)::ps=>by
  show ZbU ((vW v n k,vW v n w)::vP v n ps)=_;unfold ZbU;rw[Zke,Ziw ps];cases ZcO k with
  | none=>rfl
  | some a=>cases ZbU ps<;>rfl
theorem ZxH (V:Vp v n c):∀ {kvs:List (Key×W)},(kvs.all fun p=>c.kp p.1)=true->(vD v n kvs).map (·.1)=kvs.map (·.1)
 | [],_=>rfl
 | (k,w)::kvs,h=>by
  rw[Ybf,Yaa] at h;show vK v n k::(vD v n kvs).map (·.1)=k::kvs.map (·.1);rw[ZxH V h.2];congr 1;cases k with
  | inl i=>simp only[vK,V.i i h.1]
  | inr x=>simp only[vK,V.s x h.1]
def ZtP (V:Vp v n c){g1:List (Ey×Ey)}{g0:List (Ex×Ex)}(s:SPs v n g1 g0):SE v n (Znx c g1) (ZiV g0):=fun ρ h e=>by
 unfold Znx at e ⊢;unfold ZiV;cases l:Ya7 h.n 512 with
 | false=>rw[l] at e;exact absurd rfl e
 | true=>
  rw[l] at e;simp only[cond_true] at e ⊢;rw[show av v n h++[O.dic []]=av v n (h.p (O.dic [])) by rw[Zth l];rfl,Zez l];cases q:ZeY g1 ρ (h.p (.dic [])) with
  | none=>rw[q] at e;exact absurd rfl e
  | some p=>
   obtain ⟨ps,h2⟩:=p;simp only[q] at e ⊢;simp only[Zp1 s ρ _ ps h2 q,Ziw,Zdh];cases k:ZbU ps with
   | none=>simp only[k] at e;exact absurd rfl e
   | some kvs=>
    cases o:h2.g h.n with
    | none=>simp only[k,o] at e;exact absurd rfl e
    | some o'=>
     cases o' with
     | dic l=>cases l with
      | cons _ _=>simp only[k,o] at e;exact absurd rfl e
      | nil=>
       simp only[k,o] at e ⊢;cases z:(kvs.all fun p=>c.kp p.1) && (decide (kvs.length<=15) && ndK (kvs.map (·.1))) with
       | false=>rw[z] at e;exact absurd rfl e
       | true=>
        have l:(vD v n kvs).length=kvs.length:=YaE ..;have I:=z;rw[Yaa] at I;simp only[Yan,vO,show vD v n ([]:List (Key×W))=[] from rfl,l,ZxH V I.1,I.2,cond_true,vr,vW,Zkp o]
     | _=>simp only[k,o] at e;exact absurd rfl e
end
section
variable {v:Str->Str} {n:Int->Int} {c:Gd} {f1 g1 k1:Ey} {f0 g0 k0:Ex} {a1:Ay} {a0:Exs} {F1:Fy} {F0:Fm} {A1 B1:My} {A0 B0:Sm} {G1 G0:Tg} {i1:Iy} {i0:Ei}
def Zys (I:SE v n f1 f0):SI v n (yIl f1) (xIl f0):=fun ρ h e=>by
 unfold yIl at e ⊢;unfold xIl;have q:=I ρ h;cases r:f1 ρ h with
 | no=>rw[r] at e;exact absurd rfl e
 | ex w h1=>rw[r] at q;rw[q (by simp)];rfl
 | ok w h1=>
  rw[r] at q e;rw[q (by simp)];cases w with
  | tl ws=>simp only[vr,vW,vi]
  | ref k=>
   simp only[vr,vW,Zdh] at e ⊢;cases z:h1.g k with
   | none=>simp only[z] at e;exact absurd rfl e
   | some o=>cases o with
    | lst ws=>simp only[Yan,vO,vi]
    | _=>simp only[z] at e;exact absurd rfl e
  | _=>exact absurd rfl e
def ZyS (z:SE v n f1 f0):SI v n (yIt f1) (xIt f0):=fun ρ h e=>by
 unfold yIt at e ⊢;unfold xIt;have q:=z ρ h;cases r:f1 ρ h with
 | no=>rw[r] at e;exact absurd rfl e
 | ex w h1=>rw[r] at q;rw[q (by simp)];rfl
 | ok w h1=>
  rw[r] at q e;rw[q (by simp)];cases w with
  | tup ws=>simp only[vr,vW,vi]
  | _=>exact absurd rfl e
def ZyJ (V:Vp v n c)(z:SE v n f1 f0):SI v n (yIs c f1) (xIs f0):=fun ρ h e=>by
 unfold yIs at e ⊢;unfold xIs;have q:=z ρ h;cases r:f1 ρ h with
 | no=>rw[r] at e;exact absurd rfl e
 | ex w h1=>rw[r] at q;rw[q (by simp)];rfl
 | ok w h1=>
  rw[r] at q e;rw[q (by simp)];cases w with
  | str x=>
   simp only[vr,vW] at e ⊢;cases y:c.s x && (signs x).all c.pl with
   | false=>simp only[y] at e;exact absurd rfl e
   | true=>rw[Yaa] at y;simp only[cond_true,vi,V.s x y.1,V.pls y.2]
  | _=>exact absurd rfl e
noncomputable def ZyA (V:Vp v n c)(z:SE v n f1 f0):SI v n (yIr c f1) (ZhL f0):=fun ρ h e=>by
 unfold yIr at e ⊢;unfold ZhL;have q:=z ρ h;cases r:f1 ρ h with
 | no=>rw[r] at e;exact absurd rfl e
 | ex w h1=>rw[r] at q;rw[q (by simp)];rfl
 | ok w h1=>
  rw[r] at q e;rw[q (by simp)];cases w with
  | int j=>
   simp only[vr,vW] at e ⊢;cases y:c.i j && ((ZiC 0 j.toNat).all c.pl && (decide (-(2 ^ 62)<=j) && decide (j<2 ^ 62))) with
   | false=>simp only[y] at e;exact absurd rfl e
   | true=>rw[Yaa,Yaa] at y;simp only[cond_true,vi,V.i j y.1,y.2.2,V.pls y.2.1]
  | _=>exact absurd rfl e
def Zw2 (ws:List W)(lo hi:Option Int):Zoe (vWs v n ws) lo hi=vWs v n (Zoe ws lo hi):=by
 unfold Zoe;simp only[ZbI,YaE,List.map_take,List.map_drop]
def Zx1 {s:SY}{a w:W}{lo hi:Option Int}(e:slY s.g a lo hi=some w):slM (av v n s) (vW v n a) lo hi=some (vW v n w):=by
 unfold slY at e;cases q:itY s.g a with
 | none=>rw[q] at e;cases e
 | some ws=>
  rw[q] at e;cases e;have:=ZaE (v:=v) (n:=n) q;unfold slM;cases z:vW v n a<;>rw[z] at this<;>first|(cases this;done)|(simp only[this,Yan,Zw2,vW])
def SO (v:Str->Str)(n:Int->Int)(c:Gd)(I:Option Ey)(z:Eo):Prop:=match I with
 | none=>z=xPn
 | some f1=>∃ f0,z=xPs f0/\SE v n f1 f0
def ZsC (V:Vp v n c)(I:SE v n f1 f0):yPs c f1 ρ s=.no\/(∃ w s1,yPs c f1 ρ s=.ex w s1/\xPs f0 (vR v n ρ) (av v n s)=.ex (vW v n w) (av v n s1))\/∃ w s1,yPs c f1 ρ s=.ok w s1/\((∃ i,w=.int i/\xPs f0 (vR v n ρ) (av v n s)=.ok (some i) (av v n s1))\/∀ i,w≠.int i):=by
 unfold yPs;have q:=I ρ s;cases r:f1 ρ s with
 | no=>exact .inl rfl
 | ex w s1=>rw[r] at q;exact .inr (.inl ⟨w,s1,rfl,by unfold xPs;rw[q (by simp)];rfl⟩)
 | ok w s1=>
  rw[r] at q;cases p:c.pl w with
  | false=>left;simp only[RY.b,p,cond_false]
  | true=>
   right;right;refine ⟨w,s1,by simp only[RY.b,p,cond_true],?_⟩;cases w with
   | int i=>exact .inl ⟨i,rfl,by unfold xPs;rw[q (by simp)];simp only[vr,V.pl p]⟩
   | _=>exact .inr (fun i z=>by cases z)
def ZyM (V:Vp v n c)(hf:SE v n f1 f0)(Y:SO v n c l1 l0)(hu:SO v n c u1 u0):SE v n (ySl c f1 l1 u1) (xSl slM f0 l0 u0):=fun ρ h e=>bnd hf (fun a h1 e=>by
 have U:∀ (lo:Option Int) (s:SY),(YaS (motive:=fun _=>RY) (ofY (slY s.g a lo none) s) (fun u=>(yPs c u ρ s).b fun j s2=>match j with
  | .int j=>ofY (slY s2.g a lo (some j)) s2
  | _=>.no) u1)≠.no->(match u0 (vR v n ρ) (av v n s) with
  | .ok hi h3=>Res.of (slM h3 (vW v n a) lo hi) h3
  | .ex w h3=>.ex w h3
  | .no=>.no)=vr v n (YaS (motive:=fun _=>RY) (ofY (slY s.g a lo none) s) (fun u=>(yPs c u ρ s).b fun j s2=>match j with
  | .int j=>ofY (slY s2.g a lo (some j)) s2
  | _=>.no) u1):=fun lo s e=>by
  cases u1 with
  | none=>
   have hu:u0=xPn:=hu;rw[hu];exact ofs (fun w=>Zx1) e
  | some u=>
   obtain ⟨f0,rfl,hu⟩:=hu;simp only at e ⊢;rcases ZsC V hu (ρ:=ρ) (s:=s) with z|⟨w,s1,J,I⟩|⟨w,s1,J,⟨i,rfl,I⟩|I⟩
   ·rw[z] at e;exact absurd rfl e
   ·rw[J,I];rfl
   ·rw[J] at e;rw[J,I];exact ofs (fun w=>Zx1) e
   ·rw[J] at e;cases w<;>first|exact absurd rfl (I _)|exact absurd rfl e
 cases l1 with
 | none=>
  have Y:l0=xPn:=Y;rw[Y];exact U none h1 e
 | some l=>
  obtain ⟨f0,rfl,Y⟩:=Y;simp only at e ⊢;rcases ZsC V Y (ρ:=ρ) (s:=h1) with z|⟨w,s1,J,I⟩|⟨w,s1,J,⟨i,rfl,I⟩|I⟩
  ·rw[z] at e;exact absurd rfl e
  ·rw[J,I];rfl
  ·rw[J] at e;rw[J,I];exact U (some i) s1 e
  ·rw[J] at e;cases w<;>first|exact absurd rfl (I _)|exact absurd rfl e) e
def ZwG (h:sW_ a b=true):a=b:=by
 unfold sW_ at h;cases a with
 | int i=>cases b with
  | int j=>simp only[Zg4,decide_eq_true_eq] at h;rw[h]
  | _=>cases h
 | str i=>cases b with
  | str j=>simp only[Za0,decide_eq_true_eq] at h;rw[h]
  | _=>cases h
 | ref i=>cases b with
  | ref j=>rw[Nat.eq_of_beq_eq_true h]
  | _=>cases h
 | _=>cases h
theorem Zmb:∀ {a b:List W},sWs a b=true->a=b
 | [],[],_=>rfl
 | [],_::_,h=>by cases h
 | _::_,[],h=>by cases h
 | a::r,b::s,h=>by
  have h:(sW_ a b && sWs r s)=true:=h;rw[Yaa] at h;rw[ZwG h.1,Zmb h.2]
def ZoK (e:Zor s.g k xs=true):(av v n s)[k]?=some (.lst (vWs v n xs)):=by
 unfold Zor at e;rw[Zdh];cases q:s.g k with
 | none=>simp only[q] at e;cases e
 | some o=>cases o<;>simp only[q] at e<;>first | (cases e;done) | (rw[Zmb e];rfl)
def ZsF (e:ZhB src all s.g=true):ZhK src (vWs v n all) (av v n s):=by
 cases src with
 | none=>trivial
 | some k=>exact ZoK e
def ZvX (own:Nat)(ix:List Nat)(ρ:Sg):ρC own ix (vR v n ρ)=vR v n (ρC own ix ρ):=by
 unfold ρC vR;rw[Ycg,List.map_replicate,YbS];congr 1;refine YcV fun j _=>?_
 rw[Function.comp,YaU];cases ρ[j]? with
 | none=>rfl
 | some o=>rfl
def Zu6:Zqh src all G cc el ρ0 n0 (w::r) s=bif ZhB src all s.g then (match G w ρ0 with
  | none=>none
  | some ρ=>RY.rec (motive:=fun _=>Option SY) (fun b s1=>wB b none fun b=>bif b then RY.rec (motive:=fun _=>Option SY) (fun x s2=>match s2.g n0 with
    | some (.lst z)=>bif decide (z.length<Yai) then Zqh src all G cc el ρ0 n0 r (s2.u n0 (.lst (z++[x]))) else none
    | _=>none) (fun _ _=>none) none (el ρ s1) else Zqh src all G cc el ρ0 n0 r s1) (fun _ _=>none) none (cc ρ s)) else none:=rfl
theorem Zj3 (hg:ST v n G1 G0)(hc:SE v n f1 f0)(U:SE v n g1 g0)(src:Option Nat)(I:List W)(J:Sg)(m:Nat):∀ (ws:List W) (h h':SY),Zqh src I G1 f1 g1 J m ws h=some h'->Zcd src (vWs v n I) G0 f0 g0 (vR v n J) m (vWs v n ws) (av v n h)=some (av v n h')
 | [],h,h',e=>by
  rw[Zai];have e:(bif ZhB src I h.g then some h else none)=some h':=e;unfold Zcd;cases q:ZhB src I h.g with
  | false=>rw[q] at e;cases e
  | true=>rw[q] at e;cases e;rw[if_pos (ZsF q)]
 | w::r,h,h',e=>by
  rw[Zaf];rw[Zu6] at e;unfold Zcd;cases q:ZhB src I h.g with
  | false=>rw[q] at e;cases e
  | true=>
   rw[q] at e;rw[if_pos (ZsF q)];simp only[cond_true] at e;cases q:G1 w J with
   | none=>rw[q] at e;cases e
   | some ρ=>
    simp only[q] at e;simp only[hg w J ρ q];have z:=hc ρ h;cases y:f1 ρ h with
    | no=>rw[y] at e;cases e
    | ex _ _=>rw[y] at e;cases e
    | ok t h1=>
     rw[y] at z e;rw[z (by simp)];cases t with
     | bl b=>cases b with
      | false=>exact Zj3 hg hc U src I J m r h1 h' e
      | true=>
       simp only[vr,vW,wB,cond_true] at e ⊢;have z2:=U ρ h1;cases x:g1 ρ h1 with
       | no=>rw[x] at e;cases e
       | ex _ _=>rw[x] at e;cases e
       | ok u h2=>
        rw[x] at z2;simp only[x] at e;simp only[z2 (by simp),vr,Zdh];cases p:h2.g m with
        | none=>simp only[p] at e;cases e
        | some o=>cases o with
         | lst Y=>
          simp only[p] at e;simp only[Yan,vO,Zaw];cases d:decide (Y.length<Yai) with
          | false=>rw[d] at e;cases e
          | true=>
           rw[d] at e;have:=Zj3 hg hc U src I J m r _ h' e;rw[Zkp p] at this;simp only[vO,ZbQ,Zaf,Zai] at this ⊢;exact this
         | _=>simp only[p] at e;cases e
     | _=>cases e
def ZqJ (own:Nat)(ix:List Nat)(hi:SI v n i1 i0)(I:ST v n G1 G0)(J:SE v n f1 f0)(z:SE v n g1 g0):SE v n (Zna i1 own ix G1 f1 g1) (ZcA i0 own ix G0 f0 g0):=fun ρ h e=>by
 unfold Zna at e ⊢;unfold ZcA;have q:=hi ρ h;cases r:i1 ρ h with
 | no=>rw[r] at e;exact absurd rfl e
 | ex w h1=>rw[r] at q;rw[q (by simp)];rfl
 | ok s ws h1=>
  rw[r] at q e;rw[q (by simp)];simp only[vi] at e ⊢;cases l:Ya7 h1.n 512 with
  | false=>rw[l] at e;exact absurd rfl e
  | true=>
   rw[l] at e;simp only[cond_true] at e ⊢;cases y:Zqh s ws G1 f1 g1 (ρC own ix ρ) h1.n ws (h1.p (.lst [])) with
   | none=>rw[y] at e;exact absurd rfl e
   | some h2=>
    have:=Zj3 I J z s ws (ρC own ix ρ) h1.n ws _ h2 y;rw[Zth l] at this;rw[ZvX,Zez l];rw[show vO v n (O.lst [])=O.lst [] by simp only[vO,Zai]] at this;simp only[this,vr,vW]
def NY (f:Ey):Prop:=∀ ρ s w s',f ρ s=.ok w s'->s'=s
mutual
theorem ZxI (k:Nat):∀ w,ltW k w=true->ltW k (vW v n w)=true:=fun w h=>by
 cases w with
 | ti a fs ws=>
  simp only[vW];cases eqN a "$" with
  | true=>
   simp only[cond_true,scW,ltW]
   induction (v scr).cps.toList with
   | nil=>simp only[YcZ,Za7]
   | cons x l z=>simp only[Yap,Za7,ltW,z,Ydz]
  | false=>unfold ltW at h;simp only[cond_false,ltW];exact Zhe k _ h
 | tup ws=>unfold ltW at h;simp only[vW,ltW];exact Zhe k _ h
 | tl ws=>unfold ltW at h;simp only[vW,ltW];exact Zhe k _ h
 | td ks ws=>unfold ltW at h;simp only[vW,ltW];exact Zhe k _ h
 | exc a b ws=>unfold ltW at h;simp only[vW,ltW];exact Zhe k _ h
 | _=>unfold ltW at h;simp only[vW,ltW]<;>exact h
theorem Zhe (k:Nat):∀ ws,Za7 k ws=true->Za7 k (vWs v n ws)=true:=fun ws h=>by
 cases ws with
 | nil=>simp only[vWs,Za7]
 | cons w ws=>unfold Za7 at h;rw[Yaa] at h;simp only[vWs,Za7,ZxI k w h.1,Zhe k ws h.2,Ydz]
end
def ZuU:Zmu G cc el ρ0 s (w::r) acc=(match G w ρ0 with
  | none=>none
  | some ρ=>RY.rec (motive:=fun _=>Option (List W)) (fun b _=>wB b none fun b=>bif b then RY.rec (motive:=fun _=>Option (List W)) (fun x _=>bif ltW s.n x then Zmu G cc el ρ0 s r (acc++[x]) else none) (fun _ _=>none) none (el ρ (s.p (.lst acc))) else Zmu G cc el ρ0 s r acc) (fun _ _=>none) none (cc ρ (s.p (.lst acc)))):=rfl
theorem ZkV (hg:ST v n G1 G0)(hc:SE v n f1 f0)(nc:NY f1)(he:SE v n g1 g0)(Y:NY g1)(J:Sg)(h:SY)(U:Ya7 h.n 512=true):∀ (ws I out:List W),Zmu G1 f1 g1 J h ws I=some out->ZdZ G0 (pu f0) (pu g0) (vR v n J) (av v n h) (vWs v n ws) (vWs v n I)=some (vWs v n out)
 | [],I,out,e=>by
  rw[Zai];have e:some I=some out:=e;unfold ZdZ;cases e;rfl
 | w::r,I,out,e=>by
  rw[Zaf];rw[ZuU] at e;unfold ZdZ;cases q:G1 w J with
  | none=>rw[q] at e;cases e
  | some ρ=>
   simp only[q] at e;simp only[hg w J ρ q];have k:av v n h++[O.lst (vWs v n I)]=av v n (h.p (.lst I)):=by rw[Zth U];rfl
   rw[k];have z:=hc ρ (h.p (.lst I));cases y:f1 ρ (h.p (.lst I)) with
   | no=>rw[y] at e;cases e
   | ex _ _=>rw[y] at e;cases e
   | ok t h1=>
    obtain rfl:=nc _ _ _ _ y;rw[y] at z e;rw[Zfn (z (by simp))];cases t with
    | bl b=>cases b with
     | false=>exact ZkV hg hc nc he Y J h U r I out e
     | true=>
      simp only[vW,wB,cond_true] at e ⊢;have z2:=he ρ (h.p (.lst I));cases x:g1 ρ (h.p (.lst I)) with
      | no=>rw[x] at e;cases e
      | ex _ _=>rw[x] at e;cases e
      | ok u h2=>
       obtain rfl:=Y _ _ _ _ x;rw[x] at z2;simp only[x] at e;rw[Zfn (z2 (by simp))];simp only;cases l:ltW h.n u with
       | false=>rw[l] at e;cases e
       | true=>
        rw[l] at e;rw[Zez U,if_pos (ZxI _ _ l)];have:=ZkV hg hc nc he Y J h U r (I++[u]) out e;simp only[ZbQ,Zaf,Zai] at this;exact this
    | _=>cases e
def Zmf (own:Nat)(ix:List Nat)(hi:SI v n i1 i0)(J:ST v n G1 G0)(U:SE v n f1 f0)(nc:NY f1)(I:SE v n g1 g0)(z:NY g1):SE v n (Zhl i1 own ix G1 f1 g1) (Za9 i0 own ix G0 (pu f0) (pu g0)):=fun ρ h e=>by
 unfold Zhl at e ⊢;unfold Za9;have q:=hi ρ h;cases r:i1 ρ h with
 | no=>rw[r] at e;exact absurd rfl e
 | ex w h1=>rw[r] at q;rw[q (by simp)];rfl
 | ok s ws h1=>
  rw[r] at q e;rw[q (by simp)];simp only[vi,Zaw] at e ⊢;cases l:Ya7 h1.n 512 && decide (ws.length<Yai) with
  | false=>rw[l] at e;exact absurd rfl e
  | true=>
   rw[l] at e;rw[Yaa,decide_eq_true_eq] at l;simp only[cond_true] at e ⊢;rw[if_pos l.2];cases y:Zmu G1 f1 g1 (ρC own ix ρ) h1 ws [] with
   | none=>rw[y] at e;exact absurd rfl e
   | some out=>
    have:=ZkV J U nc I z (ρC own ix ρ) h1 l.1 ws [] out y;rw[Zai] at this;rw[ZvX];simp only[this,vr,vW]
def Zr6 (own:Nat)(ix:List Nat)(hi:SE v n k1 k0)(U:ST v n G1 G0)(Y:SE v n f1 f0)(nc:NY f1)(J:SE v n g1 g0)(I:NY g1):SE v n (ZlA k1 own ix G1 f1 g1) (Zds k0 own ix G0 (pu f0) (pu g0)):=fun ρ h e=>by
 unfold ZlA at e ⊢;unfold Zds;have q:=hi ρ h;cases r:k1 ρ h with
 | no=>rw[r] at e;exact absurd rfl e
 | ex w h1=>rw[r] at q;rw[q (by simp)];rfl
 | ok w h1=>
  rw[r] at q e;rw[q (by simp)];cases w with
  | ref k=>
   simp only[RY.b,vr,vW,Zdh] at e ⊢;cases z:h1.g k with
   | none=>simp only[z] at e;exact absurd rfl e
   | some o=>cases o with
    | dic kvs=>
     simp only[z,Yan,vO,Zfm,Zaw] at e ⊢;cases l:Ya7 h1.n 512 && decide ((Zax kvs).length<Yai) with
     | false=>rw[l] at e;exact absurd rfl e
     | true=>
      rw[l] at e;rw[Yaa,decide_eq_true_eq] at l;simp only[cond_true] at e ⊢;rw[if_pos l.2];cases y:Zmu G1 f1 g1 (ρC own ix ρ) (h1.u k (.fdic kvs)) (Zax kvs) [] with
      | none=>rw[y] at e;exact absurd rfl e
      | some out=>
       have:=ZkV U Y nc J I (ρC own ix ρ) (h1.u k (.fdic kvs)) l.1 (Zax kvs) [] out y;rw[Zai,Zkp z] at this;rw[ZvX];simp only[vO] at this;simp only[this,vr,vW]
    | _=>simp only[z] at e;exact absurd rfl e
  | _=>exact absurd rfl e
end
section
variable {v:Str->Str} {n:Int->Int} {c:Gd} {f1 g1 k1:Ey} {f0 g0 k0:Ex} {a1:Ay} {a0:Exs} {F1:Fy} {F0:Fm} {A1 B1:My} {A0 B0:Sm} {G1 G0:Tg} {i1:Iy} {i0:Ei}
def Zg2 (ρ:Sg)(i:Nat)(w:W):vR v n (ρ.set i (some w))=(vR v n ρ).set i (some (vW v n w)):=by unfold vR;rw[Yew];rfl
def ZoJ (ρ:Sg)(i:Nat):vR v n (ρ.set i none)=(vR v n ρ).set i none:=by unfold vR;rw[Yew];rfl
def t_n (i:Nat):ST v n (gN i) (gN i):=fun w ρ z e=>by cases e;unfold gN;rw[Zg2]
def t_2 (i j:Nat):ST v n (gT2 i j) (gT2 i j):=fun w ρ z e=>by
 unfold gT2 at e ⊢;split at e
 ·cases e;simp only[vW,vWs,Zg2]
 ·cases e
theorem t_s:∀ l,ST v n (gTs l) (gTs l)
 | []=>fun _ _ _ e=>by cases e
 | [i]=>t_n i
 | [i,j]=>t_2 i j
 | _::_::_::_=>fun _ _ _ e=>by cases e
def Zvd:SS v n yM f:=fun _ _ e=>absurd rfl e
def ZrE:SS v n Zq1 Zjw:=fun ρ h _=>rfl
def ZwL (z:SS v n A1 A0)(I:SS v n B1 B0):SS v n (Zwf A1 B1) (Zf2 A0 B0):=fun ρ h e=>by
 unfold Zwf at e ⊢;unfold Zf2;have q:=z ρ h;cases r:A1 ρ h<;>rw[r] at q e<;>first|exact absurd rfl e|(rw[q (by simp)];first|rfl|exact I _ _ e)
def bno {k1:W->SY->OY}{k0:W->Mem->Out}(z:SE v n f1 f0)(I:∀ w h,k1 w h≠.no->k0 (vW v n w) (av v n h)=vo v n (k1 w h)){ρ:Sg}{h:SY}(e:(f1 ρ h).o k1≠.no) :
  (match f0 (vR v n ρ) (av v n h) with | .ok w h1=>k0 w h1 | .ex w h1=>.ex w h1 | .no=>.no:Out)=vo v n ((f1 ρ h).o k1):=by
 have q:=z ρ h;cases r:f1 ρ h with
 | no=>rw[r] at e;exact absurd rfl e
 | ex w h1=>rw[r] at q;rw[q (by simp)];rfl
 | ok w h1=>rw[r] at q e;rw[q (by simp)];exact I w h1 e
def Zv5 (z:SE v n f1 f0):SS v n (ZxV f1) (Zqp f0):=fun ρ h e=>bno (k0:=fun w h=>.rt w h) z (fun _ _ _=>rfl) e
def ZqG (z:SE v n f1 f0):SS v n (Zsr f1) (ZiD f0):=fun ρ h e=>bno (k0:=fun w h=>.nx (vR v n ρ) h) z (fun _ _ _=>rfl) e
def Znt (i:Nat)(z:SE v n f1 f0):SS v n (Zt6 i f1) (ZdJ (gN i) f0):=fun ρ h e=>
 bno (k0:=fun w h=>match gN i w (vR v n ρ) with | some ρ'=>.nx ρ' h | none=>.no) z (fun w h e=>by
  show Out.nx _ _=Out.nx (vR v n (lu ρ i (some w))) _;rw[ZsI,Zg2]) e
def Zvs (z:SE v n f1 f0)(I:SS v n A1 A0)(J:SS v n B1 B0):SS v n (Zvi f1 A1 B1) (Zp5 f0 A0 B0):=fun ρ h e=>by
 unfold Zvi at e ⊢;unfold Zp5;have q:=z ρ h;cases r:f1 ρ h with
 | no=>rw[r] at e;exact absurd rfl e
 | ex w h1=>rw[r] at q;rw[q (by simp)];rfl
 | ok w h1=>
  rw[r] at q e;rw[q (by simp)];cases w with
  | bl b=>cases b with
   | true=>exact I ρ h1 e
   | false=>exact J ρ h1 e
  | _=>exact absurd rfl e
def Zuz:ZbO src all G B (w::r) ρ s=bif ZhB src all s.g then YaS (motive:=fun _=>OY) .no (fun z=>OY.rec (motive:=fun _=>OY) (ZbO src all G B r) .rt .nx (ZbO src all G B r) .ex .no (B z s)) (G w ρ) else .no:=rfl
theorem ZgS (U:ST v n G1 G0)(Y:SS v n B1 B0):∀ (ws:List W) (ρ:Sg) (h:SY),ZbO none [] G1 B1 ws ρ h≠.no->ZbN G0 B0 (vWs v n ws) (vR v n ρ) (av v n h)=vo v n (ZbO none [] G1 B1 ws ρ h)
 | [],ρ,h,e=>by rw[Zai];unfold ZbN;rfl
 | w::r,ρ,h,e=>by
  rw[Zaf];rw[Zuz] at e ⊢;unfold ZbN;simp only[ZhB,cond_true] at e ⊢;cases q:G1 w ρ with
  | none=>rw[q] at e;exact absurd rfl e
  | some J=>
   simp only[q] at e ⊢;simp only[U w ρ J q];have z:=Y J h;cases y:B1 J h with
   | nx I h2=>simp only[y] at e ⊢;simp only[z (by rw[y];simp),y,vo];exact ZgS U Y r I h2 e
   | ct I h2=>simp only[y] at e ⊢;simp only[z (by rw[y];simp),y,vo];exact ZgS U Y r I h2 e
   | no=>simp only[y] at e;exact absurd rfl e
   | _=>simp only[z (by rw[y];simp),y,vo]
theorem Zq8:∀ (ws:List W) (ρ:Sg) (s:SY),ZbO none all G B ws ρ s=ZbO none [] G B ws ρ s
 | [],ρ,s=>rfl
 | w::r,ρ,s=>by
  rw[Zuz,Zuz];simp only[ZhB];have:ZbO none all G B r=ZbO none [] G B r:=by funext ρ s;exact Zq8 r ρ s
  rw[this]
theorem Zge (hg:ST v n G1 G0)(Y:SS v n B1 B0)(m:Nat)(I:List W):∀ (ws:List W) (ρ:Sg) (h:SY),ZbO (some m) I G1 B1 ws ρ h≠.no->Zbh G0 B0 m (vWs v n I) (vWs v n ws) (vR v n ρ) (av v n h)=vo v n (ZbO (some m) I G1 B1 ws ρ h)
 | [],ρ,h,e=>by
  rw[Zai];unfold Zbh;have e:(bif Zor h.g m I then OY.nx ρ h else .no)≠.no:=e;show _=vo v n (bif Zor h.g m I then OY.nx ρ h else .no);cases q:Zor h.g m I with
  | false=>rw[q] at e;exact absurd rfl e
  | true=>rw[if_pos (ZoK q)];rfl
 | w::r,ρ,h,e=>by
  rw[Zaf];rw[Zuz] at e ⊢;unfold Zbh;simp only[ZhB] at e ⊢;cases q:Zor h.g m I with
  | false=>rw[q] at e;exact absurd rfl e
  | true=>
   rw[q] at e;rw[if_pos (ZoK q)];simp only[cond_true] at e ⊢;cases q:G1 w ρ with
   | none=>rw[q] at e;exact absurd rfl e
   | some U=>
    simp only[q] at e ⊢;simp only[hg w ρ U q];have z:=Y U h;cases y:B1 U h with
    | nx J h2=>simp only[y] at e ⊢;simp only[z (by rw[y];simp),y,vo];exact Zge hg Y m I r J h2 e
    | ct J h2=>simp only[y] at e ⊢;simp only[z (by rw[y];simp),y,vo];exact Zge hg Y m I r J h2 e
    | no=>simp only[y] at e;exact absurd rfl e
    | _=>simp only[z (by rw[y];simp),y,vo]
def Zt2 (hi:SI v n i1 i0)(z:ST v n G1 G0)(I:SS v n B1 B0):SS v n (Zvk i1 G1 B1) (ZhA i0 G0 B0):=fun ρ h e=>by
 unfold Zvk at e ⊢;unfold ZhA;have q:=hi ρ h;cases r:i1 ρ h with
 | no=>rw[r] at e;exact absurd rfl e
 | ex w h1=>rw[r] at q;rw[q (by simp)];rfl
 | ok s ws h1=>
  rw[r] at q e;rw[q (by simp)];cases s with
  | none=>simp only[Zq8] at e ⊢;exact ZgS z I ws ρ h1 e
  | some m=>exact Zge z I m ws ws ρ h1 e
def Zq4 (hf:SE v n f1 f0)(hg:ST v n G1 G0)(hb:SS v n B1 B0):SS v n (Zpf f1 G1 B1) (ZhS f0 G0 B0):=fun ρ h e=>by
 unfold Zpf at e ⊢;unfold ZhS;have q:=hf ρ h;cases r:f1 ρ h with
 | no=>rw[r] at e;exact absurd rfl e
 | ex w h1=>rw[r] at q;rw[q (by simp)];rfl
 | ok w h1=>
  rw[r] at q e;rw[q (by simp)];cases w with
  | ref k=>
   simp only[RY.o,vr,vW,Zdh] at e ⊢;cases z:h1.g k with
   | none=>simp only[z] at e;exact absurd rfl e
   | some o=>cases o with
    | dic kvs=>
     simp only[z,Yan,vO,Zfm] at e ⊢;have l:=ZgS hg hb (Zax kvs) ρ (h1.u k (.fdic kvs));rw[Zkp z] at l;simp only[vO] at l;have th:∀ (s2:SY) (U:SY->OY) (Y:Mem->Out),(∀ I,Y (av v n I)=vo v n (U I))->Zka k s2 U≠.no->(match Zc6 k (av v n s2) with | some h'=>Y h' | none=>.no)=vo v n (Zka k s2 U):=fun s2 U Y hK e=>by
      unfold Zka at e ⊢;unfold Zc6;rw[Zdh];cases y:s2.g k with
      | none=>simp only[y] at e;exact absurd rfl e
      | some o=>cases o with
       | fdic l=>simp only[Yan,vO,<-hK,Zkp y]
       | _=>simp only[y] at e;exact absurd rfl e
     cases y:ZbO none [] G1 B1 (Zax kvs) ρ (h1.u k (.fdic kvs)) with
     | nx J s2=>rw[y] at l e;rw[l (by simp)];exact th s2 (fun I=>.nx J I) (fun h'=>.nx (vR v n J) h') (fun _=>rfl) e
     | rt w s2=>rw[y] at l e;rw[l (by simp)];exact th s2 (fun I=>.rt w I) (fun h'=>.rt (vW v n w) h') (fun _=>rfl) e
     | _=>rw[y] at e;exact absurd rfl e
    | _=>simp only[z] at e;exact absurd rfl e
  | _=>exact absurd rfl e
theorem ZfN (U:SE v n f1 f0)(J:SS v n B1 B0):∀ m,SS v n (ZeC f1 B1 m) (Zbw f0 B0 m)
 | 0,ρ,h,e=>absurd rfl e
 | m+1,ρ,h,e=>by
  have u:ZeC f1 B1 (m+1) ρ h=(f1 ρ h).o fun w s1=>wB w .no fun b=>bif b then OY.rec (motive:=fun _=>OY) (ZeC f1 B1 m) .rt .nx (ZeC f1 B1 m) .ex .no (B1 ρ s1) else .nx ρ s1:=rfl
  rw[u] at e ⊢;unfold Zbw;have q:=U ρ h;cases r:f1 ρ h with
  | no=>rw[r] at e;exact absurd rfl e
  | ex w h1=>rw[r] at q;rw[q (by simp)];rfl
  | ok w h1=>
   rw[r] at q e;rw[q (by simp)];cases w with
   | bl b=>cases b with
    | true=>
     have z:=J ρ h1;simp only[RY.o,wB,cond_true,vr,vW] at e ⊢;cases y:B1 ρ h1 with
     | nx I h2=>simp only[y] at e ⊢;simp only[z (by rw[y];simp),y,vo];exact ZfN U J m I h2 e
     | ct I h2=>simp only[y] at e ⊢;simp only[z (by rw[y];simp),y,vo];exact ZfN U J m I h2 e
     | no=>simp only[y] at e;exact absurd rfl e
     | _=>simp only[z (by rw[y];simp),y,vo]
    | false=>rfl
   | _=>exact absurd rfl e
def Zsd (x:Str)(U:SE v n f1 f0)(Y:SE v n g1 g0):SS v n (ZnK x f1 g1) (Zi1 x f0 g0):=fun ρ h e=>by
 unfold ZnK at e ⊢;unfold Zi1;have q:=Y ρ h;cases r:g1 ρ h with
 | no=>rw[r] at e;exact absurd rfl e
 | ex w h1=>rw[r] at q;rw[q (by simp)];rfl
 | ok y h1=>
  rw[r] at e q;rw[q (by simp)];simp only[vr,RY.o] at e ⊢;have I:=U ρ h1;cases J:f1 ρ h1 with
  | no=>rw[J] at e;exact absurd rfl e
  | ex w h2=>rw[J] at I;rw[I (by simp)];rfl
  | ok w h2=>
   rw[J] at e I;rw[I (by simp)];obtain ⟨k,rfl⟩:=Zcw e;obtain ⟨c,fs,z⟩:=ZmY e;simp only[onR,z,onI,vr,vW,Zdh,Yan,vO] at e ⊢;have l:(vF v n fs).length=fs.length:=YaE ..;rw[l];cases d:decide (fs.length<1000) with
   | false=>rw[d] at e;exact absurd rfl e
   | true=>simp only[cond_true,vo,Zkp z,vO,ZmR]
def Zrr (V:Vp v n c)(ho:SE v n f1 f0)(hi:SE v n g1 g0)(I:SE v n k1 k0):SS v n (Zpd c f1 g1 k1) (ZjW f0 g0 k0):=fun ρ h e=>by
 unfold Zpd at e ⊢;unfold ZjW;have q:=I ρ h;cases r:k1 ρ h with
 | no=>rw[r] at e;exact absurd rfl e
 | ex w h1=>rw[r] at q;rw[q (by simp)];rfl
 | ok y h1=>
  rw[r] at q e;rw[q (by simp)];simp only[vr,RY.o] at e ⊢;have q:=ho ρ h1;cases r:f1 ρ h1 with
  | no=>rw[r] at e;exact absurd rfl e
  | ex w h2=>rw[r] at q;rw[q (by simp)];rfl
  | ok o h2=>
   rw[r] at q e;rw[q (by simp)];simp only[vr] at e ⊢;have q:=hi ρ h2;cases r:g1 ρ h2 with
   | no=>rw[r] at e;exact absurd rfl e
   | ex w h3=>rw[r] at q;rw[q (by simp)];rfl
   | ok i h3=>
    rw[r] at q e;rw[q (by simp)];simp only[vr] at e ⊢;obtain ⟨k,rfl⟩:=Zcw e;obtain ⟨kvs,q⟩:=ZjB e;simp only[onR,q,onD,vW,setD,Zdh,Zke,Yan,vO] at e ⊢;cases p:ZcO i with
    | none=>rw[p] at e;exact absurd rfl e
    | some l=>
     rw[p] at e;cases d:decide (kvs.length<Yai) with
     | false=>simp only[d] at e;exact absurd rfl e
     | true=>
      simp only[d,cond_true] at e ⊢;cases z:pkY c l y kvs with
      | none=>rw[z] at e;exact absurd rfl e
      | some t=>
       have J:(vD v n kvs).length=kvs.length:=YaE ..;simp only[Yan,J,if_pos (of_decide_eq_true d),vo,Zkp q,vO,ZuZ V z]
def ZoB (k:Str)(z:SX v n a1 a0):SS v n (yRz k a1) (ZeV k a0):=fun ρ h e=>by
 unfold yRz at e ⊢;unfold ZeV;have q:=z ρ h;cases r:a1 ρ h with
 | no=>rw[r] at e;exact absurd rfl e
 | ex w h1=>rw[r] at q;rw[q (by simp)];rfl
 | ok ws h1=>
  rw[r] at e q;rw[q (by simp)];simp only[vl,Zaw,Zkr] at e ⊢;cases d:decide (ws.length<=Yai) with
  | false=>rw[d] at e;exact absurd rfl e
  | true=>simp only[cond_true,vo,vW,vWs]
def ZlQ (k x:Str)(z:SX v n a1 a0):SS v n (Zvn k x a1) (Zcy k x a0):=fun ρ h e=>by
 unfold Zvn at e ⊢;unfold Zcy;have q:=z ρ h;cases r:a1 ρ h with
 | no=>rw[r] at e;exact absurd rfl e
 | ex w h1=>rw[r] at q;rw[q (by simp)];rfl
 | ok ws h1=>
  rw[r] at e q;rw[q (by simp)];simp only[vl] at e ⊢
  match ws,e with
  | [w],e=>simp only[vWs,vo,vW]
  | [],e=>exact absurd rfl e
  | _::_::_,e=>exact absurd rfl e
theorem Zmj:∀ (asg:List Nat) (ρ:Sg),vR v n (fgt asg ρ)=fgt asg (vR v n ρ)
 | [],_=>rfl
 | i::r,ρ=>by unfold fgt;rw[Zmj r];congr 1;unfold vR;rw[Yew];rfl
def Zvp (sub:Str->Bool)(i:Nat)(asg:List Nat)(I:SS v n A1 A0)(J:SS v n B1 B0):SS v n (Zxh sub i asg A1 B1) (Zry sub i asg A0 B0):=fun ρ h e=>by
 unfold Zxh at e ⊢;unfold Zry;have q:=I ρ h;cases r:A1 ρ h with
 | ex w h1=>
  rw[r] at e q;rw[q (by simp)];simp only[vo] at e ⊢;cases w with
  | exc k fs ws=>
   simp only[vW] at e ⊢;cases d:sub k with
   | false=>rw[d] at e;exact absurd rfl e
   | true=>
    rw[d] at e;simp only[cond_true,ZsI] at e ⊢;have z:=J ((fgt asg ρ).set i (some (.exc k fs ws))) h1;rw[Zg2,Zmj] at z;simp only[vW] at z;cases y:B1 ((fgt asg ρ).set i (some (.exc k fs ws))) h1<;>rw[y] at z e<;>first|exact absurd rfl e|(rw[z (by simp)];simp only[Zwo,vo,ZoJ])
  | _=>exact absurd rfl e
 | no=>rw[r] at e;exact absurd rfl e
 | _=>rw[r] at q;rw[q (by simp)];rfl
end
section
variable {c:Gd} {C1:Cy}
def Zdz (z:NY f)(I:∀ a s w s',k a s=.ok w s'->s'=s)(e:(f ρ s).b k=.ok w s'):s'=s:=by
 cases r:f ρ s with
 | ok a s1=>rw[r] at e;rw[<-z _ _ _ _ r];exact I _ _ _ _ e
 | _=>rw[r] at e;cases e
def ZnN (e:ofY o s=.ok w s'):s'=s:=by cases o<;>cases e;rfl
def Zca (w:W):NY (yC w):=fun _ _ _ _ e=>by cases e;rfl
def Zc3:NY yE:=fun _ _ _ _ e=>by cases e
def Ziv:NY (bif b then yC w else yE):=by cases b;exact Zc3;exact Zca w
def Ze8 (z:NY f)(I:NY g):NY (Zm7 p f g):=fun ρ h w h' e=>Zdz z (fun a h w h' e=>Zdz I (fun b h w h' e=>ZnN e) e) e
def Zto (z:NY f):NY (yUn p f):=fun ρ h w h' e=>Zdz z (fun a h w h' e=>ZnN e) e
def ZmE (z:NY f):NY (ZuJ f):=fun ρ h w h' e=>Zdz z (fun a h w h' e=>by cases a<;>cases e;rfl) e
def Zmz (z:NY f)(I:NY g):NY (ZuB f g):=fun ρ h w h' e=>Zdz z (fun a h w h' e=>by
 cases a with
 | bl b=>cases b with
  | true=>exact I _ _ _ _ e
  | false=>cases e;rfl
 | _=>cases e) e
def ZqK (z:NY f)(I:NY g):NY (yOr f g):=fun ρ h w h' e=>Zdz z (fun a h w h' e=>by
 cases a with
 | bl b=>cases b with
  | false=>exact I _ _ _ _ e
  | true=>cases e;rfl
 | _=>cases e) e
def NA' (f:Ay):Prop:=∀ ρ s w s',f ρ s=.ok w s'->s'=s
def ZtN (z:NA' f):NY (ZuQ f):=fun ρ h w h' e=>by
 unfold ZuQ at e;cases r:f ρ h with
 | ok ws s1=>
  rw[r] at e;rw[<-z _ _ _ _ r];have e:(bif Zkr ws then RY.ok (.tup ws) s1 else .no)=.ok w h':=e;cases q:Zkr ws with
  | true=>rw[q] at e;cases e;rfl
  | false=>rw[q] at e;cases e
 | _=>rw[r] at e;cases e
def ZnC (z:NY f)(I:NA' g):NA' (ZhU f g):=fun ρ h w h' e=>by
 unfold ZhU at e;cases r:f ρ h with
 | ok a s1=>
  rw[r] at e;rw[<-z _ _ _ _ r];cases q:g ρ s1 with
  | ok ws s2=>simp only[q] at e;cases e;exact I _ _ _ _ q
  | _=>simp only[q] at e;cases e
 | _=>rw[r] at e;cases e
def Za3:NA' yA:=fun _ _ _ _ e=>by cases e
structure Nh (c:Gd)(C:Cy)(r:R):Prop where
 e:NY (eF c C r).e
 a:NA' (eF c C r).a
 t:NY (eF c C r).t
 q:NY (eF c C r).q
def Zsa (i:Nat):NY (Zq3 i):=fun ρ s w s' e=>by
 unfold Zq3 at e;cases r:lg ρ i with
 | none=>rw[r] at e;cases e
 | some o=>rw[r] at e;exact ZnN e
def ZiM (r:R):nh r=true->Nh c C1 r:=by
 induction r with
 | v i=>exact fun _=>⟨Zsa i,Za3,Zc3,Zca _⟩
 | kn=>exact fun _=>⟨Zca _,Za3,Zc3,Zca _⟩
 | kb b=>exact fun _=>⟨Zca _,Za3,Zc3,Zca _⟩
 | ki i=>exact fun _=>⟨Ziv,Za3,Zc3,Zca _⟩
 | ks x=>exact fun _=>⟨Ziv,Za3,Zc3,Zca _⟩
 | g x i=>exact fun _=>⟨Ziv,Za3,Zc3,Zca _⟩
 | bin o a b A B=>exact fun h=>by have h:=Ybe.mp h;exact ⟨Ze8 (A h.1).e (B h.2).e,Za3,Zc3,Zca _⟩
 | cmp o a b A B=>exact fun h=>by have h:=Ybe.mp h;exact ⟨Ze8 (A h.1).e (B h.2).e,Za3,Ze8 (A h.1).e (B h.2).e,Zca _⟩
 | un o a A=>exact fun h=>⟨Zto (A h).e,Za3,Zc3,Zca _⟩
 | ix a b A B=>exact fun h=>by have h:=Ybe.mp h;exact ⟨Ze8 (A h.1).e (B h.2).e,Za3,Zc3,Zca _⟩
 | dg a b A B=>exact fun h=>by have h:=Ybe.mp h;exact ⟨Ze8 (A h.1).e (B h.2).e,Za3,Zc3,Zca _⟩
 | fld x a A=>exact fun h=>⟨Zto (p:=fun rd=>ZuS rd x) (A h).e,Za3,Zc3,Zca _⟩
 | so a A=>exact fun h=>⟨Zc3,Za3,Zc3,(A h).t⟩
 | no=>exact fun _=>⟨Zc3,Za3,Zc3,Zca _⟩
 | one a A=>exact fun h=>⟨(A h).e,Za3,(A h).t,Zca _⟩
 | tup a A=>exact fun h=>⟨ZtN (A h).a,Za3,Zc3,Zca _⟩
 | nil=>exact fun _=>⟨Zc3,fun _ _ _ _ e=>by cases e;rfl,Zc3,Zca _⟩
 | cons a b A B=>exact fun h=>by have h:=Ybe.mp h;exact ⟨Zc3,ZnC (A h.1).e (B h.2).a,Zc3,Zca _⟩
 | nt a A=>exact fun h=>⟨ZmE (A h).e,Za3,ZmE (A h).t,Zca _⟩
 | an a b A B=>exact fun h=>by have h:=Ybe.mp h;exact ⟨Zmz (A h.1).e (B h.2).e,Za3,Zmz (A h.1).t (B h.2).t,Zca _⟩
 | or a b A B=>exact fun h=>by have h:=Ybe.mp h;exact ⟨ZqK (A h.1).e (B h.2).e,Za3,ZqK (A h.1).t (B h.2).t,Zca _⟩
 | tv a A=>exact fun h=>⟨Zc3,Za3,(A h).e,Zca _⟩
 | _=>exact fun h=>by cases h
end
structure SCl (v:Str->Str)(n:Int->Int)(C1:Cy)(C0:Cl):Prop where
 f:∀ x,SF v n (C1.f x) (C0.f x)
 m:∀ x,SG v n (C1.m x) (C0.m x)
 i:∀ x,SF v n (C1.i x) (C0.i x)
 c:∀ x y,SF v n (C1.c x y) (C0.c x y)
 kit:C1.kit=C0.kit
section
variable {v:Str->Str} {n:Int->Int} {c:Gd} {sub:Str->Str->Bool}
structure Sr (v:Str->Str)(n:Int->Int)(c:Gd)(C1:Cy)(C0:Cl)(r:R):Prop where
 e:SE v n (eF c C1 r).e (dE C0 r):=by exact Zqo
 a:SX v n (eF c C1 r).a (dA C0 r):=by exact ZyL
 t:SE v n (eF c C1 r).t (dT C0 r):=by exact Zqo
 i:SI v n (eF c C1 r).i (dI C0 r):=by exact Zyr
 p:SPs v n (eF c C1 r).p (dP C0 r):=by exact .nil
 q:SE v n (eF c C1 r).q (dQ C0 r):=by exact s_c rfl
 o:SO v n c (eF c C1 r).o (dO C0 r):=by exact rfl
def Zot (h:b=true->vW v n w=w):SE v n (bif b then yC w else yE) (xC w):=by
 cases b with
 | true=>exact s_c (h rfl)
 | false=>exact Zqo
def ZvV (w:W):pu (xC w)=xC w:=by funext ρ h;exact Zfn rfl
def Zze (V:Vp v n c)(d:Option Int)(z:SF v n F1 F0)(I:SX v n a1 a0):SE v n (bif c.pl (dfW d) then ZeD (fun ws=>F1 (ws++[dfW d])) a1 else yE) (ZaJ (fun ws=>F0 (ws++[dfW d])) a0):=by
 cases q:c.pl (dfW d) with
 | false=>exact Zqo
 | true=>exact Zfr (fun ws h e=>by
   have:=z (ws++[dfW d]) h e;rw[ZbQ,Zaf,Zai,V.pl q] at this;exact this) I
def sr (V:Vp v n c)(hC:SCl v n C1 C0)(r:R):Sr v n c C1 C0 r:=by
 have kk:=hC.kit
 induction r with
 | v i=>exact { e:=ZvK i }
 | kn=>exact { e:=s_c rfl }
 | kb b=>exact { e:=s_c rfl }
 | ki i=>exact { e:=Zot fun h=>by simp only[vW,V.i i h] }
 | ks x=>exact { e:=Zot fun h=>by simp only[vW,V.s x h] }
 | g x i=>exact { e:=Zot fun h=>by simp only[vW,V.i i h] }
 | ty t=>exact { e:=s_c rfl }
 | cl k=>exact { e:=s_c rfl }
 | bin o a b A B=>exact { e:=ZhX (sB V o) A.e B.e }
 | cmp o a b A B=>exact { e:=ZhX (sC V o) A.e B.e,t:=ZhX (sC V o) A.e B.e }
 | chn o p a b d A B D=>exact { e:=Zit (sC V o) (sC V p) A.e B.e D.e,t:=Zit (sC V o) (sC V p) A.e B.e D.e }
 | un o a A=>exact { e:=ZxT (sU V o) A.e }
 | ix a b A B=>exact { e:=ZhX (Zy7 V) A.e B.e }
 | dg a b A B=>exact { e:=ZhX (ZyW V) A.e B.e }
 | sl a l u A L U=>exact { e:=ZyM V A.e L.o U.o }
 | so a A=>exact { q:=A.t,o:=⟨_,rfl,A.e⟩ }
 | an a b A B=>exact { e:=Zr0 A.e B.e,t:=Zr0 A.t B.t }
 | or a b A B=>exact { e:=ZxU A.e B.e,t:=ZxU A.t B.t }
 | one a A=>exact { e:=A.e,t:=A.t }
 | nt a A=>exact { e:=Zrt A.e,t:=Zrt A.t }
 | ife d a b D A B=>exact { e:=ZyE D.t A.e B.e }
 | tup a A=>exact { e:=Zw5 A.a }
 | ls a A=>exact { e:=Zve A.a }
 | lsN a A=>exact { e:=Zuo A.a }
 | dN=>exact { e:=Zs6 }
 | dsp a A=>exact { e:=ZtP V A.p }
 | pr k w r K W R=>exact { p:=.cons K.e W.e R.p }
 | cb o a A=>exact { e:=ZxG (by rw[kk];exact sK V C0.kit o) A.a }
 | ct o a A=>exact { e:=ZxG (sT V o) A.a }
 | s1 o a A=>cases o with
  | y0=>exact { e:=Ztp A.e }
 | s2 o a A=>cases o with
  | z0=>exact { e:=Zsi A.e }
 | fX x a A=>exact { e:=Zfr (hC.f x) A.a }
 | fD x d a A=>exact { e:=Zze V d (hC.f x) A.a }
 | mX m a b A B=>exact { e:=ZpK m (hC.m m) A.e B.a }
 | mk k a A=>exact { e:=Ztv k (hC.i k) A.a }
 | cc k m a A=>exact { e:=ZnX (hC.c k m) A.a }
 | app a b A B=>exact { e:=ZxR Zxe A.e B.a }
 | ext a b A B=>exact { e:=Zu2 A.e B.e }
 | popD a b A B=>exact { e:=ZsR V A.e B.e }
 | cnt2 a b A B=>exact { e:=ZsL (ZvM V) A.e B.a }
 | idx a b A B=>exact { e:=ZsL (Zxa V) A.e B.a }
 | popA a b A B=>exact { e:=ZxR (Zvg V) A.e B.a }
 | fld x a A=>exact { e:=ZxT (ZwP x) A.e }
 | xf k x a A=>exact { e:=ZyB k x A.e }
 | cpr k own fr ix tg i d e I D E=>cases k with
  | p0=>
   have:SE v n (bif nh e then Zhl (eF c C1 i).i own.length ix (gTs tg) (yC (.bl true)) (eF c C1 e).e else yE) (Za9 (dI C0 i) own.length ix (gTs tg) (xC (.bl true)) (pu (dE C0 e))):=by
    cases q:nh e with
    | false=>exact Zqo
    | true=>have:=Zmf own.length ix I.i (t_s tg) (s_c (w:=.bl true) rfl) (Zca _) E.e (ZiM e q).e;rw[ZvV] at this;exact this
   exact { e:=this }
  | p3=>
   have:SE v n (bif nh d && nh e then Zhl (eF c C1 i).i own.length ix (gTs tg) (eF c C1 d).q (eF c C1 e).e else yE) (Za9 (dI C0 i) own.length ix (gTs tg) (pu (dQ C0 d)) (pu (dE C0 e))):=by
    cases q:nh d && nh e with
    | false=>exact Zqo
    | true=>have q:=Ybe.mp q;exact Zmf own.length ix I.i (t_s tg) D.q (ZiM d q.1).q E.e (ZiM e q.2).e
   exact { e:=this }
  | p2=>exact { e:=ZqJ own.length ix I.i (t_s tg) D.q E.e }
 | nil=>exact { a:=ZvB }
 | cons a b A B=>exact { a:=Zt8 A.e B.a }
 | tv a A=>exact { t:=A.e }
 | il a A=>exact { i:=Zys A.e }
 | it a A=>exact { i:=ZyS A.e }
 | is a A=>exact { i:=ZyJ V A.e }
 | r1 a A=>exact { i:=ZyA V A.e }
 | _=>exact {}
structure Sq (v:Str->Str)(n:Int->Int)(c:Gd)(sub:Str->Str->Bool)(C1:Cy)(C0:Cl)(r:S):Prop where
 s:SS v n (eG c sub C1 r).s (dS sub C0 r):=by exact Zvd
 b:SS v n (eG c sub C1 r).b (dB sub C0 r):=by exact Zvd
def sq_ (V:Vp v n c)(hC:SCl v n C1 C0)(r:S):Sq v n c sub C1 C0 r:=by
 induction r with
 | ret a=>exact { s:=Zv5 (sr V hC a).e }
 | ex a=>exact { s:=ZqG (sr V hC a).e }
 | set i a=>exact { s:=Znt i (sr V hC a).e }
 | setC i k own fr ix tg a b d=>exact { s:=Znt i (sr V hC (.cpr k own fr ix tg a b d)).e }
 | setF x o w=>exact { s:=Zsd x (sr V hC o).e (sr V hC w).e }
 | setD o i w=>exact { s:=Zrr V (sr V hC o).e (sr V hC i).e (sr V hC w).e }
 | setK i own fr ix tg a b d=>
  have:SS v n (bif nh b && nh d then Zt6 i (ZlA (eF c C1 a).e own.length ix (gTs tg) (eF c C1 b).q (eF c C1 d).e) else yM) (ZdJ (gN i) (Zds (dE C0 a) own.length ix (gTs tg) (pu (dQ C0 b)) (pu (dE C0 d)))):=by
   cases q:nh b && nh d with
   | false=>exact Zvd
   | true=>have q:=Ybe.mp q;exact Znt i (Zr6 own.length ix (sr V hC a).e (t_s tg) (sr V hC b).q (ZiM b q.1).q (sr V hC d).e (ZiM d q.2).e)
  exact { s:=this }
 | ifs d a b A B=>exact { s:=Zvs (sr V hC d).t A.b B.b }
 | forS t i b B=>exact { s:=Zt2 (sr V hC i).i (t_s t) B.b }
 | forD t i b B=>exact { s:=Zq4 (sr V hC i).e (t_s t) B.b }
 | wh m d b B=>exact { s:=ZfN (sr V hC d).t B.b m }
 | rz k a=>exact { s:=ZoB k (sr V hC a).a }
 | rzI k f a=>exact { s:=ZlQ k f (sr V hC a).a }
 | try1 d i asg b h B H=>exact { s:=Zvp (sub d) i asg B.b H.b }
 | nil=>exact { b:=ZrE }
 | one a A=>exact { b:=A.s }
 | cons a b A B=>exact { b:=ZwL A.s B.b }
 | _=>exact {}
theorem ZsT:∀ (ws:List W) (m:Nat),swY ws m=ZaK m ws
 | [],m=>by unfold ZaK;rw[YcZ,YdJ,Yc6,Nat.sub_zero];rfl
 | w::ws,m=>by
  show some w::swY ws (m - 1)=_;rw[ZsT ws (m - 1)];unfold ZaK;rw[Yap,YbN,Ya4,Nat.sub_sub,Nat.add_comm 1]
theorem ZoG:∀ ws:List W,ZuC ws=ws.length
 | []=>rfl
 | w::ws=>by show ZuC ws+1=_;rw[ZoG ws];rfl
def ZnR (m:Nat)(ws:List W):ZaK m (vWs v n ws)=vR v n (swY ws m):=by
 rw[ZsT];unfold ZaK vR;rw[Zaw,ZbI,Ycg,List.map_replicate,YbS,YbS];rfl
def Zrq (z:SS v n B1 B0)(m:Nat)(ws:List W)(s:SY)(e:ZpB m B1 ws s≠.no):ZhM m B0 (vWs v n ws) (av v n s)=vr v n (ZpB m B1 ws s):=by
 unfold ZpB at e ⊢;unfold ZhM;rw[ZnR];have q:=z (swY ws m) s;cases r:B1 (swY ws m) s<;>rw[r] at q e<;>first|exact absurd rfl e|(rw[q (by simp)];rfl)
def beq_of:Ydu a b=true↔a=b:=by rw[Yfb]
def Zms (I:SS v n B1 B0)(k m:Nat):SF v n (ZnT k m B1) (Zcb k m B0):=fun ws s e=>by
 unfold ZnT at e ⊢;unfold Zcb;rw[Zaw];rw[ZoG] at e ⊢;cases q:Ydu ws.length k with
 | false=>rw[q] at e;exact absurd rfl e
 | true=>
  rw[q] at e;rw[decide_eq_true (beq_of.mp q)];simp only[cond_true] at e ⊢;have z:=Zrq I m ws s;cases y:ZpB m B1 ws s with
  | no=>rw[y] at e;exact absurd rfl e
  | ok w s1=>
   rw[y] at e z;rw[z (by simp)];simp only at e ⊢;cases x:Yev s.n s1.n with
   | false=>rw[x] at e;exact absurd rfl e
   | true=>
    have l:(av v n s).length<=(av v n s1).length:=by unfold av vH;rw[YaE,YaE];exact ZjF x
    simp only[vr,decide_eq_true l,cond_true]
  | ex w s1=>
   rw[y] at e z;rw[z (by simp)];simp only at e ⊢;cases x:Yev s.n s1.n with
   | false=>rw[x] at e;exact absurd rfl e
   | true=>
    have l:(av v n s).length<=(av v n s1).length:=by unfold av vH;rw[YaE,YaE];exact ZjF x
    simp only[vr,decide_eq_true l,cond_true]
def Zmi (I:SS v n B1 B0)(k m:Nat):SF v n (Zqj k m B1) (ZfZ k m B0):=fun ws s e=>by
 unfold Zqj at e ⊢;unfold ZfZ;rw[Zaw];rw[ZoG] at e ⊢;cases q:Ydu ws.length k with
 | false=>rw[q] at e;exact absurd rfl e
 | true=>
  rw[q] at e;rw[if_pos (beq_of.mp q)];simp only[cond_true] at e ⊢;have z:=Zrq I m ws s;cases y:ZpB m B1 ws s with
  | ok w s1=>
   rw[y] at e z;rw[z (by simp)];simp only at e ⊢;cases x:Yev s.n s1.n with
   | false=>rw[x] at e;exact absurd rfl e
   | true=>
    have l:(av v n s).length<=(av v n s1).length:=by unfold av vH;rw[YaE,YaE];exact ZjF x
    simp only[vr,if_pos l,cond_true]
  | _=>rw[y] at e;exact absurd rfl e
end
def ZwT (g:Pg)(x:Str):dN g x=g.d x:=by unfold dN Pg.d;simp only[Za0]
def ZqR (g:Pg)(x:Str):msN g x=g.ms x:=by unfold msN Pg.ms;simp only[Za0]
def ZqC (g:Pg)(x y:Str):mN g x y=g.m x y:=by unfold mN Pg.m;simp only[Za0]
section
variable {v:Str->Str} {n:Int->Int} {c:Gd} {ov:Str->Option Fy} {sy:List Str} {fz:Str->Bool} {g:Pg}
def V8.gk_eq (v:V8 α)(i:Nat)(k:α->β):v.gk i k=k (v.g i):=by
 obtain ⟨a,b,c,d,e,f,g,h⟩:=v
 match i with
 | 0=>rfl
 | 1=>rfl
 | 2=>rfl
 | 3=>rfl
 | 4=>rfl
 | 5=>rfl
 | 6=>rfl
 | _+7=>rfl
def Zru:∀ i:Fin 64,(T64.g (i.val / 8)).g (i.val % 8)=i.val:=by decide +kernel
def ZrX (m:Nat)(k:Nat->β):fN m k=k m:=by
 unfold fN;cases q:Ya7 m 64 with
 | false=>rfl
 | true=>simp only[cond_true];rw[V8.gk_eq,V8.gk_eq,Zru ⟨m,blt_of.mp q⟩]
def ZvR (i:Int)(k:Int->β):fI i k=k i:=by cases i<;>exact ZrX _ _
theorem ZsG (x:Str)(k:Str->β):∀ l:List Str,fS l x k=k x
 | []=>rfl
 | a::l=>by
  show (bif eqN x a then k a else fS l x k)=_;rw[Za0,ZsG x k l];by_cases h:x=a
  ·rw[decide_eq_true h,h];rfl
  ·rw[decide_eq_false h];rfl
def ZiH (l:List Str)(w:W)(k:W->β):fW0 l w k=k w:=by
 cases w with
 | bl b=>cases b<;>rfl
 | int i=>exact ZvR i fun i=>k (.int i)
 | str x=>exact ZsG x (fun x=>k (.str x)) l
 | ref n=>exact ZrX n fun n=>k (.ref n)
 | _=>rfl
theorem Zlx {β:Type}{h:W->(W->β)->β}(z:∀ w k,h w k=k w):∀ (ws:List W) (k:List W->β),fL h ws k=k ws
 | [],k=>rfl
 | w::ws,k=>by
  show h w (fun I=>fL h ws fun r=>k (I::r))=_;rw[z,Zlx z ws]
def ZvA {β:Type}(l:List Str)(w:W)(k:W->β):fW l w k=k w:=by
 cases w with
 | tl ws=>exact Zlx (ZiH l) ws fun ws=>k (.tl ws)
 | tup ws=>exact Zlx (ZiH l) ws fun ws=>k (.tup ws)
 | _=>simp only[fW];exact ZiH l _ k
def Zxo (l:List Str)(b:Bool)(F:Fy):fzY l b F=F:=by
 cases b with
 | false=>rfl
 | true=>funext ws s;exact Zlx (ZvA l) ws _
def Zqm:SF v n nFy F:=fun _ _ e=>absurd rfl e
theorem Znd (V:Vp v n c)(j:Nat)(ho:∀ x F k,ov x=some F->SF v n F ((lev g (k+j+1)).f x)):∀ k,SCl v n (Zk6 c ov sy fz g k) (lev g (k+j))
 | 0=>⟨fun _=>Zqm,fun _ _ _ e=>(by cases e),fun _=>Zqm,fun _ _=>Zqm,(Zj2 _).symm⟩
 | k+1=>by
  have z:=Znd V j ho k;rw[Nat.add_right_comm k 1 j];refine ⟨fun x=>?_,fun m=>?_,fun x=>?_,fun x y=>?_,rfl⟩
  ·show SF v n (fzY sy (fz x) (match ov x with | some F=>F | none=>((dN g x).map fun e=>ZnT e.ps.length e.N.length (eG c g.sub (Zk6 c ov sy fz g k) e.b).b).getD nFy)) (((g.d x).map (Fe.X g (lev g (k+j)))).getD nF);rw[Zxo,ZwT];cases o:ov x with
   | some F=>exact ho x F k o
   | none=>cases g.d x with
    | none=>exact Zqm
    | some e=>exact Zms (sq_ V z e.b).b _ _
  ·show SG v n (fun I=>lkN I ((msN g m).map fun e=>(e.c,ZnT e.ps.length e.N.length (eG c g.sub (Zk6 c ov sy fz g k) e.b).b))) (fun I=>((g.ms m).map fun e=>(e.c,e.X g (lev g (k+j)))).lookup I);intro cl F1 U;simp only[Zfd,ZqR] at U;have l:∀ l:List Fe,(l.map fun e=>(e.c,ZnT e.ps.length e.N.length (eG c g.sub (Zk6 c ov sy fz g k) e.b).b)).lookup cl=some F1->∃ F0,(l.map fun e=>(e.c,e.X g (lev g (k+j)))).lookup cl=some F0/\SF v n F1 F0:=fun l=>by
    induction l with
    | nil=>intro e;cases e
    | cons e l J=>
     rw[Yap,Yap,YaG,YaG];cases cl == e.c with
     | true=>intro q;cases q;exact ⟨_,rfl,Zms (sq_ V z e.b).b _ _⟩
     | false=>exact J
   exact l _ U
  ·show SF v n (((mN g x "__init__").map fun e=>Zqj e.ps.length e.N.length (eG c g.sub (Zk6 c ov sy fz g k) e.b).b).getD nFy) (((g.m x "__init__").map (Fe.F g (lev g (k+j)))).getD nF);rw[ZqC];cases g.m x "__init__" with
   | none=>exact Zqm
   | some e=>exact Zmi (sq_ V z e.b).b _ _
  ·show SF v n (((mN g x y).map fun e=>Zqj e.ps.length e.N.length (eG c g.sub (Zk6 c ov sy fz g k) e.b).b).getD nFy) (((g.m x y).map (Fe.F g (lev g (k+j)))).getD nF);rw[ZqC];cases g.m x y with
   | none=>exact Zqm
   | some e=>exact Zmi (sq_ V z e.b).b _ _
end
end M
namespace J63
open PySem PySem.Spec PyProof.Rows L2 M
noncomputable def blk:List S->S
 | []=>.nil
 | [a]=>.one a
 | a::b::l=>.c a (blk (b::l))
noncomputable def top (i:Nat):Yce:=PySem.Challenge.pw_passkeep_k63_hearing_refused.main.body.getD i (.Pass ⟨0,0,0,0⟩)
noncomputable def Zf4:S:=.one (.ret (.an (.cb .k1 (.p .v0 (.ty "int"))) (.one (.nt (.cb .k1 (.p .v0 (.ty "bool")))))))
noncomputable def Zgf:S:=.one (.ret (.an (.fX "is_number" (.o .v0)) (.one (.chn .c3 .c3 (.ki 0) .v0 (.g "MOST_RIGHTS" 63)))))
noncomputable def ZhZ:S:=.one (.ret (.bin .b6 .v0 (.un .u1 .v1)))
noncomputable def ZlO:S:=.one (.ret (.cmp .c0 (.fX "missing" (.p .v0 .v1)) (.ki 0)))
noncomputable def ZhH:S:=.one (.ret (.bin .b6 .v0 .v1))
noncomputable def Zcs:S:=.c (.ifs (.or (.nt (.tv (.cb .k1 (.p .v0 (.ty "str"))))) (.one (.nt (.chn .c3 .c3 (.ki 1) (.cb .k2 (.o .v0)) (.g "LONGEST_NAME" 8))))) (.one (.ret (.kb false))) .nil) (.one (.ret (.cb .k6 (.o (.cpr .p0 ["sign"] [] [] [0] (.is .v0) .no (.chn .c3 .c3 (.ks "a") .v0 (.ks "z")))))))
noncomputable def ZbM:S:=.one (.ret (.an (.chn .c3 .c3 (.ks " ") .v0 (.ks "~")) (.one (.cmp .c1 (.cb .k7 (.o .v0)) (.g "PERCENT_SIGN" 37)))))
noncomputable def ZfT:S:=.c (.ifs (.or (.nt (.tv (.cb .k1 (.p .v0 (.ty "str"))))) (.one (.cmp .c4 (.cb .k2 (.o .v0)) (.g "LONGEST_WORDS" 20)))) (.one (.ret (.kb false))) .nil) (.one (.ret (.cb .k6 (.o (.cpr .p2 ["sign"] [] [] [0] (.is .v0) .no (.fX "is_sign_of_words" (.o .v0)))))))
noncomputable def Zg8:S:=.c (.ifs (.cmp .c5 (.cb .k2 (.o .v0)) .v2) (.one (.rz "Full" (.o (.ks "there is no room for one more")))) .nil) (.c (.ex (.app .v0 (.o .v1))) (.one (.ret (.cb .k2 (.o .v0)))))
def ZfV:S:=.c (.ifs (.cmp .c0 (.cb .k2 (.o .v0)) (.ki 0)) (.one (.rz "Empty" (.o (.ks "there is none to take out")))) .nil) (.one (.ret (.popA .v0 (.o (.ki 0)))))
noncomputable def Znu:S:=.one (.ret (.mk "Kernel" (.o .v0)))
noncomputable def ZfS:S:=.one (.ret (.mX "handle" (.fld "tree" .v0) (.o (.mX "at" (.fld "tasks" .v0) (.p .v1 .v2)))))
noncomputable def ZdR:S:=.one (.ifs (.nt (.tv (.fX "within" (.p .v0 .v1)))) (.one (.rzI "Lacks" "missing" (.o (.fX "missing" (.p .v0 .v1))))) .nil)
noncomputable def Zbx:S:=.one (.ifs (.nt (.tv (.fX "is_rights" (.o .v0)))) (.one (.rz "NoRights" (.o (.ks "rights are a number from 0 to 63")))) .nil)
def ZbT:S:=.one (.ifs (.cmp .c0 (.mX "free" (.fld "tasks" .v0) (.o .v1)) (.ki 0)) (.one (.rz "TooMany" (.o (.ks "the task has no empty slot")))) .nil)
noncomputable def Zbl:S:=.c (.ifs (.cmp .c5 (.cb .k2 (.o (.fld "things" .v0))) (.g "MOST_THINGS" 40)) (.one (.rz "TooMany" (.o (.ks "there are as many things as may be")))) .nil) (.one (.ex (.fX "need_empty_slot" (.p .v0 .v1))))
noncomputable def Zft:S:=.c (.set 2 (.cb .k2 (.o (.fld "things" .v0)))) (.c (.ifs (.cmp .c0 .v1 (.ks "cell")) (.one (.ret (.mk "Cell" (.o .v2)))) .nil) (.c (.ifs (.cmp .c0 .v1 (.ks "line")) (.one (.ret (.mk "Line" (.o .v2)))) .nil) (.one (.ret (.mk "Door" (.o .v2))))))
def Zg6:S:=.c (.setD (.fld "things" .v0) (.fld "number" .v2) .v2) (.c (.set 3 (.mX "rooted" (.fld "tree" .v0) (.cons (.fld "number" .v2) (.cons (.bin .b7 (.mX "fits" .v2 .nil) (.g "PASS" 32)) (.cons .v1 .nil))))) (.one (.ret (.mX "put" (.fld "tasks" .v0) (.p .v1 .v3)))))
noncomputable def Zeb:S:=.c (.ex (.fX "need_empty_slot" (.p .v0 .v3))) (.c (.set 4 (.mX "derived" (.fld "tree" .v0) (.cons (.fld "number" .v1) (.cons .v2 (.cons .v3 .nil))))) (.one (.ret (.mX "put" (.fld "tasks" .v0) (.p .v3 .v4)))))
noncomputable def Zt7:S:=.c (.ex (.mX "need" (.fld "tasks" .v0) (.o .v1))) (.c (.ifs (.or (.nt (.tv (.cb .k1 (.p .v2 (.ty "str"))))) (.one (.cmp .c7 .v2 (.tup (.cons (.ks "cell") (.cons (.ks "line") (.cons (.ks "door") .nil))))))) (.one (.rz "NoKind" (.o (.ks "a cell, a line or a door can be made")))) .nil) (.c (.ex (.fX "need_room_for_thing" (.p .v0 .v1))) (.one (.ret (.fX "kept_for" (.cons .v0 (.cons .v1 (.cons (.fX "new_thing" (.p .v0 .v2)) .nil))))))))
noncomputable def Zpm:S:=.c (.ex (.mX "need" (.fld "tasks" .v0) (.o .v1))) (.c (.ex (.mX "need_new" (.fld "tasks" .v0) (.o .v2))) (.c (.ex (.fX "need_room_for_thing" (.p .v0 .v1))) (.c (.ex (.mX "added" (.fld "tasks" .v0) (.p .v2 .v1))) (.one (.ret (.fX "kept_for" (.cons .v0 (.cons .v1 (.cons (.mk "Post" (.p (.cb .k2 (.o (.fld "things" .v0))) .v2)) .nil)))))))))
noncomputable def Zlw:S:=.c (.set 4 (.fX "handle_at" (.cons .v0 (.cons .v1 (.cons .v2 .nil))))) (.c (.ex (.fX "need_to_be_rights" (.o .v3))) (.c (.ex (.fX "need_rights" (.p .v3 (.fld "rights" .v4)))) (.one (.ret (.fX "handed_down" (.cons .v0 (.cons .v4 (.cons .v3 (.cons .v1 .nil)))))))))
noncomputable def ZsB:S:=.c (.set 5 (.fX "handle_at" (.cons .v0 (.cons .v1 (.cons .v2 .nil))))) (.c (.ex (.mX "need" (.fld "tasks" .v0) (.o .v3))) (.c (.set 6 (.ife (.cmp .c10 .v4 .kn) (.fld "rights" .v5) .v4)) (.c (.ex (.fX "need_to_be_rights" (.o .v6))) (.c (.ex (.fX "need_rights" (.p (.bin .b7 (.g "PASS" 32) .v6) (.fld "rights" .v5)))) (.one (.ret (.fX "handed_down" (.cons .v0 (.cons .v5 (.cons .v6 (.cons .v3 .nil)))))))))))
noncomputable def Zj1:S:=.c (.set 3 (.dg (.fld "things" .v0) (.fld "thing" .v1))) (.c (.ifs (.nt (.tv (.cb .k1 (.p .v3 (.cl "Door"))))) (.one (.rzI "NoDeed" "deed" (.o .v2))) .nil) (.one (.ret .v3)))
def Ze9:S:=.c (.ifs (.cmp .c10 .v0 .kn) (.one (.ret (.ls .nil))) .nil) (.c (.ifs (.nt (.tv (.cb .k1 (.p .v0 (.tup (.p (.ty "list") (.ty "tuple"))))))) (.one (.rz "NoHandle" (.o (.ks "slots are told as a tuple or a list")))) .nil) (.c (.ifs (.cmp .c4 (.cb .k2 (.o .v0)) (.g "MOST_PARTS" 4)) (.one (.rz "TooMany" (.o (.ks "a letter has at most 4 parts")))) .nil) (.one (.ret (.ct .t2 (.o .v0))))))
noncomputable def ZcI:S:=.c (.ex (.fX "need_rights" (.p (.g "SEND" 4) (.fld "rights" .v1)))) (.c (.forS [4] (.il .v3) (.one (.ex (.fX "need_rights" (.p (.g "PASS" 32) (.fld "rights" .v4)))))) (.c (.forS [4] (.il .v3) (.one (.ex (.mX "need_room_below" (.fld "tree" .v0) (.o (.fld "number" .v4)))))) (.one (.ifs (.cmp .c5 (.cb .k2 (.o (.mX "letters" .v2 .nil))) (.g "DOOR_ROOM" 8)) (.one (.rz "Full" (.o (.ks "as many letters wait as may")))) .nil))))
def ZqB:S:=.c (.set 6 (.fX "handle_at" (.cons .v0 (.cons .v1 (.cons .v2 .nil))))) (.c (.set 7 (.fX "door_of" (.cons .v0 (.cons .v6 (.cons (.ks "send") .nil))))) (.c (.ifs (.nt (.tv (.fX "are_words" (.o .v3)))) (.one (.rz "NoWords" (.o (.ks "words are at most 20 plain signs")))) .nil) (.c (.setC 8 .p2 ["told"] ["kernel","task"] [0,1] [0] (.il (.fX "slots_told" (.o .v4))) .no (.fX "handle_at" (.cons .v1 (.cons .v2 (.cons .v0 .nil))))) (.c (.ex (.fX "need_to_be_rights" (.o .v5))) (.c (.ex (.fX "need_sendable" (.cons .v0 (.cons .v6 (.cons .v7 (.cons .v8 .nil)))))) (.c (.setC 9 .p2 ["giver"] ["kernel","rights"] [0,5] [0] (.il .v8) .no (.mX "derived" (.fld "tree" .v1) (.cons (.fld "number" .v0) (.cons (.fX "narrowed" (.p (.fld "rights" .v0) .v2)) (.cons (.ks "") .nil))))) (.one (.ret (.mX "did" .v7 (.p (.ks "send") (.mk "Letter" (.p .v3 (.ct .t3 (.o (.v 9)))))))))))))))
noncomputable def Zdc:S:=.c (.set 1 (.mX "letters" .v0 .nil)) (.c (.ifs (.cmp .c0 (.cb .k2 (.o .v1)) (.ki 0)) (.one (.rz "Empty" (.o (.ks "no letter waits")))) .nil) (.one (.ret (.ix .v1 (.ki 0)))))
def Zb9:S:=.c (.setC 3 .p2 ["part"] ["kernel"] [0] [0] (.it (.fld "parts" .v2)) (.so (.tv (.mX "keeps" (.fld "tree" .v1) (.o .v0)))) .v0) (.one (.ifs (.cmp .c2 (.mX "free" (.fld "tasks" .v0) (.o .v1)) (.cb .k2 (.o .v3))) (.one (.rz "TooMany" (.o (.ks "the task has too few empty slots")))) .nil))
noncomputable def Zda:S:=.c (.ifs (.nt (.tv (.mX "keeps" (.fld "tree" .v0) (.o .v2)))) (.one (.ret .kn)) .nil) (.c (.ex (.mX "held" (.fld "tree" .v0) (.p .v2 .v1))) (.one (.ret (.mX "put" (.fld "tasks" .v0) (.p .v1 .v2)))))
noncomputable def Zt5:S:=.c (.set 3 (.fX "handle_at" (.cons .v0 (.cons .v1 (.cons .v2 .nil))))) (.c (.set 4 (.fX "door_of" (.cons .v0 (.cons .v3 (.cons (.ks "hear") .nil))))) (.c (.ex (.fX "need_rights" (.p (.g "HEAR" 8) (.fld "rights" .v3)))) (.c (.ex (.fX "need_slots_for" (.cons .v0 (.cons .v1 (.cons (.fX "first_letter" (.o .v4)) .nil))))) (.c (.set 5 (.mX "did" .v4 (.p (.ks "hear") (.ki 0)))) (.one (.ret (.tup (.p (.fld "words" .v5) (.cpr .p2 ["part"] ["kernel","task"] [0,1] [0] (.it (.fld "parts" .v5)) .no (.fX "slot_of_part" (.cons .v1 (.cons .v2 (.cons .v0 .nil)))))))))))))
noncomputable def Zgd:S:=.c (.set 2 (.mX "cut" (.fld "tree" .v0) (.o .v1))) (.c (.forS [3] (.il .v2) (.one (.ex (.mX "taken_out" (.fld "tasks" .v0) (.o .v3))))) (.one (.ret (.cb .k2 (.o .v2)))))
noncomputable def Zju:S:=.one (.ret (.fX "gone_with" (.p .v0 (.fld "number" (.fX "handle_at" (.cons .v0 (.cons .v1 (.cons .v2 .nil))))))))
noncomputable def ZfJ:S:=.c (.set 2 .v1) (.c (.ifs (.cmp .c4 (.cb .k2 (.o .v0)) (.ki 0)) (.one (.set 2 (.bin .b0 (.ix .v0 (.bin .b4 .v1 (.cb .k2 (.o .v0)))) (.bin .b3 .v1 (.cb .k2 (.o .v0)))))) .nil) (.c (.set 3 (.bin .b4 (.bin .b2 (.bin .b0 .v2 (.bin .b2 (.ki 7919) (.bin .b0 .v1 (.ki 1)))) (.ki 48271)) (.ki 2147483647))) (.one (.ret (.bin .b4 (.bin .b2 .v3 .v3) (.ki 2147483629))))))
noncomputable def Zci:S:=.c (.set 2 (.ix (.ks "abcdefghijklmnopqrstuvwxyz") (.bin .b4 (.bin .b0 (.fX "_law_mix" (.p .v0 (.ki 1))) .v1) (.ki 26)))) (.c (.set 3 (.join (.ks "") (.o (.cpr .p0 ["_law_at"] ["_law_script"] [0] [0] (.r1 (.ki 8)) .no (.ix (.ks "abcdefghijklmnopqrstuvwxyz") (.bin .b4 (.bin .b3 (.fX "_law_mix" (.p .v1 (.bin .b0 (.ki 2) .v0))) (.ki 7)) (.ki 26))))))) (.c (.set 4 (.bin .b0 (.ki 1) (.bin .b4 (.bin .b3 (.fX "_law_mix" (.p .v0 (.ki 1))) (.ki 26)) (.ki 8)))) (.c (.ifs (.cmp .c4 (.bin .b4 (.bin .b3 (.fX "_law_mix" (.p .v0 (.ki 1))) (.ki 208)) (.ki 3)) (.ki 0)) (.c (.set 5 (.bin .b4 (.bin .b3 (.fX "_law_mix" (.p .v0 (.ki 1))) (.ki 624)) .v4)) (.one (.ret (.bin .b0 (.bin .b0 (.sl .v3 .no (.so .v5)) .v2) (.sl .v3 (.so (.bin .b0 .v5 (.ki 1))) (.so .v4)))))) .nil) (.one (.ret (.bin .b0 .v2 (.sl .v3 .no (.so (.bin .b4 (.bin .b0 .v1 .v4) (.ki 8))))))))))
noncomputable def Zk3:S:=.c (.ifs (.or (.nt (.tv (.cb .k1 (.p .v0 (.ty "ValueError"))))) (.one (.tv (.cb .k1 (.p .v0 (.tup (.cons (.cl "NoName") (.cons (.cl "NoValue") (.cons (.cl "NoKind") (.cons (.cl "NoThing") (.cons (.cl "NoRow") (.cons (.cl "Taken") (.cons (.cl "TooGreat") .nil))))))))))))) (.one (.ret (.tup (.o (.ks "other"))))) .nil) (.c (.ifs (.an (.tv (.cb .k1 (.p .v0 (.cl "Lacks")))) (.one (.nt (.tv (.cb .k1 (.p .v0 (.tup (.cons (.cl "NoDeed") (.cons (.cl "NoRights") (.cons (.cl "NoTask") (.cons (.cl "NoHandle") (.cons (.cl "NoWords") (.cons (.cl "TooMany") (.cons (.cl "Empty") (.cons (.cl "Full") .nil))))))))))))))) (.one (.ret (.tup (.p (.ks "Lacks") (.xf "Lacks" "missing" .v0))))) .nil) (.c (.set 1 (.ls (.cons (.cb .k1 (.p .v0 (.cl "NoDeed"))) (.cons (.cb .k1 (.p .v0 (.cl "NoRights"))) (.cons (.cb .k1 (.p .v0 (.cl "NoTask"))) (.cons (.cb .k1 (.p .v0 (.cl "NoHandle"))) .nil)))))) (.c (.set 1 (.bin .b0 .v1 (.ls (.cons (.cb .k1 (.p .v0 (.cl "NoWords"))) (.cons (.cb .k1 (.p .v0 (.cl "TooMany"))) (.cons (.cb .k1 (.p .v0 (.cl "Empty"))) (.cons (.cb .k1 (.p .v0 (.cl "Full"))) .nil))))))) (.c (.ifs (.or (.cmp .c1 (.cnt2 .v1 (.o (.kb true))) (.ki 1)) (.one (.tv (.cb .k1 (.p .v0 (.cl "Lacks")))))) (.one (.ret (.tup (.o (.ks "other"))))) .nil) (.one (.ret (.tup (.o (.ix (.ls (.cons (.ks "NoDeed") (.cons (.ks "NoRights") (.cons (.ks "NoTask") (.cons (.ks "NoHandle") (.cons (.ks "NoWords") (.cons (.ks "TooMany") (.cons (.ks "Empty") (.cons (.ks "Full") .nil))))))))) (.idx .v1 (.o (.kb true))))))))))))
noncomputable def Zlf:S:=.one (.try1 "PassError" 3 [] (.one (.ret (.fX "hear" (.cons .v0 (.cons .v1 (.cons .v2 .nil)))))) (.one (.ret (.fX "_law_word" (.o .v3)))))
noncomputable def ZjP:S:=.c (.set 2 (.lsN .nil)) (.c (.forS [3] (.il (.mX "kept" (.fld "tree" .v0) .nil)) (.c (.set 4 (.mX "handle" (.fld "tree" .v0) (.o .v3))) (.one (.ex (.app .v2 (.o (.tup (.cons .v3 (.cons (.fld "thing" .v4) (.cons (.fld "rights" .v4) (.cons (.fld "giver" .v4) (.cons (.fld "holder" .v4) .nil)))))))))))) (.c (.setC 5 .p0 ["_law_letter"] [] [] [0] (.il (.mX "letters" (.dg (.fld "things" .v0) (.ki 0)) .nil)) .no (.tup (.p (.fld "words" .v0) (.fld "parts" .v0)))) (.one (.ret (.tup (.cons .v2 (.cons (.cpr .p2 ["_law_name_here"] ["_law_kernel_here"] [0] [0] (.il .v1) .no (.mX "slots" (.fld "tasks" .v1) (.o .v0))) (.cons .v5 .nil))))))))
noncomputable def Zf1:S:=.c (.set 2 (.fX "_law_mix" (.p .v0 .v1))) (.one (.ret (.ix (.ls (.cons (.fX "_law_name" (.p .v0 (.ki 20))) (.cons .kn (.cons (.ki 7) (.cons (.ks "") (.cons (.ls .nil) (.cons (.tup (.o (.ks "a"))) (.cons (.kb true) (.cons .dN .nil))))))))) (.bin .b4 .v2 (.ki 8)))))
def Zhk:S:=.c (.set 3 (.fX "begun" (.o (.ix .v1 (.ki 0))))) (.c (.forS [4] (.il (.ls (.cons (.ks "door") (.cons (.ks "cell") (.cons (.ks "line") (.cons (.ks "cell") .nil)))))) (.one (.ex (.fX "make" (.cons .v3 (.cons (.ix .v1 (.ki 0)) (.cons .v4 .nil))))))) (.c (.ex (.fX "start" (.cons .v3 (.cons (.ix .v1 (.ki 0)) (.cons (.ix .v1 (.ki 1)) .nil))))) (.c (.ex (.fX "hand" (.cons .v3 (.cons (.ix .v1 (.ki 0)) (.cons (.ki 0) (.cons (.ix .v1 (.ki 1)) (.cons (.ki 40) .nil))))))) (.c (.ex (.fX "hand" (.cons .v3 (.cons (.ix .v1 (.ki 0)) (.cons (.ki 0) (.cons (.ix .v1 (.ki 1)) (.cons (.ki 5) .nil))))))) (.c (.ex (.fX "hand" (.cons .v3 (.cons (.ix .v1 (.ki 0)) (.cons (.ki 1) (.cons (.ix .v1 (.ki 1)) (.cons (.ki 35) .nil))))))) (.c (.ifs (.cmp .c7 (.ki 4) .v2) (.c (.ex (.fD "send" (some 63) (.cons .v3 (.cons (.ix .v1 (.ki 0)) (.cons (.ki 0) (.cons (.ks "first") (.cons (.sl (.ls (.cons (.ki 1) (.cons (.ki 2) (.cons (.ki 3) (.cons (.ki 2) .nil))))) .no (.so (.bin .b0 (.ki 1) (.bin .b4 (.fX "_law_mix" (.p .v0 (.ki 30))) (.ki 4))))) .nil))))))) (.c (.ex (.fD "send" (some 63) (.cons .v3 (.cons (.ix .v1 (.ki 0)) (.cons (.ki 0) (.cons (.ks "second") (.cons (.ls (.o (.ki 0))) .nil))))))) (.one (.ifs (.cmp .c0 (.bin .b4 (.fX "_law_mix" (.p .v0 (.ki 31))) (.ki 2)) (.ki 0)) (.one (.ex (.fX "give_up" (.cons .v3 (.cons (.ix .v1 (.ki 0)) (.cons (.ki 2) .nil)))))) .nil)))) .nil) (.one (.ret .v3))))))))
noncomputable def ZjN:S:=.c (.set 1 (.mX "kept" (.fld "tree" .v0) .nil)) (.c (.ifs (.cmp .c0 (.mX "letters" (.dg (.fld "things" .v0) (.ki 0)) .nil) (.ls .nil)) (.one (.ret (.ki 0))) .nil) (.one (.ret (.cb .k2 (.o (.cpr .p3 ["_law_part"] ["_law_kept"] [1] [0] (.it (.fld "parts" (.ix (.mX "letters" (.dg (.fld "things" .v0) (.ki 0)) .nil) (.ki 0)))) (.so (.cmp .c6 .v0 .v1)) .v0))))))
noncomputable def Zho:S:=.one (.wh 100 (.cmp .c4 (.mX "free" (.fld "tasks" .v0) (.o .v1)) .v2) (.one (.ex (.fX "narrow" (.cons .v0 (.cons .v1 (.cons (.ki 0) (.cons (.ki 0) .nil))))))))
noncomputable def Zh3:S:=.c (.try1 "NoDeed" 3 [] (.one (.ex (.fX "hear" (.cons .v0 (.cons .v1 (.cons .v2 .nil)))))) (.one (.ret (.xf "NoDeed" "deed" .v3)))) (.one (.ret .kn))
noncomputable def Znb:S:=.c (.set 2 (.ls (.cons (.tup (.o (.ks "NoTask"))) (.cons (.tup (.o (.ks "NoHandle"))) (.cons (.tup (.o (.ks "NoDeed"))) (.cons (.tup (.p (.ks "Lacks") (.ki 8))) (.cons (.tup (.o (.ks "Empty"))) (.cons (.tup (.o (.ks "TooMany"))) .nil)))))))) (.c (.forS [3] (.il .v0) (.one (.ifs (.or (.cmp .c2 .v3 (.ki 5)) (.one (.cmp .c4 .v1 (.ki 0)))) (.one (.ret (.ix .v2 .v3))) .nil))) (.one (.ret .kn)))
noncomputable def ZkZ:S:=.c (.ifs (.cmp .c6 (.ki 1) .v3) (.c (.ifs (.cmp .c4 (.mX "free" (.fld "tasks" .v1) (.o .v2)) (.ki 2)) (.one (.ret (.ki 13))) .nil) (.one (.ret (.ix (.ls (.cons (.ki 16) (.cons (.bin .b1 (.ki 0) (.ki 1)) (.cons (.kb true) (.cons .kn (.cons (.ks "0") (.cons (.ls (.o (.ki 0))) (.cons (.kb false) .nil)))))))) (.bin .b4 (.fX "_law_mix" (.p .v0 (.ki 33))) (.ki 7)))))) .nil) (.c (.ifs (.cmp .c6 (.ki 2) .v3) (.one (.ret (.ki 2))) .nil) (.one (.ret (.ct .t0 (.o (.cmp .c6 (.ki 3) .v3))))))
noncomputable def Zle:S:=.c (.forS [2,3] (.il (.mX "slots" (.fld "tasks" .v0) (.o .v1))) (.one (.ifs (.cmp .c0 (.fld "rights" (.mX "handle" (.fld "tree" .v0) (.o .v3))) (.ki 0)) (.one (.ex (.fX "give_up" (.cons .v0 (.cons .v1 (.cons .v2 .nil)))))) .nil))) (.c (.ex (.fX "_law_filled" (.cons .v0 (.cons .v1 (.cons (.fX "_law_parts" (.o .v0)) .nil))))) (.c (.set 4 (.ix (.mX "letters" (.dg (.fld "things" .v0) (.ki 0)) .nil) (.ki 0))) (.c (.set 5 (.mX "kept" (.fld "tree" .v0) .nil)) (.c (.setC 6 .p2 ["_law_slot_here"] ["_law_kernel_here","_law_name_here"] [0,1] [0] (.r1 (.ki 16)) (.so (.cmp .c7 .v0 (.cpr .p0 ["_law_pair"] [] [] [0] (.il (.mX "slots" (.fld "tasks" .v1) (.o .v2))) .no (.ix .v0 (.ki 0))))) .v0) (.c (.set 7 (.lsN .nil)) (.c (.forS [8] (.it (.fld "parts" .v4)) (.c (.ex (.app .v7 (.o (.ix (.ls (.p .kn (.ix (.bin .b0 .v6 (.ls (.o .kn))) (.ki 0)))) (.ct .t0 (.o (.cmp .c6 .v8 .v5))))))) (.one (.set 6 (.sl .v6 (.so (.ct .t0 (.o (.cmp .c6 .v8 .v5)))) .no))))) (.one (.ret (.an (.cmp .c0 (.fX "_law_hear" (.cons .v0 (.cons .v1 (.cons (.ki 0) .nil)))) (.tup (.p (.ks "first") .v7))) (.one (.cmp .c0 (.mX "free" (.fld "tasks" .v0) (.o .v1)) (.ki 0))))))))))))
noncomputable def q_0:S:=.set 3 (.fX "_law_kernel" (.cons .v0 (.cons .v1 (.cons .v2 .nil))))
noncomputable def q_1:S:=.set 4 (.fX "_law_parts" (.o .v3))
noncomputable def q_2:S:=.set 5 (.fX "_law_due" (.p .v2 .v4))
noncomputable def q_3:S:=.ifs (.cmp .c10 .v5 .kn) (.one (.ret (.kb true))) .nil
noncomputable def q_4:S:=.ifs (.an (.cmp .c6 (.ki 5) .v2) (.one (.cmp .c4 .v4 (.ki 0)))) (.one (.ex (.fX "_law_filled" (.cons .v3 (.cons (.ix .v1 (.ki 1)) (.cons (.bin .b1 .v4 (.ki 1)) .nil)))))) .nil
noncomputable def q_5:S:=.set 6 (.ix .v1 (.ki 1))
noncomputable def q_6:S:=.ifs (.cmp .c6 (.ki 0) .v2) (.one (.set 6 (.fX "_law_strange" (.p .v0 (.ki 32))))) .nil
noncomputable def q_7:S:=.set 7 (.fX "_law_slot" (.cons .v0 (.cons .v3 (.cons (.ix .v1 (.ki 1)) (.cons .v2 .nil)))))
noncomputable def q_8:S:=.set 8 (.fX "_law_state" (.p .v3 .v1))
noncomputable def q_9:S:=.ifs (.or (.cmp .c1 (.fX "_law_hear" (.cons .v3 (.cons .v6 (.cons .v7 .nil)))) .v5) (.one (.cmp .c1 (.fX "_law_field" (.cons .v3 (.cons (.ix .v1 (.ki 1)) (.cons (.ki 2) .nil)))) (.ks "hear")))) (.one (.ret (.kb false))) .nil
noncomputable def ZxY:S:=.ifs (.cmp .c1 (.fX "_law_state" (.p .v3 .v1)) .v8) (.one (.ret (.kb false))) .nil
noncomputable def ZxW:S:=.ifs (.cmp .c6 (.ki 4) .v2) (.one (.ex (.fD "send" (some 63) (.cons .v3 (.cons (.ix .v1 (.ki 0)) (.cons (.ki 0) (.cons (.ks "first") (.cons (.ls (.p (.ki 1) (.ki 3))) .nil)))))))) .nil
noncomputable def ZxF:S:=.ret (.fX "_law_good" (.p .v3 (.ix .v1 (.ki 1))))
def Zj4:S:=blk [q_0,q_1,q_2,q_3,q_4,q_5,q_6,q_7,q_8,q_9,ZxY,ZxW,ZxF]
def Zhd:S:=.c (.set 1 (.ls (.p (.fX "_law_name" (.p .v0 (.ki 0))) (.fX "_law_name" (.p .v0 (.ki 1)))))) (.c (.set 2 (.cb .k8 (.o (.cpr .p0 ["_law_k"] ["_law_script"] [0] [0] (.r1 (.bin .b0 (.ki 1) (.bin .b4 (.fX "_law_mix" (.p .v0 (.ki 10))) (.ki 3)))) .no (.bin .b4 (.fX "_law_mix" (.p .v1 (.bin .b0 (.ki 20) .v0))) (.ki 6)))))) Zj4)
noncomputable def ZeK:S:=.c (.ex (.cc "Thing" "__init__" (.p .v0 .v1))) (.one (.setF "amount" .v0 (.ki 0)))
noncomputable def Zfj:S:=.one (.ret (.bin .b7 (.g "LOOK" 1) (.g "PUT" 2)))
noncomputable def ZeL:S:=.c (.ex (.cc "Thing" "__init__" (.p .v0 .v1))) (.one (.setF "waiting" .v0 (.lsN .nil)))
noncomputable def Zf8:S:=.one (.ret (.bin .b7 (.bin .b7 (.g "LOOK" 1) (.g "SEND" 4)) (.g "HEAR" 8)))
noncomputable def ZfY:S:=.one (.ret (.ks "door"))
noncomputable def Zdi:S:=.one (.ret (.ct .t2 (.o (.fld "waiting" .v0))))
noncomputable def Zc8:S:=.c (.ifs (.cmp .c0 .v1 (.ks "send")) (.one (.ret (.fX "put_last" (.cons (.fld "waiting" .v0) (.cons .v2 (.cons (.g "DOOR_ROOM" 8) .nil)))))) .nil) (.c (.ifs (.cmp .c0 .v1 (.ks "hear")) (.one (.ret (.fX "first_out" (.o (.fld "waiting" .v0))))) .nil) (.one (.ret (.cb .k2 (.o (.fld "waiting" .v0))))))
noncomputable def Zb7:S:=.one (.ret (.dsp (.pr (.ks "count") (.g "LOOK" 1) (.pr (.ks "send") (.g "SEND" 4) (.pr (.ks "hear") (.g "HEAR" 8) .nil)))))
noncomputable def Zdf:S:=.c (.setF "number" .v0 .v1) (.c (.setF "thing" .v0 .v2) (.c (.setF "rights" .v0 .v3) (.c (.setF "giver" .v0 .v4) (.one (.setF "holder" .v0 .v5)))))
noncomputable def Zdb:S:=.c (.setF "tree" .v0 (.mk "Tree" .nil)) (.c (.setF "tasks" .v0 (.mk "Tasks" .nil)) (.c (.setF "things" .v0 .dN) (.one (.ex (.mX "added" (.fld "tasks" .v0) (.p .v1 (.ks "")))))))
noncomputable def Zc7:S:=.c (.setF "words" .v0 .v1) (.one (.setF "parts" .v0 .v2))
noncomputable def ZeN:S:=.c (.ex (.cc "Thing" "__init__" (.p .v0 .v1))) (.one (.setF "numbers" .v0 (.lsN .nil)))
noncomputable def ZfW:S:=.one (.ret (.bin .b7 (.g "LOOK" 1) (.g "PUT" 2)))
noncomputable def ZeR:S:=.c (.ex (.cc "Thing" "__init__" (.p .v0 .v1))) (.c (.setF "name" .v0 .v2) (.one (.setF "runs" .v0 (.kb true))))
noncomputable def ZfH:S:=.one (.ret (.bin .b7 (.g "LOOK" 1) (.g "END" 16)))
noncomputable def ZdP:S:=.c (.setF "makers" .v0 .dN) (.one (.setF "filled" .v0 .dN))
def ZdL:S:=.c (.ex (.mX "need_new" .v0 (.o .v1))) (.c (.ifs (.or (.nt (.tv (.cb .k1 (.p .v2 (.ty "str"))))) (.one (.cmp .c1 .v2 (.ks "")))) (.one (.ex (.mX "need" .v0 (.o .v2)))) .nil) (.c (.ifs (.cmp .c5 (.cb .k2 (.o (.fld "filled" .v0))) (.g "MOST_RUNNING" 12)) (.one (.rz "TooMany" (.o (.ks "as many tasks run as may")))) .nil) (.c (.setD (.fld "makers" .v0) .v1 .v2) (.one (.setD (.fld "filled" .v0) .v1 .dN)))))
noncomputable def Zha:S:=.c (.ex (.mX "need" .v0 (.o .v1))) (.c (.set 3 (.dg (.fld "filled" .v0) .v1)) (.c (.ifs (.or (.nt (.tv (.fX "is_number" (.o .v2)))) (.one (.cmp .c7 .v2 .v3))) (.one (.rz "NoHandle" (.o (.ks "there is no handle in such a slot")))) .nil) (.one (.ret (.dg .v3 .v2)))))
noncomputable def ZcH:S:=.c (.set 3 (.dg (.fld "filled" .v0) .v1)) (.c (.setK 4 ["slot"] ["number","filled"] [2,3] [0] .v3 (.so (.cmp .c0 (.dg .v2 .v0) .v1)) .v0) (.c (.forS [5] (.il .v4) (.one (.ex (.popD .v3 .v5)))) (.one (.ret (.cb .k2 (.o .v4))))))
noncomputable def ZeJ:S:=.c (.ex (.mX "need" .v0 (.o .v1))) (.one (.ret (.bin .b1 (.g "SLOT_COUNT" 16) (.cb .k2 (.o (.dg (.fld "filled" .v0) .v1))))))
noncomputable def ZeX:S:=.one (.ifs (.or (.nt (.tv (.cb .k1 (.p .v1 (.ty "str"))))) (.one (.cmp .c7 .v1 (.fld "filled" .v0)))) (.one (.rz "NoTask" (.o (.ks "no such task runs")))) .nil)
def Zcc:S:=.c (.ifs (.nt (.tv (.fX "is_name" (.o .v1)))) (.one (.rz "NoName" (.o (.ks "a name has 1 to 8 letters from a to z")))) .nil) (.one (.ifs (.cmp .c6 .v1 (.fld "makers" .v0)) (.one (.rz "Taken" (.o (.ks "a task has or had this name")))) .nil))
def ZfL:S:=.c (.ex (.mX "need" .v0 (.o .v1))) (.c (.set 3 (.dg (.fld "filled" .v0) .v1)) (.c (.setC 4 .p3 ["slot"] ["filled"] [3] [0] (.r1 (.g "SLOT_COUNT" 16)) (.so (.cmp .c7 .v0 .v1)) .v0) (.c (.ifs (.cmp .c0 (.cb .k2 (.o .v4)) (.ki 0)) (.one (.rz "TooMany" (.o (.ks "the task has no empty slot")))) .nil) (.c (.setD .v3 (.ix .v4 (.ki 0)) .v2) (.one (.ret (.ix .v4 (.ki 0))))))))
noncomputable def ZcT:S:=.one (.ret (.s1 .y0 (.fld "filled" .v0)))
noncomputable def Zd0:S:=.c (.ex (.mX "need" .v0 (.o .v1))) (.c (.set 2 (.dg (.fld "filled" .v0) .v1)) (.one (.ret (.cpr .p0 ["slot"] ["filled"] [2] [0] (.il (.cb .k8 (.o .v2))) .no (.tup (.p .v0 (.dg .v1 .v0)))))))
noncomputable def ZbV:S:=.c (.ifs (.nt (.tv (.fX "is_number" (.o .v1)))) (.one (.ret (.ki 0))) .nil) (.one (.ret (.cb .k3 (.o (.cpr .p2 ["name"] ["self","number"] [0,1] [0] (.il (.mX "running" .v0 .nil)) .no (.mX "emptied" .v1 (.p .v0 .v2)))))))
noncomputable def ZdX:S:=.one (.setF "number" .v0 .v1)
noncomputable def Zfw:S:=.c (.ex (.mX "needs" .v0 (.o .v1))) (.c (.ifs (.cmp .c0 .v1 (.ks "kind")) (.one (.ret (.mX "kind" .v0 .nil))) .nil) (.one (.ret (.mX "own_did" .v0 (.p .v1 .v2)))))
noncomputable def Zei:S:=.c (.ifs (.nt (.tv (.cb .k1 (.p .v1 (.ty "str"))))) (.one (.rzI "NoDeed" "deed" (.o .v1))) .nil) (.c (.ifs (.cmp .c0 .v1 (.ks "kind")) (.one (.ret (.ki 0))) .nil) (.c (.set 2 (.mX "own_needs" .v0 .nil)) (.c (.ifs (.cmp .c7 .v1 .v2) (.one (.rzI "NoDeed" "deed" (.o .v1))) .nil) (.one (.ret (.dg .v2 .v1))))))
noncomputable def Ze3:S:=.c (.setF "handles" .v0 .dN) (.c (.setF "offspring" .v0 .dN) (.one (.setF "following" .v0 (.ki 0))))
noncomputable def Zeq:S:=.c (.ex (.mX "need_kept" .v0 (.o .v1))) (.c (.set 2 (.lsN .nil)) (.c (.forD [3] (.dg (.fld "offspring" .v0) .v1) (.c (.ex (.app .v2 (.o .v3))) (.one (.ex (.ext .v2 (.mX "below" .v0 (.o .v3))))))) (.one (.ret .v2))))
noncomputable def ZeA:S:=.c (.ex (.mX "need_kept" .v0 (.o .v1))) (.c (.set 2 (.lsN .nil)) (.c (.set 3 .v1) (.c (.wh 100 (.cmp .c11 .v3 .kn) (.c (.ex (.app .v2 (.o .v3))) (.one (.set 3 (.fld "giver" (.dg (.fld "handles" .v0) .v3)))))) (.one (.ret (.s2 .z0 .v2))))))
noncomputable def Zhz:S:=.c (.set 2 (.cb .k8 (.o (.bin .b0 (.ls (.o .v1)) (.mX "below" .v0 (.o .v1)))))) (.c (.set 3 (.fld "giver" (.dg (.fld "handles" .v0) .v1))) (.c (.ifs (.cmp .c11 .v3 .kn) (.one (.ex (.popD (.dg (.fld "offspring" .v0) .v3) .v1))) .nil) (.c (.forS [4] (.il .v2) (.c (.ex (.popD (.fld "handles" .v0) .v4)) (.one (.ex (.popD (.fld "offspring" .v0) .v4))))) (.one (.ret .v2)))))
def Zdg:S:=.c (.set 4 (.mX "handle" .v0 (.o .v1))) (.c (.ifs (.nt (.tv (.fX "within" (.p .v2 (.fld "rights" .v4))))) (.one (.rzI "Lacks" "missing" (.o (.fX "missing" (.p .v2 (.fld "rights" .v4)))))) .nil) (.c (.ex (.mX "need_room_below" .v0 (.o .v1))) (.c (.set 5 (.mX "keep" .v0 (.cons (.fld "thing" .v4) (.cons .v2 (.cons (.fld "number" .v4) (.cons .v3 .nil)))))) (.c (.setD (.dg (.fld "offspring" .v0) .v1) .v5 (.kb true)) (.one (.ret .v5))))))
noncomputable def ZdU:S:=.c (.ex (.mX "need_kept" .v0 (.o .v1))) (.c (.set 2 (.dg (.fld "handles" .v0) .v1)) (.one (.ret (.mk "Handle" (.cons (.fld "number" .v2) (.cons (.fld "thing" .v2) (.cons (.fld "rights" .v2) (.cons (.fld "giver" .v2) (.cons (.fld "holder" .v2) .nil)))))))))
noncomputable def Zfx:S:=.c (.ex (.mX "need_kept" .v0 (.o .v1))) (.c (.set 3 (.dg (.fld "handles" .v0) .v1)) (.one (.setF "holder" .v3 .v2)))
def ZfG:S:=.c (.set 5 (.fld "following" .v0)) (.c (.setF "following" .v0 (.bin .b0 .v5 (.ki 1))) (.c (.setD (.fld "handles" .v0) .v5 (.mk "Handle" (.cons .v5 (.cons .v1 (.cons .v2 (.cons .v3 (.cons .v4 .nil))))))) (.c (.setD (.fld "offspring" .v0) .v5 .dN) (.one (.ret .v5)))))
noncomputable def Ze4:S:=.one (.ret (.an (.fX "is_number" (.o .v1)) (.one (.cmp .c6 .v1 (.fld "handles" .v0)))))
noncomputable def Zfz:S:=.one (.ret (.cb .k8 (.o (.fld "handles" .v0))))
noncomputable def Zb8:S:=.one (.ifs (.nt (.tv (.mX "keeps" .v0 (.o .v1)))) (.one (.rz "NoHandle" (.o (.ks "no such handle is kept")))) .nil)
def Zbb:S:=.one (.ifs (.cmp .c5 (.cb .k2 (.o (.mX "chain" .v0 (.o .v1)))) (.g "LONGEST_CHAIN" 40)) (.one (.rz "TooMany" (.o (.ks "the chain has as many handles as it may")))) .nil)
noncomputable def Zd7:S:=.one (.ret (.mX "keep" .v0 (.cons .v1 (.cons .v2 (.cons .kn (.cons .v3 .nil))))))
def ZdC (d c:Str):Bool:=bif eqN d "NoDeed" then eqN c "NoDeed" else true
noncomputable def Zvq:Kit:=[((.inl "int",.inl "int"),true),((.inl "int",.inl "bool"),false),((.inl "int",.inl "str"),false),((.inl "bool",.inl "int"),true),((.inl "bool",.inl "bool"),true),((.inl "bool",.inl "str"),false),((.inl "str",.inl "int"),false),((.inl "str",.inl "bool"),false),((.inl "str",.inl "str"),true),((.inl "NoneType",.inl "int"),false),((.inl "NoneType",.inl "bool"),false),((.inl "NoneType",.inl "str"),false),((.inl "list",.inl "int"),false),((.inl "list",.inl "bool"),false),((.inl "list",.inl "str"),false),((.inl "tuple",.inl "int"),false),((.inl "tuple",.inl "bool"),false),((.inl "tuple",.inl "str"),false),((.inl "dict",.inl "int"),false),((.inl "dict",.inl "bool"),false),((.inl "dict",.inl "str"),false),((.inl "list",.inl "list"),true),((.inl "list",.inl "tuple"),false),((.inl "tuple",.inl "list"),false),((.inl "tuple",.inl "tuple"),true),((.inl "NoneType",.inl "list"),false),((.inl "NoneType",.inl "tuple"),false),((.inr "Cell",.inr "Door"),false),((.inr "Line",.inr "Door"),false),((.inr "Door",.inr "Door"),true),((.inr "Post",.inr "Door"),false),((.inr "NoDeed",.inl "ValueError"),true),((.inr "NoDeed",.inr "NoName"),false),((.inr "NoDeed",.inr "NoValue"),false),((.inr "NoDeed",.inr "NoKind"),false),((.inr "NoDeed",.inr "NoThing"),false),((.inr "NoDeed",.inr "NoRow"),false),((.inr "NoDeed",.inr "Taken"),false),((.inr "NoDeed",.inr "TooGreat"),false),((.inr "NoDeed",.inr "NoDeed"),true),((.inr "NoDeed",.inr "NoRights"),false),((.inr "NoDeed",.inr "NoTask"),false),((.inr "NoDeed",.inr "NoHandle"),false),((.inr "NoDeed",.inr "NoWords"),false),((.inr "NoDeed",.inr "TooMany"),false),((.inr "NoDeed",.inr "Empty"),false),((.inr "NoDeed",.inr "Full"),false),((.inr "NoDeed",.inr "Lacks"),false),((.inr "NoTask",.inl "ValueError"),true),((.inr "NoTask",.inr "NoName"),false),((.inr "NoTask",.inr "NoValue"),false),((.inr "NoTask",.inr "NoKind"),false),((.inr "NoTask",.inr "NoThing"),false),((.inr "NoTask",.inr "NoRow"),false),((.inr "NoTask",.inr "Taken"),false),((.inr "NoTask",.inr "TooGreat"),false),((.inr "NoTask",.inr "NoDeed"),false),((.inr "NoTask",.inr "NoRights"),false),((.inr "NoTask",.inr "NoTask"),true),((.inr "NoTask",.inr "NoHandle"),false),((.inr "NoTask",.inr "NoWords"),false),((.inr "NoTask",.inr "TooMany"),false),((.inr "NoTask",.inr "Empty"),false),((.inr "NoTask",.inr "Full"),false),((.inr "NoTask",.inr "Lacks"),false),((.inr "NoHandle",.inl "ValueError"),true),((.inr "NoHandle",.inr "NoName"),false),((.inr "NoHandle",.inr "NoValue"),false),((.inr "NoHandle",.inr "NoKind"),false),((.inr "NoHandle",.inr "NoThing"),false),((.inr "NoHandle",.inr "NoRow"),false),((.inr "NoHandle",.inr "Taken"),false),((.inr "NoHandle",.inr "TooGreat"),false),((.inr "NoHandle",.inr "NoDeed"),false),((.inr "NoHandle",.inr "NoRights"),false),((.inr "NoHandle",.inr "NoTask"),false),((.inr "NoHandle",.inr "NoHandle"),true),((.inr "NoHandle",.inr "NoWords"),false),((.inr "NoHandle",.inr "TooMany"),false),((.inr "NoHandle",.inr "Empty"),false),((.inr "NoHandle",.inr "Full"),false),((.inr "NoHandle",.inr "Lacks"),false),((.inr "Lacks",.inl "ValueError"),true),((.inr "Lacks",.inr "NoName"),false),((.inr "Lacks",.inr "NoValue"),false),((.inr "Lacks",.inr "NoKind"),false),((.inr "Lacks",.inr "NoThing"),false),((.inr "Lacks",.inr "NoRow"),false),((.inr "Lacks",.inr "Taken"),false),((.inr "Lacks",.inr "TooGreat"),false),((.inr "Lacks",.inr "NoDeed"),false),((.inr "Lacks",.inr "NoRights"),false),((.inr "Lacks",.inr "NoTask"),false),((.inr "Lacks",.inr "NoHandle"),false),((.inr "Lacks",.inr "NoWords"),false),((.inr "Lacks",.inr "TooMany"),false),((.inr "Lacks",.inr "Empty"),false),((.inr "Lacks",.inr "Full"),false),((.inr "Lacks",.inr "Lacks"),true),((.inr "Empty",.inl "ValueError"),true),((.inr "Empty",.inr "NoName"),false),((.inr "Empty",.inr "NoValue"),false),((.inr "Empty",.inr "NoKind"),false),((.inr "Empty",.inr "NoThing"),false),((.inr "Empty",.inr "NoRow"),false),((.inr "Empty",.inr "Taken"),false),((.inr "Empty",.inr "TooGreat"),false),((.inr "Empty",.inr "NoDeed"),false),((.inr "Empty",.inr "NoRights"),false),((.inr "Empty",.inr "NoTask"),false),((.inr "Empty",.inr "NoHandle"),false),((.inr "Empty",.inr "NoWords"),false),((.inr "Empty",.inr "TooMany"),false),((.inr "Empty",.inr "Empty"),true),((.inr "Empty",.inr "Full"),false),((.inr "Empty",.inr "Lacks"),false),((.inr "TooMany",.inl "ValueError"),true),((.inr "TooMany",.inr "NoName"),false),((.inr "TooMany",.inr "NoValue"),false),((.inr "TooMany",.inr "NoKind"),false),((.inr "TooMany",.inr "NoThing"),false),((.inr "TooMany",.inr "NoRow"),false),((.inr "TooMany",.inr "Taken"),false),((.inr "TooMany",.inr "TooGreat"),false),((.inr "TooMany",.inr "NoDeed"),false),((.inr "TooMany",.inr "NoRights"),false),((.inr "TooMany",.inr "NoTask"),false),((.inr "TooMany",.inr "NoHandle"),false),((.inr "TooMany",.inr "NoWords"),false),((.inr "TooMany",.inr "TooMany"),true),((.inr "TooMany",.inr "Empty"),false),((.inr "TooMany",.inr "Full"),false),((.inr "TooMany",.inr "Lacks"),false)]
def eL:Fe:=⟨"law","","law",top 101,1,["_law_script","_law_names","_law_faults","_law_kernel_here","_law_parts_here","_law_due_here","_law_task","_law_slot_here","_law_before"],Zhd,false,false,0,none⟩
def ZjH:Fe:=⟨"hand","","hand",top 72,5,["kernel","task","slot","other","rights","handle","asked"],ZsB,false,true,0,none⟩
def Ziq:Fe:=⟨"send","","send",top 79,6,["kernel","task","slot","words","slots","rights","handle","door","givers","parts"],ZqB,false,true,1,some 63⟩
def ZbK:Fe:=⟨"__init__","Thing","Thing.__init__",Zac (top 48) 0,2,["self","number"],ZdX,false,false,0,none⟩
def g:Pg where
 D:=[⟨"is_number","","is_number",top 30,1,["thing"],Zf4,false,false,0,none⟩,⟨"is_rights","","is_rights",top 31,1,["thing"],Zgf,false,false,0,none⟩,⟨"missing","","missing",top 32,2,["needed","had"],ZhZ,false,false,0,none⟩,⟨"within","","within",top 33,2,["some","more"],ZlO,false,false,0,none⟩,⟨"narrowed","","narrowed",top 34,2,["rights","to"],ZhH,false,false,0,none⟩,⟨"is_name","","is_name",top 35,1,["thing"],Zcs,false,false,0,none⟩,⟨"is_sign_of_words","","is_sign_of_words",top 37,1,["sign"],ZbM,false,false,0,none⟩,⟨"are_words","","are_words",top 38,1,["thing"],ZfT,false,false,0,none⟩,⟨"put_last","","put_last",top 46,3,["waiting","one","room"],Zg8,false,false,0,none⟩,⟨"first_out","","first_out",top 47,1,["waiting"],ZfV,false,false,0,none⟩,⟨"begun","","begun",top 60,1,["name"],Znu,false,false,0,none⟩,⟨"handle_at","","handle_at",top 61,3,["kernel","task","slot"],ZfS,false,false,0,none⟩,⟨"need_rights","","need_rights",top 62,2,["rights","had"],ZdR,false,false,0,none⟩,⟨"need_to_be_rights","","need_to_be_rights",top 63,1,["rights"],Zbx,false,false,0,none⟩,⟨"need_empty_slot","","need_empty_slot",top 64,2,["kernel","task"],ZbT,false,false,0,none⟩,⟨"need_room_for_thing","","need_room_for_thing",top 65,2,["kernel","task"],Zbl,false,false,0,none⟩,⟨"new_thing","","new_thing",top 66,2,["kernel","kind","number"],Zft,false,false,0,none⟩,⟨"kept_for","","kept_for",top 67,3,["kernel","task","thing","number"],Zg6,false,false,0,none⟩,⟨"handed_down","","handed_down",top 68,4,["kernel","handle","rights","task","number"],Zeb,false,false,0,none⟩,⟨"make","","make",top 69,3,["kernel","task","kind"],Zt7,false,false,0,none⟩,⟨"start","","start",top 70,3,["kernel","task","name"],Zpm,false,false,0,none⟩,⟨"narrow","","narrow",top 71,4,["kernel","task","slot","rights","handle"],Zlw,false,false,0,none⟩,ZjH,⟨"door_of","","door_of",top 76,3,["kernel","handle","deed","thing"],Zj1,false,false,0,none⟩,⟨"slots_told","","slots_told",top 77,1,["slots"],Ze9,false,false,0,none⟩,⟨"need_sendable","","need_sendable",top 78,4,["kernel","handle","door","givers","giver"],ZcI,false,false,0,none⟩,Ziq,⟨"first_letter","","first_letter",top 80,1,["door","waiting"],Zdc,false,false,0,none⟩,⟨"need_slots_for","","need_slots_for",top 81,3,["kernel","task","letter","kept"],Zb9,false,false,0,none⟩,⟨"slot_of_part","","slot_of_part",top 82,3,["kernel","task","part"],Zda,false,false,0,none⟩,⟨"hear","","hear",top 83,3,["kernel","task","slot","handle","door","letter"],Zt5,false,false,0,none⟩,⟨"gone_with","","gone_with",top 85,2,["kernel","number","gone","lower"],Zgd,false,false,0,none⟩,⟨"give_up","","give_up",top 86,3,["kernel","task","slot"],Zju,false,false,0,none⟩,⟨"_law_mix","","_law_mix",top 88,2,["_law_script","_law_k","_law_cell","_law_number"],ZfJ,false,false,0,none⟩,⟨"_law_name","","_law_name",top 89,2,["_law_script","_law_k","_law_sign","_law_base","_law_size","_law_at"],Zci,false,false,0,none⟩,⟨"_law_word","","_law_word",top 90,1,["_law_e","_law_some"],Zk3,true,false,0,none⟩,⟨"_law_hear","","_law_hear",top 91,3,["_law_kernel_here","_law_task","_law_slot_here","_law_e"],Zlf,false,false,0,none⟩,⟨"_law_state","","_law_state",top 92,2,["_law_kernel_here","_law_names","_law_found","_law_number","_law_handle","_law_letters"],ZjP,false,false,0,none⟩,⟨"_law_strange","","_law_strange",top 93,2,["_law_script","_law_k","_law_number"],Zf1,false,false,0,none⟩,⟨"_law_kernel","","_law_kernel",top 94,3,["_law_script","_law_names","_law_faults","_law_kernel_here","_law_kind"],Zhk,false,false,0,none⟩,⟨"_law_parts","","_law_parts",top 95,1,["_law_kernel_here","_law_kept"],ZjN,false,false,0,none⟩,⟨"_law_filled","","_law_filled",top 96,3,["_law_kernel_here","_law_name_here","_law_left"],Zho,false,false,0,none⟩,⟨"_law_field","","_law_field",top 97,3,["_law_kernel_here","_law_name_here","_law_slot_here","_law_e"],Zh3,false,false,0,none⟩,⟨"_law_due","","_law_due",top 98,2,["_law_faults","_law_parts_here","_law_some","_law_fault"],Znb,false,false,0,none⟩,⟨"_law_slot","","_law_slot",top 99,4,["_law_script","_law_kernel_here","_law_name_here","_law_faults"],ZkZ,false,false,0,none⟩,⟨"_law_good","","_law_good",top 100,2,["_law_kernel_here","_law_name_here","_law_slot_here","_law_number","_law_letter","_law_kept","_law_empty","_law_told","_law_part"],Zle,false,false,0,none⟩,eL]
 M:=[⟨"__init__","Cell","Cell.__init__",Zac (top 49) 0,2,["self","number"],ZeK,false,false,0,none⟩,⟨"fits","Cell","Cell.fits",Zac (top 49) 2,1,["self"],Zfj,false,false,0,none⟩,⟨"__init__","Door","Door.__init__",Zac (top 51) 0,2,["self","number"],ZeL,false,false,0,none⟩,⟨"fits","Door","Door.fits",Zac (top 51) 2,1,["self"],Zf8,false,false,0,none⟩,⟨"letters","Door","Door.letters",Zac (top 51) 4,1,["self"],Zdi,false,false,0,none⟩,⟨"own_did","Door","Door.own_did",Zac (top 51) 6,3,["self","deed","value"],Zc8,false,false,0,none⟩,⟨"own_needs","Door","Door.own_needs",Zac (top 51) 5,1,["self"],Zb7,false,false,0,none⟩,⟨"__init__","Handle","Handle.__init__",Zac (top 55) 0,6,["self","number","thing","rights","giver","holder"],Zdf,false,false,0,none⟩,⟨"__init__","Kernel","Kernel.__init__",Zac (top 59) 0,2,["self","name"],Zdb,false,false,0,none⟩,⟨"__init__","Letter","Letter.__init__",Zac (top 75) 0,3,["self","words","parts"],Zc7,false,false,0,none⟩,⟨"__init__","Line","Line.__init__",Zac (top 50) 0,2,["self","number"],ZeN,false,false,0,none⟩,⟨"fits","Line","Line.fits",Zac (top 50) 2,1,["self"],ZfW,false,false,0,none⟩,⟨"__init__","Post","Post.__init__",Zac (top 52) 0,3,["self","number","name"],ZeR,false,false,0,none⟩,⟨"fits","Post","Post.fits",Zac (top 52) 2,1,["self"],ZfH,false,false,0,none⟩,⟨"__init__","Tasks","Tasks.__init__",Zac (top 42) 0,1,["self"],ZdP,false,false,0,none⟩,⟨"added","Tasks","Tasks.added",Zac (top 42) 3,3,["self","name","maker"],ZdL,false,false,0,none⟩,⟨"at","Tasks","Tasks.at",Zac (top 42) 7,3,["self","name","slot","filled"],Zha,false,false,0,none⟩,⟨"emptied","Tasks","Tasks.emptied",Zac (top 42) 9,3,["self","name","number","filled","found","slot"],ZcH,false,false,0,none⟩,⟨"free","Tasks","Tasks.free",Zac (top 42) 8,2,["self","name"],ZeJ,false,false,0,none⟩,⟨"need","Tasks","Tasks.need",Zac (top 42) 1,2,["self","name"],ZeX,false,false,0,none⟩,⟨"need_new","Tasks","Tasks.need_new",Zac (top 42) 2,2,["self","name"],Zcc,false,false,0,none⟩,⟨"put","Tasks","Tasks.put",Zac (top 42) 6,3,["self","name","number","filled","empty"],ZfL,false,false,0,none⟩,⟨"running","Tasks","Tasks.running",Zac (top 42) 4,1,["self"],ZcT,false,false,0,none⟩,⟨"slots","Tasks","Tasks.slots",Zac (top 42) 11,2,["self","name","filled"],Zd0,false,false,0,none⟩,⟨"taken_out","Tasks","Tasks.taken_out",Zac (top 42) 10,2,["self","number"],ZbV,false,false,0,none⟩,⟨"did","Door","Thing.did",Zac (top 48) 7,3,["self","deed","value"],Zfw,false,false,0,none⟩,⟨"needs","Door","Thing.needs",Zac (top 48) 6,2,["self","deed","needed"],Zei,false,false,0,none⟩,⟨"__init__","Tree","Tree.__init__",Zac (top 56) 0,1,["self"],Ze3,false,false,0,none⟩,⟨"below","Tree","Tree.below",Zac (top 56) 9,2,["self","number","found","child"],Zeq,false,false,0,none⟩,⟨"chain","Tree","Tree.chain",Zac (top 56) 10,2,["self","number","upward","step"],ZeA,false,false,0,none⟩,⟨"cut","Tree","Tree.cut",Zac (top 56) 11,2,["self","number","gone","giver","taken"],Zhz,false,false,0,none⟩,⟨"derived","Tree","Tree.derived",Zac (top 56) 6,4,["self","number","rights","holder","giver","made"],Zdg,false,false,0,none⟩,⟨"handle","Tree","Tree.handle",Zac (top 56) 7,2,["self","number","kept"],ZdU,false,false,0,none⟩,⟨"held","Tree","Tree.held",Zac (top 56) 8,3,["self","number","holder","kept"],Zfx,false,false,0,none⟩,⟨"keep","Tree","Tree.keep",Zac (top 56) 4,5,["self","thing","rights","giver","holder","number"],ZfG,false,false,0,none⟩,⟨"keeps","Tree","Tree.keeps",Zac (top 56) 1,2,["self","number"],Ze4,false,false,0,none⟩,⟨"kept","Tree","Tree.kept",Zac (top 56) 12,1,["self"],Zfz,false,false,0,none⟩,⟨"need_kept","Tree","Tree.need_kept",Zac (top 56) 2,2,["self","number"],Zb8,false,false,0,none⟩,⟨"need_room_below","Tree","Tree.need_room_below",Zac (top 56) 3,2,["self","number"],Zbb,false,false,0,none⟩,⟨"rooted","Tree","Tree.rooted",Zac (top 56) 5,4,["self","thing","rights","holder"],Zd7,false,false,0,none⟩,⟨"kind","Door","Door.kind",Zac (top 51) 1,1,["self"],ZfY,false,false,0,none⟩,ZbK]
 I:=["Cell","Door","Handle","Kernel","Letter","Line","Post","Tasks","Tree"]
 Cm:=[("Thing","__init__")]
 Kc:=[("DOOR_ROOM",8),("END",16),("HEAR",8),("LONGEST_CHAIN",40),("LONGEST_NAME",8),("LONGEST_WORDS",20),("LOOK",1),("MOST_PARTS",4),("MOST_RIGHTS",63),("MOST_RUNNING",12),("MOST_THINGS",40),("PASS",32),("PERCENT_SIGN",37),("PUT",2),("SEND",4),("SLOT_COUNT",16)]
 Ty:=["ValueError","bool","int","list","range","reversed","str","tuple"]
 Bu:=["all","isinstance","len","ord","sorted","sum"]
 Cn:=["Door","Empty","Full","Lacks","NoDeed","NoHandle","NoKind","NoName","NoRights","NoRow","NoTask","NoThing","NoValue","NoWords","Taken","TooGreat","TooMany"]
 Fl:=["amount","filled","following","giver","handles","holder","makers","name","number","numbers","offspring","parts","rights","runs","tasks","thing","things","tree","waiting","words"]
 Rz:=["Empty","Full","NoHandle","NoKind","NoName","NoRights","NoTask","NoWords","Taken","TooMany"]
 Ri:=[("Lacks","missing"),("NoDeed","deed")]
 Ct:=["NoDeed","PassError"]
 Xf:=[("Lacks","missing"),("NoDeed","deed")]
 sub:=ZdC
 kit:=Zvq
local macro_rules | `(tactic| walk_at "un")=>`(tactic| dsimp only[ZfJ,Zci,Zcs,Zhd,dB,dS,dE,dA,dT,dI,dO,dP,dQ,opB,opC,opU,cbO,ctO,s1O,s2O,gTs])
local macro_rules | `(tactic| simp![$ts,*])=>`(tactic| simp[$ts,*,ZhM,ZaK,Out.res,Zf2,Zp5,Zqp,ZdJ,gN,Zjw,Zf9,xC,Zfe,Zbv,ZbS,xCb,ZiN,xOr,Zjb,Zbk,Zqq,Res.bind,Res.of,iop,Zo9,Zt9,Zig,ZuR,ZfK,ixM,ZgC,items,gtM,leM,ZmG,tyX,tyN,sizeLine_eq,xSl,xPn,xPs,slM,Zkm,Zff,Zni,xIs,Zhx,ρC,ZaJ,ZhL,pu])
def Ze6 (z:Str):Bool:=decide (1<=z.length) && decide (z.length<=8) && z.cps.toList.all fun c=>decide (97<=c) && decide (c<=122)
def ZyR (c:Nat):Zjv "a" ⟨#[c]⟩=decide (97<=c):=by
 unfold Zjv;rw[show (Yam "a").cps.toList=[97] from by decide +kernel,YbZ];simp[List.cons_lt_cons_iff]
def Zyk (c:Nat):Zjv ⟨#[c]⟩ "z"=decide (c<=122):=by
 unfold Zjv;rw[show (Yam "z").cps.toList=[122] from by decide +kernel,YbZ];simp[List.cons_lt_cons_iff]
def Zco {F G:Sm}{ρ ρ':Sg}{h h':Mem}(e:F ρ h=.nx ρ' h'):Zf2 F G ρ h=G ρ' h':=by unfold Zf2;rw[e]
def Zoj (x y:Str):(x++y).length=x.length+y.length:=by rw[Zat,ZaL,Ybo,<-Zat,<-Zat]
noncomputable def ZbJ (ns:List Int)(k:Int):Int:=
 let c:=bif decide (0<ns.length) then ns.getD (k % ns.length).toNat 0+k / ns.length else k
 ((c+7919 * (k+1)) * 48271 % 2147483647) * ((c+7919 * (k+1)) * 48271 % 2147483647) % 2147483629
def ZsP (ns:List Int)(k:Int):0<=ZbJ ns k/\ZbJ ns k<2147483629:=by
 unfold ZbJ;exact ⟨Yb2 _ (by decide),YbC _ (by decide)⟩
def Ztf (C:Cl)(ns:List Int)(k:Int)(h:Mem)(h0:0<=k)(h1:k<=1000)(hl:ns.length<=63):(up g C).f "_law_mix" [.tl (ns.map W.int),.int k] h=.ok (.int (ZbJ ns k)) h:=by
 rw[show (up g C).f "_law_mix"=Zcb 2 4 (dB ZdC C ZfJ) by kernel_rfl];refine Zd6 rfl ?_ (Yak _)
 walk_at "un"
 have f1:∀ x:Int,x * 48271 % 2147483647<18446744073709551616:=fun x=>Int.lt_of_lt_of_le (YbC _ (by decide)) (by decide)
 have Y:∀ x:Int,-18446744073709551616<x * 48271 % 2147483647:=fun x=>Int.lt_of_lt_of_le (by decide) (Yb2 _ (by decide))
 by_cases hn:0<ns.length
 ·have hz:(0:Int)<(ns.length:Int):=by omega
  have J:(ns.length:Int)<1073741824:=by omega
  have e1:atI (ns.map W.int) (k % (ns.length:Int))=some (.int (ns.getD (k % (ns.length:Int)).toNat 0)):=by
   have a1:=Yb2 k (show (ns.length:Int)≠0 by omega);have a2:=YbC k hz;rw[Zg1 a1,YaU];have:(k % (ns.length:Int)).toNat<ns.length:=by omega
   simp[this]
  unfold ZbJ;simp only[hn,decide_true,cond_true];generalize hc:ns.getD (k % (ns.length:Int)).toNat 0+k / (ns.length:Int)=c;have U:ns[(k % (ns.length:Int)).toNat]?.getD 0+k / (ns.length:Int)=c:=by rw[<-hc,YdM]
  rw[YdM] at e1;have I:ns.length<1073741824:=by omega
  simp![hn,hz,J,I,e1,U,f1,Y]
 ·have hz:¬(0:Int)<(ns.length:Int):=by omega
  have z:ns=[]:=Yc8.mp (by omega);subst z;unfold ZbJ;simp only[Yc6,Yci,decide_false,cond_false];simp![f1,Y]
def Zux (C:Cl)(hC:C.kit=Zvq)(z:Str)(h:Mem)(hz:Ze6 z=true):(up g C).f "is_name" [.str z] h=.ok (.bl true) h:=by
 rw[show (up g C).f "is_name"=Zcb 1 1 (dB ZdC C Zcs) by kernel_rfl];refine Zd6 rfl ?_ (Yak _)
 walk_at "un"
 rw[hC];unfold Ze6 at hz;simp only[Yaa,decide_eq_true_eq] at hz;obtain ⟨⟨e3,e4⟩,U⟩:=hz;have ec:∀ ρ,ρ=[some (W.str z)]->Za9 (xIs (Zf9 0)) 1 [] (gN 0) (xC (.bl true)) (pu (Zbk leM leM (xC (.str "a")) (Zf9 0) (xC (.str "z")))) ρ h=.ok (.tl ((z.cps.toList.map fun c=>decide (97<=c) && decide (c<=122)).map W.bl)) h:=by
  rintro ρ rfl;rw[YbS];refine ZbE (fun c=>W.str ⟨#[c]⟩) _ z.cps.toList (s:=none) ?_ ?_ ?_
  ·simp![M.signs]
  ·rw[<-Zat,Ybj];omega
  ·intro c _ I;refine ⟨_,rfl,⟨h++[.lst I],Zfn ?_⟩,rfl⟩;by_cases q:97<=c<;>simp![ZyR,Zyk,q]
 have kg:Kit.get Zvq (.inl "str") (.inl "str")=some true:=by decide +kernel
 have J:z.length<=16777216:=by omega
 have Y:(1:Int)<=z.length:=by omega
 have e2:(z.length:Int)<=8:=by omega
 have e6:(z.cps.toList.map fun c=>decide (97<=c) && decide (c<=122)).all id=true:=by rw[YdO];exact U
 simp![Y,e2,e3,e4,J,ec,kg,Zjx,YdO];exact fun x hx=>by have:=Yaf.mp U z.cps[x] (by simp);simpa using this
def Zkl {x:Str}{i j:Int}(h:0<=i/\i<=j/\j<=x.length):(Yb0 x (some i) (some j)).cps.toList=(x.cps.toList.drop i.toNat).take (j - i).toNat:=by
 show (StrLaws.sliceText x (some i) (some j)).cps.toList=_;rw[StrLaws.sliceText_plain (by simpa [Ye9] using h)]
def ZwN:(Yam "abcdefghijklmnopqrstuvwxyz").cps.toList=(YbM 26).map (97 + ·):=by decide +kernel
def ZkH {i:Int}(z:0<=i)(h1:i<26):atI (Yam "abcdefghijklmnopqrstuvwxyz").cps.toList i=some (97+i.toNat):=by
 rw[ZwN,Zg1 z,YaU];have:i.toNat<26:=by omega
 simp[this]
def ZgP {z:Str}(h1:1<=z.cps.toList.length)(h2:z.cps.toList.length<=8)(h:∀ c∈z.cps.toList,97<=c/\c<=122):Ze6 z=true:=by
 unfold Ze6;rw[Zat];simp only[Yaa,decide_eq_true_eq,Yaf];exact ⟨⟨h1,h2⟩,fun c I=>h c I⟩
def ZwH (ns:List Int)(hl:ns.length<=63):∃ nm:Nat->Str,(∀ k,k<=20->Ze6 (nm k)=true)/\(∀ k j,k<=20->j<=20->k≠j->¬nm k=nm j)/\∀ C:Cl,(∀ (ns:List Int) (k:Int) (h:Mem),0<=k->k<=1000->ns.length<=63->C.f "_law_mix" [.tl (ns.map W.int),.int k] h=.ok (.int (ZbJ ns k)) h)->∀ h k,k<=20->(up g C).f "_law_name" [.tl (ns.map W.int),.int (k:Nat)] h=.ok (.str (nm k)) h:=by
 obtain ⟨AL,af⟩:∃ AL:Str,Yam "abcdefghijklmnopqrstuvwxyz"=AL:=⟨_,rfl⟩;have al:=@ZkH;have aa:AL.length=26:=by rw[<-af];decide +kernel
 rw[af] at al;have b1:=ZsP ns 1;obtain ⟨q,ah⟩:∃ q,ZbJ ns 1=q:=⟨_,rfl⟩;rw[ah] at b1;obtain ⟨ts,ai,ar,ht⟩:∃ ts:List Str,ts=(YbM 8).map (fun (k:Nat)=>(⟨#[97+(ZbJ ns (2+(k:Int)) / 7 % 26).toNat]⟩:Str))/\ts.length=8/\∀ t∈ts,∃ c,t=⟨#[c]⟩/\97<=c/\c<=122:=by
  refine ⟨_,rfl,by simp,?_⟩;intro t ht;simp only[YbF] at ht;obtain ⟨k,_,rfl⟩:=ht;exact ⟨_,rfl,by omega,by omega⟩
 have hj:JoinOk (Yam "") ts=true:=Zjl (by
  have:∀ l:List Str,(∀ t∈l,∃ c,t=⟨#[c]⟩/\97<=c/\c<=122)->(l.map fun t=>t.length+(Yam "").length).sum<=l.length:=by
   intro l
   induction l with
   | nil=>intro _;simp
   | cons a r ih=>
    intro q;obtain ⟨c,rfl,_⟩:=q a YaD;have q2:=ih fun t m=>q t (Yau _ m)
    have q3:(Yam "").length=0:=by decide +kernel
    have q4:(⟨#[c]⟩:Str).length=1:=rfl;simp[q4,q3] at q2 ⊢;omega
  have:=this ts ht;rw[Ybj];omega)
 obtain ⟨bs,ag,as,hb⟩:∃ bs:List Nat,(YeY (Yam "") ts).cps.toList=bs/\bs.length=8/\∀ c∈bs,97<=c/\c<=122:=by
  refine ⟨_,rfl,?_,?_⟩
  all_goals
   have e0:Yam ""=⟨#[]⟩:=by decide +kernel
   rw[ZpZ,e0,Zdq]
  ·have:∀ l:List Str,(∀ t∈l,∃ c,t=⟨#[c]⟩/\97<=c/\c<=122)->((l.map fun t=>t.cps.toList).flatten).length=l.length:=by
    intro l
    induction l with
    | nil=>intro _;simp
    | cons a r ih=>
     intro q;obtain ⟨c,rfl,_⟩:=q a YaD;have q2:=ih fun t m=>q t (Yau _ m)
     simp only[Yap,List.flatten_cons,Ybo,Ya4,q2];simp;omega
   rw[this ts ht,ar]
  ·intro c I;rw[List.mem_flatten] at I;obtain ⟨l,ak,I⟩:=I;obtain ⟨t,aq,rfl⟩:=YbF.mp ak;obtain ⟨d,rfl,hd⟩:=ht t aq;have:c=d:=by simpa using I
   rw[this];exact hd
 obtain ⟨B,hB⟩:∃ B,YeY (Yam "") ts=B:=⟨_,rfl⟩;rw[hB] at ag;have aw:B.length=8:=by rw[Zat,ag,as]
 have Y:∀ s:Int,0<=(q+s) % 26/\(q+s) % 26<26:=fun s=>⟨Yb2 _ (by decide),YbC _ (by decide)⟩
 have hsz:0<=q / 26 % 8/\q / 26 % 8<8:=⟨Yb2 _ (by decide),YbC _ (by decide)⟩;obtain ⟨J,aj,ax,ay⟩:∃ J:Int,1+q / 26 % 8=J/\1<=J/\J<=8:=⟨_,rfl,by omega,by omega⟩;have s0:(0:Int)<J:=by omega
 have go:∀ (U:Fm) (Cm:Ex),(∀ h,U [.tl (ns.map W.int),.int 1] h=.ok (.int q) h)->(∀ s h,Cm [some (.tl (ns.map W.int)),some (.int s),some (.str ⟨#[97+((q+s) % 26).toNat]⟩),none,none,none] h=.ok (.tl (ts.map W.str)) h)->∀ (R:Int->Str) (B0:Sm),(∀ (s:Int) (h:Mem),0<=s->s<=20->B0 [some (.tl (ns.map W.int)),some (.int s),some (.str ⟨#[97+((q+s) % 26).toNat]⟩),some (.str B),some (.int J),none] h=.rt (.str (R s)) h) ->
   ∀ (k:Nat) (h:Mem),k<=20->Zcb 2 6 (Zf2 (ZdJ (gN 2) (ZbS ixM (xC (.str AL)) (ZbS Zig (ZbS ZfK (ZaJ U (Zbv (Zf9 0) (Zbv (xC (.int 1)) Zfe))) (Zf9 1)) (xC (.int 26))))) (Zf2 (ZdJ (gN 3) (Zni Zff (xC (.str (Yam ""))) (Zbv Cm Zfe))) (Zf2 (ZdJ (gN 4) (ZbS ZfK (xC (.int 1)) (ZbS Zig (ZbS Zt9 (ZaJ U (Zbv (Zf9 0) (Zbv (xC (.int 1)) Zfe))) (xC (.int 26))) (xC (.int 8))))) B0))) [.tl (ns.map W.int),.int (k:Nat)] h=.ok (.str (R k)) h:=by
  intro U Cm m1 ec R B0 ao k h hk;refine Zd6 rfl ?_ (Yak _);refine congrArg Out.res (?_:_=Out.rt (.str (R k)) h);have e2:=al (i:=(q+(k:Int)) % 26) (Y k).1 (Y k).2;refine (Zco (ρ':=[some (.tl (ns.map W.int)),some (.int k),some (.str ⟨#[97+((q+(k:Int)) % 26).toNat]⟩),none,none,none]) (h':=h) (by simp![m1,e2,aa])).trans ?_;refine (Zco (ρ':=[some (.tl (ns.map W.int)),some (.int k),some (.str ⟨#[97+((q+(k:Int)) % 26).toNat]⟩),some (.str B),none,none]) (h':=h) (by simp![ec,hj,hB,Zkw])).trans ?_;refine (Zco (ρ':=[some (.tl (ns.map W.int)),some (.int k),some (.str ⟨#[97+((q+(k:Int)) % 26).toNat]⟩),some (.str B),some (.int J),none]) (h':=h) (by simp![m1,aj])).trans ?_;exact ao k h (by omega) (by omega)
 have sl:∀ c:Nat,(⟨#[c]⟩:Str).length=1:=fun _=>rfl
 by_cases hq:0<q / 208 % 3
 ·have a0:=Yb2 (q / 624) (show J≠0 by omega);have a1:=YbC (q / 624) s0;generalize ha:q / 624 % J=a at a0 a1;obtain ⟨an,rfl⟩:=Yeb a0;have c1:=Zgw (x:=B) (j:=(an:Int)) (by omega);have c2:=Zkl (x:=B) (i:=(an:Int)+1) (j:=J) (by omega);rw[ag] at c1 c2;have l1:(Yb0 B none (some (an:Int))).length=an:=by rw[Zat,c1];simp;omega
  have l2:(Yb0 B (some ((an:Int)+1)) (some J)).length<=8:=by rw[Zat,c2];simp;omega
  refine ⟨fun k=>Yb0 B none (some (an:Int))++⟨#[97+((q+(k:Int)) % 26).toNat]⟩++Yb0 B (some ((an:Int)+1)) (some J),fun k hk=>?_,fun k j hk am au e=>?_,?_⟩
  ·refine ZgP ?_ ?_ ?_
   all_goals rw[ZaL,ZaL,c1,c2]
   ·simp;omega
   ·simp;omega
   ·intro c I;simp only[YbX,Ycu] at I;rcases I with (I|I)|I
    ·exact hb c (Ydw I)
    ·have I:c=97+((q+(k:Int)) % 26).toNat:=by simpa using I
     have:=Y k;omega
    ·exact hb c (List.mem_of_mem_drop (Ydw I))
  ·have e':=congrArg (fun z:Str=>z.cps.toList[an]?) e;simp only[ZaL,c1,c2] at e';have la:(bs.take an).length=an:=by simp;omega
   have g:∀ (c:Nat) (R:List Nat),((bs.take an++(⟨#[c]⟩:Str).cps.toList)++R)[an]?=some c:=fun c R=>by
    rw[List.append_assoc,YaX (by rw[la];exact Yak _),la,Nat.sub_self];rfl
   simp only[Ydg] at e';rw[g,g] at e';have:=Y (k:Int);have:=Y (j:Int);have e3:97+((q+(k:Int)) % 26).toNat=97+((q+(j:Int)) % 26).toNat:=by simpa using e'
   omega
  ·intro C hm h k hk;rw[show (up g C).f "_law_name"=Zcb 2 6 (dB ZdC C Zci) by kernel_rfl]
   walk_at "un"
   rw[af];generalize C.f "_law_mix"=U at hm;have m1:∀ h,U [.tl (ns.map W.int),.int 1] h=.ok (.int q) h:=fun h=>by rw[<-ah];exact hm ns 1 h (by decide) (by decide) hl
   refine go U _ m1 (fun s h=>?_) (fun s=>Yb0 B none (some (an:Int))++⟨#[97+((q+s) % 26).toNat]⟩++Yb0 B (some ((an:Int)+1)) (some J)) _ (fun s h _ _=>?_) k h hk
   ·rw[ai,YbS];refine ZbE (fun k:Nat=>W.int (0+k)) _ (YbM 8) (s:=none) ?_ ?_ ?_
    ·simp![ZiC,ZhL]
    ·rw[Yby,Ybj];omega
    ·intro k hk ae;refine ⟨_,rfl,⟨h++[.lst ae],Zfn ?_⟩,rfl⟩;have ap:k<8:=Ydn.mp hk;have e1:=hm ns (2+(k:Int)) (h++[.lst ae]) (by omega) (by omega) hl;have e2:=al (i:=ZbJ ns (2+(k:Int)) / 7 % 26) (by omega) (by omega);simp![e1,e2,aa]
   ·have k1:(Yb0 B none (some (an:Int))).length+(⟨#[97+((q+s) % 26).toNat]⟩:Str).length<=16777216:=by rw[sl];omega
    have k2:(Yb0 B none (some (an:Int))++⟨#[97+((q+s) % 26).toNat]⟩).length+(Yb0 B (some ((an:Int)+1)) (some J)).length<=16777216:=by rw[Zoj,sl];omega
    have ac:B.length<=16777216:=by omega
    simp![m1,hq,s0,ha,k1,k2,ac]
 ·refine ⟨fun k=>⟨#[97+((q+(k:Int)) % 26).toNat]⟩++Yb0 B none (some (((k:Int)+J) % 8)),fun k hk=>?_,fun k j hk am au e=>?_,?_⟩
  all_goals
   have f0:∀ s:Int,0<=(s+J) % 8/\(s+J) % 8<=B.length:=fun s=>⟨Yb2 _ (by decide),by have:=YbC (s+J) (show (0:Int)<8 by decide);omega⟩
  ·have c1:=Zgw (f0 k);rw[ag] at c1;refine ZgP ?_ ?_ ?_
   all_goals rw[ZaL,c1]
   ·simp
   ·have:=(f0 k).2;simp;omega
   ·intro c I;simp only[YbX] at I;rcases I with I|I
    ·have I:c=97+((q+(k:Int)) % 26).toNat:=by simpa using I
     have:=Y k;omega
    ·exact hb c (Ydw I)
  ·have e':=congrArg (fun z:Str=>z.cps.toList[0]?) e;simp only[ZaL] at e';have:=Y (k:Int);have:=Y (j:Int);have e3:97+((q+(k:Int)) % 26).toNat=97+((q+(j:Int)) % 26).toNat:=by simpa using e'
   omega
  ·intro C hm h k hk;rw[show (up g C).f "_law_name"=Zcb 2 6 (dB ZdC C Zci) by kernel_rfl]
   walk_at "un"
   rw[af];generalize C.f "_law_mix"=U at hm;have m1:∀ h,U [.tl (ns.map W.int),.int 1] h=.ok (.int q) h:=fun h=>by rw[<-ah];exact hm ns 1 h (by decide) (by decide) hl
   refine go U _ m1 (fun s h=>?_) (fun s=>⟨#[97+((q+s) % 26).toNat]⟩++Yb0 B none (some ((s+J) % 8))) _ (fun s h _ _=>?_) k h hk
   ·rw[ai,YbS];refine ZbE (fun k:Nat=>W.int (0+k)) _ (YbM 8) (s:=none) ?_ ?_ ?_
    ·simp![ZiC,ZhL]
    ·rw[Yby,Ybj];omega
    ·intro k hk ae;refine ⟨_,rfl,⟨h++[.lst ae],Zfn ?_⟩,rfl⟩;have ap:k<8:=Ydn.mp hk;have e1:=hm ns (2+(k:Int)) (h++[.lst ae]) (by omega) (by omega) hl;have e2:=al (i:=ZbJ ns (2+(k:Int)) / 7 % 26) (by omega) (by omega);simp![e1,e2,aa]
   ·have l1:=Txt.slice_le B none (some ((s+J) % 8));have k1:(⟨#[97+((q+s) % 26).toNat]⟩:Str).length+(Yb0 B none (some ((s+J) % 8))).length<=16777216:=by rw[sl];omega
    have ac:B.length<=16777216:=by omega
    simp![m1,hq,k1,ac]
noncomputable def lim:Nat:=1114112
noncomputable def N0:Str:=⟨#[1114112]⟩
noncomputable def N1:Str:=⟨#[1114113]⟩
noncomputable def N20:Str:=⟨#[1114132]⟩
def ZgH (x:Str):Bool:=eqN x N0 || (eqN x N1 || eqN x N20)
def Zqi (x:Str):Bool:=!Ze6 x && x.cps.toList.all fun k=>Ya7 k lim
noncomputable def ZuP:Nat:=1000000000000000000000000000000
noncomputable def big:Int:=1000000000000000000000000000000
structure Wy where
 e:Option Int
 f:Option Int
 i:Option Int
 j:Option Int
def mdW (w:Wy)(j m:Int):Option Int:=bif eqI j (big+30) then (bif eqI m 4 then w.e else none) else bif eqI j (big+31) then (bif eqI m 2 then w.f else none) else bif eqI j (big+32) then (bif eqI m 8 then w.i else none) else bif eqI j (big+33) then (bif eqI m 7 then w.j else none) else none
def smI:Int->Bool
 | .ofNat n=>Ya7 n ZuP
 | .negSucc n=>Ya7 n ZuP
def gd (w:Wy):Gd where
 s:=fun x=>x.cps.toList.all fun k=>Ya7 k lim
 i:=smI
 ne:=fun x y=>(ZgH x && ZgH y && !eqN x y) || ((ZgH x && Zqi y) || (Zqi x && ZgH y))
 md:=mdW w
noncomputable def w0:Wy:=⟨none,none,none,none⟩
noncomputable def Zii:Fy:=fun ws s=>match ws with
 | [.str x]=>bif ZgH x then .ok (.bl true) s else .no
 | _=>.no
def Zow:Fy:=fun ws s=>match ws with
 | [.ti c _ _,.int k]=>bif eqN c "$" && (decide (0<=k) && decide (k<=1000)) then .ok (.int (big+k)) s else .no
 | _=>.no
def Zxk:Fy:=fun ws s=>match ws with
 | [.ti c _ _,.int k]=>bif eqN c "$" then (bif eqI k 0 then .ok (.str N0) s else bif eqI k 1 then .ok (.str N1) s else bif eqI k 20 then .ok (.str N20) s else .no) else .no
 | _=>.no
def sy:List Str:=[N0,N1,N20]
noncomputable def fzs:List Str:=["begun","make","start","hand","send","give_up","narrow","hear","_law_hear","_law_filled","_law_good","_law_state","_law_parts","_law_field"]
def fz (x:Str):Bool:=fzs.any fun y=>eqN x y
def ov1 (x:Str):Option Fy:=bif eqN x "is_name" then some Zii else none
def C1:Cy:=Zk6 (gd w0) ov1 sy fz g 11
noncomputable def own:List Str:=["_law_kernel","_law_strange","_law_slot"]
def ov2 (x:Str):Option Fy:=bif eqN x "_law_mix" then some Zow else bif eqN x "_law_name" then some Zxk else bif own.any (fun y=>eqN x y) then none else some (C1.f x)
def C2 (w:Wy):Cy:=Zk6 (gd w) ov2 sy fz g 5
noncomputable def env (F:List Int):Sg:=[some (.ti "$" [] []),some (.tl [.str N0,.str N1]),some (.tl (F.map W.int)),none,none,none,none,none,none]
noncomputable def isT (o:OY):Bool:=OY.rec (motive:=fun _=>Bool) (fun _ _=>false) (fun w _=>wB w false id) (fun _ _=>false) (fun _ _=>false) (fun _ _=>false) false o
def stp (w:Wy)(a:S)(o:OY):OY:=OY.rec (motive:=fun _=>OY) (eG (gd w) ZdC (C2 w) a).s .rt .bk .ct .ex .no o
def gos (l:List (Wy×S)):OY->OY:=YcO (motive:=fun _=>OY->OY) (fun o=>o) (fun p _ z o=>z (stp p.1 p.2 o)) l
def sts (w:Wy):List (Wy×S):=[(⟨w.e,w.f,none,none⟩,q_0),(w0,q_1),(w0,q_2),(w0,q_3),(w0,q_4),(w0,q_5),(⟨none,none,w.i,none⟩,q_6),(⟨none,none,none,w.j⟩,q_7),(w0,q_8),(w0,q_9),(w0,ZxY),(w0,ZxW),(w0,ZxF)]
def rn (F:List Int)(w:Wy):Bool:=isT (gos (sts w) (.nx (env F) SY.e))
def c4 (F:List Int)(e f:Int):Bool:=rn F ⟨some e,some f,none,none⟩ || (([0,1,2,3,4,5,6]:List Int).all fun j=>rn F ⟨some e,some f,none,some j⟩) || (([0,1,2,3,4,5,6,7]:List Int).all fun i=>rn F ⟨some e,some f,some i,none⟩ || ([0,1,2,3,4,5,6]:List Int).all fun j=>rn F ⟨some e,some f,some i,some j⟩)
def c0 (F:List Int):Bool:=rn F w0 || (([0,1,2,3,4,5,6]:List Int).all fun j=>rn F ⟨none,none,none,some j⟩) || (([0,1,2,3,4,5,6,7]:List Int).all fun i=>rn F ⟨none,none,some i,none⟩ || ([0,1,2,3,4,5,6]:List Int).all fun j=>rn F ⟨none,none,some i,some j⟩)
local macro_rules | `(tactic| walk_at "un")=>`(tactic| dsimp only[Zhd,dB,dS,dE,dA,dT,dI,dO,dP,dQ,opB,opC,opU,cbO,ctO,s1O,s2O,gTs])
def vv (ns:List Int)(nm:Nat->Str)(x:Str):Str:=if x=scr then ⟨(ns.map toI).toArray⟩ else if x=N0 then nm 0 else if x=N1 then nm 1 else if x=N20 then nm 20 else x
def nn (ns:List Int)(j:Int):Int:=if j<big then j else ZbJ ns (j - big)
structure Co (ns:List Int)(w:Wy):Prop where
 e:∀ r,w.e=some r->ZbJ ns 30 % 4=r
 f:∀ r,w.f=some r->ZbJ ns 31 % 2=r
 i:∀ r,w.i=some r->ZbJ ns 32 % 8=r
 j:∀ r,w.j=some r->ZbJ ns 33 % 7=r
structure Nm (nm:Nat->Str):Prop where
 ok:∀ k,k<=20->Ze6 (nm k)=true
 ne:∀ k j,k<=20->j<=20->k≠j->¬nm k=nm j
section
variable {ns:List Int} {nm:Nat->Str}
def vv0:vv ns nm N0=nm 0:=by unfold vv;rw[if_neg (by decide +kernel),if_pos rfl]
def vv1:vv ns nm N1=nm 1:=by unfold vv;rw[if_neg (by decide +kernel),if_neg (by decide +kernel),if_pos rfl]
noncomputable def Zxi:vv ns nm N20=nm 20:=by unfold vv;rw[if_neg (by decide +kernel),if_neg (by decide +kernel),if_neg (by decide +kernel),if_pos rfl]
def ZxD {x:Str}(h:(x.cps.toList.all fun k=>Ya7 k lim)=true):vv ns nm x=x:=by
 unfold vv;rw[if_neg (by rintro rfl;revert h;decide +kernel),if_neg (by rintro rfl;revert h;decide +kernel),if_neg (by rintro rfl;revert h;decide +kernel),if_neg (by rintro rfl;revert h;decide +kernel)]
def ZyD {j:Int}(h:smI j=true):nn ns j=j:=by
 unfold nn;rw[if_pos];cases j with
 | ofNat m=>have h:m<ZuP:=blt_of.mp h;unfold ZuP at h;show (m:Int)<big;unfold big;omega
 | negSucc m=>show Int.negSucc m<big;unfold big;omega
def Zrz {k:Int}(h:0<=k):nn ns (big+k)=ZbJ ns k:=by
 unfold nn;rw[if_neg (by omega),show big+k - big=k by omega]
def ZoV {x:Str}(h:ZgH x=true):x=N0\/x=N1\/x=N20:=by
 unfold ZgH at h;rw[YaP,YaP,Za0,Za0,Za0,decide_eq_true_eq,decide_eq_true_eq,decide_eq_true_eq] at h;exact h
def ZrO (z:Nm nm){x:Str}(h:ZgH x=true):Ze6 (vv ns nm x)=true:=by
 rcases ZoV h with rfl|rfl|rfl
 ·rw[vv0];exact z.ok 0 (by omega)
 ·rw[vv1];exact z.ok 1 (by omega)
 ·rw[Zxi];exact z.ok 20 (by omega)
def Zq0 (z:Nm nm){x y:Str}(h:ZgH x=true)(h2:Zqi y=true):vv ns nm x≠vv ns nm y:=by
 unfold Zqi at h2;rw[Yaa] at h2;rw[ZxD h2.2];intro e;have:=ZrO (ns:=ns) z h;rw[e] at this;rw[this] at h2;exact absurd h2.1 (by decide)
def Zv9 {w:Wy}(I:Co ns w){j m r:Int}(e:mdW w j m=some r):nn ns j % m=r:=by
 unfold mdW at e;simp only[Zg4] at e;by_cases z:j=big+30
 ·subst z;simp only[decide_true,cond_true] at e;rw[Zrz (by decide)];by_cases h1:m=4
  ·subst h1;simp only[decide_true,cond_true] at e;exact I.e r e
  ·simp only[decide_eq_false h1,cond_false] at e;cases e
 simp only[decide_eq_false z,cond_false] at e;by_cases z:j=big+31
 ·subst z;simp only[decide_true,cond_true] at e;rw[Zrz (by decide)];by_cases h1:m=2
  ·subst h1;simp only[decide_true,cond_true] at e;exact I.f r e
  ·simp only[decide_eq_false h1,cond_false] at e;cases e
 simp only[decide_eq_false z,cond_false] at e;by_cases z:j=big+32
 ·subst z;simp only[decide_true,cond_true] at e;rw[Zrz (by decide)];by_cases h1:m=8
  ·subst h1;simp only[decide_true,cond_true] at e;exact I.i r e
  ·simp only[decide_eq_false h1,cond_false] at e;cases e
 simp only[decide_eq_false z,cond_false] at e;by_cases z:j=big+33
 ·subst z;simp only[decide_true,cond_true] at e;rw[Zrz (by decide)];by_cases h1:m=7
  ·subst h1;simp only[decide_true,cond_true] at e;exact I.j r e
  ·simp only[decide_eq_false h1,cond_false] at e;cases e
 simp only[decide_eq_false z,cond_false] at e;cases e
theorem vp (z:Nm nm){w:Wy}(I:Co ns w):Vp (vv ns nm) (nn ns) (gd w) where
 s:=fun x h=>ZxD h
 i:=fun j h=>ZyD h
 md:=fun j m r e=>Zv9 I e
 ne:=fun x y h=>by
  have h:((ZgH x && ZgH y && !eqN x y) || ((ZgH x && Zqi y) || (Zqi x && ZgH y)))=true:=h;rw[YaP,YaP,Yaa,Yaa,Yaa,Yaa] at h;rcases h with ⟨⟨a,b⟩,d⟩|⟨a,b⟩|⟨a,b⟩
  ·rcases ZoV a with rfl|rfl|rfl<;>rcases ZoV b with rfl|rfl|rfl<;>first|exact absurd d (by decide +kernel)|skip
   all_goals simp only[vv0,vv1,Zxi]
   ·exact z.ne 0 1 (by omega) (by omega) (by omega)
   ·exact z.ne 0 20 (by omega) (by omega) (by omega)
   ·exact z.ne 1 0 (by omega) (by omega) (by omega)
   ·exact z.ne 1 20 (by omega) (by omega) (by omega)
   ·exact z.ne 20 0 (by omega) (by omega) (by omega)
   ·exact z.ne 20 1 (by omega) (by omega) (by omega)
  ·exact Zq0 z a b
  ·exact fun e=>Zq0 z b a e.symm
def Zw6:scW (vv ns nm)=.tl (ns.map W.int):=by
 unfold scW;rw[show vv ns nm scr=⟨(ns.map toI).toArray⟩ by unfold vv;rw[if_pos rfl]];congr 1;rw[YbS];exact YcV fun i _=>by show W.int (unI (toI i))=_;rw[Zox]
def Zga:Co ns w0:=⟨fun r e=>(by cases e),fun r e=>(by cases e),fun r e=>(by cases e),fun r e=>(by cases e)⟩
def ZrC (z:Nm nm)(k:Nat):SF (vv ns nm) (nn ns) Zii ((lev g (k+1)).f "is_name"):=fun ws s e=>by
 unfold Zii at e ⊢;split at e
 ·rename_i x;cases q:ZgH x with
  | false=>rw[q] at e;exact absurd rfl e
  | true=>
   rw[Zaf,Zai];simp only[vW,vr,cond_true];exact Zux (lev g k) (Zj2 k) _ _ (ZrO z q)
 ·exact absurd rfl e
def Zxv (z:Nm nm)(j:Nat):∀ x F k,ov1 x=some F->SF (vv ns nm) (nn ns) F ((lev g (k+j+1)).f x):=fun x F k e=>by
 unfold ov1 at e;rw[Za0] at e;by_cases h:x="is_name"
 ·subst h;simp only[decide_true,cond_true] at e;cases e;exact ZrC z _
 ·simp only[decide_eq_false h,cond_false] at e;cases e
def ZkU (k:Nat)(ns:List Int)(i:Int)(h:Mem)(I:0<=i)(h1:i<=1000)(z:ns.length<=63):(lev g (k+1)).f "_law_mix" [.tl (ns.map W.int),.int i] h=.ok (.int (ZbJ ns i)) h:=Ztf (lev g k) ns i h I h1 z
def Zok {c:Str}{fs:List Str}{l:List W}(h:eqN c "$"=true):vW (vv ns nm) (nn ns) (.ti c fs l)=.tl (ns.map W.int):=by
 simp only[vW,h,cond_true,Zw6]
def Zg0 {k:Int}(z:0<=k)(h1:k<=1000):vW (vv ns nm) (nn ns) (.int k)=.int k:=by
 simp only[vW];rw[show nn ns k=k by unfold nn;rw[if_pos (by unfold big;omega)]]
def Zxb (z:ns.length<=63)(k:Nat):SF (vv ns nm) (nn ns) Zow ((lev g (k+1)).f "_law_mix"):=fun ws s e=>by
 unfold Zow at e ⊢;split at e
 ·rename_i c fs l i;cases q:eqN c "$" && (decide (0<=i) && decide (i<=1000)) with
  | false=>rw[q] at e;exact absurd rfl e
  | true=>
   rw[Yaa,Yaa,decide_eq_true_eq,decide_eq_true_eq] at q;rw[Zaf,Zaf,Zai,Zok q.1,Zg0 q.2.1 q.2.2,ZkU k ns i _ q.2.1 q.2.2 z];simp only[cond_true,vr,vW,Zrz q.2.1]
 ·exact absurd rfl e
def ZyO (I:∀ C:Cl,(∀ (ns:List Int) (k:Int) (h:Mem),0<=k->k<=1000->ns.length<=63->C.f "_law_mix" [.tl (ns.map W.int),.int k] h=.ok (.int (ZbJ ns k)) h)->∀ h k,k<=20->(up g C).f "_law_name" [.tl (ns.map W.int),.int (k:Nat)] h=.ok (.str (nm k)) h)(k:Nat) :
  SF (vv ns nm) (nn ns) Zxk ((lev g (k+2)).f "_law_name"):=fun ws s e=>by
 have R:=I (lev g (k+1)) (fun ns i h=>ZkU k ns i h);unfold Zxk at e ⊢;split at e
 ·rename_i c fs l i;cases q:eqN c "$" with
  | false=>rw[q] at e;exact absurd rfl e
  | true=>
   simp only[q,cond_true,Zg4] at e ⊢;rw[Zaf,Zaf,Zai,Zok q];by_cases z:i=0
   ·subst z;rw[Zg0 (by decide) (by decide)];simp only[decide_true,cond_true,vr,vW,vv0];exact R _ 0 (by omega)
   simp only[decide_eq_false z,cond_false] at e ⊢;by_cases z:i=1
   ·subst z;rw[Zg0 (by decide) (by decide)];simp only[decide_true,cond_true,vr,vW,vv1];exact R _ 1 (by omega)
   simp only[decide_eq_false z,cond_false] at e ⊢;by_cases z:i=20
   ·subst z;rw[Zg0 (by decide) (by decide)];simp only[decide_true,cond_true,vr,vW,Zxi];exact R _ 20 (by omega)
   simp only[decide_eq_false z,cond_false] at e;exact absurd rfl e
 ·exact absurd rfl e
def ZyQ (z:Nm nm)(k:Nat)(x:Str):SF (vv ns nm) (nn ns) (C1.f x) ((lev g (k+13+1)).f x):=by
 have:=(Znd (v:=vv ns nm) (n:=nn ns) (c:=gd w0) (ov:=ov1) (sy:=sy) (fz:=fz) (g:=g) (vp z Zga) (k+3) (Zxv z (k+3)) 11).f x;rw[show 11+(k+3)=k+13+1 by omega] at this;exact this
def ZvI (J:Nm nm)(z:ns.length<=63)(I:∀ C:Cl,(∀ (ns:List Int) (k:Int) (h:Mem),0<=k->k<=1000->ns.length<=63->C.f "_law_mix" [.tl (ns.map W.int),.int k] h=.ok (.int (ZbJ ns k)) h)->∀ h k,k<=20->(up g C).f "_law_name" [.tl (ns.map W.int),.int (k:Nat)] h=.ok (.str (nm k)) h) :
  ∀ x F k,ov2 x=some F->SF (vv ns nm) (nn ns) F ((lev g (k+13+1)).f x):=fun x F k e=>by
 unfold ov2 at e;rw[Za0,Za0] at e;by_cases h:x="_law_mix"
 ·subst h;simp only[decide_true,cond_true] at e;cases e;exact Zxb z _
 simp only[decide_eq_false h,cond_false] at e;by_cases h:x="_law_name"
 ·subst h;simp only[decide_true,cond_true] at e;cases e;exact ZyO I (k+12)
 simp only[decide_eq_false h,cond_false] at e;cases q:own.any fun y=>eqN x y with
 | true=>rw[q] at e;cases e
 | false=>rw[q] at e;cases e;exact ZyQ J k x
def Zyn (z:Nm nm)(J:ns.length<=63)(U:∀ C:Cl,(∀ (ns:List Int) (k:Int) (h:Mem),0<=k->k<=1000->ns.length<=63->C.f "_law_mix" [.tl (ns.map W.int),.int k] h=.ok (.int (ZbJ ns k)) h)->∀ h k,k<=20->(up g C).f "_law_name" [.tl (ns.map W.int),.int (k:Nat)] h=.ok (.str (nm k)) h){w:Wy}(I:Co ns w) :
  SCl (vv ns nm) (nn ns) (C2 w) (lev g 18):=Znd (vp z I) 13 (ZvI z J U) 5
def Zlv (l:List (Wy×S)):(∀ w s,gos l (.rt w s)=.rt w s)/\(∀ ρ s,gos l (.bk ρ s)=.bk ρ s)/\(∀ ρ s,gos l (.ct ρ s)=.ct ρ s)/\(∀ w s,gos l (.ex w s)=.ex w s)/\gos l .no=.no:=by
 induction l with
 | nil=>exact ⟨fun _ _=>rfl,fun _ _=>rfl,fun _ _=>rfl,fun _ _=>rfl,rfl⟩
 | cons p l z=>exact z
theorem Zui {sv:Str->Str}{sn:Int->Int}{C0:Cl}:∀ (l:List (Wy×S)),(∀ p∈l,SS sv sn (eG (gd p.1) ZdC (C2 p.1) p.2).s (dS ZdC C0 p.2))->∀ ρ s,gos l (.nx ρ s)≠.no->dB ZdC C0 (blk (l.map Yez)) (vR sv sn ρ) (av sv sn s)=vo sv sn (gos l (.nx ρ s))
 | [],_,ρ,s,_=>rfl
 | [p],h,ρ,s,e=>h p YaD ρ s e
 | p::q::l,h,ρ,s,e=>by
  have u:gos (p::q::l) (.nx ρ s)=gos (q::l) ((eG (gd p.1) ZdC (C2 p.1) p.2).s ρ s):=rfl;rw[u] at e ⊢;show Zf2 (dS ZdC C0 p.2) (dB ZdC C0 (blk ((q::l).map Yez))) _ _=_;unfold Zf2;have z:=h p YaD ρ s;obtain ⟨g1,g2,U,J,Y⟩:=Zlv (q::l);cases y:(eG (gd p.1) ZdC (C2 p.1) p.2).s ρ s with
  | nx I s1=>rw[y] at z e;rw[z (by simp)];exact Zui (q::l) (fun r m=>h r (Yau _ m)) I s1 e
  | rt w s1=>rw[y] at z;rw[z (by simp),g1];rfl
  | bk w s1=>rw[y] at z;rw[z (by simp),g2];rfl
  | ct w s1=>rw[y] at z;rw[z (by simp),U];rfl
  | ex w s1=>rw[y] at z;rw[z (by simp),J];rfl
  | no=>rw[y,Y] at e;exact absurd rfl e
def ZqQ {o:OY}(h:isT o=true):∃ s,o=.rt (.bl true) s:=by
 cases o with
 | rt w s=>cases w with
  | bl b=>cases b with
   | true=>exact ⟨s,rfl⟩
   | false=>cases h
  | _=>cases h
 | _=>cases h
def Zy2 {w:Wy}(h:Co ns w):Co ns ⟨w.e,w.f,none,none⟩:=⟨h.e,h.f,fun r e=>(by cases e),fun r e=>(by cases e)⟩
def Zyw {w:Wy}(h:Co ns w):Co ns ⟨none,none,w.i,none⟩:=⟨fun r e=>(by cases e),fun r e=>(by cases e),h.i,fun r e=>(by cases e)⟩
def Zza {w:Wy}(h:Co ns w):Co ns ⟨none,none,none,w.j⟩:=⟨fun r e=>(by cases e),fun r e=>(by cases e),fun r e=>(by cases e),h.j⟩
def Zyy (J:Nm nm)(Y:ns.length<=63)(hr:∀ C:Cl,(∀ (ns:List Int) (k:Int) (h:Mem),0<=k->k<=1000->ns.length<=63->C.f "_law_mix" [.tl (ns.map W.int),.int k] h=.ok (.int (ZbJ ns k)) h)->∀ h k,k<=20->(up g C).f "_law_name" [.tl (ns.map W.int),.int (k:Nat)] h=.ok (.str (nm k)) h){w:Wy}(I:Co ns w)
  {F:List Int} (hF:∀ x∈F,nn ns x=x) (h:rn F w=true):∃ m,dB ZdC (lev g 18) Zj4 [some (.tl (ns.map W.int)),some (.tl [.str (nm 0),.str (nm 1)]),some (.tl (F.map W.int)),none,none,none,none,none,none] []=.rt (.bl true) m:=by
 obtain ⟨s,e⟩:=ZqQ h;have st:∀ {w:Wy},Co ns w->∀ a:S,SS (vv ns nm) (nn ns) (eG (gd w) ZdC (C2 w) a).s (dS ZdC (lev g 18) a):=fun I a=>(sq_ (vp J I) (Zyn J Y hr I) a).s
 have z:=Zui (sv:=vv ns nm) (sn:=nn ns) (C0:=lev g 18) (sts w) (fun p U=>by
  simp only[sts,Yaz,YbG,or_false] at U;rcases U with rfl|rfl|rfl|rfl|rfl|rfl|rfl|rfl|rfl|rfl|rfl|rfl|rfl
  ·exact st (Zy2 I) _
  ·exact st Zga _
  ·exact st Zga _
  ·exact st Zga _
  ·exact st Zga _
  ·exact st Zga _
  ·exact st (Zyw I) _
  ·exact st (Zza I) _
  all_goals exact st Zga _) (env F) SY.e (by rw[e];simp)
 rw[e] at z;refine ⟨av (vv ns nm) (nn ns) s,?_⟩;have r:vR (vv ns nm) (nn ns) (env F)=[some (.tl (ns.map W.int)),some (.tl [.str (nm 0),.str (nm 1)]),some (.tl (F.map W.int)),none,none,none,none,none,none]:=by
  have f:∀ l:List Int,(∀ x∈l,nn ns x=x)->vWs (vv ns nm) (nn ns) (l.map W.int)=l.map W.int:=fun l=>by
   induction l with
   | nil=>intro _;exact Zai
   | cons x l ih=>intro h;rw[Yap,Zaf,ih fun y m=>h y (Yau _ m)];simp only[vW,h x YaD]
  show [some (vW _ _ (.ti "$" [] [])),some (vW _ _ (.tl [.str N0,.str N1])),some (vW _ _ (.tl (F.map W.int))),none,none,none,none,none,none]=_;rw[Zok (by decide +kernel)];have a:∀ l,vW (vv ns nm) (nn ns) (.tl l)=.tl (vWs (vv ns nm) (nn ns) l):=fun l=>by simp only[vW]
  rw[a,a,f F hF,Zaf,Zaf,Zai];simp only[vW,vv0,vv1]
 rw[r,ZyG] at z;exact z
end
noncomputable def LA:List (List Int):=[[0],[1],[2],[3],[0,0],[0,1],[0,2],[0,3],[1,1],[1,2],[1,3],[2,2],[2,3],[3,3],[0,0,0],[0,0,1],[0,0,2],[0,0,3],[0,1,1],[0,1,2],[0,1,3],[0,2,2],[0,2,3],[0,3,3],[1,1,1],[1,1,2],[1,1,3],[1,2,2],[1,2,3],[1,3,3],[2,2,2],[2,2,3],[2,3,3],[3,3,3]]
noncomputable def LB:List (List Int):=[[5],[0,5],[1,5],[2,5],[3,5],[5,5],[0,0,5],[0,1,5],[0,2,5],[0,3,5],[0,5,5],[1,1,5],[1,2,5],[1,3,5],[1,5,5],[2,2,5],[2,3,5],[2,5,5],[3,3,5],[3,5,5],[5,5,5]]
noncomputable def LC:List (List Int):=[[4],[0,4],[1,4],[2,4],[3,4],[4,4],[4,5],[0,0,4],[0,1,4],[0,2,4],[0,3,4],[0,4,4],[0,4,5],[1,1,4],[1,2,4],[1,3,4],[1,4,4],[1,4,5],[2,2,4],[2,3,4],[2,4,4],[2,4,5],[3,3,4],[3,4,4],[3,4,5],[4,4,4],[4,4,5],[4,5,5]]
section
variable {ns:List Int} {nm:Nat->Str}
def mx (k m:Int)(h:0<m):0<=ZbJ ns k % m/\ZbJ ns k % m<m:=⟨Yb2 _ (by omega),YbC _ h⟩
def m7 {x:Int}(h:0<=x/\x<7):x∈([0,1,2,3,4,5,6]:List Int):=by simp only[Yaz,YbG,or_false];omega
def m8 {x:Int}(h:0<=x/\x<8):x∈([0,1,2,3,4,5,6,7]:List Int):=by simp only[Yaz,YbG,or_false];omega
def pk {F:List Int}{e f:Option Int}(I:∀ r,e=some r->ZbJ ns 30 % 4=r)(z:∀ r,f=some r->ZbJ ns 31 % 2=r)(h:(rn F ⟨e,f,none,none⟩ || (([0,1,2,3,4,5,6]:List Int).all fun j=>rn F ⟨e,f,none,some j⟩) || (([0,1,2,3,4,5,6,7]:List Int).all fun i=>rn F ⟨e,f,some i,none⟩ || ([0,1,2,3,4,5,6]:List Int).all fun j=>rn F ⟨e,f,some i,some j⟩))=true):∃ w,Co ns w/\rn F w=true:=by
 have J:∀ {x r:Int},(none:Option Int)=some r->x=r:=fun e=>by cases e
 have so:∀ {x r:Int},some x=some r->x=r:=fun e=>YaT e
 have U:=m7 (mx (ns:=ns) 33 7 (by decide));have i0:=m8 (mx (ns:=ns) 32 8 (by decide));rw[YaP,YaP] at h;rcases h with (h|h)|h
 ·exact ⟨_,⟨I,z,fun r e=>J e,fun r e=>J e⟩,h⟩
 ·exact ⟨_,⟨I,z,fun r e=>J e,fun r e=>so e⟩,Yaf.mp h _ U⟩
 ·have h:=Yaf.mp h _ i0;rw[YaP] at h;rcases h with h|h
  ·exact ⟨_,⟨I,z,fun r e=>so e,fun r e=>J e⟩,h⟩
  ·exact ⟨_,⟨I,z,fun r e=>so e,fun r e=>so e⟩,Yaf.mp h _ U⟩
def Zwk:∀ a∈([0,1,2,3,4,5]:List Int),(isI [a]∈LA++LB++LC)/\∀ b∈([0,1,2,3,4,5]:List Int),(isI [a,b]∈LA++LB++LC)/\∀ c∈([0,1,2,3,4,5]:List Int),isI [a,b,c]∈LA++LB++LC:=by decide +kernel
def m6 {x:Int}(h:0<=x/\x<6):x∈([0,1,2,3,4,5]:List Int):=by simp only[Yaz,YbG,or_false];omega
def fl (ns:List Int)(q:Nat):List Int:=(YbM (1+q)).map fun k:Nat=>ZbJ ns (20+(k:Int)) % 6
def Zvb {q:Nat}(h:q<3):isI (fl ns q)∈LA++LB++LC:=by
 have a:=m6 (mx (ns:=ns) 20 6 (by decide));have b:=m6 (mx (ns:=ns) 21 6 (by decide));have c:=m6 (mx (ns:=ns) 22 6 (by decide))
 match q,h with
 | 0,_=>exact (Zwk _ a).1
 | 1,_=>exact ((Zwk _ a).2 _ b).1
 | 2,_=>exact ((Zwk _ a).2 _ b).2 _ c
def Zvc {q:Nat}:∀ x∈isI (fl ns q),nn ns x=x:=fun x h=>by
 rw[Zkj] at h;have h:=(Zbo _).mem_iff.mp h;obtain ⟨k,_,rfl⟩:=YbF.mp h;have:=mx (ns:=ns) (20+(k:Int)) 6 (by decide);unfold nn;rw[if_pos (by unfold big;omega)]
def run (hA:∀ F∈LA++LB,∀ e∈([0,1,2,3]:List Int),∀ f∈([0,1]:List Int),c4 F e f=true)(hC:∀ F∈LC,c0 F=true):∀ ns:List Int,ns.length<=63->∃ m,ZhM 9 (dB ZdC (lev g 18) Zhd) [.tl (ns.map W.int)] []=.ok (.bl true) m:=by
 intro ns U;obtain ⟨nm,n1,n2,hr⟩:=ZwH ns U;have hn:Nm nm:=⟨n1,n2⟩;have N:∀ (k:Nat) h,k<=20->(lev g 18).f "_law_name" [.tl (ns.map W.int),.int (k:Nat)] h=.ok (.str (nm k)) h:=fun k h hk=>hr (lev g 17) (fun ns i h=>ZkU 16 ns i h) h k hk
 have a0:∀ h,(lev g 18).f "_law_name" [.tl (ns.map W.int),.int 0] h=.ok (.str (nm 0)) h:=fun h=>N 0 h (by omega)
 have a1:∀ h,(lev g 18).f "_law_name" [.tl (ns.map W.int),.int 1] h=.ok (.str (nm 1)) h:=fun h=>N 1 h (by omega)
 have M_:∀ i h,0<=i->i<=1000->(lev g 18).f "_law_mix" [.tl (ns.map W.int),.int i] h=.ok (.int (ZbJ ns i)) h:=fun i h h0 h1=>ZkU 17 ns i h h0 h1 U
 have mq:=mx (ns:=ns) 10 3 (by decide);obtain ⟨q,hq⟩:∃ q:Nat,ZbJ ns 10 % 3=(q:Int):=Yeb mq.1;have q3:q<3:=by rw[hq] at mq;omega
 have J:∃ m,dB ZdC (lev g 18) Zj4 [some (.tl (ns.map W.int)),some (.tl [.str (nm 0),.str (nm 1)]),some (.tl ((isI (fl ns q)).map W.int)),none,none,none,none,none,none] []=.rt (.bl true) m:=by
  have i0:=Zvb (ns:=ns) q3;have w:∃ w,Co ns w/\rn (isI (fl ns q)) w=true:=by
   rcases YbX.mp i0 with i0|i0
   ·exact pk (fun r e=>YaT e) (fun r e=>YaT e) (hA _ i0 _ (by have:=mx (ns:=ns) 30 4 (by decide);simp only[Yaz,YbG,or_false];omega) _ (by have:=mx (ns:=ns) 31 2 (by decide);simp only[Yaz,YbG,or_false];omega))
   ·exact pk (fun r e=>by cases e) (fun r e=>by cases e) (hC _ i0)
  obtain ⟨w,hw,h⟩:=w;exact Zyy hn U hr hw Zvc h
 obtain ⟨m,J⟩:=J;refine ⟨m,?_⟩;have ec:∀ ρ,ρ=[some (.tl (ns.map W.int)),some (.tl [.str (nm 0),.str (nm 1)]),none,none,none,none,none,none,none]->Za9 (ZhL (ZbS ZfK (xC (.int 1)) (ZbS Zig (ZaJ ((lev g 18).f "_law_mix") (Zbv (Zf9 0) (Zbv (xC (.int 10)) Zfe))) (xC (.int 3))))) 1 [0] (gN 0) (xC (.bl true)) (pu (ZbS Zig (ZaJ ((lev g 18).f "_law_mix") (Zbv (Zf9 1) (Zbv (ZbS ZfK (xC (.int 20)) (Zf9 0)) Zfe))) (xC (.int 6)))) ρ []=.ok (.tl ((fl ns q).map W.int)) []:=by
  rintro ρ rfl;unfold fl;rw[YbS];refine ZbE (fun k:Nat=>W.int (0+k)) _ (YbM (1+q)) (s:=none) ?_ ?_ ?_
  ·have I:=M_ 10 [] (by decide) (by decide);have e2:(-(4611686018427387904:Int))<=1+(q:Int)/\1+(q:Int)<4611686018427387904:=by omega
   have e3:(1+(q:Int)).toNat=1+q:=by omega
   simp![I,hq,e2,e3,ZiC,ZhL]
  ·rw[Yby,Ybj];omega
  ·intro k hk z;refine ⟨_,rfl,⟨[]++[.lst z],Zfn ?_⟩,rfl⟩;have aa:k<1+q:=Ydn.mp hk;have I:=M_ (20+(k:Int)) ([]++[.lst z]) (by omega) (by omega);simp only[YdJ] at I;simp![I]
 show Out.res (dB ZdC (lev g 18) Zhd (ZaK 9 [.tl (ns.map W.int)]) [])=_;have:dB ZdC (lev g 18) Zhd (ZaK 9 [.tl (ns.map W.int)]) []=.rt (.bl true) m:=by
  rw[show ZaK 9 [.tl (ns.map W.int)]=[some (.tl (ns.map W.int)),none,none,none,none,none,none,none,none] from rfl]
  walk_at "un"
  refine (Zco (ρ':=[some (.tl (ns.map W.int)),some (.tl [.str (nm 0),.str (nm 1)]),none,none,none,none,none,none,none]) (h':=[]) (by simp![a0,a1])).trans ?_;refine (Zco (ρ':=[some (.tl (ns.map W.int)),some (.tl [.str (nm 0),.str (nm 1)]),some (.tl ((isI (fl ns q)).map W.int)),none,none,none,none,none,none]) (h':=[]) ?_).trans J;have Y:(fl ns q).length<64:=by unfold fl;rw[YaE,Yby];omega
  have e9:=ec _ rfl
  revert e9
  generalize Za9 (ZhL _) _ _ _ _ _=X;intro e9;simp![e9,ZbA,ZcU,ZgB,Y,Zkj,Zbu]
 rw[this];rfl
end
def ZyP:(LA.all fun F=>c4 F 0 0)=true:=by kernel_rfl
def Zyi:(LA.all fun F=>c4 F 0 1)=true:=by kernel_rfl
def Zy8:(LA.all fun F=>c4 F 1 0)=true:=by kernel_rfl
def Zyd:(LA.all fun F=>c4 F 1 1)=true:=by kernel_rfl
def Zy0:(LA.all fun F=>c4 F 2 0)=true:=by kernel_rfl
def ZyU:(LA.all fun F=>c4 F 2 1)=true:=by kernel_rfl
def Zyq:(LA.all fun F=>c4 F 3 0)=true:=by kernel_rfl
def Zym:(LA.all fun F=>c4 F 3 1)=true:=by kernel_rfl
def Zyp:(LB.all fun F=>c4 F 0 0)=true:=by kernel_rfl
def ZyX:(LB.all fun F=>c4 F 0 1)=true:=by kernel_rfl
def Zyl:(LB.all fun F=>c4 F 1 0)=true:=by kernel_rfl
def Zy3:(LB.all fun F=>c4 F 1 1)=true:=by kernel_rfl
def Zy9:(LB.all fun F=>c4 F 2 0)=true:=by kernel_rfl
def ZyH:(LB.all fun F=>c4 F 2 1)=true:=by kernel_rfl
def Zyj:(LB.all fun F=>c4 F 3 0)=true:=by kernel_rfl
def Zzd:(LB.all fun F=>c4 F 3 1)=true:=by kernel_rfl
def kC:(LC.all c0)=true:=by kernel_rfl
def hA:∀ F∈LA++LB,∀ e∈([0,1,2,3]:List Int),∀ f∈([0,1]:List Int),c4 F e f=true:=by
 intro F J e I f z;simp only[Yaz,YbG,or_false] at I z;rcases YbX.mp J with h|h<;>rcases I with rfl|rfl|rfl|rfl<;>rcases z with rfl|rfl
 ·exact Yaf.mp ZyP F h
 ·exact Yaf.mp Zyi F h
 ·exact Yaf.mp Zy8 F h
 ·exact Yaf.mp Zyd F h
 ·exact Yaf.mp Zy0 F h
 ·exact Yaf.mp ZyU F h
 ·exact Yaf.mp Zyq F h
 ·exact Yaf.mp Zym F h
 ·exact Yaf.mp Zyp F h
 ·exact Yaf.mp ZyX F h
 ·exact Yaf.mp Zyl F h
 ·exact Yaf.mp Zy3 F h
 ·exact Yaf.mp Zy9 F h
 ·exact Yaf.mp ZyH F h
 ·exact Yaf.mp Zyj F h
 ·exact Yaf.mp Zzd F h
def hC:∀ F∈LC,c0 F=true:=fun F h=>Yaf.mp kC F h
noncomputable def ad (J al aa Y ah ak U ac ap ao ae I am ay aj ar az ax ag ai af au a2 as aw aq z:Yaq):Ad:=⟨[("NoRights",J),("NoName",al),("NoValue",aa),("NoWords",Y),("NoKind",ah),("NoTask",ak),("NoHandle",U),("NoThing",ac),("NoRow",ap),("Taken",ao),("TooMany",ae),("TooGreat",I),("Empty",am),("Full",ay),("NoDeed",aj),("Lacks",ar)],[("Cell",az),("Door",ax),("Handle",ag),("Kernel",ai),("Letter",af),("Line",au),("Post",a2),("Tasks",as),("Tree",aw),("Thing",aq)],[("PassError",z)]⟩
def g0 {J al aa Y ah ak U ac ap ao ae I am ay aj ar az ax ag ai af au a2 as aw aq z:Yaq}:Zww g (ad J al aa Y ah ak U ac ap ao ae I am ay aj ar az ax ag ai af au a2 as aw aq z)=true:=by kernel_rfl
def bD:M.AllP (fun e=>e.dfl=false->ZaV e.x e.x e.st e.ps) g.D:=by
 refine ⟨fun _=>?_,fun _=>?_,fun _=>?_,fun _=>?_,fun _=>?_,fun _=>?_,fun _=>?_,fun _=>?_,fun _=>?_,fun _=>?_,fun _=>?_,fun _=>?_,fun _=>?_,fun _=>?_,fun _=>?_,fun _=>?_,fun _=>?_,fun _=>?_,fun _=>?_,fun _=>?_,fun _=>?_,fun _=>?_,fun q=>(by cases q),fun _=>?_,fun _=>?_,fun _=>?_,fun q=>(by cases q),fun _=>?_,fun _=>?_,fun _=>?_,fun _=>?_,fun _=>?_,fun _=>?_,fun _=>?_,fun _=>?_,fun _=>?_,fun _=>?_,fun _=>?_,fun _=>?_,fun _=>?_,fun _=>?_,fun _=>?_,fun _=>?_,fun _=>?_,fun _=>?_,fun _=>?_,fun _=>?_,trivial⟩<;>exact fun _ _ _ _ _ _ _ h=>by first | (have e:=len0 h;subst e;rfl) | (obtain ⟨_,e⟩:=Zv4 h;subst e;rfl) | (obtain ⟨_,_,e⟩:=Zq6 h;subst e;rfl) | (obtain ⟨_,_,_,e⟩:=ZvH h;subst e;rfl) | (obtain ⟨_,_,_,_,e⟩:=Zuy h;subst e;rfl) | (obtain ⟨_,_,_,_,_,e⟩:=Zuf h;subst e;rfl) | (obtain ⟨_,_,_,_,_,_,e⟩:=Zw7 h;subst e;rfl)
def bM:M.AllP (fun e=>ZaV e.x e.q e.st e.ps) g.M:=by
 refine ⟨?_,?_,?_,?_,?_,?_,?_,?_,?_,?_,?_,?_,?_,?_,?_,?_,?_,?_,?_,?_,?_,?_,?_,?_,?_,?_,?_,?_,?_,?_,?_,?_,?_,?_,?_,?_,?_,?_,?_,?_,?_,?_,trivial⟩<;>exact fun _ _ _ _ _ _ _ h=>by first | (have e:=len0 h;subst e;rfl) | (obtain ⟨_,e⟩:=Zv4 h;subst e;rfl) | (obtain ⟨_,_,e⟩:=Zq6 h;subst e;rfl) | (obtain ⟨_,_,_,e⟩:=ZvH h;subst e;rfl) | (obtain ⟨_,_,_,_,e⟩:=Zuy h;subst e;rfl) | (obtain ⟨_,_,_,_,_,e⟩:=Zuf h;subst e;rfl) | (obtain ⟨_,_,_,_,_,_,e⟩:=Zw7 h;subst e;rfl)
theorem fin {P:YaN}{w:Ybg}{K:Yab}{mg:Str->Option Yag}{h:YbO}{fa Y ao ae ac ak am aa ah ar aq af U ap az I J a2 ay aj al ai aw a3 as ax ag z:Yaq}(KX:K.In h)(G:h.Ns YaO mg)(ba:mg "law"=some (.ref fa))(bb:noList K=true)(o:M.AllP (fun e=>YbR K YaO e.1=some (some (.ref e.2))) (ad Y ao ae ac ak am aa ah ar aq af U ap az I J a2 ay aj al ai aw a3 as ax ag z).all)
  (a6:ZdI 0 none K mg "hand" (top 72))
  (a8:ZdI 1 (some 63) K mg "send" (top 79))
  (cl:ClX K ag "__init__" "Thing.__init__" (Zac (top 48) 0))
  (bs:BaseOk K z) (a7:InX K J "Lacks.__init__" (Zac (top 18) 0)) (a4:ZuA K J "missing"=true) (a5:InX K I "NoDeed.__init__" (Zac (top 17) 0)) (au:ZuA K I "deed"=true)
  (c:chk g (ad Y ao ae ac ak am aa ah ar aq af U ap az I J a2 ay aj al ai aw a3 as ax ag z) K=true) (db:dfL K g.dl=dfR K g.dl) (mb:mtL K (g.ml (ad Y ao ae ac ak am aa ah ar aq af U ap az I J a2 ay aj al ai aw a3 as ax ag z))=mtR K (g.ml (ad Y ao ae ac ak am aa ah ar aq af U ap az I J a2 ay aj al ai aw a3 as ax ag z))) :
  ∃ fd:Ybc,(∀ (s:Yaj) (u:Yag),YeL s fd ⟨[u],[]⟩ [("_law_script",u)])/\∀ base:YbO,K.In base->base.Ns YaO mg->FnOk P w K mg base CX0 39 fa fd ["_law_script"] (Zdn K):=by
 refine M.fin (g:=g) (k:=18) KX G ba bb o g0 c db mb bD bM (fun e he hd=>?_) (fun p hp=>?_) (fun base p hp=>?_) (eL:=eL) (by kernel_rfl) rfl rfl (run hA hC)
 ·have q:g.D.filter Fe.dfl=[ZjH,Ziq]:=by kernel_rfl
  have m:e∈[ZjH,Ziq]:=q ▸ Ycv.mpr ⟨he,hd⟩;simp only[Yaz,YbG,or_false] at m;rcases m with rfl|rfl
  ·exact ⟨a6,fun _ _ _ _ _ _ _ _ us=>⟨fun hl=>by obtain ⟨_,_,_,_,_,e⟩:=Zuf hl;subst e;exact ⟨_,rfl,rfl⟩,fun hl=>by obtain ⟨_,_,_,_,e⟩:=Zuy (YcH hl);subst e;exact ⟨_,rfl,rfl⟩⟩⟩
  ·exact ⟨a8,fun _ _ _ _ _ _ _ _ us=>⟨fun hl=>by obtain ⟨_,_,_,_,_,_,e⟩:=Zw7 hl;subst e;exact ⟨_,rfl,rfl⟩,fun hl=>by obtain ⟨_,_,_,_,_,e⟩:=Zuf (YcH hl);subst e;exact ⟨_,rfl,rfl⟩⟩⟩
 ·obtain rfl:p=(("Thing":Str),("__init__":Str)):=Ycu.mp hp;exact ⟨ZbK,ag,by kernel_rfl,by rfl,cl⟩
 ·have oP:=ZaA o ("PassError",z) (by simp[ad,Ad.all]);rcases Yaz.mp hp with rfl|hp
  ·obtain ⟨fN,dN,j1,j2,RN⟩:=a7;have oL:=ZaA o ("Lacks",J) (by simp[ad,Ad.all]);have sc:FnScope ["self","missing"] ["self","missing"] (Zaa (Zac (top 18) 0)):=⟨rfl,rfl,rfl,by decide +kernel,rfl,by decide +kernel,by decide +kernel⟩;exact ⟨J,fN,dN,_,by rfl,Ycl KX G oL,(ZdH a4).1.ei,j1,j2,ZmF RN sc fun a9 A outer s H E=>Zef (Zfu (ZmM bs (ZdH a4).1.ei (Ycl KX G oP) rfl (Zbd (Zc2 rfl (Yfh rfl)) (Zbd Zj8 pa_nil)))) (Zfl (ZmC (ZdH a4).1 (Zc2 rfl (Yfh rfl)) (Zc2 rfl (Yfh rfl)))),RN.binds fun _ _ _ _ _ _ _ h=>by obtain ⟨_,_,e⟩:=Zq6 h;subst e;rfl⟩
  ·obtain rfl:=Ycu.mp hp;obtain ⟨fN,dN,j1,j2,RN⟩:=a5;have oL:=ZaA o ("NoDeed",I) (by simp[ad,Ad.all]);have sc:FnScope ["self","deed"] ["self","deed"] (Zaa (Zac (top 17) 0)):=⟨rfl,rfl,rfl,by decide +kernel,rfl,by decide +kernel,by decide +kernel⟩;exact ⟨I,fN,dN,_,by rfl,Ycl KX G oL,(ZdH au).1.ei,j1,j2,ZmF RN sc fun a9 A outer s H E=>Zef (Zfu (ZmM bs (ZdH au).1.ei (Ycl KX G oP) rfl (Zbd (Zc2 rfl (Yfh rfl)) (Zbd Zj8 pa_nil)))) (Zfl (ZmC (ZdH au).1 (Zc2 rfl (Yfh rfl)) (Zc2 rfl (Yfh rfl)))),RN.binds fun _ _ _ _ _ _ _ h=>by obtain ⟨_,_,e⟩:=Zq6 h;subst e;rfl⟩
end J63
end
namespace PySem.W.Fast
def X:=Nat
def tw14916233792240102120:=X
def tw9009533283783326403:=X
def tw13148205849645964997:=X
def tw15433998354203333381:=X
def tw8903300838107462522:=X
def tw6017354736979662862:=X
def tw10657101470677908787:=X
def tw12079644102453077197:=X
def tw13281280590509592804:=X
def tw6997674948369173318:=X
def tw18262438919950202041:=X
def tw13136367581980410366:=X
def tw16500649137824895353:=X
def tw11833880318490333166:=X
def tw913281931940220403:=X
def tw12117674968178171906:=X
def tw11834561029993925966:=X
def tw14471266072029759199:=X
def tw2832255481361431771:=X
def tw17239805994737243512:=X
def tw4747485230354549217:=X
def tw11350413830955850068:=X
def tw15485687739350647543:=X
def tw4007721316744910131:=X
def tw7777008035278843989:=X
def tw13951449554605922333:=X
def tw11961745277883882781:=X
def tw16909067721919369460:=X
def tw2970771354377472735:=X
def tw1061193322690587704:=X
def tw9349604135266004814:=X
def tw8288015644703283294:=X
def tw5529807410904926085:=X
def tw13095538983389347114:=X
def tw970977935364157586:=X
def tw14131600765160222101:=X
def tw6593027077851928594:=X
def tw10890915339237614460:=X
def tw10053908380276172104:=X
def tw15555232644492811339:=X
def tw16478488182968581608:=X
def tw13049311011842222360:=X
def tw824367465674752700:=X
def tw14084433699991454060:=X
def tw10705869966036147417:=X
def tw12158965471014299133:=X
def tw2220385152954272255:=X
def tw15653986280401891620:=X
def tw834599187971389179:=X
def tw17529562578391417228:=X
def tw8939486882255509662:=X
def tw15949448276450803167:=X
def tw9296817568175169123:=X
def tw16239774438089865249:=X
def tw772195561331863612:=X
def tw9764461787713576330:=X
def tw2246563801009718970:=X
def tw16405082857717808680:=X
def tw263581992059136747:=X
def tw5317946820650512797:=X
def tw1089607063412853291:=X
def tw17418930035629521022:=X
def tw13688176797436682772:=X
def tw8029716312625764239:=X
def tw12850424556474199376:=X
def tw13354607151764280847:=X
def tw4501368981764876066:=X
def tw2703400603766093615:=X
def tw13281708720792333799:=X
def tw9600697294256121251:=X
def tw10955883223994292158:=X
def tw5824670986842260195:=X
def tw11198498640754160376:=X
def tw5885367201745072791:=X
def tw14160647772550384896:=X
def tw15509762597639341027:=X
def tw15552933557485196517:=X
def tw12336771621680283847:=X
def tw348259761450904302:=X
def tw5331487997519579039:=X
def tw4736119630942190910:=X
def tw4214426848004940884:=X
def tw16637371461216895736:=X
def tw17467027914649777015:=X
def tw13917504254267338290:=X
def tw2162963072838670246:=X
def tw4134800842423586960:=X
def tw9372787815631426990:=X
def tw14408371725214353797:=X
def tw879613707135813489:=X
def tw4306502433851543025:=X
def tw17812484919819492821:=X
def tw543422425927738782:=X
def tw12897854400822672308:=X
def tw10619110201339604358:=X
def tw3916594523364058875:=X
def tw11082767431739321351:=X
def tw5475272005674095419:=X
def tw11612631626972776474:=X
def tw9520925996705784867:=X
def tw18160176942476146088:=X
def tw1639376851590882436:=X
def tw8603535897319932792:=X
def tw4120814652368066995:=X
def tw8255744293145910698:=X
def tw18337118988978148342:=X
def tw17202631664284921597:=X
def tw12778784549379275344:=X
def tw17466041957866414556:=X
def tw13356711473534896968:=X
def tw16346674161946253839:=X
def tw7881844691575923290:=X
def tw12222466231057883183:=X
def tw12399900258218681279:=X
def tw11723602137360202413:=X
def tw6618777030255725055:=X
def tw16692005726007137442:=X
def tw9208222734793979159:=X
def tw1345310521460503090:=X
def tw6788679230985035467:=X
def tw5321884016076554511:=X
def tw4184552723105643383:=X
def tw13144878983953353724:=X
def tw5123193643749576141:=X
def tw4352444846166884197:=X
def tw15227472700831723815:=X
def tw12478357235149286509:=X
def tw12029337439242605439:=X
def tw14795926932402997269:=X
def tw9062243091151776805:=X
def tw5429158596848694102:=X
def tw17507642417987128394:=X
def tw13073718241354097620:=X
def tw11575994845097188739:=X
def tw8121714944352886053:=X
def tw16527572345508136869:=X
def tw16926087086509831373:=X
def tw15356815084497521299:=X
def tw4229554691488777130:=X
def tw11750451289856074756:=X
def tw8731044031415693555:=X
def tw3034259225920571953:=X
def tw11719814030948569576:=X
def tw4387830097340604289:=X
def tw15100940985049187425:=X
def tw163042639177289494:=X
def tw5846742907373042070:=X
def tw7321346150265454962:=X
def tw3255702161387907369:=X
def tw557825059155937612:=X
def tw2395690681903953925:=X
def tw3961500393185463668:=X
def tw15039576827896974687:=X
def tw3179639118423851803:=X
def tw17852900367433310889:=X
def tw17326140237861381608:=X
def tw11491429090821252076:=X
def tw3974005565769438385:=X
def tw7995354985992032646:=X
def tw16765153697871511548:=X
def tw1661935366102802602:=X
def tw17171009788536078581:=X
def tw15667367163817397:=X
def tw9958296825880226747:=X
def tw14470828407669756662:=X
def tw17243013483079389106:=X
def tw14662704225007616338:=X
def tw10657492990260741019:=X
def tw17147958380229287571:=X
def tw4570273195759682750:=X
def tw4984948221092418939:=X
def tw3818749963181400467:=X
def tw12682118077140697080:=X
def tw12674699499819826811:=X
def tw5262351743598092945:=X
def tw18058833790209736413:=X
def tw14086365668966904971:=X
def tw8412473544754573180:=X
def tw14449898520453918217:=X
def tw13934388084161752864:=X
def tw4848094932151450186:=X
def tw2727874098691205850:=X
def tw17458829572527949032:=X
def tw7679026877415962657:=X
def tw10910939993930138977:=X
def tw5341121285323534799:=X
def tw12735559399874146935:=X
def tw7199220371604034240:=X
def tw13359501051238519417:=X
def tw811618612322436780:=X
def tw4791389714460067046:=X
def tw1061720580466736378:=X
def tw11867376976703551907:=X
def tw8972964290729981276:=X
def tw15361460780944343531:=X
def tw11322451916871596319:=X
def tw724768771023449036:=X
def tw12579238445557683641:=X
def tw17394241619211143737:=X
def tw2637859421590545044:=X
def tw1484276730894576151:=X
def tw6494405990984962491:=X
def tw15709085557889702542:=X
def tw18296044270323692545:=X
def tw17279338719776194747:=X
def tw17008350971758906604:=X
def tw5329898587801191204:=X
def tw8773038958229416611:=X
def tw15041999576660440582:=X
def tw1005660344224063536:=X
def tw17281370825363611298:=X
def tw16062142891377481780:=X
def tw13201962674389560897:=X
def tw12460593135087425584:=X
def tw3697054900817141070:=X
def tw2460111421008158652:=X
def tw10176089269019265460:=X
def tw9201690367157682404:=X
def tw12795800238575751233:=X
def tw3282410798052903997:=X
def tw13169258237344221103:=X
def tw4751790734761122794:=X
def tw4856537200460626518:=X
def tw8861391404005944495:=X
def tw13003777923609500928:=X
def tw17807899645546979457:=X
def tw7758653214429313051:=X
def tw17788665847000896106:=X
def tw13800438538261723481:=X
def tw13355537190414899983:=X
def tw2792363787024974514:=X
def tw12221019623757656527:=X
def tw789186709624175637:=X
def tw7633220201348845657:=X
def tw4136524586233805880:=X
def tw1885040880971023814:=X
def tw1000916698261270973:=X
def tw9756504351172073021:=X
def tw9801000656912041306:=X
def tw6646271357540624702:=X
def tw12286376359597997022:=X
def tw7830800329190575549:=X
def tw12871594013956391815:=X
def tw2112825202001056749:=X
def tw6891010271422899915:=X
def tw12831187445657239516:=X
def tw18196298500299789740:=X
def tw16996952918985569081:=X
def tw411277529803990388:=X
def tw6588407108950135115:=X
def tw2288085476307553105:=X
def tw7735647304649776629:=X
def tw6161196639053955578:=X
def tw17751727165843281329:=X
def tw1515968552244415956:=X
def tw2596161961826682531:=X
def tw17090934154152349341:=X
def tw4090339323784355574:=X
def tw16206729204013077650:=X
def tw13694904006687738548:=X
def tw5704645671378428103:=X
def tw14722743306944884020:=X
def tw8611752372849525512:=X
def tw11126931532959676027:=X
def tw1941827251903698001:=X
def tw3461835313146201363:=X
def tw13338819256423833814:=X
def tw11489399923499245286:=X
def tw6329655012017979932:=X
def tw7126666326273046706:=X
def tw16235527229078278477:=X
def tw8976177976206035340:=X
def tw1517070758008747750:=X
def tw6710804103281170829:=X
def tw17882027320866983158:=X
def tw10070231243169343054:=X
def tw4990772134550252921:=X
def tw15106411292284131599:=X
def tw11795243660690666525:=X
def tw10750345879679911953:=X
def tw9370955647309714024:=X
def tw339655788894813869:=X
def tw1907513250581145250:=X
def tw4815930793012905202:=X
def tw11429647016023069373:=X
def tw12811747210640082201:=X
def tw15763517644176903470:=X
def tw10275970586751296237:=X
def tw544914167562932421:=X
def tw14971041646580984424:=X
def tw10904846514462440181:=X
def tw11018690358688614990:=X
def tw3616162359727204666:=X
def tw2865674255528829802:=X
def tw5247072350905230841:=X
def tw13589851406905621351:=X
def tw7672222439355724931:=X
def tw13700512532365863860:=X
def tw11999789724864331086:=X
def tw9517853220979371179:=X
def tw18362427671478848339:=X
def tw15922757490471252965:=X
def tw1359982031152385299:=X
def tw1185248800508864197:=X
def tw11169770546686833959:=X
def tw8216133918438174353:=X
def tw6287121832471725466:=X
def tw5868521500726357025:=X
def tw1308230764504865473:=X
def tw15787032765858431541:=X
def tw16040742592559168835:=X
def tw5292022032578935144:=X
def tw10753059683200795672:=X
def tw3438241256513904400:=X
def tw11824783743233292804:=X
def tw1082072678807114890:=X
def tw11098768197401060796:=X
def tw16491008809492370211:=X
def tw16942807004846967310:=X
def tw1601650380972066785:=X
def tw13114713991733006972:=X
def tw1075268002364210950:=X
def tw637697127456665588:=X
def tw10107125613701913332:=X
def tw15464753052975094912:=X
def tw1397677358187080521:=X
def tw12477673910308751738:=X
def tw15811430592370356945:=X
def tw11869744710847626791:=X
def tw14160141311602115065:=X
def tw10475180130667263029:=X
def tw13436091906675135393:=X
def tw14940715137308395040:=X
def tw7656611162248215585:=X
def tw15316710295671991247:=X
def tw358807351501652100:=X
def tw17202756682146480139:=X
def tw5023117501431040469:=X
def tw556402726790856622:=X
def tw13265320995477607410:=X
def tw17385995478302284486:=X
def tw14323508261241199054:=X
def tw7379820294889844623:=X
def tw4617802094343842895:=X
def tw9275592345128894371:=X
def tw6143924794046434981:=X
def tw15940495529272211539:=X
def tw17146146625617773823:=X
def tw15258473575102239480:=X
def tw5809333476459935832:=X
def tw16582681865277634021:=X
def tw1404033536209309967:=X
def tw8590898438509043040:=X
def tw15584614410359237170:=X
def tw1068382845683335754:=X
def tw12034121028938897459:=X
def tw5411804908044276286:=X
def tw4095401256735956874:=X
def tw17971034270290153669:=X
def tw15569442504879453242:=X
def tw12409535495890843775:=X
def tw11036955116442022540:=X
def tw4851202081990133251:=X
def tw2132109999197412931:=X
def tw13717615314052532723:=X
def tw8526596444671258805:=X
def tw8346539210650381493:=X
def tw10663764809448516579:=X
def tw1338769803145000354:=X
def tw754980733417283485:=X
def tw13753419515470573230:=X
def tw15038387055042878766:=X
def tw14262604984844129538:=X
def tw3936778233769474388:=X
def tw3801474798337615252:=X
def tw6503353445874799749:=X
def tw2828033431552084925:=X
def tw12441661204603259461:=X
def tw12049844629871243954:=X
def tw12489289175775491747:=X
def tw15074303991635593123:=X
def tw7294177964944697216:=X
def tw3409128857927114197:=X
def tw1014586184134904871:=X
def tw6827134342125379886:=X
def tw11683980845639938384:=X
def tw11986760071688314900:=X
def tw16398153757342872016:=X
def tw7743117980088940579:=X
def tw772208926185871764:=X
def tw510157462304893869:=X
def tw9349655016442701577:=X
def tw8596084738934740685:=X
def tw8157370478521867075:=X
def tw5078321705956139958:=X
def tw317287786829602063:=X
def tw2584549455692130827:=X
def tw15379959875531549115:=X
def tw1417142783281254853:=X
def tw12740593211524819434:=X
def tw12721676967963699784:=X
def tw11112070616504158236:=X
def tw10490970966497943855:=X
def tw10374671841193836813:=X
def tw6694672833293726967:=X
def tw6639388932894612536:=X
def tw9681183721457422245:=X
def tw10679989873144139149:=X
def tw10870872225812823709:=X
def tw11056972651309175168:=X
def tw5958225011668973415:=X
def tw1788993819214553899:=X
def tw337909300397125394:=X
def tw11502016295249668326:=X
def tw14345957206144742968:=X
def tw3856133983490551414:=X
def tw10218297035925304701:=X
def tw520667838760856608:=X
def tw10178529351393146749:=X
def tw6354458682295135075:=X
def tw11782581070516519587:=X
def tw15843864451961222914:=X
def tw1489096769171052474:=X
def tw14368261627863910732:=X
def tw12895266154032913257:=X
def tw12524029010143389676:=X
def tw6057724003962025225:=X
def tw13269682945077939904:=X
def tw7312328182385863796:=X
def tw2898140688032506394:=X
def tw10054656602500288154:=X
def tw4769861048988205363:=X
def tw16785319488774622101:=X
def tw13095383331017801476:=X
def tw9595695744414251241:=X
def tw15628333417029277195:=X
def tw12519381907553115353:=X
def tw15298848242108572734:=X
def tw13519198558730380996:=X
def tw12283771160110330550:=X
def tw15479898989365925718:=X
def tw17496835132143546585:=X
def tw9186629908497397324:=X
def tw13756101974231534085:=X
def tw1898125759444891178:=X
def tw8139583709256207361:=X
def tw8602998854960470679:=X
def tw15635546226676792232:=X
def tw2523092625327332499:=X
def tw1524065415711743330:=X
def tw14113605014385408409:=X
def tw17826201565666315962:=X
def tw12802558750962422331:=X
def tw2830689332596605046:=X
def tw10913773704686513240:=X
def tw13067077041044152558:=X
def tw3946759637568927881:=X
def tw2646166017594780883:=X
def tw6959524822645445297:=X
def tw10028239657498230785:=X
def tw8849504934671726587:=X
def tw3516145907498264230:=X
def tw2729309414441794390:=X
def tw1511837988223476888:=X
def tw10063279508164991200:=X
def tw14163709715697102237:=X
def tw9305771692633717483:=X
def tw4470581958212685145:=X
def tw3258480516934573624:=X
def tw17202144333566579523:=X
def tw6585110441350332281:=X
def tw11368767846750276522:=X
def tw8851359841971438357:=X
def tw5627482799257466149:=X
def tw5375038366208791390:=X
def tw4592728300043018411:=X
def tw3829271894089217229:=X
def tw17175875158673751254:=X
def tw13148806858664453465:=X
def tw8355477910545727536:=X
def tw8241812668735361911:=X
def tw16005833783357196787:=X
def tw11408949833985322190:=X
def tw5435577101172636912:=X
def tw3036371002487982792:=X
def tw2363950359907221351:=X
def tw17624574537904127269:=X
def tw17352883701008001376:=X
def tw15181272300962896078:=X
def tw10385427620348875376:=X
def tw2338915180339192580:=X
def tw1971474294023413121:=X
def tw17790194125946663617:=X
def tw15364320636317542658:=X
def tw7465997519435024155:=X
def tw6395817525441365780:=X
def tw6370982929374674713:=X
def tw6032983078633761054:=X
def tw17761669407912588583:=X
def tw15151615097459885422:=X
def tw13792580568482282380:=X
def tw13129542320657057271:=X
def tw12641544563536726640:=X
def tw11548527004176863039:=X
def tw11471042498608137064:=X
def tw10463459247724824942:=X
def tw18036737005271376481:=X
def tw5961762186050859253:=X
def tw5511202131250784198:=X
def tw18266436087644335963:=X
def tw15835399372054613337:=X
def tw12897555177333322400:=X
def tw11869547912387559738:=X
def tw9145806295336538924:=X
def tw17297543816209507318:=X
def tw12671348724273242837:=X
def tw18189695327965635245:=X
def tw1771954166960704380:=X
def tw15869698850016686406:=X
def tw15049123899509662467:=X
def tw898132423983056292:=X
def tw8251874170060189449:=X
def tw772599783235755848:=X
def tw6814315865674814814:=X
def tw1091645534930945982:=X
def tw96615273815647639:=X
def tw8617516608734876271:=X
def tw7292365938570724259:=X
def tw6024286862319329899:=X
def tw5928796631786349259:=X
def tw5764238359836784531:=X
def tw15938304527745822028:=X
def tw15326077518120590876:=X
def tw14015715994805513763:=X
def tw136999109962034782:=X
def tw12977868268952041556:=X
def tw11856823206712169533:=X
def tw11438793180096006506:=X
def tw7426427733386035108:=X
def tw15039763495005206143:=X
def tw13237886309818064912:=X
def tw7074831334044331410:=X
def tw17663050881556783412:=X
def tw13381354179951927642:=X
def tw9343910824664632322:=X
def tw5930394694022881728:=X
def tw8709241066489907663:=X
def tw10340543369110285886:=X
def tw9288078863272939414:=X
def tw15720306242668043030:=X
def tw11675683088560515690:=X
def tw7392305244346419610:=X
def tw15919290510679153443:=X
def tw9753957554104059278:=X
def tw3513229416879398131:=X
def tw6583066127848303554:=X
def tw2675957626166114391:=X
def tw14794912488926039090:=X
def tw10449540478880549307:=X
def tw10210925014038093140:=X
def tw16087452295144430186:=X
def tw7454640903349792294:=X
def tw16831648364414576449:=X
def tw5958945441527138090:=X
def tw3163045282991378046:=X
def tw11339284425967480608:=X
def tw15295652141403781994:=X
def tw3312460260980494841:=X
def tw8616768394506286734:=X
def tw6317658580357663310:=X
def tw5025816965827550074:=X
def tw17331392292541797984:=X
def tw18272496873881606162:=X
def tw15270354019838621353:=X
def tw205976628183608866:=X
def tw15977957417185215686:=X
def tw887431177538307608:=X
def tw6596778401356993516:=X
def tw9789263017058512178:=X
def tw4187315066881801720:=X
def tw7738064778378039909:=X
def tw2624600537706877470:=X
def tw9601689863105115162:=X
def tw8202633543636704549:=X
def tw6772700902853012114:=X
def tw12651339729072199992:=X
def tw5635936672964890410:=X
def tw4839461112270998161:=X
def tw3632723554268196320:=X
def tw17840069799736803721:=X
def tw15207508372161136596:=X
def tw13187575179435322437:=X
def tw10725667658111956798:=X
def tw2585473897028084353:=X
def tw13940057101745685831:=X
def tw11587256433202783770:=X
def tw10393405900038869575:=X
def tw10227701839916538441:=X
def tw12238076346661137245:=X
def tw635863171921454287:=X
def tw15963714265695680332:=X
def tw15267899523404396656:=X
def tw12617806144125504265:=X
def tw9251406251364465864:=X
def tw5222999543004399767:=X
def tw10405869383350541512:=X
def tw8515816666779091180:=X
def tw268821978930103382:=X
def tw687503011582558292:=X
def tw12378904272379993841:=X
def tw6872936254821125227:=X
def tw12851134890430294024:=X
def tw3423305544656495491:=X
def tw2154778343730862997:=X
def tw7938892504699863035:=X
def tw704409958186868436:=X
def tw2531841070152697807:=X
def tw11985447835855456849:=X
def tw17014135606014434033:=X
def tw1312972523723044570:=X
def tw396941054593588357:=X
def tw12090423932922269671:=X
def tw3850101217865768684:=X
def tw17463448308040940526:=X
def tw13903497694501859148:=X
def tw8856926227480925393:=X
def tw11603550610157682878:=X
def tw974763250100445054:=X
def tw500305485965476079:=X
def tw1776897359652712473:=X
def tw7557303858927845373:=X
def tw6414295905723174166:=X
def tw15581796946343630883:=X
def tw12766497725116670853:=X
def tw9645838689880140235:=X
def tw2072081679873999282:=X
def tw2645319039105488025:=X
def tw4806468016227466100:=X
def tw4484297080362311900:=X
def tw10859892296858270441:=X
def tw5905364125078946722:=X
def tw5449167876159789676:=X
def tw15894440172334439214:=X
def tw11692085209274725491:=X
def tw10127863868679772103:=X
def tw8443001392077403482:=X
def tw12470735366863043161:=X
def tw15750015321302764105:=X
def tw8009404257099721997:=X
def tw6617249296948201891:=X
def tw7710767917689307756:=X
def tw4286159314134714596:=X
def tw2671778450310509073:=X
def tw3539594112459348622:=X
def tw6570150850111123155:=X
def tw10353777468712321922:=X
def tw14557548886621623213:=X
def tw6023106064146086712:=X
def tw9870662338214531686:=X
def tw12881674044792723763:=X
def tw17356121092573419008:=X
def tw3100943026963967047:=X
def tw18065535201670487158:=X
def tw3673275718212473490:=X
def tw3602078787952546889:=X
def tw8148088861983459426:=X
def tw11947982962688916138:=X
def tw7503103256214830108:=X
def tw14864146412960563936:=X
def tw13155716718318475501:=X
def tw11345054871245957306:=X
def tw6523465114774822535:=X
def tw3749093425148762419:=X
def tw17447298965202824509:=X
def tw15562549772497354122:=X
def tw9676344570986876270:=X
def tw4950065872498335004:=X
def tw7770513240963782528:=X
def tw4742753421322015747:=X
def tw2565157267187610051:=X
def tw17827168842779114755:=X
def tw1606486475410040965:=X
def tw17091369771716816771:=X
def tw7159629100118974215:=X
def tw5252821743151581941:=X
def tw12774844570629967527:=X
def tw14088411127687927963:=X
def tw10032401391858486310:=X
def tw8593479155384480036:=X
def tw3659964032306104766:=X
def tw15077470485855729608:=X
def tw18015638864294500019:=X
def tw13590580505039338965:=X
def tw975700856221125962:=X
def tw15453751714126877234:=X
def tw453711867014318877:=X
def tw15714690706777553699:=X
def tw14923265481829857903:=X
def tw8247791507652678670:=X
def tw6907289965689620562:=X
def tw6145508375936284860:=X
def tw4862755991285044121:=X
def tw3681823419366216245:=X
def tw10262182494737689420:=X
def tw1362002768268927811:=X
def tw17402924376680135837:=X
def tw15687174033819476045:=X
def tw9048772300021792342:=X
def tw6659263379194585151:=X
def tw6516387165778872974:=X
def tw4115518959184928839:=X
def tw3042693100443255584:=X
def tw3019774432881834181:=X
def tw2881752429342302890:=X
def tw16865132593683755348:=X
def tw13856654432384714944:=X
def tw1277163803743918903:=X
def tw5234751210919157151:=X
def tw3648630040544683299:=X
def tw16302807268323365234:=X
def tw14692257449856035495:=X
def tw14458486922292055175:=X
def tw11041205208544135869:=X
def tw6825390421580109327:=X
def tw5287036952171425204:=X
def tw8022794109051311838:=X
def tw10841537256674437493:=X
def tw8620889590434929415:=X
def tw13911040709701860164:=X
def tw8741307194262810827:=X
def tw2466950997478654392:=X
def tw17674624290367546115:=X
def tw16372938179430963180:=X
def tw1622980390270436013:=X
def tw14115731971643444818:=X
def tw13881956705531191528:=X
def tw9630779435872606754:=X
def tw8430329062314994412:=X
def tw831994715413489318:=X
def tw8262938693369832706:=X
def tw3991904583798308261:=X
def tw3837407769101738500:=X
def tw2690541622362309904:=X
def tw267159927226429307:=X
def tw2574523506080569798:=X
def tw18367033897130419927:=X
def tw10490426697807014298:=X
def tw9671743990597411490:=X
def tw8334111810857731202:=X
def tw7713788567526874502:=X
def tw550464405032883024:=X
def tw5465132456659685437:=X
def tw5203800628480538667:=X
def tw3142055501119995605:=X
def tw17758376277318983957:=X
def tw1733510913316026066:=X
def tw15566501692228803936:=X
def tw13780223868550875570:=X
def tw1354622891719696431:=X
def tw12433656419239602620:=X
def tw1124597386590639070:=X
def tw11059455779610624722:=X
def tw3727358394676211932:=X
def tw2457583718937597456:=X
def tw7084882129280360386:=X
def tw16524603889717494930:=X
def tw16124177016518764697:=X
def tw6555998326931212032:=X
def tw5494180799431410786:=X
def tw4306926408502118810:=X
def tw16959430520739937150:=X
def tw5430346051720220906:=X
def tw4256876917064662086:=X
def tw3772926135711030798:=X
def tw8987380369397211332:=X
def tw11051054828957507218:=X
def tw9339788541690141901:=X
def tw12601255617078246432:=X
def tw13584566360080458415:=X
def tw13404737637396496571:=X
def tw10573669019088783672:=X
def tw2954429924322320858:=X
def tw4223142070002570497:=X
def tw3313876260974368731:=X
def tw11590715800503411164:=X
def tw9553006644074823870:=X
def tw9675546106770847031:=X
def tw9318736786914643564:=X
def tw8236896168742397124:=X
def tw7531197403956234240:=X
def tw7526826418118220015:=X
def tw735668827048135953:=X
def tw6153327911511810163:=X
def tw603925692302490189:=X
def tw5547448575148492538:=X
def tw5081740132738795100:=X
def tw4813229080710355107:=X
def tw3696952130155097282:=X
def tw3167817173379254044:=X
def tw2702797450998587349:=X
def tw18323058421069245047:=X
def tw18208625325718995892:=X
def tw17383617556513354741:=X
def tw17338280858116941086:=X
def tw17031375669451352367:=X
def tw16445376998930208993:=X
def tw16079290461463118188:=X
def tw15855954295133087971:=X
def tw15145180670933713403:=X
def tw14337980144800909447:=X
def tw13922957797312059777:=X
def tw130220073893021896:=X
def tw12877334279602623691:=X
def tw126944096106066853:=X
def tw12591187561635525948:=X
def tw10330517290454735472:=X
def tw10105053614249247508:=X
def tw10053340577064059177:=X
def tw18320153306752398756:=X
def tw16559484040787830586:=X
def tw4872415913145384152:=X
def tw9439997567342055930:=X
def tw9043719090148622221:=X
def tw7973749326813387280:=X
def tw7572226636257398411:=X
def tw756409317422431811:=X
def tw6875436051253130805:=X
def tw6268226009454888777:=X
def tw519884737250186292:=X
def tw4443663016971301301:=X
def tw4022951216607000491:=X
def tw3116798046894408789:=X
def tw2929877432021129425:=X
def tw18145047783983973013:=X
def tw17692082533606953142:=X
def tw17583158163076134494:=X
def tw16722296468033132313:=X
def tw16123141243603841929:=X
def tw16093797799160013874:=X
def tw15064283223136675554:=X
def tw14956805251606691672:=X
def tw147471553418234578:=X
def tw14238599997570375898:=X
def tw14028552817795536802:=X
def tw13663509428388143678:=X
def tw13040203609411647452:=X
def tw12510126561397619971:=X
def tw12115552171360183317:=X
def tw10518284247849696772:=X
def tw10153926394195576348:=X
def tw8339723817991871268:=X
def tw5998517516222254517:=X
def tw5779502966183374806:=X
def tw5046609439543578526:=X
def tw492713440718171250:=X
def tw4816297437248268287:=X
def tw4690967191872980601:=X
def tw4119599836414453137:=X
def tw3768186416724416099:=X
def tw2508642992766180322:=X
def tw2166682430629627597:=X
def tw2027161663027729967:=X
def tw18149567489464507002:=X
def tw17772757805984677854:=X
def tw16684077650596973062:=X
def tw16219464416990722286:=X
def tw15714190179953396745:=X
def tw15367306409698456963:=X
def tw15167597587010645744:=X
def tw14710291059923837481:=X
def tw12644267889095795080:=X
def tw11934238036510491477:=X
def tw11822291041214621039:=X
def tw11787594945651041426:=X
def tw1130557230829118499:=X
def tw11067885530305671134:=X
def tw10325862329641270605:=X
def tw14622423117803715470:=X
def tw15394600498939787411:=X
def tw8976426822030109594:=X
def tw7238221380980659130:=X
def tw6978546002798615893:=X
def tw6541217835440092756:=X
def tw4913996092696911698:=X
def tw4537147871873880887:=X
def tw4410341417676648939:=X
def tw3911838518168318382:=X
def tw3478074484630748223:=X
def tw2851765537158047491:=X
def tw1964445848820014939:=X
def tw18431467086504007078:=X
def tw17301580493403897308:=X
def tw16983263668455797078:=X
def tw16710196181799030511:=X
def tw16352196481273421034:=X
def tw14747250863513142065:=X
def tw11878142621769334219:=X
def tw11753106955455288362:=X
def tw10286368781569246694:=X
def tw8709038059947551793:=X
def tw8687128619520243509:=X
def tw801987334490646262:=X
def tw7865396365399899761:=X
def tw5662589037264125416:=X
def tw5661080048469181290:=X
def tw5480932866718370463:=X
def tw5008493549635726753:=X
def tw4344965207953071248:=X
def tw3376937110329844820:=X
def tw298104863944707547:=X
def tw2027784174419415345:=X
def tw18334296312748716357:=X
def tw17842845635313892304:=X
def tw16663073474342684042:=X
def tw15753978853585337993:=X
def tw15327029132446319909:=X
def tw15079462864192471471:=X
def tw1507292694452103454:=X
def tw15006369332973097761:=X
def tw14986369698358052264:=X
def tw13775228955736775077:=X
def tw11352951472608177048:=X
def tw10974366296730763530:=X
def tw10578205624038247273:=X
def tw10197633773307499380:=X
def tw10161282118115164552:=X
def tw786118780648300933:=X
def tw9945266743102646306:=X
def tw9743890939480567154:=X
def tw9717167953723844901:=X
def tw9642438975519319536:=X
def tw9630302710674241930:=X
def tw9600289191352900961:=X
def tw9576593056715026817:=X
def tw9548513368240929557:=X
def tw9533896286094617527:=X
def tw9386462789992471714:=X
def tw9370162706027767430:=X
def tw9172480720876211533:=X
def tw9075387682703687931:=X
def tw9066982391188065515:=X
def tw9026165156260288800:=X
def tw8965993400115817997:=X
def tw8934080818493149935:=X
def tw8921444368536022861:=X
def tw874891695512042670:=X
def tw8730811442064217837:=X
def tw8635696276617850254:=X
def tw8588631789023882947:=X
def tw856389589659373007:=X
def tw854307392918203153:=X
def tw8512526161761232999:=X
def tw8377996678240519013:=X
def tw8368794638429569557:=X
def tw8252517737529240395:=X
def tw8192897162378234386:=X
def tw8184033883201856427:=X
def tw8144007838176935084:=X
def tw8017577257716970755:=X
def tw7992153548968698788:=X
def tw7985070161782408857:=X
def tw7961788594870597019:=X
def tw7953080471465054244:=X
def tw7925358389905194895:=X
def tw7892581712711038860:=X
def tw7831777637269748427:=X
def tw779921242472844514:=X
def tw7685671638166960083:=X
def tw748985712799080228:=X
def tw7453390886993416929:=X
def tw7298292247767647806:=X
def tw7250916061510957097:=X
def tw723015069451882748:=X
def tw713178482759873154:=X
def tw7024149272273872950:=X
def tw7000385225656526138:=X
def tw6953602040197060619:=X
def tw6942169073070198667:=X
def tw6649687579404720530:=X
def tw6512567352219811435:=X
def tw6495959309556240913:=X
def tw6402285956722716600:=X
def tw6385769715577100320:=X
def tw629713579932745472:=X
def tw6282688243543457095:=X
def tw6220475171993262822:=X
def tw5940617571243634971:=X
def tw5881197003133747018:=X
def tw5848547261002610050:=X
def tw5773627867147534579:=X
def tw5756557046978580454:=X
def tw5658804882896023100:=X
def tw5653818587667672679:=X
def tw5549317164374482720:=X
def tw548172508840080579:=X
def tw5481713155045404471:=X
def tw5386001084875745496:=X
def tw5383023092614751564:=X
def tw5311713043735122281:=X
def tw5154644968899528089:=X
def tw514043453186429839:=X
def tw5105202036917104907:=X
def tw4944479914730703005:=X
def tw4856799167454260181:=X
def tw4767923834623014926:=X
def tw4753214897980403611:=X
def tw4735287862335232301:=X
def tw4734183852405832177:=X
def tw4713681991978286833:=X
def tw4690205930207543379:=X
def tw4630223924723746387:=X
def tw4600531628433217080:=X
def tw4554987473005656413:=X
def tw4422436255647179327:=X
def tw4387458969307006265:=X
def tw4346984591896151955:=X
def tw4263561377644866226:=X
def tw407868544005872171:=X
def tw4008226314864943455:=X
def tw3937116848234677973:=X
def tw3869859823491735777:=X
def tw363981454369209570:=X
def tw3629586035768245718:=X
def tw3598950296645172224:=X
def tw3588548647511149440:=X
def tw3560171552136340870:=X
def tw3549200586077737358:=X
def tw352398227655812436:=X
def tw3467911536218004912:=X
def tw3426174041998841171:=X
def tw3424108343575732499:=X
def tw3376058614213082536:=X
def tw3340221953547821004:=X
def tw3279000235294338009:=X
def tw3275290198926556840:=X
def tw3210130219896489625:=X
def tw3197495934622977057:=X
def tw3177816592286438189:=X
def tw3075687596180454344:=X
def tw3044946007198838551:=X
def tw3013222799239195303:=X
def tw3004852338767878366:=X
def tw2987248408462480687:=X
def tw297315724588245107:=X
def tw2919142055602246949:=X
def tw2884161550725949890:=X
def tw286259142484753710:=X
def tw2787589165913978446:=X
def tw2756539898441641608:=X
def tw2655861138948938494:=X
def tw262868491602363614:=X
def tw2621827593239905125:=X
def tw2484492398727361767:=X
def tw2477963630441089091:=X
def tw2473224285710032503:=X
def tw2470314715469093938:=X
def tw2437126971790981183:=X
def tw2363675155356088130:=X
def tw2304836320627560385:=X
def tw2253549804192223129:=X
def tw2127749667507092719:=X
def tw2122629507440734934:=X
def tw2010995111865157477:=X
def tw2010893582150285309:=X
def tw1920995066119510205:=X
def tw191580396123539173:=X
def tw1910238245665182961:=X
def tw1855912807894777638:=X
def tw1848332336393733531:=X
def tw1846186347880760451:=X
def tw18299764624870901227:=X
def tw18271898781998206583:=X
def tw18197237376493741746:=X
def tw18176443933475342405:=X
def tw18133176568556476403:=X
def tw18054490457038917578:=X
def tw18054400135337739287:=X
def tw18046902390481533274:=X
def tw18005819180712515791:=X
def tw17802653459951518043:=X
def tw17768625656323318863:=X
def tw17722775718357669411:=X
def tw1771156039861212323:=X
def tw17699380702523404155:=X
def tw17566136788272925853:=X
def tw17536909875677147592:=X
def tw17492485357131998565:=X
def tw17448438612423388733:=X
def tw17438472847363828312:=X
def tw17430074814215376408:=X
def tw17401066855560225246:=X
def tw17327864991762841571:=X
def tw17262257557522399540:=X
def tw17239039621147600785:=X
def tw17218536899379486429:=X
def tw17191970904531466567:=X
def tw17177513599933722407:=X
def tw17108535886791459498:=X
def tw17066285975973999002:=X
def tw16972279296583975846:=X
def tw16967087470395706843:=X
def tw16935128619175807406:=X
def tw16855083379483306839:=X
def tw16726893425932084476:=X
def tw16566153274633639680:=X
def tw16535448323354902701:=X
def tw16468926932869233035:=X
def tw16411940427109807881:=X
def tw16405796396334131847:=X
def tw16363182356224239354:=X
def tw16335625756862750264:=X
def tw16322980006845904253:=X
def tw16287215825624254329:=X
def tw16133403574793865673:=X
def tw1611329359863451822:=X
def tw16087298810143177041:=X
def tw16037982793595538790:=X
def tw1602811423283481783:=X
def tw15990516441357559687:=X
def tw1585089086016963487:=X
def tw15821669677206459797:=X
def tw15773659892915897576:=X
def tw15638535625032317895:=X
def tw15630189015055340924:=X
def tw15545753592378597762:=X
def tw15514738678320320687:=X
def tw15442406841213900577:=X
def tw15185652890117221783:=X
def tw15080939066279677105:=X
def tw15066673295953046007:=X
def tw15062153741559604647:=X
def tw15040151322390712045:=X
def tw15039144373803739292:=X
def tw15037439248132429828:=X
def tw14954654513197517795:=X
def tw14919526934743752494:=X
def tw14860286768522245986:=X
def tw14628929882174122527:=X
def tw1459874022784345877:=X
def tw14597421193255322976:=X
def tw14533395204547470309:=X
def tw14482475316172088656:=X
def tw1444247573952688784:=X
def tw14421672529475058319:=X
def tw14340282784650041838:=X
def tw14326665983929757544:=X
def tw14217428368393111833:=X
def tw14070760021809889255:=X
def tw139848705325950146:=X
def tw13949621968612857697:=X
def tw13924929604316891741:=X
def tw13919003642567336272:=X
def tw13904466100343485338:=X
def tw13862476859780679343:=X
def tw138317408220139862:=X
def tw13790802673867187783:=X
def tw13708009014542082926:=X
def tw13697818428275741518:=X
def tw13673772666747885235:=X
def tw1359548496351651360:=X
def tw13594594153751399139:=X
def tw13519861062522557808:=X
def tw13491182614557820924:=X
def tw13443182036864151185:=X
def tw13424101817219155651:=X
def tw13410564828387507711:=X
def tw13382203174024868236:=X
def tw13313981593148577238:=X
def tw13311449273618768622:=X
def tw13267061138227164773:=X
def tw13232658868963924933:=X
def tw13214867066874931079:=X
def tw13058772069258582492:=X
def tw13044684711908049008:=X
def tw13012892571600844181:=X
def tw12868271089145463581:=X
def tw12796590196386197640:=X
def tw12765661441031111338:=X
def tw12638899012774710949:=X
def tw12625522723478764875:=X
def tw12542775325383516700:=X
def tw12485529071495829093:=X
def tw12476993909987792672:=X
def tw12328059978398621975:=X
def tw12326310653297254496:=X
def tw12197678135151582934:=X
def tw12169747593529478573:=X
def tw12116734622705832447:=X
def tw12080985098297417968:=X
def tw12060497110930894477:=X
def tw12008381683494647068:=X
def tw11900960498195614166:=X
def tw11869972115711039421:=X
def tw11854303832605708799:=X
def tw11717654695933835762:=X
def tw11493035731541269449:=X
def tw11440630804558713103:=X
def tw1143780441403306517:=X
def tw11391248140252107997:=X
def tw11383922155607982209:=X
def tw11355856054876449692:=X
def tw11312776353284013536:=X
def tw11291314750367947540:=X
def tw112635664091762845:=X
def tw11227579862229244588:=X
def tw11178490284472540642:=X
def tw11138555999945146426:=X
def tw11136969421933051639:=X
def tw11091970456351211412:=X
def tw11078187655431184293:=X
def tw10906542272082131598:=X
def tw10900088259992259748:=X
def tw10858956420672640999:=X
def tw10779944447271234407:=X
def tw10774056625279998060:=X
def tw10736024548847897231:=X
end PySem.W.Fast
open PySem PySem.W PyProof.Rows
set_option maxRecDepth 100000 in
set_option maxHeartbeats 0 in
theorem PySem.Challenge.cw_passkeep_k63_hearing_refused_holds : PySem.Challenge.rw_passkeep_k63_hearing_refused.Holds := by
 w_on;o_law;k_head;(case hw=>w_witness2)
 k_fill
 refine L2.walk0 (l:=PySem.Challenge.rw_passkeep_k63_hearing_refused) (k:=39) (x:="_law_script") rfl rfl ⟨by decide,by decide⟩ (fun w h Y=>PySem.W.kIn_of Y) ?F
 case F=>
  intro w mg fa h KX G hmg;have hNL:M.noList (L2.KOf KX)=true:=by dsimp only[L2.KOf];kernel_rfl
  refine' J63.fin KX G hmg hNL ?go ?gd_hand ?gd_send ?gc ?gb ?gxLacks ?giLacks ?gxNoDeed ?giNoDeed ?g1 ?g2 ?g3
  (case go=>refine' ⟨?_,?_,?_,?_,?_,?_,?_,?_,?_,?_,?_,?_,?_,?_,?_,?_,?_,?_,?_,?_,?_,?_,?_,?_,?_,?_,?_,trivial⟩<;>(dsimp only;k_is))
  (case gd_hand=>(refine' M.defD_mk ?v KX G ?a ?l ?c ?k ?d ?e;(case a=>k_is);(case l=>k_is);(case c=>k_is);(case k=>k_is);(case d=>k_is);(case e=>rfl);(case v=>first|rfl|exact ⟨_,rfl⟩)))
  (case gd_send=>(refine' M.defD_mk ?v KX G ?a ?l ?c ?k ?d ?e;(case a=>k_is);(case l=>k_is);(case c=>k_is);(case k=>k_is);(case d=>k_is);(case e=>rfl);(case v=>first|rfl|exact ⟨_,rfl⟩)))
  (case gc=>(refine' M.clx ?qx ?qy ?qz ?qw ?ql ?qc ?qk;(case qx=>k_is);(case qy=>k_is);(case qz=>k_is);(case qw=>k_is);(case ql=>k_is);(case qc=>k_is);(case qk=>k_is)))
  (case gb=>(refine' M.basx ?qx ?qy ?qz ?qw;(case qx=>k_is);(case qy=>k_is);(case qz=>k_is);(case qw=>k_is)))
  (case gxLacks=>(refine' M.inx ?qa ?qi ?ql ?qc ?qk;(case qa=>k_is);(case qi=>k_is);(case ql=>k_is);(case qc=>k_is);(case qk=>k_is)))
  (case giLacks=>kernel_rfl)
  (case gxNoDeed=>(refine' M.inx ?qa ?qi ?ql ?qc ?qk;(case qa=>k_is);(case qi=>k_is);(case ql=>k_is);(case qc=>k_is);(case qk=>k_is)))
  (case giNoDeed=>kernel_rfl)
  (case g1=>kernel_rfl)
  (case g2=>kernel_rfl)
  (case g3=>kernel_rfl)
